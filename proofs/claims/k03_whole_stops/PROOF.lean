import PyProof.Rows.All
import Wide.All
import OpenK.AllK
import Wide.FinOn
import Lean
import PyProof.EqAt
import PyProof.EqKinds
import PyProof.TupleCall
import PySem.Challenge.RW_queuehold_k03_whole_stops
section
-- CHANGE: your row's module here, as the last of these rows
set_option Elab.async false
set_option linter.all false
set_option maxRecDepth 100000
/-! THE HAND LAYER, for ints, bools, texts, own classes, LISTS and tuples (index, slices, in, append, pop ..), calls, loops. Paste it whole ahead of your own text; what your proof does not reach may be deleted. -/
namespace L2
open PySem PySem.Spec PyProof.Rows

/-- a key: an int or a str -/
abbrev Key := Sum Int Str
def keyIs : Key → Value → Bool
  | .inl k, v => Value.isInt k v
  | .inr x, v => Value.isStrOf x v
def keyH (w : World) : Key → Int
  | .inl k => hashInt k
  | .inr x => hashStr w x
theorem keyIs_shape : ∀ {k : Key} {v : Value}, keyIs k v = true → (∃ i t, k = Sum.inl i ∧ v = Value.int i t) ∨ (∃ x t, k = Sum.inr x ∧ v = Value.str x t)
  | .inl i, v, h => by
    obtain ⟨t, e⟩ := Value.isInt_shape (k := i) (v := v) h
    exact .inl ⟨i, t, rfl, e⟩
  | .inr x, v, h => by
    obtain ⟨t, e⟩ := Value.isStrOf_shape (x := x) (v := v) h
    exact .inr ⟨x, t, rfl, e⟩
theorem keyIs_int (i : Int) (t : Tok) : keyIs (.inl i) (.int i t) = true := by simp [keyIs, Value.isInt]
theorem keyIs_str (x : Str) (t : Tok) : keyIs (.inr x) (.str x t) = true := by simp [keyIs, Value.isStrOf]
theorem key_ll (a b : Int) : decide ((Sum.inl a : Key) = Sum.inl b) = (a == b) := by
  by_cases e : a = b
  · subst e; simp
  · have h : ¬ (Sum.inl a : Key) = Sum.inl b := fun q => e (Sum.inl.inj q)
    rw [decide_eq_false h]
    exact (beq_eq_false_iff_ne.mpr e).symm
theorem key_rr (a b : Str) : decide ((Sum.inr a : Key) = Sum.inr b) = decide (a = b) := by
  by_cases e : a = b
  · subst e; simp
  · have h : ¬ (Sum.inr a : Key) = Sum.inr b := fun q => e (Sum.inr.inj q)
    rw [decide_eq_false h, decide_eq_false e]
theorem key_lr (a : Int) (b : Str) : decide ((Sum.inl a : Key) = Sum.inr b) = false := decide_eq_false (fun q => nomatch q)
theorem key_rl (a : Str) (b : Int) : decide ((Sum.inr a : Key) = Sum.inl b) = false := decide_eq_false (fun q => nomatch q)

def mixKind (prog : Program) (w : World) : PySem.KeyKind prog w Key where
  is := keyIs
  hash := keyH w
  inj := fun v a b ha hb => by
    rcases keyIs_shape ha with ⟨i, t, rfl, rfl⟩ | ⟨x, t, rfl, rfl⟩
    · rcases keyIs_shape hb with ⟨j, u, rfl, e⟩ | ⟨y, u, rfl, e⟩
      · injection e with e1 _; rw [e1]
      · exact nomatch e
    · rcases keyIs_shape hb with ⟨j, u, rfl, e⟩ | ⟨y, u, rfl, e⟩
      · exact nomatch e
      · injection e with e1 _; rw [e1]
  byValue := fun k v h => by
    rcases keyIs_shape h with ⟨i, t, rfl, rfl⟩ | ⟨x, t, rfl, rfl⟩ <;> rfl
  pyHash := fun hv h => by
    rcases keyIs_shape hv with ⟨i, t, rfl, rfl⟩ | ⟨x, t, rfl, rfl⟩
    · exact wpAny_pyHash_int h
    · exact wpAny_pyHash_str h
  eqBool := fun hu hv h => by
    rcases keyIs_shape hu with ⟨i, t, rfl, rfl⟩ | ⟨x, t, rfl, rfl⟩
    · rcases keyIs_shape hv with ⟨j, u, rfl, rfl⟩ | ⟨y, u, rfl, rfl⟩
      · rw [key_ll] at h; exact wpAny_eqBool_int h
      · rw [key_lr] at h; exact SeqAt.EqAt.int_str i t y u _ _ _ _ h
    · rcases keyIs_shape hv with ⟨j, u, rfl, rfl⟩ | ⟨y, u, rfl, rfl⟩
      · rw [key_rl] at h; exact SeqAt.EqAt.str_int x t j u _ _ _ _ h
      · rw [key_rr] at h; exact wpAny_eqBool_str h
  «strs» := fun k x t v h => by
    rcases keyIs_shape h with ⟨i, u, rfl, e⟩ | ⟨y, u, rfl, e⟩
    · exact nomatch e
    · injection e with e1 _
      subst e1
      cases v <;> rfl

theorem mixKind_int (prog : Program) (w : World) (i : Int) (t : Tok) : (mixKind prog w).is (.inl i) (.int i t) = true := keyIs_int i t
theorem mixKind_str (prog : Program) (w : World) (x : Str) (t : Tok) : (mixKind prog w).is (.inr x) (.str x t) = true := keyIs_str x t
end L2

namespace L2
open PySem PySem.Spec PyProof.Rows

/-- a value, without the heap -/
inductive V where
  | non | bl (b : Bool) | int (i : Int) | str (x : Str) | byt (b : Array UInt8) | flt (b : UInt64) | ref (a : Addr) | ty (n : String)
  deriving DecidableEq

def RelV : V → Value → Prop
  | .non, u => u = Value.none
  | .bl b, u => u = Value.bool b
  | .int i, u => ∃ t, u = Value.int i t
  | .str x, u => ∃ t, u = Value.str x t
  | .byt b, u => ∃ t, u = Value.bytes b t
  | .flt b, u => ∃ t, u = Value.float b t
  | .ref a, u => u = Value.ref a
  | .ty n, u => u = Value.type n

abbrev Vals : List V → List Value → Prop := Paired RelV
theorem Vals.length {xs : List V} {us : List Value} (r : Vals xs us) : xs.length = us.length := Paired.length r
theorem Vals.get : ∀ {xs : List V} {us : List Value} {i : Nat} {x : V}, Vals xs us → xs[i]? = some x → ∃ u, us[i]? = some u ∧ RelV x u
  | _, _, _, _, .nil, e => by simp at e
  | _, _, 0, _, .cons r _, e => by simp at e; subst e; exact ⟨_, rfl, r⟩
  | _, _, i + 1, x, .cons _ t, e => by
    obtain ⟨u, h1, h2⟩ := Vals.get (i := i) (x := x) t (by simpa using e)
    exact ⟨u, by simpa using h1, h2⟩
theorem Vals.append : ∀ {xs ys : List V} {us ws : List Value}, Vals xs us → Vals ys ws → Vals (xs ++ ys) (us ++ ws)
  | _, _, _, _, .nil, s => s
  | _, _, _, _, .cons r t, s => .cons r (Vals.append t s)
theorem Vals.take : ∀ {xs : List V} {us : List Value} (n : Nat), Vals xs us → Vals (xs.take n) (us.take n)
  | _, _, 0, _ => .nil
  | _, _, _ + 1, .nil => .nil
  | _, _, n + 1, .cons r t => .cons r (Vals.take n t)
theorem Vals.drop : ∀ {xs : List V} {us : List Value} (n : Nat), Vals xs us → Vals (xs.drop n) (us.drop n)
  | _, _, 0, r => r
  | _, _, _ + 1, .nil => .nil
  | _, _, n + 1, .cons _ t => Vals.drop n t

def RelO : Option V → Option Value → Prop
  | some v, some u => RelV v u
  | none, none => True
  | _, _ => False
def KV {κ : Type} : List (κ × V) → List (κ × Value) → Prop := Paired fun (p : κ × V) (q : κ × Value) => p.1 = q.1 ∧ RelV p.2 q.2

/-- a key of a dict (00_mix): an int or a text -/
def kV : Key → V
  | .inl i => .int i
  | .inr x => .str x

/-- what stands at a tracked address -/
inductive HO where
  /-- a list -/
  | lst (xs : List V)
  /-- a tuple (never changes) -/
  | tup (xs : List V)
  /-- a dict whose keys are ints and texts; one whose keys are tuples of ints and texts (the empty one is both) -/
  | dK (kvs : List (Key × V)) | dT (kvs : List (List Key × V))
  /-- a set of ints: its members, its size -/
  | set (S : Int → Bool) (n : Nat)
  /-- an instance of the class at C, its dict at dx, its attributes -/
  | ins (C dx : Addr) (fs : List (Str × V))
  /-- the dict of the instance at x -/
  | own (x : Addr)
  /-- the dict of an exception -/
  | xd (fs : List (Str × V))
  /-- a bound method, f of x -/
  | met (f x : Addr)
  /-- a range object lo, lo + 1, .. below hi -/
  | rng (lo hi : Int)
  /-- a thing that is known to the object (the script; a dict while a loop walks it): read, never written while it is so -/
  | frz (o : Obj) (u : HO)
  /-- a code object's table -/
  | tbl (ps : Array Value)
  /-- any other thing, by what is true of its one object (a def of one's own: SetO a S n := HO.ext fun h => ..) -/
  | ext (φ : Heap → Prop)

abbrev Hp := Addr → Option HO
def upd (H : Hp) (a : Addr) (o : HO) : Hp := fun b => if b = a then some o else H b
theorem upd_same {H : Hp} {a : Addr} {o : HO} : upd H a o a = some o := by unfold upd; rw [if_pos rfl]
theorem upd_ne {H : Hp} {a b : Addr} {o : HO} (h : b ≠ a) : upd H a o b = H b := by unfold upd; rw [if_neg h]
theorem upd_upd {H : Hp} {a : Addr} {o u : HO} : upd (upd H a o) a u = upd H a u := by
  funext b; unfold upd; split <;> rfl
/-- two objects of different content stand apart -/
theorem ne_of {H : Hp} {a b : Addr} {o u : HO} (h : H a = some o) (h' : H b = some u) (d : o ≠ u) : a ≠ b := by
  intro e; subst e; rw [h] at h'; exact d (Option.some.inj h')
theorem ne_of_none {H : Hp} {a b : Addr} {o : HO} (h : H a = some o) (h' : H b = none) : a ≠ b := by
  intro e; subst e; rw [h] at h'; cases h'

section
variable (P : Program) (w : World)
def ObjOk (H : Hp) (h : Heap) (a : Addr) : HO → Prop
  | .lst xs => xs.length ≤ sizeLine ∧ ∃ (its : List Value) (n : Nat), Vals xs its ∧ h.get? a = some { cls := .type "list", data := .seq its.toArray n }
  | .tup xs => xs.length ≤ sizeLine ∧ ∃ its : List Value, Vals xs its ∧ IsTup h a its.toArray
  | .dK kvs => kvs.length ≤ sizeLine ∧ (a == sysModules) = false ∧ ∃ vs, KV kvs vs ∧ h.DictOf (mixKind P w) a vs
  | .dT kvs => kvs.length ≤ sizeLine ∧ (a == sysModules) = false ∧ ∃ xs : List (List Key × Addr × Value),
      Paired (fun (p : List Key × V) (q : List Key × Addr × Value) => p.1 = q.1 ∧ H q.2.1 = some (.tup (p.1.map kV)) ∧ RelV p.2 q.2.2) kvs xs ∧
      ∃ o es ep, h.get? a = some o ∧ o.ExactDict ∧ o.data = .dict es ep ∧ es.toList = xs.map (entryOfKey (tupleKind (mixKind P w))) ∧ (xs.map (·.1)).Nodup
  | .set S n => h.SetOf (intKind P w) a S n
  | .ins C dx fs => H dx = some (.own a) ∧ fs.length ≤ 1000 ∧ dx ≠ a ∧ h.get? a = some (PySem.W.instObj C dx) ∧
      ∃ mA, h.Ns1 dx mA ∧ (∀ f, RelO (fs.lookup f) (mA f)) ∧ PySem.Within mA (fs.map (·.1))
  | .own _ => ∃ o, h.get? a = some o
  | .xd fs => ∃ mA, h.Ns1 a mA ∧ ∀ f, RelO (fs.lookup f) (mA f)
  | .rng lo hi => ∃ t u v, h.get? a = some { cls := .type "range", data := .fields #[.int lo t, .int hi u, .int 1 v] }
  | .frz o u => h.get? a = some o ∧ ObjOk H h a u
  | .tbl ps => h.get? a = some { cls := .none, data := .fields ps }
  | .met f x => h.get? a = some (PySem.W.methodObj (.ref f) (.ref x))
  | .ext φ => φ h ∧ (∃ o, h.get? a = some o) ∧ ∀ h1 h2 : Heap, φ h1 → (∀ o, h1.get? a = some o → h2.get? a = some o) → φ h2
/-- the abstract heap is held -/
def HOk (H : Hp) (h : Heap) : Prop := ∀ a o, H a = some o → ObjOk P w H h a o
end

section
variable {P : Program} {w : World} {H H' : Hp} {h h' : Heap} {a : Addr} {o : HO}
theorem ObjOk.lt (x : ObjOk P w H h a o) : a < h.objs.size := by
  cases o with
  | lst xs => obtain ⟨_, _, _, _, e⟩ := x; exact Heap.lt_size e
  | tup xs => obtain ⟨_, _, _, p⟩ := x; exact p.lt
  | dK kvs => obtain ⟨_, _, _, _, o, _, _, e, _⟩ := x; exact Heap.lt_size e
  | dT kvs => obtain ⟨_, _, _, _, o, _, _, e, _⟩ := x; exact Heap.lt_size e
  | set S n => obtain ⟨o, _, _, _, e, _⟩ := x; exact Heap.lt_size e
  | ins C dx fs => obtain ⟨_, _, _, e, _⟩ := x; exact Heap.lt_size e
  | own y => obtain ⟨_, e⟩ := x; exact Heap.lt_size e
  | xd fs => obtain ⟨_, ⟨_, _, _, e, _⟩, _⟩ := x; exact Heap.lt_size e
  | rng lo hi => obtain ⟨_, _, _, e⟩ := x; exact Heap.lt_size e
  | frz ob u => obtain ⟨e, _⟩ := x; exact Heap.lt_size e
  | tbl ps => exact Heap.lt_size (show h.get? a = some _ from x)
  | met f y => exact Heap.lt_size (show h.get? a = some _ from x)
  | ext φ => obtain ⟨_, ⟨_, e⟩, _⟩ := x; exact Heap.lt_size e
theorem Paired.mapP {α β : Type} {F G : α → β → Prop} : ∀ {l₁ : List α} {l₂ : List β}, Paired F l₁ l₂ → (∀ a b, F a b → G a b) → Paired G l₁ l₂
  | _, _, .nil, _ => .nil
  | _, _, .cons r t, f => .cons (f _ _ r) (Paired.mapP t f)
/-- what an object's description leans on: its own object, its own dict, the tuples -/
theorem ObjOk.stay (x : ObjOk P w H h a o) (k : ∀ b u, (b = a ∨ H b = some (.own a)) → h.get? b = some u → h'.get? b = some u)
    (ho : ∀ b, H b = some (.own a) → H' b = some (.own a)) (ht : ∀ b xs, H b = some (.tup xs) → H' b = some (.tup xs)) : ObjOk P w H' h' a o := by
  induction o with
  | lst xs => obtain ⟨z, its, n, r, e⟩ := x; exact ⟨z, its, n, r, k _ _ (.inl rfl) e⟩
  | tup xs => obtain ⟨z, its, r, ob, e, c⟩ := x; exact ⟨z, its, r, ob, k _ _ (.inl rfl) e, c⟩
  | dK kvs => obtain ⟨z, y, vs, r, ob, es, ep, e, c⟩ := x; exact ⟨z, y, vs, r, ob, es, ep, k _ _ (.inl rfl) e, c⟩
  | dT kvs =>
    obtain ⟨z, y, xs, r, ob, es, ep, e, c⟩ := x
    exact ⟨z, y, xs, Paired.mapP r fun p q z => ⟨z.1, ht _ _ z.2.1, z.2.2⟩, ob, es, ep, k _ _ (.inl rfl) e, c⟩
  | set S n => obtain ⟨ob, es, ep, t, e, c⟩ := x; exact ⟨ob, es, ep, t, k _ _ (.inl rfl) e, c⟩
  | ins C dx fs =>
    obtain ⟨d, z, ne, e, mA, ⟨od, es, ep, e2, c⟩, r⟩ := x
    exact ⟨ho _ d, z, ne, k _ _ (.inl rfl) e, mA, ⟨od, es, ep, k _ _ (.inr d) e2, c⟩, r⟩
  | own y => obtain ⟨ob, e⟩ := x; exact ⟨ob, k _ _ (.inl rfl) e⟩
  | xd fs => obtain ⟨mA, ⟨od, es, ep, e, c⟩, r⟩ := x; exact ⟨mA, ⟨od, es, ep, k _ _ (.inl rfl) e, c⟩, r⟩
  | rng lo hi => obtain ⟨t, u, v, e⟩ := x; exact ⟨t, u, v, k _ _ (.inl rfl) e⟩
  | frz ob u ih => obtain ⟨e, q⟩ := x; exact ⟨k _ _ (.inl rfl) e, ih q⟩
  | tbl ps =>
    have e : h.get? a = some { cls := .none, data := .fields ps } := x
    show h'.get? a = some { cls := .none, data := .fields ps }
    exact k a _ (.inl rfl) e
  | met f y =>
    have e : h.get? a = some (PySem.W.methodObj (.ref f) (.ref y)) := x
    show h'.get? a = some (PySem.W.methodObj (.ref f) (.ref y))
    exact k a _ (.inl rfl) e
  | ext φ => obtain ⟨p, ⟨o, e⟩, st⟩ := x; exact ⟨st _ _ p fun o q => k _ _ (.inl rfl) q, ⟨o, k _ _ (.inl rfl) e⟩, st⟩
theorem HOk.lt (x : HOk P w H h) (e : H a = some o) : a < h.objs.size := (x a o e).lt
theorem HOk.fresh (x : HOk P w H h) (e : h.objs.size ≤ a) : H a = none := by
  cases q : H a with
  | none => rfl
  | some u => exact absurd (Nat.lt_of_lt_of_le (x.lt q) e) (Nat.lt_irrefl _)
/-- every object of the heap is kept -/
theorem HOk.kept (x : HOk P w H h) (k : ∀ b u, h.get? b = some u → h'.get? b = some u) : HOk P w H h' := fun a o e =>
  (x a o e).stay (fun b u _ q => k b u q) (fun _ q => q) fun _ _ q => q
/-- a new object is laid and tracked -/
theorem HOk.laid (x : HOk P w H h) (k : ∀ b u, h.get? b = some u → h'.get? b = some u) (hp : h.objs.size ≤ a) (new : ObjOk P w (upd H a o) h' a o) : HOk P w (upd H a o) h' := fun b u e => by
  have hn := x.fresh hp
  by_cases hb : b = a
  · subst hb; rw [upd_same] at e; cases e; exact new
  · rw [upd_ne hb] at e
    exact (x b u e).stay (fun c v _ q => k c v q) (fun c q => by rw [upd_ne (ne_of_none q hn)]; exact q) fun c xs q => by rw [upd_ne (ne_of_none q hn)]; exact q
end

/-- what may be read as u: it is u, or a known u -/
def Rd (H : Hp) (a : Addr) (u : HO) : Prop := H a = some u ∨ ∃ o, H a = some (.frz o u)
theorem Rd.of {H : Hp} {a : Addr} {u : HO} (h : H a = some u) : Rd H a u := .inl h
theorem Rd.ok {P : Program} {w : World} {H : Hp} {h : Heap} {a : Addr} {u : HO} (r : Rd H a u) (x : HOk P w H h) : ObjOk P w H h a u := by
  rcases r with r | ⟨o, r⟩
  · exact x a u r
  · obtain ⟨_, q⟩ := x a _ r
    exact q
/-- what may be written -/
def Mut : Option HO → Prop
  | some (.lst _) => True
  | some (.dK _) => True
  | some (.dT _) => True
  | some (.set _ _) => True
  | some (.ins _ _ _) => True
  | some (.ext _) => True
  | _ => False
section
variable {P : Program} {w : World} {H : Hp} {h h' : Heap} {x e : Addr} {o' : HO}
/-- the object at e is changed: x itself, or the dict of the instance x -/
theorem HOk.write (ok : HOk P w H h) (mu : Mut (H x)) (he : e = x ∨ H e = some (.own x)) (k : ∀ b u, b ≠ e → h.get? b = some u → h'.get? b = some u) (heo : ∃ u, h'.get? e = some u)
    (new : ObjOk P w (upd H x o') h' x o') : HOk P w (upd H x o') h' := fun b u q => by
  have nown : ∀ c y, H c = some (.own y) → c ≠ x := fun c y r z => by subst z; rw [r] at mu; exact mu
  have ntup : ∀ c xs, H c = some (.tup xs) → c ≠ x := fun c xs r z => by subst z; rw [r] at mu; exact mu
  by_cases hb : b = x
  · subst hb; rw [upd_same] at q; cases q; exact new
  · rw [upd_ne hb] at q
    by_cases hbe : b = e
    · have q' : H b = some (.own x) := by
        rcases he with z | z
        · exact absurd (hbe.trans z) hb
        · rw [hbe]; exact z
      rw [q] at q'; cases q'
      obtain ⟨v, hv⟩ := heo
      exact ⟨v, by rw [hbe]; exact hv⟩
    · refine (ok b u q).stay (fun c v hc r => k c v ?_ r) (fun c r => by rw [upd_ne (nown c b r)]; exact r) fun c xs r => by rw [upd_ne (ntup c xs r)]; exact r
      rcases hc with rfl | hc
      · exact hbe
      · rintro rfl
        rcases he with z | z
        · exact nown c b hc z
        · rw [hc] at z; cases z; exact hb rfl
end

/-! ### kept unless tracked; of the frames at fs (the callers') the slots may change (an exception that passes writes there); of the records at ex (iterators) nothing is said -/
structure Un (fs ex : List Addr) (H H' : Hp) (h h' : Heap) : Prop where
  keep : ∀ b o, h.get? b = some o → H b = none → b ∉ fs → b ∉ ex → h'.get? b = some o
  slot : ∀ b o, h.get? b = some o → H b = none → b ∈ fs → b ∉ ex → ∃ sl, h'.get? b = some { o with slots := sl }
  free : ∀ b o, h.get? b = some o → H b = none → b ∉ ex → H' b = none
  there : ∀ b o, h.get? b = some o → b ∉ ex → ∃ o', h'.get? b = some o'
  tups : ∀ b xs, H b = some (.tup xs) → H' b = some (.tup xs)
  frzs : ∀ b o u, H b = some (.frz o u) → H' b = some (.frz o u)
  tbls : ∀ b ps, H b = some (.tbl ps) → ∃ more, H' b = some (.tbl (ps ++ more))
section
variable {fs fs' ex ex' : List Addr} {H H1 H2 : Hp} {h h1 h2 h' : Heap} {a x e : Addr} {o : HO}
theorem Un.any (u : Un fs ex H H1 h h1) {b : Addr} {ob : Obj} (q : h.get? b = some ob) (n : H b = none) (hx : b ∉ ex) : ∃ sl, h1.get? b = some { ob with slots := sl } := by
  by_cases hb : b ∈ fs
  · exact u.slot b ob q n hb hx
  · exact ⟨ob.slots, u.keep b ob q n hb hx⟩
theorem Un.kept (k : ∀ b u, h.get? b = some u → h'.get? b = some u) : Un fs ex H H h h' :=
  ⟨fun b ob q _ _ _ => k b ob q, fun b ob q _ _ _ => ⟨ob.slots, k b ob q⟩, fun _ _ _ n _ => n, fun b ob q _ => ⟨ob, k b ob q⟩, fun _ _ q => q, fun _ _ _ q => q, fun _ ps q => ⟨#[], by rw [q]; simp⟩⟩
theorem Un.refl : Un fs ex H H h h := Un.kept fun _ _ q => q
theorem Un.laid (k : ∀ b u, h.get? b = some u → h'.get? b = some u) (hp : h.objs.size ≤ a) (hn : H a = none) : Un fs ex H (upd H a o) h h' where
  keep := fun b u q _ _ _ => k b u q
  slot := fun b u q _ _ _ => ⟨u.slots, k b u q⟩
  free := fun b u q n _ => by rw [upd_ne (Nat.ne_of_lt (Nat.lt_of_lt_of_le (Heap.lt_size q) hp))]; exact n
  there := fun b u q _ => ⟨u, k b u q⟩
  tups := fun b xs q => by rw [upd_ne (ne_of_none q hn)]; exact q
  frzs := fun b u xs q => by rw [upd_ne (ne_of_none q hn)]; exact q
  tbls := fun b ps q => ⟨#[], by rw [upd_ne (ne_of_none q hn), q]; simp⟩
theorem Un.write (mu : Mut (H x)) (he : e = x ∨ H e = some (.own x)) (k : ∀ b u, b ≠ e → h.get? b = some u → h'.get? b = some u) (heo : ∃ u, h'.get? e = some u) : Un fs ex H (upd H x o) h h' := by
  have hx : ∀ b, H b = none → b ≠ x := fun b n z => by subst z; rw [n] at mu; exact mu
  have hb : ∀ b, H b = none → b ≠ e := fun b n z => by
    subst z
    rcases he with r | r
    · exact hx b n r
    · rw [n] at r; cases r
  have hm : ∀ b u, H b = some u → ¬ Mut (some u) → b ≠ x := fun b u q nm z => by subst z; rw [q] at mu; exact nm mu
  refine ⟨fun b u q n _ _ => k b u (hb b n) q, fun b u q n _ _ => ⟨u.slots, k b u (hb b n) q⟩, fun b u q n _ => by rw [upd_ne (hx b n)]; exact n, fun b u q _ => ?_,
    fun b xs q => by rw [upd_ne (hm b _ q fun z => z)]; exact q, fun b u xs q => by rw [upd_ne (hm b _ q fun z => z)]; exact q, fun b ps q => ⟨#[], by rw [upd_ne (hm b _ q fun z => z), q]; simp⟩⟩
  by_cases hbe : b = e
  · subst hbe; exact heo
  · exact ⟨u, k b u hbe q⟩
end

/-! ### the heap without what is tracked -/
def trk (h : Heap) (H : Hp) : List Addr := (List.range h.objs.size).filter fun a => (H a).isSome
def hidT (h : Heap) (H : Hp) : Heap := PySem.W.hideAll h (trk h H)
theorem hidT_size (h : Heap) (H : Hp) : (hidT h H).objs.size = h.objs.size := PySem.W.hideAll_size _ _
theorem hidT_get {h : Heap} {H : Hp} {b : Addr} {o : Obj} (e : h.get? b = some o) (n : H b = none) : (hidT h H).get? b = some o :=
  PySem.W.hideAll_get _ e fun hm => by
    have q : (H b).isSome = true := (List.mem_filter.mp hm).2
    rw [n] at q; simp at q
theorem of_hidT {h : Heap} {H : Hp} {b : Addr} {o : Obj} (e : (hidT h H).get? b = some o) : h.get? b = some o ∧ H b = none := by
  have e' : h.get? b = some o := PySem.W.of_hideAll (trk h H) e
  refine ⟨e', ?_⟩
  cases q : H b with
  | none => rfl
  | some x =>
    have hm : b ∈ trk h H := List.mem_filter.mpr ⟨List.mem_range.mpr (Heap.lt_size e'), by simp [q]⟩
    have z : (hidT h H).get? b = none := PySem.W.hideAll_none (trk h H) hm
    rw [z] at e; cases e

/-! ### OpenK's ledger, filled with every new object but one -/
def allNews (g h : Heap) (L : Addr) : List (Addr × Obj) := (List.range h.objs.size).filterMap fun a => if a = L ∨ (g.get? a).isSome = true then none else (h.get? a).map fun o => (a, o)
theorem mem_allNews {g h : Heap} {L a : Addr} {o : Obj} (h1 : a ≠ L) (h2 : g.get? a = none) (h3 : h.get? a = some o) : (a, o) ∈ allNews g h L :=
  List.mem_filterMap.mpr ⟨a, List.mem_range.mpr (Heap.lt_size h3), by simp [h1, h2, h3]⟩
def rest (g h : Heap) (L d : Addr) : List (Addr × Obj) := (allNews g h L).filter fun p => decide (p.1 ≠ d)
theorem mem_rest {g h : Heap} {L d a : Addr} {o : Obj} (h1 : a ≠ L) (h2 : g.get? a = none) (h3 : h.get? a = some o) (h4 : a ≠ d) : (a, o) ∈ rest g h L d :=
  List.mem_filter.mpr ⟨mem_allNews h1 h2 h3, decide_eq_true h4⟩
/-- behind a rule that changed d alone: all else but the frame is kept -/
theorem kept_of_news {g h h' : Heap} {L d : Addr} {m : Str → Option Value} (k : ∀ b o, g.get? b = some o → h.get? b = some o) (F : Fr g L h' m) (N : News g L h' (rest g h L d)) :
    ∀ b o, b ≠ L → b ≠ d → h.get? b = some o → h'.get? b = some o := fun b o h1 h2 e => by
  cases q : g.get? b with
  | some u =>
    have := k b u q
    rw [e] at this; cases this
    exact F.keep b _ q
  | none => exact (N (b, o) (mem_rest h1 q e h2)).1
end L2

namespace L2
open PySem PySem.Spec PyProof.Rows

/-- the module's facts, over the base: the heap at the law's entry without what is tracked there -/
structure Mod (K : PySem.W.Frag) (mg : Str → Option Value) (base : Heap) : Prop where
  kin : K.In base
  glob : base.Ns mainGlobals mg
  blt : ∃ mb, base.Ns builtinsNs mb ∧ ∀ x : Str, x ≠ "__name__" → mb x = bootBuiltins x
  nolimit : base.NoLimit

/-- the context: a def's body (or a comprehension's block) running. base: fixed through the whole law; s₀, H₀: the entry; outer: the frames whose slots others may change (a def's callers); stack: all frames that run;
   ex: iterators that were made ahead of the entry and are walked here (a comprehension's); fn: the names whose cells were made at the entry (a def: all; a comprehension's block: its own); calm: not within an except suite; pn: pins that every state bears; xe: what is wanted of an exception that leaves the code -/
structure Cx where
  prog : Program
  w : World
  K : PySem.W.Frag
  mg : Str → Option Value
  base : Heap
  A : Around
  N : List Str
  s₀ : Shared
  H₀ : Hp
  env : Env
  outer : List Env
  stack : List Env
  ex : List Addr
  fn : Str → Bool
  calm : Bool
  pn : List (Addr × Obj)
  xe : Value → Shared → Prop
/-- the callers' frames -/
def frs (l : List Env) : List Addr := l.filterMap (·.frame)
abbrev Cx.fs (X : Cx) : List Addr := frs X.outer

def Vis (sc : Scope) (x : Str) : Prop := sc.names.lookup x = some .local ∨ sc.names.lookup x = some .cell ∨ sc.names.lookup x = some .free
def Loc (sc : Scope) (x : Str) : Prop := sc.names.lookup x = some .local ∨ sc.names.lookup x = some .cell
def Look (env : Env) (h : Heap) (m : Str → Option Value) (x : Str) (u : Value) : Prop :=
  (env.kindOf x = some .local ∧ m x = some u) ∨ ((env.kindOf x = some .cell ∨ env.kindOf x = some .free) ∧ ∃ c, env.cells.lookup x = some c ∧ h.IsCell c (some u))

structure Cx.Ok (X : Cx) : Prop where
  mod : Mod X.K X.mg X.base
  kind : X.env.scope.kind = .function
  glob : X.env.globals = mainGlobals
  blt : X.env.builtins = builtinsNs
  above : X.s₀.heap.objs.size ≤ X.env.locals
  inj : ∀ x y c, X.env.cells.lookup x = some c → X.env.cells.lookup y = some c → x = y
  has : ∀ x, (X.env.kindOf x = some .cell ∨ X.env.kindOf x = some .free) → ∃ c, X.env.cells.lookup x = some c
  cab : ∀ x c, X.fn x = true → X.env.cells.lookup x = some c → X.s₀.heap.objs.size ≤ c
  hd : X.calm = true → X.A.handled = none
  frames : X.A.frames = some X.stack
  stk : X.stack = X.outer ∨ (X.stack = X.env :: X.outer ∧ X.env.frame = some X.env.locals)
  exf : ∀ b ∈ X.ex, b ≠ X.env.locals ∧ ∀ x c, X.env.cells.lookup x = some c → c ≠ b
  bs : ∀ b o, X.base.get? b = some o → X.s₀.heap.get? b = some o ∧ X.H₀ b = none
  bsz : X.base.objs.size ≤ X.s₀.heap.objs.size
  noex : ∀ b o, X.base.get? b = some o → b ∉ X.ex
  exfs : ∀ b ∈ X.ex, b ∉ X.fs
  funs : X.s₀.heap.FunFrames X.base X.outer
  frf : ∀ b ∈ X.fs, X.H₀ b = none

structure Inv (X : Cx) (pins : List (Addr × Obj)) (σ : List (Option V)) (H : Hp) (s : Shared) : Prop where
  ok : X.Ok
  os : s.os = X.s₀.os
  bare : AllBare s.gens
  base : Un X.fs X.ex X.H₀ H X.s₀.heap s.heap
  loc : ∃ m, s.heap.Ns X.env.locals m ∧ ∀ (i : Nat) (x : Str) (v : V), X.N[i]? = some x → σ[i]? = some (some v) → Vis X.env.scope x → ∃ u, RelV v u ∧ Look X.env s.heap m x u
  cell : ∀ x c, X.env.cells.lookup x = some c → ∃ v, s.heap.IsCell c v
  free : H X.env.locals = none
  freeC : ∀ x c, X.env.cells.lookup x = some c → H c = none
  pin : ∀ p ∈ X.pn ++ pins, s.heap.get? p.1 = some p.2 ∧ H p.1 = none ∧ p.1 ≠ X.env.locals ∧ p.1 ∉ X.fs ∧ ∀ v, p.2.data ≠ .cell v
  hok : HOk X.prog X.w H s.heap
  len : σ.length = X.N.length

section
variable {X : Cx} {pins : List (Addr × Obj)} {σ : List (Option V)} {H H' : Hp} {s : Shared} {h' : Heap}

theorem Cx.Ok.nofr (ok : X.Ok) {b : Addr} {o : Obj} (e : X.base.get? b = some o) : b ∉ X.fs := fun hb => by
  have := (ok.funs.mem hb).1
  rw [e] at this; cases this
theorem Inv.bs (I : Inv X pins σ H s) : ∀ b o, X.base.get? b = some o → s.heap.get? b = some o ∧ H b = none := fun b o e =>
  ⟨I.base.keep b o (I.ok.bs b o e).1 (I.ok.bs b o e).2 (I.ok.nofr e) (I.ok.noex b o e), I.base.free b o (I.ok.bs b o e).1 (I.ok.bs b o e).2 (I.ok.noex b o e)⟩
theorem Inv.bk (I : Inv X pins σ H s) : ∀ b o, X.base.get? b = some o → s.heap.get? b = some o := fun b o e => (I.bs b o e).1
theorem Inv.mod (I : Inv X pins σ H s) : Mod X.K X.mg X.base := I.ok.mod
theorem Inv.kIn (I : Inv X pins σ H s) : X.K.In s.heap := I.ok.mod.kin.keeps I.bk
/-- the frame over the base: for OpenK's rules (K.In X.base is I.mod.kin) -/
theorem Inv.fr (I : Inv X pins σ H s) : ∃ m, Fr X.base X.env.locals s.heap m :=
  let ⟨m, hn, _⟩ := I.loc
  ⟨m, hn, I.bk, Nat.le_trans I.ok.bsz I.ok.above⟩
theorem Inv.lt (I : Inv X pins σ H s) : X.env.locals < s.heap.objs.size := let ⟨_, hn, _⟩ := I.loc; hn.lt
theorem Inv.sz (I : Inv X pins σ H s) : X.s₀.heap.objs.size ≤ s.heap.objs.size := Nat.le_trans I.ok.above (Nat.le_of_lt I.lt)
theorem Inv.nofs (I : Inv X pins σ H s) {a : Addr} (h : s.heap.objs.size ≤ a) : a ∉ X.fs := fun hb => by
  obtain ⟨_, o, ho, _⟩ := I.ok.funs.mem hb
  exact absurd (Nat.lt_of_lt_of_le (Heap.lt_size ho) (Nat.le_trans I.sz h)) (Nat.lt_irrefl _)
theorem Inv.cne (I : Inv X pins σ H s) : ∀ x c, X.env.cells.lookup x = some c → c ≠ X.env.locals := fun x c e z => by
  obtain ⟨v, o, ho, hd⟩ := I.cell x c e
  obtain ⟨m, ⟨o', es, ep, ho', hd', _⟩, _⟩ := I.loc
  rw [z, ho'] at ho; cases ho; rw [hd'] at hd; cases hd
theorem Inv.funs (I : Inv X pins σ H s) : s.heap.FunFrames X.base X.outer := by
  have all : ∀ (l : List Env), (∀ b ∈ frs l, b ∈ X.fs) → X.s₀.heap.FunFrames X.base l → s.heap.FunFrames X.base l := by
    intro l
    induction l with
    | nil => intro _ _; trivial
    | cons env r ih =>
      intro hs hl
      obtain ⟨hk, ⟨L, o, hf, hn, ho, hd⟩, hr⟩ := hl
      have hL : L ∈ X.fs := hs L (by unfold frs; rw [List.filterMap_cons, hf]; exact List.mem_cons_self)
      obtain ⟨sl, e⟩ := I.base.slot L o ho (I.ok.frf L hL) hL fun z => I.ok.exfs L z hL
      exact ⟨hk, ⟨L, _, hf, hn, e, hd⟩, ih (fun b hb => hs b (by unfold frs; rw [List.filterMap_cons, hf]; exact List.mem_cons_of_mem _ hb)) hr⟩
  exact all X.outer (fun _ hb => hb) I.ok.funs

/-- the frames that run, for a call -/
theorem Inv.stack (I : Inv X pins σ H s) : s.heap.FunFrames X.base X.stack := by
  rcases I.ok.stk with e | ⟨e, hf⟩
  · rw [e]; exact I.funs
  · rw [e]
    obtain ⟨m, hn, _⟩ := I.loc
    refine .cons (by rw [I.ok.kind]; decide) hf hn ?_ I.funs
    exact Heap.get?_none_of_le (Nat.le_trans I.ok.bsz I.ok.above)
theorem Inv.stkSub (I : Inv X pins σ H s) : ∀ b ∈ frs X.stack, b ∈ X.env.locals :: X.fs := fun b hb => by
  rcases I.ok.stk with e | ⟨e, hf⟩
  · rw [e] at hb; exact List.mem_cons_of_mem _ hb
  · rw [e] at hb
    unfold frs at hb
    rw [List.filterMap_cons, hf] at hb
    exact hb
theorem Inv.stkFree (I : Inv X pins σ H s) : ∀ b ∈ frs X.stack, H b = none := fun b hb => by
  rcases List.mem_cons.mp (I.stkSub b hb) with e | hb
  · rw [e]; exact I.free
  · obtain ⟨_, o, ho, _⟩ := I.ok.funs.mem hb
    exact I.base.free b o ho (I.ok.frf b hb) fun z => I.ok.exfs b z hb

/-- THE STEP: the untracked objects but the frame and the records at ch are kept (the callers' frames up to slots), the frame's map is kept, the new abstract heap is held -/
theorem Inv.step {g' : Array GenState} {t' : Nat} {d' : Drawn} {ch : List Addr} (I : Inv X pins σ H s)
    (hch : ∀ b ∈ ch, (b ∈ X.ex ∨ X.s₀.heap.objs.size ≤ b) ∧ b ≠ X.env.locals ∧ (∀ x c, X.env.cells.lookup x = some c → c ≠ b) ∧ ∀ p ∈ X.pn ++ pins, p.1 ≠ b)
    (keep : ∀ b o, b ≠ X.env.locals → b ∉ X.fs → b ∉ ch → s.heap.get? b = some o → H b = none → h'.get? b = some o)
    (slot : ∀ b o, b ≠ X.env.locals → b ∈ X.fs → b ∉ ch → s.heap.get? b = some o → H b = none → ∃ sl, h'.get? b = some { o with slots := sl }) (free : ∀ b o, b ∉ ch → s.heap.get? b = some o → H b = none → H' b = none)
    (there : ∀ b o, b ∉ ch → s.heap.get? b = some o → ∃ o', h'.get? b = some o')
    (tups : ∀ b xs, H b = some (.tup xs) → H' b = some (.tup xs)) (frzs : ∀ b o u, H b = some (.frz o u) → H' b = some (.frz o u)) (tbls : ∀ b ps, H b = some (.tbl ps) → ∃ more, H' b = some (.tbl (ps ++ more)))
    (ns : ∀ m, s.heap.Ns X.env.locals m → h'.Ns X.env.locals m) (hok : HOk X.prog X.w H' h') (hg : AllBare g') :
    Inv X pins σ H' { s with heap := h', gens := g', drawn := d', toks := t' } := by
  have neL : ∀ b o, X.s₀.heap.get? b = some o → b ≠ X.env.locals := fun b o e => Nat.ne_of_lt (Nat.lt_of_lt_of_le (Heap.lt_size e) I.ok.above)
  have neC : ∀ b o, X.s₀.heap.get? b = some o → b ∉ X.ex → b ∉ ch := fun b o e hx hb => by
    rcases (hch b hb).1 with z | z
    · exact hx z
    · exact absurd (Nat.lt_of_lt_of_le (Heap.lt_size e) z) (Nat.lt_irrefl _)
  have cellK : ∀ x c, X.env.cells.lookup x = some c → ∀ v, s.heap.IsCell c v → h'.IsCell c v := fun x c e v ⟨o, ho, hd⟩ => by
    have nch : c ∉ ch := fun z => (hch c z).2.2.1 x c e rfl
    by_cases hc : c ∈ X.fs
    · obtain ⟨sl, q⟩ := slot c o (I.cne x c e) hc nch ho (I.freeC x c e)
      exact ⟨_, q, hd⟩
    · exact ⟨o, keep c o (I.cne x c e) hc nch ho (I.freeC x c e), hd⟩
  refine ⟨I.ok, I.os, hg, ⟨fun b o e n hb hx => ?_, fun b o e n hb hx => ?_, fun b o e n hx => ?_, fun b o e hx => ?_, fun b xs e => tups b xs (I.base.tups b xs e), fun b o xs e => frzs b o xs (I.base.frzs b o xs e), fun b ps e => ?_⟩, ?_, fun x c e => ?_, ?_, fun x c e => ?_, fun p hp => ?_, hok, I.len⟩
  · exact keep b o (neL b o e) hb (neC b o e hx) (I.base.keep b o e n hb hx) (I.base.free b o e n hx)
  · obtain ⟨sl, e1⟩ := I.base.slot b o e n hb hx
    obtain ⟨sl', e2⟩ := slot b _ (neL b o e) hb (neC b o e hx) e1 (I.base.free b o e n hx)
    exact ⟨sl', e2⟩
  · obtain ⟨o', e1⟩ := I.base.there b o e hx
    exact free b o' (neC b o e hx) e1 (I.base.free b o e n hx)
  · obtain ⟨o', e1⟩ := I.base.there b o e hx
    exact there b o' (neC b o e hx) e1
  · obtain ⟨m1, e1⟩ := I.base.tbls b ps e
    obtain ⟨m2, e2⟩ := tbls b _ e1
    exact ⟨m1 ++ m2, by rw [e2, Array.append_assoc]⟩
  · obtain ⟨m, hn, hl⟩ := I.loc
    refine ⟨m, ns m hn, fun i x v e1 e2 e3 => ?_⟩
    obtain ⟨u, r, l⟩ := hl i x v e1 e2 e3
    refine ⟨u, r, ?_⟩
    rcases l with l | ⟨k, c, e, z⟩
    · exact .inl l
    · exact .inr ⟨k, c, e, cellK x c e _ z⟩
  · obtain ⟨v, z⟩ := I.cell x c e
    exact ⟨v, cellK x c e v z⟩
  · obtain ⟨m, ⟨o, _, _, ho, _⟩, _⟩ := I.loc
    exact free _ o (fun z => (hch _ z).2.1 rfl) ho I.free
  · obtain ⟨v, o, ho, hd⟩ := I.cell x c e
    exact free c o (fun z => (hch c z).2.2.1 x c e rfl) ho (I.freeC x c e)
  · obtain ⟨e, n, ne, nf, d⟩ := I.pin p hp
    have nch : p.1 ∉ ch := fun z => (hch p.1 z).2.2.2 p hp rfl
    exact ⟨keep p.1 p.2 ne nf nch e n, free p.1 p.2 nch e n, ne, nf, d⟩
/-- .. where the frame's own object is kept too -/
theorem Inv.un {t' : Nat} (I : Inv X pins σ H s) (u : Un X.fs [] H H' s.heap h') (hok : HOk X.prog X.w H' h') : Inv X pins σ H' { s with heap := h', toks := t' } := by
  obtain ⟨m, ⟨o, es, ep, ho, r⟩, _⟩ := id I.loc
  obtain ⟨sl, hL⟩ := u.any ho I.free (by simp)
  exact I.step (g' := s.gens) (d' := s.drawn) (ch := []) (fun _ z => nomatch z) (fun b o _ hb _ e n => u.keep b o e n hb (by simp)) (fun b o _ hb _ e n => u.slot b o e n hb (by simp)) (fun b o _ e n => u.free b o e n (by simp)) (fun b o _ e => u.there b o e (by simp)) u.tups u.frzs u.tbls (fun m' hm => by
    obtain ⟨o', es', ep', ho', r'⟩ := hm
    rw [ho] at ho'; cases ho'
    exact ⟨_, es', ep', hL, r'⟩) hok I.bare
/-- behind a call (or a comprehension's block): the slots of this frame may have changed too, the records at ch may have turned -/
theorem Inv.call {g' : Array GenState} {t' : Nat} {d' : Drawn} {ch : List Addr} (I : Inv X pins σ H s) (u : Un (frs X.stack) ch H H' s.heap h') (hok : HOk X.prog X.w H' h') (hg : AllBare g')
    (hch : ∀ b ∈ ch, (b ∈ X.ex ∨ X.s₀.heap.objs.size ≤ b) ∧ b ≠ X.env.locals ∧ (∀ x c, X.env.cells.lookup x = some c → c ≠ b) ∧ ∀ p ∈ X.pn ++ pins, p.1 ≠ b) :
    Inv X pins σ H' { s with heap := h', gens := g', drawn := d', toks := t' } := by
  obtain ⟨m, ⟨o, es, ep, ho, r⟩, _⟩ := id I.loc
  obtain ⟨sl, hL⟩ := u.any ho I.free fun z => (hch _ z).2.1 rfl
  exact I.step (ch := ch) hch (fun b o hL hb hc e n => u.keep b o e n (fun z => (List.mem_cons.mp (I.stkSub b z)).elim hL hb) hc) (fun b o _ _ hc e n => u.any e n hc) (fun b o hc e n => u.free b o e n hc) (fun b o hc e => u.there b o e hc) u.tups u.frzs u.tbls (fun m' hm => by
    obtain ⟨o', es', ep', ho', r'⟩ := hm
    rw [ho] at ho'; cases ho'
    exact ⟨_, es', ep', hL, r'⟩) hok hg
/-- an untracked record of ours (an iterator) has turned -/
theorem Inv.turned {t' : Nat} {it : Addr} (I : Inv X pins σ H s) (k : ∀ b o, b ≠ it → s.heap.get? b = some o → h'.get? b = some o) (hn : H it = none) (hL : it ≠ X.env.locals)
    (h1 : it ∈ X.ex ∨ X.s₀.heap.objs.size ≤ it) (h2 : ∀ x c, X.env.cells.lookup x = some c → c ≠ it) (h3 : ∀ p ∈ X.pn ++ pins, p.1 ≠ it) : Inv X pins σ H { s with heap := h', toks := t' } := by
  have nit : ∀ b u, H b = some u → b ≠ it := fun b u e z => by rw [z, hn] at e; cases e
  refine I.step (g' := s.gens) (d' := s.drawn) (ch := [it]) (fun b hb => ?_) (fun b o _ _ hc e _ => k b o (fun z => hc (by simp [z])) e) (fun b o _ _ hc e _ => ⟨o.slots, k b o (fun z => hc (by simp [z])) e⟩) (fun _ _ _ _ n => n)
    (fun b o hc e => ⟨o, k b o (fun z => hc (by simp [z])) e⟩) (fun _ _ e => e) (fun _ _ _ e => e) (fun b ps e => ⟨#[], by rw [e]; simp⟩) (fun m hm => ?_) (fun b u e => ?_) I.bare
  · have e : b = it := by simpa using hb
    subst e
    exact ⟨h1, hL, h2, h3⟩
  · obtain ⟨o, es, ep, ho, r⟩ := hm
    exact ⟨o, es, ep, k _ o (Ne.symm hL) ho, r⟩
  · refine (I.hok b u e).stay (fun c v hc q => k c v ?_ q) (fun _ q => q) fun _ _ q => q
    rcases hc with z | z
    · rw [z]; exact nit b u e
    · exact nit c _ z
theorem Inv.tok (I : Inv X pins σ H s) (t : Nat) : Inv X pins σ H { s with toks := t } := I.un (h' := s.heap) (t' := t) Un.refl I.hok
/-- all objects kept -/
theorem Inv.kept {t' : Nat} (I : Inv X pins σ H s) (k : ∀ b u, s.heap.get? b = some u → h'.get? b = some u) : Inv X pins σ H { s with heap := h', toks := t' } := I.un (Un.kept k) (I.hok.kept k)
/-- a new object laid and tracked -/
theorem Inv.laid {a : Addr} {o : HO} {t' : Nat} (I : Inv X pins σ H s) (k : ∀ b u, s.heap.get? b = some u → h'.get? b = some u) (hp : s.heap.objs.size ≤ a) (new : ObjOk X.prog X.w (upd H a o) h' a o) :
    Inv X pins σ (upd H a o) { s with heap := h', toks := t' } := I.un (Un.laid k hp (I.hok.fresh hp)) (I.hok.laid k hp new)
/-- an object written -/
theorem Inv.write {x e : Addr} {o : HO} {t' : Nat} (I : Inv X pins σ H s) (mu : Mut (H x)) (he : e = x ∨ H e = some (.own x)) (k : ∀ b u, b ≠ e → s.heap.get? b = some u → h'.get? b = some u) (heo : ∃ u, h'.get? e = some u)
    (new : ObjOk X.prog X.w (upd H x o) h' x o) : Inv X pins σ (upd H x o) { s with heap := h', toks := t' } := I.un (Un.write mu he k heo) (I.hok.write mu he k heo new)
/-- forgetting slots, pins -/
theorem Inv.weak {σ' : List (Option V)} (I : Inv X pins σ H s) (hl : σ'.length = σ.length) (w : ∀ (i : Nat) v, σ'[i]? = some (some v) → σ[i]? = some (some v)) : Inv X pins σ' H s :=
  ⟨I.ok, I.os, I.bare, I.base, let ⟨m, hn, hl'⟩ := I.loc; ⟨m, hn, fun i x v e1 e2 e3 => hl' i x v e1 (w i v e2) e3⟩, I.cell, I.free, I.freeC, I.pin, I.hok, hl.trans I.len⟩
theorem Inv.pins_of {pins' : List (Addr × Obj)} (I : Inv X pins σ H s) (h : ∀ p ∈ pins', s.heap.get? p.1 = some p.2 ∧ H p.1 = none ∧ p.1 ≠ X.env.locals ∧ p.1 ∉ X.fs ∧ ∀ v, p.2.data ≠ .cell v) : Inv X pins' σ H s :=
  ⟨I.ok, I.os, I.bare, I.base, I.loc, I.cell, I.free, I.freeC, fun p hp => (List.mem_append.mp hp).elim (fun z => I.pin p (List.mem_append_left _ z)) (h p), I.hok, I.len⟩

theorem nodup_ix {N : List Str} (hN : N.Nodup) {i j : Nat} {x : Str} (a : N[i]? = some x) (b : N[j]? = some x) : i = j := by
  obtain ⟨h1, e1⟩ := List.getElem?_eq_some_iff.mp a
  obtain ⟨h2, e2⟩ := List.getElem?_eq_some_iff.mp b
  exact (List.getElem_inj hN).mp (e1.trans e2.symm)

/-- a name is stored; what changed -/
theorem store_ok2 {M : Model} {A : Around} {E : Value → Shared → Prop} {i : Nat} {x : Str} {v : V} {u : Value} {Q : Unit → Shared → Prop} (I : Inv X pins σ H s) (hN : X.N.Nodup) (hi : X.N[i]? = some x) (hx : Loc X.env.scope x) (r : RelV v u)
    (h : ∀ s', Inv X pins (σ.set i (some v)) H s' → (∃ a, Heap.SameBut a s.heap s'.heap ∧ (a = X.env.locals ∨ X.env.cells.lookup x = some a)) → Q () s') (hf : X.fn x = true ∨ X.env.scope.names.lookup x = some .local := by first | exact .inl rfl | exact .inr rfl | assumption) : wpAny M A (storeName X.env x u) Q E s := by
  obtain ⟨m, hn, hl⟩ := id I.loc
  have hcls : (X.env.scope.kind == .class || (X.env.scope.kind == .module && X.env.locals != X.env.globals)) = false := by rw [I.ok.kind]; rfl
  have hiσ : i < σ.length := by rw [I.len]; exact (List.getElem?_eq_some_iff.mp hi).1
  have cne := I.cne
  have tracked : ∀ {a : Addr} {h' : Heap}, (∃ o, s.heap.get? a = some o ∧ H a = none) → Heap.SameBut a s.heap h' → HOk X.prog X.w H h' := fun {a h'} ha hs b ob e => by
    obtain ⟨_, _, hfree⟩ := ha
    refine (I.hok b ob e).stay (fun c w' hc q => (hs.2 c ?_).trans q) (fun _ q => q) fun _ _ q => q
    rintro rfl
    rcases hc with rfl | hc
    · rw [hfree] at e; cases e
    · rw [hfree] at hc; cases hc
  rcases hx with hk | hk
  · refine wpAny_storeName_local hk hn (fun h' hn' hs => ?_) hcls
    obtain ⟨oL, _, _, hoL, _⟩ := id hn
    refine h _ ⟨I.ok, I.os, I.bare, ⟨fun b o e n hb hx => ?_, fun b o e n hb hx => ?_, I.base.free, fun b o e hx => ?_, I.base.tups, I.base.frzs, I.base.tbls⟩, ⟨_, hn', fun j y v' e1 e2 e3 => ?_⟩, fun y c e => ?_, I.free, I.freeC, fun p hp => ?_, tracked ⟨oL, hoL, I.free⟩ hs, by simpa using I.len⟩ ⟨_, hs, .inl rfl⟩
    · exact (hs.2 b (Nat.ne_of_lt (Nat.lt_of_lt_of_le (Heap.lt_size e) I.ok.above))).trans (I.base.keep b o e n hb hx)
    · obtain ⟨sl, e1⟩ := I.base.slot b o e n hb hx
      exact ⟨sl, (hs.2 b (Nat.ne_of_lt (Nat.lt_of_lt_of_le (Heap.lt_size e) I.ok.above))).trans e1⟩
    · obtain ⟨o', e1⟩ := I.base.there b o e hx
      exact ⟨o', (hs.2 b (Nat.ne_of_lt (Nat.lt_of_lt_of_le (Heap.lt_size e) I.ok.above))).trans e1⟩
    · by_cases hj : j = i
      · subst hj
        rw [hi] at e1; cases e1
        rw [List.getElem?_set_self hiσ] at e2
        cases e2
        exact ⟨u, r, .inl ⟨hk, by simp⟩⟩
      · rw [List.getElem?_set_ne (Ne.symm hj)] at e2
        obtain ⟨u', r', q⟩ := hl j y v' e1 e2 e3
        refine ⟨u', r', ?_⟩
        rcases q with ⟨k, e⟩ | ⟨k, c, e, z⟩
        · refine .inl ⟨k, ?_⟩
          have : y ≠ x := fun e => hj (nodup_ix hN e1 (e ▸ hi))
          simp [this, e]
        · exact .inr ⟨k, c, e, z.sameBut hs (cne y c e)⟩
    · obtain ⟨w', z⟩ := I.cell y c e
      exact ⟨w', z.sameBut hs (cne y c e)⟩
    · obtain ⟨e, n, ne, nf, d⟩ := I.pin p hp
      exact ⟨(hs.2 p.1 ne).trans e, n, ne, nf, d⟩
  · have hfn : X.fn x = true := by
      rcases hf with z | z
      · exact z
      · rw [z] at hk; cases hk
    obtain ⟨c, hc⟩ := I.ok.has x (.inl hk)
    obtain ⟨w', z⟩ := I.cell x c hc
    refine wpAny_storeName_cell I.ok.kind hk hc z (fun h' hc' hs => ?_)
    obtain ⟨oc, hoc, hocd⟩ := id z
    refine h { s with heap := h' } ⟨I.ok, I.os, I.bare, ⟨fun b o e n hb hx => ?_, fun b o e n hb hx => ?_, I.base.free, fun b o e hx => ?_, I.base.tups, I.base.frzs, I.base.tbls⟩, ⟨m, hn.sameBut hs (Ne.symm (cne x c hc)), fun j y v' e1 e2 e3 => ?_⟩, fun y c' e => ?_, I.free, I.freeC, fun p hp => ?_, tracked ⟨oc, hoc, I.freeC x c hc⟩ hs, by simpa using I.len⟩ ⟨c, hs, .inr hc⟩
    · exact (hs.2 b (Nat.ne_of_lt (Nat.lt_of_lt_of_le (Heap.lt_size e) (I.ok.cab x c hfn hc)))).trans (I.base.keep b o e n hb hx)
    · obtain ⟨sl, e1⟩ := I.base.slot b o e n hb hx
      exact ⟨sl, (hs.2 b (Nat.ne_of_lt (Nat.lt_of_lt_of_le (Heap.lt_size e) (I.ok.cab x c hfn hc)))).trans e1⟩
    · obtain ⟨o', e1⟩ := I.base.there b o e hx
      exact ⟨o', (hs.2 b (Nat.ne_of_lt (Nat.lt_of_lt_of_le (Heap.lt_size e) (I.ok.cab x c hfn hc)))).trans e1⟩
    · by_cases hj : j = i
      · subst hj
        rw [hi] at e1; cases e1
        rw [List.getElem?_set_self hiσ] at e2
        cases e2
        exact ⟨u, r, .inr ⟨.inl hk, c, hc, hc'⟩⟩
      · rw [List.getElem?_set_ne (Ne.symm hj)] at e2
        obtain ⟨u', r', q⟩ := hl j y v' e1 e2 e3
        refine ⟨u', r', ?_⟩
        rcases q with q | ⟨k, c', e, z'⟩
        · exact .inl q
        · refine .inr ⟨k, c', e, z'.sameBut hs ?_⟩
          rintro rfl
          exact hj (nodup_ix hN e1 (I.ok.inj _ _ _ e hc ▸ hi))
    · by_cases hcc : c' = c
      · subst hcc; exact ⟨_, hc'⟩
      · obtain ⟨w2, z2⟩ := I.cell y c' e
        exact ⟨w2, z2.sameBut hs hcc⟩
    · obtain ⟨e, n, ne, nf, d⟩ := I.pin p hp
      refine ⟨(hs.2 p.1 ?_).trans e, n, ne, nf, d⟩
      intro q
      rw [q, hoc] at e
      have q' : oc = p.2 := Option.some.inj e
      exact d w' (by rw [← q']; exact hocd)
theorem store_ok {M : Model} {A : Around} {E : Value → Shared → Prop} {i : Nat} {x : Str} {v : V} {u : Value} {Q : Unit → Shared → Prop} (I : Inv X pins σ H s) (hN : X.N.Nodup) (hi : X.N[i]? = some x) (hx : Loc X.env.scope x) (r : RelV v u)
    (h : ∀ s', Inv X pins (σ.set i (some v)) H s' → Q () s') (hf : X.fn x = true ∨ X.env.scope.names.lookup x = some .local := by first | exact .inl rfl | exact .inr rfl | assumption) : wpAny M A (storeName X.env x u) Q E s :=
  store_ok2 I hN hi hx r (fun s' I' _ => h s' I') hf
/-- behind a call or a block, the state as it is -/
theorem Inv.call' {s' : Shared} {ch : List Addr} (I : Inv X pins σ H s) (ho : s'.os = s.os) (u : Un (frs X.stack) ch H H' s.heap s'.heap) (hok : HOk X.prog X.w H' s'.heap) (hg : AllBare s'.gens)
    (hch : ∀ b ∈ ch, (b ∈ X.ex ∨ X.s₀.heap.objs.size ≤ b) ∧ b ≠ X.env.locals ∧ (∀ x c, X.env.cells.lookup x = some c → c ≠ b) ∧ ∀ p ∈ X.pn ++ pins, p.1 ≠ b) : Inv X pins σ H' s' := by
  obtain ⟨h', g', d', t', o'⟩ := s'
  have e : o' = s.os := ho
  subst e
  exact I.call (g' := g') (t' := t') (d' := d') u hok hg hch
end

/-! ### the judgements -/
/-- an exception: its class, its own dict's address (where it has one), the abstract heap behind it -/
abbrev XK := Value → Option Addr → Hp → Prop
abbrev St := List (Option V)
abbrev VK := V → Hp → Prop
/-- an expression's reading; a test's; an argument list's -/
abbrev TE := St → Hp → VK → Prop
abbrev TT := St → Hp → (Bool → Hp → Prop) → Prop
abbrev TA := St → Hp → (List V → Hp → Prop) → Prop
/-- what is wanted behind a statement -/
structure Ends where
  nx : St → Hp → Prop
  rt : VK
  bk : St → Hp → Prop := fun _ _ => False
  ct : St → Hp → Prop := fun _ _ => False
abbrev TS := Ends → St → Hp → Prop

def EP (X : Cx) (pins : List (Addr × Obj)) (σ : St) (Q : VK) (u : Value) (s' : Shared) : Prop := ∃ v H', Inv X pins σ H' s' ∧ RelV v u ∧ Q v H'
def TP (X : Cx) (pins : List (Addr × Obj)) (σ : St) (Q : Bool → Hp → Prop) (b : Bool) (s' : Shared) : Prop := ∃ H', Inv X pins σ H' s' ∧ Q b H'
def AP (X : Cx) (pins : List (Addr × Obj)) (σ : St) (Q : List V → Hp → Prop) (us : List Value) (s' : Shared) : Prop := ∃ vs H', Inv X pins σ H' s' ∧ Vals vs us ∧ Q vs H'
def SP (X : Cx) (pins : List (Addr × Obj)) (D : Ends) (f : Flow) (s' : Shared) : Prop :=
  match f with
  | .next => ∃ σ' H', Inv X pins σ' H' s' ∧ D.nx σ' H'
  | .brk => ∃ σ' H', Inv X pins σ' H' s' ∧ D.bk σ' H'
  | .cont => ∃ σ' H', Inv X pins σ' H' s' ∧ D.ct σ' H'
  | .ret u => ∃ v σ' H', Inv X pins σ' H' s' ∧ RelV v u ∧ D.rt v H'

def PE (X : Cx) (e : Expr) (t : TE) : Prop :=
  ∀ (pins : List (Addr × Obj)) (s : Shared) (σ : St) (H : Hp) (Q : VK), Inv X pins σ H s → t σ H Q → wpAny (model X.prog X.w) X.A (eval e X.env) (EP X pins σ Q) X.xe s
def PT (X : Cx) (e : Expr) (t : TT) : Prop :=
  ∀ (pins : List (Addr × Obj)) (s : Shared) (σ : St) (H : Hp) (Q : Bool → Hp → Prop), Inv X pins σ H s → t σ H Q → wpAny (model X.prog X.w) X.A (isTrue e X.env (eval e X.env)) (TP X pins σ Q) X.xe s
/-- a test whatever its 'whole' is (and, or) -/
def PW (X : Cx) (e : Expr) (t : TT) : Prop :=
  ∀ (whole : Sem Value) (pins : List (Addr × Obj)) (s : Shared) (σ : St) (H : Hp) (Q : Bool → Hp → Prop), Inv X pins σ H s → t σ H Q → wpAny (model X.prog X.w) X.A (isTrue e X.env whole) (TP X pins σ Q) X.xe s
theorem PW.pt {X : Cx} {e : Expr} {t : TT} (h : PW X e t) : PT X e t := h _
/-- an argument list (no star), from the left -/
def PA (X : Cx) (es : List Expr) (t : TA) : Prop :=
  ∀ (pos : Pos) (pins : List (Addr × Obj)) (s : Shared) (σ : St) (H : Hp) (Q : List V → Hp → Prop), Inv X pins σ H s → t σ H Q → wpAny (model X.prog X.w) X.A (spliced (backTo pos (starEach es X.env))) (AP X pins σ Q) X.xe s
def PS (X : Cx) (st : Stmt) (t : TS) : Prop :=
  ∀ (pins : List (Addr × Obj)) (s : Shared) (σ : St) (H : Hp) (D : Ends), Inv X pins σ H s → t D σ H → wpAny (model X.prog X.w) X.A (exec st X.env) (SP X pins D) X.xe s
def PSs (X : Cx) (st : List Stmt) (t : TS) : Prop :=
  ∀ (pins : List (Addr × Obj)) (s : Shared) (σ : St) (H : Hp) (D : Ends), Inv X pins σ H s → t D σ H → wpAny (model X.prog X.w) X.A (execs st X.env) (SP X pins D) X.xe s
/-- weaken the end -/
theorem thn {α : Type} {t : Sem α} {Q Q' : α → Shared → Prop} {M : Model} {A : Around} {E : Value → Shared → Prop} {s : Shared} (h : wpAny M A t Q E s) (hQ : ∀ a s, Q a s → Q' a s) : wpAny M A t Q' E s := wpAny_mono h hQ fun _ _ x => x
end L2

namespace L2
open PySem PySem.Spec PyProof.Rows
section
variable {X : Cx}

/-- two expressions in a row -/
theorem bin {a b : Expr} {ta tb : TE} (ha : PE X a ta) (hb : PE X b tb) {pins : List (Addr × Obj)} {s : Shared} {σ : St} {H : Hp} {R : V → V → Hp → Prop} (I : Inv X pins σ H s) (h : ta σ H fun x H1 => tb σ H1 fun y H2 => R x y H2)
    {α : Type} {Q : α → Shared → Prop} {f : Value → Value → Sem α}
    (hf : ∀ v u s2 x y H2, Inv X pins σ H2 s2 → RelV x v → RelV y u → R x y H2 → wpAny (model X.prog X.w) X.A (f v u) Q X.xe s2) :
    wpAny (model X.prog X.w) X.A (eval a X.env) (fun v s₁ => wpAny (model X.prog X.w) X.A (eval b X.env) (fun u s₂ => wpAny (model X.prog X.w) X.A (f v u) Q X.xe s₂) X.xe s₁) X.xe s := by
  refine thn (ha pins s σ H _ I h) fun v s1 ⟨x, H1, I1, r1, q1⟩ => ?_
  refine thn (hb pins s1 σ H1 _ I1 q1) fun u s2 ⟨y, H2, I2, r2, q2⟩ => ?_
  exact hf v u s2 x y H2 I2 r1 r2 q2

/-! ### names and constants -/
def tVar (i : Nat) : TE := fun σ H Q => ∃ v, σ[i]? = some (some v) ∧ Q v H
def tC (v : V) : TE := fun _ H Q => Q v H
theorem pe_var {i : Nat} {x : Str} {pos : Pos} (hN : X.N[i]? = some x) (hv : Vis X.env.scope x) (hd : (x == ("__debug__" : Str)) = false := by decide) (hcd : (x == ("__classdict__" : Str)) = false := by decide) : PE X (.Name x pos) (tVar i) := by
  intro pins s σ H Q I h
  obtain ⟨v, e, h⟩ := h
  obtain ⟨m, hn, hl⟩ := I.loc
  obtain ⟨u, r, l⟩ := hl i x v hN e hv
  have fin : EP X pins σ Q u s := ⟨v, H, I, r, h⟩
  rcases l with ⟨hk, hm⟩ | ⟨hk, c, hc, hcell⟩
  · exact wpAny_Name (wpAny_loadName_local I.ok.kind hk hn hm fin) hd
  · rcases hk with hk | hk
    · exact wpAny_Name (wpAny_loadName_cell I.ok.kind hk hc hcell fin) hd
    · exact wpAny_Name (wpAny_loadName_free I.ok.kind hk hc hcell fin hcd) hd
theorem pe_int {i j pos} : PE X (.Constant (.int i) j pos) (tC (.int i)) := fun _ _ _ H _ I h => wpAny_Constant_int ⟨.int i, H, I.tok _, ⟨_, rfl⟩, h⟩
theorem pe_bl {b j pos} : PE X (.Constant (.bool b) j pos) (tC (.bl b)) := fun _ _ _ H _ I h => Constant_bool ⟨.bl b, H, I, rfl, h⟩
theorem pe_non {j pos} : PE X (.Constant .none j pos) (tC .non) := fun _ _ _ H _ I h => Constant_none ⟨.non, H, I, rfl, h⟩
theorem pe_str {x j pos} : PE X (.Constant (.str x) j pos) (tC (.str x)) := fun _ _ _ H _ I h => Calls.Constant_str ⟨.str x, H, I.tok _, ⟨_, rfl⟩, h⟩

/-- a global name of the def -/
def Gl (X : Cx) (x : Str) : Prop := X.env.kindOf x = some .globalImplicit
theorem ld_glob {E : Value → Shared → Prop} {pins : List (Addr × Obj)} {s : Shared} {σ : St} {H : Hp} {x : Str} {u : Value} {pos : Pos} {Q : Value → Shared → Prop} (I : Inv X pins σ H s) (hg : Gl X x) (hm : X.mg x = some u) (h : Q u s)
    (hd : (x == ("__debug__" : Str)) = false := by decide) : wpAny (model X.prog X.w) X.A (eval (.Name x pos) X.env) Q E s :=
  Calls.Name_function_global I.ok.kind hg (Calls.loadGlobal_global (by rw [I.ok.glob]; exact I.mod.glob.keeps I.bk) hm h) hd
theorem ld_blt {E : Value → Shared → Prop} {pins : List (Addr × Obj)} {s : Shared} {σ : St} {H : Hp} {x : Str} {u : Value} {pos : Pos} {Q : Value → Shared → Prop} (I : Inv X pins σ H s) (hg : Gl X x) (hm : X.mg x = none) (hv : bootBuiltins x = some u) (h : Q u s)
    (hn : x ≠ "__name__" := by decide) (hd : (x == ("__debug__" : Str)) = false := by decide) : wpAny (model X.prog X.w) X.A (eval (.Name x pos) X.env) Q E s := by
  obtain ⟨mb, h1, h2⟩ := I.mod.blt
  exact Calls.Name_function_global I.ok.kind hg (Calls.loadGlobal_builtin (by rw [I.ok.glob]; exact I.mod.glob.keeps I.bk) hm (by rw [I.ok.blt]; exact h1.keeps I.bk) ((h2 x hn).trans hv) h) hd
/-- a module's constant, a class, a function, as a value -/
theorem pe_glob {x : Str} {v : V} {u : Value} {pos : Pos} (hg : Gl X x) (hm : X.mg x = some u) (r : RelV v u) (hd : (x == ("__debug__" : Str)) = false := by decide) : PE X (.Name x pos) (tC v) :=
  fun _ _ _ H _ I h => ld_glob I hg hm ⟨v, H, I, r, h⟩ hd
theorem pe_bltn {x : Str} {v : V} {u : Value} {pos : Pos} (hg : Gl X x) (hm : X.mg x = none) (hv : bootBuiltins x = some u) (r : RelV v u) (hn : x ≠ "__name__" := by decide) (hd : (x == ("__debug__" : Str)) = false := by decide) : PE X (.Name x pos) (tC v) :=
  fun _ _ _ H _ I h => ld_blt I hg hm hv ⟨v, H, I, r, h⟩ hn hd

/-! ### arithmetic -/
/-- two ints -/
def t2I (ta tb : TE) (k : Int → Int → Hp → Prop) : St → Hp → Prop := fun σ H => ta σ H fun x H1 => tb σ H1 fun y H2 => ∃ i j, x = .int i ∧ y = .int j ∧ k i j H2
def tAdd (ta tb : TE) : TE := fun σ H Q => t2I ta tb (fun i j H2 => Q (.int (i + j)) H2) σ H
def tSub (ta tb : TE) : TE := fun σ H Q => t2I ta tb (fun i j H2 => Q (.int (i - j)) H2) σ H
/-- the left factor below 2^64 -/
def tMul (ta tb : TE) : TE := fun σ H Q => t2I ta tb (fun i j H2 => (-(2 ^ 64) < i ∧ i < 2 ^ 64) ∧ Q (.int (i * j)) H2) σ H
variable {a b : Expr} {ta tb : TE} {pos : Pos}

/-! ### comparisons -/
def PC (X : Cx) (op : CmpOp) (a b : Expr) (t : TE) : Prop :=
  ∀ (pins : List (Addr × Obj)) (s : Shared) (σ : St) (H : Hp) (Q : VK), Inv X pins σ H s → t σ H Q →
    wpAny (model X.prog X.w) X.A (eval a X.env) (fun v s₁ => wpAny (model X.prog X.w) X.A (eval b X.env) (fun u s₂ => wpAny (model X.prog X.w) X.A (compareOp op v u) (EP X pins σ Q) X.xe s₂) X.xe s₁) X.xe s
def tCmp (p : Int → Int → Bool) (ta tb : TE) : TE := fun σ H Q => t2I ta tb (fun i j H2 => Q (.bl (p i j)) H2) σ H
abbrev tLt : TE → TE → TE := tCmp fun i j => decide (i < j)
abbrev tLe : TE → TE → TE := tCmp fun i j => decide (i ≤ j)
abbrev tGt : TE → TE → TE := tCmp fun i j => decide (j < i)
abbrev tGe : TE → TE → TE := tCmp fun i j => decide (j ≤ i)
abbrev tEqI : TE → TE → TE := tCmp fun i j => decide (i = j)
abbrev tNeI : TE → TE → TE := tCmp fun i j => !decide (i = j)
/-- a comparison of two ints, by its rule -/
theorem pc_int {op : CmpOp} {p : Int → Int → Bool} (ha : PE X a ta) (hb : PE X b tb)
    (rule : ∀ (i j : Int) (t u : Tok) (Q : Value → Shared → Prop) (s : Shared), Q (.bool (p i j)) s → wpAny (model X.prog X.w) X.A (compareOp op (.int i t) (.int j u)) Q X.xe s) : PC X op a b (tCmp p ta tb) := by
  intro pins s σ H Q I h
  refine bin ha hb I h fun v u s2 x y H2 I2 rx ry q => ?_
  obtain ⟨i, j, rfl, rfl, q⟩ := q
  obtain ⟨t, rfl⟩ := rx
  obtain ⟨t', rfl⟩ := ry
  exact rule i j t t' _ s2 ⟨.bl _, H2, I2, rfl, q⟩
/-- is None -/
def tIsN (ta : TE) : TE := fun σ H Q => ta σ H fun x H1 => Q (.bl (decide (x = .non))) H1
def tNotN (ta : TE) : TE := fun σ H Q => ta σ H fun x H1 => Q (.bl (!decide (x = .non))) H1
/-- a comparison as a value, as a test -/
def tB (t : TE) : TT := fun σ H Q => t σ H fun x H1 => ∃ c, x = .bl c ∧ Q c H1
theorem pt_cmp {op : CmpOp} {t : TE} (h : PC X op a b t) (h1 : behindInMarks op b = false := by first | exact nobehind _ (by decide) (by decide) | rfl) : PT X (.Compare a [op] [b] pos) (tB t) := by
  intro pins s σ H Q I hw
  refine wpAny_isTrue_Compare1 (thn (h pins s σ H _ I hw) fun v s1 h1 => thn h1 fun u s2 h2 => thn h2 fun c s3 ⟨x, H1, I1, r1, q1⟩ => ?_) h1
  obtain ⟨d, rfl, q⟩ := q1
  cases r1
  exact wpAny_truthy_bool ⟨H1, I1, q⟩
/-- an expression whose value is a bool, as a test -/
theorem pt_val {e : Expr} {t : TE} (h : PE X e t) (he : ∀ whole, isTrue e X.env whole = (do let v ← whole; standAt e.pos; holding [v] (truthy v)) := by intro _; rfl) : PT X e (tB t) := by
  intro pins s σ H Q I hw
  refine isTrue_plain (thn (h pins s σ H _ I hw) fun v s1 ⟨x, H1, I1, r1, q1⟩ => ?_) (he _)
  obtain ⟨d, rfl, q⟩ := q1
  cases r1
  exact wpAny_truthy_bool ⟨H1, I1, q⟩

/-! ### and, or, not -/
variable {tA tB' : TT} {rest : List Expr}
def tAnd (t u : TT) : TT := fun σ H Q => t σ H fun c H1 => if c = true then u σ H1 Q else Q false H1
def tOr (t u : TT) : TT := fun σ H Q => t σ H fun c H1 => if c = true then Q true H1 else u σ H1 Q
def tNot (t : TT) : TT := fun σ H Q => t σ H fun c H1 => Q (!c) H1
theorem pw_and1 (ha : PT X a tA) : PW X (.BoolOp .And [a] pos) tA := by
  intro wh pins s σ H Q I h
  refine isTrue_and (thn (ha pins s σ H Q I h) fun c s1 e => ?_)
  cases c with
  | true => exact isTrue_and_nil e
  | false => exact e
theorem pw_or1 (ha : PT X a tA) : PW X (.BoolOp .Or [a] pos) tA := by
  intro wh pins s σ H Q I h
  refine isTrue_or (thn (ha pins s σ H Q I h) fun c s1 e => ?_)
  cases c with
  | false => exact isTrue_or_nil e
  | true => exact e
theorem pw_and (ha : PT X a tA) (hb : PW X (.BoolOp .And (b :: rest) pos) tB') : PW X (.BoolOp .And (a :: b :: rest) pos) (tAnd tA tB') := by
  intro wh pins s σ H Q I h
  refine isTrue_and (thn (ha pins s σ H _ I h) fun c s1 ⟨H1, I1, q1⟩ => ?_)
  cases c with
  | true => exact hb wh pins s1 σ H1 Q I1 q1
  | false => exact ⟨H1, I1, q1⟩
theorem pw_or (ha : PT X a tA) (hb : PW X (.BoolOp .Or (b :: rest) pos) tB') : PW X (.BoolOp .Or (a :: b :: rest) pos) (tOr tA tB') := by
  intro wh pins s σ H Q I h
  refine isTrue_or (thn (ha pins s σ H _ I h) fun c s1 ⟨H1, I1, q1⟩ => ?_)
  cases c with
  | true => exact ⟨H1, I1, q1⟩
  | false => exact hb wh pins s1 σ H1 Q I1 q1
theorem pt_not (ha : PT X a tA) : PT X (.UnaryOp .Not a pos) (tNot tA) := by
  intro pins s σ H Q I h
  exact isTrue_not (ha pins s σ H (fun c H1 => Q (!c) H1) I h)
/-- .. as values (bools) -/
def tAndV (ta tb : TE) : TE := fun σ H Q => ta σ H fun x H1 => ∃ c, x = .bl c ∧ if c = true then tb σ H1 Q else Q (.bl false) H1
def tOrV (ta tb : TE) : TE := fun σ H Q => ta σ H fun x H1 => ∃ c, x = .bl c ∧ if c = true then Q (.bl true) H1 else tb σ H1 Q
def tNotV (ta : TE) : TE := fun σ H Q => ta σ H fun x H1 => ∃ c, x = .bl c ∧ Q (.bl (!c)) H1
theorem pe_one {op} {t : TE} (h : PE X a t) : PE X (.BoolOp op [a] pos) t := fun pins s σ H Q I hw => BoolOp_one (h pins s σ H Q I hw)
theorem pe_and (ha : PE X a ta) (hb : PE X (.BoolOp .And (b :: rest) pos) tb) : PE X (.BoolOp .And (a :: b :: rest) pos) (tAndV ta tb) := by
  intro pins s σ H Q I h
  refine BoolOp_and (thn (ha pins s σ H _ I h) fun v s1 ⟨x, H1, I1, r1, q1⟩ => ?_)
  obtain ⟨c, rfl, q1⟩ := q1
  cases r1
  refine wpAny_truthy_bool ?_
  cases c with
  | true => exact hb pins s1 σ H1 Q I1 q1
  | false => exact ⟨.bl false, H1, I1, rfl, q1⟩
/-- a if t else b -/
def tIf (t : TT) (ta tb : TE) : TE := fun σ H Q => t σ H fun c H1 => if c = true then ta σ H1 Q else tb σ H1 Q
theorem pe_ifExp {c : Expr} (hc : PT X c tA) (ha : PE X a ta) (hb : PE X b tb) : PE X (.IfExp c a b pos) (tIf tA ta tb) := by
  intro pins s σ H Q I h
  refine wpAny_IfExp (thn (hc pins s σ H _ I h) fun d s1 ⟨H1, I1, q1⟩ => ?_)
  cases d with
  | true => exact ha pins s1 σ H1 Q I1 q1
  | false => exact hb pins s1 σ H1 Q I1 q1
end
end L2

namespace L2
open PySem PySem.Spec PyProof.Rows

/-! ### a list, a tuple that is read: tracked, frozen, or an object of the module -/
def SqL (K : PySem.W.Frag) (H : Hp) (a : Addr) (xs : List V) : Prop :=
  Rd H a (.lst xs) ∨
    ∃ (o : Obj) (its : Array Value) (n : Nat), K.lookup a = some o ∧ o.cls = .type "list" ∧ o.dict = none ∧ o.data = .seq its n ∧ its.size ≤ sizeLine ∧ Vals xs its.toList
def SqT (K : PySem.W.Frag) (H : Hp) (a : Addr) (xs : List V) : Prop :=
  Rd H a (.tup xs) ∨
    ∃ (o : Obj) (its : Array Value) (n : Nat), K.lookup a = some o ∧ o.cls = .type "tuple" ∧ o.data = .seq its n ∧ its.size ≤ sizeLine ∧ Vals xs its.toList
def absV : Value → Option V
  | .none => some .non
  | .bool b => some (.bl b)
  | .int i _ => some (.int i)
  | .str x _ => some (.str x)
  | .bytes b _ => some (.byt b)
  | .float b _ => some (.flt b)
  | .ref a => some (.ref a)
  | .type n => some (.ty n)
  | _ => none
theorem RelV.abs {x : V} {u : Value} (r : RelV x u) : absV u = some x := by
  cases x with
  | non => cases r; rfl
  | bl _ => cases r; rfl
  | int _ => obtain ⟨t, rfl⟩ := r; rfl
  | str _ => obtain ⟨t, rfl⟩ := r; rfl
  | byt _ => obtain ⟨t, rfl⟩ := r; rfl
  | flt _ => obtain ⟨t, rfl⟩ := r; rfl
  | ref _ => cases r; rfl
  | ty _ => cases r; rfl
theorem RelV.inj {x y : V} {u : Value} (r : RelV x u) (q : RelV y u) : x = y := Option.some.inj (r.abs.symm.trans q.abs)
theorem Vals.inj : ∀ {xs ys : List V} {us : List Value}, Vals xs us → Vals ys us → xs = ys
  | _, _, _, .nil, .nil => rfl
  | _, _, _, .cons r t, .cons r' t' => by rw [r.inj r', Vals.inj t t']
section
variable {X : Cx} {pins : List (Addr × Obj)} {σ : St} {H : Hp} {s : Shared} {a : Addr} {xs ys : List V}
theorem SqL.of {K : PySem.W.Frag} (h : H a = some (.lst xs)) : SqL K H a xs := .inl (.inl h)
theorem SqT.of {K : PySem.W.Frag} (h : H a = some (.tup xs)) : SqT K H a xs := .inl (.inl h)
theorem Inv.list (I : Inv X pins σ H s) (h : SqL X.K H a xs) : ∃ its : List Value, Vals xs its ∧ PlainL s.heap a its.toArray ∧ xs.length ≤ sizeLine := by
  rcases h with h | ⟨o, its, n, hk, hc, hd, hs, hz, r⟩
  · obtain ⟨z, its, n, r, e⟩ := h.ok I.hok
    exact ⟨its, r, ⟨_, n, e, rfl, rfl, rfl⟩, z⟩
  · refine ⟨its.toList, r, ⟨o, n, I.kIn a o hk, hc, hd, by simpa using hs⟩, ?_⟩
    have e := r.length
    simp only [Array.length_toList] at e
    omega
theorem Inv.tuple (I : Inv X pins σ H s) (h : SqT X.K H a xs) : ∃ its : List Value, Vals xs its ∧ IsTup s.heap a its.toArray ∧ xs.length ≤ sizeLine := by
  rcases h with h | ⟨o, its, n, hk, hc, hs, hz, r⟩
  · obtain ⟨z, its, r, p⟩ := h.ok I.hok
    exact ⟨its, r, p, z⟩
  · refine ⟨its.toList, r, ⟨o, I.kIn a o hk, hc, n, by simpa using hs⟩, ?_⟩
    have e := r.length
    simp only [Array.length_toList] at e
    omega
theorem Inv.list_inj (I : Inv X pins σ H s) (h : SqL X.K H a xs) (h' : SqL X.K H a ys) : xs = ys := by
  obtain ⟨its, r, ⟨o, n, e, _, _, d⟩, _⟩ := I.list h
  obtain ⟨its', r', ⟨o', n', e', _, _, d'⟩, _⟩ := I.list h'
  rw [e] at e'; cases e'
  rw [d] at d'
  injection d' with d1 _
  have : its = its' := by simpa using congrArg Array.toList d1
  subst this
  exact r.inj r'
theorem Inv.tuple_inj (I : Inv X pins σ H s) (h : SqT X.K H a xs) (h' : SqT X.K H a ys) : xs = ys := by
  obtain ⟨its, r, ⟨o, e, _, n, d⟩, _⟩ := I.tuple h
  obtain ⟨its', r', ⟨o', e', _, n', d'⟩, _⟩ := I.tuple h'
  rw [e] at e'; cases e'
  rw [d] at d'
  injection d' with d1 _
  have : its = its' := by simpa using congrArg Array.toList d1
  subst this
  exact r.inj r'
end

/-! ### another wish about exceptions -/
abbrev Cx.wish (X : Cx) (E : Value → Shared → Prop) : Cx := { X with xe := E }
/-- no exception leaves -/
abbrev Cx.nox (X : Cx) : Cx := X.wish fun _ _ => False
theorem Cx.Ok.wish {X : Cx} (ok : X.Ok) (E : Value → Shared → Prop) : (X.wish E).Ok :=
  ⟨ok.mod, ok.kind, ok.glob, ok.blt, ok.above, ok.inj, ok.has, ok.cab, ok.hd, ok.frames, ok.stk, ok.exf, ok.bs, ok.bsz, ok.noex, ok.exfs, ok.funs, ok.frf⟩
theorem Cx.Ok.unwish {X : Cx} {E : Value → Shared → Prop} (ok : (X.wish E).Ok) : X.Ok :=
  ⟨ok.mod, ok.kind, ok.glob, ok.blt, ok.above, ok.inj, ok.has, ok.cab, ok.hd, ok.frames, ok.stk, ok.exf, ok.bs, ok.bsz, ok.noex, ok.exfs, ok.funs, ok.frf⟩
section
variable {X : Cx} {pins : List (Addr × Obj)} {σ : St} {H : Hp} {s : Shared} {E : Value → Shared → Prop}
theorem Inv.wish (I : Inv X pins σ H s) (E : Value → Shared → Prop) : Inv (X.wish E) pins σ H s := ⟨I.ok.wish E, I.os, I.bare, I.base, I.loc, I.cell, I.free, I.freeC, I.pin, I.hok, I.len⟩
theorem Inv.unwish (I : Inv (X.wish E) pins σ H s) : Inv X pins σ H s := ⟨I.ok.unwish, I.os, I.bare, I.base, I.loc, I.cell, I.free, I.freeC, I.pin, I.hok, I.len⟩
theorem SP.unwish {D : Ends} {f : Flow} {s' : Shared} (h : SP (X.wish E) pins D f s') : SP X pins D f s' := by
  cases f with
  | next => obtain ⟨σ', H', I, q⟩ := h; exact ⟨σ', H', I.unwish, q⟩
  | brk => obtain ⟨σ', H', I, q⟩ := h; exact ⟨σ', H', I.unwish, q⟩
  | cont => obtain ⟨σ', H', I, q⟩ := h; exact ⟨σ', H', I.unwish, q⟩
  | ret u => obtain ⟨v, σ', H', I, r, q⟩ := h; exact ⟨v, σ', H', I.unwish, r, q⟩
theorem PSs.nox {st : List Stmt} {t : TS} (h : PSs X.nox st t) : PSs X st t := fun pins s σ H D I hw =>
  wpAny_mono (h pins s σ H D (I.wish _) hw) (fun _ _ q => q.unwish) fun _ _ z => False.elim z
end

/-! ### blocks and small statements -/
section
variable {X : Cx} {st : Stmt} {rest : List Stmt} {t u : TS} {e : Expr} {te : TE} {pos : Pos}
def tNext : TS := fun D σ H => D.nx σ H
def tSeq (t u : TS) : TS := fun D σ H => t { D with nx := u D } σ H
theorem pss_nil : PSs X [] tNext := fun _ _ σ H _ I h => wpAny_execs_nil ⟨σ, H, I, h⟩
theorem pss_cons (h1 : PS X st t) (h2 : PSs X rest u) : PSs X (st :: rest) (tSeq t u) := by
  intro pins s σ H D I h
  refine wpAny_execs_cons (thn (h1 pins s σ H { D with nx := u D } I h) fun f s1 q => ?_)
  cases f with
  | next =>
    obtain ⟨σ', H', I', q⟩ := q
    exact h2 pins s1 σ' H' D I' q
  | ret v => exact q
  | brk => exact q
  | cont => exact q
theorem pss_one (h1 : PS X st t) : PSs X [st] t := by
  intro pins s σ H D I h
  refine wpAny_execs_cons (thn (h1 pins s σ H D I h) fun f s1 q => ?_)
  cases f with
  | next => exact wpAny_execs_nil q
  | ret v => exact q
  | brk => exact q
  | cont => exact q
def tBreak : TS := fun D σ H => D.bk σ H
def tCont : TS := fun D σ H => D.ct σ H
/-- in a def's body nothing is shown -/
theorem Inv.quiet {pins : List (Addr × Obj)} {σ : St} {H : Hp} {s : Shared} (I : Inv X pins σ H s) : interactive X.env = false := by simp [interactive, I.ok.kind]
/-- a docstring -/
theorem ps_doc {x j pos pos'} : PS X (.Expr (.Constant (.str x) j pos) pos') tNext := fun _ s σ H _ I h => wpAny_Expr (Calls.Constant_str (show SP X _ _ .next { s with toks := s.toks + 1 } from ⟨σ, H, I.tok _, h⟩)) I.quiet
/-- an expression whose value is dropped -/
def tDrop (te : TE) : TS := fun D σ H => te σ H fun _ H1 => D.nx σ H1
theorem ps_expr (he : PE X e te) (hs : swapsWith e none pos.line X.env = pure false := by rfl) : PS X (.Expr e pos) (tDrop te) := by
  intro pins s σ H D I h
  exact wpAny_Expr_any (thn (he pins s σ H _ I h) fun v s1 ⟨x, H1, I1, r1, q1⟩ => ⟨σ, H1, I1, q1⟩) I.quiet hs
def tRet (te : TE) : TS := fun D σ H => te σ H D.rt
theorem ps_ret (he : PE X e te) : PS X (.Return (some e) pos) (tRet te) := by
  intro pins s σ H D I h
  exact wpAny_Return_some (thn (he pins s σ H _ I h) fun v s1 ⟨x, H1, I1, r1, q1⟩ => ⟨x, σ, H1, I1, r1, q1⟩)
def tRetN : TS := fun D _ H => D.rt .non H
def tIfS (c : TT) (t u : TS) : TS := fun D σ H => c σ H fun b H1 => if b = true then t D σ H1 else u D σ H1
theorem ps_if {c : Expr} {a b : List Stmt} {tc : TT} (hc : PT X c tc) (ha : PSs X a t) (hb : PSs X b u) : PS X (.If c a b pos) (tIfS tc t u) := by
  intro pins s σ H D I h
  refine wpAny_If (thn (hc pins s σ H _ I h) fun d s1 ⟨H1, I1, q1⟩ => ?_)
  cases d with
  | true => exact ha pins s1 σ H1 D I1 q1
  | false => exact hb pins s1 σ H1 D I1 q1
/-- code that the proof never comes to -/
def tNever : TS := fun _ _ _ => False
end

/-! ### targets -/
abbrev TG := V → St → Hp → (St → Hp → Prop) → Prop
abbrev TGs := List V → St → Hp → (St → Hp → Prop) → Prop
def PG (X : Cx) (target : Expr) (t : TG) : Prop :=
  ∀ (pins : List (Addr × Obj)) (s : Shared) (σ : St) (H : Hp) (v : V) (u : Value) (Q : St → Hp → Prop), Inv X pins σ H s → RelV v u → t v σ H Q →
    wpAny (model X.prog X.w) X.A (assign target X.env u) (fun _ s' => ∃ σ' H', Inv X pins σ' H' s' ∧ Q σ' H') X.xe s
/-- several targets, one after another -/
def PGs (X : Cx) (ts : List Expr) (t : TGs) : Prop :=
  ∀ (pins : List (Addr × Obj)) (s : Shared) (σ : St) (H : Hp) (vs : List V) (us : List Value) (Q : St → Hp → Prop), Inv X pins σ H s → Vals vs us → t vs σ H Q →
    wpAny (model X.prog X.w) X.A (assignInOrder ((assignEach ts X.env).map (·.2)) us) (fun _ s' => ∃ σ' H', Inv X pins σ' H' s' ∧ Q σ' H') X.xe s
/-- o[i] = v, by values -/
abbrev TSet := V → V → V → Hp → (Hp → Prop) → Prop
def PSet (X : Cx) (t : TSet) : Prop :=
  ∀ (pins : List (Addr × Obj)) (s : Shared) (σ : St) (H : Hp) (o i v : V) (ov iv u : Value) (Q : Hp → Prop), Inv X pins σ H s → RelV o ov → RelV i iv → RelV v u → t o i v H Q →
    wpAny (model X.prog X.w) X.A (setItem ov iv u) (fun _ s' => ∃ H', Inv X pins σ H' s' ∧ Q H') X.xe s
/-- a op= b, by values -/
abbrev TIp := V → V → Hp → VK → Prop
def PIp (X : Cx) (op : Operator) (t : TIp) : Prop :=
  ∀ (pins : List (Addr × Obj)) (s : Shared) (σ : St) (H : Hp) (x y : V) (v u : Value) (Q : VK), Inv X pins σ H s → RelV x v → RelV y u → t x y H Q →
    wpAny (model X.prog X.w) X.A (inplaceOp op v u) (EP X pins σ Q) X.xe s
section
variable {X : Cx} {pos : Pos}
def gName (i : Nat) : TG := fun v σ H Q => Q (σ.set i (some v)) H
theorem pg_name {i : Nat} {x : Str} (hN : X.N.Nodup) (hi : X.N[i]? = some x) (hx : Loc X.env.scope x) (hf : X.fn x = true ∨ X.env.scope.names.lookup x = some .local := by first | exact .inl rfl | exact .inr rfl | assumption) : PG X (.Name x pos) (gName i) := by
  intro pins s σ H v u Q I r h
  exact wpAny_assign_Name (store_ok I hN hi hx r (fun s' I' => ⟨_, H, I', h⟩) hf)
def gNil : TGs := fun vs σ H Q => vs = [] ∧ Q σ H
def gCons (t : TG) (u : TGs) : TGs := fun vs σ H Q => ∃ v r, vs = v :: r ∧ t v σ H fun σ' H' => u r σ' H' Q
theorem pgs_nil : PGs X [] gNil := by
  intro pins s σ H vs us Q I r h
  obtain ⟨e, h⟩ := h
  subst e
  cases r
  exact assignInOrder_nil ⟨σ, H, I, h⟩
theorem pgs_cons {e : Expr} {es : List Expr} {t : TG} {u : TGs} (h1 : PG X e t) (h2 : PGs X es u)
    (hs : (assignEach (e :: es) X.env).map (·.2) = assign e X.env :: (assignEach es X.env).map (·.2) := by rfl) : PGs X (e :: es) (gCons t u) := by
  intro pins s σ H vs us Q I r h
  obtain ⟨v, vr, e1, h⟩ := h
  subst e1
  cases r with
  | cons r rr =>
    rw [hs]
    refine assignInOrder_cons (thn (h1 pins s σ H _ _ _ I r h) fun _ s1 ⟨σ1, H1, I1, q1⟩ => ?_)
    exact h2 pins s1 σ1 H1 _ _ Q I1 rr q1
/-- (a, b, ..) = a tuple of that length -/
def gTup (K : PySem.W.Frag) (n : Nat) (t : TGs) : TG := fun v σ H Q => ∃ a xs, v = .ref a ∧ SqT K H a xs ∧ xs.length = n ∧ t xs σ H Q
theorem pg_tup {es : List Expr} {k : Nat} {t : TGs} {n : Nat} (hc : X.calm = true) (h : PGs X es t)
    (hn : (assignEach es X.env).length = n := by rfl) (hst : (assignEach es X.env).findIdx? (·.1) = none := by rfl) : PG X (.Tuple es k pos) (gTup X.K n t) := by
  intro pins s σ H v u Q I r hw
  obtain ⟨a, xs, e1, hq, hl, hw⟩ := hw
  subst e1
  cases r
  obtain ⟨its, rv, ht, hz⟩ := I.tuple hq
  refine assign_Tuple_tuple (I.ok.hd hc) ht (by simp [hn, ← hl, rv.length]) hst fun h' hx => ?_
  have I1 : Inv X pins σ H { s with heap := h' } := I.kept (t' := s.toks) fun b o e => hx b o (Nat.ne_of_lt (Heap.lt_size e)) e
  exact h pins _ σ H xs _ Q I1 (by simpa using rv) hw
/-- o[i] = .. -/
def gSub (to ti : TE) (t : TSet) : TG := fun v σ H Q => to σ H fun o H1 => ti σ H1 fun i H2 => t o i v H2 fun H3 => Q σ H3
/-- target = value -/
def tAsg (te : TE) (g : TG) : TS := fun D σ H => te σ H fun x H1 => g x σ H1 D.nx
theorem ps_asg {tg e : Expr} {te : TE} {g : TG} (he : PE X e te) (hg : PG X tg g) (hs : swapsWithSole [tg] e pos.line X.env = pure false := by rfl) (hw : swappedStores [tg] e X.env = pure none := by rfl)
    (h1 : (assignEach [tg] X.env).map (·.2) = [assign tg X.env] := by rfl) : PS X (.Assign [tg] e pos) (tAsg te g) := by
  intro pins s σ H D I h
  refine wpAny_Assign_stores (thn (he pins s σ H _ I h) fun v s1 ⟨x, H1, I1, r1, q1⟩ => ?_) hs hw
  rw [h1]
  exact thn (hg pins s1 σ H1 x v _ I1 r1 q1) fun _ s2 q => q
/-- name = value -/
theorem ps_set {i : Nat} {x : Str} {e : Expr} {te : TE} {pos' : Pos} (hN : X.N.Nodup) (hi : X.N[i]? = some x) (hx : Loc X.env.scope x) (he : PE X e te) (hs : swapsWith e (some (.Name x pos')) pos.line X.env = pure false := by rfl) (hf : X.fn x = true ∨ X.env.scope.names.lookup x = some .local := by first | exact .inl rfl | exact .inr rfl | assumption) :
    PS X (.Assign [.Name x pos'] e pos) (tAsg te (gName i)) := by
  intro pins s σ H D I h
  refine wpAny_Assign_Name (thn (he pins s σ H _ I h) fun v s1 ⟨y, H1, I1, r1, q1⟩ => ?_) hs
  exact store_ok I1 hN hi hx r1 (fun s2 I2 => ⟨_, H1, I2, q1⟩) hf
/-- a, b = x, y with plain local names: stored from the right; the pair itself is not tracked (the opening rows as in PyProof/Rows/TupAssign.lean:23) -/
def tPar (i j : Nat) (ta : TA) : TS := fun D σ H => ta σ H fun vs H1 => ∃ v w, vs = [v, w] ∧ D.nx ((σ.set i (some v)).set j (some w)) H1
/-- name op= e -/
def tAug (i : Nat) (te : TE) (ti : TIp) : TS := fun D σ H => ∃ x, σ[i]? = some (some x) ∧ te σ H fun y H1 => ti x y H1 fun z H2 => D.nx (σ.set i (some z)) H2
/-- o[i] op= e -/
def tAugS (to ti te : TE) (tget : V → V → Hp → VK → Prop) (tip : TIp) (tset : TSet) : TS := fun D σ H => to σ H fun o H1 => ti σ H1 fun i H2 => tget o i H2 fun x H3 => te σ H3 fun y H4 => tip x y H4 fun z H5 => tset o i z H5 fun H6 => D.nx σ H6
/-- o[i], by values -/
def PGet (X : Cx) (t : V → V → Hp → VK → Prop) : Prop :=
  ∀ (pins : List (Addr × Obj)) (s : Shared) (σ : St) (H : Hp) (o i : V) (ov iv : Value) (Q : VK), Inv X pins σ H s → RelV o ov → RelV i iv → t o i H Q →
    wpAny (model X.prog X.w) X.A (getItem ov iv) (EP X pins σ Q) X.xe s
/-- ints -/
def ipI (f : Int → Int → Int) : TIp := fun x y H Q => ∃ i j, x = .int i ∧ y = .int j ∧ Q (.int (f i j)) H
end

/-! ### while -/
section
variable {X : Cx} {pos : Pos}
/-- the invariant W with its measure -/
def tWhile (c : TT) (tb : TS) : TS := fun D σ H => ∃ W : Nat → St → Hp → Prop, (∃ m, W m σ H) ∧ ∀ m σ H, W m σ H →
  c σ H fun b H1 => if b = true then ∃ N : St → Hp → Prop, (∀ σ' H', N σ' H' → ∃ m', m' < m ∧ W m' σ' H') ∧ tb { D with nx := N, ct := N, bk := D.nx } σ H1 else D.nx σ H1
end

/-! ### what a loop or a comprehension walks -/
/-- at turn i: it yields x (the heap may grow), or it stops -/
structure It where
  go : Nat → Hp → Prop
  yld : Nat → Hp → V → Hp → Prop
  stop : Nat → Hp → Prop
/-- the iterator's own objects may turn: they are not the frame's, not pinned, younger than the entry (or a comprehension's own) -/
def FpOk (X : Cx) (pins : List (Addr × Obj)) (H : Hp) (b : Addr) : Prop :=
  H b = none ∧ b ≠ X.env.locals ∧ b ∉ X.fs ∧ (b ∈ X.ex ∨ X.s₀.heap.objs.size ≤ b) ∧ (∀ x c, X.env.cells.lookup x = some c → c ≠ b) ∧ ∀ p ∈ X.pn ++ pins, p.1 ≠ b
theorem Inv.fpOk {X : Cx} {pins : List (Addr × Obj)} {σ : St} {H H' : Hp} {s : Shared} {b : Addr} (I : Inv X pins σ H s) (hb : s.heap.objs.size ≤ b) (hn : H' b = none) : FpOk X pins H' b := by
  refine ⟨hn, Nat.ne_of_gt (Nat.lt_of_lt_of_le I.lt hb), I.nofs hb, .inr (Nat.le_trans I.sz hb), fun x c e z => ?_, fun p hp z => ?_⟩
  · obtain ⟨v, q⟩ := I.cell x c e
    exact absurd (Nat.lt_of_lt_of_le q.lt (by rw [z]; exact hb)) (Nat.lt_irrefl _)
  · exact absurd (Nat.lt_of_lt_of_le (Heap.lt_size (I.pin p hp).1) (by rw [z]; exact hb)) (Nat.lt_irrefl _)
structure Turn (P : Program) (w : World) (K : PySem.W.Frag) (tg : Expr) (J : It) (fp : List Addr) (it : Addr) (tn : Nat → Heap → Prop) : Prop where
  mem : it ∈ fp
  obj : ∀ i h, tn i h → ∀ b ∈ fp, ∃ o, h.get? b = some o ∧ ∀ v, o.data ≠ .cell v
  keep : ∀ i h h', tn i h → (∀ b ∈ fp, ∀ o, h.get? b = some o → h'.get? b = some o) → tn i h'
  item : ∀ (X : Cx), X.prog = P → X.w = w → X.K = K → X.calm = true → ∀ (i : Nat) (pins : List (Addr × Obj)) (s : Shared) (σ : St) (H : Hp) (E : Value → Shared → Prop), Inv X pins σ H s → (∀ b ∈ fp, FpOk X pins H b) → tn i s.heap → J.go i H →
    wpAny (model P w) X.A (pyNext (.ref it)) (fun r s1 => ∃ u, r = some u ∧
      wpAny (model P w) X.A (letOwnedTupleGo tg (.ref it) u) (fun _ s2 => ∃ x H', Inv X pins σ H' s2 ∧ RelV x u ∧ J.yld i H x H' ∧ tn (i + 1) s2.heap ∧ ∀ b ∈ fp, H' b = none) E s1) E s
  done : ∀ (X : Cx), X.prog = P → X.w = w → X.K = K → X.calm = true → ∀ (i : Nat) (pins : List (Addr × Obj)) (s : Shared) (σ : St) (H : Hp) (E : Value → Shared → Prop), Inv X pins σ H s → (∀ b ∈ fp, FpOk X pins H b) → tn i s.heap → J.stop i H →
    wpAny (model P w) X.A (pyNext (.ref it)) (fun r s1 => r = none ∧ Inv X pins σ H s1) E s
  self : ∀ (A : Around) (i : Nat) (s : Shared) (Q : Value → Shared → Prop) (E : Value → Shared → Prop), tn i s.heap → Q (.ref it) s → wpAny (model P w) A (pyIter (.ref it)) Q E s
abbrev TI := St → Hp → (It → Hp → Prop) → Prop
/-- an iterator has come -/
def PIE (X : Cx) (pins : List (Addr × Obj)) (σ : St) (tg : Expr) (R : It → Hp → Prop) (itv : Value) (s2 : Shared) : Prop :=
  ∃ (it : Addr) (fp : List Addr) (tn : Nat → Heap → Prop) (J : It) (H' : Hp), itv = .ref it ∧ Inv X pins σ H' s2 ∧ Turn X.prog X.w X.K tg J fp it tn ∧ tn 0 s2.heap ∧ (∀ b ∈ fp, FpOk X pins H' b) ∧ R J H'
def PI (X : Cx) (tg iter : Expr) (wi : TI) : Prop :=
  ∀ (pins : List (Addr × Obj)) (s : Shared) (σ : St) (H : Hp) (R : It → Hp → Prop), Inv X pins σ H s → wi σ H R →
    wpAny (model X.prog X.w) X.A (eval iter X.env) (fun v s1 => wpAny (model X.prog X.w) X.A (pyIter v) (PIE X pins σ tg R) X.xe s1) X.xe s

/-- the step ahead of the store is nothing for an iterator that keeps no tuple -/
theorem go_of {M : Model} {A : Around} {E : Value → Shared → Prop} {s : Shared} {tg : Expr} {it : Addr} {u : Value} {o : Obj} {n : String} {vs : Array Value} {Q : Unit → Shared → Prop} (ho : s.heap.get? it = some o) (hc : o.cls = .type n) (hd : o.data = .fields vs)
    (hn : ["enumerate", "zip", "dict_itemiterator", "dict_reverseitemiterator", "odict_iterator", "itertools.zip_longest", "itertools.pairwise"].contains n = false) (hQ : Q () s) : wpAny M A (letOwnedTupleGo tg (.ref it) u) Q E s := by
  unfold letOwnedTupleGo
  cases tg <;> first
    | exact wpAny_pure hQ
    | (cases u <;> first
        | exact wpAny_pure hQ
        | (refine wpAny_bind (wpAny_load ho ?_)
           rw [hc, hd]
           show wpAny M A (if (["enumerate", "zip", "dict_itemiterator", "dict_reverseitemiterator", "odict_iterator", "itertools.zip_longest", "itertools.pairwise"].contains n && vs[0]? == some (rawInt _)) = true then _ else _) Q E s
           rw [if_neg (by intro h; rw [hn, Bool.false_and] at h; cases h)]
           exact wpAny_pure hQ))

/-- the list at a, as it stands at each turn (a loop may append to it) -/
def Itl (K : PySem.W.Frag) (a : Addr) : It :=
  ⟨fun i H => ∃ xs x, SqL K H a xs ∧ xs[i]? = some x, fun i H x H' => H' = H ∧ ∀ xs, SqL K H a xs → xs[i]? = some x, fun i H => ∃ xs, SqL K H a xs ∧ xs.length ≤ i⟩
def Itt (K : PySem.W.Frag) (a : Addr) : It :=
  ⟨fun i H => ∃ xs x, SqT K H a xs ∧ xs[i]? = some x, fun i H x H' => H' = H ∧ ∀ xs, SqT K H a xs → xs[i]? = some x, fun i H => ∃ xs, SqT K H a xs ∧ xs.length ≤ i⟩
/-- lo, lo + 1, .. (n of them) -/
def Itr (lo : Int) (n : Nat) : It := ⟨fun i _ => i < n, fun i H x H' => H' = H ∧ x = .int (lo + i), fun i _ => n ≤ i⟩
theorem turn_list {P : Program} {w : World} {K : PySem.W.Frag} {tg : Expr} (a it : Addr) : Turn P w K tg (Itl K a) [it] it (fun i h => h.IsListIter it a i) where
  mem := by simp
  obj := fun i h st b hb => by
    have e : b = it := by simpa using hb
    subst e
    obtain ⟨o, e, c, d⟩ := st
    exact ⟨o, e, fun v z => by rw [d] at z; cases z⟩
  keep := fun i h h' st k => st.at fun o e => k it (by simp) o e
  item := by
    intro X hP hw hK hc i pins s σ H E I hf st hg
    subst hP hw hK
    obtain ⟨xs, x, hq, hx⟩ := hg
    obtain ⟨its, rv, p, hz⟩ := I.list hq
    obtain ⟨u, hu, ru⟩ := rv.get hx
    obtain ⟨f0, f1, f2, f3, f4, f5⟩ := hf it (by simp)
    refine wpAny_pyNext_list_item st p.isList (x := u) (by simpa using hu) fun h' st' sb => ?_
    have I1 : Inv X pins σ H { s with heap := h' } := I.turned (t' := s.toks) (fun b o hb e => (sb.2 b hb).trans e) f0 f1 f3 f4 f5
    obtain ⟨o, e, c, d⟩ := id st'
    exact ⟨u, rfl, go_of (s := { s with heap := h' }) e c d (by decide) ⟨x, H, I1, ru, ⟨rfl, fun ys hy => by rw [I.list_inj hy hq]; exact hx⟩, st', fun b hb => (hf b hb).1⟩⟩
  done := by
    intro X hP hw hK hc i pins s σ H E I hf st hg
    subst hP hw hK
    obtain ⟨xs, hq, hx⟩ := hg
    obtain ⟨its, rv, p, hz⟩ := I.list hq
    obtain ⟨f0, f1, f2, f3, f4, f5⟩ := hf it (by simp)
    have hl := rv.length
    exact wpAny_pyNext_list_end (I.ok.hd hc) st p.isList (by simp; omega) fun h' eb => ⟨rfl, I.turned (t' := s.toks) (fun b o hb e => eb b o hb e) f0 f1 f3 f4 f5⟩
  self := fun _ _ _ _ _ st h => wpAny_pyIter_listiter st h
theorem turn_tuple {P : Program} {w : World} {K : PySem.W.Frag} {tg : Expr} (a it : Addr) : Turn P w K tg (Itt K a) [it] it (fun i h => h.IsTupleIter it a i) where
  mem := by simp
  obj := fun i h st b hb => by
    have e : b = it := by simpa using hb
    subst e
    obtain ⟨o, e, c, d⟩ := st
    exact ⟨o, e, fun v z => by rw [d] at z; cases z⟩
  keep := fun i h h' st k => st.at fun o e => k it (by simp) o e
  item := by
    intro X hP hw hK hc i pins s σ H E I hf st hg
    subst hP hw hK
    obtain ⟨xs, x, hq, hx⟩ := hg
    obtain ⟨its, rv, p, hz⟩ := I.tuple hq
    obtain ⟨u, hu, ru⟩ := rv.get hx
    obtain ⟨f0, f1, f2, f3, f4, f5⟩ := hf it (by simp)
    refine wpAny_pyNext_tuple_item st (show s.heap.IsTuple a its.toArray from p) (x := u) (by simpa using hu) fun h' st' sb => ?_
    have I1 : Inv X pins σ H { s with heap := h' } := I.turned (t' := s.toks) (fun b o hb e => (sb.2 b hb).trans e) f0 f1 f3 f4 f5
    obtain ⟨o, e, c, d⟩ := id st'
    exact ⟨u, rfl, go_of (s := { s with heap := h' }) e c d (by decide) ⟨x, H, I1, ru, ⟨rfl, fun ys hy => by rw [I.tuple_inj hy hq]; exact hx⟩, st', fun b hb => (hf b hb).1⟩⟩
  done := by
    intro X hP hw hK hc i pins s σ H E I hf st hg
    subst hP hw hK
    obtain ⟨xs, hq, hx⟩ := hg
    obtain ⟨its, rv, p, hz⟩ := I.tuple hq
    obtain ⟨f0, f1, f2, f3, f4, f5⟩ := hf it (by simp)
    have hl := rv.length
    exact wpAny_pyNext_tuple_end (I.ok.hd hc) st (show s.heap.IsTuple a its.toArray from p) (by simp; omega) fun h' eb => ⟨rfl, I.turned (t' := s.toks) (fun b o hb e => eb b o hb e) f0 f1 f3 f4 f5⟩
  self := fun _ _ _ _ _ st h => wpAny_pyIter_tupleiter st h
theorem turn_range {P : Program} {w : World} {K : PySem.W.Frag} {tg : Expr} (it : Addr) (lo : Int) (n : Nat) : Turn P w K tg (Itr lo n) [it] it (fun i h => IsRangeIter h it (lo + (i : Nat) * 1) ((n : Int) - (i : Nat)) 1) where
  mem := by simp
  obj := fun i h st b hb => by
    have e : b = it := by simpa using hb
    subst e
    exact ⟨_, st, fun v z => by
      have z' : Data.fields _ = Data.cell v := z
      cases z'⟩
  keep := fun i h h' st k => k it (by simp) _ st
  item := by
    intro X hP hw hK hc i pins s σ H E I hf st hg
    subst hP hw hK
    obtain ⟨f0, f1, f2, f3, f4, f5⟩ := hf it (by simp)
    have W := Walks.range (prog := X.prog) (w := X.w) (I.ok.hd hc) it lo 1 n
    refine W.item i s _ _ hg st fun v h' tk hv st' kk => ?_
    obtain ⟨t, rfl⟩ := hv
    have I1 : Inv X pins σ H { s with heap := h', toks := tk } := I.turned (fun b o hb e => kk b o (by simpa using hb) e) f0 f1 f3 f4 f5
    refine ⟨_, rfl, go_of (s := { s with heap := h', toks := tk }) (n := "range_iterator") st' rfl rfl (by decide) ⟨.int (lo + i), H, I1, ⟨t, ?_⟩, ⟨rfl, rfl⟩, st', fun b hb => (hf b hb).1⟩⟩
    rw [Int.mul_one]
  done := by
    intro X hP hw hK hc i pins s σ H E I hf st hg
    subst hP hw hK
    obtain ⟨f0, f1, f2, f3, f4, f5⟩ := hf it (by simp)
    exact wpAny_pyNext_range_end (I.ok.hd hc) st (by have : n ≤ i := hg; omega) fun h' eb => ⟨rfl, I.turned (t' := s.toks) (fun b o hb e => eb b o hb e) f0 f1 f3 f4 f5⟩
  self := fun _ _ _ _ _ st h => wpAny_pyIter_rangeiter st h
end L2

namespace L2
open PySem PySem.Spec PyProof.Rows
section
variable {X : Cx} {tg : Expr}
def iList (K : PySem.W.Frag) (tl : TE) : TI := fun σ H R => tl σ H fun x H1 => ∃ a, x = .ref a ∧ (∃ xs, SqL K H1 a xs) ∧ R (Itl K a) H1
def iTup (K : PySem.W.Frag) (tl : TE) : TI := fun σ H R => tl σ H fun x H1 => ∃ a, x = .ref a ∧ (∃ xs, SqT K H1 a xs) ∧ R (Itt K a) H1
theorem pi_list {l : Expr} {tl : TE} (hl : PE X l tl) : PI X tg l (iList X.K tl) := by
  intro pins s σ H R I h
  refine thn (hl pins s σ H _ I h) fun v s1 ⟨x, H1, I1, r1, q1⟩ => ?_
  obtain ⟨a, e, ⟨xs, hq⟩, q⟩ := q1
  subst e
  cases r1
  obtain ⟨its, rv, p, hz⟩ := I1.list hq
  refine wpAny_pyIter_list p.isList ?_
  refine ⟨s1.heap.objs.size, [s1.heap.objs.size], _, _, H1, rfl, I1.kept (t' := s1.toks) fun b o e => Heap.get?_push_of_some _ e, turn_list a _, ⟨_, Heap.get?_push_size _ rfl, rfl, rfl⟩, fun b hb => ?_, q⟩
  have e : b = s1.heap.objs.size := by simpa using hb
  subst e
  exact I1.fpOk (Nat.le_refl _) (I1.hok.fresh (Nat.le_refl _))
theorem pi_tup {l : Expr} {tl : TE} (hl : PE X l tl) : PI X tg l (iTup X.K tl) := by
  intro pins s σ H R I h
  refine thn (hl pins s σ H _ I h) fun v s1 ⟨x, H1, I1, r1, q1⟩ => ?_
  obtain ⟨a, e, ⟨xs, hq⟩, q⟩ := q1
  subst e
  cases r1
  obtain ⟨its, rv, p, hz⟩ := I1.tuple hq
  refine wpAny_pyIter_tuple (show s1.heap.IsTuple a its.toArray from p) ?_
  refine ⟨s1.heap.objs.size, [s1.heap.objs.size], _, _, H1, rfl, I1.kept (t' := s1.toks) fun b o e => Heap.get?_push_of_some _ e, turn_tuple a _, ⟨_, Heap.get?_push_size _ rfl, rfl, rfl⟩, fun b hb => ?_, q⟩
  have e : b = s1.heap.objs.size := by simpa using hb
  subst e
  exact I1.fpOk (Nat.le_refl _) (I1.hok.fresh (Nat.le_refl _))
/-- a range object just made, walked -/
theorem range_it {pins : List (Addr × Obj)} {σ : St} {H : Hp} {s : Shared} {R : It → Hp → Prop} {E : Value → Shared → Prop} {lo hi : Int} {t u v : Tok} {tk : Nat} (I : Inv X pins σ H s) (h1 : -(2 ^ 62) ≤ lo) (h2 : lo < 2 ^ 62) (h3 : -(2 ^ 62) ≤ hi) (h4 : hi < 2 ^ 62)
    (q : R (Itr lo (hi - lo).toNat) H) : wpAny (model X.prog X.w) X.A (pyIter (.ref s.heap.objs.size)) (PIE X pins σ tg R) E { s with heap := s.heap.push { cls := .type "range", data := .fields #[.int lo t, .int hi u, .int 1 v] }, toks := tk } := by
  refine wpAny_pyIter_range (IsRange.new ..) (small_one h1 h2 h3 h4) ?_
  have I1 : Inv X pins σ H { s with heap := s.heap.push { cls := .type "range", data := .fields #[.int lo t, .int hi u, .int 1 v] }, toks := tk } := I.kept fun b o e => Heap.get?_push_of_some _ e
  refine ⟨(s.heap.push { cls := .type "range", data := .fields #[.int lo t, .int hi u, .int 1 v] }).objs.size, [(s.heap.push { cls := .type "range", data := .fields #[.int lo t, .int hi u, .int 1 v] }).objs.size], _, _, H, rfl,
    I1.kept (t' := tk) fun b o e => Heap.get?_push_of_some _ e, turn_range _ lo (hi - lo).toNat, ?_, fun b hb => ?_, q⟩
  · have e1 : lo + ((0 : Nat) : Int) * 1 = lo := by simp
    have e2 : (((hi - lo).toNat : Nat) : Int) - ((0 : Nat) : Int) = Builtin.Range.rangeSize lo hi 1 := by rw [rangeSize_one]; split <;> omega
    show IsRangeIter _ _ (lo + ((0 : Nat) : Int) * 1) ((((hi - lo).toNat : Nat) : Int) - ((0 : Nat) : Int)) 1
    rw [e1, e2]
    exact Heap.get?_push_size _ rfl
  · have e : b = (s.heap.push { cls := .type "range", data := .fields #[.int lo t, .int hi u, .int 1 v] }).objs.size := by simpa using hb
    subst e
    exact I1.fpOk (Nat.le_refl _) (I1.hok.fresh (Nat.le_refl _))
def iRng1 (ta : TA) : TI := fun σ H R => ta σ H fun vs H1 => ∃ j : Int, vs = [.int j] ∧ -(2 ^ 62) ≤ j ∧ j < 2 ^ 62 ∧ R (Itr 0 j.toNat) H1
def iRng2 (ta : TA) : TI := fun σ H R => ta σ H fun vs H1 => ∃ i j : Int, vs = [.int i, .int j] ∧ (-(2 ^ 62) ≤ i ∧ i < 2 ^ 62 ∧ -(2 ^ 62) ≤ j ∧ j < 2 ^ 62) ∧ R (Itr i (j - i).toNat) H1
theorem pi_range1 {a : Expr} {ta : TA} {p pos : Pos} (hg : Gl X "range") (hm : X.mg "range" = none) (ha : PA X [a] ta) (hs : starEach [a] X.env = [(false, eval a X.env)] := by rfl) : PI X tg (.Call (.Name "range" p) [a] [] pos) (iRng1 ta) := by
  intro pins s σ H R I h
  refine Call_ (ld_blt I hg hm boot_range (PyProof.Rows.callWith_type1 (thn (ha pos pins s σ H _ I h) fun us s1 ⟨vs, H1, I1, r1, q1⟩ => ?_) hs rfl))
  obtain ⟨j, e, q1, q2, q⟩ := q1
  subst e
  cases r1 with
  | cons r rr =>
    cases rr
    obtain ⟨t, rfl⟩ := r
    exact call_range_1 (range_it I1 (by omega) (by omega) q1 q2 (by simpa using q))

/-! ### for -/
/-- W: the invariant by the turn and a measure; N: what the body is to reach -/
def tFor (wi : TI) (g : TG) (tb : TS) : TS := fun D σ H => wi σ H fun J H1 => ∃ W : Nat → Nat → St → Hp → Prop, (∃ m, W 0 m σ H1) ∧ ∀ i m σ H, W i m σ H →
  (J.stop i H ∧ D.nx σ H) ∨ (J.go i H ∧ ∃ N : St → Hp → Prop, (∀ σ' H', N σ' H' → ∃ m', m' < m ∧ W (i + 1) m' σ' H') ∧ ∀ x H', J.yld i H x H' → g x σ H' fun σ2 H2 => tb { D with nx := N, ct := N, bk := D.nx } σ2 H2)
/-- the records at fp as they stand -/
def pinsAt (fp : List Addr) (h : Heap) : List (Addr × Obj) := fp.filterMap fun b => (h.get? b).map fun o => (b, o)
theorem mem_pinsAt {fp : List Addr} {h : Heap} {b : Addr} {o : Obj} (hb : b ∈ fp) (e : h.get? b = some o) : (b, o) ∈ pinsAt fp h := List.mem_filterMap.mpr ⟨b, hb, by rw [e]; rfl⟩
theorem of_pinsAt {fp : List Addr} {h : Heap} {p : Addr × Obj} (hp : p ∈ pinsAt fp h) : p.1 ∈ fp ∧ h.get? p.1 = some p.2 := by
  obtain ⟨b, hb, e⟩ := List.mem_filterMap.mp hp
  cases q : h.get? b with
  | none => rw [q] at e; cases e
  | some o =>
    rw [q] at e
    have e' : (b, o) = p := Option.some.inj e
    subst e'
    exact ⟨hb, q⟩
theorem Inv.pinned {pins : List (Addr × Obj)} {σ : St} {H : Hp} {s : Shared} {fp : List Addr} (I : Inv X pins σ H s) (hf : ∀ b ∈ fp, FpOk X pins H b) (ho : ∀ b ∈ fp, ∃ o, s.heap.get? b = some o ∧ ∀ v, o.data ≠ .cell v) : Inv X (pins ++ pinsAt fp s.heap) σ H s :=
  I.pins_of fun p hp => (List.mem_append.mp hp).elim (fun z => I.pin p (List.mem_append_right _ z)) fun z => by
    obtain ⟨hb, e⟩ := of_pinsAt z
    obtain ⟨f0, f1, f2, _⟩ := hf p.1 hb
    obtain ⟨o, e', d⟩ := ho p.1 hb
    rw [e] at e'; cases e'
    exact ⟨e, f0, f1, f2, d⟩
theorem Inv.unpinned {pins pl : List (Addr × Obj)} {σ : St} {H : Hp} {s : Shared} (I : Inv X (pins ++ pl) σ H s) : Inv X pins σ H s := I.pins_of fun p hp => I.pin p (List.mem_append_right _ (List.mem_append_left _ hp))
theorem ps_for {iter : Expr} {body : List Stmt} {wi : TI} {g : TG} {tb : TS} {pos : Pos} (hp : PassesOwn (model X.prog X.w) X.A X.env X.xe) (hc : X.calm = true) (hi : PI X tg iter wi) (hg : PG X tg g) (hb : PSs X body tb)
    (hs : ∀ x, foldedSetIterable iter X.env x = pure x := by intro _; rfl) : PS X (.For tg iter body [] pos) (tFor wi g tb) := by
  intro pins s σ H D I h
  refine wpAny_For (thn (hi pins s σ H _ I h) fun v s1 h1 => thn h1 fun itv s2 h2 => ?_) hs
  obtain ⟨it, fp, tn, J, H2, e, I2, T, st2, f2, W, ⟨m0, w0⟩, turn⟩ := h2
  subst e
  -- what stays true of the iterator's objects through the loop
  have stat : ∀ {H' : Hp}, (∀ b ∈ fp, H' b = none) → ∀ b ∈ fp, FpOk X pins H' b := fun hn b hb => ⟨hn b hb, (f2 b hb).2⟩
  refine codeAny_forLoop_any (fun n s' => ∃ i σ' H', Inv X pins σ' H' s' ∧ tn i s'.heap ∧ (∀ b ∈ fp, H' b = none) ∧ W i n σ' H') ?_ m0 ⟨0, σ, H2, I2, st2, fun b hb => (f2 b hb).1, w0⟩
  rintro n s3 ⟨i, σ3, H3, I3, st3, fr3, w3⟩
  rcases turn i n σ3 H3 w3 with ⟨stop, qn⟩ | ⟨go, N, hN, step⟩
  · refine wpAny_passesOwn hp (thn (T.done X rfl rfl rfl hc i pins s3 σ3 H3 X.xe I3 (stat fr3) st3 stop) fun r s4 ⟨hr, I4⟩ => ?_)
    subst hr
    exact wpAny_execs_nil ⟨σ3, H3, I4, qn⟩
  · refine wpAny_passesOwn hp (thn (T.item X rfl rfl rfl hc i pins s3 σ3 H3 X.xe I3 (stat fr3) st3 go) fun r s4 ⟨u, hr, h4⟩ => ?_)
    subst hr
    refine wpAny_passesOwn hp (thn h4 fun _ s5 ⟨x, H5, I5, r5, y5, st5, fr5⟩ => ?_)
    have I5' := I5.pinned (stat fr5) (T.obj _ _ st5)
    refine wpAny_passesOwn hp (thn (hg _ s5 σ3 H5 x u _ I5' r5 (step x H5 y5)) fun _ s6 ⟨σ6, H6, I6, q6⟩ => ?_)
    refine wpAny_passesOwn hp (thn (hb _ s6 σ6 H6 _ I6 q6) fun f s7 q7 => ?_)
    have again : ∀ {σ7 : St} {H7 : Hp}, Inv X (pins ++ pinsAt fp s5.heap) σ7 H7 s7 → N σ7 H7 → ∃ m, m < n ∧ ∃ i σ' H', Inv X pins σ' H' s7 ∧ tn i s7.heap ∧ (∀ b ∈ fp, H' b = none) ∧ W i m σ' H' := fun {σ7 H7} I7 n7 => by
      obtain ⟨m', hm, w7⟩ := hN σ7 H7 n7
      refine ⟨m', hm, i + 1, σ7, H7, I7.unpinned, T.keep _ _ _ st5 fun b hb o e => (I7.pin (b, o) (List.mem_append_right _ (List.mem_append_right _ (mem_pinsAt hb e)))).1, fun b hb => ?_, w7⟩
      obtain ⟨o, e, d⟩ := T.obj _ _ st5 b hb
      exact (I7.pin (b, o) (List.mem_append_right _ (List.mem_append_right _ (mem_pinsAt hb e)))).2.1
    cases f with
    | next => obtain ⟨σ7, H7, I7, n7⟩ := q7; exact again I7 n7
    | cont => obtain ⟨σ7, H7, I7, n7⟩ := q7; exact again I7 n7
    | brk => obtain ⟨σ7, H7, I7, q7⟩ := q7; exact ⟨σ7, H7, I7.unpinned, q7⟩
    | ret v => obtain ⟨x7, σ7, H7, I7, r7, q7⟩ := q7; exact ⟨x7, σ7, H7, I7.unpinned, r7, q7⟩
end

/-! ### the forms one uses -/
/-- over a list that the body leaves as it is -/
theorem for_list {K : PySem.W.Frag} {a : Addr} {xs : List V} {g : TG} {tb : TS} {D : Ends} {σ : St} {H : Hp} (Pv : Nat → St → Hp → Prop) (h0 : Pv 0 σ H) (hl : ∀ i σ H, i ≤ xs.length → Pv i σ H → SqL K H a xs)
    (hs : ∀ i x σ H, xs[i]? = some x → Pv i σ H → g x σ H fun σ2 H2 => tb { D with nx := Pv (i + 1), ct := Pv (i + 1), bk := D.nx } σ2 H2) (hd : ∀ σ H, Pv xs.length σ H → D.nx σ H) :
    ∃ W : Nat → Nat → St → Hp → Prop, (∃ m, W 0 m σ H) ∧ ∀ i m σ H, W i m σ H →
      ((Itl K a).stop i H ∧ D.nx σ H) ∨ ((Itl K a).go i H ∧ ∃ N : St → Hp → Prop, (∀ σ' H', N σ' H' → ∃ m', m' < m ∧ W (i + 1) m' σ' H') ∧ ∀ x H', (Itl K a).yld i H x H' → g x σ H' fun σ2 H2 => tb { D with nx := N, ct := N, bk := D.nx } σ2 H2) := by
  refine ⟨fun i m σ H => m = xs.length - i ∧ i ≤ xs.length ∧ Pv i σ H, ⟨xs.length, by simp, Nat.zero_le _, h0⟩, ?_⟩
  rintro i m σ H ⟨rfl, hi, p⟩
  have q := hl i σ H hi p
  by_cases hlt : i < xs.length
  · refine .inr ⟨⟨xs, xs[i], q, by simp [hlt]⟩, Pv (i + 1), fun σ' H' p' => ⟨xs.length - (i + 1), by omega, rfl, hlt, p'⟩, fun x H' y => ?_⟩
    obtain ⟨e, y⟩ := y
    subst e
    exact hs i x σ _ (y xs q) p
  · have e : i = xs.length := by omega
    subst e
    exact .inl ⟨⟨xs, q, Nat.le_refl _⟩, hd σ H p⟩
/-- while, by a word and a measure of the state -/
theorem while_by {c : TT} {tb : TS} {D : Ends} {σ : St} {H : Hp} (Pv : St → Hp → Prop) (μ : St → Hp → Nat) (h0 : Pv σ H)
    (hs : ∀ σ H, Pv σ H → c σ H fun b H1 => if b = true then tb { D with nx := fun σ' H' => Pv σ' H' ∧ μ σ' H' < μ σ H, ct := fun σ' H' => Pv σ' H' ∧ μ σ' H' < μ σ H, bk := D.nx } σ H1 else D.nx σ H1)
    (mono : ∀ σ H Q Q', (∀ b H1, Q b H1 → Q' b H1) → c σ H Q → c σ H Q') : tWhile c tb D σ H := by
  refine ⟨fun m σ H => m = μ σ H ∧ Pv σ H, ⟨_, rfl, h0⟩, ?_⟩
  rintro m σ H ⟨rfl, p⟩
  refine mono σ H _ _ (fun b H1 q => ?_) (hs σ H p)
  cases b with
  | true => exact ⟨_, fun σ' H' ⟨p', l⟩ => ⟨_, l, rfl, p'⟩, q⟩
  | false => exact q
end L2

namespace L2
open PySem PySem.Spec PyProof.Rows

abbrev R2 := V → V → Hp → VK → Prop
/-- a two-place operation on values: f is binaryOp op, inplaceOp op or compareOp op -/
def OpR (X : Cx) (f : Value → Value → Sem Value) (r : R2) : Prop :=
  ∀ (pins : List (Addr × Obj)) (s : Shared) (σ : St) (H : Hp) (x y : V) (v u : Value) (Q : VK), Inv X pins σ H s → RelV x v → RelV y u → r x y H Q →
    wpAny (model X.prog X.w) X.A (f v u) (EP X pins σ Q) X.xe s
/-- a one-place operation -/
def UnR (X : Cx) (f : Value → Sem Value) (r : V → Hp → VK → Prop) : Prop :=
  ∀ (pins : List (Addr × Obj)) (s : Shared) (σ : St) (H : Hp) (x : V) (v : Value) (Q : VK), Inv X pins σ H s → RelV x v → r x H Q →
    wpAny (model X.prog X.w) X.A (f v) (EP X pins σ Q) X.xe s
/-- a call of a value that is known (a builtin, a type) with values -/
def CallR (X : Cx) (f : Value) (r : List V → Hp → VK → Prop) : Prop :=
  ∀ (pins : List (Addr × Obj)) (s : Shared) (σ : St) (H : Hp) (xs : List V) (us : List Value) (Q : VK), Inv X pins σ H s → Vals xs us → r xs H Q →
    wpAny (model X.prog X.w) X.A (call f us) (EP X pins σ Q) X.xe s
/-- a value's truth -/
def TruR (X : Cx) (r : V → Hp → (Bool → Hp → Prop) → Prop) : Prop :=
  ∀ (pins : List (Addr × Obj)) (s : Shared) (σ : St) (H : Hp) (x : V) (v : Value) (Q : Bool → Hp → Prop), Inv X pins σ H s → RelV x v → r x H Q →
    wpAny (model X.prog X.w) X.A (truthy v) (TP X pins σ Q) X.xe s

def tOp (r : R2) (ta tb : TE) : TE := fun σ H Q => ta σ H fun x H1 => tb σ H1 fun y H2 => r x y H2 Q
def tUn (r : V → Hp → VK → Prop) (ta : TE) : TE := fun σ H Q => ta σ H fun x H1 => r x H1 Q
/-- ints in, under C, and a value out -/
def rI (C : Int → Int → Prop) (g : Int → Int → V) : R2 := fun x y H Q => ∃ i j, x = .int i ∧ y = .int j ∧ C i j ∧ Q (g i j) H
def rI0 (g : Int → Int → V) : R2 := fun x y H Q => ∃ i j, x = .int i ∧ y = .int j ∧ Q (g i j) H
def rU (g : Int → V) : V → Hp → VK → Prop := fun x H Q => ∃ i, x = .int i ∧ Q (g i) H

section
variable {X : Cx} {a b c : Expr} {ta tb tc : TE} {pos : Pos}

theorem binT (ha : PE X a ta) (hb : PE X b tb) {pins : List (Addr × Obj)} {s : Shared} {σ : St} {H : Hp} {R : V → V → Hp → Prop} (I : Inv X pins σ H s)
    (h : ta σ H fun x H1 => tb σ H1 fun y H2 => R x y H2) {Q : Value → Shared → Prop} {f : Value → Value → Sem Value}
    (hf : ∀ v u s2 x y H2, Inv X pins σ H2 s2 → RelV x v → RelV y u → R x y H2 → wpAny (model X.prog X.w) X.A (f v u) Q X.xe s2) :
    wpAny (model X.prog X.w) X.A (eval a X.env) (fun v s₁ => wpAny (model X.prog X.w) X.A (eval b X.env) (fun u s₂ => wpAny (model X.prog X.w) X.A (f v u) Q X.xe s₂) X.xe s₁) X.xe s := by
  refine thn (ha pins s σ H _ I h) fun v s1 ⟨x, H1, I1, r1, q1⟩ => ?_
  refine thn (hb pins s1 σ H1 _ I1 q1) fun u s2 ⟨y, H2, I2, r2, q2⟩ => ?_
  exact hf v u s2 x y H2 I2 r1 r2 q2

theorem pe_op {op : Operator} {r : R2} (ho : OpR X (binaryOp op) r) (ha : PE X a ta) (hb : PE X b tb) : PE X (.BinOp a op b pos) (tOp r ta tb) := by
  intro pins s σ H Q I h
  exact wpAny_BinOp (binT ha hb I h fun v u s2 x y H2 I2 rx ry q => ho pins s2 σ H2 x y v u Q I2 rx ry q)
theorem pe_un {op : UnaryOp} {r : V → Hp → VK → Prop} (ho : UnR X (unaryOp op) r) (ha : PE X a ta) : PE X (.UnaryOp op a pos) (tUn r ta) := by
  intro pins s σ H Q I h
  exact UnaryOp_ (thn (ha pins s σ H _ I h) fun v s1 ⟨x, H1, I1, r1, q1⟩ => ho pins s1 σ H1 x v Q I1 r1 q1)
/-- a op= e at a name: the name's slot i -/
theorem augR {op : Operator} {r : R2} (ho : OpR X (inplaceOp op) r) {pins : List (Addr × Obj)} {s : Shared} {σ : St} {H : Hp} {x y : V} {v u : Value} {Q : VK} (I : Inv X pins σ H s)
    (rx : RelV x v) (ry : RelV y u) (q : r x y H Q) : wpAny (model X.prog X.w) X.A (inplaceOp op v u) (EP X pins σ Q) X.xe s := ho pins s σ H x y v u Q I rx ry q

/-! ### ints -/
theorem opI {f : Value → Value → Sem Value} {C : Int → Int → Prop} {g : Int → Int → Int}
    (rule : ∀ (i j : Int) (t u : Tok) (s : Shared) (Q : Value → Shared → Prop) (E : Value → Shared → Prop), C i j → Q (.int (g i j) s.toks) { s with toks := s.toks + 1 } → wpAny (model X.prog X.w) X.A (f (.int i t) (.int j u)) Q E s) :
    OpR X f (rI C fun i j => .int (g i j)) := by
  intro pins s σ H x y v u Q I rx ry h
  obtain ⟨i, j, rfl, rfl, hc, q⟩ := h
  obtain ⟨t, rfl⟩ := rx
  obtain ⟨t', rfl⟩ := ry
  exact rule i j t t' s _ _ hc ⟨.int (g i j), H, I.tok _, ⟨_, rfl⟩, q⟩
theorem opI0 {f : Value → Value → Sem Value} {g : Int → Int → Int}
    (rule : ∀ (i j : Int) (t u : Tok) (s : Shared) (Q : Value → Shared → Prop) (E : Value → Shared → Prop), Q (.int (g i j) s.toks) { s with toks := s.toks + 1 } → wpAny (model X.prog X.w) X.A (f (.int i t) (.int j u)) Q E s) :
    OpR X f (rI0 fun i j => .int (g i j)) := by
  intro pins s σ H x y v u Q I rx ry h
  obtain ⟨i, j, rfl, rfl, q⟩ := h
  obtain ⟨t, rfl⟩ := rx
  obtain ⟨t', rfl⟩ := ry
  exact rule i j t t' s _ _ ⟨.int (g i j), H, I.tok _, ⟨_, rfl⟩, q⟩
theorem opB0 {f : Value → Value → Sem Value} {g : Int → Int → Bool}
    (rule : ∀ (i j : Int) (t u : Tok) (s : Shared) (Q : Value → Shared → Prop) (E : Value → Shared → Prop), Q (.bool (g i j)) s → wpAny (model X.prog X.w) X.A (f (.int i t) (.int j u)) Q E s) :
    OpR X f (rI0 fun i j => .bl (g i j)) := by
  intro pins s σ H x y v u Q I rx ry h
  obtain ⟨i, j, rfl, rfl, q⟩ := h
  obtain ⟨t, rfl⟩ := rx
  obtain ⟨t', rfl⟩ := ry
  exact rule i j t t' s _ _ ⟨.bl (g i j), H, I, rfl, q⟩

def CDiv (i j : Int) : Prop := 0 < j ∧ j < 1073741824
def CDivN (i j : Int) : Prop := j ≠ 0 ∧ j.natAbs < 1073741824
def CPow (i j : Int) : Prop := 0 ≤ j ∧ j ≤ 1000000 ∧ i.natAbs < 2 ^ 64
def CMul (i j : Int) : Prop := (-(2 ^ 64) < i ∧ i < 2 ^ 64) ∨ (-(2 ^ 64) < j ∧ j < 2 ^ 64)
theorem CMul.ok {i j : Int} (h : CMul i j) : IntMulOk i j := by
  rcases h with ⟨h1, h2⟩ | ⟨h1, h2⟩
  · exact .of_left (intBits_le_64 h1 h2)
  · exact .of_right (intBits_le_64 h1 h2)

theorem op_add : OpR X (binaryOp .Add) (rI0 fun i j => .int (i + j)) := opI0 fun _ _ _ _ _ _ _ q => add_int q
theorem op_sub : OpR X (binaryOp .Sub) (rI0 fun i j => .int (i - j)) := opI0 fun _ _ _ _ _ _ _ q => sub_int q
theorem op_mul : OpR X (binaryOp .Mult) (rI CMul fun i j => .int (i * j)) := opI fun _ _ _ _ _ _ _ hc q => mul_int q hc.ok
/-- // by a positive divisor -/
theorem op_fdiv : OpR X (binaryOp .FloorDiv) (rI CDiv fun i j => .int (i / j)) := opI fun i j _ _ _ _ _ hc q => by
  have h1 : (0 : Int) < j := hc.1
  have h2 : j < 1073741824 := hc.2
  exact floordiv_int (by omega) (by rw [Int.fdiv_eq_ediv_of_nonneg i (by omega)]; exact q) (.inl (PyProof.noPylong_small (by omega)))
/-- % by a positive divisor of any size -/
theorem op_mod : OpR X (binaryOp .Mod) (rI (fun _ j => 0 < j) fun i j => .int (i % j)) := opI fun i j _ _ _ _ _ hc q => by
  have h1 : (0 : Int) < j := hc
  exact mod_int' (by omega) (by rw [Int.fmod_eq_emod_of_nonneg i (by omega)]; exact q)
theorem op_pow : OpR X (binaryOp .Pow) (rI CPow fun i j => .int (i ^ j.toNat)) := opI fun _ _ _ _ _ _ _ hc q => pow_int_small hc.1 hc.2.1 hc.2.2 q


theorem unI {f : Value → Sem Value} {g : Int → Int}
    (rule : ∀ (i : Int) (t : Tok) (s : Shared) (Q : Value → Shared → Prop) (E : Value → Shared → Prop), Q (.int (g i) s.toks) { s with toks := s.toks + 1 } → wpAny (model X.prog X.w) X.A (f (.int i t)) Q E s) :
    UnR X f (rU fun i => .int (g i)) := by
  intro pins s σ H x v Q I rx h
  obtain ⟨i, rfl, q⟩ := h
  obtain ⟨t, rfl⟩ := rx
  exact rule i t s _ _ ⟨.int (g i), H, I.tok _, ⟨_, rfl⟩, q⟩
theorem un_neg : UnR X (unaryOp .USub) (rU fun i => .int (-i)) := unI fun _ _ _ _ _ q => neg_int q

/-! ### bools among ints: n += (a < b) -/
end

/-! ### comparisons -/
/-- the scalars that == tells apart as data does -/
def scal : V → V → Bool
  | .non, .non => true | .non, .int _ => true | .int _, .non => true | .non, .bl _ => true | .bl _, .non => true | .non, .str _ => true | .str _, .non => true
  | .int _, .int _ => true | .bl _, .bl _ => true | .str _, .str _ => true | .byt _, .byt _ => true
  | .int _, .str _ => true | .str _, .int _ => true | .bl _, .str _ => true | .str _, .bl _ => true
  | _, _ => false
def rEq : R2 := fun x y H Q => scal x y = true ∧ Q (.bl (decide (x = y))) H
def rNe : R2 := fun x y H Q => scal x y = true ∧ Q (.bl (!decide (x = y))) H

theorem dec_int {i j : Int} : decide (V.int i = V.int j) = (i == j) := by
  rw [Bool.eq_iff_iff]
  simp
theorem dec_bl {i j : Bool} : decide (V.bl i = V.bl j) = (i == j) := by
  rw [Bool.eq_iff_iff]
  simp
theorem dec_str {i j : Str} : decide (V.str i = V.str j) = (i == j) := by
  rw [Bool.eq_iff_iff]
  simp
theorem dec_byt {i j : Array UInt8} : decide (V.byt i = V.byt j) = (i.toList == j.toList) := by
  rw [Bool.eq_iff_iff]
  cases i
  cases j
  simp

section
variable {X : Cx} {a b c : Expr} {ta tb tc : TE} {pos : Pos}
theorem fin_bl {pins : List (Addr × Obj)} {σ : St} {H : Hp} {s : Shared} {Q : VK} {k k' : Bool} (I : Inv X pins σ H s) (q : Q (.bl k) H) (e : k = k') : EP X pins σ Q (.bool k') s := by
  subst e
  exact ⟨.bl k, H, I, rfl, q⟩
theorem op_eq : OpR X (compareOp .Eq) rEq := by
  intro pins s σ H x y v u Q I rx ry h
  obtain ⟨hs, q⟩ := h
  cases x with
  | non =>
    cases rx
    cases y with
    | non => cases ry; exact PySem.EqNone.eq_none_none (fin_bl I q (by simp))
    | bl j => cases ry; exact PySem.EqNone.eq_none_bool (fin_bl I q (by simp))
    | int j => obtain ⟨t', rfl⟩ := ry; exact PySem.EqNone.eq_none_int (fin_bl I q (by simp))
    | str j => obtain ⟨t', rfl⟩ := ry; exact PySem.EqNone.eq_none_str (fin_bl I q (by simp))
    | _ => exact absurd (show false = true from hs) Bool.false_ne_true
  | bl i =>
    cases rx
    cases y with
    | non => cases ry; exact PySem.EqNone.eq_bool_none (fin_bl I q (by simp))
    | bl j => cases ry; exact eq_bool (fin_bl I q dec_bl)
    | str j => obtain ⟨t', rfl⟩ := ry; exact PySem.EqMixed.eq_bool_str (fin_bl I q (by simp))
    | _ => exact absurd (show false = true from hs) Bool.false_ne_true
  | int i =>
    obtain ⟨t, rfl⟩ := rx
    cases y with
    | non => cases ry; exact PySem.EqNone.eq_int_none (fin_bl I q (by simp))
    | int j => obtain ⟨t', rfl⟩ := ry; exact eq_int (fin_bl I q dec_int)
    | str j => obtain ⟨t', rfl⟩ := ry; exact PySem.EqMixed.eq_int_str (fin_bl I q (by simp))
    | _ => exact absurd (show false = true from hs) Bool.false_ne_true
  | str i =>
    obtain ⟨t, rfl⟩ := rx
    cases y with
    | non => cases ry; exact PySem.EqNone.eq_str_none (fin_bl I q (by simp))
    | bl j => cases ry; exact PySem.EqMixed.eq_str_bool (fin_bl I q (by simp))
    | int j => obtain ⟨t', rfl⟩ := ry; exact PySem.EqMixed.eq_str_int (fin_bl I q (by simp))
    | str j => obtain ⟨t', rfl⟩ := ry; exact eq_str (fin_bl I q dec_str)
    | _ => exact absurd (show false = true from hs) Bool.false_ne_true
  | byt i =>
    obtain ⟨t, rfl⟩ := rx
    cases y with
    | byt j => obtain ⟨t', rfl⟩ := ry; exact PySem.W.eq_bytes (fin_bl I q dec_byt)
    | _ => exact absurd (show false = true from hs) Bool.false_ne_true
  | _ => cases y <;> exact absurd (show false = true from hs) Bool.false_ne_true
theorem op_ne : OpR X (compareOp .NotEq) rNe := by
  intro pins s σ H x y v u Q I rx ry h
  obtain ⟨hs, q⟩ := h
  cases x with
  | non =>
    cases rx
    cases y with
    | non => cases ry; exact PySem.EqNone.ne_none_none (fin_bl I q (by simp))
    | bl j => cases ry; exact PySem.EqNone.ne_none_bool (fin_bl I q (by simp))
    | int j => obtain ⟨t', rfl⟩ := ry; exact PySem.EqNone.ne_none_int (fin_bl I q (by simp))
    | str j => obtain ⟨t', rfl⟩ := ry; exact PySem.EqNone.ne_none_str (fin_bl I q (by simp))
    | _ => exact absurd (show false = true from hs) Bool.false_ne_true
  | bl i =>
    cases rx
    cases y with
    | non => cases ry; exact PySem.EqNone.ne_bool_none (fin_bl I q (by simp))
    | bl j => cases ry; exact ne_bool (fin_bl I q (congrArg not dec_bl))
    | str j => obtain ⟨t', rfl⟩ := ry; exact PySem.EqMixed.ne_bool_str (fin_bl I q (by simp))
    | _ => exact absurd (show false = true from hs) Bool.false_ne_true
  | int i =>
    obtain ⟨t, rfl⟩ := rx
    cases y with
    | non => cases ry; exact PySem.EqNone.ne_int_none (fin_bl I q (by simp))
    | int j => obtain ⟨t', rfl⟩ := ry; exact ne_int (fin_bl I q (congrArg not dec_int))
    | str j => obtain ⟨t', rfl⟩ := ry; exact PySem.EqMixed.ne_int_str (fin_bl I q (by simp))
    | _ => exact absurd (show false = true from hs) Bool.false_ne_true
  | str i =>
    obtain ⟨t, rfl⟩ := rx
    cases y with
    | non => cases ry; exact PySem.EqNone.ne_str_none (fin_bl I q (by simp))
    | bl j => cases ry; exact PySem.EqMixed.ne_str_bool (fin_bl I q (by simp))
    | int j => obtain ⟨t', rfl⟩ := ry; exact PySem.EqMixed.ne_str_int (fin_bl I q (by simp))
    | str j => obtain ⟨t', rfl⟩ := ry; exact ne_str (fin_bl I q (congrArg not dec_str))
    | _ => exact absurd (show false = true from hs) Bool.false_ne_true
  | byt i =>
    obtain ⟨t, rfl⟩ := rx
    cases y with
    | byt j => obtain ⟨t', rfl⟩ := ry; exact PySem.W.ne_bytes (fin_bl I q (congrArg not dec_byt))
    | _ => exact absurd (show false = true from hs) Bool.false_ne_true
  | _ => cases y <;> exact absurd (show false = true from hs) Bool.false_ne_true

theorem op_lt : OpR X (compareOp .Lt) (rI0 fun i j => .bl (decide (i < j))) := opB0 fun _ _ _ _ _ _ _ q => lt_int q
theorem op_le : OpR X (compareOp .LtE) (rI0 fun i j => .bl (decide (i ≤ j))) := opB0 fun _ _ _ _ _ _ _ q => le_int q
theorem op_gt : OpR X (compareOp .Gt) (rI0 fun i j => .bl (decide (j < i))) := opB0 fun _ _ _ _ _ _ _ q => gt_int q
/-- the one string within the other -/
theorem op_in_str : OpR X (compareOp .In) (fun x y H Q => ∃ i j, x = .str i ∧ y = .str j ∧ Q (.bl (!(Builtin.Str.occurrences j i 0 j.length 1).isEmpty)) H) := by
  intro pins s σ H x y v u Q I rx ry h
  obtain ⟨i, j, rfl, rfl, q⟩ := h
  obtain ⟨t, rfl⟩ := rx
  obtain ⟨t', rfl⟩ := ry
  exact in_str (fin_bl I q rfl)

/-- is None, is not None: the right side a value none -/
theorem op_isN : OpR X (compareOp .Is) (fun x y H Q => y = .non ∧ Q (.bl (decide (x = .non))) H) := by
  intro pins s σ H x y v u Q I rx ry h
  obtain ⟨rfl, q⟩ := h
  cases ry
  refine is_none_gen (fin_bl I q ?_)
  cases x <;> first
    | (cases rx; rfl)
    | (obtain ⟨t, rfl⟩ := rx; rfl)
theorem op_notN : OpR X (compareOp .IsNot) (fun x y H Q => y = .non ∧ Q (.bl (!decide (x = .non))) H) := by
  intro pins s σ H x y v u Q I rx ry h
  obtain ⟨rfl, q⟩ := h
  cases ry
  refine isnot_none_gen (fin_bl I q ?_)
  cases x <;> first
    | (cases rx; rfl)
    | (obtain ⟨t, rfl⟩ := rx; rfl)

/-- is, is not of two objects that are tracked lists or instances -/
def isObj : HO → Bool
  | .lst _ => true
  | .ins _ _ _ => true
  | _ => false

/-- two rules for one operation: by cases -/
theorem OpR.or {f : Value → Value → Sem Value} {r r' : R2} (h : OpR X f r) (h' : OpR X f r') : OpR X f (fun x y H Q => r x y H Q ∨ r' x y H Q) := by
  intro pins s σ H x y v u Q I rx ry q
  rcases q with q | q
  · exact h pins s σ H x y v u Q I rx ry q
  · exact h' pins s σ H x y v u Q I rx ry q

theorem nomark (b : Expr) {op : CmpOp} (h : op ≠ .In := by decide) (h2 : op ≠ .NotIn := by decide) : behindInMarks op b = false := by
  have e1 : (op == CmpOp.In) = false := by cases op <;> first | rfl | exact absurd rfl h
  have e2 : (op == CmpOp.NotIn) = false := by cases op <;> first | rfl | exact absurd rfl h2
  cases b <;> simp [behindInMarks, e1, e2]
/-- a comparison as a value; hm: nomark b, or (for in, not in) by with_unfolding_all rfl -/
theorem pe_cmpR {op : CmpOp} {r : R2} (ho : OpR X (compareOp op) r) (ha : PE X a ta) (hb : PE X b tb) (hm : behindInMarks op b = false) : PE X (.Compare a [op] [b] pos) (tOp r ta tb) := by
  intro pins s σ H Q I h
  exact wpAny_Compare1 (binT ha hb I h fun v u s2 x y H2 I2 rx ry q => ho pins s2 σ H2 x y v u Q I2 rx ry q) hm
/-- a reading of a value as a test -/
def tTest (t : TE) : TT := fun σ H Q => t σ H fun x H' => ∃ k, x = .bl k ∧ Q k H'
theorem pt_cmpR {op : CmpOp} {r : R2} (ho : OpR X (compareOp op) r) (ha : PE X a ta) (hb : PE X b tb) (hm : behindInMarks op b = false) : PT X (.Compare a [op] [b] pos) (tTest (tOp r ta tb)) := by
  intro pins s σ H Q I h
  refine wpAny_isTrue_Compare1 (thn (ha pins s σ H _ I h) fun v s1 ⟨x, H1, I1, r1, q1⟩ => thn (hb pins s1 σ H1 _ I1 q1) fun u s2 ⟨y, H2, I2, r2, q2⟩ =>
    thn (ho pins s2 σ H2 x y v u _ I2 r1 r2 q2) fun c s3 ⟨z, H3, I3, r3, k, e, q3⟩ => ?_) hm
  subst e
  cases r3
  exact wpAny_truthy_bool ⟨H3, I3, q3⟩
/-- a op1 b op2 c -/
def tChain (r r' : R2) (ta tb tc : TE) : TE := fun σ H Q => ta σ H fun x H1 => tb σ H1 fun y H2 => r x y H2 fun z H3 => ∃ k, z = .bl k ∧
  (if k = true then tc σ H3 fun w' H4 => r' y w' H4 Q else Q (.bl false) H3)
theorem pe_chain {op op' : CmpOp} {r r' : R2} (ho : OpR X (compareOp op) r) (ho' : OpR X (compareOp op') r') (ha : PE X a ta) (hb : PE X b tb) (hc : PE X c tc)
    (hm : lastMarks [op, op'] [b, c] = false := by with_unfolding_all rfl) : PE X (.Compare a [op, op'] [b, c] pos) (tChain r r' ta tb tc) := by
  intro pins s σ H Q I h
  refine Compare_chain (thn (ha pins s σ H _ I h) fun v s1 ⟨x, H1, I1, r1, q1⟩ => chain_link (thn (hb pins s1 σ H1 _ I1 q1) fun u s2 ⟨y, H2, I2, r2, q2⟩ =>
    thn (ho pins s2 σ H2 x y v u _ I2 r1 r2 q2) fun d s3 ⟨z, H3, I3, r3, k, e, q3⟩ => ?_)) hm
  subst e
  cases r3
  refine wpAny_truthy_bool ?_
  cases k with
  | false => exact ite_ff ⟨.bl false, H3, I3, rfl, q3⟩
  | true => exact ite_tt (chain_last (thn (hc pins s3 σ H3 _ I3 q3) fun w' s4 ⟨z', H4, I4, r4, q4⟩ => ho' pins s4 σ H4 y z' u w' Q I4 r2 r4 q4))
theorem pt_chain {op op' : CmpOp} {r r' : R2} (ho : OpR X (compareOp op) r) (ho' : OpR X (compareOp op') r') (ha : PE X a ta) (hb : PE X b tb) (hc : PE X c tc)
    (hm : lastMarks [op, op'] [b, c] = false := by with_unfolding_all rfl) : PT X (.Compare a [op, op'] [b, c] pos) (tTest (tChain r r' ta tb tc)) := by
  intro pins s σ H Q I h
  refine isTrue_chain (thn (ha pins s σ H _ I h) fun v s1 ⟨x, H1, I1, r1, q1⟩ => test_link (thn (hb pins s1 σ H1 _ I1 q1) fun u s2 ⟨y, H2, I2, r2, q2⟩ =>
    thn (ho pins s2 σ H2 x y v u _ I2 r1 r2 q2) fun d s3 ⟨z, H3, I3, r3, k, e, q3⟩ => ?_)) hm
  subst e
  cases r3
  refine wpAny_truthy_bool ?_
  cases k with
  | false =>
    obtain ⟨k', e', q'⟩ := q3
    cases e'
    exact ite_ff ⟨H3, I3, q'⟩
  | true =>
    refine ite_tt (test_last (thn (hc pins s3 σ H3 _ I3 q3) fun w' s4 ⟨z', H4, I4, r4, q4⟩ => thn (ho' pins s4 σ H4 y z' u w' _ I4 r2 r4 q4) fun d' s5 ⟨z2, H5, I5, r5, k2, e2, q5⟩ => ?_))
    subst e2
    cases r5
    exact wpAny_truthy_bool ⟨H5, I5, q5⟩

/-! ### truth -/
/-- a value's truth by the abstract heap -/
def TruV (K : PySem.W.Frag) (x : V) (H : Hp) (k : Bool) : Prop :=
  match x with
  | .non => k = false
  | .bl b => k = b
  | .int i => k = (i != 0)
  | .str y => y.length ≤ sizeLine ∧ k = ((y.length : Int) != 0)
  | .byt y => y.size ≤ sizeLine ∧ k = ((y.size : Int) != 0)
  | .ref p => (∃ xs, SqL K H p xs ∧ k = !xs.isEmpty) ∨ (∃ xs, SqT K H p xs ∧ k = !xs.isEmpty) ∨ ∃ kvs, H p = some (.dK kvs) ∧ k = !kvs.isEmpty
  | _ => False
theorem isEmpty_kv {κ : Type} {kvs : List (κ × V)} {vs : List (κ × Value)} (r : KV kvs vs) : (!vs.isEmpty) = !kvs.isEmpty := by
  cases r <;> rfl
theorem isEmpty_of {xs : List V} {its : List Value} (r : Vals xs its) : (!its.toArray.isEmpty) = !xs.isEmpty := by
  cases r <;> simp
theorem line63 : (sizeLine : Nat) < 2 ^ 63 := by rw [sizeLine_eq]; decide
theorem tru_ok : TruR X (fun x H Q => ∃ k, TruV X.K x H k ∧ Q k H) := by
  intro pins s σ H x v Q I rx h
  obtain ⟨k, e, q⟩ := h
  have hl := line63
  have hs : sizeLine = 16777216 := sizeLine_eq
  cases x with
  | non =>
    cases rx
    have e' : k = false := e
    subst e'
    exact truthy_none ⟨H, I, q⟩
  | bl b =>
    cases rx
    have e' : k = b := e
    subst e'
    exact wpAny_truthy_bool ⟨H, I, q⟩
  | int i =>
    obtain ⟨t, rfl⟩ := rx
    have e' : k = (i != 0) := e
    subst e'
    exact PySem.P.truthy_int ⟨H, I, q⟩
  | str y =>
    obtain ⟨t, rfl⟩ := rx
    obtain ⟨hy, e'⟩ : y.length ≤ sizeLine ∧ k = ((y.length : Int) != 0) := e
    subst e'
    exact PySem.P.truthy_str (by omega) ⟨H, I.tok _, q⟩
  | byt y =>
    obtain ⟨t, rfl⟩ := rx
    obtain ⟨hy, e'⟩ : y.size ≤ sizeLine ∧ k = ((y.size : Int) != 0) := e
    subst e'
    exact PySem.W.truthy_bytes (by omega) ⟨H, I.tok _, q⟩
  | ref p =>
    cases rx
    have e' : (∃ xs, SqL X.K H p xs ∧ k = !xs.isEmpty) ∨ (∃ xs, SqT X.K H p xs ∧ k = !xs.isEmpty) ∨ ∃ kvs, H p = some (.dK kvs) ∧ k = !kvs.isEmpty := e
    rcases e' with ⟨xs, hx, e'⟩ | ⟨xs, hx, e'⟩ | ⟨kvs, hx, e'⟩
    · subst e'
      obtain ⟨its, r, pl, hz⟩ := I.list hx
      have hlen := r.length
      exact wpAny_truthy_list pl.isList (by simp only [List.size_toArray]; omega) ⟨H, I.tok _, by rw [isEmpty_of r]; exact q⟩
    · subst e'
      obtain ⟨its, r, pl, hz⟩ := I.tuple hx
      have hlen := r.length
      exact truthy_tuple pl (by simp only [List.size_toArray]; omega) ⟨H, I.tok _, by rw [isEmpty_of r]; exact q⟩
    · subst e'
      obtain ⟨hz, hS, vs, r, m⟩ : kvs.length ≤ sizeLine ∧ (p == sysModules) = false ∧ ∃ vs, KV kvs vs ∧ s.heap.DictOf (mixKind X.prog X.w) p vs := I.hok p _ hx
      have hlen : kvs.length = vs.length := Paired.length r
      exact wpAny_truthy_dict hS m (by omega) ⟨H, I.tok _, by rw [isEmpty_kv r]; exact q⟩
  | _ => exact (show False from e).elim
/-- any expression whose test is its value's truth (a name, a call, a subscript, a field ..: he by fun _ => rfl) -/
theorem pt_truth (ha : PE X a ta) (he : ∀ whole, isTrue a X.env whole = (do let v ← whole; standAt a.pos; holding [v] (truthy v))) :
    PT X a (fun σ H Q => ta σ H fun x H' => ∃ k, TruV X.K x H' k ∧ Q k H') := by
  intro pins s σ H Q I h
  exact isTrue_plain (thn (ha pins s σ H _ I h) fun v s1 ⟨x, H1, I1, r1, q1⟩ => tru_ok pins s1 σ H1 x v Q I1 r1 q1) (he _)

/-! ### strs and bytes -/

def PlainIxT (b : Expr) : Prop := ∀ o i, subscripted b false o i = operate [o, i] (getItem o i)
/-- s[i], 0 ≤ i < len -/
theorem pe_item_str (ha : PE X a ta) (hb : PE X b tb) (hs : PlainIxT b) :
    PE X (.Subscript a b pos) (tOp (fun x y H Q => ∃ z i c, x = .str z ∧ y = .int i ∧ 0 ≤ i ∧ i < 2 ^ 63 ∧ i < z.length ∧ z.cps[i.toNat]? = some c ∧ Q (.str ⟨#[c]⟩) H) ta tb) := by
  intro pins s σ H Q I h
  refine Subscript_ (binT ha hb I h fun v u s2 x y H2 I2 rx ry q => ?_)
  obtain ⟨z, i, c, rfl, rfl, h0, h63, h1, hc, q⟩ := q
  obtain ⟨t, rfl⟩ := rx
  obtain ⟨t', rfl⟩ := ry
  have e : seqIndex? i z.length = some i.toNat := PySem.StrLaws.seqIndex_nonneg h0 h1
  exact tail_any (typeIs_str s2 z t) slot_str_getitem.lookup (getItem_str (c := c) (by
    have e1 : decide (i < -(2 ^ 63 : Int)) = false := decide_eq_false (by omega)
    have e2 : decide (i ≥ 2 ^ 63) = false := decide_eq_false (by omega)
    rw [e1, e2] <;> rfl) (by rw [e]; exact hc) ⟨.str ⟨#[c]⟩, H2, I2.tok _, ⟨_, rfl⟩, q⟩) (hs _ _)
/-- b[i], 0 ≤ i < len -/
theorem pe_item_byt (ha : PE X a ta) (hb : PE X b tb) (hs : PlainIxT b) :
    PE X (.Subscript a b pos) (tOp (fun x y H Q => ∃ (z : List UInt8) (i : Int), x = .byt z.toArray ∧ y = .int i ∧ z.length ≤ sizeLine ∧ 0 ≤ i ∧ i < z.length ∧ Q (.int ((z.getD i.toNat 0).toNat : Nat)) H) ta tb) := by
  intro pins s σ H Q I h
  refine Subscript_ (binT ha hb I h fun v u s2 x y H2 I2 rx ry q => ?_)
  obtain ⟨z, i, rfl, rfl, hz, h0, h1, q⟩ := q
  obtain ⟨t, rfl⟩ := rx
  obtain ⟨t', rfl⟩ := ry
  have hl : sizeLine = 16777216 := sizeLine_eq
  exact tail_any (PySem.W.typeIs_bytes s2 z.toArray t) PySem.W.FB.slot_bytes_getitem.lookup (PySem.W.getItem_bytes (by omega) h0 h1 ⟨.int ((z.getD i.toNat 0).toNat : Nat), H2, I2.tok _, ⟨_, rfl⟩, q⟩) (hs _ _)

/-! ### scalar builtins, by CallR -/
theorem vals1 {x : V} {us : List Value} (r : Vals [x] us) : ∃ u, us = [u] ∧ RelV x u := by
  cases r with
  | cons r1 r2 => cases r2; exact ⟨_, rfl, r1⟩
theorem vals2 {x y : V} {us : List Value} (r : Vals [x, y] us) : ∃ u w', us = [u, w'] ∧ RelV x u ∧ RelV y w' := by
  cases r with
  | cons r1 r2 =>
    cases r2 with
    | cons r3 r4 => cases r4; exact ⟨_, _, rfl, r1, r3⟩
/-- len of a str, a bytes, a list, a tuple -/
def LenV (K : PySem.W.Frag) (x : V) (H : Hp) (n : Nat) : Prop :=
  match x with
  | .str y => y.length ≤ sizeLine ∧ n = y.length
  | .byt y => y.size ≤ sizeLine ∧ n = y.size
  | .ref p => (∃ xs, SqL K H p xs ∧ n = xs.length) ∨ ∃ xs, SqT K H p xs ∧ n = xs.length
  | _ => False
/-- divmod: a new tuple -/
theorem call_divmod : CallR X (.builtin "divmod") (fun xs H Q => ∃ i j, xs = [.int i, .int j] ∧ CDiv i j ∧ ∀ p, H p = none → Q (.ref p) (upd H p (.tup [.int (i / j), .int (i % j)]))) := by
  intro pins s σ H xs us Q I r h
  obtain ⟨i, j, rfl, ⟨h1, h2⟩, q⟩ := h
  obtain ⟨u, w', rfl, ⟨t, rfl⟩, ⟨t', rfl⟩⟩ := vals2 r
  refine divmod_int (by omega) ?_ (.inl (PyProof.noPylong_small (by omega)))
  rw [Int.fdiv_eq_ediv_of_nonneg i (by omega), Int.fmod_eq_emod_of_nonneg i (by omega)]
  have hn : H s.heap.objs.size = none := I.hok.fresh (Nat.le_refl _)
  refine ⟨.ref s.heap.objs.size, _, ?_, rfl, q _ hn⟩
  refine I.laid (fun b o e => Heap.get?_push_of_some _ e) (Nat.le_refl _) ⟨by simp only [List.length_cons, List.length_nil]; rw [sizeLine_eq]; decide, [.int (i / j) s.toks, .int (i % j) (s.toks + 1)], .cons ⟨_, rfl⟩ (.cons ⟨_, rfl⟩ .nil), ?_⟩
  exact ⟨_, Heap.get?_push_size s.heap rfl, rfl, 0, rfl⟩
end
end L2

namespace L2
open PySem PySem.Spec PyProof.Rows

/-! ### an instance, its attributes a map -/
structure ObjM (h : Heap) (x dx C : Addr) (mA : Str → Option Value) : Prop where
  obj : h.get? x = some (PySem.W.instObj C dx)
  ns : h.Ns1 dx mA
  ne : dx ≠ x

theorem lookIn_ns {h : Heap} {dx : Addr} {mA : Str → Option Value} (n : h.Ns1 dx mA) : ∃ od, h.get? dx = some od ∧ ∀ name, PySem.W.lookIn name od = some (mA name) := by
  obtain ⟨o, es, ep, ho, hd, hk, _, hm⟩ := n
  refine ⟨o, ho, fun name => ?_⟩
  have e := hm name
  unfold nsFind findBy at e
  rw [← Array.find?_toList] at e
  unfold PySem.W.lookIn
  rw [hd]
  dsimp only
  split
  · rename_i y q
    rw [q] at e
    exact congrArg some e
  · rename_i q
    rw [q] at e
    have a : es.toList.any (·.refKey) = false := by
      rw [List.any_eq_false]
      intro y hy
      obtain ⟨z, t, hkey⟩ := hk y (Array.mem_toList_iff.mp hy)
      simp [DictEntry.refKey, hkey]
    have a' : ¬ es.toList.any (·.refKey) = true := by rw [a]; exact Bool.false_ne_true
    rw [if_neg a']
    exact congrArg some e

theorem ObjM.look {h : Heap} {x dx C : Addr} {mA : Str → Option Value} (I : ObjM h x dx C mA) : ∃ od, PySem.W.InstAt h x (PySem.W.instObj C dx) C (some od) ∧ ∀ name, PySem.W.lookIn name od = some (mA name) :=
  let ⟨od, ho, hl⟩ := lookIn_ns I.ns
  ⟨od, ⟨I.obj, rfl, rfl, ho⟩, hl⟩

section
variable {prog : Program} {w : World} {A : Around} {E : Value → Shared → Prop} {s : Shared} {K : PySem.W.Frag} {x dx C f : Addr} {mA : Str → Option Value} {name : Str} {v : Value}

theorem get_map {expr : Bool} {Q : Value → Shared → Prop} (X : K.In s.heap) (I : ObjM s.heap x dx C mA) (hg : PySem.W.plainGet K C name = true) (hh : PySem.W.hasDictIn K C = true)
    (ha : PySem.W.findIn K (.ref C) name = some none) (hv : mA name = some v) (hv' : PySem.W.handedIn v = true) (h : Q v { s with toks := s.toks + 1 }) :
    wpAny (model prog w) A (getAttr (.ref x) name expr) Q E s := by
  obtain ⟨od, J, hl⟩ := I.look
  exact PySem.W.get_value X J (PySem.W.plainGet_of hg).1 (PySem.W.findObj_own hh ha rfl (by rw [hl, hv])) hv' h


theorem get_meth {pl : Sem Bool} {Q : Value × List Value → Shared → Prop} (X : K.In s.heap) (I : ObjM s.heap x dx C mA) (hg : PySem.W.plainGet K C name = true)
    (hf : PySem.W.findIn K (.ref C) name = some (some (.ref f))) (ht : PySem.W.isFn K (.ref f) = true) (hv : mA name = none) (h : Q (.ref f, [.ref x]) s) :
    wpAny (model prog w) A (getMethod (.ref x) name pl) Q E s := by
  obtain ⟨od, J, hl⟩ := I.look
  exact PySem.W.method_fn X J (PySem.W.plainGet_of hg).1 (PySem.W.plainGet_of hg).2 hf (beq_iff_eq.mp ht) (by show (PySem.W.lookIn name od).map (·.isSome) = some false; rw [hl, hv]; rfl) h

theorem set_map {ns : List Str} {Q : Unit → Shared → Prop} (X : K.In s.heap) (I : ObjM s.heap x dx C mA)
    (hs : PySem.W.findIn K (.ref C) "__setattr__" = some (some (.builtin "object.__setattr__"))) (hp : PySem.W.plainOver K C = true) (ht : PySem.W.takerIn K C name = some none) (hh : PySem.W.hasDictIn K C = true)
    (hw : PySem.Within mA ns) (hsz : ns.length ≤ sizeLine)
    (h : ∀ h', ObjM h' x dx C (fun y => if y = name then some v else mA y) → Heap.SameBut dx s.heap h' → Q () { s with heap := h', toks := s.toks + 2 }) :
    wpAny (model prog w) A (setAttr (.ref x) name v) Q E s := by
  obtain ⟨od, J, hl⟩ := I.look
  refine PySem.W.set_plain X J hs (PySem.W.osa_open (s := { s with toks := s.toks + 1 }) (r := none) X J hp ht fun b => ?_)
  obtain ⟨cd, hc, hd'⟩ := PySem.W.any_some hh
  have hx : s.heap.get? x = some ⟨.ref C, some dx, .plain, #[]⟩ := I.obj
  refine wpAny_bind (wpAny_pure (wpAny_bind (wpAny_bind (wpAny_loadPart hx (wpAny_bind (PySem.W.Looks.here (s := { s with toks := s.toks + 1 }) (PySem.W.looks_clsIn X hc) ?_))))))
  rw [hd']
  refine wpAny_pure (a := some dx) (wpAny_bind (wpAny_pure (wpAny_bind ?_)))
  refine wpAny_nsSet1 (s := { s with toks := s.toks + 1 }) I.ns fun h' hn2 hs2 => ?_
  obtain ⟨oD, esD, epD, hoD, hdD, hcD⟩ := hn2.count (PySem.Within.cons name v hw)
  refine wpAny_bind (wpAny_lookBehind hoD (by rw [hdD]; exact pastItsLine_dict (Nat.le_trans hcD (by rw [List.length_cons]; omega))) ?_)
  exact wpAny_pure (h _ ⟨(hs2.2 _ (Ne.symm I.ne)).trans I.obj, hn2, I.ne⟩ hs2)

/-- C(..): the dict at the heap's end, the instance behind it; then its __init__ -/
theorem make_map {R : Result → Shared → Prop} {vs : List Value} {kw : List (Str × Value)} (X : K.In s.heap) (hm : PySem.W.makesIn K C = true)
    (hi : PySem.W.findIn K (.ref C) "__init__" = some (some (.ref f))) (hf : PySem.W.typeIn K (.ref f) = some (.type "function"))
    (h : codeAny (model prog w) (A.under (.builtin "type.__call__" ⟨.ref C :: vs, kw⟩)) (.call (.ref f) ⟨.ref (s.heap.objs.size + 1) :: vs, kw⟩) (PySem.W.InitBack (s.heap.objs.size + 1) R)
      { s with heap := (s.heap.push PySem.W.emptyDict).push (PySem.W.instObj C s.heap.objs.size) }) :
    codeAny (model prog w) A (.call (.ref C) ⟨vs, kw⟩) R s := by
  obtain ⟨hh, g, d, t, os⟩ := s
  exact PySem.W.make_core (PySem.W.makes_of X hm) (PySem.W.looks_findIn X hi) (fun self => PySem.W.bind_fn X self hf) (.inl rfl) h
/-- C() where there is no __init__ but object's -/
theorem make_map0 {R : Result → Shared → Prop} (X : K.In s.heap) (hm : PySem.W.makesIn K C = true)
    (hi : PySem.W.findIn K (.ref C) "__init__" = some (some (.builtin "object.__init__")))
    (hb : ∀ self, PySem.W.Looks (model prog w) s.heap (bindSpecial (.builtin "object.__init__") self) (.builtin "object.__init__", [self]))
    (h : codeAny (model prog w) (A.under (.builtin "type.__call__" ⟨[.ref C], []⟩)) (.call (.builtin "object.__init__") ⟨[.ref (s.heap.objs.size + 1)], []⟩) (PySem.W.InitBack (s.heap.objs.size + 1) R)
      { s with heap := (s.heap.push PySem.W.emptyDict).push (PySem.W.instObj C s.heap.objs.size) }) :
    codeAny (model prog w) A (.call (.ref C) ⟨[], []⟩) R s := by
  obtain ⟨hh, g, d, t, os⟩ := s
  exact PySem.W.make_core (PySem.W.makes_of X hm) (PySem.W.looks_findIn X hi) hb (.inr ⟨rfl, rfl⟩) h
end

/-! ### the attributes as a list of pairs -/
def putF (f : Str) (v : V) : List (Str × V) → List (Str × V)
  | [] => [(f, v)]
  | (g, x) :: r => if g = f then (g, v) :: r else (g, x) :: putF f v r
theorem lookup_putF (f g : Str) (v : V) : ∀ fs : List (Str × V), (putF f v fs).lookup g = if g = f then some v else fs.lookup g
  | [] => by
    show List.lookup g [(f, v)] = _
    by_cases h : g = f
    · have hb : (g == f) = true := beq_iff_eq.mpr h
      simp only [List.lookup, hb, if_pos h]
    · have hb : (g == f) = false := beq_eq_false_iff_ne.mpr h
      simp only [List.lookup, hb, if_neg h]
  | (k, x) :: r => by
    have ih := lookup_putF f g v r
    rw [show putF f v ((k, x) :: r) = (if k = f then (k, v) :: r else (k, x) :: putF f v r) from rfl]
    by_cases hk : k = f
    · rw [if_pos hk]
      by_cases h : g = k
      · have hb : (g == k) = true := beq_iff_eq.mpr h
        simp only [List.lookup, hb, if_pos (h.trans hk)]
      · have hb : (g == k) = false := beq_eq_false_iff_ne.mpr h
        simp only [List.lookup, hb, if_neg (fun e : g = f => h (e.trans hk.symm))]
    · rw [if_neg hk]
      by_cases h : g = k
      · have hb : (g == k) = true := beq_iff_eq.mpr h
        simp only [List.lookup, hb, if_neg (fun e : g = f => hk (h.symm.trans e))]
      · have hb : (g == k) = false := beq_eq_false_iff_ne.mpr h
        simp only [List.lookup, hb]
        exact ih
theorem keys_putF (f : Str) (v : V) : ∀ fs : List (Str × V), f ∈ (putF f v fs).map (·.1) ∧ ∀ g, g ∈ fs.map (·.1) → g ∈ (putF f v fs).map (·.1)
  | [] => ⟨by simp [putF], fun g h => by simp at h⟩
  | (k, x) :: r => by
    obtain ⟨i1, i2⟩ := keys_putF f v r
    rw [show putF f v ((k, x) :: r) = (if k = f then (k, v) :: r else (k, x) :: putF f v r) from rfl]
    by_cases hk : k = f
    · rw [if_pos hk]
      subst hk
      exact ⟨by simp, fun g h => by simpa using h⟩
    · rw [if_neg hk]
      refine ⟨?_, fun g h => ?_⟩
      · rw [List.map_cons]
        exact List.mem_cons_of_mem _ i1
      · rw [List.map_cons] at h ⊢
        rcases List.mem_cons.mp h with e | e
        · exact List.mem_cons.mpr (.inl e)
        · exact List.mem_cons_of_mem _ (i2 g e)
theorem length_putF (f : Str) (v : V) : ∀ fs : List (Str × V), (putF f v fs).length ≤ fs.length + 1
  | [] => by simp [putF]
  | (k, x) :: r => by
    have ih := length_putF f v r
    rw [show putF f v ((k, x) :: r) = (if k = f then (k, v) :: r else (k, x) :: putF f v r) from rfl]
    by_cases hk : k = f
    · rw [if_pos hk, List.length_cons, List.length_cons]; omega
    · rw [if_neg hk, List.length_cons, List.length_cons]; omega

theorem RelO.some_of {v : V} {o : Option Value} (r : RelO (some v) o) : ∃ u, o = some u ∧ RelV v u := by
  cases o with
  | none => exact (show False from r).elim
  | some u => exact ⟨u, rfl, r⟩
theorem RelO.none_of {o : Option Value} (r : RelO none o) : o = none := by
  cases o with
  | none => rfl
  | some u => exact (show False from r).elim
theorem handed_of {v : V} {u : Value} (r : RelV v u) : PySem.W.handedIn u = true := by
  cases v with
  | non => cases (show u = Value.none from r); rfl
  | bl b => cases (show u = Value.bool b from r); rfl
  | int i => obtain ⟨t, e⟩ := (show ∃ t, u = Value.int i t from r); cases e; rfl
  | str x => obtain ⟨t, e⟩ := (show ∃ t, u = Value.str x t from r); cases e; rfl
  | byt b => obtain ⟨t, e⟩ := (show ∃ t, u = Value.bytes b t from r); cases e; rfl
  | flt b => obtain ⟨t, e⟩ := (show ∃ t, u = Value.float b t from r); cases e; rfl
  | ref a => cases (show u = Value.ref a from r); rfl
  | ty n => cases (show u = Value.type n from r); rfl

section
variable {P : Program} {w : World} {H H' : Hp} {h h' : Heap} {a C dx : Addr} {fs fs' : List (Str × V)}
theorem ins_get (hok : HOk P w H h) (e : H a = some (.ins C dx fs)) : ∃ mA, ObjM h a dx C mA ∧ (∀ f, RelO (fs.lookup f) (mA f)) ∧ PySem.Within mA (fs.map (·.1)) ∧ fs.length ≤ 1000 ∧ H dx = some (.own a) := by
  obtain ⟨d, z, ne, ob, mA, n, r, q⟩ := (show ObjOk P w H h a (.ins C dx fs) from hok a _ e)
  exact ⟨mA, ⟨ob, n, ne⟩, r, q, z, d⟩
end

/-! ### what of the text a class must have -/
structure Cls (K : PySem.W.Frag) (C : Addr) : Prop where
  pg : PySem.W.plainGet K C Str.empty = true
  hd : PySem.W.hasDictIn K C = true
  po : PySem.W.plainOver K C = true
  sa : PySem.W.findIn K (.ref C) "__setattr__" = some (some (.builtin "object.__setattr__"))
theorem Cls.get {K : PySem.W.Frag} {C : Addr} (c : Cls K C) (f : Str) : PySem.W.plainGet K C f = true := c.pg
/-- no class of it has the name -/
def NoAttr (K : PySem.W.Frag) (C : Addr) (f : Str) : Prop := PySem.W.findIn K (.ref C) f = some none
theorem NoAttr.taker {K : PySem.W.Frag} {C : Addr} {f : Str} (n : NoAttr K C f) : PySem.W.takerIn K C f = some none := by
  unfold PySem.W.takerIn
  rw [show PySem.W.findIn K (.ref C) f = some none from n]
  rfl
/-- a constant of the class -/
structure Con (K : PySem.W.Frag) (C : Addr) (f : Str) (v : V) (u : Value) : Prop where
  at_ : PySem.W.findIn K (.ref C) f = some (some u)
  rel : RelV v u
  get : PySem.W.specialIn K u "__get__" = some none
  cp : PySem.W.copiedNames.contains f = false
/-- a method: a plain def of the class or of one above it -/
structure Meth (K : PySem.W.Frag) (C : Addr) (m : Str) (f : Addr) : Prop where
  at_ : PySem.W.findIn K (.ref C) m = some (some (.ref f))
  fn : PySem.W.isFn K (.ref f) = true
  kp : PySem.W.keepIn K (.ref f) = true

section
variable {X : Cx} {pins : List (Addr × Obj)} {σ : St} {H : Hp} {s : Shared} {a C dx : Addr} {fs : List (Str × V)} {f : Str} {v : V} {A : Around} {E : Value → Shared → Prop}

theorem getattr_ok {b : Bool} {Q : Value → Shared → Prop} (I : Inv X pins σ H s) (e : H a = some (.ins C dx fs)) (c : Cls X.K C) (n : NoAttr X.K C f) (l : fs.lookup f = some v)
    (h : ∀ u s', Inv X pins σ H s' → RelV v u → Q u s') : wpAny (model X.prog X.w) A (getAttr (.ref a) f b) Q E s := by
  obtain ⟨mA, O, r, _, _, _⟩ := ins_get I.hok e
  obtain ⟨u, hu, ru⟩ := RelO.some_of (v := v) (o := mA f) (by rw [← l]; exact r f)
  exact get_map I.kIn O (c.get f) c.hd n hu (handed_of ru) (h u _ (I.tok _) ru)


theorem getmeth_ok {m : Str} {g : Addr} {pl : Sem Bool} {Q : Value × List Value → Shared → Prop} (I : Inv X pins σ H s) (e : H a = some (.ins C dx fs)) (c : Cls X.K C) (k : Meth X.K C m g) (l : fs.lookup m = none)
    (h : Q (.ref g, [.ref a]) s) : wpAny (model X.prog X.w) A (getMethod (.ref a) m pl) Q E s := by
  obtain ⟨mA, O, r, _, _, _⟩ := ins_get I.hok e
  have hn : mA m = none := RelO.none_of (by rw [← l]; exact r m)
  exact get_meth I.kIn O (c.get m) k.at_ k.fn hn h

theorem setattr_ok {y : V} {u : Value} {Q : Unit → Shared → Prop} (I : Inv X pins σ H s) (e : H a = some (.ins C dx fs)) (c : Cls X.K C) (n : NoAttr X.K C f) (hl : fs.length < 1000) (ry : RelV y u)
    (h : ∀ s', Inv X pins σ (upd H a (.ins C dx (putF f y fs))) s' → Q () s') : wpAny (model X.prog X.w) A (setAttr (.ref a) f u) Q E s := by
  obtain ⟨mA, O, r, wi, _, ho⟩ := ins_get I.hok e
  have hz : (fs.map (·.1)).length ≤ sizeLine := by rw [List.length_map, sizeLine_eq]; omega
  refine set_map I.kIn O c.sa c.po n.taker c.hd wi hz fun h' O' sb => h _ ?_
  have hd : ∃ o, h'.get? dx = some o := let ⟨o, _, _, e', _⟩ := O'.ns; ⟨o, e'⟩
  refine I.write (x := a) (e := dx) (by rw [e]; exact True.intro) (.inr ho) (fun b q hb z => (sb.2 b hb).trans z) hd ?_
  refine ⟨by rw [upd_ne O.ne]; exact ho, ?_, O.ne, O'.obj, _, O'.ns, fun g => ?_, fun g hg => ?_⟩
  · have := length_putF f y fs; omega
  · show RelO ((putF f y fs).lookup g) (if g = f then some u else mA g)
    rw [lookup_putF]
    by_cases q : g = f
    · rw [if_pos q, if_pos q]; exact ry
    · rw [if_neg q, if_neg q]; exact r g
  · by_cases q : g = f
    · rw [q]; exact (keys_putF f y fs).1
    · refine (keys_putF f y fs).2 g (wi g fun z => hg ?_)
      show (if g = f then some u else mA g) = none
      rw [if_neg q]; exact z

/-- a new instance, tracked, without attributes -/
theorem Inv.made (I : Inv X pins σ H s) : Inv X pins σ (upd (upd H s.heap.objs.size (.own (s.heap.objs.size + 1))) (s.heap.objs.size + 1) (.ins C s.heap.objs.size []))
    { s with heap := (s.heap.push PySem.W.emptyDict).push (PySem.W.instObj C s.heap.objs.size) } := by
  have e1 : (s.heap.push PySem.W.emptyDict).get? s.heap.objs.size = some PySem.W.emptyDict := Heap.get?_push_size s.heap rfl
  have e2 : ((s.heap.push PySem.W.emptyDict).push (PySem.W.instObj C s.heap.objs.size)).get? (s.heap.objs.size + 1) = some (PySem.W.instObj C s.heap.objs.size) := by
    have := Heap.get?_push_size (s.heap.push PySem.W.emptyDict) (o := PySem.W.instObj C s.heap.objs.size) rfl
    rwa [Heap.size_push] at this
  have e3 : (s.heap.push PySem.W.emptyDict).Ns s.heap.objs.size (fun _ => none) := ⟨PySem.W.emptyDict, #[], _, e1, rfl, (fun e he => absurd he (by simp)), fun _ => rfl⟩
  have I1 := I.laid (a := s.heap.objs.size) (o := .own (s.heap.objs.size + 1)) (h' := s.heap.push PySem.W.emptyDict) (t' := s.toks) (fun b u q => Heap.get?_push_of_some _ q) (Nat.le_refl _) ⟨_, e1⟩
  refine I1.laid (a := s.heap.objs.size + 1) (o := .ins C s.heap.objs.size []) (t' := s.toks) (fun b u q => Heap.get?_push_of_some _ q) (Nat.le_of_eq (Heap.size_push _ _)) ?_
  have ne : s.heap.objs.size ≠ s.heap.objs.size + 1 := Nat.ne_of_lt (Nat.lt_succ_self _)
  refine ⟨by rw [upd_ne ne, upd_same], Nat.zero_le _, ne, e2, fun _ => none, (Heap.Ns1.of_empty e3).at fun o q => Heap.get?_push_of_some _ q, fun _ => True.intro, fun y hy => absurd rfl hy⟩

/-- e.f where nothing but the object is asked: through attributeBase (super) and the last hold -/
theorem attr_of {prog : Program} {w : World} {env : Env} {e : Expr} {f : Str} {pos : Pos} {s : Shared} {Q : Value → Shared → Prop} (hb : attributeBase e f env (eval e env) = eval e env)
    (h : wpAny (model prog w) A (eval e env) (fun o s₁ => wpAny (model prog w) A (getAttr o f true) Q E s₁) E s) : wpAny (model prog w) A (eval (.Attribute e f pos) env) Q E s :=
  Attribute_any_ h (by rw [arm_eval_Attribute, hb])
end

/-! ### readings and rules -/
/-- e.f, an attribute of the instance -/
def tFld (K : PySem.W.Frag) (ta : TE) (f : Str) : TE := fun σ H Q => ta σ H fun x H1 => ∃ a C dx fs v, x = .ref a ∧ H1 a = some (.ins C dx fs) ∧ Cls K C ∧ NoAttr K C f ∧ fs.lookup f = some v ∧ Q v H1
/-- e.f, a constant of the class -/
def tCon (K : PySem.W.Frag) (ta : TE) (f : Str) : TE := fun σ H Q => ta σ H fun x H1 => ∃ a C dx fs v u, x = .ref a ∧ H1 a = some (.ins C dx fs) ∧ Cls K C ∧ Con K C f v u ∧ fs.lookup f = none ∧ Q v H1
/-- e.f = value -/
def sFld (K : PySem.W.Frag) (ta tv : TE) (f : Str) : TS := fun D σ H => tv σ H fun y H1 => ta σ H1 fun x H2 => ∃ a C dx fs, x = .ref a ∧ H2 a = some (.ins C dx fs) ∧ Cls K C ∧ NoAttr K C f ∧ fs.length < 1000 ∧
  D.nx σ (upd H2 a (.ins C dx (putF f y fs)))
/-- an augmented operator on two values -/
def InOp (X : Cx) (op : Operator) (rd : V → V → Hp → VK → Prop) : Prop :=
  ∀ (pins : List (Addr × Obj)) (s : Shared) (σ : St) (H : Hp) (x y : V) (u v : Value) (Q : VK), Inv X pins σ H s → RelV x u → RelV y v → rd x y H Q → wpAny (model X.prog X.w) X.A (inplaceOp op u v) (EP X pins σ Q) X.xe s
/-- e.f op= value -/
def sFldAug (K : PySem.W.Frag) (ta tv : TE) (rd : V → V → Hp → VK → Prop) (f : Str) : TS := fun D σ H => ta σ H fun x H1 => ∃ a C dx fs v, x = .ref a ∧ H1 a = some (.ins C dx fs) ∧ Cls K C ∧ NoAttr K C f ∧ fs.lookup f = some v ∧
  tv σ H1 fun y H2 => rd v y H2 fun z H3 => ∃ dx' fs', H3 a = some (.ins C dx' fs') ∧ fs'.length < 1000 ∧ D.nx σ (upd H3 a (.ins C dx' (putF f z fs')))

section
variable {X : Cx} {o e value : Expr} {f : Str} {pos pos' tpos : Pos} {ta tv : TE}
theorem pe_fld (he : PE X e ta) (hb : attributeBase e f X.env (eval e X.env) = eval e X.env) : PE X (.Attribute e f pos) (tFld X.K ta f) := by
  intro pins s σ H Q I h
  refine attr_of hb (thn (he pins s σ H _ I h) fun u s1 ⟨x, H1, I1, rx, a, C, dx, fs, v, ex, ea, c, n, l, q⟩ => ?_)
  subst ex
  obtain rfl : u = Value.ref a := rx
  exact getattr_ok I1 ea c n l fun u' s2 I2 ru => ⟨v, H1, I2, ru, q⟩
theorem ps_fld (ha : PE X o ta) (hv : PE X value tv) (hs : swapsWith value (some (.Attribute o f pos')) pos.line X.env = pure false) : PS X (.Assign [.Attribute o f pos'] value pos) (sFld X.K ta tv f) := by
  intro pins s σ H D I h
  refine plainObj_wpAny_Assign_Attribute (thn (hv pins s σ H _ I h) fun u s1 ⟨y, H1, I1, ry, q⟩ => thn (ha pins s1 σ H1 _ I1 q) fun ov s2 ⟨x, H2, I2, rx, a, C, dx, fs, ex, ea, c, n, l, q2⟩ => ?_) hs
  subst ex
  obtain rfl : ov = Value.ref a := rx
  exact setattr_ok I2 ea c n l ry fun s3 I3 => ⟨σ, _, I3, q2⟩
theorem ps_fldaug {op : Operator} {rd : V → V → Hp → VK → Prop} (ha : PE X o ta) (hv : PE X value tv) (hop : InOp X op rd) : PS X (.AugAssign (.Attribute o f tpos) op value pos) (sFldAug X.K ta tv rd f) := by
  intro pins s σ H D I h
  refine wpAny_AugAssign_AttributeAny (thn (ha pins s σ H _ I h) fun ov s1 ⟨x, H1, I1, rx, a, C, dx, fs, v, ex, ea, c, n, l, q⟩ => ?_)
  subst ex
  obtain rfl : ov = Value.ref a := rx
  refine getattr_ok I1 ea c n l fun u s2 I2 ru => thn (hv pins s2 σ H1 _ I2 q) fun w3 s3 ⟨y, H2, I3, ry, q3⟩ => thn (hop pins s3 σ H2 v y u w3 _ I3 ru ry q3) fun w4 s4 ⟨z, H3, I4, rz, dx', fs', ea', l', q4⟩ => ?_
  exact setattr_ok I4 ea' c n l' rz fun s5 I5 => ⟨σ, _, I5, q4⟩
def rAdd : V → V → Hp → VK → Prop := fun x y H Q => ∃ i j, x = .int i ∧ y = .int j ∧ Q (.int (i + j)) H
def rSub : V → V → Hp → VK → Prop := fun x y H Q => ∃ i j, x = .int i ∧ y = .int j ∧ Q (.int (i - j)) H
theorem in_add : InOp X .Add rAdd := by
  rintro pins s σ H x y u v Q I rx ry ⟨i, j, rfl, rfl, q⟩
  obtain ⟨t, rfl⟩ := (show ∃ t, u = Value.int i t from rx)
  obtain ⟨t', rfl⟩ := (show ∃ t', v = Value.int j t' from ry)
  exact PyProof.Rows.iadd_int ⟨.int (i + j), H, I.tok _, ⟨_, rfl⟩, q⟩
theorem in_sub : InOp X .Sub rSub := by
  rintro pins s σ H x y u v Q I rx ry ⟨i, j, rfl, rfl, q⟩
  obtain ⟨t, rfl⟩ := (show ∃ t, u = Value.int i t from rx)
  obtain ⟨t', rfl⟩ := (show ∃ t', v = Value.int j t' from ry)
  exact PyProof.Rows.isub_int ⟨.int (i - j), H, I.tok _, ⟨_, rfl⟩, q⟩

/-- what is between an instance and its method: the tree of a method call -/
theorem methcall_of {pl : Sem Bool} {m : Str} {apos : Pos} {args : List Expr} {pins : List (Addr × Obj)} {s : Shared} {σ : St} {H : Hp} {Q : Value → Shared → Prop} {te : TE} (he : PE X e te) (I : Inv X pins σ H s)
    (h : te σ H fun x H1 => ∃ a C dx fs g, x = .ref a ∧ H1 a = some (.ins C dx fs) ∧ Cls X.K C ∧ Meth X.K C m g ∧ fs.lookup m = none ∧
      ∀ s1, Inv X pins σ H1 s1 → wpAny (model X.prog X.w) X.A (callWith pos (.ref g) [.ref a] (backTo pos (starEach args X.env)) (backToKw pos (keywordEach [] X.env))) Q X.xe s1)
    (ht : eval (.Call (.Attribute e m apos) args [] pos) X.env = (do
      let ov ← eval e X.env
      standAt apos.atName
      let (f, first) ← holding [ov] (getMethod ov m pl)
      callWith pos f first (backTo pos (starEach args X.env)) (backToKw pos (keywordEach [] X.env)))) :
    wpAny (model X.prog X.w) X.A (eval (.Call (.Attribute e m apos) args [] pos) X.env) Q X.xe s := by
  refine PySem.W.methodCall_KW (pl := pl) (thn (he pins s σ H _ I h) fun u s1 ⟨x, H1, I1, rx, a, C, dx, fs, g, ex, ea, c, k, l, q⟩ => ?_) ht
  subst ex
  obtain rfl : u = Value.ref a := rx
  exact getmeth_ok I1 ea c k l (q s1 I1)
end

/-! ### isinstance -/
section
variable {X : Cx} {pins : List (Addr × Obj)} {σ : St} {H : Hp} {s : Shared} {A : Around} {E : Value → Shared → Prop} {Q : Value → Shared → Prop} {c : Value} {b : Bool}
/-- the type of a value, as the fragment's deciders take it; for an instance its class -/
inductive TyOf (K : PySem.W.Frag) (H : Hp) : V → Value → Prop where
  | non : TyOf K H .non (.type "NoneType")
  | bl (x : Bool) : TyOf K H (.bl x) (.type "bool")
  | int (i : Int) : TyOf K H (.int i) (.type "int")
  | str (x : Str) : TyOf K H (.str x) (.type "str")
  | flt (x : UInt64) : TyOf K H (.flt x) (.type "float")
  | lst {a : Addr} {xs : List V} (e : H a = some (.lst xs)) : TyOf K H (.ref a) (.type "list")
  | frz {a : Addr} {o : Obj} {xs : List V} (e : H a = some (.frz o (.lst xs))) : TyOf K H (.ref a) (.type "list")
  | tup {a : Addr} {xs : List V} (e : H a = some (.tup xs)) : TyOf K H (.ref a) (.type "tuple")
  | dK {a : Addr} {kvs : List (Key × V)} (e : H a = some (.dK kvs)) : TyOf K H (.ref a) (.type "dict")
  | dT {a : Addr} {kvs : List (List Key × V)} (e : H a = some (.dT kvs)) : TyOf K H (.ref a) (.type "dict")
  | ins {a C dx : Addr} {fs : List (Str × V)} (e : H a = some (.ins C dx fs)) (cl : Cls K C) (ha : PySem.W.findIn K (.ref C) "__class__" = some (some (.builtin "object.__class__")))
      (hn : PySem.W.specialIn K (.builtin "object.__class__") "__get__" = some (some (.builtin "getset_descriptor.__get__"))) (htk : PySem.W.takesIn K (.builtin "object.__class__") = some true)
      (hm : PySem.W.mroIn K C (.type "object") = some true) : TyOf K H (.ref a) (.ref C)
/-- isinstance(x, c) for one class c, a built-in or an own one: kitOne's answer -/
theorem isinst_ok {x : V} {u t : Value} (I : Inv X pins σ H s) (rx : RelV x u) (ty : TyOf X.K H x t) (e : PySem.W.kitOne X.K t c = some b) (h : ∀ tk, Q (.bool b) { s with toks := tk }) :
    wpAny (model X.prog X.w) A (call (.builtin "isinstance") [u, c]) Q E s := by
  cases ty with
  | non => cases (show u = Value.none from rx); exact PySem.W.kia_one PySem.W.kitx_none I.kIn True.intro e (fun z => nomatch z) h
  | bl y => cases (show u = Value.bool y from rx); exact PySem.W.kia_one PySem.W.kitx_bool I.kIn True.intro e (fun z => nomatch z) h
  | int i => obtain ⟨t, q⟩ := (show ∃ t, u = Value.int i t from rx); cases q; exact PySem.W.kia_one PySem.W.kitx_int I.kIn True.intro e (fun z => nomatch z) h
  | str y => obtain ⟨t, q⟩ := (show ∃ t, u = Value.str y t from rx); cases q; exact PySem.W.kia_one PySem.W.kitx_str I.kIn True.intro e (fun z => nomatch z) h
  | flt y => obtain ⟨t, q⟩ := (show ∃ t, u = Value.float y t from rx); cases q; exact PySem.W.kia_one PySem.W.kitx_float I.kIn True.intro e (fun z => nomatch z) h
  | @lst a xs ea =>
    cases (show u = Value.ref a from rx)
    obtain ⟨_, _, n, _, h1⟩ := (show ObjOk X.prog X.w H s.heap a (.lst xs) from I.hok a _ ea)
    exact PySem.W.kia_one PySem.W.kitx_list I.kIn ⟨_, h1, rfl⟩ e (fun z => nomatch z) h
  | @frz a ob xs ea =>
    cases (show u = Value.ref a from rx)
    obtain ⟨_, _, _, n, _, h1⟩ := (show ObjOk X.prog X.w H s.heap a (.frz ob (.lst xs)) from I.hok a _ ea)
    exact PySem.W.kia_one PySem.W.kitx_list I.kIn ⟨_, h1, rfl⟩ e (fun z => nomatch z) h
  | @tup a xs ea =>
    cases (show u = Value.ref a from rx)
    obtain ⟨_, _, _, p⟩ := (show ObjOk X.prog X.w H s.heap a (.tup xs) from I.hok a _ ea)
    obtain ⟨o, h1, h2, _⟩ := p
    exact PySem.W.kia_one PySem.W.kitx_tuple I.kIn ⟨o, h1, h2⟩ e (fun z => nomatch z) h
  | @dK a kvs ea =>
    cases (show u = Value.ref a from rx)
    obtain ⟨_, _, vs, _, p⟩ := (show ObjOk X.prog X.w H s.heap a (.dK kvs) from I.hok a _ ea)
    obtain ⟨o, es, ep, h1, h2, _⟩ := p
    exact PySem.W.kia_one PySem.W.kitx_dict I.kIn ⟨o, h1, h2.1⟩ e (fun z => nomatch z) h
  | @dT a kvs ea =>
    cases (show u = Value.ref a from rx)
    obtain ⟨_, _, xs, _, o, es, ep, h1, h2, _⟩ := (show ObjOk X.prog X.w H s.heap a (.dT kvs) from I.hok a _ ea)
    exact PySem.W.kia_one PySem.W.kitx_dict I.kIn ⟨o, h1, h2.1⟩ e (fun z => nomatch z) h
  | @ins a C dx fs ea cl ha hn htk hm =>
    cases (show u = Value.ref a from rx)
    obtain ⟨mA, O, _⟩ := ins_get I.hok ea
    obtain ⟨od, J, _⟩ := O.look
    exact PySem.W.kia_one (PySem.W.kitx_own (cl.get _) cl.hd ha hn htk hm) I.kIn J e (fun z => nomatch z) h
end
end L2

namespace L2
open PySem PySem.Spec PyProof.Rows

/-! ### room -/
structure Room (k : Nat) (A : Around) : Prop where
  hd : A.handled = none
  dp : A.depth + 3 * k + 5 < recursionLimit
  un : A.units + 16 * k + 200 < cLine
theorem Room.mono {j k : Nat} {A : Around} (r : Room k A) (h : j ≤ k) : Room j A := ⟨r.hd, by have := r.dp; omega, by have := r.un; omega⟩
theorem Room.deeper {k : Nat} {A : Around} (r : Room (k + 1) A) (env : Env) : Room k (A.deeper env) :=
  ⟨r.hd, by have := r.dp; show A.depth + 1 + 3 * k + 5 < _; omega, by have := r.un; show A.units + 3 + 16 * k + 200 < _; omega⟩
theorem make_depth {A : Around} {C : Addr} {us : List Value} {kw : List (Str × Value)} : (A.under (.builtin "type.__call__" ⟨.ref C :: us, kw⟩)).depth = A.depth + 1 := by
  first | rfl | simp [Around.under, Code.weight, Code.isCreation, Code.isGuard, Code.isCaller, Code.frames, Code.isFrame, guardIds]
theorem make_units {A : Around} {C : Addr} {us : List Value} {kw : List (Str × Value)} : (A.under (.builtin "type.__call__" ⟨.ref C :: us, kw⟩)).units = A.units + 1 := by
  first | rfl | simp [Around.under, Code.cUnits, Code.frames, Code.isFrame]
theorem Room.make {k : Nat} {A : Around} (r : Room (k + 1) A) (C : Addr) (us : List Value) (kw : List (Str × Value)) : Room k (A.under (.builtin "type.__call__" ⟨.ref C :: us, kw⟩)) :=
  ⟨r.hd, by have := r.dp; rw [make_depth]; omega, by have := r.un; rw [make_units]; omega⟩
theorem Room.depth {k : Nat} {A : Around} (r : Room k A) : A.depth < recursionLimit := by have := r.dp; omega
theorem Room.units {k : Nat} {A : Around} (r : Room k A) : A.units + 64 < cLine := by have := r.un; omega

/-! ### argument lists and displays -/
def tNil : TA := fun _ H Q => Q [] H
def tCons (ta : TE) (tr : TA) : TA := fun σ H Q => ta σ H fun x H1 => tr σ H1 fun xs H2 => Q (x :: xs) H2
section
variable {X : Cx} {e : Expr} {es : List Expr} {te : TE} {t : TA} {pos : Pos}
theorem pa_nil : PA X [] tNil := fun _ _ _ _ H Q I h => Calls.spliced_nil ⟨[], H, I, .nil, h⟩
theorem pa_cons (ha : PE X e te) (hr : PA X es t) (hs : starEach (e :: es) X.env = (false, eval e X.env) :: starEach es X.env := by rfl) : PA X (e :: es) (tCons te t) := by
  intro pos pins s σ H Q I h
  rw [hs]
  show wpAny _ _ (spliced ((false, eval e X.env) :: backTo pos (starEach es X.env))) _ _ s
  refine Calls.spliced_cons (thn (ha pins s σ H _ I h) fun u s1 ⟨x, H1, I1, r1, q1⟩ => ?_)
  exact thn (hr pos pins s1 σ H1 _ I1 q1) fun us s2 ⟨xs, H2, I2, r2, q2⟩ => ⟨x :: xs, H2, I2, .cons r1 r2, q2⟩

/-- a tuple, a list of written items -/
def tTup (t : TA) : TE := fun σ H Q => t σ H fun xs H1 => xs.length ≤ sizeLine ∧ ∀ p, H1 p = none → Q (.ref p) (upd H1 p (.tup xs))
def tLst (t : TA) : TE := fun σ H Q => t σ H fun xs H1 => xs.length ≤ sizeLine ∧ ∀ p, H1 p = none → Q (.ref p) (upd H1 p (.lst xs))
theorem pe_tup {x1} (h : PA X es t) : PE X (.Tuple es x1 pos) (tTup t) := by
  intro pins s σ H Q I hq
  refine wpAny_Tuple_spliced (thn (h pos pins s σ H _ I hq) fun us s1 ⟨xs, H1, I1, r, z, q⟩ => ⟨by rw [← r.length]; exact z, ?_⟩)
  have hf : H1 s1.heap.objs.size = none := I1.hok.fresh (Nat.le_refl _)
  refine ⟨.ref s1.heap.objs.size, upd H1 s1.heap.objs.size (.tup xs), I1.laid (t' := s1.toks) (fun b u e => Heap.get?_push_of_some _ e) (Nat.le_refl _) ?_, rfl, q _ hf⟩
  exact ⟨z, us, r, ⟨_, Heap.get?_push_size _ rfl, rfl, _, rfl⟩⟩
theorem pe_lst (h : PA X es t) : PE X (.List es pos) (tLst t) := by
  intro pins s σ H Q I hq
  refine wpAny_List_spliced (thn (h pos pins s σ H _ I hq) fun us s1 ⟨xs, H1, I1, r, z, q⟩ => ⟨by rw [← r.length]; exact z, ?_⟩)
  have hf : H1 s1.heap.objs.size = none := I1.hok.fresh (Nat.le_refl _)
  refine ⟨.ref s1.heap.objs.size, upd H1 s1.heap.objs.size (.lst xs), I1.laid (t' := s1.toks) (fun b u e => Heap.get?_push_of_some _ e) (Nat.le_refl _) ?_, rfl, q _ hf⟩
  exact ⟨z, us, 0, r, Heap.get?_push_size _ rfl⟩
end

/-! ### what a def promises -/
/-- a def's promise: the bound arguments in the parameters' order, the heap, the wanted end, the wanted exception -/
abbrev Sp := List V → Hp → VK → XK → Prop
/-- how an exception lies behind a call (file 08 gives it): the callers' frames, abstract heap and state ahead of the call, the wish, the exception, the state -/
abbrev CXT := List Env → Hp → Shared → XK → Value → Shared → Prop

/-- the state at a call -/
structure Env0 (P : Program) (w : World) (K : PySem.W.Frag) (mg : Str → Option Value) (base : Heap) (A : Around) (outer : List Env) (s : Shared) (H : Hp) : Prop where
  frames : A.frames = some outer
  mod : Mod K mg base
  bs : ∀ b o, base.get? b = some o → s.heap.get? b = some o ∧ H b = none
  bsz : base.objs.size ≤ s.heap.objs.size
  funs : s.heap.FunFrames base outer
  frf : ∀ b ∈ frs outer, H b = none
  hok : HOk P w H s.heap
  bare : AllBare s.gens
/-- a call's end -/
def CE (outer : List Env) (P : Program) (w : World) (H : Hp) (s : Shared) (Q : VK) (u : Value) (s' : Shared) : Prop :=
  ∃ v H', s'.os = s.os ∧ AllBare s'.gens ∧ Un (frs outer) [] H H' s.heap s'.heap ∧ HOk P w H' s'.heap ∧ RelV v u ∧ Q v H'
def CR (CX : CXT) (outer : List Env) (P : Program) (w : World) (H : Hp) (s : Shared) (Q : VK) (E : XK) (r : Result) (s' : Shared) : Prop :=
  match r with
  | .ok (.ret u) => CE outer P w H s Q u s'
  | .ok _ => False
  | .error e => CX outer H s E e s'
structure FnOk (P : Program) (w : World) (K : PySem.W.Frag) (mg : Str → Option Value) (base : Heap) (CX : CXT) (k : Nat) (f : Addr) (fd : FuncData) (ps : List Str) (sp : Sp) : Prop where
  len : ∀ vs H Q E, sp vs H Q E → vs.length = ps.length
  run : ∀ (A : Around) (outer : List Env) (s : Shared) (H : Hp) (args : Args) (us : List Value) (vs : List V) (Q : VK) (E : XK), Room k A → Env0 P w K mg base A outer s H → BindsTo s fd args (ps.zip us) → Vals vs us → sp vs H Q E →
    codeAny (model P w) A (.call (.ref f) args) (CR CX outer P w H s Q E) s
/-- a weaker promise -/
theorem FnOk.imp {P : Program} {w : World} {K : PySem.W.Frag} {mg : Str → Option Value} {base : Heap} {CX : CXT} {k : Nat} {f : Addr} {fd : FuncData} {ps : List Str} {sp sp' : Sp} (F : FnOk P w K mg base CX k f fd ps sp)
    (h : ∀ vs H Q E, sp' vs H Q E → sp vs H Q E) : FnOk P w K mg base CX k f fd ps sp' :=
  ⟨fun vs H Q E q => F.len vs H Q E (h _ _ _ _ q), fun A outer s H args us vs Q E hr he hb hv hs => F.run A outer s H args us vs Q E hr he hb hv (h _ _ _ _ hs)⟩

theorem Env0.make {P : Program} {w : World} {K : PySem.W.Frag} {mg : Str → Option Value} {base : Heap} {A : Around} {outer : List Env} {s : Shared} {H : Hp} (e : Env0 P w K mg base A outer s H) (C : Addr) (us : List Value) (kw : List (Str × Value)) :
    Env0 P w K mg base (A.under (.builtin "type.__call__" ⟨.ref C :: us, kw⟩)) outer s H := ⟨by first | exact e.frames | (simpa [Around.under, Code.envs, Code.isFrame, pushEnvs] using e.frames), e.mod, e.bs, e.bsz, e.funs, e.frf, e.hok, e.bare⟩

section
variable {X : Cx} {pins : List (Addr × Obj)} {σ : St} {H : Hp} {s s' : Shared}
/-- from a body: what a callee wants -/
theorem Inv.env0 (I : Inv X pins σ H s) : Env0 X.prog X.w X.K X.mg X.base X.A X.stack s H :=
  ⟨I.ok.frames, I.ok.mod, I.bs, Nat.le_trans I.ok.bsz I.sz, I.stack, I.stkFree, I.hok, I.bare⟩
/-- behind a call -/
theorem Inv.after {Q : VK} {u : Value} (I : Inv X pins σ H s) (h : CE X.stack X.prog X.w H s Q u s') : EP X pins σ Q u s' := by
  obtain ⟨v, H', os, bare, un, hok, r, q⟩ := h
  obtain ⟨hh, g, d, t, os'⟩ := s'
  obtain rfl : os' = s.os := os
  exact ⟨v, H', I.call (h' := hh) (g' := g) (d' := d) (t' := t) (ch := []) un hok bare (fun b z => absurd z (by simp)), r, q⟩
end

/-! ### calls -/
/-- f(..): the written arguments, then the defaults dvs; E: what is wanted of an exception -/
def tCall (sp : Sp) (dvs : List V) (E : XK) (t : TA) : TE := fun σ H Q => t σ H fun vs H1 => sp (vs ++ dvs) H1 Q E
/-- o.m(..) of an instance of the class at C -/
def tMeth (C : Addr) (m : Str) (sp : Sp) (dvs : List V) (E : XK) (ta : TE) (t : TA) : TE := fun σ H Q => ta σ H fun x H1 => ∃ a dx fs, x = .ref a ∧ H1 a = some (.ins C dx fs) ∧ fs.lookup m = none ∧
  t σ H1 fun vs H2 => sp (x :: (vs ++ dvs)) H2 Q E
/-- C(..): a new instance and its dict, then __init__ -/
def tMake (C : Addr) (sp : Sp) (dvs : List V) (E : XK) (t : TA) : TE := fun σ H Q => t σ H fun vs H1 => ∀ x dx, H1 x = none → H1 dx = none → dx ≠ x →
  sp (.ref x :: (vs ++ dvs)) (upd (upd H1 dx (.own x)) x (.ins C dx [])) (fun v H2 => v = .non ∧ Q (.ref x) H2) E

/-- how the parameters are bound: us the positional arguments, kw the keywords' values by name, ds the defaults that fill up -/
def Binds (K : PySem.W.Frag) (fd : FuncData) (ps : List Str) (ds : List Value) : Prop :=
  ∀ (s : Shared) (us : List Value), K.In s.heap → (us ++ ds).length = ps.length → BindsTo s fd ⟨us, []⟩ (ps.zip (us ++ ds))
/-- every parameter is given -/
theorem Binds.all {K : PySem.W.Frag} {fd : FuncData} {ps : List Str} (h : ∀ us : List Value, us.length = ps.length → bindArgs fd ⟨us, []⟩ = pure (ps.zip us)) : Binds K fd ps [] := fun s us _ hl => by
  rw [List.append_nil] at hl ⊢
  exact .of_eq (h us hl)

/-- an exception of a callee reaches what this body wants of exceptions -/
def Passes (CX : CXT) (X : Cx) (E : XK) : Prop := ∀ (pins : List (Addr × Obj)) (σ : St) (H : Hp) (s : Shared) (e : Value) (s' : Shared), Inv X pins σ H s → CX X.stack H s E e s' → X.xe e s'

section
variable {X : Cx} {CX : CXT} {k : Nat} {f C : Addr} {fd : FuncData} {ps : List Str} {sp : Sp} {dvs : List V} {ds : List Value} {E : XK} {x m : Str} {p pos apos : Pos} {e o : Expr} {es : List Expr} {ta : TE} {t : TA}

/-- the callee runs -/
theorem run_fn {pins : List (Addr × Obj)} {σ : St} {H : Hp} {s : Shared} {Q : VK} {us : List Value} {vs : List V} (F : FnOk X.prog X.w X.K X.mg X.base CX k f fd ps sp) (hr : Room k X.A) (hb : Binds X.K fd ps ds) (hd : Vals dvs ds) (hx : Passes CX X E)
    (I : Inv X pins σ H s) (r : Vals vs us) (h : sp (vs ++ dvs) H Q E) : wpAny (model X.prog X.w) X.A (call (.ref f) us) (EP X pins σ Q) X.xe s := by
  have r2 : Vals (vs ++ dvs) (us ++ ds) := r.append hd
  have hl : (us ++ ds).length = ps.length := by rw [← r2.length]; exact F.len _ _ _ _ h
  refine wpAny_call (codeAny_mono (F.run X.A X.stack s H ⟨us, []⟩ (us ++ ds) (vs ++ dvs) Q E hr I.env0 (hb s us I.kIn hl) r2 h) fun r s' hq => ?_)
  cases r with
  | error e => exact hx pins σ H s e s' I hq
  | ok fl =>
    cases fl with
    | ret u => exact I.after hq
    | next => exact False.elim hq
    | brk => exact False.elim hq
    | cont => exact False.elim hq

theorem pe_call (F : FnOk X.prog X.w X.K X.mg X.base CX k f fd ps sp) (hr : Room k X.A) (hg : Gl X x) (hm : X.mg x = some (.ref f)) (hk : PySem.W.keepIn X.K (.ref f) = true) (hb : Binds X.K fd ps ds) (hd : Vals dvs ds) (hx : Passes CX X E)
    (ha : PA X (e :: es) t) (hdb : (x == ("__debug__" : Str)) = false := by decide) (he : starEach (e :: es) X.env = (false, eval e X.env) :: starEach es X.env := by rfl) (hpl : (backTo pos (starEach es X.env)).any (·.1) = false := by rfl) :
    PE X (.Call (.Name x p) (e :: es) [] pos) (tCall sp dvs E t) := by
  intro pins s σ H Q I h
  refine wpAny_Call_Name_kw (ld_glob I hg hm ?_ hdb)
  refine PySem.W.callWith_K (h₀ := X.base) I.ok.mod.kin hk (thn (ha pos pins s σ H _ I h) fun us s1 ⟨vs, H1, I1, r, q⟩ => ⟨I1.kIn, ?_⟩) he hpl
  exact run_fn F hr hb hd hx I1 r q

/-- o.m(e, ..) -/
theorem pe_meth {pl : Sem Bool} (he : PE X o ta) (c : Cls X.K C) (hm : Meth X.K C m f) (F : FnOk X.prog X.w X.K X.mg X.base CX k f fd ps sp) (hr : Room k X.A) (hb : Binds X.K fd ps ds) (hd : Vals dvs ds) (hx : Passes CX X E) (ha : PA X (e :: es) t)
    (hst : starEach (e :: es) X.env = (false, eval e X.env) :: starEach es X.env := by rfl) (hpl : (backTo pos (starEach es X.env)).any (·.1) = false := by rfl)
    (ht : eval (.Call (.Attribute o m apos) (e :: es) [] pos) X.env = (do
      let ov ← eval o X.env
      standAt apos.atName
      let (f, first) ← holding [ov] (getMethod ov m pl)
      callWith pos f first (backTo pos (starEach (e :: es) X.env)) (backToKw pos (keywordEach [] X.env))) := by rfl) :
    PE X (.Call (.Attribute o m apos) (e :: es) [] pos) (tMeth C m sp dvs E ta t) := by
  intro pins s σ H Q I h
  refine PySem.W.methodCall_KW (pl := pl) (thn (he pins s σ H _ I h) fun u s1 ⟨x, H1, I1, rx, a, dx, fs, ex, ea, l, q⟩ => ?_) ht
  subst ex
  obtain rfl : u = Value.ref a := rx
  refine getmeth_ok I1 ea c hm l ?_
  refine PySem.W.callWith_K (first := [.ref a]) (h₀ := X.base) I.ok.mod.kin hm.kp (thn (ha pos pins s1 σ H1 _ I1 q) fun us s2 ⟨vs, H2, I2, r, q2⟩ => ⟨I2.kIn, ?_⟩) hst hpl
  exact run_fn (us := .ref a :: us) (vs := .ref a :: vs) F hr hb hd hx I2 (.cons rfl r) q2
/-- o.m() -/
theorem pe_meth0 {pl : Sem Bool} (he : PE X o ta) (c : Cls X.K C) (hm : Meth X.K C m f) (F : FnOk X.prog X.w X.K X.mg X.base CX k f fd ps sp) (hr : Room k X.A) (hb : Binds X.K fd ps ds) (hd : Vals dvs ds) (hx : Passes CX X E)
    (ht : eval (.Call (.Attribute o m apos) [] [] pos) X.env = (do
      let ov ← eval o X.env
      standAt apos.atName
      let (f, first) ← holding [ov] (getMethod ov m pl)
      callWith pos f first (backTo pos (starEach [] X.env)) (backToKw pos (keywordEach [] X.env))) := by rfl) :
    PE X (.Call (.Attribute o m apos) [] [] pos) (tMeth C m sp dvs E ta tNil) := by
  intro pins s σ H Q I h
  refine PySem.W.methodCall_KW (pl := pl) (thn (he pins s σ H _ I h) fun u s1 ⟨x, H1, I1, rx, a, dx, fs, ex, ea, l, q⟩ => ?_) ht
  subst ex
  obtain rfl : u = Value.ref a := rx
  refine getmeth_ok I1 ea c hm l ?_
  exact PySem.W.callWith_K0 (first := [.ref a]) I1.kIn hm.kp (run_fn (us := [.ref a]) (vs := [.ref a]) F hr hb hd hx I1 (.cons rfl .nil) q)

/-- what a class must have to be made -/
structure Mk (K : PySem.W.Frag) (C f : Addr) : Prop where
  makes : PySem.W.makesIn K C = true
  init : PySem.W.findIn K (.ref C) "__init__" = some (some (.ref f))
  fn : PySem.W.isFn K (.ref f) = true
  kp : PySem.W.keepIn K (.ref C) = true

theorem run_make {pins : List (Addr × Obj)} {σ : St} {H : Hp} {s : Shared} {Q : VK} {us : List Value} {vs : List V} (M : Mk X.K C f) (F : FnOk X.prog X.w X.K X.mg X.base CX k f fd ps sp) (hr : Room (k + 1) X.A) (hb : Binds X.K fd ps ds) (hd : Vals dvs ds)
    (hx : Passes CX X E) (I : Inv X pins σ H s) (r : Vals vs us)
    (h : ∀ x dx, H x = none → H dx = none → dx ≠ x → sp (.ref x :: (vs ++ dvs)) (upd (upd H dx (.own x)) x (.ins C dx [])) (fun v H2 => v = .non ∧ Q (.ref x) H2) E) :
    wpAny (model X.prog X.w) X.A (call (.ref C) us) (EP X pins σ Q) X.xe s := by
  have hq := h (s.heap.objs.size + 1) s.heap.objs.size (I.hok.fresh (Nat.le_succ _)) (I.hok.fresh (Nat.le_refl _)) (Nat.ne_of_lt (Nat.lt_succ_self _))
  have I2 := Inv.made (C := C) I
  have r2 : Vals (V.ref (s.heap.objs.size + 1) :: (vs ++ dvs)) (Value.ref (s.heap.objs.size + 1) :: (us ++ ds)) := .cons rfl (r.append hd)
  have hl : (Value.ref (s.heap.objs.size + 1) :: us ++ ds).length = ps.length := by
    have e := r2.length
    rw [F.len _ _ _ _ hq] at e
    exact e.symm
  refine wpAny_call (make_map (f := f) I.kIn M.makes M.init (beq_iff_eq.mp M.fn) (codeAny_mono (F.run _ X.stack _ _ ⟨Value.ref (s.heap.objs.size + 1) :: us, []⟩ (Value.ref (s.heap.objs.size + 1) :: (us ++ ds)) _ _ E (hr.make C us [])
    (I2.env0.make C us []) (hb _ (Value.ref (s.heap.objs.size + 1) :: us) I2.kIn hl) r2 hq) fun r s' hq' => ?_))
  cases r with
  | error e => exact hx pins σ _ _ e s' I2 hq'
  | ok fl =>
    cases fl with
    | ret u =>
      obtain ⟨v, H', I3, rv, ev, q3⟩ := I2.after hq'
      subst ev
      exact ⟨rv, ⟨V.ref (s.heap.objs.size + 1), H', I3, rfl, q3⟩⟩
    | next => exact False.elim hq'
    | brk => exact False.elim hq'
    | cont => exact False.elim hq'
theorem pe_make (M : Mk X.K C f) (F : FnOk X.prog X.w X.K X.mg X.base CX k f fd ps sp) (hr : Room (k + 1) X.A) (hg : Gl X x) (hm : X.mg x = some (.ref C)) (hb : Binds X.K fd ps ds) (hd : Vals dvs ds) (hx : Passes CX X E)
    (ha : PA X (e :: es) t) (hdb : (x == ("__debug__" : Str)) = false := by decide) (he : starEach (e :: es) X.env = (false, eval e X.env) :: starEach es X.env := by rfl) (hpl : (backTo pos (starEach es X.env)).any (·.1) = false := by rfl) :
    PE X (.Call (.Name x p) (e :: es) [] pos) (tMake C sp dvs E t) := by
  intro pins s σ H Q I h
  refine wpAny_Call_Name_kw (ld_glob I hg hm ?_ hdb)
  refine PySem.W.callWith_K (h₀ := X.base) I.ok.mod.kin M.kp (thn (ha pos pins s σ H _ I h) fun us s1 ⟨vs, H1, I1, r, q⟩ => ⟨I1.kIn, ?_⟩) he hpl
  exact run_make M F hr hb hd hx I1 r q
theorem pe_make0 (M : Mk X.K C f) (F : FnOk X.prog X.w X.K X.mg X.base CX k f fd ps sp) (hr : Room (k + 1) X.A) (hg : Gl X x) (hm : X.mg x = some (.ref C)) (hb : Binds X.K fd ps ds) (hd : Vals dvs ds) (hx : Passes CX X E)
    (hdb : (x == ("__debug__" : Str)) = false := by decide) : PE X (.Call (.Name x p) [] [] pos) (tMake C sp dvs E tNil) := by
  intro pins s σ H Q I h
  refine wpAny_Call_Name_kw (ld_glob I hg hm ?_ hdb)
  exact PySem.W.callWith_K0 I.kIn M.kp (run_make (us := []) M F hr hb hd hx I .nil h)
end

/-! ### keywords -/
/-- the values of the keywords, from the left -/
def PK (X : Cx) (kws : List Keyword) (t : TA) : Prop :=
  ∀ (pos : Pos) (pins : List (Addr × Obj)) (s : Shared) (σ : St) (H : Hp) (Q : List V → Hp → Prop), Inv X pins σ H s → t σ H Q → wpAny (model X.prog X.w) X.A (evalAll ((backToKw pos (keywordEach kws X.env)).map (·.2))) (AP X pins σ Q) X.xe s
section
variable {X : Cx} {CX : CXT} {k : Nat} {f C : Addr} {fd : FuncData} {ps ks : List Str} {sp : Sp} {E : XK} {x m : Str} {p pos apos kpos : Pos} {e o : Expr} {es : List Expr} {kws : List Keyword} {te ta : TE} {t tk : TA} {nm : Option Str}

/-- how a call with keywords binds: g puts the positional values us and the keywords' values ws (names ks) in the parameters' order, defaults among them -/
structure KBinds (K : PySem.W.Frag) (fd : FuncData) (ps ks : List Str) (g : List Value → List Value → List Value) (gV : List V → List V → List V) : Prop where
  to : ∀ (s : Shared) (us ws : List Value), K.In s.heap → (g us ws).length = ps.length → BindsTo s fd ⟨us, ks.zip ws⟩ (ps.zip (g us ws))
  rel : ∀ {vs : List V} {us : List Value} {zs : List V} {ws : List Value}, Vals vs us → Vals zs ws → Vals (gV vs zs) (g us ws)
def tCallK (sp : Sp) (gV : List V → List V → List V) (E : XK) (t tk : TA) : TE := fun σ H Q => t σ H fun vs H1 => tk σ H1 fun zs H2 => sp (gV vs zs) H2 Q E
variable {g : List Value → List Value → List Value} {gV : List V → List V → List V}
theorem run_fnk {pins : List (Addr × Obj)} {σ : St} {H : Hp} {s : Shared} {Q : VK} {us ws : List Value} {vs zs : List V} (F : FnOk X.prog X.w X.K X.mg X.base CX k f fd ps sp) (hr : Room k X.A) (hb : KBinds X.K fd ps ks g gV) (hx : Passes CX X E)
    (I : Inv X pins σ H s) (r : Vals vs us) (rz : Vals zs ws) (h : sp (gV vs zs) H Q E) : wpAny (model X.prog X.w) X.A (call (.ref f) us (ks.zip ws)) (EP X pins σ Q) X.xe s := by
  have r2 := hb.rel r rz
  have hl : (g us ws).length = ps.length := by rw [← r2.length]; exact F.len _ _ _ _ h
  refine wpAny_call (codeAny_mono (F.run X.A X.stack s H ⟨us, ks.zip ws⟩ (g us ws) (gV vs zs) Q E hr I.env0 (hb.to s us ws I.kIn hl) r2 h) fun r s' hq => ?_)
  cases r with
  | error e => exact hx pins σ H s e s' I hq
  | ok fl =>
    cases fl with
    | ret u => exact I.after hq
    | next => exact False.elim hq
    | brk => exact False.elim hq
    | cont => exact False.elim hq
/-- f(e, .., k = v, ..) -/
theorem pe_callK (F : FnOk X.prog X.w X.K X.mg X.base CX k f fd ps sp) (hr : Room k X.A) (hg : Gl X x) (hm : X.mg x = some (.ref f)) (hk : PySem.W.keepIn X.K (.ref f) = true) (hb : KBinds X.K fd ps ks g gV) (hx : Passes CX X E)
    (ha : PA X (e :: es) t) (hkw : PK X kws tk) (hall : (backToKw pos (keywordEach kws X.env)).all (·.1.isSome) = true := by rfl) (hks : (backToKw pos (keywordEach kws X.env)).filterMap (·.1) = ks := by rfl)
    (hdb : (x == ("__debug__" : Str)) = false := by decide) (he : starEach (e :: es) X.env = (false, eval e X.env) :: starEach es X.env := by rfl)
    (hpl : ((backTo pos (starEach (e :: es) X.env)).any (·.1) || (backToKw pos (keywordEach kws X.env)).any (·.1.isNone)) = false := by rfl) :
    PE X (.Call (.Name x p) (e :: es) kws pos) (tCallK sp gV E t tk) := by
  intro pins s σ H Q I h
  refine wpAny_Call_Name_kw (ld_glob I hg hm ?_ hdb)
  refine PySem.W.callWith_KW (h₀ := X.base) I.ok.mod.kin hk hall (thn (ha pos pins s σ H _ I h) fun us s1 ⟨vs, H1, I1, r, q⟩ => ?_) hpl he
  refine thn (hkw pos pins s1 σ H1 _ I1 q) fun ws s2 ⟨zs, H2, I2, rz, q2⟩ => ⟨I2.kIn, ?_⟩
  rw [hks]
  exact run_fnk F hr hb hx I2 r rz q2
end

/-! ### a def's body keeps its promise -/
/-- names: the parameters first -/
structure FnScope (N P : List Str) (sc : Scope) : Prop where
  kind : sc.kind = .function
  co : sc.isCoroutine = false
  gen : sc.isGenerator = false
  nd : N.Nodup
  pre : N.take P.length = P
  par : ∀ x ∈ P, sc.names.lookup x = some .local ∨ sc.names.lookup x = some .cell
  nofree : ∀ y ∈ sc.names, y.2 ≠ .free

theorem bindL_out {kindOf : Str → Option NameKind} {x : Str} : ∀ {binds : List (Str × Value)} {m : Str → Option Value}, (∀ v, (x, v) ∉ binds) → bindL kindOf binds m x = m x
  | [], _, _ => rfl
  | (n, v) :: r, m, h => by
    unfold bindL
    rw [bindL_out fun w hw => h w (List.mem_cons_of_mem _ hw)]
    split
    · have : x ≠ n := by rintro rfl; exact h v List.mem_cons_self
      simp [this]
    · rfl
theorem bindC_out {kindOf : Str → Option NameKind} {x : Str} : ∀ {binds : List (Str × Value)} {m : Str → Option Value}, (∀ v, (x, v) ∉ binds) → bindC kindOf binds m x = m x
  | [], _, _ => rfl
  | (n, v) :: r, m, h => by
    unfold bindC
    rw [bindC_out fun w hw => h w (List.mem_cons_of_mem _ hw)]
    split
    · rfl
    · have : x ≠ n := by rintro rfl; exact h v List.mem_cons_self
      simp [this]
theorem bindL_get {kindOf : Str → Option NameKind} {x : Str} {v : Value} : ∀ {P : List Str} {vs : List Value} {i : Nat} {m : Str → Option Value}, P.Nodup → P[i]? = some x → vs[i]? = some v → kindOf x = some .local →
    bindL kindOf (P.zip vs) m x = some v
  | [], _, _, _, _, h, _, _ => by simp at h
  | _ :: _, [], _, _, _, _, h, _ => by simp at h
  | p :: P, w :: vs, 0, m, nd, h1, h2, hk => by
    simp at h1 h2; subst h1; subst h2
    show bindL kindOf ((p, w) :: P.zip vs) m p = _
    unfold bindL
    rw [bindL_out fun v hv => (List.nodup_cons.mp nd).1 (List.of_mem_zip hv).1, if_pos hk]
    simp
  | p :: P, w :: vs, i + 1, m, nd, h1, h2, hk => by
    show bindL kindOf ((p, w) :: P.zip vs) m x = _
    unfold bindL
    exact bindL_get (i := i) (List.nodup_cons.mp nd).2 (by simpa using h1) (by simpa using h2) hk
theorem bindC_get {kindOf : Str → Option NameKind} {x : Str} {v : Value} : ∀ {P : List Str} {vs : List Value} {i : Nat} {m : Str → Option Value}, P.Nodup → P[i]? = some x → vs[i]? = some v → kindOf x ≠ some .local →
    bindC kindOf (P.zip vs) m x = some v
  | [], _, _, _, _, h, _, _ => by simp at h
  | _ :: _, [], _, _, _, _, h, _ => by simp at h
  | p :: P, w :: vs, 0, m, nd, h1, h2, hk => by
    simp at h1 h2; subst h1; subst h2
    show bindC kindOf ((p, w) :: P.zip vs) m p = _
    unfold bindC
    rw [bindC_out fun v hv => (List.nodup_cons.mp nd).1 (List.of_mem_zip hv).1, if_neg hk]
    simp
  | p :: P, w :: vs, i + 1, m, nd, h1, h2, hk => by
    show bindC kindOf ((p, w) :: P.zip vs) m x = _
    unfold bindC
    exact bindC_get (i := i) (List.nodup_cons.mp nd).2 (by simpa using h1) (by simpa using h2) hk

/-- the names' values at the entry -/
def start (N : List Str) (vs : List V) : St := vs.map some ++ List.replicate (N.length - vs.length) none

/-- the context of a def's body, at its entry; an exception leaves the frame, then lies as CX says -/
def cxOf (CX : CXT) (P : Program) (w : World) (K : PySem.W.Frag) (mg : Str → Option Value) (base : Heap) (N : List Str) (qual : Str) (scope : Scope) (f : Addr) (cd : Value) (A : Around) (outer : List Env) (s : Shared) (H : Hp) (E : XK) : Cx where
  prog := P
  w := w
  K := K
  mg := mg
  base := base
  A := A.deeper (envOfC qual scope s.heap.objs.size f cd)
  N := N
  s₀ := s
  H₀ := H
  env := envOfC qual scope s.heap.objs.size f cd
  outer := outer
  stack := envOfC qual scope s.heap.objs.size f cd :: outer
  ex := []
  calm := true
  fn := fun _ => true
  pn := []
  xe := fun e s' => wpAny (model P w) (A.deeper (envOfC qual scope s.heap.objs.size f cd)) (leaving (envOfC qual scope s.heap.objs.size f cd) e) (fun _ s'' => CX outer H s E e s'') (fun e' s'' => CX outer H s E e' s'') s'

theorem cell_has {sc : Scope} {n : Nat} {x : Str} (h : sc.names.lookup x = some .cell) : ∃ c, (cellsFrom n sc.names []).lookup x = some c := by
  have q := PySem.W.cellsFrom_some sc.names n [] (.inl h)
  exact Option.isSome_iff_exists.mp q

theorem inv_start {CX : CXT} {P : Program} {w : World} {K : PySem.W.Frag} {mg : Str → Option Value} {base : Heap} {N ps : List Str} {qual : Str} {scope : Scope} {f : Addr} {cd : Value} {A : Around} {outer : List Env} {s s1 : Shared} {H : Hp} {E : XK} {us : List Value} {vs : List V}
    (S : FnScope N ps scope) (hd : A.handled = none) (e0 : Env0 P w K mg base A outer s H) (hl : vs.length = ps.length) (r : Vals vs us)
    (x : InCallC s s.heap.objs.size (bindL (envOfC qual scope s.heap.objs.size f cd).kindOf (ps.zip us) fun _ => none) (cellsFrom (s.heap.objs.size + 1) scope.names []) (bindC (envOfC qual scope s.heap.objs.size f cd).kindOf (ps.zip us) fun _ => none) s1) :
    Inv (cxOf CX P w K mg base N qual scope f cd A outer s H E) [] (start N vs) H s1 := by
  have hpl : ps.length ≤ N.length := by have := congrArg List.length S.pre; rw [List.length_take] at this; omega
  obtain ⟨h1, tk, rfl, hk⟩ := x.done
  have noA : ∀ b : Addr, b ∉ (cxOf CX P w K mg base N qual scope f cd A outer s H E).ex := fun b z => absurd (show b ∈ ([] : List Addr) from z) (by simp)
  refine ⟨⟨e0.mod, S.kind, rfl, rfl, Nat.le_refl _, fun y z c h1 h2 => ?_, fun y hy => ?_, fun y c _ h => ?_, fun _ => hd, Around.frames_deeper e0.frames, .inr ⟨rfl, rfl⟩, fun b z => absurd z (noA b), e0.bs, e0.bsz, fun b _ _ => noA b, fun b z => absurd z (noA b), e0.funs, e0.frf⟩,
    rfl, e0.bare, Un.kept hk, ⟨_, x.toInCall.ns, fun i y v h1 h2 h3 => ?_⟩, fun y c h => ⟨_, x.cell y c h⟩, e0.hok.fresh (Nat.le_refl _), fun y c h => ?_, fun p hp => absurd (show p ∈ ([] : List (Addr × Obj)) from hp) (by simp), e0.hok.kept hk, ?_⟩
  · exact name_of_addr x.apart (PySem.mem_of_lookup h1) (PySem.mem_of_lookup h2)
  · have hy : scope.names.lookup y = some .cell ∨ scope.names.lookup y = some .free := hy
    rcases hy with hy | hy
    · exact cell_has hy
    · exact absurd rfl (S.nofree _ (PySem.mem_of_lookup hy))
  · exact Nat.le_of_lt (x.above y c (PySem.mem_of_lookup h))
  · have hi : i < vs.length := by
      unfold start at h2
      by_cases hi : i < vs.length
      · exact hi
      · rw [List.getElem?_append_right (by simpa using hi)] at h2
        rw [List.getElem?_replicate] at h2
        split at h2 <;> cases h2
    have ha : vs[i]? = some v := by
      unfold start at h2
      rw [List.getElem?_append_left (by simpa using hi), List.getElem?_map] at h2
      cases e : vs[i]? with
      | none => rw [e] at h2; cases h2
      | some a => rw [e] at h2; cases h2; rfl
    obtain ⟨u, hu, rv⟩ := r.get ha
    have hp : ps[i]? = some y := by
      rw [← S.pre, List.getElem?_take_of_lt (by omega)]; exact h1
    have ndP : ps.Nodup := by rw [← S.pre]; exact S.nd.sublist (List.take_sublist _ _)
    refine ⟨u, rv, ?_⟩
    rcases S.par y (List.mem_of_getElem? hp) with k | k
    · exact .inl ⟨k, bindL_get ndP hp hu k⟩
    · obtain ⟨c, e⟩ := cell_has (n := s.heap.objs.size + 1) k
      refine .inr ⟨.inl k, c, e, ?_⟩
      have q := x.cell y c e
      rw [bindC_get ndP hp hu (by show scope.names.lookup y ≠ _; rw [k]; decide)] at q
      exact q
  · exact e0.hok.fresh (Nat.le_of_lt (x.above y c (PySem.mem_of_lookup h)))
  · unfold start
    show _ = N.length
    rw [List.length_append, List.length_map, List.length_replicate]
    omega

/-- THE RULE: a def (or a method) of the text, by its body. The body's reading t is chosen for each entry; it is run at the parameters' values -/
theorem fn_of {CX : CXT} {P : Program} {w : World} {K : PySem.W.Frag} {mg : Str → Option Value} {base : Heap} {k : Nat} {f : Addr} {name qual : Str} {params : Arguments} {body : List Stmt} {scope : Scope} {dV kV doc pm cdv ct oc : Value} {an od : Option Addr}
    {osl : Array (Option Value)} {N ps : List Str} {sp : Sp} (lk : K.lookup f = some ⟨oc, od, .func (PySem.W.fnOf name qual params body scope dV kV doc pm an cdv ct), osl⟩) (hcd : PySem.W.codeIn K cdv qual = true) (S : FnScope N ps scope)
    (len : ∀ vs H Q E, sp vs H Q E → vs.length = ps.length)
    (hbody : ∀ (A : Around) (outer : List Env) (s : Shared) (H : Hp) (vs : List V) (Q : VK) (E : XK), Room k (A.deeper (envOfC qual scope s.heap.objs.size f cdv)) → sp vs H Q E →
      ∃ t, PSs (cxOf CX P w K mg base N qual scope f cdv A outer s H E) body t ∧ t { nx := fun _ H' => Q .non H', rt := Q } (start N vs) H) :
    FnOk P w K mg base CX (k + 1) f (PySem.W.fnOf name qual params body scope dV kV doc pm an cdv ct) ps sp := by
  refine ⟨len, fun A outer s H args us vs Q E hr e0 hb r hsp => ?_⟩
  have hl := len _ _ _ _ hsp
  have KX : K.In s.heap := e0.mod.kin.keeps fun b o e => (e0.bs b o e).1
  have lim : s.heap.NoLimit := e0.mod.nolimit.keeps fun b o e => (e0.bs b o e).1
  have hkind : ∀ y ∈ ps.zip us, scope.names.lookup y.1 = some .local ∨ (scope.names.lookup y.1 = some .cell ∧ ((cellsFrom (s.heap.objs.size + 1) scope.names []).lookup y.1).isSome = true) := fun ⟨n, v⟩ hy => by
    rcases S.par n (List.of_mem_zip hy).1 with q | q
    · exact .inl q
    · exact .inr ⟨q, PySem.W.cellsFrom_some _ _ _ (.inl q)⟩
  refine codeAny_call_function hr.depth (KX _ _ lk) rfl S.co S.gen rfl (PySem.W.codeRec_of KX hcd) (hb _ _ _ _ ?_)
  refine wpAny_newFunctionEnv_cells S.kind hkind fun env he s1 x => ?_
  subst he
  refine ⟨lim.keeps x.toInCall.keep, codeAny_func ?_⟩
  obtain ⟨t, ht, hq⟩ := hbody A outer s H vs Q E (hr.deeper _) hsp
  have I : Inv (cxOf CX P w K mg base N qual scope f cdv A outer s H E) [] (start N vs) H s1 := inv_start S hr.hd e0 hl r x
  refine wpAny_mono (ht [] s1 (start N vs) H _ I hq) (fun fl s' hs => ?_) fun e s' hs => hs
  have fin : ∀ {σ' : St} {H' : Hp} {v : V} {u : Value}, Inv (cxOf CX P w K mg base N qual scope f cdv A outer s H E) [] σ' H' s' → RelV v u → Q v H' → CE outer P w H s Q u s' :=
    fun {σ' H' v u} J rv q => ⟨v, H', J.os, J.bare, J.base, J.hok, rv, q⟩
  cases fl with
  | ret u =>
    obtain ⟨v, σ', H', J, rv, q⟩ := hs
    exact fin J rv q
  | next =>
    obtain ⟨σ', H', J, q⟩ := hs
    exact fin (v := V.non) (u := Value.none) J rfl q
  | brk =>
    obtain ⟨_, _, _, q⟩ := hs
    exact False.elim q
  | cont =>
    obtain ⟨_, _, _, q⟩ := hs
    exact False.elim q
end L2

namespace L2
open PySem PySem.Spec PyProof.Rows
section
variable {X : Cx} {x : Str} {p pos : Pos} {e : Expr} {es : List Expr} {t : TA} {id T : String} {r : List V → Hp → VK → Prop}

def tCB (r : List V → Hp → VK → Prop) (t : TA) : TE := fun σ H Q => t σ H fun vs H1 => r vs H1 Q
/-- f(e, ..), f a built-in function -/
theorem pe_callB (hc : CallR X (.builtin id) r) (hg : Gl X x) (hm : X.mg x = none) (hv : bootBuiltins x = some (.builtin id)) (ha : PA X (e :: es) t) (hn : x ≠ "__name__" := by decide) (hdb : (x == ("__debug__" : Str)) = false := by decide)
    (he : starEach (e :: es) X.env = (false, eval e X.env) :: starEach es X.env := by rfl) (hpl : (backTo pos (starEach es X.env)).any (·.1) = false := by rfl) : PE X (.Call (.Name x p) (e :: es) [] pos) (tCB r t) := by
  intro pins s σ H Q I h
  refine wpAny_Call_Name_kw (ld_blt I hg hm hv ?_ hn hdb)
  exact PyProof.Rows.callWith_builtin1 (thn (ha pos pins s σ H _ I h) fun us s1 ⟨vs, H1, I1, r1, q1⟩ => hc pins s1 σ H1 vs us Q I1 r1 q1) he hpl
/-- T(e, ..), T a built-in type -/
theorem pe_callTy (hc : CallR X (.type T) r) (hg : Gl X x) (hm : X.mg x = none) (hv : bootBuiltins x = some (.type T)) (ha : PA X (e :: es) t) (hn : x ≠ "__name__" := by decide) (hdb : (x == ("__debug__" : Str)) = false := by decide)
    (he : starEach (e :: es) X.env = (false, eval e X.env) :: starEach es X.env := by rfl) (hpl : (backTo pos (starEach es X.env)).any (·.1) = false := by rfl) : PE X (.Call (.Name x p) (e :: es) [] pos) (tCB r t) := by
  intro pins s σ H Q I h
  refine wpAny_Call_Name_kw (ld_blt I hg hm hv ?_ hn hdb)
  exact PyProof.Rows.callWith_type1 (thn (ha pos pins s σ H _ I h) fun us s1 ⟨vs, H1, I1, r1, q1⟩ => hc pins s1 σ H1 vs us Q I1 r1 q1) he hpl
/-- T() -/
theorem pe_callTy0 (hc : CallR X (.type T) r) (hg : Gl X x) (hm : X.mg x = none) (hv : bootBuiltins x = some (.type T)) (hn : x ≠ "__name__" := by decide) (hdb : (x == ("__debug__" : Str)) = false := by decide) :
    PE X (.Call (.Name x p) [] [] pos) (tCB r tNil) := by
  intro pins s σ H Q I h
  refine wpAny_Call_Name_kw (ld_blt I hg hm hv ?_ hn hdb)
  exact PyProof.Rows.callWith_type0 (hc pins s σ H [] [] Q I .nil h)
end
end L2

namespace HT
open PySem PyProof.Rows

/-- t < u of tuples of ints -/
def lexLt : List Int → List Int → Bool
  | [], [] => false
  | [], _ :: _ => true
  | _ :: _, [] => false
  | x :: xs, y :: ys => if x = y then lexLt xs ys else decide (x < y)


section
open PySem.SeqAt
open PySem.AutoSeq1 (wpAny_loadPart')
open PySem.MeetsSeq PySem.MeetsSeq2 PySem.MeetsSeq3

end

section
variable {prog : Program} {w : World} {A : Around} {E : Value → Shared → Prop} {s : Shared}


/-- t + u, t not empty -/
theorem cat_tup {t b : Addr} {vs ws : List Value} {Q : Value → Shared → Prop} (ht : IsTup s.heap t vs.toArray) (hb : IsTup s.heap b ws.toArray) (hv : vs ≠ [])
    (h1 : ws = [] → Q (.ref t) s) (h2 : ws ≠ [] → Q (.ref s.heap.objs.size) { s with heap := s.heap.push { cls := .type "tuple", data := .seq (vs ++ ws).toArray } })
    (hsz : vs.length + ws.length ≤ sizeLine) : wpAny (model prog w) A (binaryOp .Add (.ref t) (.ref b)) Q E s := by
  obtain ⟨⟨cls, dd, data, sl⟩, ho, hc, n, hd⟩ := id ht
  obtain ⟨⟨cls2, dd2, data2, sl2⟩, ho2, hc2, n2, hd2⟩ := id hb
  simp only at hc hd hc2 hd2
  subst hc hd hc2 hd2
  have e : vs.toArray ++ ws.toArray = (vs ++ ws).toArray := by simp
  by_cases hw : ws = []
  · exact concat_meets ⟨_, ho, rfl⟩ ⟨_, ho2, rfl⟩ noFill_tuple_add seq_tuple_add PySem.F.slot_tuple_add PySem.F.entry_tuple_add (PySem.F.args_tuple_add_2 _ _)
      (tuple_addW1 t b vs.toArray ws.toArray n n2 dd dd2 sl sl2 (by simpa using hv) (by simp [hw])) ⟨ho, ho2, h1 hw⟩
  · refine concat_meets ⟨_, ho, rfl⟩ ⟨_, ho2, rfl⟩ noFill_tuple_add seq_tuple_add PySem.F.slot_tuple_add PySem.F.entry_tuple_add (PySem.F.args_tuple_add_2 _ _)
      (tuple_addW2 t b vs.toArray ws.toArray n n2 dd dd2 sl sl2 (by simpa using hv) (by simpa using hw) (by rw [List.size_toArray, List.size_toArray]; exact hsz)) ⟨ho, ho2, ?_⟩
    rw [e]
    exact h2 hw

/-! ### t[a:b], not the whole -/
/-- a slice's bound as a place among n (d where it is left out) -/
def sIx (n d : Nat) : Option Int → Nat
  | none => d
  | some v => if v < 0 then (v + (n : Int)).toNat else min v.toNat n
theorem sIx_none (n d : Nat) : sIx n d none = d := rfl
theorem sIx_nat (n d k : Nat) : sIx n d (some (k : Int)) = min k n := by
  show (if (k : Int) < 0 then ((k : Int) + (n : Int)).toNat else min (k : Int).toNat n) = min k n
  rw [if_neg (by omega), Int.toNat_natCast]
theorem sIx_le (n d : Nat) (hd : d ≤ n) (o : Option Int) : sIx n d o ≤ n := by
  cases o with
  | none => exact hd
  | some v =>
    show (if v < 0 then (v + (n : Int)).toNat else min v.toNat n) ≤ n
    by_cases hv : v < 0
    · rw [if_pos hv]; omega
    · rw [if_neg hv]; exact Nat.min_le_right _ _
theorem clip_eq (v : Int) (n d : Nat) : (if v < 0 then max (v + (n : Int)) 0 else min v (n : Int)) = ((sIx n d (some v) : Nat) : Int) := by
  show (if v < 0 then max (v + (n : Int)) 0 else min v (n : Int)) = (((if v < 0 then (v + (n : Int)).toNat else min v.toNat n) : Nat) : Int)
  by_cases hv : v < 0
  · simp only [if_pos hv]; omega
  · simp only [if_neg hv]; omega
theorem adjust_gen (lo hi : Option Int) (n : Nat) : Builtin.Slice.sliceAdjust lo hi 1 (n : Int) = (((sIx n 0 lo : Nat) : Int), ((sIx n n hi : Nat) : Int)) := by
  have h1 : ¬ ((1 : Int) < 0) := by omega
  unfold Builtin.Slice.sliceAdjust
  simp only [h1, if_false]
  refine Prod.ext ?_ ?_
  · cases lo with
    | none => rfl
    | some v => exact clip_eq v n 0
  · cases hi with
    | none => rfl
    | some v => exact clip_eq v n n
theorem places_gen (i j : Nat) : Builtin.Slice.slicePlaces (i : Int) (j : Int) 1 = j - i := by
  unfold Builtin.Slice.slicePlaces
  have h1 : (1 : Int) > 0 := by omega
  simp only [h1, if_true, Int.ediv_one]
  split <;> omega
theorem slicePart_ {v : Value} {o : Option Int} {Q : Option Int → Shared → Prop} (p : IsPart v o) (h : Q o s) : wpAny (model prog w) A (Builtin.Slice.slicePartIndex v) Q E s := by
  cases p with
  | none => exact slicePart_none h
  | int i t => exact slicePart_int h
theorem sliceApplied_gen {sl : Addr} {vl vu : Value} {lo hi : Option Int} {n : Nat} {Q : Int × Int × Nat → Shared → Prop} (hs : s.heap.IsSliceOf sl vl vu .none) (pl : IsPart vl lo) (pu : IsPart vu hi)
    (h : Q (((sIx n 0 lo : Nat) : Int), 1, sIx n n hi - sIx n 0 lo) s) : wpAny (model prog w) A (Builtin.Slice.sliceApplied (.ref sl) (pure (n : Int))) Q E s := by
  obtain ⟨os, hos, hcs, hds⟩ := id hs
  unfold Builtin.Slice.sliceApplied Builtin.Slice.sliceFields
  refine wpAny_bind (wpAny_bind (wpAny_field hos hds (x := vl) rfl (wpAny_bind (wpAny_field hos hds (x := vu) rfl (wpAny_bind (wpAny_field hos hds (x := .none) rfl (wpAny_pure ?_)))))))
  refine wpAny_bind (slicePart_none ?_)
  show wpAny _ _ (if ((1 : Int) == 0) = true then _ else _) _ _ s
  rw [if_neg (by decide)]
  refine wpAny_bind (slicePart_ pl (wpAny_bind (slicePart_ pu (wpAny_bind (wpAny_pure ?_)))))
  show wpAny _ _ (match Builtin.Slice.sliceAdjust lo hi 1 (n : Int) with | (lo, hi) => pure (lo, (1 : Int), Builtin.Slice.slicePlaces lo hi 1)) _ _ s
  rw [adjust_gen lo hi n]
  show wpAny _ _ (pure (((sIx n 0 lo : Nat) : Int), (1 : Int), Builtin.Slice.slicePlaces ((sIx n 0 lo : Nat) : Int) ((sIx n n hi : Nat) : Int) 1)) _ _ s
  rw [places_gen]
  exact wpAny_pure h
theorem pick_gen (xs : Array Value) (i k : Nat) : ((List.range k).filterMap fun (m : Nat) => xs[((i : Int) + (m : Int) * 1).toNat]?).toArray = ((xs.toList.drop i).take k).toArray := by
  have e : (fun (m : Nat) => xs[((i : Int) + (m : Int) * 1).toNat]?) = fun m => xs[i + m]? := by
    funext m
    have : ((i : Int) + (m : Int) * 1).toNat = i + m := by omega
    rw [this]
  rw [e]
  have := pick_run xs i k
  rw [List.filterMap_map] at this
  have e2 : ((fun x => xs[x]?) ∘ fun x => i + x) = fun m => xs[i + m]? := rfl
  rw [e2] at this
  rw [this]

theorem getItem_tuple_cut {t sl : Addr} {items : Array Value} {vl vu : Value} {lo hi : Option Int} {Q : Value → Shared → Prop} (ht : IsTup s.heap t items) (hs : s.heap.IsSliceOf sl vl vu .none) (pl : IsPart vl lo) (pu : IsPart vu hi)
    (hw : ¬ (sIx items.size 0 lo = 0 ∧ sIx items.size items.size hi = items.size))
    (h : Q (.ref s.heap.objs.size) { s with heap := s.heap.push { cls := .type "tuple", data := .seq ((items.toList.drop (sIx items.size 0 lo)).take (sIx items.size items.size hi - sIx items.size 0 lo)).toArray } })
    (hsz : items.size ≤ sizeLine) : wpAny (model prog w) A (getItem (.ref t) (.ref sl)) Q E s := by
  have htake : sizeOk (.seq ((items.toList.drop (sIx items.size 0 lo)).take (sIx items.size items.size hi - sIx items.size 0 lo)).toArray) := by
    show ((items.toList.drop (sIx items.size 0 lo)).take (sIx items.size items.size hi - sIx items.size 0 lo)).toArray.size ≤ sizeLine
    rw [List.size_toArray, List.length_take, List.length_drop, Array.length_toList]
    omega
  have hj : sIx items.size items.size hi ≤ items.size := sIx_le _ _ (Nat.le_refl _) hi
  obtain ⟨os, hos, hcs, hds⟩ := id hs
  have hTs : s.TypeIs (.ref sl) "slice" := ⟨os, hos, hcs⟩
  unfold getItem
  try with_reducible refine wpAny_holding ?_
  first | refine wpAny_bind (wpAny_pure ?_) | skip
  refine wpAny_bind (wpAny_sequenceKey ht.typeIs (by decide) ?_)
  refine wpAny_bind (wpAny_callSpecial?_slot (name := Str.ofString "__getitem__") ht.typeIs PyProof.Rows.slot_tuple_getitem
    (wpAny_call_entry PyProof.Rows.slot_tuple_getitem ht.typeIs entry_tuple_getitem ?_ (args_tuple_getitem _ _)))
  show wpAny _ _ (Builtin.Tuple.tupleItemsOf (.ref t) >>= _) _ _ s
  refine wpAny_bind (tupleItemsOf_ ht ?_)
  refine wpAny_bind (wpAny_typeOf hTs ?_)
  rw [if_pos (by decide)]
  refine wpAny_bind (sliceApplied_gen hs pl pu ?_)
  have hno : ¬ ((((sIx items.size 0 lo : Nat) : Int) == 0 && (1 : Int) == 1 && (sIx items.size items.size hi - sIx items.size 0 lo) == items.size) = true) := by
    intro q
    rw [Bool.and_eq_true, Bool.and_eq_true] at q
    have q1 : ((sIx items.size 0 lo : Nat) : Int) = 0 := eq_of_beq q.1.1
    have q2 : sIx items.size items.size hi - sIx items.size 0 lo = items.size := eq_of_beq q.2
    exact hw ⟨by omega, by omega⟩
  show wpAny _ _ (if (((sIx items.size 0 lo : Nat) : Int) == 0 && (1 : Int) == 1 && (sIx items.size items.size hi - sIx items.size 0 lo) == items.size) = true then _ else _) _ _ s
  rw [if_neg hno, pick_gen]
  first
    | exact wpAny_bind (m := Builtin.Tuple.tupleExact _) (wpAny_newObj_type (wpAny_pure ⟨_, rfl, wpAny_pure h⟩) htake)
    | exact wpAny_bind (m := Builtin.Tuple.tupleExact _) (wpAny_newObj_type (wpAny_bind (wpAny_pure (wpAny_pure ⟨_, rfl, wpAny_pure h⟩))) htake)
    | exact wpAny_bind (wpAny_bind (m := Builtin.Tuple.tupleExact _) (wpAny_newObj_type (wpAny_pure (wpAny_pure ⟨_, rfl, wpAny_pure h⟩)) htake))
    | exact wpAny_bind (wpAny_bind (m := Builtin.Tuple.tupleExact _) (wpAny_newObj_type (wpAny_pure ⟨_, rfl, wpAny_pure h⟩) htake))
end
end HT

namespace L2
open PySem PySem.Spec PyProof.Rows

/-! ### the parts of a slice -/
abbrev TO := St → Hp → (Option Int → Hp → Prop) → Prop
/-- a slice's part (left out, or an int) -/
def PO (X : Cx) (e : Option Expr) (t : TO) : Prop :=
  ∀ (pins : List (Addr × Obj)) (s : Shared) (σ : St) (H : Hp) (Q : Option Int → Hp → Prop), Inv X pins σ H s → t σ H Q →
    wpAny (model X.prog X.w) X.A (evalPart e X.env) (fun u s' => ∃ o H', Inv X pins σ H' s' ∧ IsPart u o ∧ Q o H') X.xe s
def tNoPart : TO := fun _ H Q => Q none H
def tPart (t : TE) : TO := fun σ H Q => t σ H fun x H1 => ∃ i, x = .int i ∧ Q (some i) H1


section
variable {X : Cx} {e : Expr} {te : TE} {lo hi : Option Expr} {tl th : TO} {pos p2 : Pos}

theorem po_none : PO X none tNoPart := by
  intro pins s σ H Q I h
  rw [evalPart_none]
  exact wpAny_pure ⟨none, H, I, .none, h⟩
theorem po_some (h : PE X e te) : PO X (some e) (tPart te) := by
  intro pins s σ H Q I hw
  rw [evalPart_some]
  refine thn (h pins s σ H _ I hw) fun u s1 ⟨x, H1, I1, r1, q1⟩ => ?_
  obtain ⟨i, rfl, q⟩ := q1
  obtain ⟨t, rfl⟩ := r1
  exact ⟨some i, H1, I1, .int i t, q⟩

/-- what a slice of a value is, by values: the slice object stands at sl -/
def SlR (X : Cx) (r : V → Option Int → Option Int → Hp → VK → Prop) : Prop :=
  ∀ (pins : List (Addr × Obj)) (s : Shared) (σ : St) (H : Hp) (x : V) (v vl vu : Value) (lo hi : Option Int) (sl : Addr) (Q : VK), Inv X pins σ H s → RelV x v → s.heap.IsSliceOf sl vl vu .none → IsPart vl lo → IsPart vu hi → r x lo hi H Q →
    ∃ T id, typeLookup (.type T) "__getitem__" = pure (some (.builtin id)) ∧ s.TypeIs v T ∧ wpAny (model X.prog X.w) X.A (getItem v (.ref sl)) (EP X pins σ Q) X.xe s
def tSl (r : V → Option Int → Option Int → Hp → VK → Prop) (te : TE) (tl th : TO) : TE := fun σ H Q => te σ H fun x H1 => tl σ H1 fun l H2 => th σ H2 fun u H3 => r x l u H3 Q
/-- a[lo:hi], any a -/
theorem pe_slice {r : V → Option Int → Option Int → Hp → VK → Prop} (hr : SlR X r) (he : PE X e te) (hl : PO X lo tl) (hu : PO X hi th) : PE X (.Subscript e (.Slice lo hi none p2) pos) (tSl r te tl th) := by
  intro pins s σ H Q I h
  refine Subscript_ (thn (he pins s σ H _ I h) fun v s1 ⟨x, H1, I1, r1, q1⟩ => ?_)
  refine wpAny_Slice (thn (hl pins s1 σ H1 _ I1 q1) fun vl s2 ⟨l, H2, I2, pl, q2⟩ => thn (hu pins s2 σ H2 _ I2 q2) fun vu s3 ⟨u, H3, I3, pu, q3⟩ => ?_)
  rw [evalPart_none]
  refine wpAny_pure ?_
  have I4 : Inv X pins σ H3 { s3 with heap := s3.heap.push { cls := .type "slice", data := .fields #[vl, vu, .none] } } := I3.kept (t' := s3.toks) fun b ob q => Heap.get?_push_of_some _ q
  obtain ⟨T, id, hT, ht, hg⟩ := hr pins { s3 with heap := s3.heap.push { cls := .type "slice", data := .fields #[vl, vu, .none] } } σ H3 x v vl vu l u s3.heap.objs.size Q I4 r1 (Heap.IsSliceOf.new ..) pl pu q3
  show wpAny (model X.prog X.w) X.A (subscriptTail e (.Slice lo hi none p2) v (.ref s3.heap.objs.size)) (EP X pins σ Q) X.xe { s3 with heap := s3.heap.push { cls := .type "slice", data := .fields #[vl, vu, .none] } }
  exact tail_any (ops := [.ref s3.heap.objs.size, v]) ht hT hg (by with_unfolding_all rfl)

/-- the items of xs[lo:hi] -/
def cutV (xs : List V) (lo hi : Option Int) : List V := (xs.drop (HT.sIx xs.length 0 lo)).take (HT.sIx xs.length xs.length hi - HT.sIx xs.length 0 lo)
theorem cutV_length (xs : List V) (lo hi : Option Int) : (cutV xs lo hi).length ≤ xs.length := by
  unfold cutV
  rw [List.length_take, List.length_drop]
  omega
/-- t[lo:hi], not the whole of it (the whole would be t itself) -/
def rSlT (K : PySem.W.Frag) : V → Option Int → Option Int → Hp → VK → Prop := fun x lo hi H Q => ∃ a xs, x = .ref a ∧ SqT K H a xs ∧
  ¬ (HT.sIx xs.length 0 lo = 0 ∧ HT.sIx xs.length xs.length hi = xs.length) ∧ ∀ p, H p = none → Q (.ref p) (upd H p (.tup (cutV xs lo hi)))
theorem sl_tup : SlR X (rSlT X.K) := by
  intro pins s σ H x v vl vu lo hi sl Q I rx hs pl pu h
  obtain ⟨a, xs, rfl, hx, hw, q⟩ := h
  cases rx
  obtain ⟨its, r, ht, hz⟩ := I.tuple hx
  have hlen : its.toArray.size = xs.length := by rw [List.size_toArray]; exact r.length.symm
  refine ⟨"tuple", _, PyProof.Rows.slot_tuple_getitem.lookup, ht.typeIs, ?_⟩
  refine HT.getItem_tuple_cut ht hs pl pu (by rw [hlen]; exact hw) ?_ (by rw [hlen]; exact hz)
  rw [hlen]
  refine ⟨.ref s.heap.objs.size, _, I.laid (t' := s.toks) (o := .tup (cutV xs lo hi)) (fun b ob q => Heap.get?_push_of_some _ q) (Nat.le_refl _) ?_, rfl, q _ (I.hok.fresh (Nat.le_refl _))⟩
  exact ⟨Nat.le_trans (cutV_length xs lo hi) hz, _, (r.drop (HT.sIx xs.length 0 lo)).take (HT.sIx xs.length xs.length hi - HT.sIx xs.length 0 lo), IsTup.new _ _⟩

/-! ### t < u, t + u -/
def rLtT (K : PySem.W.Frag) : R2 := fun x y H Q => ∃ a b ns ms, x = .ref a ∧ y = .ref b ∧ SqT K H a (ns.map V.int) ∧ SqT K H b (ms.map V.int) ∧ Q (.bl (HT.lexLt ns ms)) H
/-- t + u, t not empty: u empty gives t itself -/
def rCatT (K : PySem.W.Frag) : R2 := fun x y H Q => ∃ a b xs ys, x = .ref a ∧ y = .ref b ∧ SqT K H a xs ∧ SqT K H b ys ∧ xs ≠ [] ∧ xs.length + ys.length ≤ sizeLine ∧
  (ys = [] → Q (.ref a) H) ∧ (ys ≠ [] → ∀ p, H p = none → Q (.ref p) (upd H p (.tup (xs ++ ys))))
theorem Vals.nil_iff {xs : List V} {us : List Value} (r : Vals xs us) : us = [] ↔ xs = [] := by
  cases r with
  | nil => simp
  | cons _ _ => simp
theorem op_catT : OpR X (binaryOp .Add) (rCatT X.K) := by
  intro pins s σ H x y v u Q I rx ry h
  obtain ⟨a, b, xs, ys, rfl, rfl, ha, hb, hx, hz, q1, q2⟩ := h
  cases rx
  cases ry
  obtain ⟨its, r1, p1, _⟩ := I.tuple ha
  obtain ⟨its2, r2, p2, _⟩ := I.tuple hb
  refine HT.cat_tup p1 p2 (fun z => hx (r1.nil_iff.mp z)) (fun z => ⟨.ref a, H, I, rfl, q1 (r2.nil_iff.mp z)⟩) (fun z => ?_) (by rw [← r1.length, ← r2.length]; exact hz)
  refine ⟨.ref s.heap.objs.size, _, I.laid (t' := s.toks) (o := .tup (xs ++ ys)) (fun b ob q => Heap.get?_push_of_some _ q) (Nat.le_refl _) ?_, rfl, q2 (fun w => z (r2.nil_iff.mpr w)) _ (I.hok.fresh (Nat.le_refl _))⟩
  exact ⟨by rw [List.length_append]; exact hz, _, r1.append r2, IsTup.new _ _⟩
/-- tuple(t) -/
theorem call_tupleT : CallR X (.type "tuple") (fun xs H Q => ∃ a ys, xs = [.ref a] ∧ SqT X.K H a ys ∧ Q (.ref a) H) := by
  intro pins s σ H xs us Q I r h
  obtain ⟨a, ys, rfl, ha, q⟩ := h
  obtain ⟨u, rfl, ru⟩ := vals1 r
  cases ru
  obtain ⟨its, _, p1, _⟩ := I.tuple ha
  exact call_tuple_same (items := its.toArray) p1 ⟨.ref a, H, I, rfl, q⟩
end
end L2

namespace L2
open PySem PySem.Spec PyProof.Rows

/-! ### places -/
/-- the place that an index of any sign means -/
def ixN (n : Nat) (i : Int) : Option Nat := if 0 ≤ i then (if i < n then some i.toNat else none) else if -(n : Int) ≤ i then some (i + n).toNat else none
def atI {α : Type} (xs : List α) (i : Int) : Option α := (ixN xs.length i).bind fun j => xs[j]?
theorem ixN_seq {n : Nat} {i : Int} {j : Nat} (h : ixN n i = some j) : seqIndex? i n = some j ∧ j < n ∧ -(n : Int) ≤ i ∧ i < n := by
  unfold ixN at h
  by_cases h0 : 0 ≤ i
  · rw [if_pos h0] at h
    by_cases h1 : i < n
    · rw [if_pos h1] at h
      have e : i.toNat = j := Option.some.inj h
      exact ⟨by rw [seqIndex_of h0 h1, e], by omega, by omega, h1⟩
    · rw [if_neg h1] at h; cases h
  · rw [if_neg h0] at h
    by_cases h1 : -(n : Int) ≤ i
    · rw [if_pos h1] at h
      have e : (i + n).toNat = j := Option.some.inj h
      exact ⟨by rw [seqIndex_neg (by omega) h1, e], by omega, h1, by omega⟩
    · rw [if_neg h1] at h; cases h
theorem atI_get {α : Type} {xs : List α} {i : Int} {v : α} (h : atI xs i = some v) : ∃ j, seqIndex? i xs.length = some j ∧ xs[j]? = some v ∧ j < xs.length ∧ -(xs.length : Int) ≤ i ∧ i < xs.length := by
  unfold atI at h
  cases e : ixN xs.length i with
  | none => rw [e] at h; cases h
  | some j =>
    rw [e] at h
    obtain ⟨h1, h2, h3, h4⟩ := ixN_seq e
    exact ⟨j, h1, h, h2, h3, h4⟩
theorem atI_nat {α : Type} {xs : List α} {j : Nat} {v : α} (h : xs[j]? = some v) : atI xs (j : Int) = some v := by
  have hj : j < xs.length := (List.getElem?_eq_some_iff.mp h).1
  have e : ixN xs.length (j : Int) = some j := by
    unfold ixN
    rw [if_pos (by omega), if_pos (by omega)]; simp
  unfold atI; rw [e]; exact h
theorem atI_last {α : Type} (xs : List α) (v : α) : atI (xs ++ [v]) (-1) = some v := by
  have hl : (xs ++ [v]).length = xs.length + 1 := by simp
  have e : ixN (xs ++ [v]).length (-1) = some xs.length := by
    unfold ixN
    rw [hl, if_neg (by decide), if_pos (by omega)]
    congr 1
    omega
  unfold atI
  rw [e]
  show (xs ++ [v])[xs.length]? = some v
  simp

/-! ### what may be subscripted -/
/-- what stands as an index of a plain subscript -/
def PlainIx (b : Expr) : Prop := ∀ o i, subscripted b false o i = operate [o, i] (getItem o i)
/-- a subscript by values -/
def IxR (X : Cx) (r : R2) : Prop :=
  ∀ (value slice : Expr) (pins : List (Addr × Obj)) (s : Shared) (σ : St) (H : Hp) (x y : V) (v u : Value) (Q : VK), Inv X pins σ H s → RelV x v → RelV y u → r x y H Q →
    subscripted slice false v u = operate [v, u] (getItem v u) → wpAny (model X.prog X.w) X.A (subscriptTail value slice v u) (EP X pins σ Q) X.xe s
/-- a call of a builtin's method by values: the receiver, the arguments -/
def MtR (X : Cx) (id : String) (r : V → List V → Hp → VK → Prop) : Prop :=
  ∀ (pins : List (Addr × Obj)) (s : Shared) (σ : St) (H : Hp) (x : V) (xs : List V) (v : Value) (us : List Value) (Q : VK), Inv X pins σ H s → RelV x v → Vals xs us → r x xs H Q →
    wpAny (model X.prog X.w) X.A (call (.builtin id) (v :: us)) (EP X pins σ Q) X.xe s
section
variable {X : Cx} {a b : Expr} {ta tb : TE} {pos : Pos}
/-- a[b] -/
theorem pe_ix {r : R2} (hr : IxR X r) (ha : PE X a ta) (hb : PE X b tb) (hs : PlainIx b) : PE X (.Subscript a b pos) (tOp r ta tb) := by
  intro pins s σ H Q I h
  exact Subscript_ (binT ha hb I h fun v u s2 x y H2 I2 rx ry q => hr a b pins s2 σ H2 x y v u Q I2 rx ry q (hs _ _))

def rIxL (K : PySem.W.Frag) : R2 := fun x y H Q => ∃ p xs i v, x = .ref p ∧ y = .int i ∧ SqL K H p xs ∧ atI xs i = some v ∧ Q v H
def rIxT (K : PySem.W.Frag) : R2 := fun x y H Q => ∃ p xs i v, x = .ref p ∧ y = .int i ∧ SqT K H p xs ∧ atI xs i = some v ∧ Q v H
def rIxS : R2 := fun x y H Q => ∃ z i c, x = .str z ∧ y = .int i ∧ z.length ≤ sizeLine ∧ atI z.cps.toList i = some c ∧ Q (.str ⟨#[c]⟩) H
theorem ix_list : IxR X (rIxL X.K) := by
  intro value slice pins s σ H x y v u Q I rx ry h hs
  obtain ⟨p, xs, i, z, rfl, rfl, hq, he, q⟩ := h
  cases rx
  obtain ⟨t, rfl⟩ := ry
  obtain ⟨its, r, pl, hz⟩ := I.list hq
  obtain ⟨j, h1, h2, h3, h4, h5⟩ := atI_get he
  obtain ⟨w, ew, rw'⟩ := r.get h2
  have hl := r.length
  have hn := line63
  have fin : EP X pins σ Q w s := ⟨z, H, I, rw', q⟩
  by_cases h0 : 0 ≤ i
  · have hj : i.toNat = j := by
      rw [seqIndex_of h0 h5] at h1
      exact Option.some.inj h1
    exact item_listR pl.isList h0 (by omega) (by rw [hj]; simpa using ew) fin hs
  · have hj : (i + (its.toArray.size : Int)).toNat = j := by
      rw [seqIndex_neg (by omega) h4] at h1
      rw [List.size_toArray, ← hl]
      exact Option.some.inj h1
    exact subscriptTail_builtinR (x := w) pl.isList.typeIs slot_list_getitem.lookup
      (wpAny_getItem_list_neg (Q := fun r s' => r = w ∧ EP X pins σ Q r s') pl.isList (by omega) (by rw [List.size_toArray] <;> omega) (by omega) (by rw [hj]; simpa using ew) ⟨rfl, fin⟩) hs
/-- list, tuple or str -/
def rIx (K : PySem.W.Frag) : R2 := fun x y H Q => rIxL K x y H Q ∨ rIxT K x y H Q ∨ rIxS x y H Q

/-! ### xs[i] = v, any sign -/
/-- the list's object behind a store -/
theorem mapSeq_set (its : List Value) (n j : Nat) (u : Value) : Obj.mapSeq (·.setIfInBounds j u) { cls := .type "list", data := .seq its.toArray n } = { cls := .type "list", data := .seq (its.set j u).toArray n } := by
  simp [Obj.mapSeq]
/-- the list at p is written by an update of its object -/
theorem Inv.lstUpd {pins : List (Addr × Obj)} {σ : St} {H : Hp} {s : Shared} {p : Addr} {xs ys : List V} {its its' : List Value} {n n' : Nat} {f : Obj → Obj} (I : Inv X pins σ H s) (h : H p = some (.lst xs))
    (ho : s.heap.get? p = some { cls := .type "list", data := .seq its.toArray n }) (hf : f { cls := .type "list", data := .seq its.toArray n } = { cls := .type "list", data := .seq its'.toArray n' }) (r : Vals ys its') (hz : ys.length ≤ sizeLine) (t : Nat) :
    Inv X pins σ (upd H p (.lst ys)) { s with heap := s.heap.update p f, toks := t } := by
  have e : (s.heap.update p f).get? p = some { cls := .type "list", data := .seq its'.toArray n' } := by
    rw [Heap.get?_update_self f ho (by rw [hf] <;> rfl), hf]
  refine I.write (x := p) (e := p) (by rw [h]; trivial) (.inl rfl) (fun b u hb q => (Heap.get?_update_other _ _ (Ne.symm hb)).trans q) ⟨_, e⟩ ?_
  exact ⟨hz, its', n', r, e⟩
def rSetL : V → V → V → Hp → (Hp → Prop) → Prop := fun o i v H Q => ∃ p xs k j, o = .ref p ∧ i = .int k ∧ H p = some (.lst xs) ∧ ixN xs.length k = some j ∧ Q (upd H p (.lst (xs.set j v)))

/-! ### slices -/
theorem slice_bounds (lo hi : Option Int) (n : Nat) : (sliceBounds lo hi none n).1 = ((HT.sIx n 0 lo : Nat) : Int) ∧ (sliceBounds lo hi none n).2.1 = ((HT.sIx n n hi : Nat) : Int) ∧ (sliceBounds lo hi none n).2.2 = 1 := by
  refine ⟨?_, ?_, rfl⟩
  · cases lo with
    | none => simp [sliceBounds, HT.sIx]
    | some i =>
      simp only [sliceBounds, HT.sIx, Option.getD_none, show (1 : Int) > 0 by decide, if_true]
      by_cases h : i < 0
      · simp only [h, if_true] <;> omega
      · simp only [h, if_false] <;> omega
  · cases hi with
    | none => simp [sliceBounds, HT.sIx]
    | some i =>
      simp only [sliceBounds, HT.sIx, Option.getD_none, show (1 : Int) > 0 by decide, if_true]
      by_cases h : i < 0
      · simp only [h, if_true] <;> omega
      · simp only [h, if_false] <;> omega
theorem slicePick_cut (its : List Value) (lo hi : Option Int) : slicePick its.toArray lo hi none = ((its.drop (HT.sIx its.length 0 lo)).take (HT.sIx its.length its.length hi - HT.sIx its.length 0 lo)).toArray := by
  obtain ⟨h1, h2, h3⟩ := slice_bounds lo hi its.toArray.size
  unfold slicePick
  rw [h1, h2, h3]
  simp only [sliceRange_one, pick_run, List.size_toArray] <;> rfl
/-- xs[lo:hi] of a list: a new list -/
def rSlL (K : PySem.W.Frag) : V → Option Int → Option Int → Hp → VK → Prop := fun x lo hi H Q => ∃ a xs, x = .ref a ∧ SqL K H a xs ∧ ∀ p, H p = none → Q (.ref p) (upd H p (.lst (cutV xs lo hi)))
theorem sl_list : SlR X (rSlL X.K) := by
  intro pins s σ H x v vl vu lo hi sl Q I rx hs pl pu h
  obtain ⟨a, xs, rfl, hx, q⟩ := h
  cases rx
  obtain ⟨its, r, ht, hz⟩ := I.list hx
  have hlen := r.length
  refine ⟨"list", _, slot_list_getitem.lookup, ht.isList.typeIs, ?_⟩
  refine wpAny_getItem_list_slice ht.isList hs pl pu .none (by simp) ?_ (by rw [List.size_toArray] <;> omega)
  rw [slicePick_cut, ← hlen]
  refine ⟨.ref s.heap.objs.size, _, I.laid (t' := s.toks) (o := .lst (cutV xs lo hi)) (fun b ob q => Heap.get?_push_of_some _ q) (Nat.le_refl _) ?_, rfl, q _ (I.hok.fresh (Nat.le_refl _))⟩
  exact ⟨Nat.le_trans (cutV_length xs lo hi) hz, _, 0, (r.drop (HT.sIx xs.length 0 lo)).take (HT.sIx xs.length xs.length hi - HT.sIx xs.length 0 lo), Heap.get?_push_size _ rfl⟩

/-! ### in, not in: flat items -/
def flatV : V → Bool
  | .non => true
  | .bl _ => true
  | .int _ => true
  | .str _ => true
  | _ => false
/-- == of flat values -/
def eqV : V → V → Bool
  | .non, .non => true
  | .bl a, .bl b => a == b
  | .bl a, .int b => (if a then 1 else 0) == b
  | .int a, .bl b => a == (if b then 1 else 0)
  | .int a, .int b => a == b
  | .str a, .str b => a == b
  | _, _ => false
/-- the items' answers, read off the values (a value's own answer does not lean on its token) -/
def eqU (x : V) (u : Value) : Bool := match u with
  | .none => eqV .non x
  | .bool b => eqV (.bl b) x
  | .int i _ => eqV (.int i) x
  | .str z _ => eqV (.str z) x
  | _ => false
def inV (x : V) (xs : List V) : Bool := xs.any fun y => eqV y x
/-- x in a list or tuple of flat items -/
def rIn (K : PySem.W.Frag) (neg : Bool) : R2 := fun x y H Q => ∃ p xs, y = .ref p ∧ (SqL K H p xs ∨ SqT K H p xs) ∧ flatV x = true ∧ xs.all flatV = true ∧ Q (.bl (if neg then !inV x xs else inV x xs)) H

/-! ### len, list(x), tuple(x) of any list or tuple that is read -/
theorem call_len_seq : CallR X (.builtin "len") (fun xs H Q => ∃ p ys, xs = [.ref p] ∧ (SqL X.K H p ys ∨ SqT X.K H p ys) ∧ Q (.int ys.length) H) := by
  intro pins s σ H xs us Q I r h
  obtain ⟨p, ys, rfl, hq, q⟩ := h
  obtain ⟨u, rfl, rx⟩ := vals1 r
  cases rx
  have hn := line63
  rcases hq with hq | hq
  · obtain ⟨its, r', pl, hz⟩ := I.list hq
    have hlen := r'.length
    exact Calls.call_len_list pl.isList (by simp only [List.size_toArray] <;> omega) ⟨.int ys.length, H, I.tok _, ⟨s.toks + 1, by rw [List.size_toArray, hlen]⟩, q⟩
  · obtain ⟨its, r', pl, hz⟩ := I.tuple hq
    have hlen := r'.length
    exact len_tuple pl (by simp only [List.size_toArray] <;> omega) ⟨.int ys.length, H, I.tok _, ⟨s.toks + 1, by rw [List.size_toArray, hlen]⟩, q⟩
theorem call_len_str : CallR X (.builtin "len") (fun xs H Q => ∃ z, xs = [.str z] ∧ z.length ≤ sizeLine ∧ Q (.int z.length) H) := by
  intro pins s σ H xs us Q I r h
  obtain ⟨z, rfl, hz, q⟩ := h
  obtain ⟨u, rfl, t, rfl⟩ := vals1 r
  have hn := line63
  exact len_str (by omega) ⟨.int z.length, H, I.tok _, ⟨_, rfl⟩, q⟩
theorem call_tuple_of : CallR X (.type "tuple") (fun xs H Q => ∃ p ys, xs = [.ref p] ∧ ((SqL X.K H p ys ∧ ∀ l, H l = none → Q (.ref l) (upd H l (.tup ys))) ∨ (SqT X.K H p ys ∧ Q (.ref p) H))) := by
  intro pins s σ H xs us Q I r h
  obtain ⟨p, ys, rfl, h⟩ := h
  obtain ⟨u, rfl, rx⟩ := vals1 r
  cases rx
  rcases h with ⟨hq, q⟩ | ⟨hq, q⟩
  · obtain ⟨its, r', pl, hz⟩ := I.list hq
    have hlen := r'.length
    refine call_tuple_list pl.isList (fun h' kp => ?_) (by simp only [List.size_toArray] <;> omega)
    have I1 : Inv X pins σ H { s with heap := h' } := I.kept (t' := s.toks) kp
    have I2 : Inv X pins σ (upd H h'.objs.size (.tup ys)) { s with heap := h'.push { cls := .type "tuple", data := .seq its.toArray } } :=
      I1.laid (t' := s.toks) (fun b o e => Heap.get?_push_of_some _ e) (Nat.le_refl _) (show ObjOk X.prog X.w _ _ _ (.tup ys) from ⟨hz, its, r', IsTup.new _ _⟩)
    exact ⟨.ref h'.objs.size, _, I2, rfl, q _ (I1.hok.fresh (Nat.le_refl _))⟩
  · obtain ⟨its, r', pl, hz⟩ := I.tuple hq
    exact call_tuple_same pl ⟨.ref p, H, I, rfl, q⟩

/-! ### the call of a builtin's method: o.m(..) -/
/-- the value is of that builtin type -/
def tyV (K : PySem.W.Frag) (T : String) (x : V) (H : Hp) : Prop := match x with
  | .str _ => T = "str"
  | .int _ => T = "int"
  | .ref p => (T = "list" ∧ ∃ xs, SqL K H p xs) ∨ (T = "tuple" ∧ ∃ o, K.lookup p = some o ∧ o.cls = .type "tuple" ∧ o.dict = none) ∨
      (T = "dict" ∧ ((∃ kvs, H p = some (.dK kvs)) ∨ ∃ kvs, H p = some (.dT kvs))) ∨ (T = "set" ∧ ∃ S n, H p = some (.set S n))
  | _ => False
theorem tyV_is {pins : List (Addr × Obj)} {σ : St} {H : Hp} {s : Shared} {T : String} {x : V} {v : Value} (I : Inv X pins σ H s) (r : RelV x v) (ty : tyV X.K T x H) :
    s.TypeIs v T ∧ ∀ a, v = .ref a → ∃ ob, s.heap.get? a = some ob ∧ ob.dict = none := by
  cases x with
  | str z =>
    obtain ⟨t, rfl⟩ := r
    cases (show T = "str" from ty)
    exact ⟨typeIs_str s z t, fun _ e => nomatch e⟩
  | int i =>
    obtain ⟨t, rfl⟩ := r
    cases (show T = "int" from ty)
    exact ⟨typeIs_int s i t, fun _ e => nomatch e⟩
  | ref p =>
    cases r
    rcases ty with ⟨rfl, xs, hq⟩ | ⟨rfl, o, hk, hc, hd⟩ | ⟨rfl, hk⟩ | ⟨rfl, S, n, hk⟩
    · obtain ⟨its, _, pl, _⟩ := I.list hq
      refine ⟨pl.isList.typeIs, fun a e => ?_⟩
      cases e
      obtain ⟨o, n, e, c, hd, _⟩ := pl
      exact ⟨o, e, hd⟩
    · refine ⟨⟨o, I.kIn p o hk, hc⟩, fun a e => ?_⟩
      cases e
      exact ⟨o, I.kIn _ o hk, hd⟩
    · have z : ∃ o, s.heap.get? p = some o ∧ o.ExactDict := by
        rcases hk with ⟨kvs, hk⟩ | ⟨kvs, hk⟩
        · obtain ⟨_, _, _, _, o, _, _, e, ex, _⟩ := I.hok p _ hk
          exact ⟨o, e, ex⟩
        · obtain ⟨_, _, _, _, o, _, _, e, ex, _⟩ := I.hok p _ hk
          exact ⟨o, e, ex⟩
      obtain ⟨o, e, ex⟩ := z
      refine ⟨⟨o, e, ex.1⟩, fun a e2 => ?_⟩
      cases e2
      exact ⟨o, e, ex.2.1⟩
    · obtain ⟨o, _, _, _, e, ex, _⟩ := I.hok p _ hk
      refine ⟨⟨o, e, ex.1⟩, fun a e2 => ?_⟩
      cases e2
      exact ⟨o, e, ex.2.1⟩
  | _ => exact False.elim ty
def tBM0 (K : PySem.W.Frag) (T : String) (r : V → List V → Hp → VK → Prop) (to : TE) : TE := fun σ H Q => to σ H fun x H1 => tyV K T x H1 ∧ r x [] H1 Q
def tBM (K : PySem.W.Frag) (T : String) (r : V → List V → Hp → VK → Prop) (to : TE) (t : TA) : TE := fun σ H Q => to σ H fun x H1 => tyV K T x H1 ∧ t σ H1 fun xs H2 => r x xs H2 Q
variable {o e : Expr} {es : List Expr} {to : TE} {t : TA} {name : Str} {apos cpos : Pos} {T id : String} {r : V → List V → Hp → VK → Prop}
theorem pe_bm (pa : PlainAttrs T) (slot : Slot T name id) (hty : typeOf (.builtin id) = pure (.type "method_descriptor")) (hm : MtR X id r) (ho : PE X o to) (ha : PA X (e :: es) t)
    (hbase : attributeBase o name X.env (eval o X.env) = eval o X.env := by rfl)
    (hfew : ((backTo cpos (starEach (e :: es) X.env)).all (fun x => !x.1) && (backToKw cpos (keywordEach [] X.env)).all (fun x => x.1.isSome)
      && decide ((e :: es).length + ([] : List Keyword).length + (if ([] : List Keyword).isEmpty then 0 else 1) < 30)) = true := by rfl)
    (hline : (apos.endLine == cpos.line) = true := by rfl) (hs : starEach (e :: es) X.env = (false, eval e X.env) :: starEach es X.env := by rfl) (hplain : (backTo cpos (starEach es X.env)).any (·.1) = false := by rfl) :
    PE X (.Call (.Attribute o name apos) (e :: es) [] cpos) (tBM X.K T r to t) := by
  intro pins s σ H Q I h
  refine wpAny_Call_method_late hbase hfew hline rfl (thn (ho pins s σ H _ I h) fun v s1 ⟨x, H1, I1, r1, ty, q1⟩ => ?_)
  obtain ⟨h1, h2⟩ := tyV_is I1 r1 ty
  refine ⟨T, id, pa, slot, hty, h1, h2, ?_⟩
  have hA := ha cpos pins s1 σ H1 _ I1 q1
  rw [hs] at hA ⊢
  refine Calls.callWith_builtin (by show (false || (backTo cpos (starEach es X.env)).any (·.1)) = false; rw [hplain] <;> rfl) (Calls.evalArgs_plain ?_)
  exact thn hA fun us s2 ⟨vs, H2, I2, r2, q2⟩ => hm pins s2 σ H2 x vs v us Q I2 r1 r2 q2
/- xs.append(e), list.index on a module's tuple .. are MtR facts of 06m -/
end
end L2

namespace L2
open PySem PySem.Spec PyProof.Rows

def MtM (X : Cx) (id : String) (r : V → List V → Hp → VK → Prop) : Prop :=
  ∀ (pins : List (Addr × Obj)) (s : Shared) (σ : St) (H : Hp) (x : V) (xs : List V) (v : Value) (us : List Value) (Q : VK), Inv X pins σ H s → RelV x v → Vals xs us → r x xs H Q →
    wpAny (model X.prog X.w) X.A (call (.builtin id) (v :: us)) (EP X pins σ Q) X.xe s

/-! ### lists of values -/
theorem Vals.one : ∀ {x : V} {us : List Value}, Vals [x] us → ∃ u, us = [u] ∧ RelV x u
  | _, _, .cons r .nil => ⟨_, rfl, r⟩

section
variable {X : Cx} {pins : List (Addr × Obj)} {σ : St} {H : Hp} {s : Shared} {l b : Addr} {xs ys zs : List V}

/-! ### the two steps: a tracked list is rewritten, a new list is laid -/
theorem Inv.lset {its its' : List Value} {n : Nat} {f : Array Value → Array Value} {t' : Nat} (I : Inv X pins σ H s) (hH : H l = some (.lst xs))
    (e : s.heap.get? l = some { cls := .type "list", data := .seq its.toArray n }) (hf : f its.toArray = its'.toArray) (hv : Vals ys its') (hz : ys.length ≤ sizeLine) :
    Inv X pins σ (upd H l (.lst ys)) { s with heap := s.heap.update l (Obj.mapSeq f), toks := t' } := by
  have q := PySem.IsL.update e f
  rw [hf] at q
  refine I.write (x := l) (e := l) (by rw [hH]; exact trivial) (.inl rfl) (fun b' u hb hu => (Heap.get?_update_other s.heap (Obj.mapSeq f) (Ne.symm hb)).trans hu) ⟨_, q⟩ ?_
  exact ⟨hz, its', _, hv, q⟩
theorem Inv.lnew {its : List Value} {t' : Nat} (I : Inv X pins σ H s) (hv : Vals ys its) (hz : ys.length ≤ sizeLine) :
    Inv X pins σ (upd H s.heap.objs.size (.lst ys)) { s with heap := s.heap.push { cls := .type "list", data := .seq its.toArray }, toks := t' } :=
  I.laid (fun _ _ q => Heap.get?_push_of_some _ q) (Nat.le_refl _) ⟨hz, its, 0, hv, Heap.get?_push_size _ rfl⟩
theorem Inv.fresh (I : Inv X pins σ H s) : H s.heap.objs.size = none := I.hok.fresh (Nat.le_refl _)
theorem Inv.lstM (I : Inv X pins σ H s) (hH : H l = some (.lst xs)) : xs.length ≤ sizeLine ∧ ∃ (its : List Value) (n : Nat), Vals xs its ∧ xs.length = its.length ∧ s.heap.get? l = some { cls := .type "list", data := .seq its.toArray n } := by
  obtain ⟨z, its, n, r, e⟩ := I.hok l _ hH
  exact ⟨z, its, n, r, r.length, e⟩

theorem notLongL {n : Nat} (h : n ≤ sizeLine) : Builtin.List.listTooLong n = false := by
  unfold Builtin.List.listTooLong
  exact decide_eq_false (by omega)
end

section
variable {X : Cx}

/-! ### methods -/
def rAppend : V → List V → Hp → VK → Prop := fun x vs H Q => ∃ l xs y, x = .ref l ∧ vs = [y] ∧ H l = some (.lst xs) ∧ xs.length < sizeLine ∧ Q .non (upd H l (.lst (xs ++ [y])))
theorem mt_append : MtM X "list.append" rAppend := by
  intro pins s σ H x vs v us Q I rx rv h
  obtain ⟨l, xs, y, rfl, rfl, hH, hz, q⟩ := h
  cases rx
  obtain ⟨u, rfl, ru⟩ := rv.one
  obtain ⟨z, its, n, r, hl, e⟩ := I.lstM hH
  refine call_meets F.slot_list_append ⟨_, e, rfl⟩ F.entry_list_append (F.args_list_append_2 _ _) (PySem.list_append l its.toArray n u (by rw [List.size_toArray]; omega)) ⟨e, ?_⟩
  refine ⟨.non, _, I.lset (its' := its ++ [u]) hH e (by simp) (r.append (.cons ru .nil)) ?_, rfl, q⟩
  rw [List.length_append, List.length_singleton]
  omega

def rExtend : V → List V → Hp → VK → Prop := fun x vs H Q => ∃ l b xs zs, x = .ref l ∧ vs = [.ref b] ∧ H l = some (.lst xs) ∧ H b = some (.lst zs) ∧ xs.length + zs.length ≤ sizeLine ∧ Q .non (upd H l (.lst (xs ++ zs)))

def rPop : V → List V → Hp → VK → Prop := fun x vs H Q => ∃ l xs y, x = .ref l ∧ vs = [] ∧ H l = some (.lst xs) ∧ xs[xs.length - 1]? = some y ∧ Q y (upd H l (.lst xs.dropLast))

def rPopAt : V → List V → Hp → VK → Prop := fun x vs H Q => ∃ l xs i k y, x = .ref l ∧ vs = [.int i] ∧ H l = some (.lst xs) ∧ -(2 ^ 63) ≤ i ∧ i < 2 ^ 63 ∧ seqIndex? i xs.length = some k ∧ xs[k]? = some y ∧ Q y (upd H l (.lst (xs.eraseIdx k)))

def rReverse : V → List V → Hp → VK → Prop := fun x vs H Q => ∃ l xs, x = .ref l ∧ vs = [] ∧ H l = some (.lst xs) ∧ Q .non (upd H l (.lst xs.reverse))

def rClear : V → List V → Hp → VK → Prop := fun x vs H Q => ∃ l xs, x = .ref l ∧ vs = [] ∧ H l = some (.lst xs) ∧ Q .non (upd H l (.lst []))

/-! ### list + list, list += list, list * int -/
def rCat : R2 := fun x y H Q => ∃ l b xs zs, x = .ref l ∧ y = .ref b ∧ H l = some (.lst xs) ∧ H b = some (.lst zs) ∧ xs.length + zs.length ≤ sizeLine ∧ ∀ p, H p = none → Q (.ref p) (upd H p (.lst (xs ++ zs)))
theorem op_cat : OpR X (binaryOp .Add) rCat := by
  intro pins s σ H x y v u Q I rx ry h
  obtain ⟨l, b, xs, zs, rfl, rfl, hH, hB, hz, q⟩ := h
  cases rx
  cases ry
  obtain ⟨z, its, n, r, hl, e⟩ := I.lstM hH
  obtain ⟨z2, its2, n2, r2, hl2, e2⟩ := I.lstM hB
  refine PySem.P.add_list e e2 ?_ (by rw [List.size_toArray, List.size_toArray]; omega)
  have ea : its.toArray ++ its2.toArray = (its ++ its2).toArray := by simp
  rw [ea]
  exact ⟨.ref _, _, I.lnew (t' := s.toks) (r.append r2) (by rw [List.length_append]; omega), rfl, q _ I.fresh⟩
/-- a list times an int (a negative one is nothing) -/
def rRep : R2 := fun x y H Q => ∃ l k xs, x = .ref l ∧ y = .int k ∧ H l = some (.lst xs) ∧ -(2 ^ 63) ≤ k ∧ k < 2 ^ 63 ∧ xs.length * k.toNat ≤ sizeLine ∧
  ∀ p, H p = none → Q (.ref p) (upd H p (.lst (List.replicate k.toNat xs).flatten))

/-! ### del xs[i] -/
end

/-! ### xs[a:b] = ys -/
section
variable {prog : Program} {w : World} {A : Around} {E : Value → Shared → Prop} {s : Shared}
theorem splice_eq (its its2 : List Value) (a c : Nat) : its.toArray.extract 0 a ++ its2.toArray ++ its.toArray.extract c its.toArray.size = (its.take a ++ its2 ++ its.drop c).toArray := by
  apply Array.toList_inj.mp
  first
    | (simp
       exact List.take_of_length_le (by simp))
    | simp [List.take_of_length_le]
    | simp
theorem bounds_run {a c n : Nat} (hac : a ≤ c) (hc : c ≤ n) : sliceBounds (some (a : Int)) (some (c : Int)) none n = ((a : Int), (c : Int), 1) := by
  simp only [sliceBounds, Option.getD_none]
  have h1 : ¬ ((a : Int) < 0) := by omega
  have h2 : ¬ ((c : Int) < 0) := by omega
  simp only [h1, h2, if_false, show (1 : Int) > 0 by decide, if_true]
  congr 1
  · omega
  · congr 1; omega
set_option maxRecDepth 100000 in
/-- list.__setitem__ with a slice of step one and another list -/
theorem setItem_slice {l b sl : Addr} {items new : Array Value} {n n2 : Nat} {vl vu : Value} {a c : Nat} {Q : Unit → Shared → Prop}
    (e : s.heap.get? l = some { cls := .type "list", data := .seq items n }) (e2 : s.heap.get? b = some { cls := .type "list", data := .seq new n2 }) (hne : l ≠ b)
    (hs : s.heap.IsSliceOf sl vl vu .none) (pl : IsPart vl (some (a : Int))) (pu : IsPart vu (some (c : Int))) (hac : a ≤ c) (hc : c ≤ items.size)
    (hsz : items.size + new.size ≤ sizeLine) (h : Q () { s with heap := s.heap.update l (Obj.mapSeq fun xs => xs.extract 0 a ++ new ++ xs.extract c xs.size) }) :
    wpAny (model prog w) A (setItem (.ref l) (.ref sl) (.ref b)) Q E s := by
  have hl : s.heap.IsList l items := PySem.IsL.isList e
  have hb : s.heap.IsList b new := PySem.IsL.isList e2
  obtain ⟨os, hos, hcs, hds⟩ := id hs
  have hTs : s.TypeIs (.ref sl) "slice" := ⟨os, hos, hcs⟩
  have hstep : ¬ ((rawPart none == rawInt 0) = true) := Bool.false_ne_true
  have hsame : Builtin.List.listSameRef (.ref l) (.ref b) = false := by
    unfold Builtin.List.listSameRef
    exact beq_eq_false_iff_ne.mpr hne
  have hmax : (max (a : Int) (c : Int)).toNat = c := by omega
  have hz' : ((fun xs : Array Value => xs.extract 0 a ++ new ++ xs.extract c xs.size) items).size ≤ sizeLine + 1 := by
    simp only [Array.size_append, Array.size_extract]
    omega
  unfold setItem
  try with_reducible refine wpAny_holding ?_
  first | refine wpAny_bind (wpAny_pure ?_) | skip
  refine wpAny_bind (wpAny_sequenceKey hl.typeIs (by decide) ?_)
  refine wpAny_bind (wpAny_callSpecial?_slot (name := Str.ofString "__setitem__") hl.typeIs slot_list_setitem
    (wpAny_call_entry slot_list_setitem hl.typeIs entry_list_setitem ?_ (args_list_setitem _ _ _)))
  show wpAny _ _ (Builtin.List.listSubscript? (.ref sl) >>= _) _ _ s
  refine wpAny_bind ?_
  unfold Builtin.List.listSubscript?
  refine wpAny_bind (wpAny_specialOf hTs slice_no_index ?_)
  simp only [Option.isNone_none, if_true]
  refine wpAny_pure ?_
  show wpAny _ _ (typeOf (.ref sl) >>= _) _ _ s
  refine wpAny_bind (wpAny_typeOf hTs ?_)
  first
    | rw [if_neg (by decide)]
    | refine PySem.W.KFB.if_not (by decide) ?_
  rw [listSliceParts_eq]
  refine wpAny_bind (wpAny_bind (wpAny_field hos hds (x := .none) rfl (wpAny_bind (wpAny_listPart .none ?_))))
  rw [if_neg hstep]
  refine wpAny_bind (wpAny_field hos hds (x := vl) rfl (wpAny_bind (wpAny_listPart pl ?_)))
  refine wpAny_bind (wpAny_field hos hds (x := vu) rfl (wpAny_bind (wpAny_listPart pu (wpAny_pure ?_))))
  first
    | simp only [hsame, Bool.false_eq_true, if_false]
    | refine PySem.W.KFB.if_not hsame ?_
    | (dsimp only
       rw [if_neg (by rw [hsame]; exact Bool.false_ne_true)])
  refine wpAny_bind (m := Builtin.List.listAllItems (.ref b) "must assign iterable to extended slice") ?_
  unfold Builtin.List.listAllItems
  refine wpAny_bind (wpAny_typeOf hb.typeIs ?_)
  first
    | refine PySem.W.KFB.if_so (by decide) ?_
    | rw [if_pos (by decide)]
    | simp only [beq_self_eq_true, Bool.true_or, if_true]
  unfold Builtin.List.listItems
  refine wpAny_bind (wpAny_seqItems e2 rfl (wpAny_pure ?_))
  refine wpAny_bind (wpAny_bind (wpAny_seqItems e rfl (wpAny_pure ?_)))
  refine wpAny_bind (wpAny_of_eq ((sliceIndices_raw (some (a : Int)) (some (c : Int)) none items.size (by simp)).trans (congrArg (pure : Int × Int × Int → Sem (Int × Int × Int)) (bounds_run hac hc))) ?_)
  show wpAny _ _ (if ((1 : Int) == 1) = true then _ else _) _ _ s
  rw [if_pos (by decide)]
  refine wpAny_bind (wpAny_rule ?_)
  first
    | simp only [notLongL hsz, Bool.false_eq_true, if_false]
    | refine PySem.W.KFB.if_not (notLongL hsz) ?_
  first | refine wpAny_bind (wpAny_pure ?_) | skip
  show wpAny _ _ (updateSeq l (fun xs => xs.extract 0 ((a : Int)).toNat ++ new ++ xs.extract (max (a : Int) (c : Int)).toNat xs.size) >>= _) _ _ s
  rw [hmax, Int.toNat_natCast]
  refine wpAny_bind (wpAny_updateSeq (hz := Nat.le_trans (Nat.le_add_right _ _) hsz) (_hz' := hz') e rfl ?_)
  refine wpAny_bind (wpAny_letGo ?_)
  first
    | exact wpAny_bind (wpAny_pure (wpAny_pure ⟨.none, rfl, wpAny_pure h⟩))
    | exact wpAny_pure ⟨.none, rfl, wpAny_pure h⟩
end

section
variable {X : Cx}
/-- xs[a:c] = ys of another list, at the value level: sl is the slice object that was just made -/
theorem set_slice {pins : List (Addr × Obj)} {s : Shared} {σ : St} {H : Hp} {l b sl : Addr} {xs ys : List V} {a c : Int} {vl vu : Value} {Q : Unit → Shared → Prop} (I : Inv X pins σ H s)
    (hH : H l = some (.lst xs)) (hB : H b = some (.lst ys)) (hne : l ≠ b) (hs : s.heap.IsSliceOf sl vl vu .none) (ra : RelV (.int a) vl) (rc : RelV (.int c) vu) (h0 : 0 ≤ a) (hac : a ≤ c) (hc : c ≤ xs.length)
    (hz : xs.length + ys.length ≤ sizeLine) (h : ∀ s', Inv X pins σ (upd H l (.lst (xs.take a.toNat ++ ys ++ xs.drop c.toNat))) s' → Q () s') :
    wpAny (model X.prog X.w) X.A (setItem (.ref l) (.ref sl) (.ref b)) Q X.xe s := by
  obtain ⟨ta, rfl⟩ := ra
  obtain ⟨tc, rfl⟩ := rc
  obtain ⟨z, its, n, r, hl, e⟩ := I.lstM hH
  obtain ⟨z2, its2, n2, r2, hl2, e2⟩ := I.lstM hB
  obtain ⟨a', rfl⟩ := Int.eq_ofNat_of_zero_le h0
  obtain ⟨c', rfl⟩ := Int.eq_ofNat_of_zero_le (Int.le_trans h0 hac)
  simp only [Int.toNat_natCast] at h
  refine setItem_slice (a := a') (c := c') e e2 hne hs (.int _ _) (.int _ _) (by omega) (by rw [List.size_toArray]; omega) (by rw [List.size_toArray, List.size_toArray]; omega) (h _ ?_)
  refine I.lset (its' := its.take a' ++ its2 ++ its.drop c') (t' := s.toks) hH e ?_ (Vals.append (Vals.append (r.take _) r2) (r.drop _)) ?_
  · exact splice_eq its its2 a' c'
  · rw [List.length_append, List.length_append, List.length_take, List.length_drop]
    omega
end
end L2

namespace L2
open PySem PySem.Spec PyProof.Rows

/-! ### lists of pairs as tables -/
section
variable {κ : Type} [DecidableEq κ]
def valV (kvs : List (κ × V)) (k : κ) : Option V := (kvs.find? fun kv => decide (kv.1 = k)).map (·.2)
/-- in its place, or at the end -/
def putK (kvs : List (κ × V)) (k : κ) (v : V) : List (κ × V) :=
  if (kvs.any fun kv => decide (kv.1 = k)) = true then kvs.map (fun kv => if kv.1 = k then (kv.1, v) else kv) else kvs ++ [(k, v)]
def dropK (kvs : List (κ × V)) (k : κ) : List (κ × V) := kvs.filter fun kv => decide (kv.1 ≠ k)

theorem valV_pos {p : κ × V} {r : List (κ × V)} {k : κ} (e : p.1 = k) : valV (p :: r) k = some p.2 := by simp [valV, List.find?_cons, e]
theorem valV_neg {p : κ × V} {r : List (κ × V)} {k : κ} (e : ¬ p.1 = k) : valV (p :: r) k = valV r k := by simp [valV, List.find?_cons, e]
theorem valV_any (k : κ) : ∀ kvs : List (κ × V), (kvs.any fun kv => decide (kv.1 = k)) = (valV kvs k).isSome
  | [] => rfl
  | p :: r => by
    rw [List.any_cons]
    by_cases e : p.1 = k
    · simp only [valV_pos e, decide_eq_true e, Bool.true_or, Option.isSome_some]
    · rw [valV_neg e, decide_eq_false e, Bool.false_or]; exact valV_any k r
theorem length_putK (kvs : List (κ × V)) (k : κ) (v : V) : (putK kvs k v).length ≤ kvs.length + 1 := by
  unfold putK
  split
  · rw [List.length_map]; omega
  · rw [List.length_append, List.length_cons, List.length_nil]; omega
theorem putK_new {kvs : List (κ × V)} {k : κ} (v : V) (h : valV kvs k = none) : putK kvs k v = kvs ++ [(k, v)] := by
  unfold putK
  rw [valV_any, h]
  exact if_neg (by decide)

theorem RelO.isSome_eq {o : Option V} {u : Option Value} (r : RelO o u) : o.isSome = u.isSome := by
  cases o with
  | none => cases u with
    | none => rfl
    | some _ => exact (show False from r).elim
  | some _ => cases u with
    | none => exact (show False from r).elim
    | some _ => rfl
theorem RelO.getD {o : Option V} {u : Option Value} {d : V} {d' : Value} (r : RelO o u) (rd : RelV d d') : RelV (o.getD d) (u.getD d') := by
  cases o with
  | none => cases u with
    | none => exact rd
    | some _ => exact (show False from r).elim
  | some _ => cases u with
    | none => exact (show False from r).elim
    | some _ => exact r

/-- raw tables of the same keys -/
theorem KV.val {kvs : List (κ × V)} {vs : List (κ × Value)} (r : KV kvs vs) (k : κ) : RelO (valV kvs k) (valueAt vs k) := by
  unfold KV at r
  induction r with
  | nil => exact True.intro
  | @cons p q ps qs h t ih =>
    obtain ⟨h1, h2⟩ := h
    by_cases e : p.1 = k
    · have e' : q.1 = k := h1.symm.trans e
      have b : valueAt (q :: qs) k = some q.2 := by simp [valueAt, List.find?_cons, e']
      rw [valV_pos e, b]; exact h2
    · have e' : ¬ q.1 = k := fun z => e (h1.trans z)
      have b : valueAt (q :: qs) k = valueAt qs k := by simp [valueAt, List.find?_cons, e']
      rw [valV_neg e, b]; exact ih
theorem KV.any {kvs : List (κ × V)} {vs : List (κ × Value)} (r : KV kvs vs) (k : κ) : (kvs.any fun kv => decide (kv.1 = k)) = vs.any fun kv => decide (kv.1 = k) := by
  unfold KV at r
  induction r with
  | nil => rfl
  | cons h t ih => rw [List.any_cons, List.any_cons, ih, h.1]
theorem KV.repl {kvs : List (κ × V)} {vs : List (κ × Value)} (r : KV kvs vs) (k : κ) {y : V} {u : Value} (ry : RelV y u) :
    KV (kvs.map fun kv => if kv.1 = k then (kv.1, y) else kv) (vs.map fun kv => if kv.1 = k then (kv.1, u) else kv) := by
  unfold KV at r ⊢
  induction r with
  | nil => exact .nil
  | @cons p q ps qs h t ih =>
    rw [List.map_cons, List.map_cons]
    refine .cons ?_ ih
    obtain ⟨h1, h2⟩ := h
    by_cases e : p.1 = k
    · rw [if_pos e, if_pos (h1.symm.trans e)]; exact ⟨h1, ry⟩
    · rw [if_neg e, if_neg (fun z => e (h1.trans z))]; exact ⟨h1, h2⟩
theorem KV.put {kvs : List (κ × V)} {vs : List (κ × Value)} (r : KV kvs vs) (k : κ) {y : V} {u : Value} (ry : RelV y u) : KV (putK kvs k y) (stored vs k u) := by
  unfold putK stored
  rw [r.any k]
  by_cases e : (vs.any fun kv => decide (kv.1 = k)) = true
  · rw [if_pos e, if_pos e]; exact r.repl k ry
  · rw [if_neg e, if_neg e]; exact Paired.snoc r ⟨rfl, ry⟩
theorem KV.drop {kvs : List (κ × V)} {vs : List (κ × Value)} (r : KV kvs vs) (k : κ) : KV (dropK kvs k) (without vs k) := by
  unfold KV at r ⊢
  unfold dropK without
  induction r with
  | nil => exact .nil
  | @cons p q ps qs h t ih =>
    obtain ⟨h1, h2⟩ := h
    rw [List.filter_cons, List.filter_cons]
    by_cases e : p.1 = k
    · have a : ¬ decide (p.1 ≠ k) = true := by simp [e]
      have b : ¬ decide (q.1 ≠ k) = true := by simp [h1.symm.trans e]
      rw [if_neg a, if_neg b]; exact ih
    · have e' : ¬ q.1 = k := fun z => e (h1.trans z)
      have a : decide (p.1 ≠ k) = true := by simp [e]
      have b : decide (q.1 ≠ k) = true := by simp [e']
      rw [if_pos a, if_pos b]; exact .cons ⟨h1, h2⟩ ih
theorem KV.length {kvs : List (κ × V)} {vs : List (κ × Value)} (r : KV kvs vs) : kvs.length = vs.length := Paired.length r
theorem dropK_le (kvs : List (κ × V)) (k : κ) : (dropK kvs k).length ≤ kvs.length := List.length_filter_le _ _
end


/-! ### a tracked dict, its keys ints and texts or tuples of these -/
theorem kV_is {P : Program} {w : World} {k : Key} {u : Value} (r : RelV (kV k) u) : (mixKind P w).is k u = true := by
  cases k with
  | inl i => obtain ⟨t, e⟩ := (show ∃ t, u = Value.int i t from r); subst e; exact mixKind_int P w i t
  | inr x => obtain ⟨t, e⟩ := (show ∃ t, u = Value.str x t from r); subst e; exact mixKind_str P w x t
theorem items_are {P : Program} {w : World} : ∀ {ks : List Key} {us : List Value}, Vals (ks.map kV) us → ItemsAre (mixKind P w) ks us
  | [], _, r => by rw [List.map_nil] at r; cases r; exact .nil
  | k :: ks, _, r => by
    rw [List.map_cons] at r
    cases r with
    | cons h t => exact .cons (kV_is h) (items_are t)

/-- raw entries of a dict with tuple keys -/
abbrev KT (H : Hp) : List (List Key × V) → List (List Key × Addr × Value) → Prop := Paired fun p q => p.1 = q.1 ∧ H q.2.1 = some (.tup (p.1.map kV)) ∧ RelV p.2 q.2.2
theorem KT.val {H : Hp} {kvs : List (List Key × V)} {xs : List (List Key × Addr × Value)} (r : KT H kvs xs) (k : List Key) : RelO (valV kvs k) ((atKey xs k).map (·.2)) := by
  induction r with
  | nil => exact True.intro
  | @cons p q ps qs h t ih =>
    obtain ⟨h1, _, h2⟩ := h
    by_cases e : p.1 = k
    · have e' : q.1 = k := h1.symm.trans e
      have b : atKey (q :: qs) k = some q.2 := by simp [atKey, List.find?_cons, e']
      rw [valV_pos e, b]; exact h2
    · have e' : ¬ q.1 = k := fun z => e (h1.trans z)
      have b : atKey (q :: qs) k = atKey qs k := by simp [atKey, List.find?_cons, e']
      rw [valV_neg e, b]; exact ih
theorem KT.repl {H : Hp} {kvs : List (List Key × V)} {xs : List (List Key × Addr × Value)} (r : KT H kvs xs) (k : List Key) {y : V} {u : Value} (ry : RelV y u) :
    KT H (kvs.map fun kv => if kv.1 = k then (kv.1, y) else kv) (xs.map (putAt k u)) := by
  induction r with
  | nil => exact .nil
  | @cons p q ps qs h t ih =>
    rw [List.map_cons, List.map_cons]
    refine .cons ?_ ih
    obtain ⟨h1, h2, h3⟩ := h
    unfold putAt
    by_cases e : p.1 = k
    · rw [if_pos e, if_pos (h1.symm.trans e)]; exact ⟨h1, h2, ry⟩
    · rw [if_neg e, if_neg (fun z => e (h1.trans z))]; exact ⟨h1, h2, h3⟩
theorem KT.put {H : Hp} {kvs : List (List Key × V)} {xs : List (List Key × Addr × Value)} (r : KT H kvs xs) (k : List Key) {b : Addr} {y : V} {u : Value} (hb : H b = some (.tup (k.map kV))) (ry : RelV y u) :
    KT H (putK kvs k y) (storedH xs k b u) := by
  have e : (kvs.any fun kv => decide (kv.1 = k)) = (atKey xs k).isSome := by
    rw [valV_any, (r.val k).isSome_eq, Option.isSome_map]
  unfold putK storedH
  rw [e]
  by_cases q : (atKey xs k).isSome = true
  · rw [if_pos q, if_pos q]; exact r.repl k ry
  · rw [if_neg q, if_neg q]; exact Paired.snoc r ⟨rfl, hb, ry⟩
theorem KT.keeps {H H' : Hp} {kvs : List (List Key × V)} {xs : List (List Key × Addr × Value)} (r : KT H kvs xs) (ht : ∀ b ys, H b = some (.tup ys) → H' b = some (.tup ys)) : KT H' kvs xs :=
  Paired.mapP r fun _ _ z => ⟨z.1, ht _ _ z.2.1, z.2.2⟩

section
variable {P : Program} {w : World} {H : Hp} {h : Heap} {a : Addr}
theorem rd_of {u : HO} (ok : HOk P w H h) (e : Rd H a u) : ObjOk P w H h a u := e.ok ok
theorem dk_rd {kvs : List (Key × V)} (ok : HOk P w H h) (e : Rd H a (.dK kvs)) : kvs.length ≤ sizeLine ∧ (a == sysModules) = false ∧ ∃ vs, KV kvs vs ∧ h.DictOf (mixKind P w) a vs :=
  show ObjOk P w H h a (.dK kvs) from rd_of ok e
theorem dk_of {kvs : List (Key × V)} (ok : HOk P w H h) (e : H a = some (.dK kvs)) : kvs.length ≤ sizeLine ∧ (a == sysModules) = false ∧ ∃ vs, KV kvs vs ∧ h.DictOf (mixKind P w) a vs := dk_rd ok (.inl e)
/-- a tracked tuple of ints and texts is a key -/
theorem key_of {ks : List Key} (ok : HOk P w H h) (e : H a = some (.tup (ks.map kV))) : (tupleKind (mixKind P w)).is h ks a := by
  obtain ⟨_, its, r, o, h1, h2, n, h3⟩ := (show ObjOk P w H h a (.tup (ks.map kV)) from ok a _ e)
  exact ⟨o, its.toArray, n, h1, h2, h3, by simpa using items_are r⟩
theorem dt_rd {kvs : List (List Key × V)} (ok : HOk P w H h) (e : Rd H a (.dT kvs)) : kvs.length ≤ sizeLine ∧ (a == sysModules) = false ∧
    ∃ xs, KT H kvs xs ∧ h.DictOfH (tupleKind (mixKind P w)) a xs := by
  obtain ⟨z, y, xs, r, o, es, ep, h1, h2, h3, h4, h5⟩ := (show ObjOk P w H h a (.dT kvs) from rd_of ok e)
  refine ⟨z, y, xs, r, o, es, ep, h1, h2, h3, h4, fun x hx => ?_, h5⟩
  have all : ∀ {l : List (List Key × V)} {m : List (List Key × Addr × Value)}, KT H l m → ∀ x ∈ m, (tupleKind (mixKind P w)).is h x.1 x.2.1 := by
    intro l m q
    induction q with
    | nil => intro x hx; exact nomatch hx
    | @cons p q ps qs hq t ih =>
      intro x hx
      rcases List.mem_cons.mp hx with e | hx
      · subst e
        exact key_of ok (by rw [← hq.1]; exact hq.2.1)
      · exact ih x hx
  exact all r x hx
theorem dt_of {kvs : List (List Key × V)} (ok : HOk P w H h) (e : H a = some (.dT kvs)) : kvs.length ≤ sizeLine ∧ (a == sysModules) = false ∧
    ∃ xs, KT H kvs xs ∧ h.DictOfH (tupleKind (mixKind P w)) a xs := dt_rd ok (.inl e)
end

/-- what the dict at a holds at the key y -/
def DGet (H : Hp) (a : Addr) (y : V) (r : Option V) : Prop :=
  (∃ kvs k, Rd H a (.dK kvs) ∧ y = kV k ∧ r = valV kvs k) ∨ ∃ kvs k b, Rd H a (.dT kvs) ∧ y = .ref b ∧ H b = some (.tup (k.map kV)) ∧ r = valV kvs k
/-- the heap behind a[y] = v -/
def DPut (H : Hp) (a : Addr) (y v : V) (H' : Hp) : Prop :=
  (∃ kvs k, H a = some (.dK kvs) ∧ y = kV k ∧ kvs.length < sizeLine ∧ H' = upd H a (.dK (putK kvs k v))) ∨
  ∃ kvs k b, H a = some (.dT kvs) ∧ y = .ref b ∧ H b = some (.tup (k.map kV)) ∧ kvs.length < sizeLine ∧ H' = upd H a (.dT (putK kvs k v))
theorem DGet.k {H : Hp} {a : Addr} {kvs : List (Key × V)} {k : Key} (e : H a = some (.dK kvs)) : DGet H a (kV k) (valV kvs k) := .inl ⟨kvs, k, .inl e, rfl, rfl⟩
theorem DPut.k {H : Hp} {a : Addr} {kvs : List (Key × V)} {k : Key} {v : V} (e : H a = some (.dK kvs)) (hl : kvs.length < sizeLine) : DPut H a (kV k) v (upd H a (.dK (putK kvs k v))) := .inl ⟨kvs, k, e, rfl, hl, rfl⟩


section
variable {X : Cx} {pins : List (Addr × Obj)} {σ : St} {H : Hp} {s : Shared} {a : Addr} {y v : V} {u r : Value} {o : Option V} {A : Around} {E : Value → Shared → Prop}

theorem Inv.big (I : Inv X pins σ H s) : sysModules < s.heap.objs.size := by
  have h : mainGlobals < s.heap.objs.size := (I.mod.glob.keeps I.bk).lt
  exact Nat.lt_trans (by decide) h

/-- d[y], there -/
theorem d_getItem {Q : Value → Shared → Prop} (hu : A.units + 1 < cLine) (I : Inv X pins σ H s) (g : DGet H a y (some v)) (ry : RelV y u) (h : ∀ w' s', Inv X pins σ H s' → RelV v w' → Q w' s') :
    wpAny (model X.prog X.w) A (getItem (.ref a) u) Q E s := by
  rcases g with ⟨kvs, k, e, ey, l⟩ | ⟨kvs, k, b, e, ey, eb, l⟩
  · subst ey
    obtain ⟨z, hd, vs, rel, dd⟩ := dk_rd I.hok e
    obtain ⟨w', hw, rw'⟩ := RelO.some_of (v := v) (o := valueAt vs k) (by rw [l]; exact rel.val k)
    exact wpAny_getItem_of (kV_is ry) dd.mapOf hw (h w' _ (I.tok _) rw')
  · subst ey
    cases (show u = Value.ref b from ry)
    obtain ⟨z, hd, xs, rel, dd⟩ := dt_rd I.hok e
    obtain ⟨w', hw, rw'⟩ := RelO.some_of (v := v) (o := (atKey xs k).map (·.2)) (by rw [l]; exact rel.val k)
    obtain ⟨p, hp, hp2⟩ := Option.map_eq_some_iff.mp hw
    refine wpAny_getItem_heap (tupleKind_room_in1 hu) (key_of I.hok eb) dd hp ?_
    rw [hp2]
    exact h w' _ (I.tok _) rw'
/-- y in d -/
theorem d_in {Q : Value → Shared → Prop} (hu : A.units + 1 < cLine) (I : Inv X pins σ H s) (g : DGet H a y o) (ry : RelV y u) (h : ∀ s', Inv X pins σ H s' → Q (.bool o.isSome) s') :
    wpAny (model X.prog X.w) A (compareOp .In u (.ref a)) Q E s := by
  rcases g with ⟨kvs, k, e, ey, l⟩ | ⟨kvs, k, b, e, ey, eb, l⟩
  · subst ey
    obtain ⟨z, hd, vs, rel, dd⟩ := dk_rd I.hok e
    refine wpAny_in_of (kV_is ry) hd dd.mapOf ?_
    rw [← (rel.val k).isSome_eq, ← l]
    exact h _ (I.tok _)
  · subst ey
    cases (show u = Value.ref b from ry)
    obtain ⟨z, hd, xs, rel, dd⟩ := dt_rd I.hok e
    refine wpAny_in_heap (tupleKind_room_in1 hu) (key_of I.hok eb) hd dd ?_
    have q := (rel.val k).isSome_eq
    rw [Option.isSome_map] at q
    rw [← q, ← l]
    exact h _ (I.tok _)
theorem d_notIn {Q : Value → Shared → Prop} (hu : A.units + 1 < cLine) (I : Inv X pins σ H s) (g : DGet H a y o) (ry : RelV y u) (h : ∀ s', Inv X pins σ H s' → Q (.bool (!o.isSome)) s') :
    wpAny (model X.prog X.w) A (compareOp .NotIn u (.ref a)) Q E s := by
  rcases g with ⟨kvs, k, e, ey, l⟩ | ⟨kvs, k, b, e, ey, eb, l⟩
  · subst ey
    obtain ⟨z, hd, vs, rel, dd⟩ := dk_rd I.hok e
    refine wpAny_notIn_of (kV_is ry) hd dd.mapOf ?_
    rw [← (rel.val k).isSome_eq, ← l]
    exact h _ (I.tok _)
  · subst ey
    cases (show u = Value.ref b from ry)
    obtain ⟨z, hd, xs, rel, dd⟩ := dt_rd I.hok e
    refine wpAny_notIn_heap (tupleKind_room_in1 hu) (key_of I.hok eb) hd dd ?_
    have q := (rel.val k).isSome_eq
    rw [Option.isSome_map] at q
    rw [← q, ← l]
    exact h _ (I.tok _)
/-- a dict's object is replaced -/
theorem d_write {h' : Heap} {t' : Nat} {ob : HO} (I : Inv X pins σ H s) (mu : Mut (H a)) (hs : Heap.SameBut a s.heap h') (he : ∃ q, h'.get? a = some q) (new : ObjOk X.prog X.w (upd H a ob) h' a ob) :
    Inv X pins σ (upd H a ob) { s with heap := h', toks := t' } :=
  I.write (x := a) (e := a) mu (.inl rfl) (fun b q hb z => (hs.2 b hb).trans z) he new
theorem dk_new {P : Program} {w : World} {H' : Hp} {h' : Heap} {kvs : List (Key × V)} {vs : List (Key × Value)} (z : kvs.length ≤ sizeLine) (hd : (a == sysModules) = false) (rel : KV kvs vs) (dd : h'.DictOf (mixKind P w) a vs) :
    ObjOk P w H' h' a (.dK kvs) := ⟨z, hd, vs, rel, dd⟩
/-- d[y] = v -/
theorem d_setItem {H' : Hp} {Q : Unit → Shared → Prop} (hu : A.units + 1 < cLine) (I : Inv X pins σ H s) (g : DPut H a y v H') (ry : RelV y u) (rv : RelV v r) (h : ∀ s', Inv X pins σ H' s' → Q () s') :
    wpAny (model X.prog X.w) A (setItem (.ref a) u r) Q E s := by
  rcases g with ⟨kvs, k, e, ey, l, eH⟩ | ⟨kvs, k, b, e, ey, eb, l, eH⟩
  · subst ey eH
    obtain ⟨z, hd, vs, rel, dd⟩ := dk_of I.hok e
    have hz : vs.length ≤ sizeLine := by rw [← rel.length]; exact z
    have hl : (putK kvs k v).length ≤ sizeLine := by have := length_putK kvs k v; omega
    refine wpAny_setItem_pairs (hsz := hz) (kV_is ry) dd fun h' dd' hs => h _ ?_
    have he : ∃ q, h'.get? a = some q := let ⟨q, _, _, hq, _⟩ := dd'; ⟨q, hq⟩
    exact d_write I (by rw [e]; exact True.intro) hs he (dk_new hl hd (rel.put k rv) dd')
  · subst ey eH
    cases (show u = Value.ref b from ry)
    obtain ⟨z, hd, xs, rel, dd⟩ := dt_of I.hok e
    have hz : xs.length ≤ sizeLine := by rw [← Paired.length rel]; exact z
    have hl : (putK kvs k v).length ≤ sizeLine := by have := length_putK kvs k v; omega
    refine wpAny_setItem_heap (hsz := hz) (tupleKind_room_in1 hu) (key_of I.hok eb) dd fun h' dd' hs => h _ ?_
    obtain ⟨q, es, ep, hq, h2, h3, h4, _, h5⟩ := dd'
    refine d_write I (by rw [e]; exact True.intro) hs ⟨q, hq⟩ ⟨hl, hd, _, (rel.put k eb rv).keeps fun c ys ec => ?_, q, es, ep, hq, h2, h3, h4, h5⟩
    rw [upd_ne (ne_of ec e (fun z => nomatch z))]
    exact ec
end

section
variable {X : Cx} {pins : List (Addr × Obj)} {σ : St} {H : Hp} {s : Shared} {a : Addr} {kvs : List (Key × V)} {k : Key} {u : Value} {A : Around} {E : Value → Shared → Prop}
/-- del d[k] -/
theorem d_delItem {Q : Unit → Shared → Prop} (I : Inv X pins σ H s) (e : H a = some (.dK kvs)) (ry : RelV (kV k) u) (l : (valV kvs k).isSome = true) (h : ∀ s', Inv X pins σ (upd H a (.dK (dropK kvs k))) s' → Q () s') :
    wpAny (model X.prog X.w) A (delItem (.ref a) u) Q E s := by
  obtain ⟨z, hd, vs, rel, dd⟩ := dk_of I.hok e
  refine wpAny_delItem_slot dd.typeIs (by decide) PySem.F.slot_dict_delitem
    (call_meetsIn PySem.F.slot_dict_delitem dd.typeIs PySem.F.entry_dict_delitem (PySem.F.args_dict_delitem_2 _ _) (meets_dict_delitem_pairs (mixKind X.prog X.w) a (kV_is ry)) ⟨vs, dd, by rw [← rel.length]; exact z, by rw [← (rel.val k).isSome_eq]; exact l, fun h' dd' hs => h _ ?_⟩)
  have he : ∃ q, h'.get? a = some q := let ⟨q, _, _, hq, _⟩ := dd'; ⟨q, hq⟩
  exact d_write I (by rw [e]; exact True.intro) hs he (dk_new (Nat.le_trans (dropK_le kvs k) z) hd (rel.drop k) dd')
/-- d.pop(k[, x]), there -/
theorem d_pop {v : V} {more : List Value} {Q : Value → Shared → Prop} (I : Inv X pins σ H s) (e : H a = some (.dK kvs)) (ry : RelV (kV k) u) (l : valV kvs k = some v) (hm : more = [] ∨ ∃ x, more = [x])
    (h : ∀ w' s', Inv X pins σ (upd H a (.dK (dropK kvs k))) s' → RelV v w' → Q w' s') : wpAny (model X.prog X.w) A (call (.builtin "dict.pop") (.ref a :: u :: more)) Q E s := by
  obtain ⟨z, hd, vs, rel, dd⟩ := dk_of I.hok e
  obtain ⟨w', hw, rw'⟩ := RelO.some_of (v := v) (o := valueAt vs k) (by rw [← l]; exact rel.val k)
  have hp : (keyPart u).isSome = true := by
    cases k with
    | inl i => obtain ⟨t, q⟩ := (show ∃ t, u = Value.int i t from ry); subst q; rfl
    | inr x => obtain ⟨t, q⟩ := (show ∃ t, u = Value.str x t from ry); subst q; rfl
  have ha : argsOk "dict.pop" ⟨.ref a :: u :: more, []⟩ := by
    rcases hm with q | ⟨x, q⟩
    · subst q; exact PySem.F.args_dict_pop_2 _ _
    · subst q; exact PySem.F.args_dict_pop_3 _ _ _
  refine call_meetsIn PySem.F.slot_dict_pop dd.typeIs PySem.F.entry_dict_pop ha (meets_dict_pop_there (mixKind X.prog X.w) a (kV_is ry) more hm hp)
    ⟨vs, w', dd, by rw [← rel.length]; exact z, hw, fun h' dd' hs => h w' _ ?_ rw'⟩
  have he : ∃ q, h'.get? a = some q := let ⟨q, _, _, hq, _⟩ := dd'; ⟨q, hq⟩
  exact d_write I (by rw [e]; exact True.intro) hs he (dk_new (Nat.le_trans (dropK_le kvs k) z) hd (rel.drop k) dd')
/-- d.pop(k, x), not there -/
theorem d_popD {r : Value} {Q : Value → Shared → Prop} (I : Inv X pins σ H s) (e : H a = some (.dK kvs)) (ry : RelV (kV k) u) (l : valV kvs k = none) (h : ∀ s', Inv X pins σ H s' → Q r s') :
    wpAny (model X.prog X.w) A (call (.builtin "dict.pop") [.ref a, u, r]) Q E s := by
  obtain ⟨z, hd, vs, rel, dd⟩ := dk_of I.hok e
  have hn : valueAt vs k = none := RelO.none_of (by rw [← l]; exact rel.val k)
  have hp : (keyPart u).isSome = true := by
    cases k with
    | inl i => obtain ⟨t, q⟩ := (show ∃ t, u = Value.int i t from ry); subst q; rfl
    | inr x => obtain ⟨t, q⟩ := (show ∃ t, u = Value.str x t from ry); subst q; rfl
  exact call_meetsIn PySem.F.slot_dict_pop dd.typeIs PySem.F.entry_dict_pop (PySem.F.args_dict_pop_3 _ _ _) (meets_dict_pop_default (mixKind X.prog X.w) a (kV_is ry) hd hp r) ⟨vs, dd, hn, h _ (I.tok _)⟩
/-- d.clear() -/
theorem d_clear {Q : Value → Shared → Prop} (I : Inv X pins σ H s) (e : H a = some (.dK kvs)) (h : ∀ s', Inv X pins σ (upd H a (.dK [])) s' → Q .none s') : wpAny (model X.prog X.w) A (call (.builtin "dict.clear") [.ref a]) Q E s := by
  obtain ⟨z, hd, vs, rel, dd⟩ := dk_of I.hok e
  refine call_meetsIn PySem.F.slot_dict_clear dd.typeIs PySem.F.entry_dict_clear (PySem.F.args_dict_clear_1 _) (meets_dict_clear (mixKind X.prog X.w) a) ⟨vs, dd, by rw [← rel.length]; exact z, fun h' dd' hs => h _ ?_⟩
  have he : ∃ q, h'.get? a = some q := let ⟨q, _, _, hq, _⟩ := dd'; ⟨q, hq⟩
  exact d_write (t' := s.toks) I (by rw [e]; exact True.intro) hs he (dk_new (Nat.zero_le _) hd .nil dd')
/-- len(d) -/
theorem d_len {Q : Value → Shared → Prop} (I : Inv X pins σ H s) (e : Rd H a (.dK kvs)) (h : ∀ t s', Inv X pins σ H s' → Q (.int kvs.length t) s') : wpAny (model X.prog X.w) A (call (.builtin "len") [.ref a]) Q E s := by
  obtain ⟨z, hd, vs, rel, dd⟩ := dk_rd I.hok e
  refine call_len_dict hd dd (by rw [← rel.length]; rw [sizeLine_eq] at z; omega) ?_
  rw [← rel.length]
  exact h _ _ (I.tok _)
/-- if d -/
theorem d_truth {Q : Bool → Shared → Prop} (I : Inv X pins σ H s) (e : Rd H a (.dK kvs)) (h : ∀ s', Inv X pins σ H s' → Q (!kvs.isEmpty) s') : wpAny (model X.prog X.w) A (truthy (.ref a)) Q E s := by
  obtain ⟨z, hd, vs, rel, dd⟩ := dk_rd I.hok e
  refine wpAny_truthy_dict hd dd (by rw [← rel.length]; rw [sizeLine_eq] at z; omega) ?_
  have q : kvs.isEmpty = vs.isEmpty := by cases rel <;> rfl
  rw [← q]
  exact h _ (I.tok _)
end


/-! ### readings and rules -/
/-- the element of a subscription, not a slice -/
def NoSl (i : Expr) : Prop := ∀ ov iv, subscripted i false ov iv = operate [ov, iv] (getItem ov iv)
theorem subD_of {prog : Program} {w : World} {A : Around} {E : Value → Shared → Prop} {s : Shared} {env : Env} {value slice : Expr} {pos : Pos} {T id : String} {Q : Value → Shared → Prop}
    (hl : typeLookup (.type T) "__getitem__" = pure (some (.builtin id))) (hs : NoSl slice)
    (h : wpAny (model prog w) A (eval value env) (fun o s₁ => wpAny (model prog w) A (eval slice env) (fun i s₂ => s₂.TypeIs o T ∧ wpAny (model prog w) A (getItem o i) Q E s₂) E s₁) E s) :
    wpAny (model prog w) A (eval (.Subscript value slice pos) env) Q E s := by
  refine Subscript_ (wpAny_mono h (fun o s₁ h₁ => wpAny_mono h₁ (fun i s₂ h₂ => ?_) fun _ _ x => x) fun _ _ x => x)
  obtain ⟨hT, h₂⟩ := h₂
  unfold subscriptTail
  refine wpAny_bind ?_
  rw [getitemInPython_of_ne hT.not_modules]
  refine wpAny_bind (wpAny_specialOf hT hl ?_)
  have fin : wpAny (model prog w) A (subscripted slice false o i) (fun r s₃ => wpAny (model prog w) A (letTemporaryGo value o r >>= fun _ => pure r) Q E s₃) E s₂ := by
    rw [hs o i]
    exact wpAny_operating (wpAny_mono h₂ (fun r s₃ h₃ => wpAny_bind (wpAny_letTemporaryGo (wpAny_pure h₃))) fun _ _ x => x)
  first
    | exact wpAny_pure (wpAny_bind fin)
    | exact wpAny_bind (wpAny_pure (wpAny_bind fin))
    | exact wpAny_bind fin

theorem dict_typeIs {X : Cx} {pins : List (Addr × Obj)} {σ : St} {H : Hp} {s : Shared} {a : Addr} {y : V} {o : Option V} (I : Inv X pins σ H s) (g : DGet H a y o) : s.TypeIs (.ref a) "dict" := by
  rcases g with ⟨kvs, k, e, _, _⟩ | ⟨kvs, k, b, e, _, _, _⟩
  · obtain ⟨_, _, vs, _, dd⟩ := dk_rd I.hok e
    exact dd.typeIs
  · obtain ⟨_, _, xs, _, dd⟩ := dt_rd I.hok e
    exact dd.typeIs

/-- d[y] -/
def tDGet (td ty : TE) : TE := fun σ H Q => td σ H fun x H1 => ty σ H1 fun y H2 => ∃ a v, x = .ref a ∧ DGet H2 a y (some v) ∧ Q v H2
/-- y in d, y not in d -/
def tDIn (ty td : TE) : TE := fun σ H Q => ty σ H fun y H1 => td σ H1 fun x H2 => ∃ a o, x = .ref a ∧ DGet H2 a y o ∧ Q (.bl o.isSome) H2
def tDNotIn (ty td : TE) : TE := fun σ H Q => ty σ H fun y H1 => td σ H1 fun x H2 => ∃ a o, x = .ref a ∧ DGet H2 a y o ∧ Q (.bl (!o.isSome)) H2
/-- d[y] = v -/
def sDPut (td ty tv : TE) : TS := fun D σ H => tv σ H fun v H1 => td σ H1 fun x H2 => ty σ H2 fun y H3 => ∃ a H4, x = .ref a ∧ DPut H3 a y v H4 ∧ D.nx σ H4
/-- d[y] op= v -/
def sDAug (td ty tv : TE) (rd : V → V → Hp → VK → Prop) : TS := fun D σ H => td σ H fun x H1 => ty σ H1 fun y H2 => ∃ a v, x = .ref a ∧ DGet H2 a y (some v) ∧
  tv σ H2 fun y2 H3 => rd v y2 H3 fun z H4 => ∃ H5, DPut H4 a y z H5 ∧ D.nx σ H5
/-- del d[y] -/
def sDDel (td ty : TE) : TS := fun D σ H => td σ H fun x H1 => ty σ H1 fun y H2 => ∃ a kvs k, x = .ref a ∧ H2 a = some (.dK kvs) ∧ y = kV k ∧ (valV kvs k).isSome = true ∧ D.nx σ (upd H2 a (.dK (dropK kvs k)))

section
variable {X : Cx} {o i e value : Expr} {pos pos' tpos : Pos} {td ty tv : TE}
theorem pe_dget (hu : X.A.units + 1 < cLine) (ho : PE X o td) (hi : PE X i ty) (hs : NoSl i) : PE X (.Subscript o i pos) (tDGet td ty) := by
  intro pins s σ H Q I h
  refine subD_of PySem.F.slot_dict_getitem.lookup hs (thn (ho pins s σ H _ I h) fun u s1 ⟨x, H1, I1, rx, q1⟩ => thn (hi pins s1 σ H1 _ I1 q1) fun iv s2 ⟨y, H2, I2, ry, a, v, ex, g, q2⟩ => ?_)
  subst ex
  obtain rfl : u = Value.ref a := rx
  exact ⟨dict_typeIs I2 g, d_getItem hu I2 g ry fun w' s3 I3 rw' => ⟨v, H2, I3, rw', q2⟩⟩
theorem pc_din (hu : X.A.units + 1 < cLine) (hi : PE X i ty) (ho : PE X o td) : PC X .In i o (tDIn ty td) := by
  intro pins s σ H Q I h
  refine thn (hi pins s σ H _ I h) fun iv s1 ⟨y, H1, I1, ry, q1⟩ => thn (ho pins s1 σ H1 _ I1 q1) fun u s2 ⟨x, H2, I2, rx, a, ov, ex, g, q2⟩ => ?_
  subst ex
  obtain rfl : u = Value.ref a := rx
  exact d_in hu I2 g ry fun s3 I3 => ⟨.bl ov.isSome, H2, I3, rfl, q2⟩
theorem pc_dnotin (hu : X.A.units + 1 < cLine) (hi : PE X i ty) (ho : PE X o td) : PC X .NotIn i o (tDNotIn ty td) := by
  intro pins s σ H Q I h
  refine thn (hi pins s σ H _ I h) fun iv s1 ⟨y, H1, I1, ry, q1⟩ => thn (ho pins s1 σ H1 _ I1 q1) fun u s2 ⟨x, H2, I2, rx, a, ov, ex, g, q2⟩ => ?_
  subst ex
  obtain rfl : u = Value.ref a := rx
  exact d_notIn hu I2 g ry fun s3 I3 => ⟨.bl (!ov.isSome), H2, I3, rfl, q2⟩
theorem ps_dput (hu : X.A.units + 1 < cLine) (ho : PE X o td) (hi : PE X i ty) (hv : PE X value tv) (hs : swapsWith value (some (.Subscript o i pos')) pos.line X.env = pure false) :
    PS X (.Assign [.Subscript o i pos'] value pos) (sDPut td ty tv) := by
  intro pins s σ H D I h
  refine wpAny_Assign_Subscript (thn (hv pins s σ H _ I h) fun r s1 ⟨v, H1, I1, rv, q1⟩ => thn (ho pins s1 σ H1 _ I1 q1) fun u s2 ⟨x, H2, I2, rx, q2⟩ => thn (hi pins s2 σ H2 _ I2 q2) fun iv s3 ⟨y, H3, I3, ry, a, H4, ex, g, q3⟩ => ?_) hs
  subst ex
  obtain rfl : u = Value.ref a := rx
  exact d_setItem hu I3 g ry rv fun s4 I4 => ⟨σ, H4, I4, q3⟩
end


/-! ### displays -/
theorem dk_empty {P : Program} {w : World} {H : Hp} (h : Heap) (hb : sysModules < h.objs.size) : ObjOk P w H (h.push { cls := .type "dict", data := .dict #[] }) h.objs.size (.dK []) :=
  ⟨Nat.zero_le _, beq_eq_false_iff_ne.mpr (Ne.symm (Nat.ne_of_lt hb)), [], .nil, Heap.DictOf.new h⟩
/-- {}, to be a dict of the kind that is wanted -/
def tDNewK : TE := fun _ H Q => ∀ p, H p = none → Q (.ref p) (upd H p (.dK []))
def tDNewT : TE := fun _ H Q => ∀ p, H p = none → Q (.ref p) (upd H p (.dT []))
section
variable {X : Cx} {pos : Pos}
theorem pe_dnewK : PE X (.Dict [] [] pos) tDNewK := fun pins s σ H Q I h =>
  wpAny_Dict_empty ⟨.ref s.heap.objs.size, _, I.laid (a := s.heap.objs.size) (o := .dK []) (t' := s.toks) (fun _ _ q => Heap.get?_push_of_some _ q) (Nat.le_refl _) (dk_empty s.heap I.big), rfl, h _ (I.hok.fresh (Nat.le_refl _))⟩
end

/-- the pairs of a display, from the left -/
def tPairs : List (TE × TE) → St → Hp → (List (V × V) → Hp → Prop) → Prop
  | [], _, H, Q => Q [] H
  | (tk, tv) :: r, σ, H, Q => tk σ H fun x H1 => tv σ H1 fun y H2 => tPairs r σ H2 fun ps H3 => Q ((x, y) :: ps) H3
abbrev VV : List (V × V) → List (Value × Value) → Prop := Paired fun p q => RelV p.1 q.1 ∧ RelV p.2 q.2
def PPs (X : Cx) (pos : Pos) (keys : List (Option Expr)) (values : List Expr) (trs : List (TE × TE)) : Prop :=
  ∀ (pins : List (Addr × Obj)) (s : Shared) (σ : St) (H : Hp) (Q : List (V × V) → Hp → Prop), Inv X pins σ H s → tPairs trs σ H Q →
    wpAny (model X.prog X.w) X.A (evalPairs (pairTrees keys values X.env pos)) (fun vs s' => ∃ ps H', Inv X pins σ H' s' ∧ VV ps vs ∧ Q ps H') X.xe s

def mergeK (kvs more : List (Key × V)) : List (Key × V) := more.foldl (fun acc kv => putK acc kv.1 kv.2) kvs
/-- {k: v, ..} with keys ints and texts; the new dict stands empty while the pairs are made -/
def tDisp (trs : List (TE × TE)) : TE := fun σ H Q => ∀ p, H p = none → tPairs trs σ (upd H p (.dK [])) fun ps H2 => H2 p = some (.dK []) ∧ ∃ kvs : List (Key × V), ps = kvs.map (fun kv => (kV kv.1, kv.2)) ∧ kvs.length ≤ 15 ∧ Q (.ref p) (upd H2 p (.dK (mergeK [] kvs)))


/-! ### methods -/
/-- a method call o.m(e) of a built-in, with one argument: what must be seen of the text -/
structure M1 (X : Cx) (o : Expr) (m : Str) (apos : Pos) (e : Expr) (cpos : Pos) : Prop where
  base : attributeBase o m X.env (eval o X.env) = eval o X.env
  few : ((backTo cpos (starEach [e] X.env)).all (fun x => !x.1) && (backToKw cpos (keywordEach [] X.env)).all (fun x => x.1.isSome)
    && decide (([e] : List Expr).length + ([] : List Keyword).length + (if ([] : List Keyword).isEmpty then 0 else 1) < 30)) = true
  line : (apos.endLine == cpos.line) = true
  trees : backTo cpos (starEach [e] X.env) = [(false, eval e X.env)]
structure M2 (X : Cx) (o : Expr) (m : Str) (apos : Pos) (e f : Expr) (cpos : Pos) : Prop where
  base : attributeBase o m X.env (eval o X.env) = eval o X.env
  few : ((backTo cpos (starEach [e, f] X.env)).all (fun x => !x.1) && (backToKw cpos (keywordEach [] X.env)).all (fun x => x.1.isSome)
    && decide (([e, f] : List Expr).length + ([] : List Keyword).length + (if ([] : List Keyword).isEmpty then 0 else 1) < 30)) = true
  line : (apos.endLine == cpos.line) = true
  trees : backTo cpos (starEach [e, f] X.env) = [(false, eval e X.env), (false, eval f X.env)]

/-- a is a dict, whatever its keys -/
def IsD (H : Hp) (a : Addr) : Prop := (∃ kvs, Rd H a (.dK kvs)) ∨ ∃ kvs, Rd H a (.dT kvs)

section
variable {X : Cx} {pins : List (Addr × Obj)} {σ : St} {H : Hp} {s : Shared} {a : Addr} {y d : V} {u r : Value} {o : Option V} {A : Around} {E : Value → Shared → Prop}
/-- d.get(y) -/
theorem d_get1 {Q : Value → Shared → Prop} (hu : A.units + 1 < cLine) (I : Inv X pins σ H s) (g : DGet H a y o) (ry : RelV y u) (h : ∀ w' s', Inv X pins σ H s' → RelV (o.getD .non) w' → Q w' s') :
    wpAny (model X.prog X.w) A (call (.builtin "dict.get") [.ref a, u]) Q E s := by
  rcases g with ⟨kvs, k, e, ey, l⟩ | ⟨kvs, k, b, e, ey, eb, l⟩
  · subst ey
    obtain ⟨z, hd, vs, rel, dd⟩ := dk_rd I.hok e
    refine call_meetsIn PySem.F.slot_dict_get dd.typeIs PySem.F.entry_dict_get (PySem.F.args_dict_get_2 _ _) (meets_dict_get (mixKind X.prog X.w) a (kV_is ry) hd) ⟨_, dd.mapOf, h _ _ (I.tok _) ?_⟩
    rw [l]
    exact (rel.val k).getD rfl
  · subst ey
    cases (show u = Value.ref b from ry)
    obtain ⟨z, hd, xs, rel, dd⟩ := dt_rd I.hok e
    refine call_meetsIn PySem.F.slot_dict_get dd.typeIs PySem.F.entry_dict_get (PySem.F.args_dict_get_2 _ _) (meetsH_dict_get (tupleKind (mixKind X.prog X.w)) a b hd) ⟨tupleKind_room_in1 hu, k, xs, key_of I.hok eb, dd, h _ _ (I.tok _) ?_⟩
    rw [l]
    exact (rel.val k).getD rfl
/-- d.get(y, x) -/
theorem d_get2 {Q : Value → Shared → Prop} (hu : A.units + 1 < cLine) (I : Inv X pins σ H s) (g : DGet H a y o) (ry : RelV y u) (rd : RelV d r) (h : ∀ w' s', Inv X pins σ H s' → RelV (o.getD d) w' → Q w' s') :
    wpAny (model X.prog X.w) A (call (.builtin "dict.get") [.ref a, u, r]) Q E s := by
  rcases g with ⟨kvs, k, e, ey, l⟩ | ⟨kvs, k, b, e, ey, eb, l⟩
  · subst ey
    obtain ⟨z, hd, vs, rel, dd⟩ := dk_rd I.hok e
    refine call_meetsIn PySem.F.slot_dict_get dd.typeIs PySem.F.entry_dict_get (PySem.F.args_dict_get_3 _ _ _) (meets_dict_get_default (mixKind X.prog X.w) a (kV_is ry) hd r) ⟨_, dd.mapOf, h _ _ (I.tok _) ?_⟩
    rw [l]
    exact (rel.val k).getD rd
  · subst ey
    cases (show u = Value.ref b from ry)
    obtain ⟨z, hd, xs, rel, dd⟩ := dt_rd I.hok e
    refine call_meetsIn PySem.F.slot_dict_get dd.typeIs PySem.F.entry_dict_get (PySem.F.args_dict_get_3 _ _ _) (meetsH_dict_get_default (tupleKind (mixKind X.prog X.w)) a b hd r) ⟨tupleKind_room_in1 hu, k, xs, key_of I.hok eb, dd, h _ _ (I.tok _) ?_⟩
    rw [l]
    exact (rel.val k).getD rd
end

def tDGet1 (td ty : TE) : TE := fun σ H Q => td σ H fun x H1 => ∃ a, x = .ref a ∧ IsD H1 a ∧ ty σ H1 fun y H2 => ∃ o, DGet H2 a y o ∧ Q (o.getD .non) H2
def tDGet2 (td ty tx : TE) : TE := fun σ H Q => td σ H fun x H1 => ∃ a, x = .ref a ∧ IsD H1 a ∧ ty σ H1 fun y H2 => tx σ H2 fun z H3 => ∃ o, DGet H3 a y o ∧ Q (o.getD z) H3
/-- d.pop(k): there; d.pop(k, x): there or not -/
def tDPop1 (td ty : TE) : TE := fun σ H Q => td σ H fun x H1 => ∃ a, x = .ref a ∧ IsD H1 a ∧ ty σ H1 fun y H2 => ∃ kvs k v, H2 a = some (.dK kvs) ∧ y = kV k ∧ valV kvs k = some v ∧ Q v (upd H2 a (.dK (dropK kvs k)))
def tDPop2 (td ty tx : TE) : TE := fun σ H Q => td σ H fun x H1 => ∃ a, x = .ref a ∧ IsD H1 a ∧ ty σ H1 fun y H2 => tx σ H2 fun z H3 => ∃ kvs k, H3 a = some (.dK kvs) ∧ y = kV k ∧
  (∀ v, valV kvs k = some v → Q v (upd H3 a (.dK (dropK kvs k)))) ∧ (valV kvs k = none → Q z H3)
section
variable {X : Cx} {o e f : Expr} {apos cpos : Pos} {td ty tx : TE}
end

/-! ### dict(d): a copy -/
section
variable {X : Cx} {pins : List (Addr × Obj)} {σ : St} {H : Hp} {s : Shared} {a : Addr} {kvs : List (Key × V)} {A : Around} {E : Value → Shared → Prop}
theorem d_copyOf {Q : Value → Shared → Prop} (I : Inv X pins σ H s) (e : Rd H a (.dK kvs)) (h : ∀ p s', H p = none → Inv X pins σ (upd H p (.dK kvs)) s' → Q (.ref p) s') : wpAny (model X.prog X.w) A (call (.type "dict") [.ref a]) Q E s := by
  obtain ⟨z, hd, vs, rel, dd⟩ := dk_rd I.hok e
  refine kt_call_dict hd dd (by rw [← rel.length]; exact z) fun h' dd' hs => ?_
  refine h _ _ (I.hok.fresh (Nat.le_refl _)) (I.laid (a := s.heap.objs.size) (o := .dK kvs) (t' := s.toks) (fun b q hq => ?_) (Nat.le_refl _) (dk_new z (beq_eq_false_iff_ne.mpr (Ne.symm (Nat.ne_of_lt I.big))) rel dd'))
  exact (hs.2 b (Nat.ne_of_lt (Heap.lt_size hq))).trans (Heap.get?_push_of_some _ hq)
end


section
variable {X : Cx} {pins : List (Addr × Obj)} {σ : St} {H : Hp} {s : Shared} {a : Addr} {y : V} {u : Value} {A : Around} {E : Value → Shared → Prop}
/-- d[y], not there: a KeyError -/
theorem d_missing {Q : Value → Shared → Prop} (hu : A.units + 1 < cLine) (hh : A.handled = none) (I : Inv X pins σ H s) (g : DGet H a y none) (ry : RelV y u)
    (h : ∀ h' e t', Heap.NewExc s.heap h' e "KeyError" → E (.ref e) { s with heap := h', toks := t' }) : wpAny (model X.prog X.w) A (getItem (.ref a) u) Q E s := by
  rcases g with ⟨kvs, k, e, ey, l⟩ | ⟨kvs, k, b, e, ey, eb, l⟩
  · subst ey
    obtain ⟨z, hd, vs, rel, dd⟩ := dk_rd I.hok e
    have hn : valueAt vs k = none := RelO.none_of (by rw [l]; exact rel.val k)
    exact wpAny_getItem_missing_of (kV_is ry) hd hh dd.mapOf hn fun h' ex ne => h h' ex _ ne
  · subst ey
    cases (show u = Value.ref b from ry)
    obtain ⟨z, hd, xs, rel, dd⟩ := dt_rd I.hok e
    have hn : (atKey xs k).map (·.2) = none := RelO.none_of (by rw [l]; exact rel.val k)
    exact wpAny_getItem_missing_heap (tupleKind_room_in1 hu) (key_of I.hok eb) hd hh dd (Option.map_eq_none_iff.mp hn) fun h' ex ne => h h' ex _ ne
end
end L2

namespace Att
open PySem PySem.W PySem.Calls PyProof.Rows

/-! ### the script -/
theorem ints_of_wellAll {P : Params} {h : Heap} : ∀ (ns : List Int) (vs : List Value), WellAll P h vs (ns.map WData.int) → IntsAre vs ns := by
  intro ns
  induction ns with
  | nil =>
    intro vs w
    rw [List.map_nil] at w
    cases w
    exact .nil
  | cons n ns ih =>
    intro vs w
    rw [List.map_cons] at w
    cases w with
    | cons a b =>
      cases a
      exact .cons _ _ (ih _ b)

theorem script_of {l : OpenLaw} {n : Nat} (hn : l.most = some n) {P : Params} {h : Heap} {args : List WData} {vals : List Value}
    (hpre : l.row.toRowW.claim.pre args = true) (hwl : WellAll P h vals args) :
    ∃ a vs ns, vals = [Value.ref a] ∧ args = [WData.list (ns.map WData.int)] ∧ h.get? a = some { cls := .type "list", data := .seq vs.toArray } ∧ IntsAre vs ns ∧ ns.length ≤ n := by
  have hsh : WShape.hasAll [] args [.list .int] = true := (pre_splitW hpre).1
  have hc : l.pre.holds [] { args := args } = true := (pre_splitW hpre).2
  obtain ⟨d, r, rfl, h1, h2⟩ := hasAllW_cons hsh
  obtain rfl := hasAllW_nil h2
  obtain ⟨xs, rfl, h3⟩ := hasW_list h1
  obtain ⟨ns, rfl⟩ := items_int h3
  have hlen : ns.length ≤ n := by
    unfold OpenLaw.pre at hc
    have h4 : (WTm.not (.lt (.lit (.int (n : Int))) (.len (.arg 0)))).holds [] { args := [.list (ns.map .int)] } = true := by
      have h4 := (holds_andW hc).1
      rw [hn] at h4
      exact h4
    have h5 := condW_of h4 (w_not (w_lt w_lit (w_len_list (w_arg rfl))))
    rw [List.length_map] at h5
    refine Nat.le_of_not_lt fun q => ?_
    have q' : (n : Int) < ((ns.length : Nat) : Int) := by omega
    first
      | (rw [decide_eq_true q'] at h5; exact absurd h5 (by decide))
      | (simp at h5; omega)
  cases hwl with
  | cons w1 w2 =>
    cases w2
    cases w1 with
    | list ho hall => exact ⟨_, _, ns, rfl, rfl, ho, ints_of_wellAll ns _ hall, hlen⟩

theorem post_true (l : OpenLaw) (args : List WData) : l.row.toRowW.claim.post args (.bool true) args = true :=
  postW_of (r := l.row.toRowW) (X := (true == true))
    (show WShape.has [] (.bool true) .bool = true by first | rfl | decide | simp [WShape.has, WShape.arms, WShape.armsAll])
    (show (WTm.eq .res (.lit (.bool true))).value [] { args := args, res := some (.bool true), after := args } = some (.bool (true == true)) from w_eq_bool (w_res rfl) w_lit) rfl

/-! ### the attachment: holds_open's last premise (the goal 'hc' behind k_head) from a wpAny of the law's body -/

/-- the same from a codeAny of the CALL (for a layer whose function contracts speak of calls) -/
theorem attach_call {l : OpenLaw} {n : Nat} {q : Program} {loose : List Str} {XP : (Str → Option Value) → Heap → Prop} {YP : World → Heap → Prop} {d : DefRec}
    (hn : l.most = some n) (hdf : d.params.defaults = [])
    (call : ∀ (w : World) (s₀ s₁ : Shared) (mg mb : Str → Option Value) (fa : Addr) (o : Obj) (pm cd doc : Value) (a : Addr) (vs : List Value) (ns : List Int),
      Ground q loose [] XP w s₀ mg mb s₁.heap → YP w s₁.heap →
      s₁.heap.get? fa = some o → o.data = .func (docDef d.name d.params d.body d.scope pm cd doc) → s₁.heap.CodeRec cd d.name → mg d.name = some (.ref fa) →
      s₁.heap.get? a = some { cls := .type "list", data := .seq vs.toArray } → IntsAre vs ns → ns.length ≤ n → s₁.gens = #[] →
      codeAny (model l.prog w) callerA (.call (.ref fa) ⟨[.ref a], []⟩) (fun r s' => r = .ok (.ret (.bool true)) ∧ OldK s₁.heap s'.heap ∧ s'.os = s₁.os ∧ AllBare s'.gens) s₁) :
    WalkO q loose XP YP l.row.toRowW d [] (fun f vs => PySem.call f vs) := by
  intro w s₀ s₁ mg mb G Y fa o pm cd doc dV kV ho hd hcd hD hmg hg args vals as hpre hlay hrd hwl hlo
  obtain rfl : dV = .none := Dflts.none hD hdf
  obtain rfl : kV = .none := Dflts.noKw hD
  obtain ⟨a, vs, ns, rfl, rfl, hobj, hints, hlen⟩ := script_of hn hpre hwl
  refine enter_call (codeAny_mono (call w s₀ s₁ mg mb fa o pm cd doc a vs ns G Y ho (fd_plain hd) hcd hmg hobj hints hlen hg) fun r s' hq => ?_)
  obtain ⟨rfl, h2, h3, h4⟩ := hq
  exact ⟨.inl ⟨.bool true, .bool true, [], rfl, fun _ => rfl, .bool true, post_true l _, fun _ => ⟨List.Pairwise.nil, fun _ hm => (nomatch hm)⟩⟩, h2, h3, h4⟩

/-- the same where the top left finished generators (o_head chose holds_openN): nothing may have changed at all and no generator may be left -/
theorem attachN {l : OpenLaw} {n : Nat} {q : Program} {loose : List Str} {XP : (Str → Option Value) → Heap → Prop} {YP : World → Heap → Prop} {d : DefRec} {x : Str}
    (hn : l.most = some n) (hdf : d.params.defaults = [])
    (hbind : ∀ pm cd doc v : Value, bindArgs (docDef d.name d.params d.body d.scope pm cd doc) ⟨[v], []⟩ = pure [(x, v)])
    (hx : d.scope.names.lookup x = some .local ∨ d.scope.names.lookup x = some .cell)
    (hk : d.scope.kind = .function) (hco : d.scope.isCoroutine = false) (hgen : d.scope.isGenerator = false)
    (body : ∀ (w : World) (s₀ s₁ s : Shared) (mg mb : Str → Option Value) (fa : Addr) (o : Obj) (pm cd doc : Value) (a : Addr) (vs : List Value) (ns : List Int),
      Ground q loose [] XP w s₀ mg mb s₁.heap → YP w s₁.heap →
      s₁.heap.get? fa = some o → o.data = .func (docDef d.name d.params d.body d.scope pm cd doc) → s₁.heap.CodeRec cd d.name → mg d.name = some (.ref fa) →
      s₁.heap.get? a = some { cls := .type "list", data := .seq vs.toArray } → IntsAre vs ns → ns.length ≤ n →
      s.gens = #[] → s.os = s₁.os →
      Fr s₁.heap s₁.heap.objs.size s.heap (bindL (envOfC d.name d.scope s₁.heap.objs.size fa cd).kindOf [(x, .ref a)] fun _ => none) →
      Cl s₁.heap.objs.size (cellsFrom (s₁.heap.objs.size + 1) d.scope.names []) s.heap (bindC (envOfC d.name d.scope s₁.heap.objs.size fa cd).kindOf [(x, .ref a)] fun _ => none) →
      wpAny (model l.prog w) (callerA.deeper (envOfC d.name d.scope s₁.heap.objs.size fa cd)) (execs d.body (envOfC d.name d.scope s₁.heap.objs.size fa cd))
        (fun f s' => f = .ret (.bool true) ∧ (∀ b o, s₁.heap.get? b = some o → s'.heap.get? b = some o) ∧ s'.os = s₁.os ∧ s'.gens = #[]) (fun _ _ => False) s) :
    WalkN q loose XP YP l.row.toRowW d [] (fun f vs => PySem.call f vs) := by
  intro w s₀ s₁ mg mb G Y fa o pm cd doc dV kV ho hd hcd hD hmg hg args vals as hpre hlay hrd hwl hlo
  obtain rfl : dV = .none := Dflts.none hD hdf
  obtain rfl : kV = .none := Dflts.noKw hD
  obtain ⟨a, vs, ns, rfl, rfl, hobj, hints, hlen⟩ := script_of hn hpre hwl
  refine enter_callW ?_
  refine call_cells_ret (o := o) (by rw [depth_caller]; decide) ho (fd_plain hd) G.T.nolimit hcd (hbind pm cd doc (.ref a)) (fun y hy => ?_) (fun h₁ tk F X => ?_) hco hgen hk
  · obtain rfl : y = (x, Value.ref a) := List.mem_singleton.mp hy
    rcases hx with e | e
    · exact .inl e
    · exact .inr ⟨e, cellsFrom_some _ _ _ (.inl e)⟩
  · refine wpAny_mono (body w s₀ s₁ { s₁ with heap := h₁, toks := tk } mg mb fa o pm cd doc a vs ns G Y ho (fd_plain hd) hcd hmg hobj hints hlen hg rfl F X) (fun f s' hq => ?_) (fun _ _ hq => hq)
    obtain ⟨rfl, h2, h3, h4⟩ := hq
    exact ⟨.inl ⟨.bool true, .bool true, [], rfl, fun _ => rfl, .bool true, post_true l _, fun _ => ⟨List.Pairwise.nil, fun _ hm => (nomatch hm)⟩⟩, h2, h3, h4⟩

/-! ### rules over ANY heap (no ledger) from facts about the written part K: the library's own take a ledger (News) for what they write -/
section
variable {prog : Program} {w : World} {A : Around} {E : Value → Shared → Prop} {s : Shared} {K : Frag}

/-- a def of the module, or a method (qual 'C.m'), entered: the frame is the next address; cells behind it -/
theorem call_fn {R : Result → Shared → Prop} {name qual : Str} {params : Arguments} {body : List Stmt} {scope : Scope} {dV kV doc pm cdv ct oc : Value} {an od : Option Addr} {osl : Array (Option Value)} {f : Addr} {args : Args} {binds : List (Str × Value)}
    (X : K.In s.heap) (hlim : s.heap.NoLimit) (ho : K.lookup f = some ⟨oc, od, .func (fnOf name qual params body scope dV kV doc pm an cdv ct), osl⟩) (hcd : codeIn K cdv qual = true) (hroom : A.depth < recursionLimit)
    (hbind : BindsTo s (fnOf name qual params body scope dV kV doc pm an cdv ct) args binds)
    (hkind : (binds.all fun y => scope.names.lookup y.1 == some .local || scope.names.lookup y.1 == some .cell) = true)
    (h : ∀ s₁, InCallC s s.heap.objs.size (bindL (envOfC qual scope s.heap.objs.size f cdv).kindOf binds fun _ => none) (cellsFrom (s.heap.objs.size + 1) scope.names [])
        (bindC (envOfC qual scope s.heap.objs.size f cdv).kindOf binds fun _ => none) s₁ →
      wpAny (model prog w) (A.deeper (envOfC qual scope s.heap.objs.size f cdv)) (execs body (envOfC qual scope s.heap.objs.size f cdv))
        (fun fl s' => R (.ok (.ret (match fl with | .ret v => v | _ => .none))) s')
        (fun e s' => wpAny (model prog w) (A.deeper (envOfC qual scope s.heap.objs.size f cdv)) (leaving (envOfC qual scope s.heap.objs.size f cdv) e) (fun _ s'' => R (.error e) s'') (fun e' s'' => R (.error e') s'') s') s₁)
    (hco : scope.isCoroutine = false) (hgen : scope.isGenerator = false) (hk : scope.kind = .function) : codeAny (model prog w) A (.call (.ref f) args) R s := by
  refine codeAny_call_function hroom (X _ _ ho) rfl hco hgen rfl (codeRec_of X hcd) (hbind _ _ _ _ ?_)
  refine wpAny_newFunctionEnv_cells hk (kindsX hkind _) fun env he s₁ x => ?_
  subst he
  exact ⟨hlim.keeps x.toInCall.keep, codeAny_func (h s₁ x)⟩

/-- C(..): dict at size, instance at size + 1, then __init__ -/
theorem make_obj {R : Result → Shared → Prop} {C fI : Addr} {rest : List Value} {kw : List (Str × Value)}
    (X : K.In s.heap) (hm : makesIn K C = true) (hi : findIn K (.ref C) "__init__" = some (some (.ref fI))) (hf : isFn K (.ref fI) = true)
    (h : codeAny (model prog w) (A.under (.builtin "type.__call__" ⟨.ref C :: rest, kw⟩)) (.call (.ref fI) ⟨.ref (s.heap.objs.size + 1) :: rest, kw⟩) (InitBack (s.heap.objs.size + 1) R)
      { s with heap := (s.heap.push emptyDict).push (instObj C s.heap.objs.size) }) : codeAny (model prog w) A (.call (.ref C) ⟨rest, kw⟩) R s := by
  obtain ⟨hh, g, d, t, os⟩ := s
  exact make_core (makes_of X hm) (looks_findIn X hi) (fun self => bind_fn X self (beq_iff_eq.mp hf)) (.inl rfl) h

/-- x.name where the instance's dict holds the name and the class does not -/
theorem get_field {x C : Addr} {ox : Obj} {es : List DictEntry} {n : Nat} {name : Str} {expr : Bool} {v : Value} {Q : Value → Shared → Prop}
    (X : K.In s.heap) (I : PySem.W.InstAt s.heap x ox C (some (dictOf es n))) (hg : plainGet K C name = true) (hh : hasDictIn K C = true) (ha : findIn K (.ref C) name = some none)
    (hl : getL name es = some (some v)) (hv : handedIn v = true) (h : Q v { s with toks := s.toks + 1 }) : wpAny (model prog w) A (getAttr (.ref x) name expr) Q E s :=
  get_value X I (plainGet_of hg).1 (findObj_own hh ha rfl hl) hv h

/-- x.m(..): the method found in the class -/
theorem get_method {x C f : Addr} {ox : Obj} {es : List DictEntry} {n : Nat} {name : Str} {pl : Sem Bool} {Q : Value × List Value → Shared → Prop}
    (X : K.In s.heap) (I : PySem.W.InstAt s.heap x ox C (some (dictOf es n))) (hg : plainGet K C name = true) (hf : findIn K (.ref C) name = some (some (.ref f))) (ht : isFn K (.ref f) = true)
    (hl : getL name es = some none) (h : Q (.ref f, [.ref x]) s) : wpAny (model prog w) A (getMethod (.ref x) name pl) Q E s :=
  method_fn X I (plainGet_of hg).1 (plainGet_of hg).2 hf (beq_iff_eq.mp ht) (by show (lookIn name (dictOf es n)).map _ = _; rw [lookIn_dict, hl]; rfl) h

/-! the whole heap as the ledger: makes every rule that writes through a ledger a rule over any heap -/
def noObjs (h : Heap) : Heap := { h with objs := #[] }
theorem noObjs_get (h : Heap) (b : Addr) : (noObjs h).get? b = none := by
  cases e : (noObjs h).get? b with
  | none => rfl
  | some o => exact absurd (Heap.lt_size e) (Nat.not_lt_zero _)
def ledger (h : Heap) (L d : Addr) : List (Addr × Obj) := (List.range h.objs.size).filterMap fun a => if a = L ∨ a = d then none else (h.get? a).map fun o => (a, o)
theorem mem_ledger {h : Heap} {L d a : Addr} {o : Obj} : (a, o) ∈ ledger h L d ↔ a ≠ L ∧ a ≠ d ∧ h.get? a = some o := by
  unfold ledger
  rw [List.mem_filterMap]
  constructor
  · rintro ⟨b, _, e⟩
    split at e
    · cases e
    · rename_i hb
      obtain ⟨o', ho, e'⟩ := Option.map_eq_some_iff.mp e
      cases e'
      exact ⟨fun q => hb (.inl q), fun q => hb (.inr q), ho⟩
  · rintro ⟨n1, n2, ho⟩
    refine ⟨a, List.mem_range.mpr (Heap.lt_size ho), ?_⟩
    rw [if_neg (show ¬ (a = L ∨ a = d) from fun q => q.elim n1 n2), ho] <;> rfl
theorem news_ledger {h : Heap} {L d : Addr} {od : Obj} (hne : d ≠ L) (ho : h.get? d = some od) : News (noObjs h) L h ([] ++ (d, od) :: ledger h L d) := by
  rintro ⟨a, o⟩ hp
  rcases List.mem_cons.mp hp with e | hp
  · cases e
    exact ⟨ho, hne, noObjs_get _ _⟩
  · obtain ⟨n1, n2, e⟩ := mem_ledger.mp hp
    exact ⟨e, n1, noObjs_get _ _⟩
theorem fr_all {h : Heap} {L : Addr} {m : Str → Option Value} (n : h.Ns L m) : Fr (noObjs h) L h m :=
  ⟨n, fun b o e => (by rw [noObjs_get] at e; cases e), Nat.zero_le _⟩
/-- Upd of the head entry (for append_K, setItem_K ..) -/
theorem upd_ledger {h : Heap} {L d : Addr} {o o' : Obj} : Upd d o o' ((d, o) :: ledger h L d) ((d, o') :: ledger h L d) :=
  .head fun ⟨_, _⟩ hp => (mem_ledger.mp hp).2.1

/-- x.name = v over any heap: L is any namespace of the heap (the frame's, say): its map stays, its object is not told; all else but the dict stays -/
theorem set_field {x C dx L : Addr} {ox : Obj} {m : Str → Option Value} {es es' : List DictEntry} {n n' : Nat} {name : Str} {v : Value} {Q : Unit → Shared → Prop}
    (X : K.In s.heap) (I : PySem.W.InstAt s.heap x ox C (some (dictOf es n))) (hd : ox.dict = some dx) (hL : s.heap.Ns L m) (hne : dx ≠ L)
    (hs : findIn K (.ref C) "__setattr__" = some (some (.builtin "object.__setattr__"))) (hp : plainOver K C = true) (ht : takerIn K C name = some none) (hh : hasDictIn K C = true) (hl : (getL name es).isSome = true)
    (e : (putL name (PyData.keyHash w.params name) (.str name (s.toks + 1)) v es, putN name es n) = (es', n')) (hz : es'.length ≤ 1000)
    (h : ∀ h' : Heap, h'.Ns L m → h'.get? dx = some (dictOf es' n') → (∀ b o, b ≠ dx → b ≠ L → s.heap.get? b = some o → h'.get? b = some o) → Q () { s with heap := h', toks := s.toks + 2 }) :
    wpAny (model prog w) A (setAttr (.ref x) name v) Q E s := by
  obtain ⟨e1, e2⟩ := Prod.mk.inj e
  have hdx : s.heap.get? dx = some (dictOf es n) := by
    have := I.dict
    rw [hd] at this
    exact this
  refine set_plain X I hs (osa_dict (s := { s with toks := s.toks + 1 }) (h₀ := noObjs s.heap) (L := L) (m := m) (od := dictOf es n) (od' := dictOf es' n') (es := es') (n := n') (pre := []) (post := ledger s.heap L dx)
    (fr_all hL) (news_ledger hne hdx) X I hd hp ht hh hl (fun _ q => nomatch q) (fun ⟨_, _⟩ q => (mem_ledger.mp q).2.1) (by rw [putName_dict, e1, e2]) rfl hz fun h' F' N' => ?_)
  exact h h' F'.ns (N'.get (List.Mem.head _)) fun b o n1 n2 ho => N'.get (List.Mem.tail _ (mem_ledger.mpr ⟨n2, n1, ho⟩))
end
end Att

namespace L2
open PySem PySem.Spec PyProof.Rows

theorem vals_ints : ∀ {vs : List Value} {ns : List Int}, IntsAre vs ns → Vals (ns.map V.int) vs
  | _, _, .nil => .nil
  | _, _, .cons n t h => .cons ⟨t, rfl⟩ (vals_ints h)

/-- nothing is tracked but the script, known to the object (or it is an object of the module) -/
def Only (H : Hp) : Prop := ∀ b, H b = none ∨ ∃ o xs, H b = some (.frz o (.lst xs))

/-- THE HEAD: the law's promise, at the heap behind the top. F, the promise of the law's def, may use that base is part of the heap (so K.In base, base.Ns mainGlobals mg stand in Mod) -/
theorem law_call {P : Program} {w : World} {K : PySem.W.Frag} {mg mb : Str → Option Value} {CX : CXT} {k : Nat} {fa a : Addr} {fd : FuncData} {x : Str} {sp : Sp} {s₁ : Shared} {vs : List Value} {ns : List Int}
    (KX : K.In s₁.heap) (hns : s₁.heap.Ns mainGlobals mg) (hb : s₁.heap.Ns builtinsNs mb) (hbb : ∀ x : Str, x ≠ "__name__" → mb x = bootBuiltins x) (hlim : s₁.heap.NoLimit) (hg : s₁.gens = #[])
    (ha : s₁.heap.get? a = some { cls := .type "list", data := .seq vs.toArray }) (hi : IntsAre vs ns) (hl : ns.length ≤ sizeLine) (hr : Room k callerA)
    (F : ∀ base : Heap, K.In base → base.Ns mainGlobals mg → FnOk P w K mg base CX k fa fd [x] sp) (hbind : ∀ (s : Shared) (u : Value), BindsTo s fd ⟨[u], []⟩ [(x, u)])
    (hsp : ∀ H : Hp, Only H → SqL K H a (ns.map V.int) → sp [.ref a] H (fun v _ => v = .bl true) fun _ _ _ => False)
    (hCX : ∀ H e s', CX [] H s₁ (fun _ _ _ => False) e s' → False) :
    codeAny (model P w) callerA (.call (.ref fa) ⟨[.ref a], []⟩) (fun r s' => r = .ok (.ret (.bool true)) ∧ OldK s₁.heap s'.heap ∧ s'.os = s₁.os ∧ AllBare s'.gens) s₁ := by
  have rv := vals_ints hi
  have lenV := hi.length
  -- from an abstract heap in which nothing but the script may be tracked
  have core : ∀ H : Hp, Only H → SqL K H a (ns.map V.int) → HOk P w H s₁.heap → (∀ b, H b ≠ none → b = a) → (H a ≠ none → K.lookup a = none) →
      codeAny (model P w) callerA (.call (.ref fa) ⟨[.ref a], []⟩) (fun r s' => r = .ok (.ret (.bool true)) ∧ OldK s₁.heap s'.heap ∧ s'.os = s₁.os ∧ AllBare s'.gens) s₁ := by
    intro H hO hS hok hA hK
    have base_of : ∀ {b : Addr} {o : Obj}, s₁.heap.get? b = some o → H b = none → (hidT s₁.heap H).get? b = some o := fun e n => hidT_get e n
    have noA : ∀ {b : Addr} {o : Obj} {es : Array DictEntry} {ep : Nat}, s₁.heap.get? b = some o → o.data = .dict es ep → H b = none := fun {b o es ep} e d => by
      cases q : H b with
      | none => rfl
      | some u =>
        have e' : b = a := hA b (by rw [q]; simp)
        subst e'
        rw [ha] at e; cases e
        have d' : Data.seq vs.toArray _ = Data.dict es ep := d
        cases d'
    have nsK : ∀ {b : Addr} {m : Str → Option Value}, s₁.heap.Ns b m → (hidT s₁.heap H).Ns b m := fun {b m} ⟨o, es, ep, e, d, r⟩ => ⟨o, es, ep, base_of e (noA e d), d, r⟩
    have hKb : K.In (hidT s₁.heap H) := fun b o e => base_of (KX b o e) (by
      cases q : H b with
      | none => rfl
      | some u =>
        have e' : b = a := hA b (by rw [q]; simp)
        subst e'
        rw [hK (by rw [q]; simp)] at e; cases e)
    have hM : Mod K mg (hidT s₁.heap H) := ⟨hKb, nsK hns, ⟨mb, nsK hb, hbb⟩, let ⟨mc, h1, h2⟩ := hlim; ⟨mc, nsK h1, h2⟩⟩
    have e0 : Env0 P w K mg (hidT s₁.heap H) callerA [] s₁ H := ⟨rfl, hM, fun b o e => of_hidT e, Nat.le_of_eq (hidT_size _ _), trivial, fun b hb => absurd (show b ∈ ([] : List Addr) from hb) (by simp), hok, .of_eq hg⟩
    refine codeAny_mono ((F _ hKb (nsK hns)).run callerA [] s₁ H ⟨[.ref a], []⟩ [.ref a] [.ref a] _ _ hr e0 (hbind s₁ (.ref a)) (.cons rfl .nil) (hsp H hO hS)) fun r s' h => ?_
    cases r with
    | error e => exact (hCX H e s' h).elim
    | ok fl =>
      cases fl with
      | next => exact False.elim h
      | brk => exact False.elim h
      | cont => exact False.elim h
      | ret u =>
        obtain ⟨v, H', os, bare, un, hok', r', q⟩ := h
        have q' : v = .bl true := q
        subst q'
        obtain rfl : u = Value.bool true := r'
        refine ⟨rfl, OldK.of_keep fun b o e => ?_, os, bare⟩
        cases q : H b with
        | none => exact un.keep b o e q (by intro z; exact absurd (show b ∈ ([] : List Addr) from z) (by simp)) (by simp)
        | some u =>
          rcases hO b with z | ⟨ob, xs, z⟩
          · rw [q] at z; cases z
          · have z2 := un.frzs b ob _ z
            obtain ⟨e1, _⟩ := hok b _ z
            obtain ⟨e2, _⟩ := hok' b _ z2
            rw [e] at e1; cases e1
            exact e2
  cases hk : K.lookup a with
  | some o =>
    -- the script is one of the module's own objects
    have e := KX a o hk
    rw [ha] at e
    cases e
    refine core (fun _ => none) (fun _ => .inl rfl) (.inr ⟨_, vs.toArray, _, hk, rfl, rfl, rfl, by rw [List.size_toArray, lenV]; exact hl, by simpa using rv⟩) (fun b u z => by have z' : (none : Option HO) = some u := z; cases z') (fun b z => absurd rfl z) fun z => absurd rfl z
  | none =>
    refine core (fun b => if b = a then some (.frz { cls := .type "list", data := .seq vs.toArray } (.lst (ns.map V.int))) else none) (fun b => ?_) (.inl (.inr ⟨{ cls := .type "list", data := .seq vs.toArray }, if_pos rfl⟩)) (fun b u z => ?_) (fun b z => ?_) fun _ => hk
    · by_cases hb : b = a
      · exact .inr ⟨_, _, if_pos hb⟩
      · exact .inl (if_neg hb)
    · by_cases hb : b = a
      · have z' := (if_pos hb).symm.trans z
        cases z'
        subst hb
        exact ⟨ha, by rw [List.length_map]; exact hl, vs, _, rv, ha⟩
      · have z' := (if_neg hb).symm.trans z
        cases z'
    · by_cases hb : b = a
      · exact hb
      · exact absurd (if_neg hb) z
end L2

namespace L2
open PySem PySem.Spec PyProof.Rows

abbrev KOf {K : PySem.W.Frag} {h : Heap} (_ : K.In h) : PySem.W.Frag := K

/-- the goal that k_head leaves (case hc), from the law's promise. F gives the function object fd (K's own) once, then the promise over every base -/
theorem walk_of {l : PySem.W.OpenLaw} {n k : Nat} {q : Program} {loose : List Str} {XP : (Str → Option Value) → Heap → Prop} {YP : World → Heap → Prop} {d : DefRec} {K : Params → PySem.W.Frag} {CX : World → CXT} {sp : World → Sp} {x : Str}
    (hn : l.most = some n) (hn2 : n ≤ sizeLine) (hdf : d.params.defaults = []) (hr : Room k callerA)
    (hY : ∀ (w : World) (h : Heap), YP w h → (K w.params).In h)
    (F : ∀ (w : World) (mg : Str → Option Value) (fa : Addr) (h : Heap), (K w.params).In h → h.Ns mainGlobals mg → mg d.name = some (.ref fa) →
      ∃ fd : FuncData, (∀ (s : Shared) (u : Value), BindsTo s fd ⟨[u], []⟩ [(x, u)]) ∧
        ∀ base : Heap, (K w.params).In base → base.Ns mainGlobals mg → FnOk l.prog w (K w.params) mg base (CX w) k fa fd [x] (sp w))
    (hsp : ∀ (w : World) (H : Hp) (a : Addr) (ns : List Int), ns.length ≤ n → Only H → SqL (K w.params) H a (ns.map V.int) → sp w [.ref a] H (fun v _ => v = .bl true) fun _ _ _ => False)
    (hCX : ∀ (w : World) (H : Hp) (s : Shared) (e : Value) (s' : Shared), CX w [] H s (fun _ _ _ => False) e s' → False) :
    PySem.W.WalkO q loose XP YP l.row.toRowW d [] (fun f vs => PySem.call f vs) := by
  refine Att.attach_call hn hdf fun w s₀ s₁ mg mb fa o pm cd doc a vs ns G Y ho hd hcd hmg hobj hints hlen hg => ?_
  have KX := hY w _ Y
  obtain ⟨fd, hb, hF⟩ := F w mg fa _ KX G.T.g hmg
  exact law_call KX G.T.g G.T.b G.T.builtins G.T.nolimit hg hobj hints (Nat.le_trans hlen hn2) hr hF hb (fun H hO hS => hsp w H a ns hlen hO hS) fun H e s' => hCX w H s₁ e s'
/-- the same where the promise hangs on the written part alone: (sp := My.sp_law), no hole under a binder -/
theorem walk_ofK {l : PySem.W.OpenLaw} {n k : Nat} {q : Program} {loose : List Str} {XP : (Str → Option Value) → Heap → Prop} {YP : World → Heap → Prop} {d : DefRec} {K : Params → PySem.W.Frag} {CX : CXT} {sp : PySem.W.Frag → Sp} {x : Str}
    (hn : l.most = some n) (hn2 : n ≤ sizeLine) (hdf : d.params.defaults = []) (hr : Room k callerA)
    (hY : ∀ (w : World) (h : Heap), YP w h → (K w.params).In h)
    (F : ∀ (w : World) (mg : Str → Option Value) (fa : Addr) (h : Heap), (K w.params).In h → h.Ns mainGlobals mg → mg d.name = some (.ref fa) →
      ∃ fd : FuncData, (∀ (s : Shared) (u : Value), BindsTo s fd ⟨[u], []⟩ [(x, u)]) ∧
        ∀ base : Heap, (K w.params).In base → base.Ns mainGlobals mg → FnOk l.prog w (K w.params) mg base CX k fa fd [x] (sp (K w.params)))
    (hsp : ∀ (K : PySem.W.Frag) (H : Hp) (a : Addr) (ns : List Int), ns.length ≤ n → Only H → SqL K H a (ns.map V.int) → sp K [.ref a] H (fun v _ => v = .bl true) fun _ _ _ => False)
    (hCX : ∀ (H : Hp) (s : Shared) (e : Value) (s' : Shared), CX [] H s (fun _ _ _ => False) e s' → False) :
    PySem.W.WalkO q loose XP YP l.row.toRowW d [] (fun f vs => PySem.call f vs) :=
  walk_of (K := K) (CX := fun _ => CX) (sp := fun w => sp (K w.params)) hn hn2 hdf hr hY F (fun w H a ns h1 h2 h3 => hsp (K w.params) H a ns h1 h2 h3) fun _ H s e s' => hCX H s e s'
end L2

/- THE LAST THEOREM (shape; LID, My.* are yours):
   My.Adr: a structure of the addresses that your layer names (classes, functions); My.Txt K t: a structure (Prop) of the equations over K;
   My.txt_mk : {K} {implicit addresses ..} (e1 : nsIn K mainGlobals "law" = some (some (.ref f))) (e2 : K.lookup f = some ⟨oc, od, .func (fnOf "law" "law" params body scope dV kV doc pm an cdv ct), sl⟩) (e3 : codeIn K cdv "law" = true) .. : ∃ t, My.Txt K t

set_option maxRecDepth 100000 in
set_option maxHeartbeats 0 in
theorem PySem.Challenge.cw_LID_holds : PySem.Challenge.rw_LID.Holds := by
  w_on; o_law; k_head; (case hw => w_witness2)
  k_fill
  refine L2.walk_of (l := PySem.Challenge.rw_LID) (n := 63) (k := 40) (x := "script") (CX := fun w => ..) (sp := fun _ => My.sp_law) rfl (by decide) rfl ⟨rfl, by decide, by decide⟩ (fun w h Y => PySem.W.kIn_of Y) ?F ?S ?C
  case F =>
    intro w mg fa h KX G hmg
    have T : ∃ t, My.Txt (L2.KOf KX) t := by
      dsimp only [L2.KOf]                          -- K must stand as «<heap const> w.params» for k_is
      refine' My.txt_mk ?e1 ?e2 ?e3 ..
      (case e1 => PySem.W.k_is)                    -- in the order: a name -> its address -> its object -> its parts
      (case e2 => PySem.W.k_is)
      ..
    obtain ⟨t, T⟩ := T
    have e0 := hmg.symm.trans (PySem.W.mg_of KX G T.law)
    cases e0                                       -- fa is the law's own address
    exact ⟨_, fun s u => .of_eq rfl, fun base kb nb => My.law_fn T kb nb⟩     -- if «.of_eq rfl» comes too early: refine' ⟨_, ?b, fun base kb nb => My.law_fn T kb nb⟩; exact fun s u => .of_eq rfl
  case S => exact fun w H a ns hl hO hS => ..
  case C => exact ..
(the tactic k_is has no namespace: write k_is) -/

/-! SHORT WORDS over the layer: a def of the text, its body, what a loop and a test want. -/
namespace L2
open PySem PySem.Spec PyProof.Rows

/-! ### the text by places -/
/-- the j-th statement of a class's body -/
def inClass (s : Stmt) (j : Nat) : Stmt := match s with
  | .ClassDef _ _ _ body _ _ _ _ _ _ _ => body.getD j (.Pass ⟨0, 0, 0, 0⟩)
  | _ => .Pass ⟨0, 0, 0, 0⟩
def defArgs (s : Stmt) : Arguments := match s with
  | .FunctionDef _ a _ _ _ _ _ _ _ _ => a
  | _ => { posonlyargs := [], args := [], vararg := none, kwonlyargs := [], kw_defaults := [], kwarg := none, defaults := [] }
def defBody (s : Stmt) : List Stmt := match s with
  | .FunctionDef _ _ b _ _ _ _ _ _ _ => b
  | _ => []
def defScope (s : Stmt) : Scope := match s with
  | .FunctionDef _ _ _ _ _ _ sc _ _ _ => sc
  | _ => { kind := .function, names := [], isGenerator := false, isCoroutine := false }

/-! ### no exception leaves a def -/
abbrev CX0 : CXT := fun _ _ _ _ _ _ => False
abbrev E0 : XK := fun _ _ _ => False

/-! ### a def (or method) of the text as it stands behind the top -/
structure Fun (K : PySem.W.Frag) (x qual : Str) (st : Stmt) (f : Addr) (fd : FuncData) : Prop where
  ex : ∃ (oc : Value) (od : Option Addr) (kV doc pm : Value) (an : Option Addr) (cdv ct : Value) (osl : Array (Option Value)),
    fd = PySem.W.fnOf x qual (defArgs st) (defBody st) (defScope st) .none kV doc pm an cdv ct ∧ K.lookup f = some ⟨oc, od, .func fd, osl⟩ ∧ PySem.W.codeIn K cdv qual = true
  kp : PySem.W.keepIn K (.ref f) = true
section
variable {P : Program} {w : World} {K : PySem.W.Frag} {mg : Str → Option Value} {base : Heap}
/-- THE RULE for a def: its body as a term of rules, and the reading of that term -/
theorem Fun.ok {x qual : Str} {st : Stmt} {f : Addr} {fd : FuncData} {N ps : List Str} {k : Nat} {sp : Sp} (F : Fun K x qual st f fd) (S : FnScope N ps (defScope st)) (len : ∀ vs H Q E, sp vs H Q E → vs.length = ps.length)
    (hbody : ∀ (cdv : Value) (A : Around) (outer : List Env) (s : Shared) (H : Hp) (vs : List V) (Q : VK) (E : XK), Room k (A.deeper (envOfC qual (defScope st) s.heap.objs.size f cdv)) → sp vs H Q E →
      ∃ t, PSs (cxOf CX0 P w K mg base N qual (defScope st) f cdv A outer s H E).nox (defBody st) t ∧ t { nx := fun _ H' => Q .non H', rt := Q } (start N vs) H) : FnOk P w K mg base CX0 (k + 1) f fd ps sp := by
  obtain ⟨oc, od, kV, doc, pm, an, cdv, ct, osl, rfl, lk, hcd⟩ := F.ex
  refine fn_of lk hcd S len fun A outer s H vs Q E hr hsp => ?_
  obtain ⟨t, h, q⟩ := hbody cdv A outer s H vs Q E hr hsp
  exact ⟨t, h.nox, q⟩
/-- how its arguments bind (no defaults): h is «fun _ _ _ _ _ _ us hl => match us, hl with | [_, _], _ => rfl», one _ a parameter -/
theorem Fun.binds {x qual : Str} {st : Stmt} {f : Addr} {fd : FuncData} {ps : List Str} (F : Fun K x qual st f fd)
    (h : ∀ (kV doc pm : Value) (an : Option Addr) (cdv ct : Value) (us : List Value), us.length = ps.length → bindArgs (PySem.W.fnOf x qual (defArgs st) (defBody st) (defScope st) .none kV doc pm an cdv ct) ⟨us, []⟩ = pure (ps.zip us)) : Binds K fd ps [] := by
  obtain ⟨oc, od, kV, doc, pm, an, cdv, ct, osl, rfl, lk, hcd⟩ := F.ex
  exact .all (h kV doc pm an cdv ct)
theorem fun_mk {x qual : Str} {st : Stmt} {f : Addr} {oc : Value} {od an : Option Addr} {osl : Array (Option Value)} {kV doc pm cdv ct : Value} (l : K.lookup f = some ⟨oc, od, .func (PySem.W.fnOf x qual (defArgs st) (defBody st) (defScope st) .none kV doc pm an cdv ct), osl⟩)
    (c : PySem.W.codeIn K cdv qual = true) (k : PySem.W.keepIn K (.ref f) = true) : Fun K x qual st f (PySem.W.fnOf x qual (defArgs st) (defBody st) (defScope st) .none kV doc pm an cdv ct) := ⟨⟨oc, od, kV, doc, pm, an, cdv, ct, osl, rfl, l, c⟩, k⟩
end

/-! ### expressions in short: the name that stands in the i-th slot -/
section
variable {X : Cx}
theorem pv (i : Nat) {x : Str} {pos : Pos} (hN : X.N[i]? = some x := by rfl) (hv : Vis X.env.scope x := by first | exact Or.inl rfl | exact Or.inr (Or.inl rfl) | exact Or.inr (Or.inr rfl)) (hd : (x == ("__debug__" : Str)) = false := by decide)
    (hcd : (x == ("__classdict__" : Str)) = false := by decide) : PE X (.Name x pos) (tVar i) := pe_var hN hv hd hcd
/-- len of a dict -/
theorem call_lenD : CallR X (.builtin "len") (fun xs H Q => ∃ a kvs, xs = [V.ref a] ∧ H a = some (.dK kvs) ∧ Q (.int kvs.length) H) := by
  intro pins s σ H xs us Q I r h
  obtain ⟨a, kvs, rfl, ha, q⟩ := h
  obtain ⟨u, rfl, ru⟩ := vals1 r
  cases ru
  exact d_len I (.inl ha) fun t s' I' => ⟨.int kvs.length, H, I', ⟨t, rfl⟩, q⟩
end

/-! ### tests -/
theorem iteF {A B : Prop} (h : B) : if false = true then A else B := by
  rw [if_neg Bool.false_ne_true]
  exact h
theorem iteT {A B : Prop} (h : A) : if true = true then A else B := by
  rw [if_pos rfl]
  exact h

/-! ### heaps -/
/-- all that was tracked is as it was -/
def Same (H H' : Hp) : Prop := ∀ b o, H b = some o → H' b = some o
theorem Same.refl (H : Hp) : Same H H := fun _ _ h => h
theorem Same.trans {H H1 H2 : Hp} (a : Same H H1) (b : Same H1 H2) : Same H H2 := fun c o h => b c o (a c o h)
theorem Same.seq {K : PySem.W.Frag} {H H' : Hp} {a : Addr} {xs : List V} (e : Same H H') (h : SqL K H a xs) : SqL K H' a xs := by
  rcases h with (h | ⟨o, h⟩) | h
  · exact .inl (.inl (e _ _ h))
  · exact .inl (.inr ⟨o, e _ _ h⟩)
  · exact .inr h

/-! ### a dict's pairs: keys that differ -/
section
variable {κ : Type} [DecidableEq κ]
theorem valV_not {kvs : List (κ × V)} {k : κ} (h : valV kvs k = none) : ¬ k ∈ kvs.map (·.1) := by
  intro m
  obtain ⟨p, hp, e⟩ := List.mem_map.mp m
  have q : (kvs.any fun kv => decide (kv.1 = k)) = true := List.any_eq_true.mpr ⟨p, hp, decide_eq_true e⟩
  rw [valV_any, h] at q
  exact absurd q (by simp)
theorem dropK_pos {p : κ × V} {r : List (κ × V)} {k : κ} (e : p.1 = k) : dropK (p :: r) k = dropK r k := by
  unfold dropK
  rw [List.filter_cons, if_neg (by simp [e])]
theorem dropK_neg {p : κ × V} {r : List (κ × V)} {k : κ} (e : ¬ p.1 = k) : dropK (p :: r) k = p :: dropK r k := by
  unfold dropK
  rw [List.filter_cons, if_pos (by simp [e])]
theorem dropK_no : ∀ {kvs : List (κ × V)} {k : κ}, ¬ k ∈ kvs.map (·.1) → dropK kvs k = kvs
  | [], _, _ => rfl
  | p :: r, k, h => by
    have h' : ¬ k ∈ r.map (·.1) := fun m => by
      obtain ⟨q, hq, e⟩ := List.mem_map.mp m
      exact h (List.mem_map.mpr ⟨q, List.mem_cons.mpr (Or.inr hq), e⟩)
    rw [dropK_neg fun e => h (List.mem_map.mpr ⟨p, List.mem_cons.mpr (Or.inl rfl), e⟩), dropK_no h']
end
end L2
end
section
set_option Elab.async false
set_option linter.all false
set_option maxRecDepth 100000
namespace L2
open PySem PySem.Spec PyProof.Rows
/-! ### an exception over the frames l, with what its last record says (fl); H, s: ahead of the call that raised -/
def FlyB (B : Heap) (l : List Env) (e : Addr) (cls a0 fl : Value) (h : Heap) : Prop := B.StaysIn h ∧ B.get? e = none ∧ h.FunFrames B l ∧ h.TracedAtW B e cls a0 fl
structure Fly (P : Program) (w : World) (l : List Env) (H H' : Hp) (s s' : Shared) (e : Addr) (cls fl : Value) : Prop where
  os : s'.os = s.os
  bare : AllBare s'.gens
  fr : ∀ b o, s.heap.get? b = some o → H b = none → H' b = none
  tups : ∀ b xs, H b = some (.tup xs) → H' b = some (.tup xs)
  frzs : ∀ b o u, H b = some (.frz o u) → H' b = some (.frz o u)
  tbls : ∀ b ps, H b = some (.tbl ps) → ∃ more, H' b = some (.tbl (ps ++ more))
  sl : ∀ b o, s.heap.get? b = some o → b ∈ frs l → ∃ sl, s'.heap.get? b = some { o with slots := sl }
  fly : ∃ B a0, FlyB B l e cls a0 fl s'.heap ∧ HOk P w H' B ∧ (∀ b o, s.heap.get? b = some o → H b = none → b ∉ frs l → B.get? b = some o) ∧ ∀ b o, s.heap.get? b = some o → b ∉ frs l → ∃ o', B.get? b = some o'
section
variable {P : Program} {w : World} {l : List Env} {H H' : Hp} {s s' : Shared} {e : Addr} {cls fl : Value}
theorem Fly.un (F : Fly P w l H H' s s' e cls fl) : Un (frs l) [] H H' s.heap s'.heap := by
  obtain ⟨B, a0, fl, hk, kp, th⟩ := F.fly
  refine ⟨fun b o q n hb _ => fl.1 _ _ (kp b o q n hb), fun b o q n hb _ => F.sl b o q hb, fun b o q n _ => F.fr b o q n, fun b o q _ => ?_, F.tups, F.frzs, F.tbls⟩
  by_cases hb : b ∈ frs l
  · obtain ⟨sl, z⟩ := F.sl b o q hb
    exact ⟨_, z⟩
  · obtain ⟨o', z⟩ := th b o q hb
    exact ⟨o', fl.1 _ _ z⟩
theorem Fly.hok (F : Fly P w l H H' s s' e cls fl) : HOk P w H' s'.heap := by
  obtain ⟨B, a0, fl, hk, _⟩ := F.fly
  exact hk.kept fun b o q => fl.1 b o q
theorem slot_on {h h' : Heap} {B : Heap} {l : List Env} (fl : h.FunFrames B l) (u : h.UpToSlots h') {b : Addr} {o : Obj} {sl : Array (Option Value)} (hb : b ∈ frs l) (e : h.get? b = some { o with slots := sl }) : ∃ sl', h'.get? b = some { o with slots := sl' } := by
  obtain ⟨_, o', ho, hd⟩ := fl.mem hb
  rw [e] at ho; cases ho
  obtain ⟨sl', z⟩ := u b _ e hd
  exact ⟨sl', z⟩
/-- a step of the flight -/
theorem Fly.go (F : Fly P w l H H' s s' e cls fl) : ∃ B a0, FlyB B l e cls a0 fl s'.heap ∧ ∀ h' fl', FlyB B l e cls a0 fl' h' → s'.heap.UpToSlots h' → Fly P w l H H' s { s' with heap := h' } e cls fl' := by
  obtain ⟨B, a0, fl, hk, kp, th⟩ := F.fly
  refine ⟨B, a0, fl, fun h' fl' f' up => ⟨F.os, F.bare, F.fr, F.tups, F.frzs, F.tbls, fun b o q hb => ?_, B, a0, f', hk, kp, th⟩⟩
  obtain ⟨sl, z⟩ := F.sl b o q hb
  exact slot_on (o := o) fl.2.2.1 up hb z
/-- the frame goes -/
theorem Fly.drop {env : Env} {outer : List Env} {L : Addr} {H₀ : Hp} {s₀ : Shared} (F : Fly P w (env :: outer) H H' s s' e cls fl) (hf : env.frame = some L)
    (hL : s₀.heap.objs.size ≤ L) (ho : s.os = s₀.os) (U : Un (frs outer) [] H₀ H s₀.heap s.heap) (hn : ∀ b ∈ frs outer, H₀ b = none) : Fly P w outer H₀ H' s₀ s' e cls fl := by
  obtain ⟨B, a0, ⟨f1, f2, ⟨_, _, f3⟩, f4⟩, hk, kp, th⟩ := F.fly
  have sub : ∀ b, b ∈ frs (env :: outer) → b = L ∨ b ∈ frs outer := fun b hb => by
    unfold frs at hb
    rw [List.filterMap_cons, hf] at hb
    exact List.mem_cons.mp hb
  have sup : ∀ b, b ∈ frs outer → b ∈ frs (env :: outer) := fun b hb => by
    unfold frs
    rw [List.filterMap_cons, hf]
    exact List.mem_cons_of_mem _ hb
  have old : ∀ b o, s₀.heap.get? b = some o → b ∉ frs outer → b ∉ frs (env :: outer) := fun b o q hb z => by
    rcases sub b z with rfl | z
    · exact absurd (Nat.lt_of_lt_of_le (Heap.lt_size q) hL) (Nat.lt_irrefl _)
    · exact hb z
  have nx : ∀ b, b ∉ ([] : List Addr) := fun b => by simp
  refine ⟨F.os.trans ho, F.bare, fun b o q n => ?_, fun b xs q => F.tups b xs (U.tups b xs q), fun b o u q => F.frzs b o u (U.frzs b o u q), fun b ps q => ?_, fun b o q hb => ?_, B, a0, ⟨f1, f2, f3, f4⟩, hk, fun b o q n hb => ?_, fun b o q hb => ?_⟩
  · obtain ⟨o', z⟩ := U.there b o q (nx b)
    exact F.fr b o' z (U.free b o q n (nx b))
  · obtain ⟨m1, z1⟩ := U.tbls b ps q
    obtain ⟨m2, z2⟩ := F.tbls b _ z1
    exact ⟨m1 ++ m2, by rw [z2, Array.append_assoc]⟩
  · obtain ⟨sl, z⟩ := U.slot b o q (hn b hb) hb (nx b)
    obtain ⟨sl', z'⟩ := F.sl b _ z (sup b hb)
    exact ⟨sl', z'⟩
  · exact kp b o (U.keep b o q n hb (nx b)) (U.free b o q n (nx b)) (old b o q hb)
  · obtain ⟨o', z⟩ := U.there b o q (nx b)
    exact th b o' z (old b o q hb)
theorem hok_hide {P : Program} {w : World} {H : Hp} {h : Heap} {l : List Addr} (x : HOk P w H h) (hl : ∀ b ∈ l, H b = none) : HOk P w H (PySem.W.hideAll h l) := fun a o e =>
  (x a o e).stay (fun b u hb q => PySem.W.hideAll_get _ q fun hm => by
    have n := hl b hm
    rcases hb with rfl | hb
    · rw [e] at n; cases n
    · rw [hb] at n; cases n) (fun _ q => q) fun _ _ q => q
/-! the steps of the machine -/
section
variable {M : Model} {A : Around} {E : Value → Shared → Prop} {Q : Unit → Shared → Prop} {env : Env} {outer : List Env} {L : Addr}
theorem fly_land (F : Fly P w l H H' s s' e cls fl) (hQ : ∀ h', Fly P w l H H' s { s' with heap := h' } e cls .none → Q () { s' with heap := h' }) : wpAny M A (setFlight (.ref e) none) Q E s' := by
  obtain ⟨B, a0, ⟨f1, f2, f3, f4⟩, go⟩ := F.go
  exact wpAny_setFlight_noneW f1 f3 f4 fun h' k1 k2 k3 k4 => hQ h' (go h' _ ⟨k1, f2, k2, k3⟩ fun b o hb hn => ⟨o.slots, k4 b o hb hn⟩)
theorem fly_take (F : Fly P w l H H' s s' e cls fl) (hQ : ∀ h', Fly P w l H H' s { s' with heap := h' } e cls (rawInt L) → Q () { s' with heap := h' }) : wpAny M A (setFlight (.ref e) (some L)) Q E s' := by
  obtain ⟨B, a0, ⟨hkb, hen, hl, oe, vs, T, oT, ts, he, hcls, hd, h1, hnT, hTe, hT, hdT, h3⟩, go⟩ := F.go
  have hsz3 : 3 < ts.size := (Array.getElem?_eq_some_iff.mp h3).1
  have other : ∀ b, b ≠ T → (s'.heap.update T (Obj.mapFields (·.setIfInBounds 3 ((some L).elim Value.none fun f => rawInt f)))).get? b = s'.heap.get? b :=
    fun b hb => Heap.get?_update_other _ _ (Ne.symm hb)
  have noRecord : ∀ b o, s'.heap.get? b = some o → (∀ vs, o.data ≠ .fields vs) → b ≠ T := fun b o hb hnf q => by
    rw [q, hT] at hb; injection hb with hb; subst hb; exact hnf ts hdT
  unfold setFlight
  refine wpAny_bind (wpAny_field he hd h1 ?_)
  rw [if_pos (show (Value.ref T != Value.none) = true from by simp)]
  refine wpAny_setField hT hdT hsz3 (hQ _ (go _ _ ⟨fun b o hbo => (other b fun q => by rw [q, hnT] at hbo; cases hbo).trans (hkb b o hbo), hen,
    hl.of_keeps fun b o hb hnf => ⟨o, (other b (noRecord b o hb hnf)).trans hb, rfl⟩, ?_⟩ fun b o hb hnf => ⟨o.slots, (other b (noRecord b o hb hnf)).trans hb⟩))
  exact ⟨oe, vs, T, _, _, (other e (Ne.symm hTe)).trans he, hcls, hd, h1, hnT, hTe, Heap.get?_update_self _ hT (Obj.isFreed_of_fields (Obj.data_mapFields hdT _)), Obj.data_mapFields hdT _, by simp [hsz3]⟩
theorem fly_note (hfr : A.frames = some (env :: outer)) (hf : env.frame = some L) (F : Fly P w (env :: outer) H H' s s' e cls .none)
    (hQ : ∀ h', Fly P w (env :: outer) H H' s { s' with heap := h' } e cls (rawInt L) → Q () { s' with heap := h' }) : wpAny M A (noteFrame (.ref e) env) Q E s' := by
  obtain ⟨B, a0, ⟨f1, f2, f3, f4⟩, go⟩ := F.go
  exact wpAny_noteFrame_onW hfr f3 hf f4 f1 f2 fun h' ⟨k1, k2, k3, k4⟩ => hQ h' (go h' _ ⟨k1, f2, k2, k3⟩ k4)
theorem fly_again (hf : env.frame = some L) (F : Fly P w l H H' s s' e cls (rawInt L)) (hQ : Q () s') : wpAny M A (noteFrame (.ref e) env) Q E s' := by
  obtain ⟨B, a0, ⟨f1, f2, f3, f4⟩, go⟩ := F.go
  exact wpAny_noteFrame_againW hf f4 hQ
theorem fly_field1 (F : Fly P w l H H' s s' e cls fl) {R : Value → Shared → Prop} (hQ : ∀ T : Addr, R (.ref T) s') : wpAny M A (field (.ref e) 1) R E s' := by
  obtain ⟨B, a0, ⟨hkb, hen, hl, oe, vs, T, oT, ts, he, hcls, hd, h1, _⟩, _⟩ := F.go
  exact wpAny_field he hd h1 (hQ T)
end
end
/-- how an exception lies behind a call -/
def CXE (P : Program) (w : World) : CXT := fun outer H s E e s' => ∃ (a : Addr) (cls : Value) (H' : Hp), e = .ref a ∧ Fly P w outer H H' s s' a cls .none ∧ E cls none H'
/-! ### an exception in this body's frame: just made, come from a callee, or noted here -/
def AtX (X : Cx) (pins : List (Addr × Obj)) (σ : St) (H' : Hp) (s' : Shared) (e : Addr) (cls : Value) : Prop :=
  (∃ s args, Inv X pins σ H' s ∧ Heap.MadeExcOf s.heap s'.heap e cls args ∧ s' = { s with heap := s'.heap }) ∨
  ∃ H s fl, Inv X pins σ H s ∧ Fly X.prog X.w X.stack H H' s s' e cls fl ∧ (fl = .none ∨ fl = rawInt X.env.locals)
/-- a body's own context: its frame is the top of the stack -/
structure Own (X : Cx) : Prop where
  stk : X.stack = X.env :: X.outer
  fra : X.env.frame = some X.env.locals
  ex : X.ex = []
section
variable {X : Cx} {pins : List (Addr × Obj)} {σ : St} {H' : Hp} {s' : Shared} {e : Addr} {cls : Value}
theorem made_note {M : Model} {A : Around} {E : Value → Shared → Prop} {Q : Unit → Shared → Prop} (O : Own X) (hfr : A.frames = some X.stack) {s : Shared} {args : List Value} (I : Inv X pins σ H' s) (mk : Heap.MadeExcOf s.heap s'.heap e cls args) (es : s' = { s with heap := s'.heap })
    (hQ : ∀ h', Fly X.prog X.w X.stack H' H' s { s' with heap := h' } e cls (rawInt X.env.locals) → Q () { s' with heap := h' }) : wpAny M A (noteFrame (.ref e) X.env) Q E s' := by
  have hst := I.stack
  have hfree := I.stkFree
  have hin : ∀ env ∈ X.stack, ∀ a, env.frame = some a → a ∈ frs X.stack := fun env he a ha => List.mem_filterMap.mpr ⟨env, he, ha⟩
  obtain ⟨t, he, htn, ht⟩ := mk.there
  have FH := PySem.W.funFrames_hide (as := frs X.stack) hst hin
  have hen : (PySem.W.hideAll s.heap (frs X.stack)).get? e = none := by
    cases q : (PySem.W.hideAll s.heap (frs X.stack)).get? e with
    | none => rfl
    | some o => have := PySem.W.of_hideAll _ q; rw [mk.new] at this; cases this
  have os' : s'.os = s.os := by rw [es]
  have gs' : s'.gens = s.gens := by rw [es]
  unfold noteFrame
  simp only [O.fra]
  refine wpAny_bind (wpAny_field he rfl (x := Value.none) rfl ?_)
  rw [if_neg (by decide)]
  have FH' : s.heap.FunFrames (PySem.W.hideAll s.heap (frs X.stack)) (X.env :: X.outer) := by
    have z := O.stk
    rw [← z]
    exact FH
  rw [O.stk] at hfr
  refine wpAny_entryW (base := PySem.W.hideAll s.heap (frs X.stack)) (a0 := .ref t) hfr (FH'.of_keeps fun b o hb _ => ⟨o, mk.keeps b o hb, rfl⟩) O.fra he (fun b o z => mk.keeps b o (PySem.W.of_hideAll _ z)) hen rfl (by simp) rfl fun h2 hN => ?_
  obtain ⟨k1, k2, k3, k4⟩ := hN
  refine hQ h2 ⟨os', by rw [gs']; exact I.bare, fun b o z n => n, fun b xs q => q, fun b o u q => q, fun b ps q => ⟨#[], by rw [q]; simp⟩, fun b o z hb => ?_, _, _, ⟨k1, hen, (by have z := O.stk; rw [← z] at k2; exact k2), k3⟩, hok_hide I.hok hfree, fun b o z n hb => PySem.W.hideAll_get _ z hb, fun b o z hb => ⟨o, PySem.W.hideAll_get _ z hb⟩⟩
  obtain ⟨_, o', ho, hd⟩ := hst.mem hb
  rw [z] at ho; cases ho
  exact k4 b _ (mk.keeps _ _ z) hd
/-- noted in this frame -/
theorem at_note {M : Model} {A : Around} {E : Value → Shared → Prop} {Q : Unit → Shared → Prop} (O : Own X) (hfr : A.frames = some X.stack) (F : AtX X pins σ H' s' e cls)
    (hQ : ∀ H s h', Inv X pins σ H s → Fly X.prog X.w X.stack H H' s { s' with heap := h' } e cls (rawInt X.env.locals) → Q () { s' with heap := h' }) : wpAny M A (noteFrame (.ref e) X.env) Q E s' := by
  rcases F with ⟨s, args, I, mk, es⟩ | ⟨H, s, fl, I, F, rfl | rfl⟩
  · exact made_note O hfr I mk es fun h' F => hQ _ _ h' I F
  · rw [O.stk] at hfr F
    exact fly_note hfr O.fra F fun h' F' => hQ H s h' I (by rw [O.stk]; exact F')
  · refine fly_again O.fra F ?_
    have := hQ H s s'.heap I F
    exact this
/-- it leaves the frame -/
theorem at_leave {M : Model} {A : Around} {E : Value → Shared → Prop} {Q : Unit → Shared → Prop} (O : Own X) (hfr : A.frames = some X.stack) (F : AtX X pins σ H' s' e cls)
    (hQ : ∀ h', Fly X.prog X.w X.outer X.H₀ H' X.s₀ { s' with heap := h' } e cls .none → Q () { s' with heap := h' }) : wpAny M A (leaving X.env (.ref e)) Q E s' := by
  unfold leaving
  refine wpAny_bind (at_note O hfr F fun H s h' I F' => ?_)
  refine fly_land F' fun h2 F2 => hQ h2 ?_
  rw [O.stk] at F2
  have U := I.base
  rw [O.ex] at U
  exact F2.drop O.fra I.ok.above I.os U I.ok.frf
end
/-- the wish of a body: R of the class, the names' values, the heap -/
abbrev XC := Value → St → Hp → Prop
def XP (X : Cx) (R : XC) (e : Value) (s' : Shared) : Prop := ∃ (pins : List (Addr × Obj)) (a : Addr) (cls : Value) (σ : St) (H' : Hp), e = .ref a ∧ AtX X pins σ H' s' a cls ∧ R cls σ H'
section
variable {X : Cx} {R : XC}
/-- a loop's code passes it on -/
theorem AtX.frames {pins : List (Addr × Obj)} {σ : St} {H' : Hp} {s' : Shared} {e : Addr} {cls : Value} (F : AtX X pins σ H' s' e cls) : X.A.frames = some X.stack := by
  rcases F with ⟨s, args, I, _⟩ | ⟨H, s, fl, I, _⟩
  · exact I.ok.frames
  · exact I.ok.frames
theorem xp_own (O : Own X) : PassesOwn (model X.prog X.w) X.A X.env (XP X R) := by
  rintro _ s' ⟨pins, a, cls, σ, H', rfl, F, q⟩
  refine at_note O F.frames F fun H s h' I F' => ?_
  unfold cameBackBy
  refine wpAny_bind (fly_field1 F' fun T => ?_)
  rw [if_neg (show ¬ ((Value.ref T == Value.none) = true) from by simp)]
  rw [O.fra]
  exact fly_take F' fun h2 F2 => ⟨pins, a, cls, σ, H', rfl, .inr ⟨H, s, _, I, F2, .inr rfl⟩, q⟩
end
end L2
end
section
set_option Elab.async false
set_option linter.all false
set_option maxRecDepth 100000
namespace L2
open PySem PySem.Spec PyProof.Rows
/-! ### a body's context, its wish about exceptions by class and heap alone -/
abbrev Cx.bod (X : Cx) (E : XK) : Cx := X.wish (XP X fun c _ H => E c none H)
section
variable {X : Cx} {E E' : XK}
theorem own_cx {P : Program} {w : World} {K : PySem.W.Frag} {mg : Str → Option Value} {base : Heap} {N : List Str} {qual : Str} {scope : Scope} {f : Addr} {cd : Value} {A : Around} {outer : List Env} {s : Shared} {H : Hp} {CX : CXT} :
    Own (cxOf CX P w K mg base N qual scope f cd A outer s H E) := ⟨rfl, rfl, rfl⟩
theorem passB (hE : ∀ c o H, E' c o H → E c none H) : Passes (CXE X.prog X.w) (X.bod E) E' := by
  intro pins σ H1 s1 e s' I ⟨a, cls, H', he, F, q⟩
  exact ⟨pins, a, cls, σ, H', he, .inr ⟨H1, s1, .none, I.unwish, F, .inl rfl⟩, hE _ _ _ q⟩
theorem passS : Passes (CXE X.prog X.w) (X.bod E) (fun c _ H => E c none H) := passB fun _ _ _ q => q
theorem passN {X : Cx} {P : Program} {w : World} : Passes (CXE P w) X E0 := fun _ _ _ _ _ _ _ ⟨_, _, _, _, _, q⟩ => False.elim q
/-- what a raise in this body reaches -/
def Raises (X : Cx) (E : Value → Hp → Prop) : Prop := ∀ (pins : List (Addr × Obj)) (σ : St) (H : Hp) (s : Shared) (h' : Heap) (e : Addr) (cls : Value) (args : List Value), Inv X pins σ H s → Heap.MadeExcOf s.heap h' e cls args → E cls H → X.xe (.ref e) { s with heap := h' }
theorem raisesB : Raises (X.bod E) (fun c H => E c none H) := fun pins σ H s h' e cls args I mk q => ⟨pins, e, cls, σ, H, rfl, .inl ⟨s, args, I.unwish, mk, rfl⟩, q⟩
theorem ownB (O : Own X) : PassesOwn (model X.prog X.w) X.A X.env (X.bod E).xe := xp_own O
end
section
variable {P : Program} {w : World} {K : PySem.W.Frag} {mg : Str → Option Value} {base : Heap}
theorem PSs.leave {X : Cx} {E : XK} {st : List Stmt} {t : TS} (O : Own X) (hx : X.xe = fun e s' => wpAny (model X.prog X.w) X.A (leaving X.env e) (fun _ s'' => CXE X.prog X.w X.outer X.H₀ X.s₀ E e s'') (fun e' s'' => CXE X.prog X.w X.outer X.H₀ X.s₀ E e' s'') s')
    (h : PSs (X.bod E) st t) : PSs X st t := fun pins s σ H D I hw =>
  wpAny_mono (h pins s σ H D (I.wish _) hw) (fun _ _ q => q.unwish) fun e s' ⟨pins, a, cls, σ, H', he, F, q⟩ => by
    subst he
    rw [hx]
    exact at_leave O F.frames F fun h' F' => ⟨a, cls, H', rfl, F', q⟩
/-- a def by its body, exceptions let out -/
theorem Fun.okX {x qual : Str} {st : Stmt} {f : Addr} {fd : FuncData} {N ps : List Str} {k : Nat} {sp : Sp} (F : Fun K x qual st f fd) (S : FnScope N ps (defScope st)) (len : ∀ vs H Q E, sp vs H Q E → vs.length = ps.length)
    (hbody : ∀ (cdv : Value) (A : Around) (outer : List Env) (s : Shared) (H : Hp) (vs : List V) (Q : VK) (E : XK), Room k (A.deeper (envOfC qual (defScope st) s.heap.objs.size f cdv)) → sp vs H Q E →
      ∃ t, PSs ((cxOf (CXE P w) P w K mg base N qual (defScope st) f cdv A outer s H E).bod E) (defBody st) t ∧ t { nx := fun _ H' => Q .non H', rt := Q } (start N vs) H) : FnOk P w K mg base (CXE P w) (k + 1) f fd ps sp := by
  obtain ⟨oc, od, kV, doc, pm, an, cdv, ct, osl, rfl, lk, hcd⟩ := F.ex
  refine fn_of lk hcd S len fun A outer s H vs Q E hr hsp => ?_
  obtain ⟨t, h, q⟩ := hbody cdv A outer s H vs Q E hr hsp
  exact ⟨t, PSs.leave own_cx rfl h, q⟩
end
/-! ### own error classes under ValueError, without an __init__ -/
def nsOk (K : PySem.W.Frag) (N : Addr) : Bool := match K.lookup N with
  | some ⟨_, _, .dict es _, _⟩ => es.toList.all (fun e => match e.key with | .str _ _ => true | _ => false) && (es.toList.find? (·.key.isStr "__init__")).isNone
  | _ => false
theorem nsOk_ns {K : PySem.W.Frag} {h : Heap} {N : Addr} (X : K.In h) (e : nsOk K N = true) : ∃ m, h.Ns N m ∧ m "__init__" = none := by
  unfold nsOk at e
  split at e
  · rename_i c d es n sl q
    rw [Bool.and_eq_true] at e
    obtain ⟨e1, e2⟩ := e
    refine ⟨nsFind es, ⟨_, es, n, X _ _ q, rfl, fun en hen => ?_, fun _ => rfl⟩, ?_⟩
    · have z := List.all_eq_true.mp e1 en (by simpa using hen)
      split at z
      · rename_i a b hk
        exact ⟨a, b, hk⟩
      · cases z
    · unfold nsFind findBy
      rw [← Array.find?_toList]
      cases q2 : es.toList.find? (·.key.isStr "__init__") with
      | none => rfl
      | some v => rw [q2] at e2; cases e2
  · cases e
abbrev valBm : List Value := [.type "ValueError", .type "Exception", .type "BaseException", .type "object"]
def tailIn (K : PySem.W.Frag) : List Value → Bool
  | [] => false
  | v :: tl => (v :: tl == valBm) || (match v with
    | .ref a => (match K.lookup a with | some ⟨_, _, .cls cd, _⟩ => nsOk K cd.ns | _ => false) && tailIn K tl
    | _ => false)
theorem tailIn_own {K : PySem.W.Frag} {h : Heap} (X : K.In h) : ∀ {l : List Value}, tailIn K l = true → OwnTail h valBm l
  | [], e => by
    unfold tailIn at e
    cases e
  | v :: tl, e => by
    unfold tailIn at e
    rw [Bool.or_eq_true] at e
    rcases e with e | e
    · rw [beq_iff_eq.mp e]
      exact .base
    · split at e
      · rw [Bool.and_eq_true] at e
        obtain ⟨e1, e2⟩ := e
        split at e1
        · rename_i c d cd sl q
          obtain ⟨m, hn, hi⟩ := nsOk_ns X e1
          exact .own (X _ _ q) hn hi (tailIn_own X e2)
        · cases e1
      · cases e
/-- an own error class at C -/
def excIn (K : PySem.W.Frag) (C : Addr) : Bool := match K.lookup C with
  | some ⟨.type "type", _, .cls cd, sl⟩ => (match cd.mro, sl.toList with
    | .ref C' :: bm, [_, _, _, _, some (.builtin n), _] => C' == C && !cd.hasDel && n == "ValueError.__new__" && nsOk K cd.ns && tailIn K bm
    | _, _ => false)
  | _ => false
theorem excIn_own {K : PySem.W.Frag} {h : Heap} {C : Addr} {x : Str} {mg : Str → Option Value} (X : K.In h) (hm : mg x = some (.ref C)) (q : excIn K C = true) : OwnCls x C valBm "ValueError.__new__" mg h := by
  unfold excIn at q
  split at q
  · rename_i dd cd sl ho
    split at q
    · rename_i C' bm k0 k1 k2 k3 n k5 hmr hs
      simp only [Bool.and_eq_true, beq_iff_eq, Bool.not_eq_true'] at q
      obtain ⟨⟨⟨⟨rfl, hdel⟩, rfl⟩, hn⟩, ht⟩ := q
      obtain ⟨m, hns, hni⟩ := nsOk_ns X hn
      obtain ⟨nm, bs, mro, ns, qn, hd, sn, sub, ab, col, del⟩ := cd
      dsimp only at hmr hdel hns
      subst hmr hdel
      have hsl : sl = #[k0, k1, k2, k3, some (.builtin "ValueError.__new__"), k5] := by
        obtain ⟨l⟩ := sl
        simp only at hs
        rw [hs]
      subst hsl
      exact ⟨hm, bm, ns, nm, qn, bs, hd, sn, sub, ab, col, dd, k0, k1, k2, k3, k5, m, X _ _ ho, hns, hni, tailIn_own X ht⟩
    · cases q
  · cases q
/-! ### raise C(e, ..) -/
def tRaise (C : Addr) (E : Value → Hp → Prop) (t : TA) : TS := fun _ σ H => t σ H fun vs H1 => vs.length ≤ sizeLine ∧ E (.ref C) H1
theorem ps_raise {X : Cx} {x : Str} {C : Addr} {np cpos pos : Pos} {e₀ : Expr} {rest : List Expr} {t : TA} {E : Value → Hp → Prop} (hR : Raises X E) (hc : X.calm = true) (hC : excIn X.K C = true) (hg : Gl X x) (hm : X.mg x = some (.ref C)) (ha : PA X (e₀ :: rest) t)
    (he : starEach (e₀ :: rest) X.env = (false, eval e₀ X.env) :: starEach rest X.env := by rfl) (hpl : (backTo cpos (starEach rest X.env)).any (·.1) = false := by rfl) (hd : (x == ("__debug__" : Str)) = false := by decide) :
    PS X (.Raise (some (.Call (.Name x np) (e₀ :: rest) [] cpos)) none pos) (tRaise C E t) := by
  intro pins s σ H D I h
  have O : OwnCls x C valBm "ValueError.__new__" X.mg X.base := excIn_own I.mod.kin hm hC
  obtain ⟨tl, N, nm, q, bs, hdct, sn, sub, ab, col, dd, k0, k1, k2, k3, k5, mN, hC', hN, hni, T⟩ := O.obj
  refine wpAny_Raise_call_subU (C := C) (nm := nm) (q := q) (N := N) (bs := bs) (bm := tl) (hdct := hdct) (sn := sn) (sub := sub) (ab := ab) (col := col) (dd := dd) (k0 := k0) (k1 := k1) (k2 := k2) (k3 := k3) (k5 := k5)
    PySem.F.excBase_ValueError (by decide) PySem.F.excBase_ValueError (mN := mN) (T.hasType PySem.F.excBase_ValueError.hasBase) (I.ok.hd hc) (by rw [he]; show (false || (backTo cpos (starEach rest X.env)).any (·.1)) = false; rw [hpl]; rfl) hni (ld_glob I hg hm ⟨rfl, ?_⟩ hd)
  have ha' := ha cpos pins s σ H _ I h
  rw [he] at ha' ⊢
  refine Calls.evalArgs_plain (wpAny_mono ha' (fun vs s₂ z => ?_) fun _ _ y => y)
  obtain ⟨ws, H2, I2, r2, z, q2⟩ := z
  exact ⟨rfl, by rw [← r2.length]; exact z, I2.bk _ _ hC', hN.keeps I2.bk, T.keeps I2.bk, fun h' e mk => hR pins σ H2 s₂ h' e _ _ I2 mk q2⟩
end L2
end
section
set_option Elab.async false
set_option linter.all false
set_option maxRecDepth 100000
namespace L2
open PySem PySem.Spec PyProof.Rows
/-! ### what may be called, in one fact each -/
structure Callee (P : Program) (w : World) (K : PySem.W.Frag) (mg : Str → Option Value) (base : Heap) (x : Str) (k : Nat) (ps : List Str) (sp : Sp) : Prop where
  ex : ∃ f fd, FnOk P w K mg base (CXE P w) k f fd ps sp ∧ mg x = some (.ref f) ∧ PySem.W.keepIn K (.ref f) = true ∧ Binds K fd ps []
structure Method (P : Program) (w : World) (K : PySem.W.Frag) (mg : Str → Option Value) (base : Heap) (C : Addr) (m : Str) (k : Nat) (ps : List Str) (sp : Sp) : Prop where
  ex : ∃ f fd, FnOk P w K mg base (CXE P w) k f fd ps sp ∧ Meth K C m f ∧ Binds K fd ps []
structure Maker (P : Program) (w : World) (K : PySem.W.Frag) (mg : Str → Option Value) (base : Heap) (x : Str) (C : Addr) (k : Nat) (ps : List Str) (sp : Sp) : Prop where
  ex : ∃ f fd, FnOk P w K mg base (CXE P w) k f fd ps sp ∧ Mk K C f ∧ mg x = some (.ref C) ∧ Binds K fd ps []
def tFn (sp : Sp) (E : XK) (t : TA) : TE := fun σ H Q => t σ H fun vs H1 => sp vs H1 Q E
def tMe (C : Addr) (m : Str) (sp : Sp) (E : XK) (ta : TE) (t : TA) : TE := fun σ H Q => ta σ H fun x H1 => ∃ a dx fs, x = .ref a ∧ H1 a = some (.ins C dx fs) ∧ fs.lookup m = none ∧ t σ H1 fun vs H2 => sp (x :: vs) H2 Q E
def tMk (C : Addr) (sp : Sp) (E : XK) (t : TA) : TE := fun σ H Q => t σ H fun vs H1 => ∀ x dx, H1 x = none → H1 dx = none → dx ≠ x →
  sp (.ref x :: vs) (upd (upd H1 dx (.own x)) x (.ins C dx [])) (fun v H2 => v = .non ∧ Q (.ref x) H2) E
section
variable {X : Cx} {k : Nat} {C : Addr} {ps : List Str} {sp : Sp} {E : XK} {x m : Str} {p pos apos : Pos} {e o : Expr} {es : List Expr} {ta : TE} {t : TA}
theorem tCall_nil {st : St} {H : Hp} {Q : VK} (h : tFn sp E t st H Q) : tCall sp [] E t st H Q := by
  unfold tCall
  unfold tFn at h
  have e : (fun vs H1 => sp (vs ++ []) H1 Q E) = fun vs H1 => sp vs H1 Q E := by
    funext vs H1
    rw [List.append_nil]
  rw [e]
  exact h
theorem pe_fn (c : Callee X.prog X.w X.K X.mg X.base x k ps sp) (hr : Room k X.A) (hx : Passes (CXE X.prog X.w) X E) (ha : PA X (e :: es) t) (hg : Gl X x := by rfl) (hdb : (x == ("__debug__" : Str)) = false := by decide)
    (he : starEach (e :: es) X.env = (false, eval e X.env) :: starEach es X.env := by rfl) (hpl : (backTo pos (starEach es X.env)).any (·.1) = false := by rfl) : PE X (.Call (.Name x p) (e :: es) [] pos) (tFn sp E t) := by
  obtain ⟨f, fd, F, hm, hk, hb⟩ := c.ex
  intro pins s σ H Q I h
  exact pe_call F hr hg hm hk hb .nil hx ha hdb he hpl pins s σ H Q I (tCall_nil h)
theorem tMeth_nil {st : St} {H : Hp} {Q : VK} (h : tMe C m sp E ta t st H Q) : tMeth C m sp [] E ta t st H Q := by
  unfold tMeth
  unfold tMe at h
  have e : (fun (x : V) (H1 : Hp) => ∃ a dx fs, x = .ref a ∧ H1 a = some (.ins C dx fs) ∧ fs.lookup m = none ∧ t st H1 fun vs H2 => sp (x :: (vs ++ [])) H2 Q E) = fun x H1 => ∃ a dx fs, x = .ref a ∧ H1 a = some (.ins C dx fs) ∧ fs.lookup m = none ∧ t st H1 fun vs H2 => sp (x :: vs) H2 Q E := by
    funext x H1
    simp only [List.append_nil]
  rw [e]
  exact h
theorem pe_me {pl : Sem Bool} (c : Method X.prog X.w X.K X.mg X.base C m k ps sp) (cl : Cls X.K C) (hr : Room k X.A) (hx : Passes (CXE X.prog X.w) X E) (ho : PE X o ta) (ha : PA X (e :: es) t)
    (hst : starEach (e :: es) X.env = (false, eval e X.env) :: starEach es X.env := by rfl) (hpl : (backTo pos (starEach es X.env)).any (·.1) = false := by rfl)
    (ht : eval (.Call (.Attribute o m apos) (e :: es) [] pos) X.env = (do
      let ov ← eval o X.env
      standAt apos.atName
      let (f, first) ← holding [ov] (getMethod ov m pl)
      callWith pos f first (backTo pos (starEach (e :: es) X.env)) (backToKw pos (keywordEach [] X.env))) := by rfl) :
    PE X (.Call (.Attribute o m apos) (e :: es) [] pos) (tMe C m sp E ta t) := by
  obtain ⟨f, fd, F, hm, hb⟩ := c.ex
  intro pins s σ H Q I h
  exact pe_meth ho cl hm F hr hb .nil hx ha hst hpl ht pins s σ H Q I (tMeth_nil h)
theorem pe_me0 {pl : Sem Bool} (c : Method X.prog X.w X.K X.mg X.base C m k ps sp) (cl : Cls X.K C) (hr : Room k X.A) (hx : Passes (CXE X.prog X.w) X E) (ho : PE X o ta)
    (ht : eval (.Call (.Attribute o m apos) [] [] pos) X.env = (do
      let ov ← eval o X.env
      standAt apos.atName
      let (f, first) ← holding [ov] (getMethod ov m pl)
      callWith pos f first (backTo pos (starEach [] X.env)) (backToKw pos (keywordEach [] X.env))) := by rfl) :
    PE X (.Call (.Attribute o m apos) [] [] pos) (tMe C m sp E ta tNil) := by
  obtain ⟨f, fd, F, hm, hb⟩ := c.ex
  intro pins s σ H Q I h
  exact pe_meth0 ho cl hm F hr hb .nil hx ht pins s σ H Q I (tMeth_nil h)
theorem tMake_nil {st : St} {H : Hp} {Q : VK} (h : tMk C sp E t st H Q) : tMake C sp [] E t st H Q := by
  unfold tMake
  unfold tMk at h
  simp only [List.append_nil]
  exact h
theorem pe_mk (c : Maker X.prog X.w X.K X.mg X.base x C k ps sp) (hr : Room (k + 1) X.A) (hx : Passes (CXE X.prog X.w) X E) (ha : PA X (e :: es) t) (hg : Gl X x := by rfl) (hdb : (x == ("__debug__" : Str)) = false := by decide)
    (he : starEach (e :: es) X.env = (false, eval e X.env) :: starEach es X.env := by rfl) (hpl : (backTo pos (starEach es X.env)).any (·.1) = false := by rfl) : PE X (.Call (.Name x p) (e :: es) [] pos) (tMk C sp E t) := by
  obtain ⟨f, fd, F, M, hm, hb⟩ := c.ex
  intro pins s σ H Q I h
  exact pe_make M F hr hg hm hb .nil hx ha hdb he hpl pins s σ H Q I (tMake_nil h)
end
/-! ### statements whose exception is caught by the same body -/
def XPp (X : Cx) (pins : List (Addr × Obj)) (R : XC) (e : Value) (s' : Shared) : Prop := ∃ (a : Addr) (cls : Value) (σ : St) (H' : Hp), e = .ref a ∧ AtX X pins σ H' s' a cls ∧ R cls σ H'
abbrev TX := Ends → XC → St → Hp → Prop
abbrev TEX := St → Hp → VK → (Value → Hp → Prop) → Prop
def PEx (X : Cx) (e : Expr) (t : TEX) : Prop :=
  ∀ (pins : List (Addr × Obj)) (s : Shared) (σ : St) (H : Hp) (Q : VK) (R : Value → Hp → Prop), Inv X pins σ H s → t σ H Q R → wpAny (model X.prog X.w) X.A (eval e X.env) (EP X pins σ Q) (XPp X pins fun c σ' H' => σ' = σ ∧ R c H') s
def PSx (X : Cx) (st : Stmt) (t : TX) : Prop :=
  ∀ (pins : List (Addr × Obj)) (s : Shared) (σ : St) (H : Hp) (D : Ends) (R : XC), Inv X pins σ H s → t D R σ H → wpAny (model X.prog X.w) X.A (exec st X.env) (SP X pins D) (XPp X pins R) s
def PSsx (X : Cx) (st : List Stmt) (t : TX) : Prop :=
  ∀ (pins : List (Addr × Obj)) (s : Shared) (σ : St) (H : Hp) (D : Ends) (R : XC), Inv X pins σ H s → t D R σ H → wpAny (model X.prog X.w) X.A (execs st X.env) (SP X pins D) (XPp X pins R) s
section
variable {X : Cx} {k : Nat} {C : Addr} {ps : List Str} {sp : Sp} {x m : Str} {p pos apos : Pos} {e o : Expr} {es : List Expr} {ta : TE} {t : TA}
theorem run_fnx {pins : List (Addr × Obj)} {σ : St} {H : Hp} {s : Shared} {Q : VK} {us : List Value} {vs : List V} {f : Addr} {fd : FuncData} {R : Value → Hp → Prop} (F : FnOk X.prog X.w X.K X.mg X.base (CXE X.prog X.w) k f fd ps sp) (hr : Room k X.A) (hb : Binds X.K fd ps [])
    (I : Inv X pins σ H s) (r : Vals vs us) (h : sp vs H Q fun c _ H' => R c H') : wpAny (model X.prog X.w) X.A (call (.ref f) us) (EP X pins σ Q) (XPp X pins fun c σ' H' => σ' = σ ∧ R c H') s := by
  have hl : (us ++ []).length = ps.length := by rw [List.append_nil, ← r.length]; exact F.len _ _ _ _ h
  have hb' := hb s us I.kIn hl
  rw [List.append_nil] at hb'
  refine wpAny_call (codeAny_mono (F.run X.A X.stack s H ⟨us, []⟩ us vs Q _ hr I.env0 hb' r h) fun r s' hq => ?_)
  cases r with
  | error e =>
    obtain ⟨a, cls, H', he, Fl, q⟩ := hq
    exact ⟨a, cls, σ, H', he, .inr ⟨H, s, .none, I, Fl, .inl rfl⟩, rfl, q⟩
  | ok fl =>
    cases fl with
    | ret u => exact I.after hq
    | next => exact False.elim hq
    | brk => exact False.elim hq
    | cont => exact False.elim hq
theorem pa_nox {pins : List (Addr × Obj)} {s : Shared} {σ : St} {H : Hp} {Q : List V → Hp → Prop} {E : Value → Shared → Prop} (ha : PA X.nox es t) (I : Inv X pins σ H s) (h : t σ H Q) : wpAny (model X.prog X.w) X.A (spliced (backTo pos (starEach es X.env))) (AP X pins σ Q) E s :=
  wpAny_mono (ha pos pins s σ H Q (I.wish _) h) (fun _ _ ⟨vs, H', I', r, q⟩ => ⟨vs, H', I'.unwish, r, q⟩) fun _ _ z => False.elim z
def xFn (sp : Sp) (t : TA) : TEX := fun σ H Q R => t σ H fun vs H1 => sp vs H1 Q fun c _ H' => R c H'
def xMe (C : Addr) (m : Str) (sp : Sp) (ta : TE) (t : TA) : TEX := fun σ H Q R => ta σ H fun x H1 => ∃ a dx fs, x = .ref a ∧ H1 a = some (.ins C dx fs) ∧ fs.lookup m = none ∧ t σ H1 fun vs H2 => sp (x :: vs) H2 Q fun c _ H' => R c H'
def xMk (C : Addr) (sp : Sp) (t : TA) : TEX := fun σ H Q R => t σ H fun vs H1 => ∀ x dx, H1 x = none → H1 dx = none → dx ≠ x →
  sp (.ref x :: vs) (upd (upd H1 dx (.own x)) x (.ins C dx [])) (fun v H2 => v = .non ∧ Q (.ref x) H2) fun c _ H' => R c H'
theorem px_fn (c : Callee X.prog X.w X.K X.mg X.base x k ps sp) (hr : Room k X.A) (ha : PA X.nox (e :: es) t) (hg : Gl X x := by rfl) (hdb : (x == ("__debug__" : Str)) = false := by decide)
    (he : starEach (e :: es) X.env = (false, eval e X.env) :: starEach es X.env := by rfl) (hpl : (backTo pos (starEach es X.env)).any (·.1) = false := by rfl) : PEx X (.Call (.Name x p) (e :: es) [] pos) (xFn sp t) := by
  obtain ⟨f, fd, F, hm, hk, hb⟩ := c.ex
  intro pins s σ H Q R I h
  refine wpAny_Call_Name_kw (ld_glob I hg hm ?_ hdb)
  refine PySem.W.callWith_K (h₀ := X.base) I.ok.mod.kin hk (thn (pa_nox (pos := pos) ha I h) fun us s1 ⟨vs, H1, I1, r, q⟩ => ⟨I1.kIn, ?_⟩) he hpl
  exact run_fnx F hr hb I1 r q
/-! statements -/
variable {st : Stmt} {sts rest : List Stmt} {tS : TS} {tx ux : TX} {te : TEX}
theorem psx_expr (h : PEx X e te) (hs : swapsWith e none pos.line X.env = pure false := by rfl) : PSx X (.Expr e pos) (fun D R σ H => te σ H (fun _ H1 => D.nx σ H1) (fun c H' => R c σ H')) := by
  intro pins s σ H D R I hw
  exact wpAny_Expr_any (wpAny_mono (h pins s σ H _ _ I hw) (fun v s1 ⟨x, H1, I1, r1, q1⟩ => ⟨σ, H1, I1, q1⟩) fun ev s' ⟨a, cls, σ', H', he, F, hσ, q⟩ => ⟨a, cls, σ', H', he, F, by rw [hσ]; exact q⟩) I.quiet hs
theorem pssx_nil : PSsx X [] (fun D _ σ H => D.nx σ H) := fun _ _ σ H _ _ I h => wpAny_execs_nil ⟨σ, H, I, h⟩
theorem pssx_cons (h1 : PSx X st tx) (h2 : PSsx X rest ux) : PSsx X (st :: rest) (fun D R σ H => tx { D with nx := ux D R } R σ H) := by
  intro pins s σ H D R I hw
  refine wpAny_execs_cons (thn (h1 pins s σ H _ R I hw) fun f s1 q1 => ?_)
  cases f with
  | next => obtain ⟨σ1, H1, I1, q⟩ := q1; exact h2 pins s1 σ1 H1 D R I1 q
  | brk => exact q1
  | cont => exact q1
  | ret v => exact q1
theorem pssx_one (h1 : PSx X st tx) : PSsx X [st] tx := fun pins s σ H D R I hw => pssx_cons h1 pssx_nil pins s σ H D R I (by
  cases D
  exact hw)
end
/-! ### try -/
/-- within an except suite -/
def Cx.hand (X : Cx) (e : Addr) : Cx := { X with A := X.A.mark (some (.ref e)), calm := false, xe := fun _ _ => False }
section
variable {X : Cx} {pins : List (Addr × Obj)} {σ : St} {H : Hp} {s : Shared} {e : Addr}
theorem Cx.Ok.hand (ok : X.Ok) (e : Addr) : (X.hand e).Ok :=
  ⟨ok.mod, ok.kind, ok.glob, ok.blt, ok.above, ok.inj, ok.has, ok.cab, (fun z => Bool.noConfusion z), ok.frames, ok.stk, ok.exf, ok.bs, ok.bsz, ok.noex, ok.exfs, ok.funs, ok.frf⟩
theorem Inv.hand (I : Inv X pins σ H s) (e : Addr) : Inv (X.hand e) pins σ H s := ⟨I.ok.hand e, I.os, I.bare, I.base, I.loc, I.cell, I.free, I.freeC, I.pin, I.hok, I.len⟩
theorem Inv.unhand (ok : X.Ok) (I : Inv (X.hand e) pins σ H s) : Inv X pins σ H s := ⟨ok, I.os, I.bare, I.base, I.loc, I.cell, I.free, I.freeC, I.pin, I.hok, I.len⟩
theorem SP.unhand (ok : X.Ok) {D : Ends} {f : Flow} {s' : Shared} (h : SP (X.hand e) pins D f s') : SP X pins D f s' := by
  cases f with
  | next => obtain ⟨σ', H', I, q⟩ := h; exact ⟨σ', H', I.unhand ok, q⟩
  | brk => obtain ⟨σ', H', I, q⟩ := h; exact ⟨σ', H', I.unhand ok, q⟩
  | cont => obtain ⟨σ', H', I, q⟩ := h; exact ⟨σ', H', I.unhand ok, q⟩
  | ret u => obtain ⟨v, σ', H', I, r, q⟩ := h; exact ⟨v, σ', H', I.unhand ok, r, q⟩
/-- the handlers: a class's name with its suite, each -/
inductive PH (X : Cx) : List ExceptHandler → (Value → TS) → Prop where
  | nil : PH X [] (fun _ _ _ _ => False)
  | cons {x : Str} {c : Value} {np pos : Pos} {b₀ : Stmt} {suite : List Stmt} {rest : List ExceptHandler} {t : TS} {u : Value → TS} (hg : Gl X x) (hm : X.mg x = some c) (hd : (x == ("__debug__" : Str)) = false) (hs : ∀ e, PSs (X.hand e) (b₀ :: suite) t) (hr : PH X rest u) :
      PH X (.ExceptHandler (some (.Name x np)) none (b₀ :: suite) pos :: rest) (fun cls D σ H => (PySem.W.exmOne X.K cls c = some true ∧ t D σ H) ∨ (PySem.W.exmOne X.K cls c = some false ∧ u cls D σ H))
theorem Fly.inv {H' : Hp} {s' : Shared} {cls fl : Value} (I : Inv X pins σ H s) (F : Fly X.prog X.w X.stack H H' s s' e cls fl) : Inv X pins σ H' s' :=
  I.call' F.os F.un F.hok F.bare fun b z => absurd z (by simp)
theorem Fly.ty {P : Program} {w : World} {l : List Env} {H H' : Hp} {s s' : Shared} {e : Addr} {cls fl : Value} {M : Model} (F : Fly P w l H H' s s' e cls fl) : PySem.W.Looks M s'.heap (typeOf (.ref e)) cls := by
  obtain ⟨B, a0, ⟨_, _, _, oe, vs, T, oT, ts, he, hc, _⟩, _⟩ := F.go
  obtain ⟨hc, _⟩ := hc
  subst hc
  exact (PySem.W.Looks.ld he).andThen .now
theorem handle {hs : List ExceptHandler} {u : Value → TS} (hh : PH X hs u) : ∀ {H' : Hp} {s' : Shared} {cls : Value} {D : Ends}, Inv X pins σ H s → Fly X.prog X.w X.stack H H' s s' e cls .none → u cls D σ H' →
    wpAny (model X.prog X.w) X.A (handleBy (.ref e) X.env hs) (SP X pins D) X.xe s' := by
  induction hh with
  | nil => intro H' s' cls D I F h; exact False.elim h
  | @cons x c np pos b₀ suite rest t u hg hm hd hsu hr ih =>
    intro H' s' cls D I F h
    have I' := F.inv I
    have tst : ∀ (b : Bool) {R : Bool → Shared → Prop} {E : Value → Shared → Prop}, PySem.W.exmOne X.K cls c = some b → R b s' → wpAny (model X.prog X.w) (X.A.mark (some (.ref e))) (excMatches (.ref e) c) R E s' := fun b R E z q =>
      (PySem.W.exm_one I'.kIn F.ty z).here q
    rcases h with ⟨z, h⟩ | ⟨z, h⟩
    · refine wpAny_handleBy_cons (codeAny_handlers_test (ld_glob (X := X.hand e) (I'.hand e) hg hm (tst true z ?_) hd)) (by intro q; cases q)
      refine codeAny_handlers_suite (fly_land F fun h2 F2 => ?_)
      refine wpAny_mono (hsu e pins _ σ H' D ((F2.inv I).hand e) h) (fun f s2 q => ?_) fun _ _ z => False.elim z
      exact SP.unhand I.ok q
    · refine wpAny_handleBy_cons (codeAny_handlers_test (ld_glob (X := X.hand e) (I'.hand e) hg hm (tst false z ?_) hd)) (by intro q; cases q)
      exact ih I F h
theorem ps_try {body : List Stmt} {h₀ : ExceptHandler} {hs : List ExceptHandler} {pos : Pos} {tx : TX} {u : Value → TS} (O : Own X) (hb : PSsx X body tx) (hh : PH X (h₀ :: hs) u) : PS X (.Try body (h₀ :: hs) [] [] pos) (fun D σ H => tx D (fun c σ' H' => u c D σ' H') σ H) := by
  intro pins s σ H D I h
  refine wpAny_Try_except (wpAny_mono (hb pins s σ H D _ I h) (fun f s1 q => ?_) fun ev s1 ⟨a, cls, σ', H', he, F, q⟩ => ?_)
  · cases f with
    | next => exact wpAny_execs_nil q
    | brk => exact q
    | cont => exact q
    | ret v => exact q
  · subst he
    refine at_note O F.frames F fun H s h' I' F' => ?_
    refine fly_land F' fun h2 F2 => ?_
    exact handle hh I' F2 q
end
end L2
end
section
set_option Elab.async false
set_option linter.all false
set_option maxRecDepth 100000
namespace L2
open PySem PySem.Spec PyProof.Rows
/-! ### a list made by walking -/
section
variable {prog : Program} {w : World} {A : Around} {R : Result → Shared → Prop} {s : Shared}
theorem compLoop_go {elt target iter : Expr} {ifs : List Expr} {scope : Scope} {pos : Pos} {it acc : Value} {env : Env} (I : Nat → Shared → Prop)
    (turn : ∀ n s, I n s → wpAny (model prog w) A (pyNext it) (fun r s₁ => match r with
      | none => R (.ok .next) s₁
      | some v => wpAny (model prog w) A (letOwnedTupleGo target it v) (fun _ s₁' => wpAny (model prog w) A (assign target env v) (fun _ s₂ =>
          wpAny (model prog w) A (forIn ifs true fun c r => if r = true then do let ok ← isTrue c env (eval c env); pure (ForInStep.yield ok) else pure (ForInStep.yield r)) (fun ok s₃ =>
            if ok = true then wpAny (model prog w) A (eval elt env) (fun x s₄ =>
              wpAny (model prog w) A (call (.builtin "list.append") [acc, x]) (fun _ s₅ => ∃ m, m < n ∧ I m s₅) (fun _ _ => False) s₄) (fun _ _ => False) s₃
            else ∃ m, m < n ∧ I m s₃) (fun _ _ => False) s₂) (fun _ _ => False) s₁') (fun _ _ => False) s₁) (fun _ _ => False) s)
    (n : Nat) (h : I n s) :
    codeAny (model prog w) A (.compLoop (.ListComp elt [⟨target, iter, ifs, 0⟩] scope pos) 0 it acc env) R s := by
  refine codeAny_loop rfl I (fun n s hI => ?_) n h
  show wpAny _ A ((compTurn (.ListComp elt [⟨target, iter, ifs, 0⟩] scope pos) 0 it acc env).onRaise (fun x => do noteFrame x env; theTreesLotGoes x)) _ _ s
  refine wpAny_noted ?_
  rw [compTurn_list]
  refine wpAny_noRaise ?_
  refine wpAny_bind (wpAny_standAt (wpAny_bind (wpAny_mono (turn n s hI) (fun r s₁ h₁ => ?_) fun _ _ h' => h')))
  cases r with
  | none => exact wpAny_pure h₁
  | some v =>
    refine wpAny_bind (wpAny_mono h₁ (fun _ s₁' h₁' => ?_) fun _ _ h' => h')
    refine wpAny_bind (wpAny_mono h₁' (fun _ s₂ h₂ => wpAny_bind (wpAny_mono h₂ (fun ok s₃ h₃ => ?_) fun _ _ h' => h')) fun _ _ h' => h')
    cases ok with
    | false => exact wpAny_pure ⟨rfl, h₃⟩
    | true =>
      exact wpAny_bind (wpAny_bind (wpAny_mono h₃ (fun x s₄ h₄ => wpAny_bind (wpAny_mono h₄ (fun _ s₅ h₅ => wpAny_pure (wpAny_pure ⟨rfl, h₅⟩)) fun _ _ h' => h')) fun _ _ h' => h'))
end
def clOf (scope : Scope) (env : Env) : List (Str × Addr) := (scope.names.filterMap fun y => if y.2 == .free then (env.cells.lookup y.1).map (fun c => (y.1, c)) else none).reverse
theorem lookup_mem {α β : Type} [BEq α] [LawfulBEq α] {l : List (α × β)} {x : α} {c : β} (h : l.lookup x = some c) : (x, c) ∈ l := by
  induction l with
  | nil => cases h
  | cons p r ih =>
    obtain ⟨a, b⟩ := p
    rw [List.lookup_cons] at h
    split at h
    · rename_i e
      cases h
      rw [beq_iff_eq.mp e]
      exact List.mem_cons_self
    · exact List.mem_cons_of_mem _ (ih h)
theorem clOf_in {scope : Scope} {env : Env} {x : Str} {c : Addr} (h : (clOf scope env).lookup x = some c) : env.cells.lookup x = some c := by
  have m := lookup_mem h
  unfold clOf at m
  rw [List.mem_reverse] at m
  obtain ⟨y, _, e⟩ := List.mem_filterMap.mp m
  split at e
  · cases q : env.cells.lookup y.1 with
    | none => rw [q] at e; cases e
    | some d =>
      rw [q] at e
      cases e
      exact q
  · cases e
/-- the block's context -/
def compCx (X : Cx) (scope : Scope) (Nc : List Str) (C : Addr) (s₂ : Shared) (H₂ : Hp) (ex : List Addr) : Cx where
  prog := X.prog
  w := X.w
  K := X.K
  mg := X.mg
  base := X.base
  A := X.A
  N := Nc
  s₀ := s₂
  H₀ := H₂
  env := compEnvC scope (clOf scope X.env) C X.env
  outer := X.stack
  stack := X.stack
  ex := ex
  fn := fun _ => false
  calm := X.calm
  pn := []
  xe := fun _ _ => False
/-- what is asked of the scope: T the block's own names, F those from around with their slots -/
def compOk (X : Cx) (scope : Scope) (F : List (Str × Nat)) : Bool :=
  scope.names.all (fun y => y.2 != .cell) && scope.names.all (fun y => y.2 != .local || scope.names.lookup y.1 == some .local) &&
  (relabel scope X.env).names.all (fun y => (y.2 != .cell && y.2 != .free) || ((clOf scope X.env).lookup y.1).isSome) &&
  F.all (fun p => X.N[p.2]? == some p.1 && (X.env.kindOf p.1 == some .cell || X.env.kindOf p.1 == some .free) && ((relabel scope X.env).names.lookup p.1 == some .cell || (relabel scope X.env).names.lookup p.1 == some .free))
def compIn (T : List Str) (F : List (Str × Nat)) (σ : St) : St := T.map (fun _ => none) ++ F.map (fun p => (σ[p.2]?).join)
def compN (T : List Str) (F : List (Str × Nat)) : List Str := T ++ F.map (·.1)
section
variable {X : Cx} {pins : List (Addr × Obj)} {σ : St} {H : Hp} {s : Shared} {scope : Scope} {T : List Str} {F : List (Str × Nat)} {fp : List Addr}
theorem comp_start (I : Inv X pins σ H s) (hk : scope.kind = .function) (ok : compOk X scope F = true) (hf : ∀ b ∈ fp, FpOk X pins H b) (ho : ∀ b ∈ fp, ∃ o, s.heap.get? b = some o) {h₁ : Heap} {t : Nat}
    (hn : h₁.Ns (s.heap.objs.size + 1) (fun _ => none)) (hs : Heap.SameBut (s.heap.objs.size + 1) ((s.heap.push { cls := .type "list", data := .seq #[] }).push { cls := .type "dict", data := .dict #[] }) h₁) :
    Inv (compCx X scope (compN T F) (s.heap.objs.size + 1) s H fp) [] (compIn T F σ) (upd H s.heap.objs.size (.lst [])) { s with heap := h₁, toks := t } := by
  unfold compOk at ok
  simp only [Bool.and_eq_true] at ok
  obtain ⟨⟨⟨ok1, ok2⟩, ok3⟩, ok4⟩ := ok
  have nH : H s.heap.objs.size = none := I.hok.fresh (Nat.le_refl _)
  have kp : ∀ b o, s.heap.get? b = some o → h₁.get? b = some o := fun b o e => by
    have l := Heap.lt_size e
    rw [hs.2 b (Nat.ne_of_lt (Nat.lt_succ_of_lt l))]
    exact Heap.get?_push_of_some _ (Heap.get?_push_of_some _ e)
  have hD : h₁.get? s.heap.objs.size = some { cls := .type "list", data := .seq #[] } := by
    rw [hs.2 _ (Nat.ne_of_lt (Nat.lt_succ_self _))]
    exact Heap.get?_push_of_some _ (Heap.get?_push_size _ rfl)
  have clx : ∀ x c, (clOf scope X.env).lookup x = some c → X.env.cells.lookup x = some c := fun x c e => clOf_in e
  have celt : ∀ x c, X.env.cells.lookup x = some c → c < s.heap.objs.size := fun x c e => by
    obtain ⟨v, o, ho, _⟩ := I.cell x c e
    exact Heap.lt_size ho
  have OK : (compCx X scope (compN T F) (s.heap.objs.size + 1) s H fp).Ok := by
    refine ⟨I.ok.mod, hk, I.ok.glob, I.ok.blt, Nat.le_succ _, fun x y c e1 e2 => I.ok.inj x y c (clx _ _ e1) (clx _ _ e2), fun x hx => ?_, (fun x c z => Bool.noConfusion z), I.ok.hd, I.ok.frames, .inl rfl, fun b hb => ⟨?_, fun x c e => ?_⟩, I.bs, ?_, fun b o e hb => ?_, fun b hb hb2 => ?_, I.stack, I.stkFree⟩
    · have hx : (relabel scope X.env).names.lookup x = some .cell ∨ (relabel scope X.env).names.lookup x = some .free := hx
      have q : ∀ k, (relabel scope X.env).names.lookup x = some k → (k = .cell ∨ k = .free) → ((clOf scope X.env).lookup x).isSome = true := fun k e hk => by
        have z := List.all_eq_true.mp ok3 (x, k) (lookup_mem e)
        rcases hk with rfl | rfl
        · simpa using z
        · simpa using z
      rcases hx with hx | hx
      · exact Option.isSome_iff_exists.mp (q _ hx (.inl rfl))
      · exact Option.isSome_iff_exists.mp (q _ hx (.inr rfl))
    · obtain ⟨o, e⟩ := ho b hb
      exact Nat.ne_of_lt (Nat.lt_succ_of_lt (Heap.lt_size e))
    · exact (hf b hb).2.2.2.2.1 x c (clx x c e)
    · exact Nat.le_trans I.ok.bsz I.sz
    · obtain ⟨_, _, _, h4, _⟩ := hf b hb
      rcases h4 with h4 | h4
      · exact I.ok.noex b o e h4
      · exact absurd (Nat.lt_of_lt_of_le (Heap.lt_size e) (Nat.le_trans I.ok.bsz h4)) (Nat.lt_irrefl _)
    · rcases List.mem_cons.mp (I.stkSub b hb2) with z | z
      · exact (hf b hb).2.1 z
      · exact (hf b hb).2.2.1 z
  refine ⟨OK, rfl, I.bare, Un.laid kp (Nat.le_refl _) nH, ⟨_, hn, fun i x v e1 e2 hv => ?_⟩, fun x c e => ?_, ?_, fun x c e => ?_, fun p hp => absurd (show p ∈ ([] : List (Addr × Obj)) from hp) (by simp), ?_, ?_⟩
  · have e1 : (compN T F)[i]? = some x := e1
    unfold compN at e1
    unfold compIn at e2
    by_cases hi : i < T.length
    · rw [List.getElem?_append_left (by simpa using hi), List.getElem?_map] at e2
      cases q : T[i]? with
      | none => rw [q] at e2; cases e2
      | some z => rw [q] at e2; cases e2
    · rw [List.getElem?_append_right (by simpa using hi), List.getElem?_map] at e2
      rw [List.getElem?_append_right (by simpa using hi), List.getElem?_map] at e1
      rw [List.length_map] at e2
      cases q : F[i - T.length]? with
      | none => rw [q] at e2; cases e2
      | some p =>
        rw [q] at e1 e2
        have e1 : p.1 = x := Option.some.inj e1
        have e2 : (σ[p.2]?).join = some v := Option.some.inj e2
        subst e1
        have z := List.all_eq_true.mp ok4 p (List.mem_of_getElem? q)
        simp only [Bool.and_eq_true, Bool.or_eq_true, beq_iff_eq] at z
        obtain ⟨⟨z1, z2⟩, z3⟩ := z
        have e3 : σ[p.2]? = some (some v) := by
          cases q2 : σ[p.2]? with
          | none => rw [q2] at e2; cases e2
          | some y => rw [q2] at e2; exact congrArg some e2
        obtain ⟨m, hm, hl⟩ := I.loc
        obtain ⟨u, ru, lk⟩ := hl p.2 p.1 v z1 e3 (by rcases z2 with z2 | z2; exact .inr (.inl z2); exact .inr (.inr z2))
        refine ⟨u, ru, .inr ⟨z3, ?_⟩⟩
        have hc : ∃ c, (clOf scope X.env).lookup p.1 = some c := OK.has p.1 z3
        obtain ⟨c, hc⟩ := hc
        refine ⟨c, hc, ?_⟩
        rcases lk with ⟨lk, _⟩ | ⟨_, c', hc', hcell⟩
        · rcases z2 with z2 | z2
          · rw [z2] at lk; cases lk
          · rw [z2] at lk; cases lk
        · rw [clx _ _ hc] at hc'
          cases hc'
          exact hcell.keeps kp
  · obtain ⟨v, q⟩ := I.cell x c (clx x c e)
    exact ⟨v, q.keeps kp⟩
  · show upd H s.heap.objs.size (.lst []) (s.heap.objs.size + 1) = none
    rw [upd_ne (Nat.ne_of_gt (Nat.lt_succ_self _))]
    exact I.hok.fresh (Nat.le_succ _)
  · have l := celt x c (clx x c e)
    show upd H s.heap.objs.size (.lst []) c = none
    rw [upd_ne (Nat.ne_of_lt l)]
    exact I.freeC x c (clx x c e)
  · exact I.hok.laid kp (Nat.le_refl _) ⟨Nat.zero_le _, [], 0, .nil, hD⟩
  · show (compIn T F σ).length = (compN T F).length
    unfold compIn compN
    simp
def compBody (T : List Str) (F : List (Str × Nat)) (g : TG) (tc : TT) (te : TE) (σ : St) (Q : VK) (J : It) (H1 : Hp) : Prop := ∀ D, H1 D = none → ∃ W : Nat → Nat → List V → St → Hp → Prop, (∃ m, W 0 m [] (compIn T F σ) (upd H1 D (.lst []))) ∧
  ∀ i m ys σc H2, W i m ys σc H2 → H2 D = some (.lst ys) ∧ ((J.stop i H2 ∧ Q (.ref D) H2) ∨ (J.go i H2 ∧ ys.length < sizeLine ∧ ∀ x H3, J.yld i H2 x H3 → g x σc H3 fun σ4 H4 => tc σ4 H4 fun b H5 =>
    if b = true then te σ4 H5 fun y H6 => H6 D = some (.lst ys) ∧ ∃ m', m' < m ∧ W (i + 1) m' (ys ++ [y]) σ4 (upd H6 D (.lst (ys ++ [y]))) else ∃ m', m' < m ∧ W (i + 1) m' ys σ4 H5))
def tComp (T : List Str) (F : List (Str × Nat)) (wi : TI) (g : TG) (tc : TT) (te : TE) : TE := fun σ H Q => wi σ H (compBody T F g tc te σ Q)
/-- the tests of a comprehension -/
def PIf (X : Cx) (ifs : List Expr) (t : TT) : Prop :=
  ∀ (pins : List (Addr × Obj)) (s : Shared) (σ : St) (H : Hp) (Q : Bool → Hp → Prop), Inv X pins σ H s → t σ H Q → wpAny (model X.prog X.w) X.A (forIn ifs true fun c r => if r = true then do let ok ← isTrue c X.env (eval c X.env); pure (ForInStep.yield ok) else pure (ForInStep.yield r)) (TP X pins σ Q) X.xe s
def tTrue : TT := fun _ H Q => Q true H
theorem pif_nil {X : Cx} : PIf X [] tTrue := fun pins s σ H Q I h => wpAny_tests_nil ⟨H, I, h⟩
/-- the block is left -/
theorem comp_end {s2 s' : Shared} {σc : St} {H2 H' : Hp} {h' : Heap} {Nc : List Str} (I : Inv X pins σ H2 s2) (hf : ∀ b ∈ fp, FpOk X pins H2 b) (I' : Inv (compCx X scope Nc (s2.heap.objs.size + 1) s2 H2 fp) [] σc H' s') (hs : Heap.SameBut (s2.heap.objs.size + 1) s'.heap h') : Inv X pins σ H' { s' with heap := h' } := by
  have U : Un (frs X.stack) fp H2 H' s2.heap s'.heap := I'.base
  have ne : ∀ b o, s2.heap.get? b = some o → b ≠ s2.heap.objs.size + 1 := fun b o e => Nat.ne_of_lt (Nat.lt_succ_of_lt (Heap.lt_size e))
  have free : H' (s2.heap.objs.size + 1) = none := I'.free
  refine I.call' (s' := { s' with heap := h' }) (ch := fp) I'.os ⟨fun b o q n hb hc => (hs.2 b (ne b o q)).trans (U.keep b o q n hb hc), fun b o q n hb hc => ?_, U.free, fun b o q hc => ?_, U.tups, U.frzs, U.tbls⟩ ?_ I'.bare fun b hb => ?_
  · obtain ⟨sl, z⟩ := U.slot b o q n hb hc
    exact ⟨sl, (hs.2 b (ne b o q)).trans z⟩
  · obtain ⟨o', z⟩ := U.there b o q hc
    exact ⟨o', (hs.2 b (ne b o q)).trans z⟩
  · intro a o e
    refine (I'.hok a o e).stay (fun b u hb q => (hs.2 b ?_).trans q) (fun _ q => q) fun _ _ q => q
    rintro rfl
    rcases hb with hb | hb
    · rw [← hb, free] at e; cases e
    · rw [free] at hb; cases hb
  · obtain ⟨f0, f1, f2, f3, f4, f5⟩ := hf b hb
    exact ⟨f3, f1, f4, f5⟩
theorem comp_core {elt tg iter : Expr} {ifs : List Expr} {pos : Pos} {g : TG} {tc : TT} {te : TE} {J : It} {it : Addr} {tn : Nat → Heap → Prop} {s2 : Shared} {H2 : Hp} {RR : Value → Addr → Result → Shared → Prop} {E : Value → Shared → Prop} {Q : Addr → Hp → Prop}
    (hc : X.calm = true) (hk : scope.kind = .function) (ok : compOk X scope F = true)
    (hg : ∀ C s₂ H₂ ex, PG (compCx X scope (compN T F) C s₂ H₂ ex) tg g) (hif : ∀ C s₂ H₂ ex, PIf (compCx X scope (compN T F) C s₂ H₂ ex) ifs tc) (he : ∀ C s₂ H₂ ex, PE (compCx X scope (compN T F) C s₂ H₂ ex) elt te)
    (I2 : Inv X pins σ H2 s2) (Tn : Turn X.prog X.w X.K tg J fp it tn) (st2 : tn 0 s2.heap) (f2 : ∀ b ∈ fp, FpOk X pins H2 b)
    (h3 : ∀ D, H2 D = none → ∃ W : Nat → Nat → List V → St → Hp → Prop, (∃ m, W 0 m [] (compIn T F σ) (upd H2 D (.lst []))) ∧
      ∀ i m ys σc H2, W i m ys σc H2 → H2 D = some (.lst ys) ∧ ((J.stop i H2 ∧ Q D H2) ∨ (J.go i H2 ∧ ys.length < sizeLine ∧ ∀ x H3, J.yld i H2 x H3 → g x σc H3 fun σ4 H4 => tc σ4 H4 fun b H5 =>
        if b = true then te σ4 H5 fun y H6 => H6 D = some (.lst ys) ∧ ∃ m', m' < m ∧ W (i + 1) m' (ys ++ [y]) σ4 (upd H6 D (.lst (ys ++ [y]))) else ∃ m', m' < m ∧ W (i + 1) m' ys σ4 H5)))
    (hRR : ∀ D s' σc H', Inv (compCx X scope (compN T F) (s2.heap.objs.size + 1) s2 H2 fp) [] σc H' s' → Q D H' → RR (.ref D) (s2.heap.objs.size + 1) (.ok .next) s') :
    wpAny (model X.prog X.w) X.A (newList []) (fun acc s₃ => wpAny (model X.prog X.w) X.A (newFunctionEnv scope X.env.globals (clOf scope X.env) [] X.env.qual none .none (some X.env)) (fun cenv s₄ =>
      codeAny (model X.prog X.w) X.A (.compStart (.ListComp elt [⟨tg, iter, ifs, 0⟩] scope pos) 0 (.ref it) acc { cenv with scope := relabel scope X.env }) (RR acc cenv.locals) s₄) E s₃) E s2 := by
  have ok' := ok
  unfold compOk at ok'
  simp only [Bool.and_eq_true] at ok'
  obtain ⟨⟨⟨ok1, ok2⟩, ok3⟩, ok4⟩ := ok'
  have hcell : ∀ y ∈ scope.names, y.2 ≠ .cell := fun y hy z => by
    have := List.all_eq_true.mp ok1 y hy
    rw [z] at this
    cases this
  refine wpAny_newObj_type (wpAny_newFunctionEnv hcell (by intro y hy; simp at hy) (fun h₁ hns₁ hsb₁ => ?_) hk)
  dsimp only at hns₁ hsb₁ ⊢
  have hsz : (s2.heap.push { cls := .type "list", dict := none, data := .seq ([] : List Value).toArray }).objs.size = s2.heap.objs.size + 1 := Heap.size_push _ _
  rw [hsz] at hns₁ hsb₁ ⊢
  have I3 : Inv (compCx X scope (compN T F) (s2.heap.objs.size + 1) s2 H2 fp) [] (compIn T F σ) (upd H2 s2.heap.objs.size (.lst [])) { s2 with heap := h₁, toks := s2.toks + ([] : List (Str × Value)).length } :=
    comp_start I2 hk ok f2 (fun b hb => let ⟨o, e, _⟩ := Tn.obj _ _ st2 b hb; ⟨o, e⟩) hns₁ hsb₁
  obtain ⟨W, ⟨m0, w0⟩, turn⟩ := h3 s2.heap.objs.size (I2.hok.fresh (Nat.le_refl _))
  have stat : ∀ {H' : Hp}, (∀ b ∈ fp, H' b = none) → ∀ b ∈ fp, FpOk (compCx X scope (compN T F) (s2.heap.objs.size + 1) s2 H2 fp) [] H' b := fun {H'} hn b hb =>
    ⟨hn b hb, (I3.ok.exf b hb).1, I3.ok.exfs b hb, .inl hb, (I3.ok.exf b hb).2, fun p hp => absurd (show p ∈ ([] : List (Addr × Obj)) from hp) (by simp)⟩
  have st3 : tn 0 h₁ := Tn.keep _ _ _ st2 fun b hb o e => by
    have l := Heap.lt_size e
    rw [hsb₁.2 b (Nat.ne_of_lt (Nat.lt_succ_of_lt l))]
    exact Heap.get?_push_of_some _ (Heap.get?_push_of_some _ e)
  have fr3 : ∀ b ∈ fp, (upd H2 s2.heap.objs.size (.lst [])) b = none := fun b hb => by
    obtain ⟨o, e, _⟩ := Tn.obj _ _ st2 b hb
    rw [upd_ne (Nat.ne_of_lt (Heap.lt_size e))]
    exact (f2 b hb).1
  have loop : codeAny (model X.prog X.w) X.A (.compLoop (.ListComp elt [⟨tg, iter, ifs, 0⟩] scope pos) 0 (.ref it) (.ref s2.heap.objs.size) (compEnvC scope (clOf scope X.env) (s2.heap.objs.size + 1) X.env))
      (RR (.ref s2.heap.objs.size) (s2.heap.objs.size + 1)) { s2 with heap := h₁, toks := s2.toks + ([] : List (Str × Value)).length } := by
    refine compLoop_go (fun n s' => ∃ i ys σ' H', Inv (compCx X scope (compN T F) (s2.heap.objs.size + 1) s2 H2 fp) [] σ' H' s' ∧ tn i s'.heap ∧ (∀ b ∈ fp, H' b = none) ∧ W i n ys σ' H') ?_ m0 ⟨0, [], _, _, I3, st3, fr3, w0⟩
    rintro n s4 ⟨i, ys, σ4, H4, I4, st4, fr4, w4⟩
    obtain ⟨hD, go⟩ := turn i n ys σ4 H4 w4
    rcases go with ⟨stop, qn⟩ | ⟨go, hz, step⟩
    · refine thn (Tn.done (compCx X scope (compN T F) (s2.heap.objs.size + 1) s2 H2 fp) rfl rfl rfl hc i [] s4 σ4 H4 (fun _ _ => False) I4 (stat fr4) st4 stop) fun r s5 ⟨hr, I5⟩ => ?_
      subst hr
      exact hRR _ s5 σ4 H4 I5 qn
    · refine thn (Tn.item (compCx X scope (compN T F) (s2.heap.objs.size + 1) s2 H2 fp) rfl rfl rfl hc i [] s4 σ4 H4 (fun _ _ => False) I4 (stat fr4) st4 go) fun r s5 ⟨u, hr, h5⟩ => ?_
      subst hr
      refine thn h5 fun _ s6 ⟨x, H6, I6, r6, y6, st6, fr6⟩ => ?_
      have I6' := I6.pinned (stat fr6) (Tn.obj _ _ st6)
      refine thn (hg _ _ _ _ _ s6 σ4 H6 x u _ I6' r6 (step x H6 y6)) fun _ s7 ⟨σ7, H7, I7, q7⟩ => ?_
      refine thn (hif _ _ _ _ _ s7 σ7 H7 _ I7 q7) fun b s8 ⟨H8, I8, q8⟩ => ?_
      have again : ∀ {s9 : Shared} {σ9 : St} {H9 : Hp} {zs : List V}, Inv (compCx X scope (compN T F) (s2.heap.objs.size + 1) s2 H2 fp) ([] ++ pinsAt fp s6.heap) σ9 H9 s9 → (∃ m', m' < n ∧ W (i + 1) m' zs σ9 H9) →
          ∃ m, m < n ∧ ∃ i ys σ' H', Inv (compCx X scope (compN T F) (s2.heap.objs.size + 1) s2 H2 fp) [] σ' H' s9 ∧ tn i s9.heap ∧ (∀ b ∈ fp, H' b = none) ∧ W i m ys σ' H' := fun {s9 σ9 H9 zs} I9 ⟨m', hm, w9⟩ => by
        refine ⟨m', hm, i + 1, zs, σ9, H9, I9.unpinned, Tn.keep _ _ _ st6 fun b hb o e => (I9.pin (b, o) (List.mem_append_right _ (List.mem_append_right _ (mem_pinsAt hb e)))).1, fun b hb => ?_, w9⟩
        obtain ⟨o, e, d⟩ := Tn.obj _ _ st6 b hb
        exact (I9.pin (b, o) (List.mem_append_right _ (List.mem_append_right _ (mem_pinsAt hb e)))).2.1
      cases b with
      | false =>
        rw [if_neg Bool.false_ne_true] at q8 ⊢
        exact again I8 q8
      | true =>
        rw [if_pos rfl] at q8 ⊢
        refine thn (he _ _ _ _ _ s8 σ7 H8 _ I8 q8) fun uy s9 ⟨y, H9, I9, r9, hD9, q9⟩ => ?_
        refine thn (mt_append _ s9 σ7 H9 (.ref s2.heap.objs.size) [y] (.ref s2.heap.objs.size) [uy] (fun _ H' => ∃ m', m' < n ∧ W (i + 1) m' (ys ++ [y]) σ7 H') I9 rfl (.cons r9 .nil) ⟨_, ys, y, rfl, rfl, hD9, hz, q9⟩) fun _ s10 ⟨_, H10, I10, _, q10⟩ => ?_
        exact again I10 q10
  exact codeAny_compStart_list loop (Tn.self _ 0 _ _ _ st3 loop)
theorem pe_comp {elt tg iter : Expr} {ifs : List Expr} {pos : Pos} {wi : TI} {g : TG} {tc : TT} {te : TE} (T : List Str) (F : List (Str × Nat)) (hc : X.calm = true) (hi : PI X tg iter wi)
    (hg : ∀ C s₂ H₂ ex, PG (compCx X scope (compN T F) C s₂ H₂ ex) tg g) (hif : ∀ C s₂ H₂ ex, PIf (compCx X scope (compN T F) C s₂ H₂ ex) ifs tc) (he : ∀ C s₂ H₂ ex, PE (compCx X scope (compN T F) C s₂ H₂ ex) elt te)
    (hclos : closureFor scope X.env = pure (clOf scope X.env) := by rfl) (hk : scope.kind = .function := by rfl) (ok : compOk X scope F = true := by rfl) (hs : ∀ x, foldedSetIterable iter X.env x = pure x := by intro _; rfl) :
    PE X (.ListComp elt [⟨tg, iter, ifs, 0⟩] scope pos) (tComp T F wi g tc te) := by
  intro pins s σ H Q I h
  have ok' := ok
  unfold compOk at ok'
  simp only [Bool.and_eq_true] at ok'
  obtain ⟨⟨⟨ok1, ok2⟩, ok3⟩, ok4⟩ := ok'
  have hnames : ∀ x ∈ scope.names, x.2 = .local → scope.names.lookup x.1 = some .local := fun x hx z => by
    have := List.all_eq_true.mp ok2 x hx
    rw [z] at this
    simpa using this
  rw [eval_ListComp]
  refine wpAny_comprehension_free (use := none) rfl hs hclos hk hnames (thn (hi pins s σ H _ I h) fun v s1 h1 => thn h1 fun itv s2 h2 => ?_)
  obtain ⟨it, fp, tn, J, H2, e, I2, Tn, st2, f2, h3⟩ := h2
  subst e
  refine comp_core (RR := fun acc C => compPost (model X.prog X.w) X.A X.xe none (EP X pins σ Q) acc C) (Q := fun D H' => Q (.ref D) H') hc hk ok hg hif he I2 Tn st2 f2 h3 fun D s' σc H' I' q => ?_
  obtain ⟨m, hn, _⟩ := I'.loc
  exact ⟨m, hn, fun h' hs' => ⟨.ref D, H', comp_end I2 f2 I' hs', rfl, q⟩⟩
/-- y = [..]: the name is bound ahead of the block's end -/
theorem ps_setc {y : Str} {i : Nat} {py spos : Pos} {elt tg iter : Expr} {ifs : List Expr} {pos : Pos} {wi : TI} {g : TG} {tc : TT} {te : TE} (T : List Str) (F : List (Str × Nat)) (hN : X.N.Nodup) (hy : X.N[i]? = some y) (hx : Loc X.env.scope y) (hc : X.calm = true) (hi : PI X tg iter wi)
    (hg : ∀ C s₂ H₂ ex, PG (compCx X scope (compN T F) C s₂ H₂ ex) tg g) (hif : ∀ C s₂ H₂ ex, PIf (compCx X scope (compN T F) C s₂ H₂ ex) ifs tc) (he : ∀ C s₂ H₂ ex, PE (compCx X scope (compN T F) C s₂ H₂ ex) elt te)
    (hsw : swapsWith (.ListComp elt [⟨tg, iter, ifs, 0⟩] scope pos) (some (.Name y py)) spos.line X.env = pure true := by rfl)
    (hclos : closureFor scope X.env = pure (clOf scope X.env) := by rfl) (hk : scope.kind = .function := by rfl) (ok : compOk X scope F = true := by rfl) (hs : ∀ x, foldedSetIterable iter X.env x = pure x := by intro _; rfl)
    (hfn : X.fn y = true ∨ X.env.scope.names.lookup y = some .local := by first | exact .inl rfl | exact .inr rfl | assumption) :
    PS X (.Assign [.Name y py] (.ListComp elt [⟨tg, iter, ifs, 0⟩] scope pos) spos) (fun D σ H => tComp T F wi g tc te σ H fun v H' => D.nx (σ.set i (some v)) H') := by
  intro pins s σ H D I h
  have ok' := ok
  unfold compOk at ok'
  simp only [Bool.and_eq_true] at ok'
  obtain ⟨⟨⟨ok1, ok2⟩, ok3⟩, ok4⟩ := ok'
  have hnames : ∀ x ∈ scope.names, x.2 = .local → scope.names.lookup x.1 = some .local := fun x hx z => by
    have := List.all_eq_true.mp ok2 x hx
    rw [z] at this
    simpa using this
  rw [exec_Assign_Name_used _ _ _ _ hsw]
  refine wpAny_bind (wpAny_standAt (wpAny_bind ?_))
  show wpAny _ X.A (do let _ ← comprehension (.ListComp elt [⟨tg, iter, ifs, 0⟩] scope pos) scope X.env _ (newList []) false (eval iter X.env) (some (assign (.Name y py) X.env))) _ _ s
  refine wpAny_bind (wpAny_mono (wpAny_comprehension_free (use := some (assign (.Name y py) X.env)) (Q := fun _ s' => SP X pins D .next s') rfl hs hclos hk hnames
    (thn (hi pins s σ H _ I h) fun v s1 h1 => thn h1 fun itv s2 h2 => ?_)) (fun _ s' hq => wpAny_pure (wpAny_pure hq)) fun _ _ e => e)
  obtain ⟨it, fp, tn, J, H2, e, I2, Tn, st2, f2, h3⟩ := h2
  subst e
  refine comp_core (RR := fun acc C => compPost (model X.prog X.w) X.A X.xe (some (assign (.Name y py) X.env)) (fun _ s' => SP X pins D .next s') acc C) (Q := fun Dd H' => D.nx (σ.set i (some (.ref Dd))) H') hc hk ok hg hif he I2 Tn st2 f2 h3 fun Dd s' σc H' I' q => ?_
  have I3 : Inv X pins σ H' s' := comp_end I2 f2 I' ⟨rfl, fun _ _ => rfl⟩
  obtain ⟨m, hn, _⟩ := I'.loc
  obtain ⟨oC, es, ep, hoC, hdC, hkC, hmC⟩ := hn
  have fC : H' (s2.heap.objs.size + 1) = none := I'.free
  have hle : s2.heap.objs.size ≤ s2.heap.objs.size + 1 := Nat.le_succ _
  have F0 := I2.fpOk (H' := H') hle fC
  obtain ⟨g0, g1, g2, g3, g4, g5⟩ := F0
  have I4 : Inv X (pins ++ [(s2.heap.objs.size + 1, oC)]) σ H' s' := I3.pins_of fun p hp => (List.mem_append.mp hp).elim (fun z => I3.pin p (List.mem_append_right _ z)) fun z => by
    have e : p = (s2.heap.objs.size + 1, oC) := by simpa using z
    subst e
    exact ⟨hoC, fC, g1, g2, fun v z => by rw [hdC] at z; cases z⟩
  show wpAny _ X.A (assign (.Name y py) X.env (.ref Dd)) _ _ _
  refine thn (pg_name (pos := py) hN hy hx hfn _ s' σ H' (.ref Dd) (.ref Dd) _ I4 rfl (show gName i (.ref Dd) σ H' D.nx from q)) fun _ s5 ⟨σ5, H5, I5, q5⟩ => ?_
  have p5 := I5.pin (s2.heap.objs.size + 1, oC) (List.mem_append_right _ (List.mem_append_right _ (by simp)))
  refine ⟨m, ⟨oC, es, ep, p5.1, hdC, hkC, hmC⟩, fun h' hs' => ?_⟩
  refine ⟨σ5, H5, ?_, q5⟩
  have I6 := I5.unpinned
  exact I6.turned (it := s2.heap.objs.size + 1) (t' := s5.toks) (fun b o hb e => (hs'.2 b hb).trans e) p5.2.1 g1 g3 g4 g5
end
end L2
end
section
set_option Elab.async false
set_option linter.all false
set_option maxRecDepth 100000
namespace L2
open PySem PySem.Spec PyProof.Rows
/-! ### what stands behind a value: data -/
mutual
def Den (H : Hp) : PyData → V → Prop
  | .none, v => v = .non
  | .bool b, v => v = .bl b
  | .int i, v => v = .int i
  | .str x, v => v = .str x
  | .tuple ds, v => ∃ a xs, v = .ref a ∧ H a = some (.tup xs) ∧ Dens H ds xs
  | .list ds, v => ∃ a xs, v = .ref a ∧ H a = some (.lst xs) ∧ Dens H ds xs
  | .dict _, _ => False
def Dens (H : Hp) : List PyData → List V → Prop
  | [], xs => xs = []
  | d :: ds, xs => ∃ x r, xs = x :: r ∧ Den H d x ∧ Dens H ds r
end
section
variable {X : Cx} {pins : List (Addr × Obj)} {σ : St} {H H' : Hp} {s : Shared} {K : PySem.W.Frag}
theorem Same.seqT {a : Addr} {xs : List V} (e : Same H H') (h : SqT K H a xs) : SqT K H' a xs := by
  rcases h with (h | ⟨o, h⟩) | h
  · exact .inl (.inl (e _ _ h))
  · exact .inl (.inr ⟨o, e _ _ h⟩)
  · exact .inr h
mutual
theorem Den.same (e : Same H H') : ∀ {d : PyData} {v : V}, Den H d v → Den H' d v
  | .none, v, h => by simp only [Den] at h ⊢; exact h
  | .bool b, v, h => by simp only [Den] at h ⊢; exact h
  | .int i, v, h => by simp only [Den] at h ⊢; exact h
  | .str x, v, h => by simp only [Den] at h ⊢; exact h
  | .tuple ds, v, h => by
    simp only [Den] at h ⊢
    obtain ⟨a, xs, e1, h1, h2⟩ := h
    exact ⟨a, xs, e1, e _ _ h1, Dens.same e h2⟩
  | .list ds, v, h => by
    simp only [Den] at h ⊢
    obtain ⟨a, xs, e1, h1, h2⟩ := h
    exact ⟨a, xs, e1, e _ _ h1, Dens.same e h2⟩
  | .dict _, v, h => by simp only [Den] at h
theorem Dens.same (e : Same H H') : ∀ {ds : List PyData} {xs : List V}, Dens H ds xs → Dens H' ds xs
  | [], xs, h => by simp only [Dens] at h ⊢; exact h
  | d :: ds, xs, h => by
    simp only [Dens] at h ⊢
    obtain ⟨x, r, e1, h1, h2⟩ := h
    exact ⟨x, r, e1, Den.same e h1, Dens.same e h2⟩
end
mutual
theorem den_reads (I : Inv X pins σ H s) : ∀ {d : PyData} {v : V} {u : Value}, Den H d v → RelV v u → ∃ as, Reads s.heap u d as
  | .none, v, u, h, r => by
    simp only [Den] at h
    subst h
    cases (show u = Value.none from r)
    exact ⟨_, .none⟩
  | .bool b, v, u, h, r => by
    simp only [Den] at h
    subst h
    cases (show u = Value.bool b from r)
    exact ⟨_, .bool b⟩
  | .int i, v, u, h, r => by
    simp only [Den] at h
    subst h
    obtain ⟨t, e⟩ := (show ∃ t, u = Value.int i t from r)
    subst e
    exact ⟨_, .int i t⟩
  | .str x, v, u, h, r => by
    simp only [Den] at h
    subst h
    obtain ⟨t, e⟩ := (show ∃ t, u = Value.str x t from r)
    subst e
    exact ⟨_, .str x t⟩
  | .tuple ds, v, u, h, r => by
    simp only [Den] at h
    obtain ⟨a, xs, e1, h1, h2⟩ := h
    subst e1
    cases (show u = Value.ref a from r)
    obtain ⟨its, rv, ⟨o, ho, hc, n, hd⟩, _⟩ := I.tuple (SqT.of h1)
    obtain ⟨as, ra⟩ := dens_reads I h2 rv
    exact ⟨as, .tuple ho hc hd (by simpa using ra)⟩
  | .list ds, v, u, h, r => by
    simp only [Den] at h
    obtain ⟨a, xs, e1, h1, h2⟩ := h
    subst e1
    cases (show u = Value.ref a from r)
    obtain ⟨its, rv, ⟨o, n, ho, hc, _, hd⟩, _⟩ := I.list (SqL.of h1)
    obtain ⟨as, ra⟩ := dens_reads I h2 rv
    exact ⟨a :: as, .list ho hc hd (by simpa using ra)⟩
  | .dict _, v, u, h, r => by simp only [Den] at h
theorem dens_reads (I : Inv X pins σ H s) : ∀ {ds : List PyData} {xs : List V} {us : List Value}, Dens H ds xs → Vals xs us → ∃ as, ReadsAll s.heap us ds as
  | [], xs, us, h, r => by
    simp only [Dens] at h
    subst h
    cases r
    exact ⟨_, .nil⟩
  | d :: ds, xs, us, h, r => by
    simp only [Dens] at h
    obtain ⟨x, rr, e1, h1, h2⟩ := h
    subst e1
    cases r with
    | cons r1 r2 =>
      obtain ⟨as, ra⟩ := den_reads I h1 r1
      obtain ⟨bs, rb⟩ := dens_reads I h2 r2
      exact ⟨_, .cons ra rb⟩
end
end
section
variable {X : Cx}
/-- == and != of data -/
def rEqD : R2 := fun x y H Q => ∃ d e, Den H d x ∧ Den H e y ∧ SeqAt.shaped d = true ∧ SeqAt.shaped e = true ∧ Q (.bl (PyData.eqv d e)) H
def rNeD : R2 := fun x y H Q => ∃ d e, Den H d x ∧ Den H e y ∧ SeqAt.shaped d = true ∧ SeqAt.shaped e = true ∧ Q (.bl (!PyData.eqv d e)) H
theorem op_neD (hu : X.A.units + 64 < cLine) : OpR X (compareOp .NotEq) rNeD := by
  intro pins s σ H x y v u Q I rx ry h
  obtain ⟨d, e, h1, h2, s1, s2, q⟩ := h
  obtain ⟨as, ra⟩ := den_reads I h1 rx
  obtain ⟨bs, rb⟩ := den_reads I h2 ry
  exact ne_dataH ra rb s1 s2 hu ⟨.bl _, H, I, rfl, q⟩
/-- isinstance(x, T) of one built-in class -/
def rIsi (K : PySem.W.Frag) : List V → Hp → VK → Prop := fun xs H Q => ∃ x n t b, xs = [x, .ty n] ∧ TyOf K H x t ∧ PySem.W.kitOne K t (.type n) = some b ∧ Q (.bl b) H
theorem call_isi : CallR X (.builtin "isinstance") (rIsi X.K) := by
  intro pins s σ H xs us Q I r h
  obtain ⟨x, n, t, b, rfl, ty, hk, q⟩ := h
  cases r with
  | cons r1 r2 =>
    cases r2 with
    | cons r2 r3 =>
      cases r3
      cases (show _ = Value.type n from r2)
      exact isinst_ok I r1 ty hk fun tk => ⟨.bl b, H, I.tok tk, rfl, q⟩
theorem same_upd {H : Hp} {p : Addr} {o : HO} (h : H p = none) : Same H (upd H p o) := fun b u e => by
  rw [upd_ne (ne_of_none e h)]
  exact e
/-- t + u of tuples, whatever they hold -/
def rCat2 : R2 := fun x y H Q => ∃ a b xs ys, x = .ref a ∧ y = .ref b ∧ H a = some (.tup xs) ∧ H b = some (.tup ys) ∧ xs.length + ys.length ≤ sizeLine ∧
  ∀ p H', Same H H' → H' p = some (.tup (xs ++ ys)) → Q (.ref p) H'
theorem op_cat2 : OpR X (binaryOp .Add) rCat2 := by
  intro pins s σ H x y v u Q I rx ry h
  obtain ⟨a, b, xs, ys, rfl, rfl, ha, hb, hz, q⟩ := h
  by_cases hx : xs = []
  · subst hx
    cases (show v = Value.ref a from rx)
    cases (show u = Value.ref b from ry)
    obtain ⟨its, r1, p1, _⟩ := I.tuple (SqT.of ha)
    obtain ⟨its2, r2, p2, _⟩ := I.tuple (SqT.of hb)
    cases r1
    obtain ⟨⟨cls, dd, data, sl⟩, ho, hc, n, hd⟩ := p1
    obtain ⟨⟨cls2, dd2, data2, sl2⟩, ho2, hc2, n2, hd2⟩ := p2
    simp only at hc hd hc2 hd2
    subst hc hd hc2 hd2
    refine concat_meets ⟨_, ho, rfl⟩ ⟨_, ho2, rfl⟩ noFill_tuple_add seq_tuple_add PySem.F.slot_tuple_add PySem.F.entry_tuple_add (PySem.F.args_tuple_add_2 _ _)
      (tuple_addW0 a b _ _ n n2 dd dd2 sl sl2 rfl) ⟨ho, ho2, ?_⟩
    exact ⟨.ref b, H, I, rfl, q b H (Same.refl H) hb⟩
  · refine op_catT pins s σ H (.ref a) (.ref b) v u Q I rx ry ⟨a, b, xs, ys, rfl, rfl, SqT.of ha, SqT.of hb, hx, hz, fun z => ?_, fun z p hp => q p _ (same_upd hp) upd_same⟩
    subst z
    refine q a H (Same.refl H) ?_
    rw [List.append_nil]
    exact ha
/-- sum(xs) of ints -/
def rSum (K : PySem.W.Frag) : List V → Hp → VK → Prop := fun xs H Q => ∃ (p : Addr) (ns : List Int), xs = [.ref p] ∧ (SqL K H p (ns.map V.int) ∨ SqT K H p (ns.map V.int)) ∧ Q (.int ns.sum) H
end
end L2
end
section
set_option Elab.async false
set_option linter.all false
set_option maxRecDepth 100000
namespace L2
open PySem PySem.Spec PyProof.Rows
/-! ### enumerate -/
section
variable {prog : Program} {w : World} {A : Around} {E : Value → Shared → Prop} {s : Shared}
/-- a call of a built-in class with keywords, whose __init__ is object's -/
theorem typeCallKw {T nid : String} {Bn : Builtin} {as : List Value} {kw : List (Str × Value)} {S : PySem.Spec} {Q : Value → Shared → Prop} (tc : TypeCalled T nid "object.__init__")
    (hct : checkTypeCall T ⟨as, kw⟩ = pure ()) (hcn : checkBuiltinCall nid ⟨.type T :: as, kw⟩ = pure ()) (ent : entryFor table nid = some Bn) (g : Meets (Bn ⟨.type T :: as, kw⟩) S)
    (hi : ∀ (obj : Value), argsOk "object.__init__" ⟨obj :: as, kw⟩) (gi : ∀ (obj : Value), Meets (Builtin.«object.__init__» ⟨obj :: as, kw⟩) (fun _ R s => s.TypeIs obj T ∧ R (.ok (.ret .none)) s))
    (h : S A.in1 (wants (fun obj s₁ => s₁.TypeIs obj T ∧ Q obj s₁) E) s) : wpAny (model prog w) A (call (.type T) as kw) Q E s := by
  obtain ⟨c0, t0, e0⟩ := tc.mro
  have e1 := tc.made
  have e2 := tc.sub
  refine wpAny_call (codeAny_of_tree ?tree)
  case tree =>
    show wpAny _ _ (callAny (.type T) _) _ _ _
    refine wpAny_pure ⟨Code.quiet_builtin _ (by decide +kernel), codeAny_builtin PySem.F.entry_type_call ?inner⟩
    rw [Around.under_plain (weight_type_call_type T as kw) (units_type_call_type T as kw)]
    have e3 := tc.notType
    have e4 := tc.canCreate
    repeat (any_goals (first | assumption | wp_step))
    refine codeAny_mono (codeAny_call_builtin tc.plain ent (wpAny_of_eq hcn (g prog w A.in1 _ s h))) fun r1 s1 q1 => ?_
    cases r1 with
    | error ex => exact q1
    | ok f1 =>
      cases f1 with
      | ret ob =>
        have q1' : s1.TypeIs ob T ∧ Q ob s1 := q1
        obtain ⟨ty, q2⟩ := q1'
        have e5 := tc.init.lookup
        have e6 := tc.init.bind ob
        repeat (any_goals (first | assumption | wp_step))
        refine codeAny_mono (codeAny_call_builtin tc.init.plain PySem.F.entry_object_init (tc.init.check _ _ _ _ _ _ _ _ ty (hi ob) (gi ob prog w A.in1 (wants (fun r s₂ => r = .none ∧ Q ob s₂) E) s1 ⟨ty, rfl, q2⟩))) fun r2 s2 q3 => ?_
        cases r2 with
        | error ex => exact q3
        | ok f2 =>
          cases f2 with
          | ret rr =>
            obtain ⟨rfl, q4⟩ := q3
            repeat (any_goals (first | assumption | wp_step))
          | _ => exact q3.elim
      | _ => exact q1.elim
end
end L2
end
section
set_option Elab.async false
set_option linter.all false
set_option maxRecDepth 100000
namespace L2
open PySem PySem.Spec PyProof.Rows
section
variable {prog : Program} {w : World} {A : Around} {E : Value → Shared → Prop} {s : Shared}
theorem nextTup {it t : Addr} {i : Nat} {items : Array Value} {x : Value} {Q : Value → Shared → Prop} (hit : s.heap.IsTupleIter it t i) (ht : s.heap.IsTuple t items) (hx : items[i]? = some x)
    (hQ : ∀ h', h'.IsTupleIter it t (i + 1) → Heap.SameBut it s.heap h' → Q x { s with heap := h' }) : wpAny (model prog w) A (Builtin.SmallTypes.nextOf (.ref it)) Q E s := by
  obtain ⟨oi, hoi, hci, hdi⟩ := id hit
  obtain ⟨ot, hot, _, nt, hdt⟩ := ht
  unfold Builtin.SmallTypes.nextOf
  refine wpAny_bind (wpAny_callSpecial?_slot (name := Str.ofString "__next__") hit.typeIs PySem.F.slot_tuple_iterator_next (wpAny_call_entry PySem.F.slot_tuple_iterator_next hit.typeIs PySem.F.entry_tuple_iterator_next ?nx (PySem.F.args_tuple_iterator_next_1 _)))
  case nx =>
    show wpAny _ _ (field (.ref it) 0 >>= _) _ _ s
    refine wpAny_bind (wpAny_field hoi hdi (x := .ref t) rfl ?_)
    show wpAny _ _ (if (Value.ref t == Value.none) = true then _ else _) _ _ s
    rw [if_neg (show ¬ ((Value.ref t == Value.none) = true) from Bool.false_ne_true)]
    show wpAny _ _ (field (.ref it) 1 >>= _) _ _ s
    refine wpAny_bind (wpAny_field hoi hdi (x := .int i 0) rfl ?_)
    show wpAny _ _ (seqItems? (.ref t) >>= _) _ _ s
    refine wpAny_bind (wpAny_seqItems hot hdt ?_)
    simp only [Int.toNat_natCast, hx]
    refine wpAny_bind (wpAny_setField hoi hdi (by simp) (wpAny_pure ⟨x, rfl, wpAny_pure (hQ _ ⟨_, Heap.get?_update_self _ hoi (Obj.isFreed_of_fields (Obj.data_mapFields hdi _)), (Obj.cls_mapFields ..).trans hci, ?_⟩ (Heap.SameBut.update ..))⟩))
    rw [Obj.data_mapFields hdi]
    simp [rawInt]
/-- one step of an enumerate over a tuple, counted from lo -/
theorem enumStep {e it t : Addr} {i : Nat} {lo : Int} {items : Array Value} {x old : Value} {Q : Option Value → Shared → Prop}
    (he : IsEnum s.heap e it (lo + i) old) (hit : s.heap.IsTupleIter it t i) (ht : s.heap.IsTuple t items) (hx : items[i]? = some x) (hne : e ≠ it)
    (hQ : ∀ h', IsEnumOut h' e it (lo + i + 1) x s.heap.objs.size → h'.IsTupleIter it t (i + 1) →
      h'.get? s.heap.objs.size = some { cls := .type "tuple", data := .seq #[.int (lo + i) s.toks, x] } → (∀ b o, b ≠ e → b ≠ it → s.heap.get? b = some o → h'.get? b = some o) →
      Q (some (.ref s.heap.objs.size)) { s with heap := h', toks := s.toks + 1 }) : wpAny (model prog w) A (pyNext (.ref e)) Q E s := by
  have ty : s.TypeIs (.ref e) "enumerate" := ⟨_, he, rfl⟩
  unfold pyNext
  refine wpAny_bind (wpAny_attempt (wpAny_callSpecial?_slot (name := Str.ofString "__next__") ty PySem.F.slot_enumerate_next (wpAny_call_entry PySem.F.slot_enumerate_next ty PySem.F.entry_enumerate_next ?nx (PySem.F.args_enumerate_next_1 _))))
  case nx =>
    obtain ⟨hp, g, d, tk, os⟩ := s
    show wpAny _ _ (field (.ref e) 2 >>= _) _ _ _
    refine wpAny_bind (wpAny_field he rfl (x := .ref it) rfl ?_)
    refine wpAny_bind (nextTup hit ht hx fun k1 hit1 sb1 => ?_)
    replace sb1 : Heap.SameBut it hp k1 := sb1
    have g1 : IsEnum k1 e it (lo + i) old := (sb1.2 e hne).trans he
    show wpAny _ _ (field (.ref e) 3 >>= _) _ _ ⟨k1, g, d, tk, os⟩
    refine wpAny_bind (wpAny_field g1 rfl (x := rawInt (lo + i)) rfl ?_)
    show wpAny _ _ (field (.ref e) 4 >>= _) _ _ ⟨k1, g, d, tk, os⟩
    refine wpAny_bind (wpAny_field g1 rfl (x := .none) rfl ?_)
    show wpAny _ _ (mkInt (lo + i) >>= _) _ _ ⟨k1, g, d, tk, os⟩
    refine wpAny_bind (wpAny_mkInt ?_)
    show wpAny _ _ (setField (.ref e) 3 (rawInt (lo + i + 1)) >>= _) _ _ ⟨k1, g, d, tk + 1, os⟩
    refine wpAny_bind (wpAny_setField_rec g1 (by simp) fun k2 g2 sb2 => ?_)
    replace sb2 : Heap.SameBut e k1 k2 := sb2
    replace g2 : IsEnum k2 e it (lo + i + 1) old := g2
    show wpAny _ _ (setField (.ref e) 4 .none >>= _) _ _ ⟨k2, g, d, tk + 1, os⟩
    refine wpAny_bind (wpAny_setField_rec g2 (by simp) fun k3 g3 sb3 => ?_)
    replace sb3 : Heap.SameBut e k2 k3 := sb3
    replace g3 : IsEnum k3 e it (lo + i + 1) old := g3
    show wpAny _ _ (newTuple [.int (lo + i) tk, x] >>= _) _ _ ⟨k3, g, d, tk + 1, os⟩
    refine wpAny_bind (wpAny_newTuple ?_)
    have g4 : IsEnum (k3.push { cls := .type "tuple", data := .seq #[.int (lo + i) tk, x] }) e it (lo + i + 1) old := Heap.get?_push_of_some _ g3
    generalize hk4 : k3.push { cls := .type "tuple", data := .seq #[.int (lo + i) tk, x] } = k4 at g4
    have sz : k3.objs.size = hp.objs.size := by rw [sb3.1, sb2.1, sb1.1]
    have el : e < hp.objs.size := Heap.lt_size he
    have t4 : k4.get? hp.objs.size = some { cls := .type "tuple", data := .seq #[.int (lo + i) tk, x] } := by
      rw [← hk4, ← sz]
      exact Heap.get?_push_size _ rfl
    have kp4 : ∀ b o, b ≠ e → b ≠ it → hp.get? b = some o → k4.get? b = some o := fun b o n1 n2 q => by
      rw [← hk4]
      exact Heap.get?_push_of_some _ (sb3.extBut b o n1 (sb2.extBut b o n1 (sb1.extBut b o n2 q)))
    have hit4 : k4.IsTupleIter it t (i + 1) := by
      obtain ⟨o, ho, r⟩ := hit1
      rw [← hk4]
      exact ⟨o, Heap.get?_push_of_some _ (sb3.extBut it o (Ne.symm hne) (sb2.extBut it o (Ne.symm hne) ho)), r⟩
    show wpAny _ _ (Builtin.SmallTypes.ownedTupleIsFree (.ref e) >>= _) _ _ ⟨k4, g, d, tk + 1, os⟩
    rw [sz]
    clear hk4 g3 sb3 g2 sb2 g1 sb1 hit1 sz k3 k2 k1
    refine wpAny_bind ?_
    unfold Builtin.SmallTypes.ownedTupleIsFree
    refine wpAny_bind (wpAny_field g4 rfl (x := .none) rfl (wpAny_pure ?_))
    simp only [if_true]
    refine wpAny_bind (wpAny_rule ?_)
    refine wpAny_bind (wpAny_field g4 rfl (x := old) rfl ?_)
    refine wpAny_bind (wpAny_setField_rec g4 (by simp) fun k5 g5 sb5 => ?_)
    replace sb5 : Heap.SameBut e k4 k5 := sb5
    replace g5 : IsEnum k5 e it (lo + i + 1) x := g5
    show wpAny _ _ (Builtin.SmallTypes.ownedTupleHandOut (.ref e) (.ref hp.objs.size) >>= _) _ _ ⟨k5, g, d, tk + 1, os⟩
    refine wpAny_bind ?_
    unfold Builtin.SmallTypes.ownedTupleHandOut
    refine wpAny_bind (wpAny_setField_rec g5 (by simp) fun k6 g6 sb6 => ?_)
    replace sb6 : Heap.SameBut e k5 k6 := sb6
    replace g6 : IsEnumOut k6 e it (lo + i + 1) x hp.objs.size := g6
    refine wpAny_setField_rec g6 (by simp) fun k7 g7 sb7 => ?_
    replace sb7 : Heap.SameBut e k6 k7 := sb7
    replace g7 : IsEnumOut k7 e it (lo + i + 1) x hp.objs.size := g7
    refine wpAny_bind (wpAny_letGo (wpAny_pure ⟨_, rfl, wpAny_pure (hQ k7 g7 ?_ ?_ ?_)⟩))
    · obtain ⟨o, ho, r⟩ := hit4
      exact ⟨o, sb7.extBut it o (Ne.symm hne) (sb6.extBut it o (Ne.symm hne) (sb5.extBut it o (Ne.symm hne) ho)), r⟩
    · exact sb7.extBut _ _ (Nat.ne_of_gt el) (sb6.extBut _ _ (Nat.ne_of_gt el) (sb5.extBut _ _ (Nat.ne_of_gt el) t4))
    · exact fun b o n1 n2 q => sb7.extBut b o n1 (sb6.extBut b o n1 (sb5.extBut b o n1 (kp4 b o n1 n2 q)))
end
/-- the tuple at a, its items with their places counted from lo -/
def Ite (K : PySem.W.Frag) (lo : Int) (a : Addr) : It :=
  ⟨fun i H => ∃ xs x, SqT K H a xs ∧ xs[i]? = some x, fun i H x H' => ∃ p v, x = .ref p ∧ H p = none ∧ H' = upd H p (.tup [.int (lo + i), v]) ∧ ∀ xs, SqT K H a xs → xs[i]? = some v, fun i H => ∃ xs, SqT K H a xs ∧ xs.length ≤ i⟩
section
variable {X : Cx} {pins : List (Addr × Obj)} {σ : St} {H : Hp} {s : Shared}
def iEnum (K : PySem.W.Frag) (lo : Int) (ta : TE) : TI := fun σ H R => ta σ H fun x H1 => ∃ a xs, x = .ref a ∧ SqT K H1 a xs ∧ R (Ite K lo a) H1
end
end L2
end
section
set_option Elab.async false
set_option linter.all false
set_option maxRecDepth 100000
namespace L2
open PySem PySem.Spec PyProof.Rows
/-! ### all(..) of a list of bools; t.index(x) of texts; t * k -/
section
variable {X : Cx}
def rAll (K : PySem.W.Frag) : List V → Hp → VK → Prop := fun xs H Q => ∃ (p : Addr) (bs : List Bool), xs = [.ref p] ∧ SqL K H p (bs.map V.bl) ∧ Q (.bl (bs.all id)) H
theorem bools_of {bs : List Bool} : ∀ {us : List Value}, Vals (bs.map V.bl) us → ∀ i v, us.toArray[i]? = some v → v = Value.bool (bs.getD i false) := by
  intro us r i v hv
  have hv : us[i]? = some v := by simpa using hv
  have hl : i < us.length := (List.getElem?_eq_some_iff.mp hv).1
  have hn : i < bs.length := by
    have := r.length
    rw [List.length_map] at this
    omega
  obtain ⟨u, hu, ru⟩ := r.get (i := i) (x := V.bl bs[i]) (by simp [hn])
  rw [hv] at hu
  cases hu
  have e : v = Value.bool bs[i] := ru
  rw [e]
  simp [List.getD, hn]
theorem all_getD (bs : List Bool) : ((List.range bs.length).all fun i => bs.getD i false) = bs.all id := by
  rw [Bool.eq_iff_iff, List.all_eq_true, List.all_eq_true]
  constructor
  · intro h b hb
    obtain ⟨i, hi, e⟩ := List.mem_iff_getElem.mp hb
    have := h i (List.mem_range.mpr hi)
    simp [List.getD, hi, e] at this
    simpa using this
  · intro h i hi
    have hi := List.mem_range.mp hi
    have := h bs[i] (List.getElem_mem hi)
    simpa [List.getD, hi] using this
theorem call_allB (hc : X.calm = true) : CallR X (.builtin "all") (rAll X.K) := by
  intro pins s σ H xs us Q I r h
  obtain ⟨p, bs, rfl, hs, q⟩ := h
  cases r with
  | cons r1 r2 =>
    cases r2
    cases (show _ = Value.ref p from r1)
    have hh : X.A.in1.handled = none := I.ok.hd hc
    refine call_all_walk ?_
    obtain ⟨its, rv, pl, hz⟩ := I.list hs
    have hlen : its.toArray.size = bs.length := by
      have := rv.length
      rw [List.length_map] at this
      simp [this]
    have ne : p ≠ s.heap.objs.size := by
      obtain ⟨o, n, ho, _⟩ := pl
      exact Nat.ne_of_lt (Heap.lt_size ho)
    refine wpAny_pyIter_list pl.isList ⟨s.heap.objs.size, _, _, _, _, _, (fun i => bs.getD i false), rfl, Walks.list hh s.heap.objs.size p ne its.toArray, ⟨⟨_, Heap.get?_push_size _ rfl, rfl, rfl⟩, ?_⟩, fun i v s' Q' E' hv hq => ?_, fun h' tk hk => ?_⟩
    · obtain ⟨o, n, ho, hc1, hd1, hd2⟩ := pl
      exact ⟨o, Heap.get?_push_of_some _ ho, hc1, n, hd2⟩
    · rw [bools_of rv i v hv]
      exact wpAny_truthy_bool hq
    · rw [hlen, all_getD]
      refine ⟨.bl _, H, I.kept (t' := tk) fun b u e => hk b u (by simpa using Nat.ne_of_lt (Heap.lt_size e)) (Heap.get?_push_of_some _ e), rfl, q⟩
theorem rng_go {M : Model} {A : Around} {E : Value → Shared → Prop} {s : Shared} {β : Type} {hi : Nat} (f : Nat → β → Sem (ForInStep β)) (I : List Nat → β → Shared → Prop) (Q : β → Shared → Prop)
    (turn : ∀ x rest b s, I (x :: rest) b s → wpAny M A (f x b) (fun r s' => match r with | .yield b' => I rest b' s' | .done b' => Q b' s') E s)
    (fin : ∀ b s, I [] b s → Q b s) (b : β) (h : I (List.range' 0 hi) b s) : wpAny M A (forIn [0:hi] b f) Q E s := by
  rw [Std.Legacy.Range.forIn_eq_forIn_range']
  refine wpAny_forIn_list f I Q turn fin _ b ?_
  simpa [Std.Legacy.Range.size] using h
def rIndex (K : PySem.W.Frag) : V → List V → Hp → VK → Prop := fun x vs H Q => ∃ (a : Addr) (ks : List Str) (k : Str) (j : Nat), x = .ref a ∧ vs = [.str k] ∧ SqT K H a (ks.map V.str) ∧ ks[j]? = some k ∧ (∀ i, i < j → ks[i]? ≠ some k) ∧ Q (.int j) H
end
end L2
end
section
set_option Elab.async false
set_option linter.all false
set_option maxRecDepth 100000
namespace L2
open PySem PySem.Spec PyProof.Rows
section
variable {X : Cx}
/-- t * k, k two or more, of a tuple that holds something -/
def rRepT (K : PySem.W.Frag) : R2 := fun x y H Q => ∃ (a : Addr) (k : Int) (xs : List V), x = .ref a ∧ y = .int k ∧ SqT K H a xs ∧ xs ≠ [] ∧ 2 ≤ k ∧ k ≤ 1000 ∧ xs.length ≤ 1000 ∧ ∀ p, H p = none → Q (.ref p) (upd H p (.tup (List.replicate k.toNat xs).flatten))
end
end L2
end
section
set_option Elab.async false
set_option linter.all false
set_option maxRecDepth 100000
namespace L2
open PySem PySem.Spec PyProof.Rows
/-! ### what is walked, as long as all that stood stays -/
structure Src (J : It) (H : Hp) (n : Nat) (Y : Nat → V → Hp → Prop) : Prop where
  go : ∀ i H', i < n → Same H H' → J.go i H'
  yld : ∀ i H' x H'', i < n → Same H H' → J.yld i H' x H'' → Same H' H'' ∧ Y i x H''
  stop : ∀ H', Same H H' → J.stop n H'
section
variable {K : PySem.W.Frag} {H : Hp} {a : Addr} {xs : List V}
theorem src_list (h : SqL K H a xs) : Src (Itl K a) H xs.length (fun i x _ => xs[i]? = some x) where
  go := fun i H' hi s => ⟨xs, xs[i], s.seq h, by simp [hi]⟩
  yld := fun i H' x H'' hi s y => ⟨by rw [y.1]; exact Same.refl _, y.2 xs (s.seq h)⟩
  stop := fun H' s => ⟨xs, s.seq h, Nat.le_refl _⟩
theorem src_tup (h : SqT K H a xs) : Src (Itt K a) H xs.length (fun i x _ => xs[i]? = some x) where
  go := fun i H' hi s => ⟨xs, xs[i], s.seqT h, by simp [hi]⟩
  yld := fun i H' x H'' hi s y => ⟨by rw [y.1]; exact Same.refl _, y.2 xs (s.seqT h)⟩
  stop := fun H' s => ⟨xs, s.seqT h, Nat.le_refl _⟩
theorem src_range (lo : Int) (n : Nat) : Src (Itr lo n) H n (fun i x _ => x = .int (lo + i)) where
  go := fun i H' hi s => hi
  yld := fun i H' x H'' hi s y => ⟨by rw [y.1]; exact Same.refl _, y.2⟩
  stop := fun H' s => Nat.le_refl _
end
/-- all that was tracked is as it was, but for lists -/
def SameN (H H' : Hp) : Prop := ∀ b o, H b = some o → (∀ zs, o ≠ .lst zs) → H' b = some o
theorem Same.n {H H' : Hp} (s : Same H H') : SameN H H' := fun b o e _ => s b o e
theorem sameN_lst {H : Hp} {D : Addr} {ys zs : List V} (h : H D = some (.lst ys)) : SameN H (upd H D (.lst zs)) := fun b o e n => by
  rw [upd_ne (fun z => by rw [z, h] at e; exact n ys (Option.some.inj e).symm)]
  exact e
/-- a comprehension without tests: R of each item and the heap, which stays true as the heap grows -/
theorem comp_src {J : It} {H : Hp} {n : Nat} {Y : Nat → V → Hp → Prop} {T : List Str} {F : List (Str × Nat)} {σ : St} {g : TG} {te : TE} {Q : VK} (S : Src J H n Y) (hn : n ≤ sizeLine) (R : Nat → V → Hp → Prop) (stab : ∀ i y H1 H2, SameN H1 H2 → R i y H1 → R i y H2) (Z : St → Prop) (h0 : Z (compIn T F σ))
    (step : ∀ i x σc H3, i < n → Z σc → Same H H3 → Y i x H3 → ∀ (Q' : St → V → Hp → Prop), (∀ σ4 y H6, Z σ4 → Same H3 H6 → R i y H6 → Q' σ4 y H6) → g x σc H3 fun σ4 H4 => te σ4 H4 fun y H6 => Q' σ4 y H6)
    (fin : ∀ D ys H', H D = none → Same H H' → H' D = some (.lst ys) → ys.length = n → (∀ i y, ys[i]? = some y → R i y H') → Q (.ref D) H') :
    compBody T F g tTrue te σ Q J H := by
  intro D hD
  refine ⟨fun i m ys σc H2 => m = n - i ∧ i ≤ n ∧ Z σc ∧ Same H H2 ∧ H2 D = some (.lst ys) ∧ ys.length = i ∧ ∀ j y, ys[j]? = some y → R j y H2, ⟨n, rfl, Nat.zero_le _, h0, same_upd hD, upd_same, rfl, fun j y e => by simp at e⟩, ?_⟩
  rintro i m ys σc H2 ⟨rfl, hi, hz, hs, hd, hl, hr⟩
  refine ⟨hd, ?_⟩
  by_cases hlt : i < n
  · refine .inr ⟨S.go i H2 hlt hs, by omega, fun x H3 y => ?_⟩
    obtain ⟨s3, y3⟩ := S.yld i H2 x H3 hlt hs y
    simp only [tTrue, if_true]
    refine step i x σc H3 hlt hz (hs.trans s3) y3 (fun σ4 y H6 => H6 D = some (.lst ys) ∧ ∃ m', m' < n - i ∧ m' = n - (i + 1) ∧ i + 1 ≤ n ∧ Z σ4 ∧ Same H (upd H6 D (.lst (ys ++ [y]))) ∧ (upd H6 D (.lst (ys ++ [y]))) D = some (.lst (ys ++ [y])) ∧ (ys ++ [y]).length = i + 1 ∧ ∀ j z, (ys ++ [y])[j]? = some z → R j z (upd H6 D (.lst (ys ++ [y])))) fun σ4 y H6 z4 s6 r6 => ?_
    have d6 : H6 D = some (.lst ys) := s6 _ _ (s3 _ _ hd)
    have sU : ∀ {H1 : Hp}, Same H1 H6 → H1 D = none → Same H1 (upd H6 D (.lst (ys ++ [y]))) := fun {H1} s b => fun c u e => by
      rw [upd_ne (ne_of_none e b)]
      exact s c u e
    refine ⟨d6, n - (i + 1), by omega, rfl, hlt, z4, sU ((hs.trans s3).trans s6) hD, upd_same, by rw [List.length_append, hl]; rfl, fun j z e => ?_⟩
    have up := sameN_lst (zs := ys ++ [y]) d6
    by_cases hj : j < ys.length
    · rw [List.getElem?_append_left hj] at e
      exact stab _ _ _ _ up (stab _ _ _ _ (s3.trans s6).n (hr j z e))
    · have hj2 : j = ys.length := by
        have := (List.getElem?_eq_some_iff.mp e).1
        rw [List.length_append] at this
        simp at this
        omega
      subst hj2
      rw [List.getElem?_append_right (Nat.le_refl _)] at e
      simp at e
      subst e
      rw [hl]
      exact stab _ _ _ _ up r6
  · have hin : i = n := by omega
    subst hin
    exact .inl ⟨S.stop H2 hs, fin D ys H2 hD hs hd hl hr⟩
/-! ### data and heaps -/
mutual
/-- no list within -/
def tupD : PyData → Bool
  | .none | .bool _ | .int _ | .str _ => true
  | .tuple ds => tupDs ds
  | _ => false
def tupDs : List PyData → Bool
  | [] => true
  | d :: ds => tupD d && tupDs ds
end
mutual
theorem Den.n {H H' : Hp} (e : SameN H H') : ∀ {d : PyData} {v : V}, tupD d = true → Den H d v → Den H' d v
  | .none, v, t, h => by simp only [Den] at h ⊢; exact h
  | .bool b, v, t, h => by simp only [Den] at h ⊢; exact h
  | .int i, v, t, h => by simp only [Den] at h ⊢; exact h
  | .str x, v, t, h => by simp only [Den] at h ⊢; exact h
  | .tuple ds, v, t, h => by
    simp only [Den] at h ⊢
    simp only [tupD] at t
    obtain ⟨a, xs, e1, h1, h2⟩ := h
    exact ⟨a, xs, e1, e _ _ h1 (fun zs z => by cases z), Dens.n e t h2⟩
  | .list ds, v, t, h => by simp [tupD] at t
  | .dict _, v, t, h => by simp only [Den] at h
theorem Dens.n {H H' : Hp} (e : SameN H H') : ∀ {ds : List PyData} {xs : List V}, tupDs ds = true → Dens H ds xs → Dens H' ds xs
  | [], xs, t, h => by simp only [Dens] at h ⊢; exact h
  | d :: ds, xs, t, h => by
    simp only [Dens] at h ⊢
    simp only [tupDs, Bool.and_eq_true] at t
    obtain ⟨x, r, e1, h1, h2⟩ := h
    exact ⟨x, r, e1, Den.n e t.1 h1, Dens.n e t.2 h2⟩
end
def tyD : PyData → Value
  | .none => .type "NoneType"
  | .bool _ => .type "bool"
  | .int _ => .type "int"
  | .str _ => .type "str"
  | .tuple _ => .type "tuple"
  | .list _ => .type "list"
  | .dict _ => .type "dict"
theorem Den.ty {K : PySem.W.Frag} {H : Hp} : ∀ {d : PyData} {v : V}, Den H d v → TyOf K H v (tyD d)
  | .none, v, h => by simp only [Den] at h; subst h; exact .non
  | .bool b, v, h => by simp only [Den] at h; subst h; exact .bl b
  | .int i, v, h => by simp only [Den] at h; subst h; exact .int i
  | .str x, v, h => by simp only [Den] at h; subst h; exact .str x
  | .tuple ds, v, h => by
    simp only [Den] at h
    obtain ⟨a, xs, e1, h1, h2⟩ := h
    subst e1
    exact .tup h1
  | .list ds, v, h => by
    simp only [Den] at h
    obtain ⟨a, xs, e1, h1, h2⟩ := h
    subst e1
    exact .lst h1
  | .dict _, v, h => by simp only [Den] at h
theorem dens_ints {H : Hp} : ∀ {ns : List Int} {xs : List V}, Dens H (ns.map PyData.int) xs ↔ xs = ns.map V.int
  | [], xs => by simp [Dens]
  | n :: ns, xs => by
    simp only [List.map_cons, Dens, Den]
    constructor
    · rintro ⟨x, r, e1, e2, h⟩
      subst e2
      rw [e1, dens_ints.mp h]
    · intro h
      exact ⟨_, _, h, rfl, dens_ints.mpr rfl⟩
theorem Dens.length {H : Hp} : ∀ {ds : List PyData} {xs : List V}, Dens H ds xs → xs.length = ds.length
  | [], xs, h => by simp only [Dens] at h; subst h; rfl
  | d :: ds, xs, h => by
    simp only [Dens] at h
    obtain ⟨x, r, e1, _, h2⟩ := h
    rw [e1, List.length_cons, List.length_cons, Dens.length h2]
theorem Dens.get {H : Hp} : ∀ {ds : List PyData} {xs : List V} {i : Nat} {x : V}, Dens H ds xs → xs[i]? = some x → ∃ d, ds[i]? = some d ∧ Den H d x
  | [], xs, i, x, h, e => by simp only [Dens] at h; subst h; simp at e
  | d :: ds, xs, 0, x, h, e => by
    simp only [Dens] at h
    obtain ⟨y, r, e1, h1, _⟩ := h
    subst e1
    simp at e
    subst e
    exact ⟨d, rfl, h1⟩
  | d :: ds, xs, i + 1, x, h, e => by
    simp only [Dens] at h
    obtain ⟨y, r, e1, _, h2⟩ := h
    subst e1
    simp at e
    obtain ⟨d', e', h'⟩ := Dens.get h2 e
    exact ⟨d', by simpa using e', h'⟩
/-- classes of data -/
theorem kit_bool {K : PySem.W.Frag} (d : PyData) : PySem.W.kitOne K (tyD d) (.type "bool") = some (match d with | .bool _ => true | _ => false) := by
  cases d <;> rfl
theorem kit_int {K : PySem.W.Frag} (d : PyData) : PySem.W.kitOne K (tyD d) (.type "int") = some (match d with | .bool _ => true | .int _ => true | _ => false) := by
  cases d <;> rfl
theorem kit_str {K : PySem.W.Frag} (d : PyData) : PySem.W.kitOne K (tyD d) (.type "str") = some (match d with | .str _ => true | _ => false) := by
  cases d <;> rfl
theorem kit_tuple {K : PySem.W.Frag} (d : PyData) : PySem.W.kitOne K (tyD d) (.type "tuple") = some (match d with | .tuple _ => true | _ => false) := by
  cases d <;> rfl
theorem kit_list {K : PySem.W.Frag} (d : PyData) : PySem.W.kitOne K (tyD d) (.type "list") = some (match d with | .list _ => true | _ => false) := by
  cases d <;> rfl
end L2
end
section
set_option Elab.async false
set_option linter.all false
set_option maxRecDepth 100000
namespace L2
open PySem PySem.Spec PyProof.Rows
/-! ### the same rules, the fragment by its name -/
section
variable {X : Cx}
theorem ix_listK (K : PySem.W.Frag) (hK : X.K = K := by rfl) : IxR X (rIxL K) := by
  subst hK
  exact ix_list
def rLen (K : PySem.W.Frag) : List V → Hp → VK → Prop := fun xs H Q => ∃ p ys, xs = [.ref p] ∧ (SqL K H p ys ∨ SqT K H p ys) ∧ Q (.int ys.length) H
theorem call_lenK (K : PySem.W.Frag) (hK : X.K = K := by rfl) : CallR X (.builtin "len") (rLen K) := by
  subst hK
  exact call_len_seq
theorem call_isiK (K : PySem.W.Frag) (hK : X.K = K := by rfl) : CallR X (.builtin "isinstance") (rIsi K) := by
  subst hK
  exact call_isi
theorem call_allK (K : PySem.W.Frag) (hc : X.calm = true := by rfl) (hK : X.K = K := by rfl) : CallR X (.builtin "all") (rAll K) := by
  subst hK
  exact call_allB hc
def rTupleOf (K : PySem.W.Frag) : List V → Hp → VK → Prop := fun xs H Q => ∃ p ys, xs = [.ref p] ∧ ((SqL K H p ys ∧ ∀ l, H l = none → Q (.ref l) (upd H l (.tup ys))) ∨ (SqT K H p ys ∧ Q (.ref p) H))
theorem call_tupleK (K : PySem.W.Frag) (hK : X.K = K := by rfl) : CallR X (.type "tuple") (rTupleOf K) := by
  subst hK
  exact call_tuple_of
def rListOf (K : PySem.W.Frag) : List V → Hp → VK → Prop := fun xs H Q => ∃ p ys, xs = [.ref p] ∧ (SqL K H p ys ∨ SqT K H p ys) ∧ ∀ l, H l = none → Q (.ref l) (upd H l (.lst ys))
theorem sl_listK (K : PySem.W.Frag) (hK : X.K = K := by rfl) : SlR X (rSlL K) := by
  subst hK
  exact sl_list
theorem pg_tupK (K : PySem.W.Frag) {es : List Expr} {k : Nat} {t : TGs} {n : Nat} {pos : Pos} (h : PGs X es t) (hc : X.calm = true := by rfl) (hK : X.K = K := by rfl) (hn : (assignEach es X.env).length = n := by rfl) (hst : (assignEach es X.env).findIdx? (·.1) = none := by rfl) : PG X (.Tuple es k pos) (gTup K n t) := by
  subst hK
  exact pg_tup hc h hn hst
theorem pi_listK (K : PySem.W.Frag) {tg l : Expr} {tl : TE} (hl : PE X l tl) (hK : X.K = K := by rfl) : PI X tg l (iList K tl) := by
  subst hK
  exact pi_list hl
theorem pi_tupK (K : PySem.W.Frag) {tg l : Expr} {tl : TE} (hl : PE X l tl) (hK : X.K = K := by rfl) : PI X tg l (iTup K tl) := by
  subst hK
  exact pi_tup hl
end
end L2
end
section
set_option Elab.async false
set_option linter.all false
set_option maxRecDepth 100000
namespace L2
open PySem PySem.Spec PyProof.Rows
/-! ### a tuple whose methods are asked: known to the object -/
def TupM (K : PySem.W.Frag) (H : Hp) (x : V) : Prop := ∃ p, x = .ref p ∧ ((∃ o u, H p = some (.frz o u) ∧ o.cls = .type "tuple" ∧ o.dict = none) ∨ ∃ o, K.lookup p = some o ∧ o.cls = .type "tuple" ∧ o.dict = none)
def tTupF (t : TA) : TE := fun σ H Q => t σ H fun xs H1 => xs.length ≤ sizeLine ∧ ∀ p o, H1 p = none → o.cls = .type "tuple" → o.dict = none → Q (.ref p) (upd H1 p (.frz o (.tup xs)))
def tBMT (K : PySem.W.Frag) (r : V → List V → Hp → VK → Prop) (to : TE) (t : TA) : TE := fun σ H Q => to σ H fun x H1 => TupM K H1 x ∧ t σ H1 fun xs H2 => r x xs H2 Q
section
variable {X : Cx} {o e : Expr} {es : List Expr} {t : TA} {to : TE} {pos apos cpos : Pos} {name : Str} {id : String} {r : V → List V → Hp → VK → Prop}
end
end L2
end
section
set_option Elab.async false
set_option linter.all false
set_option maxRecDepth 100000
namespace L2
open PySem PySem.Spec PyProof.Rows
/-! ### readings of written data -/
def PEd (te : TE) (d : PyData) : Prop := ∀ (σ : St) (H : Hp) (Q : VK), (∀ v H', Same H H' → Den H' d v → Q v H') → te σ H Q
def PAd (t : TA) (ds : List PyData) : Prop := ∀ (σ : St) (H : Hp) (Q : List V → Hp → Prop), (∀ vs H', Same H H' → Dens H' ds vs → Q vs H') → t σ H Q
/-! ### loops over what stays -/
/-! ### places -/
theorem atI_pos {α : Type} {xs : List α} {i : Int} {v : α} (h : 0 ≤ i) (e : xs[i.toNat]? = some v) : atI xs i = some v := by
  obtain ⟨j, rfl⟩ := Int.eq_ofNat_of_zero_le h
  exact atI_nat (by simpa using e)
end L2
end
section
set_option Elab.async false
set_option linter.all false
set_option maxRecDepth 100000
namespace L2
open PySem PySem.Spec PyProof.Rows
/-! ### arguments by the form of the first: no star to be looked for each time -/
section
variable {X : Cx} {es : List Expr} {te : TE} {t : TA}
theorem pa_Constant {v : Const} {k : Nat} {p : Pos} (ha : PE X (.Constant v k p) te) (hr : PA X es t) : PA X (.Constant v k p :: es) (tCons te t) := pa_cons ha hr rfl
theorem pa_Name {x : Str} {p : Pos} (ha : PE X (.Name x p) te) (hr : PA X es t) : PA X (.Name x p :: es) (tCons te t) := pa_cons ha hr rfl
theorem pa_Tuple {l : List Expr} {k : Nat} {p : Pos} (ha : PE X (.Tuple l k p) te) (hr : PA X es t) : PA X (.Tuple l k p :: es) (tCons te t) := pa_cons ha hr rfl
theorem pa_List {l : List Expr} {p : Pos} (ha : PE X (.List l p) te) (hr : PA X es t) : PA X (.List l p :: es) (tCons te t) := pa_cons ha hr rfl
theorem pa_BinOp {a : Expr} {o : Operator} {b : Expr} {p : Pos} (ha : PE X (.BinOp a o b p) te) (hr : PA X es t) : PA X (.BinOp a o b p :: es) (tCons te t) := pa_cons ha hr rfl
theorem pa_Call {f : Expr} {as : List Expr} {kw : List Keyword} {p : Pos} (ha : PE X (.Call f as kw p) te) (hr : PA X es t) : PA X (.Call f as kw p :: es) (tCons te t) := pa_cons ha hr rfl
theorem pa_Subscript {a b : Expr} {p : Pos} (ha : PE X (.Subscript a b p) te) (hr : PA X es t) : PA X (.Subscript a b p :: es) (tCons te t) := pa_cons ha hr rfl
theorem pa_Attribute {a : Expr} {x : Str} {p : Pos} (ha : PE X (.Attribute a x p) te) (hr : PA X es t) : PA X (.Attribute a x p :: es) (tCons te t) := pa_cons ha hr rfl
theorem pa_ListComp {a : Expr} {gs : List Comprehension} {sc : Scope} {p : Pos} (ha : PE X (.ListComp a gs sc p) te) (hr : PA X es t) : PA X (.ListComp a gs sc p :: es) (tCons te t) := pa_cons ha hr rfl
end
theorem own_cxB {E : XK} {P : Program} {w : World} {K : PySem.W.Frag} {mg : Str → Option Value} {base : Heap} {N : List Str} {qual : Str} {scope : Scope} {f : Addr} {cd : Value} {A : Around} {outer : List Env} {s : Shared} {H : Hp} {CX : CXT} :
    Own ((cxOf CX P w K mg base N qual scope f cd A outer s H E).bod E) := ⟨rfl, rfl, rfl⟩
end L2
end
section
set_option Elab.async false
set_option linter.all false
set_option maxRecDepth 100000
namespace HT
open PySem PySem.Spec PyProof.Rows
section
variable {prog : Program} {w : World} {A : Around} {E : Value → Shared → Prop} {s : Shared}
theorem getItem_tuple_whole {t sl : Addr} {items : Array Value} {vl vu : Value} {lo hi : Option Int} {Q : Value → Shared → Prop} (ht : IsTup s.heap t items) (hs : s.heap.IsSliceOf sl vl vu .none) (pl : IsPart vl lo) (pu : IsPart vu hi)
    (hw : sIx items.size 0 lo = 0 ∧ sIx items.size items.size hi = items.size) (h : Q (.ref t) s) : wpAny (model prog w) A (getItem (.ref t) (.ref sl)) Q E s := by
  obtain ⟨os, hos, hcs, hds⟩ := id hs
  have hTs : s.TypeIs (.ref sl) "slice" := ⟨os, hos, hcs⟩
  unfold getItem
  try with_reducible refine wpAny_holding ?_
  first | refine wpAny_bind (wpAny_pure ?_) | skip
  refine wpAny_bind (wpAny_sequenceKey ht.typeIs (by decide) ?_)
  refine wpAny_bind (wpAny_callSpecial?_slot (name := Str.ofString "__getitem__") ht.typeIs PyProof.Rows.slot_tuple_getitem
    (wpAny_call_entry PyProof.Rows.slot_tuple_getitem ht.typeIs entry_tuple_getitem ?_ (args_tuple_getitem _ _)))
  show wpAny _ _ (Builtin.Tuple.tupleItemsOf (.ref t) >>= _) _ _ s
  refine wpAny_bind (tupleItemsOf_ ht ?_)
  refine wpAny_bind (wpAny_typeOf hTs ?_)
  rw [if_pos (by decide)]
  refine wpAny_bind (sliceApplied_gen hs pl pu ?_)
  have hyes : (((sIx items.size 0 lo : Nat) : Int) == 0 && (1 : Int) == 1 && (sIx items.size items.size hi - sIx items.size 0 lo) == items.size) = true := by
    rw [hw.1, hw.2]
    simp
  show wpAny _ _ (if (((sIx items.size 0 lo : Nat) : Int) == 0 && (1 : Int) == 1 && (sIx items.size items.size hi - sIx items.size 0 lo) == items.size) = true then _ else _) _ _ s
  rw [if_pos hyes]
  refine wpAny_bind ?_
  unfold Builtin.Tuple.tupleIsExact
  refine wpAny_bind (wpAny_typeOf ht.typeIs (wpAny_pure ?_))
  rw [if_pos (by decide)]
  refine wpAny_bind (wpAny_rule ?_)
  exact wpAny_pure ⟨_, rfl, wpAny_pure h⟩
end
end HT
namespace L2
open PySem PySem.Spec PyProof.Rows
section
variable {X : Cx}
/-- t[lo:hi], the whole of it too (then it is t itself) -/
def rSlTA (K : PySem.W.Frag) : V → Option Int → Option Int → Hp → VK → Prop := fun x lo hi H Q => ∃ a xs, x = .ref a ∧ SqT K H a xs ∧
  ((HT.sIx xs.length 0 lo = 0 ∧ HT.sIx xs.length xs.length hi = xs.length) → Q (.ref a) H) ∧ (¬ (HT.sIx xs.length 0 lo = 0 ∧ HT.sIx xs.length xs.length hi = xs.length) → ∀ p, H p = none → Q (.ref p) (upd H p (.tup (cutV xs lo hi))))
theorem sl_tupAll : SlR X (rSlTA X.K) := by
  intro pins s σ H x v vl vu lo hi sl Q I rx hs pl pu h
  obtain ⟨a, xs, rfl, hx, q1, q2⟩ := h
  by_cases hw : HT.sIx xs.length 0 lo = 0 ∧ HT.sIx xs.length xs.length hi = xs.length
  · cases rx
    obtain ⟨its, r, ht, hz⟩ := I.tuple hx
    have hlen : its.toArray.size = xs.length := by rw [List.size_toArray]; exact r.length.symm
    refine ⟨"tuple", _, PyProof.Rows.slot_tuple_getitem.lookup, ht.typeIs, ?_⟩
    exact HT.getItem_tuple_whole ht hs pl pu (by rw [hlen]; exact hw) ⟨.ref a, H, I, rfl, q1 hw⟩
  · exact sl_tup pins s σ H (.ref a) v vl vu lo hi sl Q I rx hs pl pu ⟨a, xs, rfl, hx, hw, q2 hw⟩
theorem sl_tupK (K : PySem.W.Frag) (hK : X.K = K := by rfl) : SlR X (rSlTA K) := by
  subst hK
  exact sl_tupAll
end
end L2
end
section
set_option Elab.async false
set_option linter.all false
set_option maxRecDepth 100000
namespace L2
open PySem PySem.Spec PyProof.Rows
/-- a loop over what stays, its things known at an earlier heap -/
theorem for_src0 {J : It} {H0 H : Hp} {n : Nat} {Y : Nat → V → Hp → Prop} {g : TG} {tb : TS} {D : Ends} {σ : St} (S : Src J H0 n Y) (Pv : Nat → St → Hp → Prop) (h0 : Pv 0 σ H) (keep : ∀ i σ H', Pv i σ H' → Same H0 H')
    (step : ∀ i x σ H1 H2, i < n → Pv i σ H1 → Same H1 H2 → Y i x H2 → g x σ H2 fun σ2 H3 => tb { D with nx := Pv (i + 1), ct := Pv (i + 1), bk := D.nx } σ2 H3) (fin : ∀ σ H', Pv n σ H' → D.nx σ H') :
    ∃ W : Nat → Nat → St → Hp → Prop, (∃ m, W 0 m σ H) ∧ ∀ i m σ H, W i m σ H →
      (J.stop i H ∧ D.nx σ H) ∨ (J.go i H ∧ ∃ N : St → Hp → Prop, (∀ σ' H', N σ' H' → ∃ m', m' < m ∧ W (i + 1) m' σ' H') ∧ ∀ x H', J.yld i H x H' → g x σ H' fun σ2 H2 => tb { D with nx := N, ct := N, bk := D.nx } σ2 H2) := by
  refine ⟨fun i m σ H' => m = n - i ∧ i ≤ n ∧ Pv i σ H', ⟨n, rfl, Nat.zero_le _, h0⟩, ?_⟩
  rintro i m σ H1 ⟨rfl, hi, p⟩
  have s1 := keep i σ H1 p
  by_cases hlt : i < n
  · refine .inr ⟨S.go i H1 hlt s1, Pv (i + 1), fun σ' H' p' => ⟨n - (i + 1), by omega, rfl, hlt, p'⟩, fun x H' y => ?_⟩
    obtain ⟨s2, y2⟩ := S.yld i H1 x H' hlt s1 y
    exact step i x σ H1 H' hlt p s2 y2
  · have hin : i = n := by omega
    subst hin
    exact .inl ⟨S.stop H1 s1, fin σ H1 p⟩
/-- a comprehension with a test; test and item change nothing -/
theorem comp_flt {J : It} {H : Hp} {n : Nat} {Y : Nat → V → Hp → Prop} {T : List Str} {F : List (Str × Nat)} {σ : St} {g : TG} {tc : TT} {te : TE} {Q : VK} (S : Src J H n Y) (hn : n ≤ sizeLine) (t : Nat → Bool) (f : Nat → V) (Z : St → Prop) (h0 : Z (compIn T F σ))
    (step : ∀ i x σc H3, i < n → Z σc → Same H H3 → Y i x H3 → ∀ (Q1 : Hp → Prop) (Q2 : St → V → Hp → Prop) (Q3 : St → Hp → Prop), (∀ σ4, Z σ4 → t i = true → Q2 σ4 (f i) H3) → (∀ σ4, Z σ4 → t i = false → Q3 σ4 H3) →
      g x σc H3 fun σ4 H4 => tc σ4 H4 fun b H5 => if b = true then te σ4 H5 fun y H6 => Q2 σ4 y H6 else Q3 σ4 H5)
    (fin : ∀ D H', H D = none → Same H H' → H' D = some (.lst (((List.range n).filter t).map f)) → Q (.ref D) H') :
    compBody T F g tc te σ Q J H := by
  intro D hD
  refine ⟨fun i m ys σc H2 => m = n - i ∧ i ≤ n ∧ Z σc ∧ Same H H2 ∧ H2 D = some (.lst ys) ∧ ys = ((List.range i).filter t).map f, ⟨n, rfl, Nat.zero_le _, h0, same_upd hD, upd_same, rfl⟩, ?_⟩
  rintro i m ys σc H2 ⟨rfl, hi, hz, hs, hd, hy⟩
  refine ⟨hd, ?_⟩
  by_cases hlt : i < n
  · refine .inr ⟨S.go i H2 hlt hs, ?_, fun x H3 y => ?_⟩
    · rw [hy, List.length_map]
      have := List.length_filter_le t (List.range i)
      rw [List.length_range] at this
      omega
    obtain ⟨s3, y3⟩ := S.yld i H2 x H3 hlt hs y
    have d3 : H3 D = some (.lst ys) := s3 _ _ hd
    refine step i x σc H3 hlt hz (hs.trans s3) y3 (fun _ => True) (fun σ4 y H6 => H6 D = some (.lst ys) ∧ ∃ m', m' < n - i ∧ m' = n - (i + 1) ∧ i + 1 ≤ n ∧ Z σ4 ∧ Same H (upd H6 D (.lst (ys ++ [y]))) ∧ (upd H6 D (.lst (ys ++ [y]))) D = some (.lst (ys ++ [y])) ∧ (ys ++ [y]) = ((List.range (i + 1)).filter t).map f)
      (fun σ4 H5 => ∃ m', m' < n - i ∧ m' = n - (i + 1) ∧ i + 1 ≤ n ∧ Z σ4 ∧ Same H H5 ∧ H5 D = some (.lst ys) ∧ ys = ((List.range (i + 1)).filter t).map f) (fun σ4 z4 ht => ?_) fun σ4 z4 ht => ?_
    · refine ⟨d3, n - (i + 1), by omega, rfl, hlt, z4, fun c u e => ?_, upd_same, ?_⟩
      · rw [upd_ne (ne_of_none e hD)]
        exact (hs.trans s3) c u e
      · rw [List.range_succ, List.filter_append, List.map_append, ← hy]
        simp [ht]
    · refine ⟨n - (i + 1), by omega, rfl, hlt, z4, hs.trans s3, d3, ?_⟩
      rw [List.range_succ, List.filter_append, List.map_append, ← hy]
      simp [ht]
  · have hin : i = n := by omega
    subst hin
    exact .inl ⟨S.stop H2 hs, fin D H2 hD hs (by rw [hd, hy])⟩
end L2
end
section
set_option Elab.async false
set_option linter.all false
set_option maxRecDepth 100000
namespace L2
open PySem PySem.Spec PyProof.Rows
/-! ### enumerate over a list -/
def Itel (K : PySem.W.Frag) (a : Addr) : It :=
  ⟨fun i H => ∃ xs x, SqL K H a xs ∧ xs[i]? = some x, fun i H x H' => ∃ p v, x = .ref p ∧ H p = none ∧ H' = upd H p (.tup [.int (i : Int), v]) ∧ ∀ xs, SqL K H a xs → xs[i]? = some v, fun i H => ∃ xs, SqL K H a xs ∧ xs.length ≤ i⟩
section
variable {X : Cx} {pins : List (Addr × Obj)} {σ : St} {H : Hp} {s : Shared}
def iEnumL (K : PySem.W.Frag) (ta : TE) : TI := fun σ H R => ta σ H fun x H1 => ∃ a xs, x = .ref a ∧ SqL K H1 a xs ∧ R (Itel K a) H1
end
section
variable {K : PySem.W.Frag} {H : Hp} {a : Addr} {xs : List V}
end
end L2
end
section
set_option Elab.async false
set_option linter.all false
set_option maxRecDepth 100000
namespace L2
open PySem PySem.Spec PyProof.Rows
theorem sorted_check (a : Value) : checkBuiltinCall "sorted" ⟨[a], []⟩ = pure () := by kernel_rfl
section
variable {X : Cx}
def rSortedI : List V → Hp → VK → Prop := fun xs H Q => ∃ d kvs ns, xs = [.ref d] ∧ H d = some (.dK kvs) ∧ kvs.map (·.1) = ns.map Sum.inl ∧ ns.length < 64 ∧
  ∀ p ms, List.Perm ms ns → ms.Pairwise (· ≤ ·) → H p = none → Q (.ref p) (upd H p (.lst (ms.map .int)))
theorem kv_keys {κ : Type} {kvs : List (κ × V)} {vs : List (κ × Value)} (r : KV kvs vs) : kvs.map (·.1) = vs.map (·.1) := by
  induction r with
  | nil => rfl
  | cons h _ ih =>
    rw [List.map_cons, List.map_cons, ih]
    congr 1
    exact h.1
end
end L2
end
section
set_option Elab.async false
set_option linter.all false
set_option maxRecDepth 100000
namespace L2
open PySem PySem.Spec PyProof.Rows
section
variable {X : Cx}
/-- list(range(a, b)) -/
def tLR (ta : TA) : TE := fun σ H Q => ta σ H fun vs H1 => ∃ i j : Int, vs = [.int i, .int j] ∧ (-(2 ^ 62) ≤ i ∧ i < 2 ^ 62 ∧ -(2 ^ 62) ≤ j ∧ j < 2 ^ 62) ∧ (j - i).toNat ≤ sizeLine ∧ ∀ p, H1 p = none → Q (.ref p) (upd H1 p (.lst ((List.range (j - i).toNat).map fun k => .int (i + (k : Nat)))))
/-- d.pop(k), there -/
def rDPop : V → List V → Hp → VK → Prop := fun x vs H Q => ∃ a kvs k v, x = .ref a ∧ vs = [kV k] ∧ H a = some (.dK kvs) ∧ valV kvs k = some v ∧ Q v (upd H a (.dK (dropK kvs k)))
theorem mt_dpop : MtR X "dict.pop" rDPop := by
  intro pins s σ H x vs v us Q I rx rv h
  obtain ⟨a, kvs, k, y, rfl, rfl, hd, hk, q⟩ := h
  cases (show v = Value.ref a from rx)
  obtain ⟨u, rfl, ru⟩ := vals1 rv
  exact d_pop I hd ru hk (.inl rfl) fun w' s' I' rw' => ⟨y, _, I', rw', q⟩
/-- C() -/
theorem pe_mk0 {k : Nat} {C : Addr} {ps : List Str} {sp : Sp} {E : XK} {x : Str} {p pos : Pos} (c : Maker X.prog X.w X.K X.mg X.base x C k ps sp) (hr : Room (k + 1) X.A) (hx : Passes (CXE X.prog X.w) X E) (hg : Gl X x := by rfl) (hdb : (x == ("__debug__" : Str)) = false := by decide) :
    PE X (.Call (.Name x p) [] [] pos) (tMk C sp E tNil) := by
  obtain ⟨f, fd, F, M, hm, hb⟩ := c.ex
  intro pins s σ H Q I h
  exact pe_make0 M F hr hg hm hb .nil hx hdb pins s σ H Q I (tMake_nil h)
/-- the truth of a list -/
def tLT (K : PySem.W.Frag) (ta : TE) : TT := fun σ H Q => ta σ H fun x H' => ∃ a xs, x = .ref a ∧ SqL K H' a xs ∧ Q (!xs.isEmpty) H'
theorem pe_bmK (K : PySem.W.Frag) {T id : String} {name : Str} {r : V → List V → Hp → VK → Prop} {o e : Expr} {es : List Expr} {to : TE} {t : TA} {apos cpos : Pos} (pa : PlainAttrs T) (slot : Slot T name id) (hty : typeOf (.builtin id) = pure (.type "method_descriptor")) (hm : MtR X id r) (ho : PE X o to) (ha : PA X (e :: es) t)
    (hbase : attributeBase o name X.env (eval o X.env) = eval o X.env := by rfl)
    (hfew : ((backTo cpos (starEach (e :: es) X.env)).all (fun x => !x.1) && (backToKw cpos (keywordEach [] X.env)).all (fun x => x.1.isSome)
      && decide ((e :: es).length + ([] : List Keyword).length + (if ([] : List Keyword).isEmpty then 0 else 1) < 30)) = true := by rfl)
    (hline : (apos.endLine == cpos.line) = true := by rfl) (hs : starEach (e :: es) X.env = (false, eval e X.env) :: starEach es X.env := by rfl) (hplain : (backTo cpos (starEach es X.env)).any (·.1) = false := by rfl) (hK : X.K = K := by rfl) :
    PE X (.Call (.Attribute o name apos) (e :: es) [] cpos) (tBM K T r to t) := by
  subst hK
  exact pe_bm pa slot hty hm ho ha hbase hfew hline hs hplain
end
end L2
end
section
set_option Elab.async false
set_option linter.all false
set_option maxRecDepth 100000
namespace L2
open PySem PySem.Spec PyProof.Rows
section
variable {X : Cx}
theorem keys_strs {prog : Program} {w : World} {kvs : List (Key × Value)} {ns : List Str} (hk : kvs.map (·.1) = ns.map Sum.inr) : ∀ {acc : List Value}, acc.length = kvs.length → (∀ (j : Nat) (v : Value), acc[j]? = some v → ∃ k x, kvs[j]? = some (k, x) ∧ (mixKind prog w).is k v = true) → StrsAre acc ns := by
  induction kvs generalizing ns with
  | nil =>
    intro acc hl _
    cases ns with
    | nil =>
      cases acc with
      | nil => exact .nil
      | cons _ _ => simp at hl
    | cons _ _ => simp at hk
  | cons kv kvs ih =>
    intro acc hl h
    cases ns with
    | nil => simp at hk
    | cons n ns =>
      cases acc with
      | nil => simp at hl
      | cons v acc =>
        simp only [List.map_cons, List.cons.injEq] at hk
        obtain ⟨k, x, h1, h2⟩ := h 0 v rfl
        have h1 : kv = (k, x) := by simpa using h1
        subst h1
        have hk1 : k = Sum.inr n := hk.1
        subst hk1
        obtain ⟨t, rfl⟩ : ∃ t, v = .str n t := by
          rcases keyIs_shape (k := Sum.inr n) (v := v) h2 with ⟨i, t, e, _⟩ | ⟨y, t, e, e2⟩
          · cases e
          · cases e
            exact ⟨t, e2⟩
        exact .cons n t (ih hk.2 (by simpa using hl) fun j v hv => by
          obtain ⟨k, x, h1, h2⟩ := h (j + 1) v (by simpa using hv)
          exact ⟨k, x, by simpa using h1, h2⟩)
theorem vals_strs : ∀ {vs : List Value} {ss : List Str}, StrsAre vs ss → Vals (ss.map V.str) vs
  | _, _, .nil => .nil
  | _, _, .cons y t h => .cons ⟨t, rfl⟩ (vals_strs h)
theorem kind_strs {v₁ v₂ : Value} {rest : List Value} {ss : List Str} (h : StrsAre (v₁ :: v₂ :: rest) ss) : keyKind' (v₁ :: v₂ :: rest).toArray = pure oneType' := by
  exact keyKind_strs h
def rSortedS : List V → Hp → VK → Prop := fun xs H Q => ∃ d kvs ns, xs = [.ref d] ∧ H d = some (.dK kvs) ∧ kvs.map (·.1) = ns.map Sum.inr ∧ ns.length < 64 ∧
  ∀ p ms, List.Perm ms ns → sortedS ms = true → H p = none → Q (.ref p) (upd H p (.lst (ms.map .str)))
theorem call_sortedS (hc : X.calm = true) : CallR X (.builtin "sorted") rSortedS := by
  intro pins s σ H xs us Q I r h
  obtain ⟨d, kvs, ns, rfl, hd, hk, hl, q⟩ := h
  cases r with
  | cons r1 r2 =>
    cases r2
    cases (show _ = Value.ref d from r1)
    obtain ⟨hz, hsm, vs, rel, o, es, ep, dd⟩ := dk_of I.hok hd
    have hh : X.A.in1.handled = none := I.ok.hd hc
    have hlen : vs.length = ns.length := by
      have h1 := rel.length
      have h2 := congrArg List.length hk
      rw [List.length_map, List.length_map] at h2
      omega
    have hkv : vs.map (·.1) = ns.map Sum.inr := by rw [← kv_keys rel]; exact hk
    refine wpAny_call (codeAny_call_builtin plain_sorted entry_sorted (wpAny_of_eq (sorted_check _) ?_))
    show wpAny _ _ (checkCount "sorted" 1 1 1 >>= _) _ _ s
    refine wpAny_bind (wpAny_of_eq (a := ()) (by rfl) ?_)
    refine wpAny_bind (PySem.W.kdu_collect (PySem.W.kdl_dict (knd := mixKind X.prog X.w) (kvs := vs) (ep := ep) hsm) hh ⟨o, es, dd⟩ (by rw [hlen]; exact Nat.le_of_lt (Nat.lt_trans hl (by decide))) fun h' tk acc keep hit => ?_)
    have hacc : acc.toList.length = vs.length := by
      have := hit.1
      simpa using this
    have hstrs : StrsAre acc.toList ns := keys_strs (prog := X.prog) (w := X.w) hkv hacc fun j v hv => hit.2 j v (by simpa using hv)
    refine wpAny_bind (wpAny_newList ?_ (by rw [hacc, hlen]; exact Nat.le_of_lt (Nat.lt_trans hl (by decide))))
    generalize eh2 : h'.push { cls := .type "list", data := .seq acc.toList.toArray } = h2
    have g2 : h2.get? h'.objs.size = some (seqObj "list" acc.toList.toArray 0) := by
      rw [← eh2]
      exact Heap.get?_push_size _ rfl
    refine wpAny_bind (wpAny_holding ?_)
    refine wpAny_call_entry (T := "list") PyProof.Rows.slot_list_sort ⟨_, g2, rfl⟩ PyProof.Rows.entry_list_sort ?_ (PyProof.Rows.args_list_sort _)
    refine list_sort_treeK strKind_oneLt g2 hstrs.keysOf (fun v₁ v₂ rest e => kind_strs (e ▸ hstrs)) (by rw [hacc, hlen]; exact hl) fun st' p1 p2 => ?_
    obtain ⟨ms, hout, perm, pw⟩ := sorted_out_str hstrs p1 p2
    generalize (arrOf st').map (fun x => x.snd) = out at hout
    refine ⟨_, rfl, wpAny_pure ?_⟩
    obtain ⟨ep2, gat⟩ := sortedHeap_at (h := h2) (a := h'.objs.size) (vs := acc.toList) (out := out) g2
    have hf : H h'.objs.size = none := (I.kept (t' := tk) keep).hok.fresh (Nat.le_refl _)
    refine ⟨.ref h'.objs.size, upd H h'.objs.size (.lst (ms.map .str)), (I.kept (t' := tk) keep).laid (t' := tk) (fun b u e => ?_) (Nat.le_refl _) ?_, rfl, q _ ms perm pw hf⟩
    · have hb : b < h'.objs.size := Heap.lt_size e
      have h2s : h2.objs.size = h'.objs.size + 1 := by rw [← eh2]; exact Heap.size_push _ _
      rw [sortedHeap_old (Nat.ne_of_lt hb) (by rw [h2s]; exact Nat.lt_succ_of_lt hb), ← eh2]
      exact Heap.get?_push_of_some _ e
    · refine ⟨?_, out.toList, ep2, vals_strs hout, ?_⟩
      · rw [List.length_map, perm.length_eq]
        exact Nat.le_of_lt (Nat.lt_trans hl (by decide))
      · simpa [seqObj] using gat
/-! ### for over a text -/
def Its (x : Str) : It := ⟨fun i _ => i < x.cps.size, fun i H v H' => H' = H ∧ ∃ c, x.cps[i]? = some c ∧ v = .str ⟨#[c]⟩, fun i _ => x.cps.size ≤ i⟩
theorem turn_str {P : Program} {w : World} {K : PySem.W.Frag} {tg : Expr} (x : Str) (t : Tok) (it : Addr) (hx : (x.cps.all fun c => decide (c < 128)) = true) : Turn P w K tg (Its x) [it] it (fun i h => h.IsStrIter it "str_ascii_iterator" x t i) where
  mem := by simp
  obj := fun i h st b hb => by
    have e : b = it := by simpa using hb
    subst e
    obtain ⟨o, e, c, d⟩ := st
    exact ⟨o, e, fun v z => by rw [d] at z; cases z⟩
  keep := fun i h h' st k => by
    obtain ⟨o, e, r⟩ := st
    exact ⟨o, k it (by simp) o e, r⟩
  item := by
    intro X hP hw hK hc i pins s σ H E I hf st hg
    subst hP hw hK
    have hg : i < x.cps.size := hg
    obtain ⟨f0, f1, f2, f3, f4, f5⟩ := hf it (by simp)
    refine wpAny_pyNext_ascii_item st (c := x.cps[i]) (by simp [hg]) fun h' st' sb => ?_
    have I1 : Inv X pins σ H { s with heap := h', toks := s.toks + 1 } := I.turned (t' := s.toks + 1) (fun b o hb e => (sb.2 b hb).trans e) f0 f1 f3 f4 f5
    obtain ⟨o, e, c, d⟩ := id st'
    exact ⟨_, rfl, go_of (s := { s with heap := h', toks := s.toks + 1 }) e c d (by decide) ⟨.str ⟨#[x.cps[i]]⟩, H, I1, ⟨_, rfl⟩, ⟨rfl, _, by simp [hg], rfl⟩, st', fun b hb => (hf b hb).1⟩⟩
  done := by
    intro X hP hw hK hc i pins s σ H E I hf st hg
    subst hP hw hK
    have hg : x.cps.size ≤ i := hg
    obtain ⟨f0, f1, f2, f3, f4, f5⟩ := hf it (by simp)
    exact wpAny_pyNext_ascii_end (I.ok.hd hc) st (by simp [hg]) fun h' eb => ⟨rfl, I.turned (t' := s.toks) (fun b o hb e => eb b o hb e) f0 f1 f3 f4 f5⟩
  self := fun _ _ _ _ _ st h => wpAny_pyIter_striter_ascii st h
def iStr (tl : TE) : TI := fun σ H R => tl σ H fun v H1 => ∃ x : Str, v = .str x ∧ (x.cps.all fun c => decide (c < 128)) = true ∧ R (Its x) H1
theorem pi_str {tg l : Expr} {tl : TE} (hl : PE X l tl) : PI X tg l (iStr tl) := by
  intro pins s σ H R I h
  refine thn (hl pins s σ H _ I h) fun v s1 ⟨y, H1, I1, r1, q1⟩ => ?_
  obtain ⟨x, e, hx, q⟩ := q1
  subst e
  obtain ⟨t, rfl⟩ := r1
  refine wpAny_pyIter_strU ?_
  have ht : strIterType x = "str_ascii_iterator" := by unfold strIterType; rw [if_pos hx]
  rw [ht]
  refine ⟨s1.heap.objs.size, [s1.heap.objs.size], _, _, H1, rfl, I1.kept (t' := s1.toks) fun b o e => Heap.get?_push_of_some _ e, turn_str x t _ hx, ⟨_, Heap.get?_push_size _ rfl, rfl, rfl⟩, fun b hb => ?_, q⟩
  have e : b = s1.heap.objs.size := by simpa using hb
  subst e
  exact I1.fpOk (Nat.le_refl _) (I1.hok.fresh (Nat.le_refl _))
theorem src_str {H : Hp} (x : Str) : Src (Its x) H x.cps.size (fun i v _ => ∃ c, x.cps[i]? = some c ∧ v = .str ⟨#[c]⟩) where
  go := fun i H' hi s => hi
  yld := fun i H' v H'' hi s y => ⟨by rw [y.1]; exact Same.refl _, y.2⟩
  stop := fun H' s => Nat.le_refl _
end
end L2
end
section
set_option Elab.async false
set_option linter.all false
set_option maxRecDepth 100000
namespace L2
open PySem PySem.Spec PyProof.Rows
/-! ### == of two tables: text keys, tuples of ints -/
def tabAt (H : Hp) (v : V) (bs : List Int) : Prop := ∃ t, v = .ref t ∧ H t = some (.tup (bs.map V.int))
def TbR (H : Hp) : List (Str × List Int) → List (Key × V) → Prop
  | [], [] => True
  | p :: fs, q :: kvs => q.1 = Sum.inr p.1 ∧ tabAt H q.2 p.2 ∧ TbR H fs kvs
  | _, _ => False
def lookT (fs : List (Str × List Int)) (n : Str) : Option (List Int) := (fs.find? fun p => decide (p.1 = n)).map (·.2)
def okT (gs : List (Str × List Int)) (p : Str × List Int) : Bool := match lookT gs p.1 with
  | some bs => decide (p.2 = bs)
  | none => false
def eqT (fs gs : List (Str × List Int)) : Bool := decide (fs.length = gs.length) && fs.all (okT gs)
/-- entries and a table -/
def EnR (prog : Program) (w : World) (h : Heap) : List (Str × List Int) → List DictEntry → Prop
  | [], [] => True
  | p :: fs, e :: es => (mixKind prog w).is (Sum.inr p.1) e.key = true ∧ e.hash = (mixKind prog w).hash (Sum.inr p.1) ∧ (∃ t, e.val = .ref t ∧ IsTupleKey (mixKind prog w) h (p.2.map Sum.inl) t) ∧ EnR prog w h fs es
  | _, _ => False
section
variable {X : Cx} {pins : List (Addr × Obj)} {σ : St} {H : Hp} {s : Shared}
theorem int_keys (bs : List Int) : bs.map V.int = (bs.map Sum.inl : List Key).map kV := by
  rw [List.map_map]
  rfl
theorem EnR.of (ok : HOk X.prog X.w H s.heap) : ∀ {fs : List (Str × List Int)} {kvs : List (Key × V)} {vs : List (Key × Value)} {es : List DictEntry}, TbR H fs kvs → KV kvs vs → Pairs (mixKind X.prog X.w) es vs → (∀ e ∈ es, ∃ k, (mixKind X.prog X.w).is k e.key = true ∧ e.hash = (mixKind X.prog X.w).hash k) → EnR X.prog X.w s.heap fs es
  | [], [], _, _, _, .nil, .nil, _ => trivial
  | p :: fs, q :: kvs, _, _, h, Paired.cons (b := v) hv r, .cons (e := e) hk hval pr, hh => by
    obtain ⟨h1, ⟨t, h2, g⟩, h3⟩ := h
    have hk' : (mixKind X.prog X.w).is (Sum.inr p.1) e.key = true := by
      have : v.1 = Sum.inr p.1 := hv.1 ▸ h1
      rw [← this]
      exact hk
    obtain ⟨k, hk1, hk2⟩ := hh e (by simp)
    have ek : k = Sum.inr p.1 := (mixKind X.prog X.w).inj _ _ _ hk1 hk'
    subst ek
    refine ⟨hk', hk2, ⟨t, ?_, ?_⟩, EnR.of ok h3 r pr fun e' he' => hh e' (by simp [he'])⟩
    · rw [hval]
      have := hv.2
      rw [h2] at this
      exact this
    · have := key_of (P := X.prog) (w := X.w) ok (ks := p.2.map Sum.inl) (by rw [← int_keys]; exact g)
      exact this
  | [], _ :: _, _, _, h, _, _, _ => h.elim
  | _ :: _, [], _, _, h, _, _, _ => h.elim
theorem EnR.len {prog : Program} {w : World} {h : Heap} : ∀ {fs : List (Str × List Int)} {es : List DictEntry}, EnR prog w h fs es → es.length = fs.length
  | [], [], _ => rfl
  | p :: fs, e :: es, r => by rw [List.length_cons, List.length_cons, EnR.len r.2.2.2]
  | [], _ :: _, r => r.elim
  | _ :: _, [], r => r.elim
theorem EnR.at {prog : Program} {w : World} {h : Heap} : ∀ {fs : List (Str × List Int)} {es : List DictEntry} {i : Nat}, EnR prog w h fs es → i < fs.length → ∃ p e, fs[i]? = some p ∧ es[i]? = some e ∧ (mixKind prog w).is (Sum.inr p.1) e.key = true ∧ e.hash = (mixKind prog w).hash (Sum.inr p.1) ∧ ∃ t, e.val = .ref t ∧ IsTupleKey (mixKind prog w) h (p.2.map Sum.inl) t
  | p :: fs, e :: es, 0, r, _ => ⟨p, e, rfl, rfl, r.1, r.2.1, r.2.2.1⟩
  | p :: fs, e :: es, i + 1, r, hi => by
    obtain ⟨p', e', h1, h2, h3⟩ := EnR.at r.2.2.2 (by simpa using hi)
    exact ⟨p', e', by simpa using h1, by simpa using h2, h3⟩
  | [], _, _, _, hi => by simp at hi
  | _ :: _, [], _, r, _ => r.elim
theorem EnR.find {prog : Program} {w : World} {h : Heap} {n : Str} : ∀ {fs : List (Str × List Int)} {es : List DictEntry}, EnR prog w h fs es →
    (match es.findIdx? (fun e => (mixKind prog w).is (Sum.inr n) e.key) with | none => lookT fs n = none | some j => ∃ bs e t, lookT fs n = some bs ∧ es[j]? = some e ∧ e.val = .ref t ∧ IsTupleKey (mixKind prog w) h (bs.map Sum.inl) t)
  | [], [], _ => rfl
  | p :: fs, e :: es, r => by
    obtain ⟨h1, h2, h3, h4⟩ := r
    have ih := EnR.find (n := n) h4
    rw [List.findIdx?_cons]
    by_cases z : p.1 = n
    · subst z
      rw [h1]
      obtain ⟨t, e1, e2⟩ := h3
      exact ⟨p.2, e, t, by simp [lookT], rfl, e1, e2⟩
    · have hf : (mixKind prog w).is (Sum.inr n) e.key = false := by
        cases y : (mixKind prog w).is (Sum.inr n) e.key with
        | false => rfl
        | true => exact absurd (Sum.inr.inj ((mixKind prog w).inj _ _ _ h1 y)) z
      rw [hf]
      have el : lookT (p :: fs) n = lookT fs n := by simp [lookT, z]
      rw [el]
      cases hj : es.findIdx? (fun e => (mixKind prog w).is (Sum.inr n) e.key) with
      | none =>
        rw [hj] at ih
        exact ih
      | some j =>
        rw [hj] at ih
        obtain ⟨bs, e', t, i1, i2, i3⟩ := ih
        exact ⟨bs, e', t, i1, by simpa using i2, i3⟩
  | [], _ :: _, r => r.elim
  | _ :: _, [], r => r.elim
theorem same_pairs {A : Around} {E : Value → Shared → Prop} {id : String} {a b : Addr} {o1 o2 : Obj} {es1 es2 : Array DictEntry} {ep1 ep2 : Nat} {fs gs : List (Str × List Int)} {Q : Bool → Shared → Prop} (hu : A.units < cLine)
    (na : (a == sysModules) = false) (nb : (b == sysModules) = false) (g1 : s.heap.get? a = some o1) (d1 : o1.data = .dict es1 ep1) (r1 : EnR X.prog X.w s.heap fs es1.toList) (g2 : s.heap.get? b = some o2) (d2 : o2.data = .dict es2 ep2) (k2 : KeysOf (mixKind X.prog X.w) es2) (r2 : EnR X.prog X.w s.heap gs es2.toList)
    (q : Q (eqT fs gs) s) : wpAny (model X.prog X.w) A (Builtin.Dict.samePairs id a b) Q E s := by
  have l1 : es1.size = fs.length := by have := r1.len; simpa using this
  have l2 : es2.size = gs.length := by have := r2.len; simpa using this
  unfold Builtin.Dict.samePairs Builtin.Dict.showsAll
  rw [na, nb]
  refine wpAny_bind (wpAny_pure ?_)
  refine wpAny_bind (wpAny_pure ?_)
  refine wpAny_bind (wpAny_dictEntries g1 d1 ?_)
  refine wpAny_bind (wpAny_dictEntries g2 d2 ?_)
  dsimp only
  rw [l1, l2]
  by_cases hl : fs.length = gs.length
  · rw [if_neg (by rw [hl]; simp)]
    refine wpAny_bind (wpAny_dictEpoch g1 d1 ?_)
    refine wpAny_bind ?_
    refine rng_go (hi := fs.length) _ (fun rest b s' => b = (none, ()) ∧ s' = s ∧ ∃ i, i ≤ fs.length ∧ rest = List.range' i (fs.length - i) ∧ (fs.take i).all (okT gs) = true) _ ?_ ?_ _ ⟨rfl, rfl, 0, Nat.zero_le _, rfl, rfl⟩
    · rintro x rest b s' ⟨rfl, rfl, i, hi, hr, hall⟩
      have il : i < fs.length := by
        rcases Nat.lt_or_ge i fs.length with h | h
        · exact h
        · have : fs.length - i = 0 := by omega
          rw [this] at hr
          cases hr
      have hr' : fs.length - i = (fs.length - (i + 1)) + 1 := by omega
      rw [hr', List.range'_succ] at hr
      injection hr with hx hrest
      subst hx
      obtain ⟨p, e, hp, he, hk, hh, t, hval, htk⟩ := r1.at il
      have he' : es1[x]? = some e := by simpa using he
      have ef : es2.findIdx? (fun e => (mixKind X.prog X.w).is (Sum.inr p.1) e.key) = es2.toList.findIdx? (fun e => (mixKind X.prog X.w).is (Sum.inr p.1) e.key) := by
        cases es2
        simp
      have tk : fs.take (x + 1) = fs.take x ++ [p] := by
        rw [List.take_add_one, hp]
        rfl
      have bad : okT gs p = false → eqT fs gs = false := fun hb => by
        unfold eqT
        have : fs.all (okT gs) = false := by
          cases y : fs.all (okT gs) with
          | false => rfl
          | true =>
            have := List.all_eq_true.mp y p (List.mem_of_getElem? hp)
            rw [hb] at this
            cases this
        rw [this]
        exact Bool.and_false _
      have fnd := r2.find (n := p.1)
      rw [← ef] at fnd
      refine wpAny_bind (wpAny_dictEntries g1 d1 ?_)
      rw [he']
      dsimp only
      rw [hh]
      refine wpAny_bind (wpAny_holding (wpAny_bind (wpAny_dictFind_of hk g2 d2 k2 ?_)))
      cases hj : es2.findIdx? (fun e => (mixKind X.prog X.w).is (Sum.inr p.1) e.key) with
      | none =>
        rw [hj] at fnd
        have hb : okT gs p = false := by
          unfold okT
          rw [show lookT gs p.1 = none from fnd]
        dsimp only
        refine wpAny_pure ?_
        rw [if_pos (show (!false) = true from rfl)]
        refine wpAny_pure ?_
        have q' := q
        rw [bad hb] at q'
        exact wpAny_pure q'
      | some j =>
        rw [hj] at fnd
        obtain ⟨bs, f, u, hb1, hf, fval, fk⟩ := fnd
        have hf' : es2[j]? = some f := by simpa using hf
        dsimp only
        refine wpAny_bind (wpAny_dictEntries g2 d2 ?_)
        rw [hf']
        dsimp only
        rw [hval, fval]
        refine wpAny_holding (wpAny_eqBool_tuple hu htk fk ?_)
        have inj : (p.2.map Sum.inl : List Key) = bs.map Sum.inl ↔ p.2 = bs := by
          constructor
          · intro z
            have := congrArg (List.map (fun k : Key => match k with | .inl i => i | .inr _ => 0)) z
            rw [List.map_map, List.map_map] at this
            have e1 : ∀ l : List Int, l.map ((fun k : Key => match k with | .inl i => i | .inr _ => 0) ∘ Sum.inl) = l := fun l => List.map_id _
            rw [e1, e1] at this
            exact this
          · intro z
            rw [z]
        by_cases hpb : p.2 = bs
        · rw [decide_eq_true (inj.mpr hpb), if_neg (by decide)]
          refine wpAny_bind (wpAny_dictEpoch g1 d1 ?_)
          rw [if_neg (by simp)]
          refine wpAny_pure ⟨rfl, rfl, x + 1, il, hrest, ?_⟩
          rw [tk, List.all_append, hall]
          show (true && (okT gs p && true)) = true
          have : okT gs p = true := by
            unfold okT
            rw [hb1]
            exact decide_eq_true hpb
          rw [this]
          rfl
        · rw [decide_eq_false (fun z => hpb (inj.mp z)), if_pos (show (!false) = true from rfl)]
          have hb : okT gs p = false := by
            unfold okT
            rw [hb1]
            exact decide_eq_false hpb
          refine wpAny_pure ?_
          have q' := q
          rw [bad hb] at q'
          exact wpAny_pure q'
    · rintro b s' ⟨rfl, rfl, i, hi, hr, hall⟩
      have : i = fs.length := by
        rcases Nat.lt_or_ge i fs.length with h | h
        · have hr' : fs.length - i = (fs.length - (i + 1)) + 1 := by omega
          rw [hr', List.range'_succ] at hr
          cases hr
        · omega
      subst this
      rw [List.take_length] at hall
      have : eqT fs gs = true := by
        unfold eqT
        rw [decide_eq_true hl, hall]
        rfl
      rw [this] at q
      exact wpAny_pure q
  · rw [if_pos (by simpa using hl)]
    refine wpAny_bind (wpAny_rule (wpAny_pure ?_))
    have : eqT fs gs = false := by
      unfold eqT
      rw [decide_eq_false hl]
      rfl
    rw [this] at q
    exact q
def rTab (k : Bool → Bool) : R2 := fun x y H Q => ∃ a b kvs lvs fs gs, x = .ref a ∧ y = .ref b ∧ H a = some (.dK kvs) ∧ H b = some (.dK lvs) ∧ TbR H fs kvs ∧ TbR H gs lvs ∧ Q (.bl (k (eqT fs gs))) H
theorem op_neT (hu : X.A.units + 64 < cLine) : OpR X (compareOp .NotEq) (rTab not) := by
  intro pins s σ H x y v u Q I rx ry h
  obtain ⟨a, b, kvs, lvs, fs, gs, rfl, rfl, ha, hb, ra, rb, q⟩ := h
  cases (show v = Value.ref a from rx)
  cases (show u = Value.ref b from ry)
  obtain ⟨_, na, vs, kv1, o1, es1, ep1, g1, x1, d1, k1, p1, _⟩ := dk_of I.hok ha
  obtain ⟨_, nb, ws, kv2, o2, es2, ep2, g2, x2, d2, k2, p2, _⟩ := dk_of I.hok hb
  have t1 : s.TypeIs (.ref a) "dict" := ⟨o1, g1, x1.1⟩
  have t2 : s.TypeIs (.ref b) "dict" := ⟨o2, g2, x2.1⟩
  show wpAny _ _ (richCompare .NotEq (.ref a) (.ref b)) _ _ s
  refine wpAny_richCompare_same_room t1 t2 PySem.F.slot_dict_ne ?_ (by omega)
  refine wpAny_call_entry PySem.F.slot_dict_ne t1 PySem.F.entry_dict_ne ?_ (PySem.F.args_dict_ne_2 _ _)
  show wpAny _ _ (Builtin.Dict.dictSlotArgs "__ne__" ⟨[.ref a, .ref b], []⟩ >>= _) _ _ s
  refine wpAny_bind (wpAny_of_eq (a := (Value.ref a, Value.ref b)) (by rfl) ?_)
  dsimp only
  refine wpAny_bind (wpAny_isInstance (T := "dict") (b := true) t2 (by kernel_rfl) ?_)
  rw [if_neg (by decide)]
  refine wpAny_bind (wpAny_of_eq (a := a) (by rfl) ?_)
  refine wpAny_bind (wpAny_of_eq (a := b) (by rfl) ?_)
  refine wpAny_bind (same_pairs (fs := fs) (gs := gs) (by show X.A.units + 1 < cLine; omega) na nb g1 d1 (EnR.of I.hok ra kv1 p1 fun e he => k1 e (by simpa using he)) g2 d2 k2 (EnR.of I.hok rb kv2 p2 fun e he => k2 e (by simpa using he)) ?_)
  refine wpAny_pure ⟨_, rfl, (fun z => by cases z), ?_⟩
  refine ⟨.bl _, H, I, ?_, q⟩
  show Value.bool (eqT fs gs == false) = Value.bool (!eqT fs gs)
  cases eqT fs gs <;> rfl
theorem op_eqT (hu : X.A.units + 64 < cLine) : OpR X (compareOp .Eq) (rTab id) := by
  intro pins s σ H x y v u Q I rx ry h
  obtain ⟨a, b, kvs, lvs, fs, gs, rfl, rfl, ha, hb, ra, rb, q⟩ := h
  cases (show v = Value.ref a from rx)
  cases (show u = Value.ref b from ry)
  obtain ⟨_, na, vs, kv1, o1, es1, ep1, g1, x1, d1, k1, p1, _⟩ := dk_of I.hok ha
  obtain ⟨_, nb, ws, kv2, o2, es2, ep2, g2, x2, d2, k2, p2, _⟩ := dk_of I.hok hb
  have t1 : s.TypeIs (.ref a) "dict" := ⟨o1, g1, x1.1⟩
  have t2 : s.TypeIs (.ref b) "dict" := ⟨o2, g2, x2.1⟩
  show wpAny _ _ (richCompare .Eq (.ref a) (.ref b)) _ _ s
  refine wpAny_richCompare_same_room t1 t2 PySem.F.slot_dict_eq ?_ (by omega)
  refine wpAny_call_entry PySem.F.slot_dict_eq t1 PySem.F.entry_dict_eq ?_ (PySem.F.args_dict_eq_2 _ _)
  show wpAny _ _ (Builtin.Dict.dictSlotArgs "__eq__" ⟨[.ref a, .ref b], []⟩ >>= _) _ _ s
  refine wpAny_bind (wpAny_of_eq (a := (Value.ref a, Value.ref b)) (by rfl) ?_)
  dsimp only
  refine wpAny_bind (wpAny_isInstance (T := "dict") (b := true) t2 (by kernel_rfl) ?_)
  rw [if_neg (by decide)]
  refine wpAny_bind (wpAny_of_eq (a := a) (by rfl) ?_)
  refine wpAny_bind (wpAny_of_eq (a := b) (by rfl) ?_)
  refine wpAny_bind (same_pairs (fs := fs) (gs := gs) (by show X.A.units + 1 < cLine; omega) na nb g1 d1 (EnR.of I.hok ra kv1 p1 fun e he => k1 e (by simpa using he)) g2 d2 k2 (EnR.of I.hok rb kv2 p2 fun e he => k2 e (by simpa using he)) ?_)
  refine wpAny_pure ⟨_, rfl, (fun z => by cases z), ?_⟩
  refine ⟨.bl _, H, I, ?_, q⟩
  show Value.bool (eqT fs gs == true) = Value.bool (eqT fs gs)
  cases eqT fs gs <;> rfl
end
end L2
end
section
set_option Elab.async false
set_option linter.all false
set_option maxRecDepth 100000
namespace L2
open PySem PySem.Spec PyProof.Rows
section
variable {X : Cx}
/-- dict(d) -/
def rDictC : List V → Hp → VK → Prop := fun xs H Q => ∃ a kvs, xs = [.ref a] ∧ Rd H a (.dK kvs) ∧ ∀ p, H p = none → Q (.ref p) (upd H p (.dK kvs))
theorem call_dictC : CallR X (.type "dict") rDictC := by
  intro pins s σ H xs us Q I r h
  obtain ⟨a, kvs, rfl, hd, q⟩ := h
  cases r with
  | cons r1 r2 =>
    cases r2
    cases (show _ = Value.ref a from r1)
    exact d_copyOf I hd fun p s' hp I' => ⟨.ref p, _, I', rfl, q p hp⟩
/-- d.pop(k, x) -/
def rDPop2 : V → List V → Hp → VK → Prop := fun x vs H Q => ∃ a kvs k d, x = .ref a ∧ vs = [kV k, d] ∧ H a = some (.dK kvs) ∧ ∀ y, (valV kvs k).getD d = y → Q y (upd H a (.dK (dropK kvs k)))
theorem mt_dpop2 : MtR X "dict.pop" rDPop2 := by
  intro pins s σ H x vs v us Q I rx rv h
  obtain ⟨a, kvs, k, d, rfl, rfl, hd, q⟩ := h
  cases (show v = Value.ref a from rx)
  cases rv with
  | cons ru r2 =>
    cases r2 with
    | cons rd r3 =>
      cases r3
      cases hk : valV kvs k with
      | some y => exact d_pop I hd ru hk (.inr ⟨_, rfl⟩) fun w' s' I' rw' => ⟨y, _, I', rw', q y (by rw [hk]; rfl)⟩
      | none =>
        have e : upd H a (.dK (dropK kvs k)) = H := by
          rw [dropK_no (valV_not hk)]
          funext b
          unfold upd
          split
          · next z => rw [z, hd]
          · rfl
        exact d_popD I hd ru hk fun s' I' => ⟨d, H, I', rd, by rw [← e]; exact q d (by rw [hk]; rfl)⟩
/-- a or b, a a list -/
def tOrL (K : PySem.W.Frag) (ta tb : TE) : TE := fun σ H Q => ta σ H fun x H1 => ∃ a xs, x = .ref a ∧ SqL K H1 a xs ∧ if xs.isEmpty = true then tb σ H1 Q else Q x H1
/-! ### for over a table -/
def Itd (a : Addr) (o : Obj) (kvs : List (Key × V)) : It := ⟨fun i H => H a = some (.frz o (.dK kvs)) ∧ i < kvs.length, fun i H v H' => H' = H ∧ ∃ k y, kvs[i]? = some (k, y) ∧ v = kV k, fun i H => H a = some (.frz o (.dK kvs)) ∧ kvs.length ≤ i⟩
def iDict (tl : TE) : TI := fun σ H R => tl σ H fun x H1 => ∃ a kvs, x = .ref a ∧ H1 a = some (.dK kvs) ∧ ∀ o, R (Itd a o kvs) (upd H1 a (.frz o (.dK kvs)))
end
/-! ### sorted lists are one -/
end L2
end
section
set_option Elab.async false
set_option linter.all false
set_option maxRecDepth 100000
namespace Qh
open PySem L2
def top (i : Nat) : Stmt := PySem.Challenge.pw_queuehold_k03_whole_stops.main.body.getD i (.Pass ⟨0, 0, 0, 0⟩)
abbrev s_is_number : Stmt := top 2
abbrev s_is_bytes : Stmt := top 3
theorem bt_len : bootBuiltins "len" = some (.builtin "len") := by decide +kernel
theorem bt_isinstance : bootBuiltins "isinstance" = some (.builtin "isinstance") := by decide +kernel
theorem bt_all : bootBuiltins "all" = some (.builtin "all") := by decide +kernel
theorem bt_sum : bootBuiltins "sum" = some (.builtin "sum") := by decide +kernel
theorem bt_tuple : bootBuiltins "tuple" = some (.type "tuple") := by decide +kernel
theorem bt_list : bootBuiltins "list" = some (.type "list") := by decide +kernel
theorem bt_int : bootBuiltins "int" = some (.type "int") := by decide +kernel
theorem bt_bool : bootBuiltins "bool" = some (.type "bool") := by decide +kernel
theorem bt_str : bootBuiltins "str" = some (.type "str") := by decide +kernel
/-! what the program says of data -/
def kinds : List Str := ["put", "out", "done", "from", "part", "deal", "carried", "new"]
structure TxtN (K : PySem.W.Frag) (mg : Str → Option Value) : Prop where
  n_len : mg "len" = none
  n_isinstance : mg "isinstance" = none
  n_all : mg "all" = none
  n_sum : mg "sum" = none
  n_tuple : mg "tuple" = none
  n_int : mg "int" = none
  n_bool : mg "bool" = none
  n_str : mg "str" = none
  n_range : mg "range" = none
  n_enumerate : mg "enumerate" = none
  n_list : mg "list" = none
  n_sorted : mg "sorted" = none
  c_HIGHEST_BYTE : ∃ t, mg "HIGHEST_BYTE" = some (.int 255 t)
def isNum (lo hi : Int) : PyData → Bool
  | .int i => decide (lo ≤ i) && decide (i ≤ hi)
  | _ => false
def isByt : PyData → Bool
  | .tuple ds => ds.all (isNum 0 255)
  | _ => false
def fitsK (k : Str) (ns : List Int) : Bool :=
  if k = "put" ∨ k = "part" then decide (ns.length ≤ 60)
  else if k = "carried" then decide (1 ≤ ns.length) && decide (ns.length ≤ 61) && decide (ns.headD 0 ≤ 9)
  else if k = "deal" then decide (ns.length = 1) && decide (1 ≤ ns.headD 0) && decide (ns.headD 0 ≤ 9)
  else decide (ns.length = 0)
def sp_is_number : Sp := fun vs H Q _ => ∃ v d lo hi, vs = [v, .int lo, .int hi] ∧ Den H d v ∧ Q (.bl (isNum lo hi d)) H
def sp_is_bytes : Sp := fun vs H Q _ => ∃ v d, vs = [v] ∧ Den H d v ∧ (∀ ds, d = .tuple ds → ds.length ≤ sizeLine) ∧ ∀ H', Same H H' → Q (.bl (isByt d)) H'
def sp_fits_kind : Sp := fun vs H Q _ => ∃ k a ns, vs = [.str k, .ref a] ∧ H a = some (.tup (ns.map V.int)) ∧ Q (.bl (fitsK k ns)) H
theorem dstr_eq {a b : Str} (h : a = b) : decide (V.str a = V.str b) = true := decide_eq_true (by rw [h])
theorem dstr_ne {a b : Str} (h : ¬ a = b) : decide (V.str a = V.str b) = false := decide_eq_false (fun z => h (V.str.inj z))
theorem dint_ne {a b : Int} (h : ¬ a = b) : decide (V.int a = V.int b) = false := decide_eq_false (fun z => h (V.int.inj z))
theorem decC (a b c : Int) : (if decide (a ≤ b) = true then decide (b ≤ c) else false) = (decide (a ≤ b) && decide (b ≤ c)) := by
  cases decide (a ≤ b) <;> rfl
section
variable {P : Program} {w : World} {K : PySem.W.Frag} {mg : Str → Option Value} {base : Heap} 
theorem sc_is_number : FnScope ["thing", "least", "most"] ["thing", "least", "most"] (defScope s_is_number) := ⟨rfl, rfl, rfl, by decide +kernel, rfl, by decide +kernel, by decide +kernel⟩
theorem ok_is_number {f : Addr} {fd : FuncData} (F : Fun K "is_number" "is_number" s_is_number f fd) (T : TxtN K mg) : FnOk P w K mg base (CXE P w) 1 f fd ["thing", "least", "most"] sp_is_number := by
  refine F.okX sc_is_number (fun vs H Q E h => ?_) (fun cdv A outer s H vs Q E hr h => ?_)
  · obtain ⟨v, d, lo, hi, rfl, _⟩ := h
    rfl
  · obtain ⟨v, d, lo, hi, rfl, hd, q⟩ := h
    refine ⟨_, @pss_cons _ _ _ _ _ (@ps_if _ _ _ _ _ _ _ _ (@PW.pt _ _ _ (@pw_or _ _ _ _ _ _ _ (@pt_val _ _ _ (@pe_callB _ _ _ _ _ _ _ _ _ (call_isiK K) (by rfl) T.n_isinstance bt_isinstance (@pa_Name _ _ _ _ _ _ (@pv _ 0 _ _ (by first | rfl | decide | exact .inl rfl | exact .inr rfl | exact .inr (.inl rfl) | exact .inr (.inr rfl) | (intro _; rfl) | with_unfolding_all rfl) (by first | rfl | decide | exact .inl rfl | exact .inr rfl | exact .inr (.inl rfl) | exact .inr (.inr rfl) | (intro _; rfl) | with_unfolding_all rfl) (by first | rfl | decide | exact .inl rfl | exact .inr rfl | exact .inr (.inl rfl) | exact .inr (.inr rfl) | (intro _; rfl) | with_unfolding_all rfl) (by first | rfl | decide | exact .inl rfl | exact .inr rfl | exact .inr (.inl rfl) | exact .inr (.inr rfl) | (intro _; rfl) | with_unfolding_all rfl)) (@pa_Name _ _ _ _ _ _ (@pe_bltn _ _ (.ty "bool") _ _ (by rfl) T.n_bool bt_bool (by rfl) (by first | rfl | decide | exact .inl rfl | exact .inr rfl | exact .inr (.inl rfl) | exact .inr (.inr rfl) | (intro _; rfl) | with_unfolding_all rfl) (by first | rfl | decide | exact .inl rfl | exact .inr rfl | exact .inr (.inl rfl) | exact .inr (.inr rfl) | (intro _; rfl) | with_unfolding_all rfl)) (@pa_nil _))) (by first | rfl | decide | exact .inl rfl | exact .inr rfl | exact .inr (.inl rfl) | exact .inr (.inr rfl) | (intro _; rfl) | with_unfolding_all rfl) (by first | rfl | decide | exact .inl rfl | exact .inr rfl | exact .inr (.inl rfl) | exact .inr (.inr rfl) | (intro _; rfl) | with_unfolding_all rfl) (by first | rfl | decide | exact .inl rfl | exact .inr rfl | exact .inr (.inl rfl) | exact .inr (.inr rfl) | (intro _; rfl) | with_unfolding_all rfl) (by first | rfl | decide | exact .inl rfl | exact .inr rfl | exact .inr (.inl rfl) | exact .inr (.inr rfl) | (intro _; rfl) | with_unfolding_all rfl)) (by first | rfl | decide | exact .inl rfl | exact .inr rfl | exact .inr (.inl rfl) | exact .inr (.inr rfl) | (intro _; rfl) | with_unfolding_all rfl)) (@pw_or1 _ _ _ _ (@pt_not _ _ _ _ (@pt_val _ _ _ (@pe_callB _ _ _ _ _ _ _ _ _ (call_isiK K) (by rfl) T.n_isinstance bt_isinstance (@pa_Name _ _ _ _ _ _ (@pv _ 0 _ _ (by first | rfl | decide | exact .inl rfl | exact .inr rfl | exact .inr (.inl rfl) | exact .inr (.inr rfl) | (intro _; rfl) | with_unfolding_all rfl) (by first | rfl | decide | exact .inl rfl | exact .inr rfl | exact .inr (.inl rfl) | exact .inr (.inr rfl) | (intro _; rfl) | with_unfolding_all rfl) (by first | rfl | decide | exact .inl rfl | exact .inr rfl | exact .inr (.inl rfl) | exact .inr (.inr rfl) | (intro _; rfl) | with_unfolding_all rfl) (by first | rfl | decide | exact .inl rfl | exact .inr rfl | exact .inr (.inl rfl) | exact .inr (.inr rfl) | (intro _; rfl) | with_unfolding_all rfl)) (@pa_Name _ _ _ _ _ _ (@pe_bltn _ _ (.ty "int") _ _ (by rfl) T.n_int bt_int (by rfl) (by first | rfl | decide | exact .inl rfl | exact .inr rfl | exact .inr (.inl rfl) | exact .inr (.inr rfl) | (intro _; rfl) | with_unfolding_all rfl) (by first | rfl | decide | exact .inl rfl | exact .inr rfl | exact .inr (.inl rfl) | exact .inr (.inr rfl) | (intro _; rfl) | with_unfolding_all rfl)) (@pa_nil _))) (by first | rfl | decide | exact .inl rfl | exact .inr rfl | exact .inr (.inl rfl) | exact .inr (.inr rfl) | (intro _; rfl) | with_unfolding_all rfl) (by first | rfl | decide | exact .inl rfl | exact .inr rfl | exact .inr (.inl rfl) | exact .inr (.inr rfl) | (intro _; rfl) | with_unfolding_all rfl) (by first | rfl | decide | exact .inl rfl | exact .inr rfl | exact .inr (.inl rfl) | exact .inr (.inr rfl) | (intro _; rfl) | with_unfolding_all rfl) (by first | rfl | decide | exact .inl rfl | exact .inr rfl | exact .inr (.inl rfl) | exact .inr (.inr rfl) | (intro _; rfl) | with_unfolding_all rfl)) (by first | rfl | decide | exact .inl rfl | exact .inr rfl | exact .inr (.inl rfl) | exact .inr (.inr rfl) | (intro _; rfl) | with_unfolding_all rfl)))))) (@pss_one _ _ _ (@ps_ret _ _ _ _ (@pe_bl _ _ _ _))) (@pss_nil _)) (@pss_one _ _ _ (@ps_ret _ _ _ _ (@pe_chain _ _ _ _ _ _ _ _ _ _ _ _ op_le op_le (@pv _ 1 _ _ (by first | rfl | decide | exact .inl rfl | exact .inr rfl | exact .inr (.inl rfl) | exact .inr (.inr rfl) | (intro _; rfl) | with_unfolding_all rfl) (by first | rfl | decide | exact .inl rfl | exact .inr rfl | exact .inr (.inl rfl) | exact .inr (.inr rfl) | (intro _; rfl) | with_unfolding_all rfl) (by first | rfl | decide | exact .inl rfl | exact .inr rfl | exact .inr (.inl rfl) | exact .inr (.inr rfl) | (intro _; rfl) | with_unfolding_all rfl) (by first | rfl | decide | exact .inl rfl | exact .inr rfl | exact .inr (.inl rfl) | exact .inr (.inr rfl) | (intro _; rfl) | with_unfolding_all rfl)) (@pv _ 0 _ _ (by first | rfl | decide | exact .inl rfl | exact .inr rfl | exact .inr (.inl rfl) | exact .inr (.inr rfl) | (intro _; rfl) | with_unfolding_all rfl) (by first | rfl | decide | exact .inl rfl | exact .inr rfl | exact .inr (.inl rfl) | exact .inr (.inr rfl) | (intro _; rfl) | with_unfolding_all rfl) (by first | rfl | decide | exact .inl rfl | exact .inr rfl | exact .inr (.inl rfl) | exact .inr (.inr rfl) | (intro _; rfl) | with_unfolding_all rfl) (by first | rfl | decide | exact .inl rfl | exact .inr rfl | exact .inr (.inl rfl) | exact .inr (.inr rfl) | (intro _; rfl) | with_unfolding_all rfl)) (@pv _ 2 _ _ (by first | rfl | decide | exact .inl rfl | exact .inr rfl | exact .inr (.inl rfl) | exact .inr (.inr rfl) | (intro _; rfl) | with_unfolding_all rfl) (by first | rfl | decide | exact .inl rfl | exact .inr rfl | exact .inr (.inl rfl) | exact .inr (.inr rfl) | (intro _; rfl) | with_unfolding_all rfl) (by first | rfl | decide | exact .inl rfl | exact .inr rfl | exact .inr (.inl rfl) | exact .inr (.inr rfl) | (intro _; rfl) | with_unfolding_all rfl) (by first | rfl | decide | exact .inl rfl | exact .inr rfl | exact .inr (.inl rfl) | exact .inr (.inr rfl) | (intro _; rfl) | with_unfolding_all rfl)) (by first | rfl | decide | exact .inl rfl | exact .inr rfl | exact .inr (.inl rfl) | exact .inr (.inr rfl) | (intro _; rfl) | with_unfolding_all rfl)))), ?_⟩
    refine ⟨_, rfl, _, _, _, _, rfl, hd.ty, kit_bool d, _, rfl, ?_⟩
    cases d with
    | bool b => exact iteT (iteT q)
    | int i =>
      refine iteF ⟨_, rfl, _, _, _, _, rfl, hd.ty, kit_int _, _, rfl, iteF ?_⟩
      have e : v = .int i := by simpa only [Den] using hd
      subst e
      refine ⟨_, rfl, _, rfl, _, _, rfl, rfl, _, rfl, ?_⟩
      simp only [isNum] at q
      by_cases h1 : lo ≤ i
      · rw [if_pos (decide_eq_true h1)]
        refine ⟨_, rfl, _, _, rfl, rfl, ?_⟩
        rw [decide_eq_true h1, Bool.true_and] at q
        exact q
      · rw [if_neg (by simpa using h1)]
        rw [decide_eq_false h1, Bool.false_and] at q
        exact q
    | none => exact iteF ⟨_, rfl, _, _, _, _, rfl, hd.ty, kit_int _, _, rfl, iteT q⟩
    | str x => exact iteF ⟨_, rfl, _, _, _, _, rfl, hd.ty, kit_int _, _, rfl, iteT q⟩
    | tuple x => exact iteF ⟨_, rfl, _, _, _, _, rfl, hd.ty, kit_int _, _, rfl, iteT q⟩
    | list x => exact iteF ⟨_, rfl, _, _, _, _, rfl, hd.ty, kit_int _, _, rfl, iteT q⟩
    | dict x => exact iteF ⟨_, rfl, _, _, _, _, rfl, hd.ty, kit_int _, _, rfl, iteT q⟩
theorem sc_is_bytes : FnScope ["thing"] ["thing"] (defScope s_is_bytes) := ⟨rfl, rfl, rfl, by decide +kernel, rfl, by decide +kernel, by decide +kernel⟩
theorem ok_is_bytes {f : Addr} {fd : FuncData} (F : Fun K "is_bytes" "is_bytes" s_is_bytes f fd) (T : TxtN K mg) (c_is_number : Callee P w K mg base "is_number" 1 ["thing", "least", "most"] sp_is_number) : FnOk P w K mg base (CXE P w) 2 f fd ["thing"] sp_is_bytes := by
  obtain ⟨_, hc_HIGHEST_BYTE⟩ := T.c_HIGHEST_BYTE
  refine F.okX sc_is_bytes (fun vs H Q E h => ?_) (fun cdv A outer s H vs Q E hr h => ?_)
  · obtain ⟨v, d, rfl, _⟩ := h
    rfl
  · obtain ⟨v, d, rfl, hd, hz, q⟩ := h
    refine ⟨_, @pss_one _ _ _ (@ps_ret _ _ _ _ (@pe_and _ _ _ _ _ _ _ (@pe_callB _ _ _ _ _ _ _ _ _ (call_isiK K) (by rfl) T.n_isinstance bt_isinstance (@pa_Name _ _ _ _ _ _ (@pv _ 0 _ _ (by first | rfl | decide | exact .inl rfl | exact .inr rfl | exact .inr (.inl rfl) | exact .inr (.inr rfl) | (intro _; rfl) | with_unfolding_all rfl) (by first | rfl | decide | exact .inl rfl | exact .inr rfl | exact .inr (.inl rfl) | exact .inr (.inr rfl) | (intro _; rfl) | with_unfolding_all rfl) (by first | rfl | decide | exact .inl rfl | exact .inr rfl | exact .inr (.inl rfl) | exact .inr (.inr rfl) | (intro _; rfl) | with_unfolding_all rfl) (by first | rfl | decide | exact .inl rfl | exact .inr rfl | exact .inr (.inl rfl) | exact .inr (.inr rfl) | (intro _; rfl) | with_unfolding_all rfl)) (@pa_Name _ _ _ _ _ _ (@pe_bltn _ _ (.ty "tuple") _ _ (by rfl) T.n_tuple bt_tuple (by rfl) (by first | rfl | decide | exact .inl rfl | exact .inr rfl | exact .inr (.inl rfl) | exact .inr (.inr rfl) | (intro _; rfl) | with_unfolding_all rfl) (by first | rfl | decide | exact .inl rfl | exact .inr rfl | exact .inr (.inl rfl) | exact .inr (.inr rfl) | (intro _; rfl) | with_unfolding_all rfl)) (@pa_nil _))) (by first | rfl | decide | exact .inl rfl | exact .inr rfl | exact .inr (.inl rfl) | exact .inr (.inr rfl) | (intro _; rfl) | with_unfolding_all rfl) (by first | rfl | decide | exact .inl rfl | exact .inr rfl | exact .inr (.inl rfl) | exact .inr (.inr rfl) | (intro _; rfl) | with_unfolding_all rfl) (by first | rfl | decide | exact .inl rfl | exact .inr rfl | exact .inr (.inl rfl) | exact .inr (.inr rfl) | (intro _; rfl) | with_unfolding_all rfl) (by first | rfl | decide | exact .inl rfl | exact .inr rfl | exact .inr (.inl rfl) | exact .inr (.inr rfl) | (intro _; rfl) | with_unfolding_all rfl)) (@pe_one _ _ _ _ _ (@pe_callB _ _ _ _ _ _ _ _ _ (call_allK K) (by rfl) T.n_all bt_all (@pa_ListComp _ _ _ _ _ _ _ _ (@pe_comp _ _ _ _ _ _ _ _ _ _ _ ["one"] [] (by rfl) (@pi_tupK _ K _ _ _ (@pv _ 0 _ _ (by first | rfl | decide | exact .inl rfl | exact .inr rfl | exact .inr (.inl rfl) | exact .inr (.inr rfl) | (intro _; rfl) | with_unfolding_all rfl) (by first | rfl | decide | exact .inl rfl | exact .inr rfl | exact .inr (.inl rfl) | exact .inr (.inr rfl) | (intro _; rfl) | with_unfolding_all rfl) (by first | rfl | decide | exact .inl rfl | exact .inr rfl | exact .inr (.inl rfl) | exact .inr (.inr rfl) | (intro _; rfl) | with_unfolding_all rfl) (by first | rfl | decide | exact .inl rfl | exact .inr rfl | exact .inr (.inl rfl) | exact .inr (.inr rfl) | (intro _; rfl) | with_unfolding_all rfl)) (by first | rfl | decide | exact .inl rfl | exact .inr rfl | exact .inr (.inl rfl) | exact .inr (.inr rfl) | (intro _; rfl) | with_unfolding_all rfl)) (fun C s2 H2 ex => (@pg_name _ _ (0) _ (show List.Nodup (["one"] : List Str) by decide +kernel) (by rfl) (Or.inl (by rfl)) (by first | rfl | decide | exact .inl rfl | exact .inr rfl | exact .inr (.inl rfl) | exact .inr (.inr rfl) | (intro _; rfl) | with_unfolding_all rfl))) (fun C s2 H2 ex => (@pif_nil _)) (fun C s2 H2 ex => (@pe_fn _ _ _ _ _ _ _ _ _ _ _ c_is_number (hr.mono (by decide)) passN (@pa_Name _ _ _ _ _ _ (@pv _ 0 _ _ (by first | rfl | decide | exact .inl rfl | exact .inr rfl | exact .inr (.inl rfl) | exact .inr (.inr rfl) | (intro _; rfl) | with_unfolding_all rfl) (by first | rfl | decide | exact .inl rfl | exact .inr rfl | exact .inr (.inl rfl) | exact .inr (.inr rfl) | (intro _; rfl) | with_unfolding_all rfl) (by first | rfl | decide | exact .inl rfl | exact .inr rfl | exact .inr (.inl rfl) | exact .inr (.inr rfl) | (intro _; rfl) | with_unfolding_all rfl) (by first | rfl | decide | exact .inl rfl | exact .inr rfl | exact .inr (.inl rfl) | exact .inr (.inr rfl) | (intro _; rfl) | with_unfolding_all rfl)) (@pa_Constant _ _ _ _ _ _ _ (@pe_int _ _ _ _) (@pa_Name _ _ _ _ _ _ (@pe_glob _ _ (.int 255) _ _ (by rfl) hc_HIGHEST_BYTE ⟨_, rfl⟩ (by first | rfl | decide | exact .inl rfl | exact .inr rfl | exact .inr (.inl rfl) | exact .inr (.inr rfl) | (intro _; rfl) | with_unfolding_all rfl)) (@pa_nil _)))) (by first | rfl | decide | exact .inl rfl | exact .inr rfl | exact .inr (.inl rfl) | exact .inr (.inr rfl) | (intro _; rfl) | with_unfolding_all rfl) (by first | rfl | decide | exact .inl rfl | exact .inr rfl | exact .inr (.inl rfl) | exact .inr (.inr rfl) | (intro _; rfl) | with_unfolding_all rfl) (by first | rfl | decide | exact .inl rfl | exact .inr rfl | exact .inr (.inl rfl) | exact .inr (.inr rfl) | (intro _; rfl) | with_unfolding_all rfl) (by first | rfl | decide | exact .inl rfl | exact .inr rfl | exact .inr (.inl rfl) | exact .inr (.inr rfl) | (intro _; rfl) | with_unfolding_all rfl))) (by first | rfl | decide | exact .inl rfl | exact .inr rfl | exact .inr (.inl rfl) | exact .inr (.inr rfl) | (intro _; rfl) | with_unfolding_all rfl) (by first | rfl | decide | exact .inl rfl | exact .inr rfl | exact .inr (.inl rfl) | exact .inr (.inr rfl) | (intro _; rfl) | with_unfolding_all rfl) (by first | rfl | decide | exact .inl rfl | exact .inr rfl | exact .inr (.inl rfl) | exact .inr (.inr rfl) | (intro _; rfl) | with_unfolding_all rfl) (by first | rfl | decide | exact .inl rfl | exact .inr rfl | exact .inr (.inl rfl) | exact .inr (.inr rfl) | (intro _; rfl) | with_unfolding_all rfl)) (@pa_nil _)) (by first | rfl | decide | exact .inl rfl | exact .inr rfl | exact .inr (.inl rfl) | exact .inr (.inr rfl) | (intro _; rfl) | with_unfolding_all rfl) (by first | rfl | decide | exact .inl rfl | exact .inr rfl | exact .inr (.inl rfl) | exact .inr (.inr rfl) | (intro _; rfl) | with_unfolding_all rfl) (by first | rfl | decide | exact .inl rfl | exact .inr rfl | exact .inr (.inl rfl) | exact .inr (.inr rfl) | (intro _; rfl) | with_unfolding_all rfl) (by first | rfl | decide | exact .inl rfl | exact .inr rfl | exact .inr (.inl rfl) | exact .inr (.inr rfl) | (intro _; rfl) | with_unfolding_all rfl))))), ?_⟩
    refine ⟨_, rfl, _, _, _, _, rfl, hd.ty, kit_tuple d, _, rfl, ?_⟩
    cases d with
    | tuple ds =>
      refine iteT ?_
      have hd' := hd
      simp only [Den] at hd'
      obtain ⟨a, xs, rfl, ha, hds⟩ := hd'
      have hl := hds.length
      refine ⟨_, rfl, a, rfl, ⟨xs, SqT.of ha⟩, ?_⟩
      refine comp_src (src_tup (K := K) (SqT.of ha)) (by rw [hl]; exact hz ds rfl) (fun i y _ => ∃ d, ds[i]? = some d ∧ y = .bl (isNum 0 255 d)) (fun _ _ _ _ _ h => h) (fun σ => σ.length = 1) ?z0 ?_ ?_
      case z0 => rfl
      · intro i x σc H3 hi hσ s3 hx Q' hQ'
        obtain ⟨d, hdi, hdx⟩ := hds.get hx
        match σc, hσ with
        | [z], _ =>
          refine ⟨_, rfl, x, d, 0, 255, rfl, hdx.same s3, ?_⟩
          exact hQ' _ _ _ rfl (Same.refl _) ⟨d, hdi, rfl⟩
      · intro D ys H' hD s' hD' hlen hR
        have ey : ys = (ds.map (isNum 0 255)).map V.bl := by
          apply List.ext_getElem?
          intro i
          cases e : ys[i]? with
          | none =>
            have : ys.length ≤ i := List.getElem?_eq_none_iff.mp e
            rw [List.getElem?_eq_none (by rw [List.length_map, List.length_map]; omega)]
          | some y =>
            obtain ⟨d, h1, h2⟩ := hR i y e
            rw [List.getElem?_map, List.getElem?_map, h1, h2]
            rfl
        refine ⟨D, ds.map (isNum 0 255), rfl, SqL.of (by rw [hD', ey]), ?_⟩
        have := q H' s'
        simp only [isByt] at this
        rw [List.all_map]
        exact this
    | none => exact iteF (q H (Same.refl H))
    | bool x => exact iteF (q H (Same.refl H))
    | int x => exact iteF (q H (Same.refl H))
    | str x => exact iteF (q H (Same.refl H))
    | list x => exact iteF (q H (Same.refl H))
    | dict x => exact iteF (q H (Same.refl H))
end
end Qh
end
section
set_option Elab.async false
set_option linter.all false
set_option maxRecDepth 100000
namespace Qh
open PySem L2
abbrev s_cell : Stmt := top 21
abbrev s_seed : Stmt := top 23
abbrev s_pick : Stmt := top 24
abbrev s_bytes : Stmt := top 25
/-! what the draws are -/
def seedF (x k : Int) : Int := ((x * 1103515245 + 7919 * k + 12345) % 2147483647) ^ 5 % 2147483647
def pickF (x m : Int) : Int := x / 97 % m
def manyF (x m : Int) : Int := if x / 5 % 2 = 0 then x / 7 % (m + 1) else x / 7 % 4
def byteF (x : Int) (k : Nat) : Int := if (k : Int) % 2 = 0 then pickF (seedF x k) 256 else x / 11 % 3 * 100
def bytesF (x m : Int) : List Int := (List.range (manyF x m).toNat).map (byteF x)
theorem pw_nat {a b : Int} (h : 0 ≤ a) (h2 : a < 2147483647) : a.natAbs < 2 ^ 64 := by omega
theorem many_bd {x m : Int} (h0 : 0 ≤ m) : 0 ≤ manyF x m ∧ (manyF x m ≤ m ∨ manyF x m ≤ 3) := by
  unfold manyF
  have h1 := Int.emod_nonneg (x / 7) (show m + 1 ≠ 0 by omega)
  have h2 := Int.emod_lt_of_pos (x / 7) (show 0 < m + 1 by omega)
  split <;> omega
def sp_cell (K : PySem.W.Frag) : Sp := fun vs H Q _ => ∃ (a : Addr) (ns : List Int) (k : Int), vs = [.ref a, .int k] ∧ 0 ≤ k ∧ SqL K H a (ns.map V.int) ∧ Q (.int (ns.getD k.toNat 0)) H
def sp_seed : Sp := fun vs H Q _ => ∃ (x k : Int), vs = [.int x, .int k] ∧ Q (.int (seedF x k)) H
def sp_pick : Sp := fun vs H Q _ => ∃ (x m : Int), vs = [.int x, .int m] ∧ 0 < m ∧ Q (.int (pickF x m)) H
def sp_bytes : Sp := fun vs H Q _ => ∃ (x m : Int), vs = [.int x, .int m] ∧ 0 ≤ m ∧ m ≤ 1000 ∧ ∀ p H', Same H H' → H' p = some (.tup ((bytesF x m).map V.int)) → Q (.ref p) H'
section
variable {P : Program} {w : World} {K : PySem.W.Frag} {mg : Str → Option Value} {base : Heap} 
theorem sc__law_cell : FnScope ["_law_script", "_law_k"] ["_law_script", "_law_k"] (defScope s_cell) := ⟨rfl, rfl, rfl, by decide +kernel, rfl, by decide +kernel, by decide +kernel⟩
theorem ok_cell {f : Addr} {fd : FuncData} (F : Fun K "_law_cell" "_law_cell" s_cell f fd) (T : TxtN K mg) : FnOk P w K mg base (CXE P w) 1 f fd ["_law_script", "_law_k"] (sp_cell K) := by
  refine F.okX sc__law_cell (fun vs H Q E h => ?_) (fun cdv A outer s H vs Q E hr h => ?_)
  · obtain ⟨a, ns, k, rfl, _⟩ := h
    rfl
  · obtain ⟨a, ns, k, rfl, k0, hs, q⟩ := h
    refine ⟨_, @pss_cons _ _ _ _ _ (@ps_if _ _ _ _ _ _ _ _ (@pt_cmpR _ _ _ _ _ _ _ _ op_lt (@pv _ 1 _ _ (by first | rfl | decide | exact .inl rfl | exact .inr rfl | exact .inr (.inl rfl) | exact .inr (.inr rfl) | (intro _; rfl) | with_unfolding_all rfl) (by first | rfl | decide | exact .inl rfl | exact .inr rfl | exact .inr (.inl rfl) | exact .inr (.inr rfl) | (intro _; rfl) | with_unfolding_all rfl) (by first | rfl | decide | exact .inl rfl | exact .inr rfl | exact .inr (.inl rfl) | exact .inr (.inr rfl) | (intro _; rfl) | with_unfolding_all rfl) (by first | rfl | decide | exact .inl rfl | exact .inr rfl | exact .inr (.inl rfl) | exact .inr (.inr rfl) | (intro _; rfl) | with_unfolding_all rfl)) (@pe_callB _ _ _ _ _ _ _ _ _ (call_lenK K) (by rfl) T.n_len bt_len (@pa_Name _ _ _ _ _ _ (@pv _ 0 _ _ (by first | rfl | decide | exact .inl rfl | exact .inr rfl | exact .inr (.inl rfl) | exact .inr (.inr rfl) | (intro _; rfl) | with_unfolding_all rfl) (by first | rfl | decide | exact .inl rfl | exact .inr rfl | exact .inr (.inl rfl) | exact .inr (.inr rfl) | (intro _; rfl) | with_unfolding_all rfl) (by first | rfl | decide | exact .inl rfl | exact .inr rfl | exact .inr (.inl rfl) | exact .inr (.inr rfl) | (intro _; rfl) | with_unfolding_all rfl) (by first | rfl | decide | exact .inl rfl | exact .inr rfl | exact .inr (.inl rfl) | exact .inr (.inr rfl) | (intro _; rfl) | with_unfolding_all rfl)) (@pa_nil _)) (by first | rfl | decide | exact .inl rfl | exact .inr rfl | exact .inr (.inl rfl) | exact .inr (.inr rfl) | (intro _; rfl) | with_unfolding_all rfl) (by first | rfl | decide | exact .inl rfl | exact .inr rfl | exact .inr (.inl rfl) | exact .inr (.inr rfl) | (intro _; rfl) | with_unfolding_all rfl) (by first | rfl | decide | exact .inl rfl | exact .inr rfl | exact .inr (.inl rfl) | exact .inr (.inr rfl) | (intro _; rfl) | with_unfolding_all rfl) (by first | rfl | decide | exact .inl rfl | exact .inr rfl | exact .inr (.inl rfl) | exact .inr (.inr rfl) | (intro _; rfl) | with_unfolding_all rfl)) (nomark _)) (@pss_one _ _ _ (@ps_ret _ _ _ _ (@pe_ix _ _ _ _ _ _ _ (ix_listK K) (@pv _ 0 _ _ (by first | rfl | decide | exact .inl rfl | exact .inr rfl | exact .inr (.inl rfl) | exact .inr (.inr rfl) | (intro _; rfl) | with_unfolding_all rfl) (by first | rfl | decide | exact .inl rfl | exact .inr rfl | exact .inr (.inl rfl) | exact .inr (.inr rfl) | (intro _; rfl) | with_unfolding_all rfl) (by first | rfl | decide | exact .inl rfl | exact .inr rfl | exact .inr (.inl rfl) | exact .inr (.inr rfl) | (intro _; rfl) | with_unfolding_all rfl) (by first | rfl | decide | exact .inl rfl | exact .inr rfl | exact .inr (.inl rfl) | exact .inr (.inr rfl) | (intro _; rfl) | with_unfolding_all rfl)) (@pv _ 1 _ _ (by first | rfl | decide | exact .inl rfl | exact .inr rfl | exact .inr (.inl rfl) | exact .inr (.inr rfl) | (intro _; rfl) | with_unfolding_all rfl) (by first | rfl | decide | exact .inl rfl | exact .inr rfl | exact .inr (.inl rfl) | exact .inr (.inr rfl) | (intro _; rfl) | with_unfolding_all rfl) (by first | rfl | decide | exact .inl rfl | exact .inr rfl | exact .inr (.inl rfl) | exact .inr (.inr rfl) | (intro _; rfl) | with_unfolding_all rfl) (by first | rfl | decide | exact .inl rfl | exact .inr rfl | exact .inr (.inl rfl) | exact .inr (.inr rfl) | (intro _; rfl) | with_unfolding_all rfl)) (fun _ _ => rfl)))) (@pss_nil _)) (@pss_one _ _ _ (@ps_ret _ _ _ _ (@pe_int _ _ _ _))), ?_⟩
    refine ⟨_, rfl, _, rfl, a, _, rfl, .inl hs, _, _, rfl, rfl, _, rfl, ?_⟩
    rw [List.length_map]
    show if decide (k < (ns.length : Int)) = true then _ else _
    by_cases hk : k < (ns.length : Int)
    · rw [if_pos (decide_eq_true hk)]
      have hl : k.toNat < ns.length := by omega
      have eg : ns.getD k.toNat 0 = ns[k.toNat] := by
        rw [List.getD_eq_getElem?_getD, List.getElem?_eq_getElem hl]
        rfl
      rw [eg] at q
      exact ⟨_, rfl, _, rfl, a, _, _, _, rfl, rfl, hs, atI_pos k0 (by rw [List.getElem?_map, List.getElem?_eq_getElem hl]; rfl), q⟩
    · rw [if_neg (by simpa using hk)]
      have eg : ns.getD k.toNat 0 = 0 := by
        rw [List.getD_eq_getElem?_getD, List.getElem?_eq_none (by omega)]
        rfl
      rw [eg] at q
      exact q
theorem sc__law_seed : FnScope ["_law_seed_here", "_law_k"] ["_law_seed_here", "_law_k"] (defScope s_seed) := ⟨rfl, rfl, rfl, by decide +kernel, rfl, by decide +kernel, by decide +kernel⟩
theorem ok_seed {f : Addr} {fd : FuncData} (F : Fun K "_law_seed" "_law_seed" s_seed f fd) : FnOk P w K mg base (CXE P w) 1 f fd ["_law_seed_here", "_law_k"] sp_seed := by
  refine F.okX sc__law_seed (fun vs H Q E h => ?_) (fun cdv A outer s H vs Q E hr h => ?_)
  · obtain ⟨x, k, rfl, _⟩ := h
    rfl
  · obtain ⟨x, k, rfl, q⟩ := h
    refine ⟨_, @pss_one _ _ _ (@ps_ret _ _ _ _ (@pe_op _ _ _ _ _ _ _ _ op_mod (@pe_op _ _ _ _ _ _ _ _ op_pow (@pe_op _ _ _ _ _ _ _ _ op_mod (@pe_op _ _ _ _ _ _ _ _ op_add (@pe_op _ _ _ _ _ _ _ _ op_add (@pe_op _ _ _ _ _ _ _ _ op_mul (@pv _ 0 _ _ (by first | rfl | decide | exact .inl rfl | exact .inr rfl | exact .inr (.inl rfl) | exact .inr (.inr rfl) | (intro _; rfl) | with_unfolding_all rfl) (by first | rfl | decide | exact .inl rfl | exact .inr rfl | exact .inr (.inl rfl) | exact .inr (.inr rfl) | (intro _; rfl) | with_unfolding_all rfl) (by first | rfl | decide | exact .inl rfl | exact .inr rfl | exact .inr (.inl rfl) | exact .inr (.inr rfl) | (intro _; rfl) | with_unfolding_all rfl) (by first | rfl | decide | exact .inl rfl | exact .inr rfl | exact .inr (.inl rfl) | exact .inr (.inr rfl) | (intro _; rfl) | with_unfolding_all rfl)) (@pe_int _ _ _ _)) (@pe_op _ _ _ _ _ _ _ _ op_mul (@pe_int _ _ _ _) (@pv _ 1 _ _ (by first | rfl | decide | exact .inl rfl | exact .inr rfl | exact .inr (.inl rfl) | exact .inr (.inr rfl) | (intro _; rfl) | with_unfolding_all rfl) (by first | rfl | decide | exact .inl rfl | exact .inr rfl | exact .inr (.inl rfl) | exact .inr (.inr rfl) | (intro _; rfl) | with_unfolding_all rfl) (by first | rfl | decide | exact .inl rfl | exact .inr rfl | exact .inr (.inl rfl) | exact .inr (.inr rfl) | (intro _; rfl) | with_unfolding_all rfl) (by first | rfl | decide | exact .inl rfl | exact .inr rfl | exact .inr (.inl rfl) | exact .inr (.inr rfl) | (intro _; rfl) | with_unfolding_all rfl)))) (@pe_int _ _ _ _)) (@pe_int _ _ _ _)) (@pe_int _ _ _ _)) (@pe_int _ _ _ _))), ?_⟩
    have e1 := Int.emod_nonneg (x * 1103515245 + 7919 * k + 12345) (show (2147483647 : Int) ≠ 0 by decide)
    have e2 := Int.emod_lt_of_pos (x * 1103515245 + 7919 * k + 12345) (show (0 : Int) < 2147483647 by decide)
    refine ⟨_, rfl, _, _, rfl, rfl, .inr ⟨by decide, by decide⟩, _, rfl, _, _, rfl, rfl, .inl ⟨by decide, by decide⟩, _, _, rfl, rfl, _, _, rfl, rfl, _, _, rfl, rfl, (by show (0 : Int) < 2147483647; decide), _, _, rfl, rfl, ⟨by decide, by decide, pw_nat (b := 0) e1 e2⟩, _, _, rfl, rfl, (by show (0 : Int) < 2147483647; decide), ?_⟩
    exact q
theorem sc__law_pick : FnScope ["_law_seed_here", "_law_many"] ["_law_seed_here", "_law_many"] (defScope s_pick) := ⟨rfl, rfl, rfl, by decide +kernel, rfl, by decide +kernel, by decide +kernel⟩
theorem ok_pick {f : Addr} {fd : FuncData} (F : Fun K "_law_pick" "_law_pick" s_pick f fd) : FnOk P w K mg base (CXE P w) 1 f fd ["_law_seed_here", "_law_many"] sp_pick := by
  refine F.okX sc__law_pick (fun vs H Q E h => ?_) (fun cdv A outer s H vs Q E hr h => ?_)
  · obtain ⟨x, k, rfl, _⟩ := h
    rfl
  · obtain ⟨x, m, rfl, m0, q⟩ := h
    refine ⟨_, @pss_one _ _ _ (@ps_ret _ _ _ _ (@pe_op _ _ _ _ _ _ _ _ op_mod (@pe_op _ _ _ _ _ _ _ _ op_fdiv (@pv _ 0 _ _ (by first | rfl | decide | exact .inl rfl | exact .inr rfl | exact .inr (.inl rfl) | exact .inr (.inr rfl) | (intro _; rfl) | with_unfolding_all rfl) (by first | rfl | decide | exact .inl rfl | exact .inr rfl | exact .inr (.inl rfl) | exact .inr (.inr rfl) | (intro _; rfl) | with_unfolding_all rfl) (by first | rfl | decide | exact .inl rfl | exact .inr rfl | exact .inr (.inl rfl) | exact .inr (.inr rfl) | (intro _; rfl) | with_unfolding_all rfl) (by first | rfl | decide | exact .inl rfl | exact .inr rfl | exact .inr (.inl rfl) | exact .inr (.inr rfl) | (intro _; rfl) | with_unfolding_all rfl)) (@pe_int _ _ _ _)) (@pv _ 1 _ _ (by first | rfl | decide | exact .inl rfl | exact .inr rfl | exact .inr (.inl rfl) | exact .inr (.inr rfl) | (intro _; rfl) | with_unfolding_all rfl) (by first | rfl | decide | exact .inl rfl | exact .inr rfl | exact .inr (.inl rfl) | exact .inr (.inr rfl) | (intro _; rfl) | with_unfolding_all rfl) (by first | rfl | decide | exact .inl rfl | exact .inr rfl | exact .inr (.inl rfl) | exact .inr (.inr rfl) | (intro _; rfl) | with_unfolding_all rfl) (by first | rfl | decide | exact .inl rfl | exact .inr rfl | exact .inr (.inl rfl) | exact .inr (.inr rfl) | (intro _; rfl) | with_unfolding_all rfl)))), ?_⟩
    exact ⟨_, rfl, _, _, rfl, rfl, ⟨by decide, by decide⟩, _, rfl, _, _, rfl, rfl, m0, q⟩
theorem sc__law_bytes : FnScope ["_law_seed_here", "_law_most", "_law_many"] ["_law_seed_here", "_law_most"] (defScope s_bytes) := ⟨rfl, rfl, rfl, by decide +kernel, rfl, by decide +kernel, by decide +kernel⟩
set_option maxHeartbeats 1000000 in
theorem ok_bytes {f : Addr} {fd : FuncData} (F : Fun K "_law_bytes" "_law_bytes" s_bytes f fd) (T : TxtN K mg) (c__law_seed : Callee P w K mg base "_law_seed" 1 ["_law_seed_here", "_law_k"] sp_seed) (c__law_pick : Callee P w K mg base "_law_pick" 1 ["_law_seed_here", "_law_many"] sp_pick) :
    FnOk P w K mg base (CXE P w) 2 f fd ["_law_seed_here", "_law_most"] sp_bytes := by
  refine F.okX sc__law_bytes (fun vs H Q E h => ?_) (fun cdv A outer s H vs Q E hr h => ?_)
  · obtain ⟨x, k, rfl, _⟩ := h
    rfl
  · obtain ⟨x, m, rfl, m0, m9, q⟩ := h
    refine ⟨_, @pss_cons _ _ _ _ _ (@ps_set _ _ (2) _ _ _ _ sc__law_bytes.nd (by rfl) (by first | exact Or.inl (by rfl) | exact Or.inr (by rfl)) (@pe_ix _ _ _ _ _ _ _ (ix_listK K) (@pe_lst _ _ _ _ (@pa_BinOp _ _ _ _ _ _ _ _ (@pe_op _ _ _ _ _ _ _ _ op_mod (@pe_op _ _ _ _ _ _ _ _ op_fdiv (@pv _ 0 _ _ (by first | rfl | decide | exact .inl rfl | exact .inr rfl | exact .inr (.inl rfl) | exact .inr (.inr rfl) | (intro _; rfl) | with_unfolding_all rfl) (by first | rfl | decide | exact .inl rfl | exact .inr rfl | exact .inr (.inl rfl) | exact .inr (.inr rfl) | (intro _; rfl) | with_unfolding_all rfl) (by first | rfl | decide | exact .inl rfl | exact .inr rfl | exact .inr (.inl rfl) | exact .inr (.inr rfl) | (intro _; rfl) | with_unfolding_all rfl) (by first | rfl | decide | exact .inl rfl | exact .inr rfl | exact .inr (.inl rfl) | exact .inr (.inr rfl) | (intro _; rfl) | with_unfolding_all rfl)) (@pe_int _ _ _ _)) (@pe_op _ _ _ _ _ _ _ _ op_add (@pv _ 1 _ _ (by first | rfl | decide | exact .inl rfl | exact .inr rfl | exact .inr (.inl rfl) | exact .inr (.inr rfl) | (intro _; rfl) | with_unfolding_all rfl) (by first | rfl | decide | exact .inl rfl | exact .inr rfl | exact .inr (.inl rfl) | exact .inr (.inr rfl) | (intro _; rfl) | with_unfolding_all rfl) (by first | rfl | decide | exact .inl rfl | exact .inr rfl | exact .inr (.inl rfl) | exact .inr (.inr rfl) | (intro _; rfl) | with_unfolding_all rfl) (by first | rfl | decide | exact .inl rfl | exact .inr rfl | exact .inr (.inl rfl) | exact .inr (.inr rfl) | (intro _; rfl) | with_unfolding_all rfl)) (@pe_int _ _ _ _))) (@pa_BinOp _ _ _ _ _ _ _ _ (@pe_op _ _ _ _ _ _ _ _ op_mod (@pe_op _ _ _ _ _ _ _ _ op_fdiv (@pv _ 0 _ _ (by first | rfl | decide | exact .inl rfl | exact .inr rfl | exact .inr (.inl rfl) | exact .inr (.inr rfl) | (intro _; rfl) | with_unfolding_all rfl) (by first | rfl | decide | exact .inl rfl | exact .inr rfl | exact .inr (.inl rfl) | exact .inr (.inr rfl) | (intro _; rfl) | with_unfolding_all rfl) (by first | rfl | decide | exact .inl rfl | exact .inr rfl | exact .inr (.inl rfl) | exact .inr (.inr rfl) | (intro _; rfl) | with_unfolding_all rfl) (by first | rfl | decide | exact .inl rfl | exact .inr rfl | exact .inr (.inl rfl) | exact .inr (.inr rfl) | (intro _; rfl) | with_unfolding_all rfl)) (@pe_int _ _ _ _)) (@pe_int _ _ _ _)) (@pa_nil _)))) (@pe_op _ _ _ _ _ _ _ _ op_mod (@pe_op _ _ _ _ _ _ _ _ op_fdiv (@pv _ 0 _ _ (by first | rfl | decide | exact .inl rfl | exact .inr rfl | exact .inr (.inl rfl) | exact .inr (.inr rfl) | (intro _; rfl) | with_unfolding_all rfl) (by first | rfl | decide | exact .inl rfl | exact .inr rfl | exact .inr (.inl rfl) | exact .inr (.inr rfl) | (intro _; rfl) | with_unfolding_all rfl) (by first | rfl | decide | exact .inl rfl | exact .inr rfl | exact .inr (.inl rfl) | exact .inr (.inr rfl) | (intro _; rfl) | with_unfolding_all rfl) (by first | rfl | decide | exact .inl rfl | exact .inr rfl | exact .inr (.inl rfl) | exact .inr (.inr rfl) | (intro _; rfl) | with_unfolding_all rfl)) (@pe_int _ _ _ _)) (@pe_int _ _ _ _)) (fun _ _ => rfl)) (by first | rfl | decide | exact .inl rfl | exact .inr rfl | exact .inr (.inl rfl) | exact .inr (.inr rfl) | (intro _; rfl) | with_unfolding_all rfl) (by first | rfl | decide | exact .inl rfl | exact .inr rfl | exact .inr (.inl rfl) | exact .inr (.inr rfl) | (intro _; rfl) | with_unfolding_all rfl)) (@pss_one _ _ _ (@ps_ret _ _ _ _ (@pe_callTy _ _ _ _ _ _ _ _ _ (call_tupleK K) (by rfl) T.n_tuple bt_tuple (@pa_ListComp _ _ _ _ _ _ _ _ (@pe_comp _ _ _ _ _ _ _ _ _ _ _ ["_law_k"] [("_law_seed_here", 0)] (by rfl) (@pi_range1 _ _ _ _ _ _ (by rfl) T.n_range (@pa_Name _ _ _ _ _ _ (@pv _ 2 _ _ (by first | rfl | decide | exact .inl rfl | exact .inr rfl | exact .inr (.inl rfl) | exact .inr (.inr rfl) | (intro _; rfl) | with_unfolding_all rfl) (by first | rfl | decide | exact .inl rfl | exact .inr rfl | exact .inr (.inl rfl) | exact .inr (.inr rfl) | (intro _; rfl) | with_unfolding_all rfl) (by first | rfl | decide | exact .inl rfl | exact .inr rfl | exact .inr (.inl rfl) | exact .inr (.inr rfl) | (intro _; rfl) | with_unfolding_all rfl) (by first | rfl | decide | exact .inl rfl | exact .inr rfl | exact .inr (.inl rfl) | exact .inr (.inr rfl) | (intro _; rfl) | with_unfolding_all rfl)) (@pa_nil _)) (by first | rfl | decide | exact .inl rfl | exact .inr rfl | exact .inr (.inl rfl) | exact .inr (.inr rfl) | (intro _; rfl) | with_unfolding_all rfl)) (fun C s2 H2 ex => (@pg_name _ _ (0) _ (show List.Nodup (["_law_k", "_law_seed_here"] : List Str) by decide +kernel) (by rfl) (Or.inl (by rfl)) (by first | rfl | decide | exact .inl rfl | exact .inr rfl | exact .inr (.inl rfl) | exact .inr (.inr rfl) | (intro _; rfl) | with_unfolding_all rfl))) (fun C s2 H2 ex => (@pif_nil _)) (fun C s2 H2 ex => (@pe_ix _ _ _ _ _ _ _ (ix_listK K) (@pe_lst _ _ _ _ (@pa_Call _ _ _ _ _ _ _ _ (@pe_fn _ _ _ _ _ _ _ _ _ _ _ c__law_pick (hr.mono (by decide)) passN (@pa_Call _ _ _ _ _ _ _ _ (@pe_fn _ _ _ _ _ _ _ _ _ _ _ c__law_seed (hr.mono (by decide)) passN (@pa_Name _ _ _ _ _ _ (@pv _ 1 _ _ (by first | rfl | decide | exact .inl rfl | exact .inr rfl | exact .inr (.inl rfl) | exact .inr (.inr rfl) | (intro _; rfl) | with_unfolding_all rfl) (by first | rfl | decide | exact .inl rfl | exact .inr rfl | exact .inr (.inl rfl) | exact .inr (.inr rfl) | (intro _; rfl) | with_unfolding_all rfl) (by first | rfl | decide | exact .inl rfl | exact .inr rfl | exact .inr (.inl rfl) | exact .inr (.inr rfl) | (intro _; rfl) | with_unfolding_all rfl) (by first | rfl | decide | exact .inl rfl | exact .inr rfl | exact .inr (.inl rfl) | exact .inr (.inr rfl) | (intro _; rfl) | with_unfolding_all rfl)) (@pa_Name _ _ _ _ _ _ (@pv _ 0 _ _ (by first | rfl | decide | exact .inl rfl | exact .inr rfl | exact .inr (.inl rfl) | exact .inr (.inr rfl) | (intro _; rfl) | with_unfolding_all rfl) (by first | rfl | decide | exact .inl rfl | exact .inr rfl | exact .inr (.inl rfl) | exact .inr (.inr rfl) | (intro _; rfl) | with_unfolding_all rfl) (by first | rfl | decide | exact .inl rfl | exact .inr rfl | exact .inr (.inl rfl) | exact .inr (.inr rfl) | (intro _; rfl) | with_unfolding_all rfl) (by first | rfl | decide | exact .inl rfl | exact .inr rfl | exact .inr (.inl rfl) | exact .inr (.inr rfl) | (intro _; rfl) | with_unfolding_all rfl)) (@pa_nil _))) (by first | rfl | decide | exact .inl rfl | exact .inr rfl | exact .inr (.inl rfl) | exact .inr (.inr rfl) | (intro _; rfl) | with_unfolding_all rfl) (by first | rfl | decide | exact .inl rfl | exact .inr rfl | exact .inr (.inl rfl) | exact .inr (.inr rfl) | (intro _; rfl) | with_unfolding_all rfl) (by first | rfl | decide | exact .inl rfl | exact .inr rfl | exact .inr (.inl rfl) | exact .inr (.inr rfl) | (intro _; rfl) | with_unfolding_all rfl) (by first | rfl | decide | exact .inl rfl | exact .inr rfl | exact .inr (.inl rfl) | exact .inr (.inr rfl) | (intro _; rfl) | with_unfolding_all rfl)) (@pa_Constant _ _ _ _ _ _ _ (@pe_int _ _ _ _) (@pa_nil _))) (by first | rfl | decide | exact .inl rfl | exact .inr rfl | exact .inr (.inl rfl) | exact .inr (.inr rfl) | (intro _; rfl) | with_unfolding_all rfl) (by first | rfl | decide | exact .inl rfl | exact .inr rfl | exact .inr (.inl rfl) | exact .inr (.inr rfl) | (intro _; rfl) | with_unfolding_all rfl) (by first | rfl | decide | exact .inl rfl | exact .inr rfl | exact .inr (.inl rfl) | exact .inr (.inr rfl) | (intro _; rfl) | with_unfolding_all rfl) (by first | rfl | decide | exact .inl rfl | exact .inr rfl | exact .inr (.inl rfl) | exact .inr (.inr rfl) | (intro _; rfl) | with_unfolding_all rfl)) (@pa_BinOp _ _ _ _ _ _ _ _ (@pe_op _ _ _ _ _ _ _ _ op_mul (@pe_op _ _ _ _ _ _ _ _ op_mod (@pe_op _ _ _ _ _ _ _ _ op_fdiv (@pv _ 1 _ _ (by first | rfl | decide | exact .inl rfl | exact .inr rfl | exact .inr (.inl rfl) | exact .inr (.inr rfl) | (intro _; rfl) | with_unfolding_all rfl) (by first | rfl | decide | exact .inl rfl | exact .inr rfl | exact .inr (.inl rfl) | exact .inr (.inr rfl) | (intro _; rfl) | with_unfolding_all rfl) (by first | rfl | decide | exact .inl rfl | exact .inr rfl | exact .inr (.inl rfl) | exact .inr (.inr rfl) | (intro _; rfl) | with_unfolding_all rfl) (by first | rfl | decide | exact .inl rfl | exact .inr rfl | exact .inr (.inl rfl) | exact .inr (.inr rfl) | (intro _; rfl) | with_unfolding_all rfl)) (@pe_int _ _ _ _)) (@pe_int _ _ _ _)) (@pe_int _ _ _ _)) (@pa_nil _)))) (@pe_op _ _ _ _ _ _ _ _ op_mod (@pv _ 0 _ _ (by first | rfl | decide | exact .inl rfl | exact .inr rfl | exact .inr (.inl rfl) | exact .inr (.inr rfl) | (intro _; rfl) | with_unfolding_all rfl) (by first | rfl | decide | exact .inl rfl | exact .inr rfl | exact .inr (.inl rfl) | exact .inr (.inr rfl) | (intro _; rfl) | with_unfolding_all rfl) (by first | rfl | decide | exact .inl rfl | exact .inr rfl | exact .inr (.inl rfl) | exact .inr (.inr rfl) | (intro _; rfl) | with_unfolding_all rfl) (by first | rfl | decide | exact .inl rfl | exact .inr rfl | exact .inr (.inl rfl) | exact .inr (.inr rfl) | (intro _; rfl) | with_unfolding_all rfl)) (@pe_int _ _ _ _)) (fun _ _ => rfl))) (by first | rfl | decide | exact .inl rfl | exact .inr rfl | exact .inr (.inl rfl) | exact .inr (.inr rfl) | (intro _; rfl) | with_unfolding_all rfl) (by first | rfl | decide | exact .inl rfl | exact .inr rfl | exact .inr (.inl rfl) | exact .inr (.inr rfl) | (intro _; rfl) | with_unfolding_all rfl) (by first | rfl | decide | exact .inl rfl | exact .inr rfl | exact .inr (.inl rfl) | exact .inr (.inr rfl) | (intro _; rfl) | with_unfolding_all rfl) (by first | rfl | decide | exact .inl rfl | exact .inr rfl | exact .inr (.inl rfl) | exact .inr (.inr rfl) | (intro _; rfl) | with_unfolding_all rfl)) (@pa_nil _)) (by first | rfl | decide | exact .inl rfl | exact .inr rfl | exact .inr (.inl rfl) | exact .inr (.inr rfl) | (intro _; rfl) | with_unfolding_all rfl) (by first | rfl | decide | exact .inl rfl | exact .inr rfl | exact .inr (.inl rfl) | exact .inr (.inr rfl) | (intro _; rfl) | with_unfolding_all rfl) (by first | rfl | decide | exact .inl rfl | exact .inr rfl | exact .inr (.inl rfl) | exact .inr (.inr rfl) | (intro _; rfl) | with_unfolding_all rfl) (by first | rfl | decide | exact .inl rfl | exact .inr rfl | exact .inr (.inl rfl) | exact .inr (.inr rfl) | (intro _; rfl) | with_unfolding_all rfl)))), ?_⟩
    have d0 := Int.emod_nonneg (x / 5) (show (2 : Int) ≠ 0 by decide)
    have d1 := Int.emod_lt_of_pos (x / 5) (show (0 : Int) < 2 by decide)
    obtain ⟨b0, b1⟩ := many_bd (x := x) m0
    refine ⟨_, rfl, _, _, rfl, rfl, ⟨by decide, by decide⟩, _, rfl, _, _, rfl, rfl, _, _, rfl, rfl, (by show (0 : Int) < m + 1; omega), _, rfl, _, _, rfl, rfl, ⟨by decide, by decide⟩, _, _, rfl, rfl, (by show (0 : Int) < 4; decide), (by show 2 ≤ sizeLine; decide), fun p1 hp1 => ?_⟩
    refine ⟨_, rfl, _, _, rfl, rfl, ⟨by decide, by decide⟩, _, _, rfl, rfl, (by show (0 : Int) < 2; decide), p1, _, _, .int (manyF x m), rfl, rfl, SqL.of upd_same, atI_pos d0 ?_, ?_⟩
    · unfold manyF
      by_cases h : x / 5 % 2 = 0
      · rw [h, if_pos rfl]
        rfl
      · have h1 : x / 5 % 2 = 1 := by omega
        rw [h1, if_neg (by decide)]
        rfl
    have S1 : Same H _ := same_upd (o := .lst [V.int (x / 7 % (m + 1)), V.int (x / 7 % 4)]) hp1
    refine ⟨_, rfl, manyF x m, rfl, by omega, by omega, ?_⟩
    refine comp_src (src_range (H := upd H p1 (.lst [V.int (x / 7 % (m + 1)), V.int (x / 7 % 4)])) 0 (manyF x m).toNat) ?zl (fun i y _ => y = .int (byteF x i)) (fun _ _ _ _ _ h => h) (fun σ => ∃ z, σ = [z, some (.int x)]) ?z0 ?_ ?_
    case zl => exact Nat.le_trans (show (manyF x m).toNat ≤ 1003 by omega) (by decide)
    case z0 => exact ⟨none, rfl⟩
    · intro i y σc H3 hi hσ s3 hx Q' hQ'
      obtain ⟨z, rfl⟩ := hσ
      subst hx
      have e0 : (0 : Int) + (i : Int) = i := by omega
      have i0 := Int.emod_nonneg (i : Int) (show (2 : Int) ≠ 0 by decide)
      have i1 := Int.emod_lt_of_pos (i : Int) (show (0 : Int) < 2 by decide)
      refine ⟨_, rfl, _, rfl, x, _, rfl, _, 256, rfl, by decide, ?_⟩
      refine ⟨_, rfl, _, _, rfl, rfl, ⟨by decide, by decide⟩, _, _, rfl, rfl, (by show (0 : Int) < 3; decide), _, _, rfl, rfl, .inr ⟨by decide, by decide⟩, (by show 2 ≤ sizeLine; decide), fun p2 hp2 => ?_⟩
      refine ⟨_, rfl, _, _, rfl, rfl, (by show (0 : Int) < 2; decide), p2, _, _, .int (byteF x i), rfl, rfl, SqL.of upd_same, ?_, ?_⟩
      · rw [e0]
        refine atI_pos i0 ?_
        unfold byteF
        by_cases h : (i : Int) % 2 = 0
        · rw [h, if_pos rfl]
          rfl
        · have h1 : (i : Int) % 2 = 1 := by omega
          rw [h1, if_neg (by decide)]
          rfl
      · exact hQ' _ _ _ ⟨_, rfl⟩ (same_upd hp2) rfl
    · intro D ys H' hD s' hD' hlen hR
      have ey : ys = (bytesF x m).map V.int := by
        unfold bytesF
        apply List.ext_getElem?
        intro i
        cases e : ys[i]? with
        | none =>
          have : ys.length ≤ i := List.getElem?_eq_none_iff.mp e
          rw [List.getElem?_eq_none (by rw [List.length_map, List.length_map, List.length_range]; omega)]
        | some y =>
          have hi : i < (manyF x m).toNat := by
            have := (List.getElem?_eq_some_iff.mp e).1
            omega
          rw [hR i y e, List.getElem?_map, List.getElem?_map, List.getElem?_range hi]
          rfl
      refine ⟨D, _, rfl, .inl ⟨SqL.of hD', fun l hl => ?_⟩⟩
      refine q l _ ((S1.trans s').trans (same_upd hl)) ?_
      rw [upd_same, ey]
end
end Qh
end
section
set_option Elab.async false
set_option linter.all false
set_option maxRecDepth 100000
namespace Qh
open PySem L2
theorem bt_sorted : bootBuiltins "sorted" = some (.builtin "sorted") := by decide +kernel
theorem hu1 {a c : Nat} (h : a + 64 < c) : a + 1 < c := by omega
abbrev s_is_word : Stmt := top 4
abbrev s_check_name : Stmt := top 17
abbrev s_check_steps : Stmt := top 18
def signs36 : Str := "abcdefghijklmnopqrstuvwxyz0123456789"
def inS (signs : Str) (c : Nat) : Bool := !(Builtin.Str.occurrences signs ⟨#[c]⟩ 0 signs.length 1).isEmpty
def ascii (x : Str) : Bool := x.cps.all fun c => decide (c < 128)
def wordD (signs : Str) (l : Int) : PyData → Bool
  | .str x => (decide (1 ≤ (x.length : Int)) && decide ((x.length : Int) ≤ l)) && x.cps.toList.all (inS signs)
  | _ => false
def sp_is_word : Sp := fun vs H Q _ => ∃ (v : V) (d : PyData) (signs : Str) (l : Int), vs = [v, .str signs, .int l] ∧ Den H d v ∧ (∀ x, d = .str x → x.length ≤ 1000 ∧ ascii x = true) ∧ ∀ H', Same H H' → Q (.bl (wordD signs l d)) H'
structure TxtD (K : PySem.W.Frag) (mg : Str → Option Value) (C_BadName C_Missing C_There C_Stopped C_BadRow C_BadNumber C_Disk : Addr) : Prop extends TxtN K mg where
  c_NAME_SIGNS : ∃ t, mg "NAME_SIGNS" = some (.str signs36 t)
  c_LONGEST_NAME : ∃ t, mg "LONGEST_NAME" = some (.int 8 t)
  c_MOST_STEPS : ∃ t, mg "MOST_STEPS" = some (.int 100000 t)
  x_BadName : excIn K C_BadName = true
  m_BadName : mg "BadName" = some (.ref C_BadName)
  x_Missing : excIn K C_Missing = true
  m_Missing : mg "Missing" = some (.ref C_Missing)
  x_There : excIn K C_There = true
  m_There : mg "There" = some (.ref C_There)
  x_Stopped : excIn K C_Stopped = true
  m_Stopped : mg "Stopped" = some (.ref C_Stopped)
  x_BadRow : excIn K C_BadRow = true
  m_BadRow : mg "BadRow" = some (.ref C_BadRow)
  x_BadNumber : excIn K C_BadNumber = true
  m_BadNumber : mg "BadNumber" = some (.ref C_BadNumber)
  cl : Cls K C_Disk
  f_files : NoAttr K C_Disk "files"
  f_steps_done : NoAttr K C_Disk "steps_done"
  f_steps_ahead : NoAttr K C_Disk "steps_ahead"
def sp_check_name (C_BadName : Addr) : Sp := fun vs H Q E => ∃ (v : V) (d : PyData), vs = [v] ∧ Den H d v ∧ (∀ x, d = .str x → x.length ≤ 1000 ∧ ascii x = true) ∧ (wordD signs36 8 d = true → ∀ H', Same H H' → Q .non H') ∧ (wordD signs36 8 d = false → ∀ H', Same H H' → E (.ref C_BadName) none H')
def stepsOk : PyData → Bool
  | .none => true
  | d => isNum 0 100000 d
def sp_check_steps (C_BadNumber : Addr) : Sp := fun vs H Q E => ∃ (v : V) (d : PyData), vs = [v] ∧ Den H d v ∧ (stepsOk d = true → Q .non H) ∧ (stepsOk d = false → E (.ref C_BadNumber) none H)
theorem go_next {n : St → Hp → Prop} {D : Ends} {σ : St} {H : Hp} (e : D.nx = n) (h : n σ H) : tNext D σ H := by
  subst e
  exact h
section
variable {P : Program} {w : World} {K : PySem.W.Frag} {mg : Str → Option Value} {base : Heap} {C_BadName C_Missing C_There C_Stopped C_BadRow C_BadNumber C_Disk : Addr}
theorem sc_is_word : FnScope ["thing", "signs", "longest"] ["thing", "signs", "longest"] (defScope s_is_word) := ⟨rfl, rfl, rfl, by decide +kernel, rfl, by decide +kernel, by decide +kernel⟩
set_option maxHeartbeats 1000000 in
theorem ok_is_word {f : Addr} {fd : FuncData} (F : Fun K "is_word" "is_word" s_is_word f fd) (T : TxtN K mg) : FnOk P w K mg base (CXE P w) 1 f fd ["thing", "signs", "longest"] sp_is_word := by
  refine F.okX sc_is_word (fun vs H Q E h => ?_) (fun cdv A outer s H vs Q E hr h => ?_)
  · obtain ⟨v, d, signs, l, rfl, _⟩ := h
    rfl
  · obtain ⟨v, d, signs, l, rfl, hd, hz, q⟩ := h
    refine ⟨_, @pss_cons _ _ _ _ _ (@ps_if _ _ _ _ _ _ _ _ (@PW.pt _ _ _ (@pw_or _ _ _ _ _ _ _ (@pt_not _ _ _ _ (@pt_val _ _ _ (@pe_callB _ _ _ _ _ _ _ _ _ (call_isiK K) (by rfl) T.n_isinstance bt_isinstance (@pa_Name _ _ _ _ _ _ (@pv _ 0 _ _ (by first | rfl | decide | exact .inl rfl | exact .inr rfl | exact .inr (.inl rfl) | exact .inr (.inr rfl) | (intro _; rfl) | with_unfolding_all rfl) (by first | rfl | decide | exact .inl rfl | exact .inr rfl | exact .inr (.inl rfl) | exact .inr (.inr rfl) | (intro _; rfl) | with_unfolding_all rfl) (by first | rfl | decide | exact .inl rfl | exact .inr rfl | exact .inr (.inl rfl) | exact .inr (.inr rfl) | (intro _; rfl) | with_unfolding_all rfl) (by first | rfl | decide | exact .inl rfl | exact .inr rfl | exact .inr (.inl rfl) | exact .inr (.inr rfl) | (intro _; rfl) | with_unfolding_all rfl)) (@pa_Name _ _ _ _ _ _ (@pe_bltn _ _ (.ty "str") _ _ (by rfl) T.n_str bt_str (by rfl) (by first | rfl | decide | exact .inl rfl | exact .inr rfl | exact .inr (.inl rfl) | exact .inr (.inr rfl) | (intro _; rfl) | with_unfolding_all rfl) (by first | rfl | decide | exact .inl rfl | exact .inr rfl | exact .inr (.inl rfl) | exact .inr (.inr rfl) | (intro _; rfl) | with_unfolding_all rfl)) (@pa_nil _))) (by first | rfl | decide | exact .inl rfl | exact .inr rfl | exact .inr (.inl rfl) | exact .inr (.inr rfl) | (intro _; rfl) | with_unfolding_all rfl) (by first | rfl | decide | exact .inl rfl | exact .inr rfl | exact .inr (.inl rfl) | exact .inr (.inr rfl) | (intro _; rfl) | with_unfolding_all rfl) (by first | rfl | decide | exact .inl rfl | exact .inr rfl | exact .inr (.inl rfl) | exact .inr (.inr rfl) | (intro _; rfl) | with_unfolding_all rfl) (by first | rfl | decide | exact .inl rfl | exact .inr rfl | exact .inr (.inl rfl) | exact .inr (.inr rfl) | (intro _; rfl) | with_unfolding_all rfl)) (by first | rfl | decide | exact .inl rfl | exact .inr rfl | exact .inr (.inl rfl) | exact .inr (.inr rfl) | (intro _; rfl) | with_unfolding_all rfl))) (@pw_or1 _ _ _ _ (@pt_not _ _ _ _ (@pt_chain _ _ _ _ _ _ _ _ _ _ _ _ op_le op_le (@pe_int _ _ _ _) (@pe_callB _ _ _ _ _ _ _ _ _ call_len_str (by rfl) T.n_len bt_len (@pa_Name _ _ _ _ _ _ (@pv _ 0 _ _ (by first | rfl | decide | exact .inl rfl | exact .inr rfl | exact .inr (.inl rfl) | exact .inr (.inr rfl) | (intro _; rfl) | with_unfolding_all rfl) (by first | rfl | decide | exact .inl rfl | exact .inr rfl | exact .inr (.inl rfl) | exact .inr (.inr rfl) | (intro _; rfl) | with_unfolding_all rfl) (by first | rfl | decide | exact .inl rfl | exact .inr rfl | exact .inr (.inl rfl) | exact .inr (.inr rfl) | (intro _; rfl) | with_unfolding_all rfl) (by first | rfl | decide | exact .inl rfl | exact .inr rfl | exact .inr (.inl rfl) | exact .inr (.inr rfl) | (intro _; rfl) | with_unfolding_all rfl)) (@pa_nil _)) (by first | rfl | decide | exact .inl rfl | exact .inr rfl | exact .inr (.inl rfl) | exact .inr (.inr rfl) | (intro _; rfl) | with_unfolding_all rfl) (by first | rfl | decide | exact .inl rfl | exact .inr rfl | exact .inr (.inl rfl) | exact .inr (.inr rfl) | (intro _; rfl) | with_unfolding_all rfl) (by first | rfl | decide | exact .inl rfl | exact .inr rfl | exact .inr (.inl rfl) | exact .inr (.inr rfl) | (intro _; rfl) | with_unfolding_all rfl) (by first | rfl | decide | exact .inl rfl | exact .inr rfl | exact .inr (.inl rfl) | exact .inr (.inr rfl) | (intro _; rfl) | with_unfolding_all rfl)) (@pv _ 2 _ _ (by first | rfl | decide | exact .inl rfl | exact .inr rfl | exact .inr (.inl rfl) | exact .inr (.inr rfl) | (intro _; rfl) | with_unfolding_all rfl) (by first | rfl | decide | exact .inl rfl | exact .inr rfl | exact .inr (.inl rfl) | exact .inr (.inr rfl) | (intro _; rfl) | with_unfolding_all rfl) (by first | rfl | decide | exact .inl rfl | exact .inr rfl | exact .inr (.inl rfl) | exact .inr (.inr rfl) | (intro _; rfl) | with_unfolding_all rfl) (by first | rfl | decide | exact .inl rfl | exact .inr rfl | exact .inr (.inl rfl) | exact .inr (.inr rfl) | (intro _; rfl) | with_unfolding_all rfl)) (by first | rfl | decide | exact .inl rfl | exact .inr rfl | exact .inr (.inl rfl) | exact .inr (.inr rfl) | (intro _; rfl) | with_unfolding_all rfl)))))) (@pss_one _ _ _ (@ps_ret _ _ _ _ (@pe_bl _ _ _ _))) (@pss_nil _)) (@pss_one _ _ _ (@ps_ret _ _ _ _ (@pe_callB _ _ _ _ _ _ _ _ _ (call_allK K) (by rfl) T.n_all bt_all (@pa_ListComp _ _ _ _ _ _ _ _ (@pe_comp _ _ _ _ _ _ _ _ _ _ _ ["sign"] [("signs", 1)] (by rfl) (@pi_str _ _ _ _ (@pv _ 0 _ _ (by first | rfl | decide | exact .inl rfl | exact .inr rfl | exact .inr (.inl rfl) | exact .inr (.inr rfl) | (intro _; rfl) | with_unfolding_all rfl) (by first | rfl | decide | exact .inl rfl | exact .inr rfl | exact .inr (.inl rfl) | exact .inr (.inr rfl) | (intro _; rfl) | with_unfolding_all rfl) (by first | rfl | decide | exact .inl rfl | exact .inr rfl | exact .inr (.inl rfl) | exact .inr (.inr rfl) | (intro _; rfl) | with_unfolding_all rfl) (by first | rfl | decide | exact .inl rfl | exact .inr rfl | exact .inr (.inl rfl) | exact .inr (.inr rfl) | (intro _; rfl) | with_unfolding_all rfl))) (fun C s2 H2 ex => (@pg_name _ _ (0) _ (show List.Nodup (["sign", "signs"] : List Str) by decide +kernel) (by rfl) (Or.inl (by rfl)) (by first | rfl | decide | exact .inl rfl | exact .inr rfl | exact .inr (.inl rfl) | exact .inr (.inr rfl) | (intro _; rfl) | with_unfolding_all rfl))) (fun C s2 H2 ex => (@pif_nil _)) (fun C s2 H2 ex => (@pe_cmpR _ _ _ _ _ _ _ _ op_in_str (@pv _ 0 _ _ (by first | rfl | decide | exact .inl rfl | exact .inr rfl | exact .inr (.inl rfl) | exact .inr (.inr rfl) | (intro _; rfl) | with_unfolding_all rfl) (by first | rfl | decide | exact .inl rfl | exact .inr rfl | exact .inr (.inl rfl) | exact .inr (.inr rfl) | (intro _; rfl) | with_unfolding_all rfl) (by first | rfl | decide | exact .inl rfl | exact .inr rfl | exact .inr (.inl rfl) | exact .inr (.inr rfl) | (intro _; rfl) | with_unfolding_all rfl) (by first | rfl | decide | exact .inl rfl | exact .inr rfl | exact .inr (.inl rfl) | exact .inr (.inr rfl) | (intro _; rfl) | with_unfolding_all rfl)) (@pv _ 1 _ _ (by first | rfl | decide | exact .inl rfl | exact .inr rfl | exact .inr (.inl rfl) | exact .inr (.inr rfl) | (intro _; rfl) | with_unfolding_all rfl) (by first | rfl | decide | exact .inl rfl | exact .inr rfl | exact .inr (.inl rfl) | exact .inr (.inr rfl) | (intro _; rfl) | with_unfolding_all rfl) (by first | rfl | decide | exact .inl rfl | exact .inr rfl | exact .inr (.inl rfl) | exact .inr (.inr rfl) | (intro _; rfl) | with_unfolding_all rfl) (by first | rfl | decide | exact .inl rfl | exact .inr rfl | exact .inr (.inl rfl) | exact .inr (.inr rfl) | (intro _; rfl) | with_unfolding_all rfl)) (by rfl))) (by first | rfl | decide | exact .inl rfl | exact .inr rfl | exact .inr (.inl rfl) | exact .inr (.inr rfl) | (intro _; rfl) | with_unfolding_all rfl) (by first | rfl | decide | exact .inl rfl | exact .inr rfl | exact .inr (.inl rfl) | exact .inr (.inr rfl) | (intro _; rfl) | with_unfolding_all rfl) (by first | rfl | decide | exact .inl rfl | exact .inr rfl | exact .inr (.inl rfl) | exact .inr (.inr rfl) | (intro _; rfl) | with_unfolding_all rfl) (by first | rfl | decide | exact .inl rfl | exact .inr rfl | exact .inr (.inl rfl) | exact .inr (.inr rfl) | (intro _; rfl) | with_unfolding_all rfl)) (@pa_nil _)) (by first | rfl | decide | exact .inl rfl | exact .inr rfl | exact .inr (.inl rfl) | exact .inr (.inr rfl) | (intro _; rfl) | with_unfolding_all rfl) (by first | rfl | decide | exact .inl rfl | exact .inr rfl | exact .inr (.inl rfl) | exact .inr (.inr rfl) | (intro _; rfl) | with_unfolding_all rfl) (by first | rfl | decide | exact .inl rfl | exact .inr rfl | exact .inr (.inl rfl) | exact .inr (.inr rfl) | (intro _; rfl) | with_unfolding_all rfl) (by first | rfl | decide | exact .inl rfl | exact .inr rfl | exact .inr (.inl rfl) | exact .inr (.inr rfl) | (intro _; rfl) | with_unfolding_all rfl)))), ?_⟩
    refine ⟨_, rfl, _, _, _, _, rfl, hd.ty, kit_str d, _, rfl, ?_⟩
    cases d with
    | none => exact iteT (iteT (q H (Same.refl H)))
    | bool x => exact iteT (iteT (q H (Same.refl H)))
    | int x => exact iteT (iteT (q H (Same.refl H)))
    | tuple x => exact iteT (iteT (q H (Same.refl H)))
    | list x => exact iteT (iteT (q H (Same.refl H)))
    | dict x => exact iteT (iteT (q H (Same.refl H)))
    | str x =>
    refine iteF ?_
    obtain ⟨z1, z2⟩ := hz x rfl
    have e : v = .str x := by simpa only [Den] using hd
    subst e
    have zl : x.length ≤ sizeLine := Nat.le_trans z1 (by decide)
    refine ⟨_, rfl, x, rfl, zl, _, _, rfl, rfl, _, rfl, ?_⟩
    simp only [wordD] at q
    by_cases h1 : 1 ≤ (x.length : Int)
    case neg =>
      rw [if_neg (by rw [decide_eq_true_eq]; exact h1)]
      rw [decide_eq_false h1, Bool.false_and, Bool.false_and] at q
      exact ⟨_, rfl, iteT (q H (Same.refl H))⟩
    rw [if_pos (decide_eq_true h1)]
    rw [decide_eq_true h1, Bool.true_and] at q
    refine ⟨_, rfl, _, _, rfl, rfl, _, rfl, ?_⟩
    show if (!decide ((x.length : Int) ≤ l)) = true then _ else _
    by_cases h2 : (x.length : Int) ≤ l
    case neg =>
      rw [decide_eq_false h2] at q ⊢
      exact iteT (q H (Same.refl H))
    rw [decide_eq_true h2] at q ⊢
    rw [Bool.true_and] at q
    refine iteF ?_
    refine go_next rfl ?_
    refine ⟨_, rfl, x, rfl, z2, ?_⟩
    refine comp_src (src_str (H := H) x) zl (fun i y _ => ∃ c, x.cps[i]? = some c ∧ y = .bl (inS signs c)) (fun _ _ _ _ _ h => h) (fun σ => ∃ z, σ = [z, some (.str signs)]) ?z0 ?_ ?_
    case z0 => exact ⟨none, rfl⟩
    · intro i y σc H3 hi hσ s3 hx Q' hQ'
      obtain ⟨z, rfl⟩ := hσ
      obtain ⟨c, hc, rfl⟩ := hx
      refine ⟨_, rfl, _, rfl, _, _, rfl, rfl, ?_⟩
      exact hQ' _ _ _ ⟨_, rfl⟩ (Same.refl _) ⟨c, hc, rfl⟩
    intro D ys H' hD s' hD' hlen hR
    have ey : ys = (x.cps.toList.map (inS signs)).map V.bl := by
      apply List.ext_getElem?
      intro i
      cases e : ys[i]? with
      | none =>
        have : ys.length ≤ i := List.getElem?_eq_none_iff.mp e
        rw [List.getElem?_eq_none (by rw [List.length_map, List.length_map, Array.length_toList]; omega)]
      | some y =>
        obtain ⟨c, h1, h2⟩ := hR i y e
        rw [List.getElem?_map, List.getElem?_map, Array.getElem?_toList, h1, h2]
        rfl
    refine ⟨D, x.cps.toList.map (inS signs), rfl, SqL.of (by rw [hD', ey]), ?_⟩
    rw [List.all_map]
    exact q H' s'
theorem sc_check_name : FnScope ["name"] ["name"] (defScope s_check_name) := ⟨rfl, rfl, rfl, by decide +kernel, rfl, by decide +kernel, by decide +kernel⟩
theorem ok_check_name {f : Addr} {fd : FuncData} (F : Fun K "check_name" "check_name" s_check_name f fd) (T : TxtD K mg C_BadName C_Missing C_There C_Stopped C_BadRow C_BadNumber C_Disk) (c_is_word : Callee P w K mg base "is_word" 1 ["thing", "signs", "longest"] sp_is_word) : FnOk P w K mg base (CXE P w) 2 f fd ["name"] (sp_check_name C_BadName) := by
  obtain ⟨_, hc_NAME_SIGNS⟩ := T.c_NAME_SIGNS
  obtain ⟨_, hc_LONGEST_NAME⟩ := T.c_LONGEST_NAME
  refine F.okX sc_check_name (fun vs H Q E h => ?_) (fun cdv A outer s H vs Q E hr h => ?_)
  · obtain ⟨v, d, rfl, _⟩ := h
    rfl
  · obtain ⟨v, d, rfl, hd, hz, q, qe⟩ := h
    refine ⟨_, @pss_one _ _ _ (@ps_if _ _ _ _ _ _ _ _ (@pt_not _ _ _ _ (@pt_val _ _ _ (@pe_fn _ _ _ _ _ _ _ _ _ _ _ c_is_word (hr.mono (by decide)) passN (@pa_Name _ _ _ _ _ _ (@pv _ 0 _ _ (by first | rfl | decide | exact .inl rfl | exact .inr rfl | exact .inr (.inl rfl) | exact .inr (.inr rfl) | (intro _; rfl) | with_unfolding_all rfl) (by first | rfl | decide | exact .inl rfl | exact .inr rfl | exact .inr (.inl rfl) | exact .inr (.inr rfl) | (intro _; rfl) | with_unfolding_all rfl) (by first | rfl | decide | exact .inl rfl | exact .inr rfl | exact .inr (.inl rfl) | exact .inr (.inr rfl) | (intro _; rfl) | with_unfolding_all rfl) (by first | rfl | decide | exact .inl rfl | exact .inr rfl | exact .inr (.inl rfl) | exact .inr (.inr rfl) | (intro _; rfl) | with_unfolding_all rfl)) (@pa_Name _ _ _ _ _ _ (@pe_glob _ _ (.str "abcdefghijklmnopqrstuvwxyz0123456789") _ _ (by rfl) hc_NAME_SIGNS ⟨_, rfl⟩ (by first | rfl | decide | exact .inl rfl | exact .inr rfl | exact .inr (.inl rfl) | exact .inr (.inr rfl) | (intro _; rfl) | with_unfolding_all rfl)) (@pa_Name _ _ _ _ _ _ (@pe_glob _ _ (.int 8) _ _ (by rfl) hc_LONGEST_NAME ⟨_, rfl⟩ (by first | rfl | decide | exact .inl rfl | exact .inr rfl | exact .inr (.inl rfl) | exact .inr (.inr rfl) | (intro _; rfl) | with_unfolding_all rfl)) (@pa_nil _)))) (by first | rfl | decide | exact .inl rfl | exact .inr rfl | exact .inr (.inl rfl) | exact .inr (.inr rfl) | (intro _; rfl) | with_unfolding_all rfl) (by first | rfl | decide | exact .inl rfl | exact .inr rfl | exact .inr (.inl rfl) | exact .inr (.inr rfl) | (intro _; rfl) | with_unfolding_all rfl) (by first | rfl | decide | exact .inl rfl | exact .inr rfl | exact .inr (.inl rfl) | exact .inr (.inr rfl) | (intro _; rfl) | with_unfolding_all rfl) (by first | rfl | decide | exact .inl rfl | exact .inr rfl | exact .inr (.inl rfl) | exact .inr (.inr rfl) | (intro _; rfl) | with_unfolding_all rfl)) (by first | rfl | decide | exact .inl rfl | exact .inr rfl | exact .inr (.inl rfl) | exact .inr (.inr rfl) | (intro _; rfl) | with_unfolding_all rfl))) (@pss_one _ _ _ (@ps_raise _ _ _ _ _ _ _ _ _ _ raisesB (by rfl) T.x_BadName (by rfl) T.m_BadName (@pa_Constant _ _ _ _ _ _ _ (@pe_str _ _ _ _) (@pa_nil _)) (by first | rfl | decide | exact .inl rfl | exact .inr rfl | exact .inr (.inl rfl) | exact .inr (.inr rfl) | (intro _; rfl) | with_unfolding_all rfl) (by first | rfl | decide | exact .inl rfl | exact .inr rfl | exact .inr (.inl rfl) | exact .inr (.inr rfl) | (intro _; rfl) | with_unfolding_all rfl) (by first | rfl | decide | exact .inl rfl | exact .inr rfl | exact .inr (.inl rfl) | exact .inr (.inr rfl) | (intro _; rfl) | with_unfolding_all rfl))) (@pss_nil _)), ?_⟩
    refine ⟨_, rfl, v, d, signs36, 8, rfl, hd, hz, fun H1 S1 => ⟨_, rfl, ?_⟩⟩
    cases hb : wordD signs36 8 d with
    | false => exact iteT ⟨(by show 1 ≤ sizeLine; decide), qe hb H1 S1⟩
    | true => exact iteF (q hb H1 S1)
theorem sc_check_steps : FnScope ["steps"] ["steps"] (defScope s_check_steps) := ⟨rfl, rfl, rfl, by decide +kernel, rfl, by decide +kernel, by decide +kernel⟩
theorem ok_check_steps {f : Addr} {fd : FuncData} (F : Fun K "check_steps" "check_steps" s_check_steps f fd) (T : TxtD K mg C_BadName C_Missing C_There C_Stopped C_BadRow C_BadNumber C_Disk) (c_is_number : Callee P w K mg base "is_number" 1 ["thing", "least", "most"] sp_is_number) : FnOk P w K mg base (CXE P w) 2 f fd ["steps"] (sp_check_steps C_BadNumber) := by
  obtain ⟨_, hc_MOST_STEPS⟩ := T.c_MOST_STEPS
  refine F.okX sc_check_steps (fun vs H Q E h => ?_) (fun cdv A outer s H vs Q E hr h => ?_)
  · obtain ⟨v, d, rfl, _⟩ := h
    rfl
  · obtain ⟨v, d, rfl, hd, q, qe⟩ := h
    refine ⟨_, @pss_one _ _ _ (@ps_if _ _ _ _ _ _ _ _ (@PW.pt _ _ _ (@pw_and _ _ _ _ _ _ _ (@pt_cmpR _ _ _ _ _ _ _ _ op_notN (@pv _ 0 _ _ (by first | rfl | decide | exact .inl rfl | exact .inr rfl | exact .inr (.inl rfl) | exact .inr (.inr rfl) | (intro _; rfl) | with_unfolding_all rfl) (by first | rfl | decide | exact .inl rfl | exact .inr rfl | exact .inr (.inl rfl) | exact .inr (.inr rfl) | (intro _; rfl) | with_unfolding_all rfl) (by first | rfl | decide | exact .inl rfl | exact .inr rfl | exact .inr (.inl rfl) | exact .inr (.inr rfl) | (intro _; rfl) | with_unfolding_all rfl) (by first | rfl | decide | exact .inl rfl | exact .inr rfl | exact .inr (.inl rfl) | exact .inr (.inr rfl) | (intro _; rfl) | with_unfolding_all rfl)) (@pe_non _ _ _) (nomark _)) (@pw_and1 _ _ _ _ (@pt_not _ _ _ _ (@pt_val _ _ _ (@pe_fn _ _ _ _ _ _ _ _ _ _ _ c_is_number (hr.mono (by decide)) passN (@pa_Name _ _ _ _ _ _ (@pv _ 0 _ _ (by first | rfl | decide | exact .inl rfl | exact .inr rfl | exact .inr (.inl rfl) | exact .inr (.inr rfl) | (intro _; rfl) | with_unfolding_all rfl) (by first | rfl | decide | exact .inl rfl | exact .inr rfl | exact .inr (.inl rfl) | exact .inr (.inr rfl) | (intro _; rfl) | with_unfolding_all rfl) (by first | rfl | decide | exact .inl rfl | exact .inr rfl | exact .inr (.inl rfl) | exact .inr (.inr rfl) | (intro _; rfl) | with_unfolding_all rfl) (by first | rfl | decide | exact .inl rfl | exact .inr rfl | exact .inr (.inl rfl) | exact .inr (.inr rfl) | (intro _; rfl) | with_unfolding_all rfl)) (@pa_Constant _ _ _ _ _ _ _ (@pe_int _ _ _ _) (@pa_Name _ _ _ _ _ _ (@pe_glob _ _ (.int 100000) _ _ (by rfl) hc_MOST_STEPS ⟨_, rfl⟩ (by first | rfl | decide | exact .inl rfl | exact .inr rfl | exact .inr (.inl rfl) | exact .inr (.inr rfl) | (intro _; rfl) | with_unfolding_all rfl)) (@pa_nil _)))) (by first | rfl | decide | exact .inl rfl | exact .inr rfl | exact .inr (.inl rfl) | exact .inr (.inr rfl) | (intro _; rfl) | with_unfolding_all rfl) (by first | rfl | decide | exact .inl rfl | exact .inr rfl | exact .inr (.inl rfl) | exact .inr (.inr rfl) | (intro _; rfl) | with_unfolding_all rfl) (by first | rfl | decide | exact .inl rfl | exact .inr rfl | exact .inr (.inl rfl) | exact .inr (.inr rfl) | (intro _; rfl) | with_unfolding_all rfl) (by first | rfl | decide | exact .inl rfl | exact .inr rfl | exact .inr (.inl rfl) | exact .inr (.inr rfl) | (intro _; rfl) | with_unfolding_all rfl)) (by first | rfl | decide | exact .inl rfl | exact .inr rfl | exact .inr (.inl rfl) | exact .inr (.inr rfl) | (intro _; rfl) | with_unfolding_all rfl)))))) (@pss_one _ _ _ (@ps_raise _ _ _ _ _ _ _ _ _ _ raisesB (by rfl) T.x_BadNumber (by rfl) T.m_BadNumber (@pa_Constant _ _ _ _ _ _ _ (@pe_str _ _ _ _) (@pa_nil _)) (by first | rfl | decide | exact .inl rfl | exact .inr rfl | exact .inr (.inl rfl) | exact .inr (.inr rfl) | (intro _; rfl) | with_unfolding_all rfl) (by first | rfl | decide | exact .inl rfl | exact .inr rfl | exact .inr (.inl rfl) | exact .inr (.inr rfl) | (intro _; rfl) | with_unfolding_all rfl) (by first | rfl | decide | exact .inl rfl | exact .inr rfl | exact .inr (.inl rfl) | exact .inr (.inr rfl) | (intro _; rfl) | with_unfolding_all rfl))) (@pss_nil _)), ?_⟩
    by_cases hv : v = .non
    · subst hv
      have : stepsOk d = true := by
        cases d with
        | none => rfl
        | bool b => simp only [Den] at hd; cases hd
        | int b => simp only [Den] at hd; cases hd
        | str b => simp only [Den] at hd; cases hd
        | tuple b => simp only [Den] at hd; obtain ⟨_, _, e, _⟩ := hd; cases e
        | list b => simp only [Den] at hd; obtain ⟨_, _, e, _⟩ := hd; cases e
        | dict b => simp only [Den] at hd
      exact ⟨_, rfl, rfl, _, rfl, iteF (iteF (q this))⟩
    · have e : stepsOk d = isNum 0 100000 d := by
        cases d with
        | none => simp only [Den] at hd; exact absurd hd hv
        | _ => rfl
      rw [e] at q qe
      refine ⟨_, rfl, rfl, _, rfl, ?_⟩
      rw [decide_eq_false hv]
      refine iteT ⟨_, rfl, v, d, 0, 100000, rfl, hd, _, rfl, ?_⟩
      cases hb : isNum 0 100000 d with
      | false => exact iteT ⟨(by show 1 ≤ sizeLine; decide), qe hb⟩
      | true => exact iteF (q hb)
end
end Qh
end
section
set_option Elab.async false
set_option linter.all false
set_option maxRecDepth 100000
namespace Qh
open PySem L2
/-! ### a disk on the heap -/
structure Dk where
  fs : List (Str × List Int)
  done : Int
  left : Option Int
def leftV : Option Int → V
  | none => .non
  | some n => .int n
def lookF (fs : List (Str × List Int)) (n : Str) : Option (List Int) := (fs.find? fun p => decide (p.1 = n)).map (·.2)
def putA (fs : List (Str × List Int)) (n : Str) (e : List Int) : List (Str × List Int) := if (fs.any fun p => decide (p.1 = n)) = true then fs.map (fun p => if p.1 = n then (p.1, e) else p) else fs ++ [(n, e)]
def dropA (fs : List (Str × List Int)) (n : Str) : List (Str × List Int) := fs.filter fun p => decide (p.1 ≠ n)
def fileAt (H : Hp) (v : V) (bs : List Int) : Prop := ∃ l, v = .ref l ∧ H l = some (.lst (bs.map V.int))
def FsR (H : Hp) : List (Str × List Int) → List (Key × V) → Prop
  | [], [] => True
  | p :: fs, q :: kvs => q.1 = Sum.inr p.1 ∧ fileAt H q.2 p.2 ∧ FsR H fs kvs
  | _, _ => False
def dkF (df : Addr) (done : Int) (left : Option Int) : List (Str × V) := [("files", .ref df), ("steps_done", .int done), ("steps_ahead", leftV left)]
structure DiskAt (C : Addr) (H : Hp) (dk df : Addr) (kvs : List (Key × V)) (D : Dk) : Prop where
  self : ∃ dx, H dk = some (.ins C dx (dkF df D.done D.left))
  files : H df = some (.dK kvs)
  rel : FsR H D.fs kvs
  nd : (kvs.map (·.2)).Nodup
  kn : (D.fs.map (·.1)).Nodup
def own (dk df : Addr) (kvs : List (Key × V)) (b : Addr) : Prop := b = dk ∨ b = df ∨ V.ref b ∈ kvs.map (·.2)
def FrmD (dk df : Addr) (kvs : List (Key × V)) (H H' : Hp) : Prop := ∀ b o, H b = some o → ¬ own dk df kvs b → H' b = some o
def Grow (dk df : Addr) (kvs kvs' : List (Key × V)) (H : Hp) : Prop := ∀ b, own dk df kvs' b → own dk df kvs b ∨ H b = none
theorem FsR.same {H H' : Hp} : ∀ {fs : List (Str × List Int)} {kvs : List (Key × V)}, (∀ b o, H b = some o → V.ref b ∈ kvs.map (·.2) → H' b = some o) → FsR H fs kvs → FsR H' fs kvs
  | [], [], _, _ => trivial
  | p :: fs, q :: kvs, s, h => by
    obtain ⟨h1, ⟨l, e, g⟩, h3⟩ := h
    exact ⟨h1, ⟨l, e, s l _ g (by rw [List.map_cons, e]; exact List.mem_cons_self)⟩, FsR.same (fun b o e m => s b o e (List.mem_cons_of_mem _ m)) h3⟩
  | [], _ :: _, _, h => h.elim
  | _ :: _, [], _, h => h.elim
theorem FsR.len {H : Hp} : ∀ {fs : List (Str × List Int)} {kvs : List (Key × V)}, FsR H fs kvs → kvs.length = fs.length
  | [], [], _ => rfl
  | p :: fs, q :: kvs, h => by rw [List.length_cons, List.length_cons, FsR.len h.2.2]
  | [], _ :: _, h => h.elim
  | _ :: _, [], h => h.elim
theorem FsR.keys {H : Hp} : ∀ {fs : List (Str × List Int)} {kvs : List (Key × V)}, FsR H fs kvs → kvs.map (·.1) = (fs.map (·.1)).map Sum.inr
  | [], [], _ => rfl
  | p :: fs, q :: kvs, h => by rw [List.map_cons, List.map_cons, List.map_cons, h.1, FsR.keys h.2.2]
  | [], _ :: _, h => h.elim
  | _ :: _, [], h => h.elim
theorem inr_eq {a b : Str} : ((Sum.inr a : Key) = Sum.inr b) ↔ a = b := ⟨Sum.inr.inj, fun h => by rw [h]⟩
theorem FsR.val {H : Hp} {n : Str} : ∀ {fs : List (Str × List Int)} {kvs : List (Key × V)}, FsR H fs kvs → (match lookF fs n with | none => valV kvs (Sum.inr n) = none | some e => ∃ v, valV kvs (Sum.inr n) = some v ∧ fileAt H v e)
  | [], [], _ => rfl
  | p :: fs, q :: kvs, h => by
    obtain ⟨h1, h2, h3⟩ := h
    have ih := FsR.val (n := n) h3
    by_cases e : p.1 = n
    · have : lookF (p :: fs) n = some p.2 := by simp [lookF, e]
      rw [this]
      exact ⟨q.2, valV_pos (by rw [h1, e]), h2⟩
    · have e1 : lookF (p :: fs) n = lookF fs n := by simp [lookF, e]
      have e2 : valV (q :: kvs) (Sum.inr n) = valV kvs (Sum.inr n) := valV_neg (by rw [h1, inr_eq]; exact e)
      rw [e1, e2]
      exact ih
  | [], _ :: _, h => h.elim
  | _ :: _, [], h => h.elim
theorem own_self {C dk df : Addr} {H : Hp} {kvs : List (Key × V)} {D : Dk} (h : DiskAt C H dk df kvs D) : dk ≠ df ∧ V.ref dk ∉ kvs.map (·.2) ∧ V.ref df ∉ kvs.map (·.2) := by
  have key : ∀ {fs : List (Str × List Int)} {kvs : List (Key × V)}, FsR H fs kvs → ∀ b, V.ref b ∈ kvs.map (·.2) → ∃ xs, H b = some (.lst xs) := by
    intro fs
    induction fs with
    | nil =>
      intro kvs hr b hb
      cases kvs with
      | nil => simp at hb
      | cons _ _ => exact hr.elim
    | cons p fs ih =>
      intro kvs hr b hb
      cases kvs with
      | nil => exact hr.elim
      | cons q kvs =>
        obtain ⟨_, ⟨l, e, g⟩, h3⟩ := hr
        rw [List.map_cons, List.mem_cons] at hb
        rcases hb with hb | hb
        · rw [e] at hb
          cases hb
          exact ⟨_, g⟩
        · exact ih h3 b hb
  obtain ⟨dx, h1⟩ := h.self
  refine ⟨?_, fun hb => ?_, fun hb => ?_⟩
  · rintro rfl
    rw [h.files] at h1
    cases h1
  · obtain ⟨xs, e⟩ := key h.rel _ hb
    rw [h1] at e
    cases e
  · obtain ⟨xs, e⟩ := key h.rel _ hb
    rw [h.files] at e
    cases e
/-- only the instance is written -/
theorem disk_self {C dk df dx : Addr} {H : Hp} {kvs : List (Key × V)} {D : Dk} (h : DiskAt C H dk df kvs D) (done : Int) (left : Option Int) : DiskAt C (upd H dk (.ins C dx (dkF df done left))) dk df kvs ⟨D.fs, done, left⟩ := by
  obtain ⟨n1, n2, n3⟩ := own_self h
  refine ⟨⟨dx, upd_same⟩, by rw [upd_ne (Ne.symm n1)]; exact h.files, h.rel.same fun b o e m => ?_, h.nd, h.kn⟩
  rw [upd_ne (fun z => by rw [z] at m; exact n2 m)]
  exact e
theorem DiskAt.same {C dk df : Addr} {H H' : Hp} {kvs : List (Key × V)} {D : Dk} (h : DiskAt C H dk df kvs D) (s : Same H H') : DiskAt C H' dk df kvs D := by
  obtain ⟨dx, h1⟩ := h.self
  exact ⟨⟨dx, s _ _ h1⟩, s _ _ h.files, h.rel.same fun b o e _ => s b o e, h.nd, h.kn⟩
def stepF (D : Dk) : Option Dk := match D.left with
  | none => some ⟨D.fs, D.done + 1, none⟩
  | some n => if n = 0 then none else some ⟨D.fs, D.done + 1, some (n - 1)⟩
abbrev s_count_step : Stmt := inClass (top 19) 12
def sp_count_step (C C_Stopped : Addr) : Sp := fun vs H Q E => ∃ (dk df : Addr) (kvs : List (Key × V)) (D : Dk), vs = [.ref dk] ∧ DiskAt C H dk df kvs D ∧ (∀ D', stepF D = some D' → ∀ H', (∀ b o, H b = some o → b ≠ dk → H' b = some o) → DiskAt C H' dk df kvs D' → Q .non H') ∧ (stepF D = none → E (.ref C_Stopped) none H)
section
variable {P : Program} {w : World} {K : PySem.W.Frag} {mg : Str → Option Value} {base : Heap} {C_BadName C_Missing C_There C_Stopped C_BadRow C_BadNumber C_Disk : Addr}
theorem sc_Disk_count_step : FnScope ["self"] ["self"] (defScope s_count_step) := ⟨rfl, rfl, rfl, by decide +kernel, rfl, by decide +kernel, by decide +kernel⟩
theorem ok_count_step {f : Addr} {fd : FuncData} (F : Fun K "count_step" "Disk.count_step" s_count_step f fd) (T : TxtD K mg C_BadName C_Missing C_There C_Stopped C_BadRow C_BadNumber C_Disk) : FnOk P w K mg base (CXE P w) 1 f fd ["self"] (sp_count_step C_Disk C_Stopped) := by
  refine F.okX sc_Disk_count_step (fun vs H Q E h => ?_) (fun cdv A outer s H vs Q E hr h => ?_)
  · obtain ⟨dk, df, kvs, D, rfl, _⟩ := h
    rfl
  · obtain ⟨dk, df, kvs, D, rfl, hD, q, qe⟩ := h
    refine ⟨_, @pss_cons _ _ _ _ _ (@ps_if _ _ _ _ _ _ _ _ (@pt_cmpR _ _ _ _ _ _ _ _ op_eq (@pe_fld _ _ _ _ _ (@pv _ 0 _ _ (by first | rfl | decide | exact .inl rfl | exact .inr rfl | exact .inr (.inl rfl) | exact .inr (.inr rfl) | (intro _; rfl) | with_unfolding_all rfl) (by first | rfl | decide | exact .inl rfl | exact .inr rfl | exact .inr (.inl rfl) | exact .inr (.inr rfl) | (intro _; rfl) | with_unfolding_all rfl) (by first | rfl | decide | exact .inl rfl | exact .inr rfl | exact .inr (.inl rfl) | exact .inr (.inr rfl) | (intro _; rfl) | with_unfolding_all rfl) (by first | rfl | decide | exact .inl rfl | exact .inr rfl | exact .inr (.inl rfl) | exact .inr (.inr rfl) | (intro _; rfl) | with_unfolding_all rfl)) (by rfl)) (@pe_int _ _ _ _) (nomark _)) (@pss_one _ _ _ (@ps_raise _ _ _ _ _ _ _ _ _ _ raisesB (by rfl) T.x_Stopped (by rfl) T.m_Stopped (@pa_Constant _ _ _ _ _ _ _ (@pe_str _ _ _ _) (@pa_nil _)) (by first | rfl | decide | exact .inl rfl | exact .inr rfl | exact .inr (.inl rfl) | exact .inr (.inr rfl) | (intro _; rfl) | with_unfolding_all rfl) (by first | rfl | decide | exact .inl rfl | exact .inr rfl | exact .inr (.inl rfl) | exact .inr (.inr rfl) | (intro _; rfl) | with_unfolding_all rfl) (by first | rfl | decide | exact .inl rfl | exact .inr rfl | exact .inr (.inl rfl) | exact .inr (.inr rfl) | (intro _; rfl) | with_unfolding_all rfl))) (@pss_nil _)) (@pss_cons _ _ _ _ _ (@ps_if _ _ _ _ _ _ _ _ (@pt_cmpR _ _ _ _ _ _ _ _ op_notN (@pe_fld _ _ _ _ _ (@pv _ 0 _ _ (by first | rfl | decide | exact .inl rfl | exact .inr rfl | exact .inr (.inl rfl) | exact .inr (.inr rfl) | (intro _; rfl) | with_unfolding_all rfl) (by first | rfl | decide | exact .inl rfl | exact .inr rfl | exact .inr (.inl rfl) | exact .inr (.inr rfl) | (intro _; rfl) | with_unfolding_all rfl) (by first | rfl | decide | exact .inl rfl | exact .inr rfl | exact .inr (.inl rfl) | exact .inr (.inr rfl) | (intro _; rfl) | with_unfolding_all rfl) (by first | rfl | decide | exact .inl rfl | exact .inr rfl | exact .inr (.inl rfl) | exact .inr (.inr rfl) | (intro _; rfl) | with_unfolding_all rfl)) (by rfl)) (@pe_non _ _ _) (nomark _)) (@pss_one _ _ _ (@ps_fldaug _ _ _ _ _ _ _ _ _ _ (@pv _ 0 _ _ (by first | rfl | decide | exact .inl rfl | exact .inr rfl | exact .inr (.inl rfl) | exact .inr (.inr rfl) | (intro _; rfl) | with_unfolding_all rfl) (by first | rfl | decide | exact .inl rfl | exact .inr rfl | exact .inr (.inl rfl) | exact .inr (.inr rfl) | (intro _; rfl) | with_unfolding_all rfl) (by first | rfl | decide | exact .inl rfl | exact .inr rfl | exact .inr (.inl rfl) | exact .inr (.inr rfl) | (intro _; rfl) | with_unfolding_all rfl) (by first | rfl | decide | exact .inl rfl | exact .inr rfl | exact .inr (.inl rfl) | exact .inr (.inr rfl) | (intro _; rfl) | with_unfolding_all rfl)) (@pe_int _ _ _ _) in_sub)) (@pss_nil _)) (@pss_one _ _ _ (@ps_fldaug _ _ _ _ _ _ _ _ _ _ (@pv _ 0 _ _ (by first | rfl | decide | exact .inl rfl | exact .inr rfl | exact .inr (.inl rfl) | exact .inr (.inr rfl) | (intro _; rfl) | with_unfolding_all rfl) (by first | rfl | decide | exact .inl rfl | exact .inr rfl | exact .inr (.inl rfl) | exact .inr (.inr rfl) | (intro _; rfl) | with_unfolding_all rfl) (by first | rfl | decide | exact .inl rfl | exact .inr rfl | exact .inr (.inl rfl) | exact .inr (.inr rfl) | (intro _; rfl) | with_unfolding_all rfl) (by first | rfl | decide | exact .inl rfl | exact .inr rfl | exact .inr (.inl rfl) | exact .inr (.inr rfl) | (intro _; rfl) | with_unfolding_all rfl)) (@pe_int _ _ _ _) in_add))), ?_⟩
    obtain ⟨dx, h1⟩ := hD.self
    obtain ⟨fs, done, left⟩ := D
    unfold stepF at q qe
    cases left with
    | none =>
      refine ⟨_, rfl, dk, _, dx, _, _, rfl, h1, T.cl, T.f_steps_ahead, rfl, rfl, _, rfl, iteF ?_⟩
      refine go_next rfl ?_
      refine ⟨_, rfl, dk, _, dx, _, _, rfl, h1, T.cl, T.f_steps_ahead, rfl, rfl, _, rfl, iteF ?_⟩
      refine go_next rfl ?_
      refine ⟨_, rfl, dk, _, dx, _, _, rfl, h1, T.cl, T.f_steps_done, rfl, _, _, rfl, rfl, dx, _, h1, (by show 3 < 1000; decide), ?_⟩
      exact q _ rfl _ (fun b o e nb => by rw [upd_ne nb]; exact e) (disk_self hD (done + 1) none)
    | some n =>
      refine ⟨_, rfl, dk, _, dx, _, _, rfl, h1, T.cl, T.f_steps_ahead, rfl, rfl, _, rfl, ?_⟩
      by_cases hn : n = 0
      · subst hn
        refine iteT ?_
        exact ⟨(by show 1 ≤ sizeLine; decide), qe rfl⟩
      · have e0 : decide (V.int n = V.int 0) = false := decide_eq_false (fun z => hn (V.int.inj z))
        show if decide (V.int n = V.int 0) = true then _ else _
        rw [e0]
        refine iteF ?_
        refine go_next rfl ?_
        refine ⟨_, rfl, dk, _, dx, _, _, rfl, h1, T.cl, T.f_steps_ahead, rfl, rfl, _, rfl, iteT ?_⟩
        refine ⟨_, rfl, dk, _, dx, _, _, rfl, h1, T.cl, T.f_steps_ahead, rfl, _, _, rfl, rfl, dx, _, h1, (by show 3 < 1000; decide), ?_⟩
        have h2 := disk_self (dx := dx) hD done (some (n - 1))
        have g2 : upd H dk (.ins C_Disk dx (dkF df done (some (n - 1)))) dk = some (.ins C_Disk dx (dkF df done (some (n - 1)))) := upd_same
        refine ⟨_, rfl, dk, _, dx, _, _, rfl, g2, T.cl, T.f_steps_done, rfl, _, _, rfl, rfl, dx, _, g2, (by show 3 < 1000; decide), ?_⟩
        exact q _ (by dsimp only; rw [if_neg hn]) _ (fun b o e nb => by rw [upd_ne nb, upd_ne nb]; exact e) (disk_self h2 (done + 1) (some (n - 1)))
end
end Qh
end
section
set_option Elab.async false
set_option linter.all false
set_option maxRecDepth 100000
namespace Qh
open PySem L2
abbrev s_dinit : Stmt := inClass (top 19) 0
abbrev s_go_on : Stmt := inClass (top 19) 1
abbrev s_make : Stmt := inClass (top 19) 2
abbrev s_drop : Stmt := inClass (top 19) 5
abbrev s_names : Stmt := inClass (top 19) 6
abbrev s_read : Stmt := inClass (top 19) 7
abbrev s_size : Stmt := inClass (top 19) 8
abbrev s_left : Stmt := inClass (top 19) 10
abbrev s_check_file : Stmt := inClass (top 19) 11
def nameOk (d : PyData) : Prop := ∀ x, d = .str x → x.length ≤ 1000 ∧ ascii x = true
theorem word_str {signs : Str} {l : Int} {d : PyData} (h : wordD signs l d = true) : ∃ x, d = .str x := by
  cases d with
  | str x => exact ⟨x, rfl⟩
  | _ => cases h
def sp_check_file (C C_BadName C_Missing : Addr) : Sp := fun vs H Q E => ∃ (dk df : Addr) (kvs : List (Key × V)) (D : Dk) (v : V) (d : PyData), vs = [.ref dk, v] ∧ DiskAt C H dk df kvs D ∧ Den H d v ∧ nameOk d ∧
  (wordD signs36 8 d = false → ∀ H', Same H H' → E (.ref C_BadName) none H') ∧ (∀ n, d = .str n → wordD signs36 8 d = true → (lookF D.fs n = none → ∀ H', Same H H' → E (.ref C_Missing) none H') ∧ (∀ bs, lookF D.fs n = some bs → ∀ H', Same H H' → Q .non H'))
def sp_read (C C_BadName C_Missing : Addr) : Sp := fun vs H Q E => ∃ (dk df : Addr) (kvs : List (Key × V)) (D : Dk) (v : V) (d : PyData), vs = [.ref dk, v] ∧ DiskAt C H dk df kvs D ∧ Den H d v ∧ nameOk d ∧
  (wordD signs36 8 d = false → ∀ H', Same H H' → E (.ref C_BadName) none H') ∧ (∀ n, d = .str n → wordD signs36 8 d = true → (lookF D.fs n = none → ∀ H', Same H H' → E (.ref C_Missing) none H') ∧ (∀ bs, lookF D.fs n = some bs → ∀ p H', Same H H' → H' p = some (.tup (bs.map V.int)) → Q (.ref p) H'))
def sp_size (C C_BadName C_Missing : Addr) : Sp := fun vs H Q E => ∃ (dk df : Addr) (kvs : List (Key × V)) (D : Dk) (v : V) (d : PyData), vs = [.ref dk, v] ∧ DiskAt C H dk df kvs D ∧ Den H d v ∧ nameOk d ∧
  (wordD signs36 8 d = false → ∀ H', Same H H' → E (.ref C_BadName) none H') ∧ (∀ n, d = .str n → wordD signs36 8 d = true → (lookF D.fs n = none → ∀ H', Same H H' → E (.ref C_Missing) none H') ∧ (∀ bs, lookF D.fs n = some bs → ∀ H', Same H H' → Q (.int (bs.length : Int)) H'))
def sp_names (C : Addr) : Sp := fun vs H Q _ => ∃ (dk df : Addr) (kvs : List (Key × V)) (D : Dk), vs = [.ref dk] ∧ DiskAt C H dk df kvs D ∧ D.fs.length < 64 ∧ ∀ p ms, List.Perm ms (D.fs.map (·.1)) → PyProof.Rows.sortedS ms = true → ∀ H', Same H H' → H' p = some (.lst (ms.map V.str)) → H p = none → Q (.ref p) H'
def sp_left (C : Addr) : Sp := fun vs H Q _ => ∃ (dk df : Addr) (kvs : List (Key × V)) (D : Dk), vs = [.ref dk] ∧ DiskAt C H dk df kvs D ∧ Q (leftV D.left) H
def leftD : PyData → Option Int
  | .int n => some n
  | _ => none
def sp_go_on (C C_BadNumber : Addr) : Sp := fun vs H Q E => ∃ (dk df : Addr) (kvs : List (Key × V)) (D : Dk) (v : V) (d : PyData), vs = [.ref dk, v] ∧ DiskAt C H dk df kvs D ∧ Den H d v ∧ (stepsOk d = false → E (.ref C_BadNumber) none H) ∧
  (stepsOk d = true → ∀ H', (∀ b o, H b = some o → b ≠ dk → H' b = some o) → DiskAt C H' dk df kvs ⟨D.fs, D.done, leftD d⟩ → Q .non H')
def sp_dinit (C C_BadNumber : Addr) : Sp := fun vs H Q E => ∃ (dk dx : Addr) (v : V) (d : PyData), vs = [.ref dk, v] ∧ H dk = some (.ins C dx []) ∧ Den H d v ∧ (stepsOk d = false → E (.ref C_BadNumber) none H) ∧
  (stepsOk d = true → ∀ df H', (∀ b o, H b = some o → b ≠ dk → H' b = some o) → H df = none → DiskAt C H' dk df [] ⟨[], 0, leftD d⟩ → Q .non H')
def sp_make (C C_BadName C_There C_Stopped : Addr) : Sp := fun vs H Q E => ∃ (dk df : Addr) (kvs : List (Key × V)) (D : Dk) (v : V) (d : PyData), vs = [.ref dk, v] ∧ DiskAt C H dk df kvs D ∧ Den H d v ∧ nameOk d ∧ D.fs.length < 1000 ∧
  (wordD signs36 8 d = false → ∀ H', Same H H' → E (.ref C_BadName) none H') ∧ (∀ n, d = .str n → wordD signs36 8 d = true → (∀ bs, lookF D.fs n = some bs → ∀ H', Same H H' → E (.ref C_There) none H') ∧
    (lookF D.fs n = none → (stepF D = none → ∀ H', Same H H' → E (.ref C_Stopped) none H') ∧ (∀ D1, stepF D = some D1 → ∀ kvs' H', FrmD dk df kvs H H' → Grow dk df kvs kvs' H → DiskAt C H' dk df kvs' ⟨D1.fs ++ [(n, [])], D1.done, D1.left⟩ → Q .non H')))
def sp_drop (C C_BadName C_Missing C_Stopped : Addr) : Sp := fun vs H Q E => ∃ (dk df : Addr) (kvs : List (Key × V)) (D : Dk) (v : V) (d : PyData), vs = [.ref dk, v] ∧ DiskAt C H dk df kvs D ∧ Den H d v ∧ nameOk d ∧
  (wordD signs36 8 d = false → ∀ H', Same H H' → E (.ref C_BadName) none H') ∧ (∀ n, d = .str n → wordD signs36 8 d = true → (lookF D.fs n = none → ∀ H', Same H H' → E (.ref C_Missing) none H') ∧
    (∀ bs, lookF D.fs n = some bs → (stepF D = none → ∀ H', Same H H' → E (.ref C_Stopped) none H') ∧ (∀ D1, stepF D = some D1 → ∀ kvs' H', FrmD dk df kvs H H' → Grow dk df kvs kvs' H → DiskAt C H' dk df kvs' ⟨dropA D1.fs n, D1.done, D1.left⟩ → Q .non H')))
theorem step_fs {D D1 : Dk} (h : stepF D = some D1) : D1.fs = D.fs := by
  unfold stepF at h
  split at h
  · cases (Option.some.inj h)
    rfl
  · split at h
    · cases h
    · cases (Option.some.inj h)
      rfl
theorem FsR.snoc {H : Hp} {n : Str} {e : List Int} {v : V} (hv : fileAt H v e) : ∀ {fs : List (Str × List Int)} {kvs : List (Key × V)}, FsR H fs kvs → FsR H (fs ++ [(n, e)]) (kvs ++ [(Sum.inr n, v)])
  | [], [], _ => ⟨rfl, hv, trivial⟩
  | p :: fs, q :: kvs, h => ⟨h.1, h.2.1, FsR.snoc hv h.2.2⟩
  | [], _ :: _, h => h.elim
  | _ :: _, [], h => h.elim
theorem FsR.drop {H : Hp} {n : Str} : ∀ {fs : List (Str × List Int)} {kvs : List (Key × V)}, FsR H fs kvs → FsR H (dropA fs n) (dropK kvs (Sum.inr n))
  | [], [], _ => trivial
  | p :: fs, q :: kvs, h => by
    obtain ⟨h1, h2, h3⟩ := h
    have ih := FsR.drop (n := n) h3
    by_cases z : p.1 = n
    · have e1 : dropA (p :: fs) n = dropA fs n := by simp [dropA, z]
      rw [e1, dropK_pos (by rw [h1, z])]
      exact ih
    · have e1 : dropA (p :: fs) n = p :: dropA fs n := by simp [dropA, z]
      rw [e1, dropK_neg (by rw [h1, inr_eq]; exact z)]
      exact ⟨h1, h2, ih⟩
  | [], _ :: _, h => h.elim
  | _ :: _, [], h => h.elim
theorem look_none {fs : List (Str × List Int)} {n : Str} (h : lookF fs n = none) : n ∉ fs.map (·.1) := by
  intro hm
  rw [List.mem_map] at hm
  obtain ⟨p, hp, rfl⟩ := hm
  unfold lookF at h
  rw [Option.map_eq_none_iff, List.find?_eq_none] at h
  exact h p hp (decide_eq_true rfl)
section
variable {P : Program} {w : World} {K : PySem.W.Frag} {mg : Str → Option Value} {base : Heap} {C_BadName C_Missing C_There C_Stopped C_BadRow C_BadNumber C_Disk : Addr}
theorem sc_Disk_check_file : FnScope ["self", "name"] ["self", "name"] (defScope s_check_file) := ⟨rfl, rfl, rfl, by decide +kernel, rfl, by decide +kernel, by decide +kernel⟩
theorem ok_check_file {f : Addr} {fd : FuncData} (F : Fun K "check_file" "Disk.check_file" s_check_file f fd) (T : TxtD K mg C_BadName C_Missing C_There C_Stopped C_BadRow C_BadNumber C_Disk) (c_check_name : Callee P w K mg base "check_name" 2 ["name"] (sp_check_name C_BadName)) : FnOk P w K mg base (CXE P w) 3 f fd ["self", "name"] (sp_check_file C_Disk C_BadName C_Missing) := by
  refine F.okX sc_Disk_check_file (fun vs H Q E h => ?_) (fun cdv A outer s H vs Q E hr h => ?_)
  · obtain ⟨dk, df, kvs, D, v, d, rfl, _⟩ := h
    rfl
  · obtain ⟨dk, df, kvs, D, v, d, rfl, hD, hd, hn, qb, q⟩ := h
    refine ⟨_, @pss_cons _ _ _ _ _ (ps_expr (pe_fn c_check_name (hr.mono (by decide)) passS (pa_Name (pv 1) pa_nil))) (@pss_one _ _ _ (@ps_if _ _ _ _ _ _ _ _ (@pt_cmp _ _ _ _ _ _ (@pc_dnotin _ _ _ _ _ (hu1 hr.units) (@pv _ 1 _ _ (by first | rfl | decide | exact .inl rfl | exact .inr rfl | exact .inr (.inl rfl) | exact .inr (.inr rfl) | (intro _; rfl) | with_unfolding_all rfl) (by first | rfl | decide | exact .inl rfl | exact .inr rfl | exact .inr (.inl rfl) | exact .inr (.inr rfl) | (intro _; rfl) | with_unfolding_all rfl) (by first | rfl | decide | exact .inl rfl | exact .inr rfl | exact .inr (.inl rfl) | exact .inr (.inr rfl) | (intro _; rfl) | with_unfolding_all rfl) (by first | rfl | decide | exact .inl rfl | exact .inr rfl | exact .inr (.inl rfl) | exact .inr (.inr rfl) | (intro _; rfl) | with_unfolding_all rfl)) (@pe_fld _ _ _ _ _ (@pv _ 0 _ _ (by first | rfl | decide | exact .inl rfl | exact .inr rfl | exact .inr (.inl rfl) | exact .inr (.inr rfl) | (intro _; rfl) | with_unfolding_all rfl) (by first | rfl | decide | exact .inl rfl | exact .inr rfl | exact .inr (.inl rfl) | exact .inr (.inr rfl) | (intro _; rfl) | with_unfolding_all rfl) (by first | rfl | decide | exact .inl rfl | exact .inr rfl | exact .inr (.inl rfl) | exact .inr (.inr rfl) | (intro _; rfl) | with_unfolding_all rfl) (by first | rfl | decide | exact .inl rfl | exact .inr rfl | exact .inr (.inl rfl) | exact .inr (.inr rfl) | (intro _; rfl) | with_unfolding_all rfl)) (by rfl))) (by first | rfl | decide | exact .inl rfl | exact .inr rfl | exact .inr (.inl rfl) | exact .inr (.inr rfl) | (intro _; rfl) | with_unfolding_all rfl)) (@pss_one _ _ _ (@ps_raise _ _ _ _ _ _ _ _ _ _ raisesB (by rfl) T.x_Missing (by rfl) T.m_Missing (@pa_Constant _ _ _ _ _ _ _ (@pe_str _ _ _ _) (@pa_nil _)) (by first | rfl | decide | exact .inl rfl | exact .inr rfl | exact .inr (.inl rfl) | exact .inr (.inr rfl) | (intro _; rfl) | with_unfolding_all rfl) (by first | rfl | decide | exact .inl rfl | exact .inr rfl | exact .inr (.inl rfl) | exact .inr (.inr rfl) | (intro _; rfl) | with_unfolding_all rfl) (by first | rfl | decide | exact .inl rfl | exact .inr rfl | exact .inr (.inl rfl) | exact .inr (.inr rfl) | (intro _; rfl) | with_unfolding_all rfl))) (@pss_nil _))), ?_⟩
    refine ⟨_, rfl, v, d, rfl, hd, hn, fun hw H1 S1 => ?_, qb⟩
    obtain ⟨n, rfl⟩ := word_str hw
    obtain ⟨qm, q⟩ := q n rfl hw
    have ev : v = .str n := by simpa only [Den] using hd
    subst ev
    obtain ⟨dx, h1⟩ := hD.self
    refine ⟨_, rfl, _, rfl, dk, _, dx, _, _, rfl, S1 _ _ h1, T.cl, T.f_files, rfl, df, _, rfl, DGet.k (k := Sum.inr n) (S1 _ _ hD.files), _, rfl, ?_⟩
    have hv := hD.rel.val (n := n)
    cases he : lookF D.fs n with
    | none =>
      rw [he] at hv
      have hv : valV kvs (Sum.inr n) = none := hv
      rw [hv]
      exact iteT ⟨(by show 1 ≤ sizeLine; decide), qm he H1 S1⟩
    | some bs =>
      rw [he] at hv
      obtain ⟨v, hv1, _⟩ := hv
      rw [hv1]
      exact iteF (q bs he H1 S1)
theorem sc_Disk_read : FnScope ["self", "name"] ["self", "name"] (defScope s_read) := ⟨rfl, rfl, rfl, by decide +kernel, rfl, by decide +kernel, by decide +kernel⟩
theorem ok_read {f : Addr} {fd : FuncData} (F : Fun K "read" "Disk.read" s_read f fd) (T : TxtD K mg C_BadName C_Missing C_There C_Stopped C_BadRow C_BadNumber C_Disk) (m_check_file : Method P w K mg base C_Disk "check_file" 3 ["self", "name"] (sp_check_file C_Disk C_BadName C_Missing)) : FnOk P w K mg base (CXE P w) 4 f fd ["self", "name"] (sp_read C_Disk C_BadName C_Missing) := by
  refine F.okX sc_Disk_read (fun vs H Q E h => ?_) (fun cdv A outer s H vs Q E hr h => ?_)
  · obtain ⟨dk, df, kvs, D, v, d, rfl, _⟩ := h
    rfl
  · obtain ⟨dk, df, kvs, D, v, d, rfl, hD, hd, hn, qb, q⟩ := h
    refine ⟨_, @pss_cons _ _ _ _ _ (ps_expr (pe_me m_check_file T.cl (hr.mono (by decide)) passS (pv 0) (pa_Name (pv 1) pa_nil))) (@pss_one _ _ _ (@ps_ret _ _ _ _ (@pe_callTy _ _ _ _ _ _ _ _ _ (call_tupleK K) (by rfl) T.n_tuple bt_tuple (@pa_Subscript _ _ _ _ _ _ _ (@pe_dget _ _ _ _ _ _ (hu1 hr.units) (@pe_fld _ _ _ _ _ (@pv _ 0 _ _ (by first | rfl | decide | exact .inl rfl | exact .inr rfl | exact .inr (.inl rfl) | exact .inr (.inr rfl) | (intro _; rfl) | with_unfolding_all rfl) (by first | rfl | decide | exact .inl rfl | exact .inr rfl | exact .inr (.inl rfl) | exact .inr (.inr rfl) | (intro _; rfl) | with_unfolding_all rfl) (by first | rfl | decide | exact .inl rfl | exact .inr rfl | exact .inr (.inl rfl) | exact .inr (.inr rfl) | (intro _; rfl) | with_unfolding_all rfl) (by first | rfl | decide | exact .inl rfl | exact .inr rfl | exact .inr (.inl rfl) | exact .inr (.inr rfl) | (intro _; rfl) | with_unfolding_all rfl)) (by rfl)) (@pv _ 1 _ _ (by first | rfl | decide | exact .inl rfl | exact .inr rfl | exact .inr (.inl rfl) | exact .inr (.inr rfl) | (intro _; rfl) | with_unfolding_all rfl) (by first | rfl | decide | exact .inl rfl | exact .inr rfl | exact .inr (.inl rfl) | exact .inr (.inr rfl) | (intro _; rfl) | with_unfolding_all rfl) (by first | rfl | decide | exact .inl rfl | exact .inr rfl | exact .inr (.inl rfl) | exact .inr (.inr rfl) | (intro _; rfl) | with_unfolding_all rfl) (by first | rfl | decide | exact .inl rfl | exact .inr rfl | exact .inr (.inl rfl) | exact .inr (.inr rfl) | (intro _; rfl) | with_unfolding_all rfl)) (fun _ _ => rfl)) (@pa_nil _)) (by first | rfl | decide | exact .inl rfl | exact .inr rfl | exact .inr (.inl rfl) | exact .inr (.inr rfl) | (intro _; rfl) | with_unfolding_all rfl) (by first | rfl | decide | exact .inl rfl | exact .inr rfl | exact .inr (.inl rfl) | exact .inr (.inr rfl) | (intro _; rfl) | with_unfolding_all rfl) (by first | rfl | decide | exact .inl rfl | exact .inr rfl | exact .inr (.inl rfl) | exact .inr (.inr rfl) | (intro _; rfl) | with_unfolding_all rfl) (by first | rfl | decide | exact .inl rfl | exact .inr rfl | exact .inr (.inl rfl) | exact .inr (.inr rfl) | (intro _; rfl) | with_unfolding_all rfl)))), ?_⟩
    obtain ⟨dx, h1⟩ := hD.self
    refine ⟨_, rfl, dk, dx, _, rfl, h1, rfl, _, rfl, dk, df, kvs, D, v, d, rfl, hD, hd, hn, qb, fun n en hw => ?_⟩
    obtain ⟨qm, q2⟩ := q n en hw
    subst en
    have ev : v = .str n := by simpa only [Den] using hd
    subst ev
    refine ⟨qm, fun bs hbs H1 S1 => ?_⟩
    have hv := hD.rel.val (n := n)
    rw [hbs] at hv
    obtain ⟨v, hv1, l, rfl, gl⟩ := hv
    have dg : DGet H1 df (.str n) (some (.ref l)) := by
      have := DGet.k (k := Sum.inr n) (S1 _ _ hD.files)
      rw [hv1] at this
      exact this
    refine ⟨_, rfl, dk, _, dx, _, _, rfl, S1 _ _ h1, T.cl, T.f_files, rfl, _, rfl, df, _, rfl, dg, l, _, rfl, .inl ⟨SqL.of (S1 _ _ gl), fun p hp => ?_⟩⟩
    exact q2 bs hbs p _ (S1.trans (same_upd hp)) upd_same
theorem sc_Disk_size : FnScope ["self", "name"] ["self", "name"] (defScope s_size) := ⟨rfl, rfl, rfl, by decide +kernel, rfl, by decide +kernel, by decide +kernel⟩
theorem ok_size {f : Addr} {fd : FuncData} (F : Fun K "size" "Disk.size" s_size f fd) (T : TxtD K mg C_BadName C_Missing C_There C_Stopped C_BadRow C_BadNumber C_Disk) (m_check_file : Method P w K mg base C_Disk "check_file" 3 ["self", "name"] (sp_check_file C_Disk C_BadName C_Missing)) : FnOk P w K mg base (CXE P w) 4 f fd ["self", "name"] (sp_size C_Disk C_BadName C_Missing) := by
  refine F.okX sc_Disk_size (fun vs H Q E h => ?_) (fun cdv A outer s H vs Q E hr h => ?_)
  · obtain ⟨dk, df, kvs, D, v, d, rfl, _⟩ := h
    rfl
  · obtain ⟨dk, df, kvs, D, v, d, rfl, hD, hd, hn, qb, q⟩ := h
    refine ⟨_, @pss_cons _ _ _ _ _ (ps_expr (pe_me m_check_file T.cl (hr.mono (by decide)) passS (pv 0) (pa_Name (pv 1) pa_nil))) (@pss_one _ _ _ (@ps_ret _ _ _ _ (@pe_callB _ _ _ _ _ _ _ _ _ (call_lenK K) (by rfl) T.n_len bt_len (@pa_Subscript _ _ _ _ _ _ _ (@pe_dget _ _ _ _ _ _ (hu1 hr.units) (@pe_fld _ _ _ _ _ (@pv _ 0 _ _ (by first | rfl | decide | exact .inl rfl | exact .inr rfl | exact .inr (.inl rfl) | exact .inr (.inr rfl) | (intro _; rfl) | with_unfolding_all rfl) (by first | rfl | decide | exact .inl rfl | exact .inr rfl | exact .inr (.inl rfl) | exact .inr (.inr rfl) | (intro _; rfl) | with_unfolding_all rfl) (by first | rfl | decide | exact .inl rfl | exact .inr rfl | exact .inr (.inl rfl) | exact .inr (.inr rfl) | (intro _; rfl) | with_unfolding_all rfl) (by first | rfl | decide | exact .inl rfl | exact .inr rfl | exact .inr (.inl rfl) | exact .inr (.inr rfl) | (intro _; rfl) | with_unfolding_all rfl)) (by rfl)) (@pv _ 1 _ _ (by first | rfl | decide | exact .inl rfl | exact .inr rfl | exact .inr (.inl rfl) | exact .inr (.inr rfl) | (intro _; rfl) | with_unfolding_all rfl) (by first | rfl | decide | exact .inl rfl | exact .inr rfl | exact .inr (.inl rfl) | exact .inr (.inr rfl) | (intro _; rfl) | with_unfolding_all rfl) (by first | rfl | decide | exact .inl rfl | exact .inr rfl | exact .inr (.inl rfl) | exact .inr (.inr rfl) | (intro _; rfl) | with_unfolding_all rfl) (by first | rfl | decide | exact .inl rfl | exact .inr rfl | exact .inr (.inl rfl) | exact .inr (.inr rfl) | (intro _; rfl) | with_unfolding_all rfl)) (fun _ _ => rfl)) (@pa_nil _)) (by first | rfl | decide | exact .inl rfl | exact .inr rfl | exact .inr (.inl rfl) | exact .inr (.inr rfl) | (intro _; rfl) | with_unfolding_all rfl) (by first | rfl | decide | exact .inl rfl | exact .inr rfl | exact .inr (.inl rfl) | exact .inr (.inr rfl) | (intro _; rfl) | with_unfolding_all rfl) (by first | rfl | decide | exact .inl rfl | exact .inr rfl | exact .inr (.inl rfl) | exact .inr (.inr rfl) | (intro _; rfl) | with_unfolding_all rfl) (by first | rfl | decide | exact .inl rfl | exact .inr rfl | exact .inr (.inl rfl) | exact .inr (.inr rfl) | (intro _; rfl) | with_unfolding_all rfl)))), ?_⟩
    obtain ⟨dx, h1⟩ := hD.self
    refine ⟨_, rfl, dk, dx, _, rfl, h1, rfl, _, rfl, dk, df, kvs, D, v, d, rfl, hD, hd, hn, qb, fun n en hw => ?_⟩
    obtain ⟨qm, q2⟩ := q n en hw
    subst en
    have ev : v = .str n := by simpa only [Den] using hd
    subst ev
    refine ⟨qm, fun bs hbs H1 S1 => ?_⟩
    have hv := hD.rel.val (n := n)
    rw [hbs] at hv
    obtain ⟨v, hv1, l, rfl, gl⟩ := hv
    have dg : DGet H1 df (.str n) (some (.ref l)) := by
      have := DGet.k (k := Sum.inr n) (S1 _ _ hD.files)
      rw [hv1] at this
      exact this
    refine ⟨_, rfl, dk, _, dx, _, _, rfl, S1 _ _ h1, T.cl, T.f_files, rfl, _, rfl, df, _, rfl, dg, l, _, rfl, .inl (SqL.of (S1 _ _ gl)), ?_⟩
    rw [List.length_map]
    exact q2 bs hbs H1 S1
theorem sc_Disk_names : FnScope ["self"] ["self"] (defScope s_names) := ⟨rfl, rfl, rfl, by decide +kernel, rfl, by decide +kernel, by decide +kernel⟩
theorem ok_names {f : Addr} {fd : FuncData} (F : Fun K "names" "Disk.names" s_names f fd) (T : TxtD K mg C_BadName C_Missing C_There C_Stopped C_BadRow C_BadNumber C_Disk) : FnOk P w K mg base (CXE P w) 1 f fd ["self"] (sp_names C_Disk) := by
  refine F.okX sc_Disk_names (fun vs H Q E h => ?_) (fun cdv A outer s H vs Q E hr h => ?_)
  · obtain ⟨dk, df, kvs, D, rfl, _⟩ := h
    rfl
  · obtain ⟨dk, df, kvs, D, rfl, hD, hl, q⟩ := h
    refine ⟨_, @pss_one _ _ _ (@ps_ret _ _ _ _ (@pe_callB _ _ _ _ _ _ _ _ _ (call_sortedS (by rfl)) (by rfl) T.n_sorted bt_sorted (@pa_Attribute _ _ _ _ _ _ _ (@pe_fld _ _ _ _ _ (@pv _ 0 _ _ (by first | rfl | decide | exact .inl rfl | exact .inr rfl | exact .inr (.inl rfl) | exact .inr (.inr rfl) | (intro _; rfl) | with_unfolding_all rfl) (by first | rfl | decide | exact .inl rfl | exact .inr rfl | exact .inr (.inl rfl) | exact .inr (.inr rfl) | (intro _; rfl) | with_unfolding_all rfl) (by first | rfl | decide | exact .inl rfl | exact .inr rfl | exact .inr (.inl rfl) | exact .inr (.inr rfl) | (intro _; rfl) | with_unfolding_all rfl) (by first | rfl | decide | exact .inl rfl | exact .inr rfl | exact .inr (.inl rfl) | exact .inr (.inr rfl) | (intro _; rfl) | with_unfolding_all rfl)) (by rfl)) (@pa_nil _)) (by first | rfl | decide | exact .inl rfl | exact .inr rfl | exact .inr (.inl rfl) | exact .inr (.inr rfl) | (intro _; rfl) | with_unfolding_all rfl) (by first | rfl | decide | exact .inl rfl | exact .inr rfl | exact .inr (.inl rfl) | exact .inr (.inr rfl) | (intro _; rfl) | with_unfolding_all rfl) (by first | rfl | decide | exact .inl rfl | exact .inr rfl | exact .inr (.inl rfl) | exact .inr (.inr rfl) | (intro _; rfl) | with_unfolding_all rfl) (by first | rfl | decide | exact .inl rfl | exact .inr rfl | exact .inr (.inl rfl) | exact .inr (.inr rfl) | (intro _; rfl) | with_unfolding_all rfl))), ?_⟩
    obtain ⟨dx, h1⟩ := hD.self
    refine ⟨_, rfl, dk, _, dx, _, _, rfl, h1, T.cl, T.f_files, rfl, df, kvs, _, rfl, hD.files, hD.rel.keys, by rw [List.length_map]; exact hl, fun p ms perm so hp => ?_⟩
    exact q p ms perm so _ (same_upd hp) upd_same hp
theorem sc_Disk_left : FnScope ["self"] ["self"] (defScope s_left) := ⟨rfl, rfl, rfl, by decide +kernel, rfl, by decide +kernel, by decide +kernel⟩
theorem ok_left {f : Addr} {fd : FuncData} (F : Fun K "left" "Disk.left" s_left f fd) (T : TxtD K mg C_BadName C_Missing C_There C_Stopped C_BadRow C_BadNumber C_Disk) : FnOk P w K mg base (CXE P w) 1 f fd ["self"] (sp_left C_Disk) := by
  refine F.okX sc_Disk_left (fun vs H Q E h => ?_) (fun cdv A outer s H vs Q E hr h => ?_)
  · obtain ⟨dk, df, kvs, D, rfl, _⟩ := h
    rfl
  · obtain ⟨dk, df, kvs, D, rfl, hD, q⟩ := h
    refine ⟨_, @pss_one _ _ _ (@ps_ret _ _ _ _ (@pe_fld _ _ _ _ _ (@pv _ 0 _ _ (by first | rfl | decide | exact .inl rfl | exact .inr rfl | exact .inr (.inl rfl) | exact .inr (.inr rfl) | (intro _; rfl) | with_unfolding_all rfl) (by first | rfl | decide | exact .inl rfl | exact .inr rfl | exact .inr (.inl rfl) | exact .inr (.inr rfl) | (intro _; rfl) | with_unfolding_all rfl) (by first | rfl | decide | exact .inl rfl | exact .inr rfl | exact .inr (.inl rfl) | exact .inr (.inr rfl) | (intro _; rfl) | with_unfolding_all rfl) (by first | rfl | decide | exact .inl rfl | exact .inr rfl | exact .inr (.inl rfl) | exact .inr (.inr rfl) | (intro _; rfl) | with_unfolding_all rfl)) (by rfl))), ?_⟩
    obtain ⟨dx, h1⟩ := hD.self
    exact ⟨_, rfl, dk, _, dx, _, _, rfl, h1, T.cl, T.f_steps_ahead, rfl, q⟩
theorem left_v {H : Hp} {v : V} {d : PyData} (hd : Den H d v) (hs : stepsOk d = true) : v = leftV (leftD d) := by
  cases d with
  | none => simp only [Den] at hd; exact hd
  | int n => simp only [Den] at hd; exact hd
  | _ => cases hs
theorem sc_Disk_go_on : FnScope ["self", "steps"] ["self", "steps"] (defScope s_go_on) := ⟨rfl, rfl, rfl, by decide +kernel, rfl, by decide +kernel, by decide +kernel⟩
theorem ok_go_on {f : Addr} {fd : FuncData} (F : Fun K "go_on" "Disk.go_on" s_go_on f fd) (T : TxtD K mg C_BadName C_Missing C_There C_Stopped C_BadRow C_BadNumber C_Disk) (c_check_steps : Callee P w K mg base "check_steps" 2 ["steps"] (sp_check_steps C_BadNumber)) : FnOk P w K mg base (CXE P w) 3 f fd ["self", "steps"] (sp_go_on C_Disk C_BadNumber) := by
  refine F.okX sc_Disk_go_on (fun vs H Q E h => ?_) (fun cdv A outer s H vs Q E hr h => ?_)
  · obtain ⟨dk, df, kvs, D, v, d, rfl, _⟩ := h
    rfl
  · obtain ⟨dk, df, kvs, D, v, d, rfl, hD, hd, qb, q⟩ := h
    refine ⟨_, @pss_cons _ _ _ _ _ (ps_expr (pe_fn c_check_steps (hr.mono (by decide)) passS (pa_Name (pv 1) pa_nil))) (@pss_one _ _ _ (@ps_fld _ _ _ _ _ _ _ _ (@pv _ 0 _ _ (by first | rfl | decide | exact .inl rfl | exact .inr rfl | exact .inr (.inl rfl) | exact .inr (.inr rfl) | (intro _; rfl) | with_unfolding_all rfl) (by first | rfl | decide | exact .inl rfl | exact .inr rfl | exact .inr (.inl rfl) | exact .inr (.inr rfl) | (intro _; rfl) | with_unfolding_all rfl) (by first | rfl | decide | exact .inl rfl | exact .inr rfl | exact .inr (.inl rfl) | exact .inr (.inr rfl) | (intro _; rfl) | with_unfolding_all rfl) (by first | rfl | decide | exact .inl rfl | exact .inr rfl | exact .inr (.inl rfl) | exact .inr (.inr rfl) | (intro _; rfl) | with_unfolding_all rfl)) (@pv _ 1 _ _ (by first | rfl | decide | exact .inl rfl | exact .inr rfl | exact .inr (.inl rfl) | exact .inr (.inr rfl) | (intro _; rfl) | with_unfolding_all rfl) (by first | rfl | decide | exact .inl rfl | exact .inr rfl | exact .inr (.inl rfl) | exact .inr (.inr rfl) | (intro _; rfl) | with_unfolding_all rfl) (by first | rfl | decide | exact .inl rfl | exact .inr rfl | exact .inr (.inl rfl) | exact .inr (.inr rfl) | (intro _; rfl) | with_unfolding_all rfl) (by first | rfl | decide | exact .inl rfl | exact .inr rfl | exact .inr (.inl rfl) | exact .inr (.inr rfl) | (intro _; rfl) | with_unfolding_all rfl)) (by rfl))), ?_⟩
    obtain ⟨dx, h1⟩ := hD.self
    refine ⟨_, rfl, v, d, rfl, hd, fun hs => ?_, qb⟩
    refine ⟨_, rfl, _, rfl, dk, _, dx, _, rfl, h1, T.cl, T.f_steps_ahead, (by show 3 < 1000; decide), ?_⟩
    have ev := left_v hd hs
    subst ev
    exact q hs _ (fun b o e nb => by rw [upd_ne nb]; exact e) (disk_self hD D.done (leftD d))
theorem sc_Disk___init__ : FnScope ["self", "steps"] ["self", "steps"] (defScope s_dinit) := ⟨rfl, rfl, rfl, by decide +kernel, rfl, by decide +kernel, by decide +kernel⟩
theorem ok_dinit {f : Addr} {fd : FuncData} (F : Fun K "__init__" "Disk.__init__" s_dinit f fd) (T : TxtD K mg C_BadName C_Missing C_There C_Stopped C_BadRow C_BadNumber C_Disk) (c_check_steps : Callee P w K mg base "check_steps" 2 ["steps"] (sp_check_steps C_BadNumber)) : FnOk P w K mg base (CXE P w) 3 f fd ["self", "steps"] (sp_dinit C_Disk C_BadNumber) := by
  refine F.okX sc_Disk___init__ (fun vs H Q E h => ?_) (fun cdv A outer s H vs Q E hr h => ?_)
  · obtain ⟨dk, dx, v, d, rfl, _⟩ := h
    rfl
  · obtain ⟨dk, dx, v, d, rfl, h1, hd, qb, q⟩ := h
    refine ⟨_, @pss_cons _ _ _ _ _ (ps_expr (pe_fn c_check_steps (hr.mono (by decide)) passS (pa_Name (pv 1) pa_nil))) (@pss_cons _ _ _ _ _ (@ps_fld _ _ _ _ _ _ _ _ (@pv _ 0 _ _ (by first | rfl | decide | exact .inl rfl | exact .inr rfl | exact .inr (.inl rfl) | exact .inr (.inr rfl) | (intro _; rfl) | with_unfolding_all rfl) (by first | rfl | decide | exact .inl rfl | exact .inr rfl | exact .inr (.inl rfl) | exact .inr (.inr rfl) | (intro _; rfl) | with_unfolding_all rfl) (by first | rfl | decide | exact .inl rfl | exact .inr rfl | exact .inr (.inl rfl) | exact .inr (.inr rfl) | (intro _; rfl) | with_unfolding_all rfl) (by first | rfl | decide | exact .inl rfl | exact .inr rfl | exact .inr (.inl rfl) | exact .inr (.inr rfl) | (intro _; rfl) | with_unfolding_all rfl)) (@pe_dnewK _ _) (by rfl)) (@pss_cons _ _ _ _ _ (@ps_fld _ _ _ _ _ _ _ _ (@pv _ 0 _ _ (by first | rfl | decide | exact .inl rfl | exact .inr rfl | exact .inr (.inl rfl) | exact .inr (.inr rfl) | (intro _; rfl) | with_unfolding_all rfl) (by first | rfl | decide | exact .inl rfl | exact .inr rfl | exact .inr (.inl rfl) | exact .inr (.inr rfl) | (intro _; rfl) | with_unfolding_all rfl) (by first | rfl | decide | exact .inl rfl | exact .inr rfl | exact .inr (.inl rfl) | exact .inr (.inr rfl) | (intro _; rfl) | with_unfolding_all rfl) (by first | rfl | decide | exact .inl rfl | exact .inr rfl | exact .inr (.inl rfl) | exact .inr (.inr rfl) | (intro _; rfl) | with_unfolding_all rfl)) (@pe_int _ _ _ _) (by rfl)) (@pss_one _ _ _ (@ps_fld _ _ _ _ _ _ _ _ (@pv _ 0 _ _ (by first | rfl | decide | exact .inl rfl | exact .inr rfl | exact .inr (.inl rfl) | exact .inr (.inr rfl) | (intro _; rfl) | with_unfolding_all rfl) (by first | rfl | decide | exact .inl rfl | exact .inr rfl | exact .inr (.inl rfl) | exact .inr (.inr rfl) | (intro _; rfl) | with_unfolding_all rfl) (by first | rfl | decide | exact .inl rfl | exact .inr rfl | exact .inr (.inl rfl) | exact .inr (.inr rfl) | (intro _; rfl) | with_unfolding_all rfl) (by first | rfl | decide | exact .inl rfl | exact .inr rfl | exact .inr (.inl rfl) | exact .inr (.inr rfl) | (intro _; rfl) | with_unfolding_all rfl)) (@pv _ 1 _ _ (by first | rfl | decide | exact .inl rfl | exact .inr rfl | exact .inr (.inl rfl) | exact .inr (.inr rfl) | (intro _; rfl) | with_unfolding_all rfl) (by first | rfl | decide | exact .inl rfl | exact .inr rfl | exact .inr (.inl rfl) | exact .inr (.inr rfl) | (intro _; rfl) | with_unfolding_all rfl) (by first | rfl | decide | exact .inl rfl | exact .inr rfl | exact .inr (.inl rfl) | exact .inr (.inr rfl) | (intro _; rfl) | with_unfolding_all rfl) (by first | rfl | decide | exact .inl rfl | exact .inr rfl | exact .inr (.inl rfl) | exact .inr (.inr rfl) | (intro _; rfl) | with_unfolding_all rfl)) (by rfl))))), ?_⟩
    refine ⟨_, rfl, v, d, rfl, hd, fun hs => ?_, qb⟩
    have ev := left_v hd hs
    subst ev
    refine fun df hdf => ?_
    have ndf : dk ≠ df := fun z => by rw [z, hdf] at h1; cases h1
    refine ⟨_, rfl, dk, _, dx, _, rfl, by rw [upd_ne ndf]; exact h1, T.cl, T.f_files, (by show 0 < 1000; decide), ?_⟩
    refine ⟨_, rfl, dk, _, dx, _, rfl, upd_same, T.cl, T.f_steps_done, (by show 1 < 1000; decide), ?_⟩
    refine ⟨_, rfl, _, rfl, dk, _, dx, _, rfl, upd_same, T.cl, T.f_steps_ahead, (by show 2 < 1000; decide), ?_⟩
    refine q hs df _ (fun b o e nb => ?_) hdf ⟨⟨dx, ?_⟩, ?_, trivial, List.nodup_nil, List.nodup_nil⟩
    · rw [upd_ne nb, upd_ne nb, upd_ne nb, upd_ne (fun z => by rw [z, hdf] at e; cases e)]
      exact e
    · rw [upd_same]
      rfl
    · rw [upd_ne (Ne.symm ndf), upd_ne (Ne.symm ndf), upd_ne (Ne.symm ndf)]
      exact upd_same
theorem sc_Disk_make : FnScope ["self", "name"] ["self", "name"] (defScope s_make) := ⟨rfl, rfl, rfl, by decide +kernel, rfl, by decide +kernel, by decide +kernel⟩
theorem ok_make {f : Addr} {fd : FuncData} (F : Fun K "make" "Disk.make" s_make f fd) (T : TxtD K mg C_BadName C_Missing C_There C_Stopped C_BadRow C_BadNumber C_Disk) (c_check_name : Callee P w K mg base "check_name" 2 ["name"] (sp_check_name C_BadName)) (m_count_step : Method P w K mg base C_Disk "count_step" 1 ["self"] (sp_count_step C_Disk C_Stopped)) : FnOk P w K mg base (CXE P w) 3 f fd ["self", "name"] (sp_make C_Disk C_BadName C_There C_Stopped) := by
  refine F.okX sc_Disk_make (fun vs H Q E h => ?_) (fun cdv A outer s H vs Q E hr h => ?_)
  · obtain ⟨dk, df, kvs, D, v, d, rfl, _⟩ := h
    rfl
  · obtain ⟨dk, df, kvs, D, v, d, rfl, hD, hd, hn, hl, qb, q⟩ := h
    refine ⟨_, @pss_cons _ _ _ _ _ (ps_expr (pe_fn c_check_name (hr.mono (by decide)) passS (pa_Name (pv 1) pa_nil))) (@pss_cons _ _ _ _ _ (@ps_if _ _ _ _ _ _ _ _ (@pt_cmp _ _ _ _ _ _ (@pc_din _ _ _ _ _ (hu1 hr.units) (@pv _ 1 _ _ (by first | rfl | decide | exact .inl rfl | exact .inr rfl | exact .inr (.inl rfl) | exact .inr (.inr rfl) | (intro _; rfl) | with_unfolding_all rfl) (by first | rfl | decide | exact .inl rfl | exact .inr rfl | exact .inr (.inl rfl) | exact .inr (.inr rfl) | (intro _; rfl) | with_unfolding_all rfl) (by first | rfl | decide | exact .inl rfl | exact .inr rfl | exact .inr (.inl rfl) | exact .inr (.inr rfl) | (intro _; rfl) | with_unfolding_all rfl) (by first | rfl | decide | exact .inl rfl | exact .inr rfl | exact .inr (.inl rfl) | exact .inr (.inr rfl) | (intro _; rfl) | with_unfolding_all rfl)) (@pe_fld _ _ _ _ _ (@pv _ 0 _ _ (by first | rfl | decide | exact .inl rfl | exact .inr rfl | exact .inr (.inl rfl) | exact .inr (.inr rfl) | (intro _; rfl) | with_unfolding_all rfl) (by first | rfl | decide | exact .inl rfl | exact .inr rfl | exact .inr (.inl rfl) | exact .inr (.inr rfl) | (intro _; rfl) | with_unfolding_all rfl) (by first | rfl | decide | exact .inl rfl | exact .inr rfl | exact .inr (.inl rfl) | exact .inr (.inr rfl) | (intro _; rfl) | with_unfolding_all rfl) (by first | rfl | decide | exact .inl rfl | exact .inr rfl | exact .inr (.inl rfl) | exact .inr (.inr rfl) | (intro _; rfl) | with_unfolding_all rfl)) (by rfl))) (by first | rfl | decide | exact .inl rfl | exact .inr rfl | exact .inr (.inl rfl) | exact .inr (.inr rfl) | (intro _; rfl) | with_unfolding_all rfl)) (@pss_one _ _ _ (@ps_raise _ _ _ _ _ _ _ _ _ _ raisesB (by rfl) T.x_There (by rfl) T.m_There (@pa_Constant _ _ _ _ _ _ _ (@pe_str _ _ _ _) (@pa_nil _)) (by first | rfl | decide | exact .inl rfl | exact .inr rfl | exact .inr (.inl rfl) | exact .inr (.inr rfl) | (intro _; rfl) | with_unfolding_all rfl) (by first | rfl | decide | exact .inl rfl | exact .inr rfl | exact .inr (.inl rfl) | exact .inr (.inr rfl) | (intro _; rfl) | with_unfolding_all rfl) (by first | rfl | decide | exact .inl rfl | exact .inr rfl | exact .inr (.inl rfl) | exact .inr (.inr rfl) | (intro _; rfl) | with_unfolding_all rfl))) (@pss_nil _)) (@pss_cons _ _ _ _ _ (ps_expr (pe_me0 m_count_step T.cl (hr.mono (by decide)) passS (pv 0))) (@pss_one _ _ _ (@ps_dput _ _ _ _ _ _ _ _ _ (hu1 hr.units) (@pe_fld _ _ _ _ _ (@pv _ 0 _ _ (by first | rfl | decide | exact .inl rfl | exact .inr rfl | exact .inr (.inl rfl) | exact .inr (.inr rfl) | (intro _; rfl) | with_unfolding_all rfl) (by first | rfl | decide | exact .inl rfl | exact .inr rfl | exact .inr (.inl rfl) | exact .inr (.inr rfl) | (intro _; rfl) | with_unfolding_all rfl) (by first | rfl | decide | exact .inl rfl | exact .inr rfl | exact .inr (.inl rfl) | exact .inr (.inr rfl) | (intro _; rfl) | with_unfolding_all rfl) (by first | rfl | decide | exact .inl rfl | exact .inr rfl | exact .inr (.inl rfl) | exact .inr (.inr rfl) | (intro _; rfl) | with_unfolding_all rfl)) (by rfl)) (@pv _ 1 _ _ (by first | rfl | decide | exact .inl rfl | exact .inr rfl | exact .inr (.inl rfl) | exact .inr (.inr rfl) | (intro _; rfl) | with_unfolding_all rfl) (by first | rfl | decide | exact .inl rfl | exact .inr rfl | exact .inr (.inl rfl) | exact .inr (.inr rfl) | (intro _; rfl) | with_unfolding_all rfl) (by first | rfl | decide | exact .inl rfl | exact .inr rfl | exact .inr (.inl rfl) | exact .inr (.inr rfl) | (intro _; rfl) | with_unfolding_all rfl) (by first | rfl | decide | exact .inl rfl | exact .inr rfl | exact .inr (.inl rfl) | exact .inr (.inr rfl) | (intro _; rfl) | with_unfolding_all rfl)) (@pe_lst _ _ _ _ (@pa_nil _)) (by rfl))))), ?_⟩
    refine ⟨_, rfl, v, d, rfl, hd, hn, fun hw H1 S1 => ?_, qb⟩
    obtain ⟨n, rfl⟩ := word_str hw
    obtain ⟨qt, q2⟩ := q n rfl hw
    have ev : v = .str n := by simpa only [Den] using hd
    subst ev
    have hD1 := hD.same S1
    obtain ⟨dx, h1⟩ := hD1.self
    refine ⟨_, rfl, _, rfl, dk, _, dx, _, _, rfl, h1, T.cl, T.f_files, rfl, df, _, rfl, DGet.k (k := Sum.inr n) hD1.files, _, rfl, ?_⟩
    have hv := hD1.rel.val (n := n)
    cases he : lookF D.fs n with
    | some bs =>
      rw [he] at hv
      obtain ⟨v, hv1, _⟩ := hv
      rw [hv1]
      exact iteT ⟨(by show 1 ≤ sizeLine; decide), qt bs he H1 S1⟩
    | none =>
      rw [he] at hv
      have hv : valV kvs (Sum.inr n) = none := hv
      rw [hv]
      refine iteF ?_
      refine go_next rfl ?_
      obtain ⟨qs, q3⟩ := q2 he
      refine ⟨_, rfl, dk, dx, _, rfl, h1, rfl, dk, df, kvs, D, rfl, hD1, fun D1 hs H2 f2 hD2 => ?_, fun hs => qs hs H1 S1⟩
      refine ⟨(by show 0 ≤ sizeLine; decide), fun l hl3 => ?_⟩
      have S3 := same_upd (o := .lst []) hl3
      generalize eH3 : upd H2 l (.lst []) = H3 at S3 ⊢
      have g3 : H3 l = some (.lst []) := by rw [← eH3]; exact upd_same
      have hD3 := hD2.same S3
      obtain ⟨dx3, h13⟩ := hD3.self
      have hkl : kvs.length < sizeLine := by rw [hD.rel.len]; exact Nat.lt_trans hl (by decide)
      refine ⟨_, rfl, dk, _, dx3, _, _, rfl, h13, T.cl, T.f_files, rfl, _, rfl, df, _, rfl, DPut.k (k := Sum.inr n) hD3.files hkl, ?_⟩
      have epk : putK kvs (Sum.inr n) (V.ref l) = kvs ++ [(Sum.inr n, V.ref l)] := putK_new _ hv
      rw [epk]
      obtain ⟨o1, o2, o3⟩ := own_self hD3
      have nlm : V.ref l ∉ kvs.map (·.2) := fun hm => by
        have : ∀ {fs : List (Str × List Int)} {kvs : List (Key × V)}, FsR H2 fs kvs → V.ref l ∈ kvs.map (·.2) → H2 l ≠ none := by
          intro fs
          induction fs with
          | nil =>
            intro kvs hr hb
            cases kvs with
            | nil => simp at hb
            | cons _ _ => exact hr.elim
          | cons p fs ih =>
            intro kvs hr hb
            cases kvs with
            | nil => exact hr.elim
            | cons q kvs =>
              obtain ⟨_, ⟨l', e, g⟩, h3⟩ := hr
              rw [List.map_cons, List.mem_cons] at hb
              rcases hb with hb | hb
              · rw [e] at hb
                cases hb
                rw [g]
                exact fun z => by cases z
              · exact ih h3 hb
        exact this hD2.rel hm hl3
      have ldf : l ≠ df := fun z => by rw [z, hD2.files] at hl3; cases hl3
      have hl0 : H l = none := by
        cases e : H l with
        | none => rfl
        | some o =>
          have ldk : l ≠ dk := fun z => by
            obtain ⟨dx2, h12⟩ := hD2.self
            rw [z, h12] at hl3
            cases hl3
          rw [f2 l o (S1 _ _ e) ldk] at hl3
          cases hl3
      refine q3 D1 hs (kvs ++ [(Sum.inr n, V.ref l)]) _ (fun b o e nb => ?_) (fun b hb => ?_) ⟨⟨dx3, by rw [upd_ne o1]; exact h13⟩, upd_same, ?_, ?_, ?_⟩
      · have nb1 : b ≠ dk := fun z => nb (.inl z)
        have nb2 : b ≠ df := fun z => nb (.inr (.inl z))
        rw [upd_ne nb2]
        exact S3 _ _ (f2 b o (S1 _ _ e) nb1)
      · rcases hb with hb | hb | hb
        · exact .inl (.inl hb)
        · exact .inl (.inr (.inl hb))
        · rw [List.map_append, List.mem_append] at hb
          rcases hb with hb | hb
          · exact .inl (.inr (.inr hb))
          · have : b = l := by simpa using hb
            subst this
            exact .inr hl0
      · refine (hD3.rel.same fun b o e m => ?_).snoc ⟨l, rfl, by rw [upd_ne ldf]; exact g3⟩
        rw [upd_ne (fun z => by rw [z] at m; exact o3 m)]
        exact e
      · rw [List.map_append, List.nodup_append]
        refine ⟨hD.nd, by simp, ?_⟩
        intro a ha b hb
        have : b = V.ref l := by simpa using hb
        subst this
        rintro rfl
        exact nlm ha
      · show ((D1.fs ++ [(n, ([] : List Int))]).map (·.1)).Nodup
        rw [List.map_append, List.nodup_append, step_fs hs]
        refine ⟨hD.kn, by simp, ?_⟩
        intro a ha b hb
        have : b = n := by simpa using hb
        subst this
        rintro rfl
        exact look_none he ha
end
end Qh
end
section
set_option Elab.async false
set_option linter.all false
set_option maxRecDepth 100000
namespace Qh
open PySem L2
abbrev s_add : Stmt := inClass (top 19) 3
abbrev s_cut : Stmt := inClass (top 19) 4
def setA (fs : List (Str × List Int)) (n : Str) (e : List Int) : List (Str × List Int) := fs.map fun p => if p.1 = n then (p.1, e) else p
theorem setA_keys (fs : List (Str × List Int)) (n : Str) (e : List Int) : (setA fs n e).map (·.1) = fs.map (·.1) := by
  unfold setA
  rw [List.map_map]
  apply List.map_congr_left
  intro p _
  show (if p.1 = n then (p.1, e) else p).1 = p.1
  split <;> rfl
theorem setA_no {fs : List (Str × List Int)} {n : Str} {e : List Int} (h : n ∉ fs.map (·.1)) : setA fs n e = fs := by
  unfold setA
  have : fs.map (fun p => if p.1 = n then (p.1, e) else p) = fs.map id := by
    apply List.map_congr_left
    intro p hp
    rw [if_neg (fun z => h (by rw [← z]; exact List.mem_map_of_mem hp))]
    rfl
  rw [this, List.map_id]
theorem setA_look {fs : List (Str × List Int)} {n : Str} {e bs : List Int} (h : lookF fs n = some bs) : lookF (setA fs n e) n = some e := by
  induction fs with
  | nil => cases h
  | cons p fs ih =>
    unfold setA
    rw [List.map_cons]
    by_cases z : p.1 = n
    · rw [if_pos z]
      simp [lookF, z]
    · rw [if_neg z]
      have h' : lookF fs n = some bs := by simpa [lookF, z] using h
      have := ih h'
      unfold setA at this
      simpa [lookF, z] using this
theorem val_mem {kvs : List (Key × V)} {k : Key} {v : V} (h : valV kvs k = some v) : v ∈ kvs.map (·.2) := by
  unfold valV at h
  rw [Option.map_eq_some_iff] at h
  obtain ⟨p, hp, rfl⟩ := h
  exact List.mem_map_of_mem (List.mem_of_find?_eq_some hp)
theorem key_mem {fs : List (Str × List Int)} {n : Str} {bs : List Int} (h : lookF fs n = some bs) : n ∈ fs.map (·.1) := by
  unfold lookF at h
  rw [Option.map_eq_some_iff] at h
  obtain ⟨p, hp, rfl⟩ := h
  have h1 := List.find?_some hp
  have h2 := of_decide_eq_true h1
  rw [← h2]
  exact List.mem_map_of_mem (List.mem_of_find?_eq_some hp)
/-- one file's list is written -/
theorem FsR.wr {H : Hp} {n : Str} {l : Addr} {e : List Int} : ∀ {fs : List (Str × List Int)} {kvs : List (Key × V)}, FsR H fs kvs → (kvs.map (·.2)).Nodup → (fs.map (·.1)).Nodup → valV kvs (Sum.inr n) = some (.ref l) → FsR (upd H l (.lst (e.map V.int))) (setA fs n e) kvs
  | [], [], _, _, _, h => by cases h
  | p :: fs, q :: kvs, h, nd, kn, hv => by
    obtain ⟨h1, ⟨l', e', g⟩, h3⟩ := h
    rw [List.map_cons, List.nodup_cons] at nd kn
    by_cases z : p.1 = n
    · have e1 : valV (q :: kvs) (Sum.inr n) = some q.2 := valV_pos (by rw [h1, z])
      rw [e1] at hv
      have hq : q.2 = V.ref l := Option.some.inj hv
      have es : setA (p :: fs) n e = (p.1, e) :: fs := by
        show (if p.1 = n then (p.1, e) else p) :: setA fs n e = _
        rw [if_pos z, setA_no (by rw [← z]; exact kn.1)]
      rw [es]
      refine ⟨h1, ⟨l, hq, upd_same⟩, h3.same fun b o eb m => ?_⟩
      rw [upd_ne (fun y => by rw [y, ← hq] at m; exact nd.1 m)]
      exact eb
    · have e1 : valV (q :: kvs) (Sum.inr n) = valV kvs (Sum.inr n) := valV_neg (by rw [h1, inr_eq]; exact z)
      rw [e1] at hv
      have es : setA (p :: fs) n e = p :: setA fs n e := by
        show (if p.1 = n then (p.1, e) else p) :: setA fs n e = _
        rw [if_neg z]
      rw [es]
      have nl : l' ≠ l := fun y => by
        subst y
        exact nd.1 (by rw [e']; exact val_mem hv)
      exact ⟨h1, ⟨l', e', by rw [upd_ne nl]; exact g⟩, FsR.wr h3 nd.2 kn.2 hv⟩
  | [], _ :: _, h, _, _, _ => h.elim
  | _ :: _, [], h, _, _, _ => h.elim
def intsOf : PyData → List Int
  | .tuple ds => ds.map fun d => match d with | .int i => i | _ => 0
  | _ => []
theorem byt_ints {H : Hp} : ∀ {bs : List PyData} {xs : List V}, Dens H bs xs → bs.all (isNum 0 255) = true → xs = (intsOf (.tuple bs)).map V.int
  | [], xs, h, _ => by
    simp only [Dens] at h
    subst h
    rfl
  | d :: bs, xs, h, e => by
    simp only [Dens] at h
    obtain ⟨x, r, e1, h1, h2⟩ := h
    rw [List.all_cons, Bool.and_eq_true] at e
    have e2 := byt_ints h2 e.2
    cases d with
    | int i =>
      simp only [Den] at h1
      rw [e1, h1, e2]
      rfl
    | _ => exact absurd e.1 (by simp [isNum])
theorem byt_form {H : Hp} {d : PyData} {v : V} (hd : Den H d v) (hb : isByt d = true) : ∃ a bs, d = .tuple bs ∧ v = .ref a ∧ H a = some (.tup ((intsOf d).map V.int)) ∧ (intsOf d).length = bs.length := by
  cases d with
  | tuple bs =>
    simp only [Den] at hd
    obtain ⟨a, ys, rfl, ha, hbs⟩ := hd
    have ei := byt_ints hbs hb
    subst ei
    exact ⟨a, bs, rfl, rfl, ha, List.length_map _⟩
  | _ => exact absurd hb (by simp [isByt])
def addG (n : Str) : Dk → List Int → Dk × Bool
  | D, [] => (D, true)
  | D, b :: bs => match stepF D with
    | none => (D, false)
    | some D1 => addG n ⟨setA D1.fs n ((lookF D1.fs n).getD [] ++ [b]), D1.done, D1.left⟩ bs
def sp_add (C C_BadName C_Missing C_BadRow C_Stopped : Addr) : Sp := fun vs H Q E => ∃ (dk df : Addr) (kvs : List (Key × V)) (D : Dk) (v v2 : V) (d d2 : PyData), vs = [.ref dk, v, v2] ∧ DiskAt C H dk df kvs D ∧ Den H d v ∧ nameOk d ∧ Den H d2 v2 ∧ (∀ bs, d2 = .tuple bs → bs.length ≤ 100000) ∧ (∀ n bs, lookF D.fs n = some bs → bs.length ≤ 100000) ∧
  (wordD signs36 8 d = false → ∀ H', Same H H' → E (.ref C_BadName) none H') ∧ (∀ n, d = .str n → wordD signs36 8 d = true → (lookF D.fs n = none → ∀ H', Same H H' → E (.ref C_Missing) none H') ∧
    (∀ bs, lookF D.fs n = some bs → (isByt d2 = false → ∀ H', Same H H' → E (.ref C_BadRow) none H') ∧ (isByt d2 = true → ∀ H', FrmD dk df kvs H H' → DiskAt C H' dk df kvs (addG n D (intsOf d2)).1 → ((addG n D (intsOf d2)).2 = true → Q .non H') ∧ ((addG n D (intsOf d2)).2 = false → E (.ref C_Stopped) none H'))))
section
variable {P : Program} {w : World} {K : PySem.W.Frag} {mg : Str → Option Value} {base : Heap} {C_BadName C_Missing C_There C_Stopped C_BadRow C_BadNumber C_Disk : Addr}
theorem sc_Disk_drop : FnScope ["self", "name"] ["self", "name"] (defScope s_drop) := ⟨rfl, rfl, rfl, by decide +kernel, rfl, by decide +kernel, by decide +kernel⟩
theorem ok_drop {f : Addr} {fd : FuncData} (F : Fun K "drop" "Disk.drop" s_drop f fd) (T : TxtD K mg C_BadName C_Missing C_There C_Stopped C_BadRow C_BadNumber C_Disk) (m_check_file : Method P w K mg base C_Disk "check_file" 3 ["self", "name"] (sp_check_file C_Disk C_BadName C_Missing)) (m_count_step : Method P w K mg base C_Disk "count_step" 1 ["self"] (sp_count_step C_Disk C_Stopped)) : FnOk P w K mg base (CXE P w) 4 f fd ["self", "name"] (sp_drop C_Disk C_BadName C_Missing C_Stopped) := by
  refine F.okX sc_Disk_drop (fun vs H Q E h => ?_) (fun cdv A outer s H vs Q E hr h => ?_)
  · obtain ⟨dk, df, kvs, D, v, d, rfl, _⟩ := h
    rfl
  · obtain ⟨dk, df, kvs, D, v, d, rfl, hD, hd, hn, qb, q⟩ := h
    refine ⟨_, @pss_cons _ _ _ _ _ (ps_expr (pe_me m_check_file T.cl (hr.mono (by decide)) passS (pv 0) (pa_Name (pv 1) pa_nil))) (@pss_cons _ _ _ _ _ (ps_expr (pe_me0 m_count_step T.cl (hr.mono (by decide)) passS (pv 0))) (@pss_one _ _ _ (ps_expr (pe_bmK K PySem.F.plainAttrs_dict PySem.F.slot_dict_pop PySem.F.type_dict_pop mt_dpop (pe_fld (pv 0) (by rfl)) (pa_Name (pv 1) pa_nil))))), ?_⟩
    obtain ⟨dx, h1⟩ := hD.self
    refine ⟨_, rfl, dk, dx, _, rfl, h1, rfl, _, rfl, dk, df, kvs, D, v, d, rfl, hD, hd, hn, qb, fun n en hw => ?_⟩
    obtain ⟨qm, q2⟩ := q n en hw
    subst en
    have ev : v = .str n := by simpa only [Den] using hd
    subst ev
    refine ⟨qm, fun bs hbs H1 S1 => ?_⟩
    obtain ⟨qs, q3⟩ := q2 bs hbs
    have hD1 := hD.same S1
    refine ⟨_, rfl, dk, dx, _, rfl, S1 _ _ h1, rfl, dk, df, kvs, D, rfl, hD1, fun D1 hs H2 f2 hD2 => ?_, fun hs => qs hs H1 S1⟩
    obtain ⟨dx2, h12⟩ := hD2.self
    have hv := hD2.rel.val (n := n)
    rw [step_fs hs, hbs] at hv
    obtain ⟨v, hv1, _⟩ := hv
    refine ⟨_, rfl, dk, _, dx2, _, _, rfl, h12, T.cl, T.f_files, rfl, .inr (.inr (.inl ⟨rfl, .inl ⟨kvs, hD2.files⟩⟩)), _, rfl, df, kvs, Sum.inr n, _, rfl, rfl, hD2.files, hv1, ?_⟩
    obtain ⟨o1, o2, o3⟩ := own_self hD2
    have sub : (dropK kvs (Sum.inr n)).Sublist kvs := List.filter_sublist
    have subf : (dropA D1.fs n).Sublist D1.fs := List.filter_sublist
    refine q3 D1 hs (dropK kvs (Sum.inr n)) _ (fun b o e nb => ?_) (fun b hb => ?_) ⟨⟨dx2, by rw [upd_ne o1]; exact h12⟩, upd_same, ?_, ?_, ?_⟩
    · rw [upd_ne (fun z => nb (.inr (.inl z)))]
      exact f2 b o (S1 _ _ e) (fun z => nb (.inl z))
    · rcases hb with hb | hb | hb
      · exact .inl (.inl hb)
      · exact .inl (.inr (.inl hb))
      · exact .inl (.inr (.inr ((sub.map _).subset hb)))
    · refine (hD2.rel.drop (n := n)).same fun b o e m => ?_
      rw [upd_ne (fun z => by rw [z] at m; exact o3 ((sub.map _).subset m))]
      exact e
    · exact hD2.nd.sublist (sub.map _)
    · exact hD2.kn.sublist (subf.map _)
theorem sc_Disk_add : FnScope ["self", "name", "some", "one"] ["self", "name", "some"] (defScope s_add) := ⟨rfl, rfl, rfl, by decide +kernel, rfl, by decide +kernel, by decide +kernel⟩
set_option maxHeartbeats 1000000 in
theorem ok_add {f : Addr} {fd : FuncData} (F : Fun K "add" "Disk.add" s_add f fd) (T : TxtD K mg C_BadName C_Missing C_There C_Stopped C_BadRow C_BadNumber C_Disk) (c_is_bytes : Callee P w K mg base "is_bytes" 2 ["thing"] sp_is_bytes) (m_check_file : Method P w K mg base C_Disk "check_file" 3 ["self", "name"] (sp_check_file C_Disk C_BadName C_Missing)) (m_count_step : Method P w K mg base C_Disk "count_step" 1 ["self"] (sp_count_step C_Disk C_Stopped)) : FnOk P w K mg base (CXE P w) 4 f fd ["self", "name", "some"] (sp_add C_Disk C_BadName C_Missing C_BadRow C_Stopped) := by
  refine F.okX sc_Disk_add (fun vs H Q E h => ?_) (fun cdv A outer s H vs Q E hr h => ?_)
  · obtain ⟨dk, df, kvs, D, v, v2, d, d2, rfl, _⟩ := h
    rfl
  · obtain ⟨dk, df, kvs, D, v, v2, d, d2, rfl, hD, hd, hn, hd2, hz2, hzf, qb, q⟩ := h
    refine ⟨_, @pss_cons _ _ _ _ _ (ps_expr (pe_me m_check_file T.cl (hr.mono (by decide)) passS (pv 0) (pa_Name (pv 1) pa_nil))) (@pss_cons _ _ _ _ _ (@ps_if _ _ _ _ _ _ _ _ (@pt_not _ _ _ _ (@pt_val _ _ _ (@pe_fn _ _ _ _ _ _ _ _ _ _ _ c_is_bytes (hr.mono (by decide)) passN (@pa_Name _ _ _ _ _ _ (@pv _ 2 _ _ (by first | rfl | decide | exact .inl rfl | exact .inr rfl | exact .inr (.inl rfl) | exact .inr (.inr rfl) | (intro _; rfl) | with_unfolding_all rfl) (by first | rfl | decide | exact .inl rfl | exact .inr rfl | exact .inr (.inl rfl) | exact .inr (.inr rfl) | (intro _; rfl) | with_unfolding_all rfl) (by first | rfl | decide | exact .inl rfl | exact .inr rfl | exact .inr (.inl rfl) | exact .inr (.inr rfl) | (intro _; rfl) | with_unfolding_all rfl) (by first | rfl | decide | exact .inl rfl | exact .inr rfl | exact .inr (.inl rfl) | exact .inr (.inr rfl) | (intro _; rfl) | with_unfolding_all rfl)) (@pa_nil _)) (by first | rfl | decide | exact .inl rfl | exact .inr rfl | exact .inr (.inl rfl) | exact .inr (.inr rfl) | (intro _; rfl) | with_unfolding_all rfl) (by first | rfl | decide | exact .inl rfl | exact .inr rfl | exact .inr (.inl rfl) | exact .inr (.inr rfl) | (intro _; rfl) | with_unfolding_all rfl) (by first | rfl | decide | exact .inl rfl | exact .inr rfl | exact .inr (.inl rfl) | exact .inr (.inr rfl) | (intro _; rfl) | with_unfolding_all rfl) (by first | rfl | decide | exact .inl rfl | exact .inr rfl | exact .inr (.inl rfl) | exact .inr (.inr rfl) | (intro _; rfl) | with_unfolding_all rfl)) (by first | rfl | decide | exact .inl rfl | exact .inr rfl | exact .inr (.inl rfl) | exact .inr (.inr rfl) | (intro _; rfl) | with_unfolding_all rfl))) (@pss_one _ _ _ (@ps_raise _ _ _ _ _ _ _ _ _ _ raisesB (by rfl) T.x_BadRow (by rfl) T.m_BadRow (@pa_Constant _ _ _ _ _ _ _ (@pe_str _ _ _ _) (@pa_nil _)) (by first | rfl | decide | exact .inl rfl | exact .inr rfl | exact .inr (.inl rfl) | exact .inr (.inr rfl) | (intro _; rfl) | with_unfolding_all rfl) (by first | rfl | decide | exact .inl rfl | exact .inr rfl | exact .inr (.inl rfl) | exact .inr (.inr rfl) | (intro _; rfl) | with_unfolding_all rfl) (by first | rfl | decide | exact .inl rfl | exact .inr rfl | exact .inr (.inl rfl) | exact .inr (.inr rfl) | (intro _; rfl) | with_unfolding_all rfl))) (@pss_nil _)) (@pss_one _ _ _ (@ps_for _ _ _ _ _ _ _ _ (ownB own_cx) (by rfl) (@pi_tupK _ K _ _ _ (@pv _ 2 _ _ (by first | rfl | decide | exact .inl rfl | exact .inr rfl | exact .inr (.inl rfl) | exact .inr (.inr rfl) | (intro _; rfl) | with_unfolding_all rfl) (by first | rfl | decide | exact .inl rfl | exact .inr rfl | exact .inr (.inl rfl) | exact .inr (.inr rfl) | (intro _; rfl) | with_unfolding_all rfl) (by first | rfl | decide | exact .inl rfl | exact .inr rfl | exact .inr (.inl rfl) | exact .inr (.inr rfl) | (intro _; rfl) | with_unfolding_all rfl) (by first | rfl | decide | exact .inl rfl | exact .inr rfl | exact .inr (.inl rfl) | exact .inr (.inr rfl) | (intro _; rfl) | with_unfolding_all rfl)) (by first | rfl | decide | exact .inl rfl | exact .inr rfl | exact .inr (.inl rfl) | exact .inr (.inr rfl) | (intro _; rfl) | with_unfolding_all rfl)) (@pg_name _ _ (3) _ sc_Disk_add.nd (by rfl) (by first | exact Or.inl (by rfl) | exact Or.inr (by rfl)) (by first | rfl | decide | exact .inl rfl | exact .inr rfl | exact .inr (.inl rfl) | exact .inr (.inr rfl) | (intro _; rfl) | with_unfolding_all rfl)) (@pss_cons _ _ _ _ _ (ps_expr (pe_me0 m_count_step T.cl (hr.mono (by decide)) passS (pv 0))) (@pss_one _ _ _ (ps_expr (pe_bmK K PySem.F.plainAttrs_list PySem.F.slot_list_append PySem.F.type_list_append mt_append (pe_dget (hu1 hr.units) (pe_fld (pv 0) (by rfl)) (pv 1) (fun _ _ => rfl)) (pa_Name (pv 3) pa_nil))))) (by first | rfl | decide | exact .inl rfl | exact .inr rfl | exact .inr (.inl rfl) | exact .inr (.inr rfl) | (intro _; rfl) | with_unfolding_all rfl)))), ?_⟩
    obtain ⟨dx, h1⟩ := hD.self
    refine ⟨_, rfl, dk, dx, _, rfl, h1, rfl, _, rfl, dk, df, kvs, D, v, d, rfl, hD, hd, hn, qb, fun n en hw => ?_⟩
    obtain ⟨qm, q2⟩ := q n en hw
    subst en
    have ev : v = .str n := by simpa only [Den] using hd
    subst ev
    refine ⟨qm, fun bs hbs H1 S1 => ?_⟩
    obtain ⟨qr, q3⟩ := q2 bs hbs
    refine ⟨_, rfl, v2, d2, rfl, hd2.same S1, fun ds e => Nat.le_trans (hz2 ds e) (by decide), fun H2 S2 => ⟨_, rfl, ?_⟩⟩
    have S02 : Same H H2 := S1.trans S2
    cases hb : isByt d2 with
    | false => exact iteT ⟨(by show 1 ≤ sizeLine; decide), qr hb H2 S02⟩
    | true =>
    refine iteF ?_
    refine go_next rfl ?_
    have q4 := q3 hb
    have hD2 := hD.same S02
    obtain ⟨a2, bs2, rfl, rfl, ga2, l2⟩ := byt_form hd2 hb
    have z2 := hz2 bs2 rfl
    have zf := hzf n bs hbs
    generalize intsOf (.tuple bs2) = ns at ga2 l2 q4
    have ga : H2 a2 = some (.tup (ns.map V.int)) := S02 _ _ ga2
    refine ⟨_, rfl, a2, rfl, ⟨_, SqT.of ga⟩, ?_⟩
    have sq0 : SqT K (fun a => if a = a2 then some (.tup (ns.map V.int)) else none) a2 (ns.map V.int) := SqT.of (if_pos rfl)
    have lm : (ns.map V.int).length = ns.length := List.length_map _
    have na : ¬ own dk df kvs a2 := by
      rintro (z | z | z)
      · obtain ⟨dx2, h12⟩ := hD2.self
        rw [z, h12] at ga
        cases ga
      · rw [z, hD2.files] at ga
        cases ga
      · have key : ∀ {fs : List (Str × List Int)} {kvs : List (Key × V)}, FsR H2 fs kvs → V.ref a2 ∈ kvs.map (·.2) → ∃ xs, H2 a2 = some (.lst xs) := by
          intro fs
          induction fs with
          | nil =>
            intro kvs hr hb
            cases kvs with
            | nil => simp at hb
            | cons _ _ => exact hr.elim
          | cons p fs ih =>
            intro kvs hr hb
            cases kvs with
            | nil => exact hr.elim
            | cons q kvs =>
              obtain ⟨_, ⟨l', e, g⟩, h3⟩ := hr
              rw [List.map_cons, List.mem_cons] at hb
              rcases hb with hb | hb
              · rw [e] at hb
                cases hb
                exact ⟨_, g⟩
              · exact ih h3 hb
        obtain ⟨xs, e⟩ := key hD2.rel z
        rw [ga] at e
        cases e
    refine for_src0 (H0 := fun a => if a = a2 then some (.tup (ns.map V.int)) else none) (src_tup (K := K) sq0) (fun i σ H' => H' a2 = some (.tup (ns.map V.int)) ∧ FrmD dk df kvs H H' ∧ ∃ Di bsi z3, DiskAt C_Disk H' dk df kvs Di ∧ lookF Di.fs n = some bsi ∧ bsi.length ≤ bs.length + i ∧ addG n D ns = addG n Di (ns.drop i) ∧ σ = [some (.ref dk), some (.str n), some (.ref a2), z3]) ?i0 ?kp ?_ ?_
    case i0 => exact ⟨ga, fun b o e _ => S02 b o e, D, bs, none, hD2, hbs, Nat.le_refl _, rfl, rfl⟩
    case kp =>
      intro i σ H' h b o e
      by_cases z : b = a2
      · subst z
        have e : some (HO.tup (ns.map V.int)) = some o := by simpa using e
        rw [← e]
        exact h.1
      · have e : none = some o := by simpa [z] using e
        cases e
    · rintro i x σ H5 H6 hi ⟨g5, f5, Di, bsi, z3, hDi, hlk, hlen, hadd, rfl⟩ s6 hx
      rw [lm] at hi
      rw [List.getElem?_map, List.getElem?_eq_getElem hi] at hx
      cases hx
      rw [List.drop_eq_getElem_cons hi] at hadd
      have hD6 := hDi.same s6
      obtain ⟨dx6, h16⟩ := hD6.self
      have f6 : FrmD dk df kvs H H6 := fun b o e nb => s6 _ _ (f5 b o e nb)
      refine ⟨_, rfl, dk, dx6, _, rfl, h16, rfl, dk, df, kvs, Di, rfl, hD6, fun D1 hs H7 f7 hD7 => ?_, fun hs => ?_⟩
      · obtain ⟨dx7, h17⟩ := hD7.self
        have hv := hD7.rel.val (n := n)
        rw [step_fs hs, hlk] at hv
        obtain ⟨v7, hv1, l, rfl, gl⟩ := hv
        have dg : DGet H7 df (.str n) (some (.ref l)) := by
          have := DGet.k (k := Sum.inr n) hD7.files
          rw [hv1] at this
          exact this
        refine ⟨_, rfl, dk, _, dx7, _, _, rfl, h17, T.cl, T.f_files, rfl, _, rfl, df, _, rfl, dg, .inl ⟨rfl, _, SqL.of gl⟩, _, rfl, l, _, _, rfl, rfl, gl, ?_, ?_⟩
        · rw [List.length_map]
          exact Nat.lt_of_le_of_lt (show _ ≤ 200000 by omega) (by decide)
        have hlm := val_mem hv1
        have em : bsi.map V.int ++ [V.int ns[i]] = (bsi ++ [ns[i]]).map V.int := by rw [List.map_append]; rfl
        rw [em]
        obtain ⟨o1, o2, o3⟩ := own_self hD7
        have nl : a2 ≠ l := fun z => na (.inr (.inr (by rw [z]; exact hlm)))
        have nk : a2 ≠ dk := fun z => na (.inl z)
        refine ⟨?_, fun b o e nb => ?_, ⟨setA D1.fs n (bsi ++ [ns[i]]), D1.done, D1.left⟩, bsi ++ [ns[i]], _, ⟨⟨dx7, ?_⟩, ?_, hD7.rel.wr hD7.nd hD7.kn hv1, hD7.nd, ?_⟩, ?_, ?_, ?_, rfl⟩
        · rw [upd_ne nl]
          exact f7 _ _ (s6 _ _ g5) nk
        · rw [upd_ne (fun z => nb (.inr (.inr (by rw [z]; exact hlm))))]
          exact f7 _ _ (f6 b o e nb) (fun z => nb (.inl z))
        · rw [upd_ne (fun z => by rw [← z] at hlm; exact o2 hlm)]
          exact h17
        · rw [upd_ne (fun z => by rw [← z] at hlm; exact o3 hlm)]
          exact hD7.files
        · show ((setA D1.fs n (bsi ++ [ns[i]])).map (·.1)).Nodup
          rw [setA_keys]
          exact hD7.kn
        · show lookF (setA D1.fs n (bsi ++ [ns[i]])) n = _
          rw [step_fs hs]
          exact setA_look hlk
        · rw [List.length_append]
          show bsi.length + 1 ≤ _
          omega
        · rw [hadd]
          show (match stepF Di with | none => (Di, false) | some D1 => addG n ⟨setA D1.fs n ((lookF D1.fs n).getD [] ++ [ns[i]]), D1.done, D1.left⟩ (ns.drop (i + 1))) = _
          rw [hs]
          dsimp only
          rw [step_fs hs, hlk]
          rfl
      · have e1 : addG n D ns = (Di, false) := by
          rw [hadd]
          show (match stepF Di with | none => (Di, false) | some D1 => addG n ⟨setA D1.fs n ((lookF D1.fs n).getD [] ++ [ns[i]]), D1.done, D1.left⟩ (ns.drop (i + 1))) = _
          rw [hs]
        rw [e1] at q4
        exact (q4 H6 f6 hD6).2 rfl
    · rintro σ H5 ⟨g5, f5, Di, bsi, z3, hDi, hlk, hlen, hadd, rfl⟩
      rw [lm, List.drop_of_length_le (Nat.le_refl _)] at hadd
      have e1 : addG n D ns = (Di, true) := hadd
      rw [e1] at q4
      exact (q4 H5 f5 hDi).1 rfl
end
end Qh
end
section
set_option Elab.async false
set_option linter.all false
set_option maxRecDepth 100000
namespace Qh
open PySem L2
def sizeOf' : PyData → Nat
  | .int n => n.toNat
  | _ => 0
def sp_cut (C C_BadName C_Missing C_BadNumber C_Stopped : Addr) : Sp := fun vs H Q E => ∃ (dk df : Addr) (kvs : List (Key × V)) (D : Dk) (v v2 : V) (d d2 : PyData), vs = [.ref dk, v, v2] ∧ DiskAt C H dk df kvs D ∧ Den H d v ∧ nameOk d ∧ Den H d2 v2 ∧ D.fs.length < 1000 ∧
  (wordD signs36 8 d = false → ∀ H', Same H H' → E (.ref C_BadName) none H') ∧ (∀ n, d = .str n → wordD signs36 8 d = true → (lookF D.fs n = none → ∀ H', Same H H' → E (.ref C_Missing) none H') ∧
    (∀ bs, lookF D.fs n = some bs → (isNum 0 bs.length d2 = false → ∀ H', Same H H' → E (.ref C_BadNumber) none H') ∧ (isNum 0 bs.length d2 = true → (stepF D = none → ∀ H', Same H H' → E (.ref C_Stopped) none H') ∧
      (∀ D1, stepF D = some D1 → ∀ kvs' H', FrmD dk df kvs H H' → Grow dk df kvs kvs' H → DiskAt C H' dk df kvs' ⟨setA D1.fs n (bs.take (sizeOf' d2)), D1.done, D1.left⟩ → Q .non H'))))
theorem FsR.mapP {H : Hp} {n : Str} {e : List Int} {v : V} (hv : fileAt H v e) : ∀ {fs : List (Str × List Int)} {kvs : List (Key × V)}, FsR H fs kvs → FsR H (setA fs n e) (kvs.map fun kv => if kv.1 = Sum.inr n then (kv.1, v) else kv)
  | [], [], _ => trivial
  | p :: fs, q :: kvs, h => by
    obtain ⟨h1, h2, h3⟩ := h
    show FsR H ((if p.1 = n then (p.1, e) else p) :: setA fs n e) _
    rw [List.map_cons]
    by_cases z : p.1 = n
    · rw [if_pos z, if_pos (show q.1 = Sum.inr n by rw [h1, z])]
      exact ⟨h1, hv, FsR.mapP hv h3⟩
    · rw [if_neg z, if_neg (show ¬ q.1 = Sum.inr n by rw [h1, inr_eq]; exact z)]
      exact ⟨h1, h2, FsR.mapP hv h3⟩
  | [], _ :: _, h => h.elim
  | _ :: _, [], h => h.elim
theorem put_nd {n : Str} {v : V} : ∀ {kvs : List (Key × V)}, (kvs.map (·.2)).Nodup → (kvs.map (·.1)).Nodup → v ∉ kvs.map (·.2) → ((kvs.map fun kv => if kv.1 = Sum.inr n then (kv.1, v) else kv).map (·.2)).Nodup
  | [], _, _, _ => List.nodup_nil
  | q :: kvs, h1, h2, h3 => by
    rw [List.map_cons, List.nodup_cons] at h1 h2
    have h3' : v ∉ kvs.map (·.2) := fun m => h3 (by rw [List.map_cons]; exact List.mem_cons_of_mem _ m)
    have ih := put_nd (n := n) h1.2 h2.2 h3'
    rw [List.map_cons, List.map_cons, List.nodup_cons]
    by_cases z : q.1 = Sum.inr n
    · have e : (kvs.map fun kv => if kv.1 = Sum.inr n then (kv.1, v) else kv) = kvs.map id := by
        apply List.map_congr_left
        intro p hp
        rw [if_neg (fun y => h2.1 (by rw [z, ← y]; exact List.mem_map_of_mem hp))]
        rfl
      rw [if_pos z, e, List.map_id]
      exact ⟨h3', h1.2⟩
    · rw [if_neg z]
      refine ⟨fun m => ?_, ih⟩
      rw [List.mem_map] at m
      obtain ⟨p, hp, e⟩ := m
      rw [List.mem_map] at hp
      obtain ⟨r, hr, rfl⟩ := hp
      by_cases y : r.1 = Sum.inr n
      · rw [if_pos y] at e
        exact h3 (by rw [List.map_cons, ← e]; exact List.mem_cons_self)
      · rw [if_neg y] at e
        exact h1.1 (by rw [← e]; exact List.mem_map_of_mem hr)
theorem file_lst {H : Hp} : ∀ {fs : List (Str × List Int)} {kvs : List (Key × V)}, FsR H fs kvs → ∀ {b : Addr}, V.ref b ∈ kvs.map (·.2) → ∃ xs, H b = some (.lst xs)
  | [], [], _, b, h => by simp at h
  | p :: fs, q :: kvs, hr, b, hb => by
    obtain ⟨_, ⟨l', e, g⟩, h3⟩ := hr
    rw [List.map_cons, List.mem_cons] at hb
    rcases hb with hb | hb
    · rw [e] at hb
      cases hb
      exact ⟨_, g⟩
    · exact file_lst h3 hb
  | [], _ :: _, h, _, _ => h.elim
  | _ :: _, [], h, _, _ => h.elim
theorem cut_to {xs : List V} {hi : Nat} (h : hi ≤ xs.length) : cutV xs none (some (hi : Int)) = xs.take hi := by
  unfold cutV
  rw [HT.sIx_nat, HT.sIx_none, Nat.min_eq_left h, List.drop_zero, Nat.sub_zero]
section
variable {P : Program} {w : World} {K : PySem.W.Frag} {mg : Str → Option Value} {base : Heap} {C_BadName C_Missing C_There C_Stopped C_BadRow C_BadNumber C_Disk : Addr}
theorem sc_Disk_cut : FnScope ["self", "name", "size"] ["self", "name", "size"] (defScope s_cut) := ⟨rfl, rfl, rfl, by decide +kernel, rfl, by decide +kernel, by decide +kernel⟩
set_option maxHeartbeats 1000000 in
theorem ok_cut {f : Addr} {fd : FuncData} (F : Fun K "cut" "Disk.cut" s_cut f fd) (T : TxtD K mg C_BadName C_Missing C_There C_Stopped C_BadRow C_BadNumber C_Disk) (c_is_number : Callee P w K mg base "is_number" 1 ["thing", "least", "most"] sp_is_number) (m_check_file : Method P w K mg base C_Disk "check_file" 3 ["self", "name"] (sp_check_file C_Disk C_BadName C_Missing)) (m_count_step : Method P w K mg base C_Disk "count_step" 1 ["self"] (sp_count_step C_Disk C_Stopped)) : FnOk P w K mg base (CXE P w) 4 f fd ["self", "name", "size"] (sp_cut C_Disk C_BadName C_Missing C_BadNumber C_Stopped) := by
  refine F.okX sc_Disk_cut (fun vs H Q E h => ?_) (fun cdv A outer s H vs Q E hr h => ?_)
  · obtain ⟨dk, df, kvs, D, v, v2, d, d2, rfl, _⟩ := h
    rfl
  · obtain ⟨dk, df, kvs, D, v, v2, d, d2, rfl, hD, hd, hn, hd2, hfl, qb, q⟩ := h
    refine ⟨_, @pss_cons _ _ _ _ _ (ps_expr (pe_me m_check_file T.cl (hr.mono (by decide)) passS (pv 0) (pa_Name (pv 1) pa_nil))) (@pss_cons _ _ _ _ _ (@ps_if _ _ _ _ _ _ _ _ (@pt_not _ _ _ _ (@pt_val _ _ _ (@pe_fn _ _ _ _ _ _ _ _ _ _ _ c_is_number (hr.mono (by decide)) passN (@pa_Name _ _ _ _ _ _ (@pv _ 2 _ _ (by first | rfl | decide | exact .inl rfl | exact .inr rfl | exact .inr (.inl rfl) | exact .inr (.inr rfl) | (intro _; rfl) | with_unfolding_all rfl) (by first | rfl | decide | exact .inl rfl | exact .inr rfl | exact .inr (.inl rfl) | exact .inr (.inr rfl) | (intro _; rfl) | with_unfolding_all rfl) (by first | rfl | decide | exact .inl rfl | exact .inr rfl | exact .inr (.inl rfl) | exact .inr (.inr rfl) | (intro _; rfl) | with_unfolding_all rfl) (by first | rfl | decide | exact .inl rfl | exact .inr rfl | exact .inr (.inl rfl) | exact .inr (.inr rfl) | (intro _; rfl) | with_unfolding_all rfl)) (@pa_Constant _ _ _ _ _ _ _ (@pe_int _ _ _ _) (@pa_Call _ _ _ _ _ _ _ _ (@pe_callB _ _ _ _ _ _ _ _ _ (call_lenK K) (by rfl) T.n_len bt_len (@pa_Subscript _ _ _ _ _ _ _ (@pe_dget _ _ _ _ _ _ (hu1 hr.units) (@pe_fld _ _ _ _ _ (@pv _ 0 _ _ (by first | rfl | decide | exact .inl rfl | exact .inr rfl | exact .inr (.inl rfl) | exact .inr (.inr rfl) | (intro _; rfl) | with_unfolding_all rfl) (by first | rfl | decide | exact .inl rfl | exact .inr rfl | exact .inr (.inl rfl) | exact .inr (.inr rfl) | (intro _; rfl) | with_unfolding_all rfl) (by first | rfl | decide | exact .inl rfl | exact .inr rfl | exact .inr (.inl rfl) | exact .inr (.inr rfl) | (intro _; rfl) | with_unfolding_all rfl) (by first | rfl | decide | exact .inl rfl | exact .inr rfl | exact .inr (.inl rfl) | exact .inr (.inr rfl) | (intro _; rfl) | with_unfolding_all rfl)) (by rfl)) (@pv _ 1 _ _ (by first | rfl | decide | exact .inl rfl | exact .inr rfl | exact .inr (.inl rfl) | exact .inr (.inr rfl) | (intro _; rfl) | with_unfolding_all rfl) (by first | rfl | decide | exact .inl rfl | exact .inr rfl | exact .inr (.inl rfl) | exact .inr (.inr rfl) | (intro _; rfl) | with_unfolding_all rfl) (by first | rfl | decide | exact .inl rfl | exact .inr rfl | exact .inr (.inl rfl) | exact .inr (.inr rfl) | (intro _; rfl) | with_unfolding_all rfl) (by first | rfl | decide | exact .inl rfl | exact .inr rfl | exact .inr (.inl rfl) | exact .inr (.inr rfl) | (intro _; rfl) | with_unfolding_all rfl)) (fun _ _ => rfl)) (@pa_nil _)) (by first | rfl | decide | exact .inl rfl | exact .inr rfl | exact .inr (.inl rfl) | exact .inr (.inr rfl) | (intro _; rfl) | with_unfolding_all rfl) (by first | rfl | decide | exact .inl rfl | exact .inr rfl | exact .inr (.inl rfl) | exact .inr (.inr rfl) | (intro _; rfl) | with_unfolding_all rfl) (by first | rfl | decide | exact .inl rfl | exact .inr rfl | exact .inr (.inl rfl) | exact .inr (.inr rfl) | (intro _; rfl) | with_unfolding_all rfl) (by first | rfl | decide | exact .inl rfl | exact .inr rfl | exact .inr (.inl rfl) | exact .inr (.inr rfl) | (intro _; rfl) | with_unfolding_all rfl)) (@pa_nil _)))) (by first | rfl | decide | exact .inl rfl | exact .inr rfl | exact .inr (.inl rfl) | exact .inr (.inr rfl) | (intro _; rfl) | with_unfolding_all rfl) (by first | rfl | decide | exact .inl rfl | exact .inr rfl | exact .inr (.inl rfl) | exact .inr (.inr rfl) | (intro _; rfl) | with_unfolding_all rfl) (by first | rfl | decide | exact .inl rfl | exact .inr rfl | exact .inr (.inl rfl) | exact .inr (.inr rfl) | (intro _; rfl) | with_unfolding_all rfl) (by first | rfl | decide | exact .inl rfl | exact .inr rfl | exact .inr (.inl rfl) | exact .inr (.inr rfl) | (intro _; rfl) | with_unfolding_all rfl)) (by first | rfl | decide | exact .inl rfl | exact .inr rfl | exact .inr (.inl rfl) | exact .inr (.inr rfl) | (intro _; rfl) | with_unfolding_all rfl))) (@pss_one _ _ _ (@ps_raise _ _ _ _ _ _ _ _ _ _ raisesB (by rfl) T.x_BadNumber (by rfl) T.m_BadNumber (@pa_Constant _ _ _ _ _ _ _ (@pe_str _ _ _ _) (@pa_nil _)) (by first | rfl | decide | exact .inl rfl | exact .inr rfl | exact .inr (.inl rfl) | exact .inr (.inr rfl) | (intro _; rfl) | with_unfolding_all rfl) (by first | rfl | decide | exact .inl rfl | exact .inr rfl | exact .inr (.inl rfl) | exact .inr (.inr rfl) | (intro _; rfl) | with_unfolding_all rfl) (by first | rfl | decide | exact .inl rfl | exact .inr rfl | exact .inr (.inl rfl) | exact .inr (.inr rfl) | (intro _; rfl) | with_unfolding_all rfl))) (@pss_nil _)) (@pss_cons _ _ _ _ _ (ps_expr (pe_me0 m_count_step T.cl (hr.mono (by decide)) passS (pv 0))) (@pss_one _ _ _ (@ps_dput _ _ _ _ _ _ _ _ _ (hu1 hr.units) (@pe_fld _ _ _ _ _ (@pv _ 0 _ _ (by first | rfl | decide | exact .inl rfl | exact .inr rfl | exact .inr (.inl rfl) | exact .inr (.inr rfl) | (intro _; rfl) | with_unfolding_all rfl) (by first | rfl | decide | exact .inl rfl | exact .inr rfl | exact .inr (.inl rfl) | exact .inr (.inr rfl) | (intro _; rfl) | with_unfolding_all rfl) (by first | rfl | decide | exact .inl rfl | exact .inr rfl | exact .inr (.inl rfl) | exact .inr (.inr rfl) | (intro _; rfl) | with_unfolding_all rfl) (by first | rfl | decide | exact .inl rfl | exact .inr rfl | exact .inr (.inl rfl) | exact .inr (.inr rfl) | (intro _; rfl) | with_unfolding_all rfl)) (by rfl)) (@pv _ 1 _ _ (by first | rfl | decide | exact .inl rfl | exact .inr rfl | exact .inr (.inl rfl) | exact .inr (.inr rfl) | (intro _; rfl) | with_unfolding_all rfl) (by first | rfl | decide | exact .inl rfl | exact .inr rfl | exact .inr (.inl rfl) | exact .inr (.inr rfl) | (intro _; rfl) | with_unfolding_all rfl) (by first | rfl | decide | exact .inl rfl | exact .inr rfl | exact .inr (.inl rfl) | exact .inr (.inr rfl) | (intro _; rfl) | with_unfolding_all rfl) (by first | rfl | decide | exact .inl rfl | exact .inr rfl | exact .inr (.inl rfl) | exact .inr (.inr rfl) | (intro _; rfl) | with_unfolding_all rfl)) (@pe_slice _ _ _ _ _ _ _ _ _ _ (sl_listK K) (@pe_dget _ _ _ _ _ _ (hu1 hr.units) (@pe_fld _ _ _ _ _ (@pv _ 0 _ _ (by first | rfl | decide | exact .inl rfl | exact .inr rfl | exact .inr (.inl rfl) | exact .inr (.inr rfl) | (intro _; rfl) | with_unfolding_all rfl) (by first | rfl | decide | exact .inl rfl | exact .inr rfl | exact .inr (.inl rfl) | exact .inr (.inr rfl) | (intro _; rfl) | with_unfolding_all rfl) (by first | rfl | decide | exact .inl rfl | exact .inr rfl | exact .inr (.inl rfl) | exact .inr (.inr rfl) | (intro _; rfl) | with_unfolding_all rfl) (by first | rfl | decide | exact .inl rfl | exact .inr rfl | exact .inr (.inl rfl) | exact .inr (.inr rfl) | (intro _; rfl) | with_unfolding_all rfl)) (by rfl)) (@pv _ 1 _ _ (by first | rfl | decide | exact .inl rfl | exact .inr rfl | exact .inr (.inl rfl) | exact .inr (.inr rfl) | (intro _; rfl) | with_unfolding_all rfl) (by first | rfl | decide | exact .inl rfl | exact .inr rfl | exact .inr (.inl rfl) | exact .inr (.inr rfl) | (intro _; rfl) | with_unfolding_all rfl) (by first | rfl | decide | exact .inl rfl | exact .inr rfl | exact .inr (.inl rfl) | exact .inr (.inr rfl) | (intro _; rfl) | with_unfolding_all rfl) (by first | rfl | decide | exact .inl rfl | exact .inr rfl | exact .inr (.inl rfl) | exact .inr (.inr rfl) | (intro _; rfl) | with_unfolding_all rfl)) (fun _ _ => rfl)) (@po_none _) (@po_some _ _ _ (@pv _ 2 _ _ (by first | rfl | decide | exact .inl rfl | exact .inr rfl | exact .inr (.inl rfl) | exact .inr (.inr rfl) | (intro _; rfl) | with_unfolding_all rfl) (by first | rfl | decide | exact .inl rfl | exact .inr rfl | exact .inr (.inl rfl) | exact .inr (.inr rfl) | (intro _; rfl) | with_unfolding_all rfl) (by first | rfl | decide | exact .inl rfl | exact .inr rfl | exact .inr (.inl rfl) | exact .inr (.inr rfl) | (intro _; rfl) | with_unfolding_all rfl) (by first | rfl | decide | exact .inl rfl | exact .inr rfl | exact .inr (.inl rfl) | exact .inr (.inr rfl) | (intro _; rfl) | with_unfolding_all rfl)))) (by rfl))))), ?_⟩
    obtain ⟨dx, h1⟩ := hD.self
    refine ⟨_, rfl, dk, dx, _, rfl, h1, rfl, _, rfl, dk, df, kvs, D, v, d, rfl, hD, hd, hn, qb, fun n en hw => ?_⟩
    obtain ⟨qm, q2⟩ := q n en hw
    subst en
    have ev : v = .str n := by simpa only [Den] using hd
    subst ev
    refine ⟨qm, fun bs hbs H1 S1 => ?_⟩
    obtain ⟨qr, q3⟩ := q2 bs hbs
    have hD1 := hD.same S1
    have hv := hD1.rel.val (n := n)
    rw [hbs] at hv
    obtain ⟨v1, hv1, l, rfl, gl⟩ := hv
    have dg : DGet H1 df (.str n) (some (.ref l)) := by
      have := DGet.k (k := Sum.inr n) hD1.files
      rw [hv1] at this
      exact this
    refine ⟨_, rfl, _, rfl, dk, _, dx, _, _, rfl, S1 _ _ h1, T.cl, T.f_files, rfl, _, rfl, df, _, rfl, dg, l, _, rfl, .inl (SqL.of gl), v2, d2, 0, _, rfl, hd2.same S1, _, rfl, ?_⟩
    rw [List.length_map]
    cases hb : isNum 0 bs.length d2 with
    | false => exact iteT ⟨(by show 1 ≤ sizeLine; decide), qr hb H1 S1⟩
    | true =>
    refine iteF ?_
    refine go_next rfl ?_
    obtain ⟨qs, q4⟩ := q3 hb
    obtain ⟨k, ek, rfl, kb⟩ : ∃ k : Nat, d2 = .int (k : Int) ∧ v2 = .int (k : Int) ∧ k ≤ bs.length := by
      cases d2 with
      | int i =>
        simp only [isNum, Bool.and_eq_true, decide_eq_true_eq] at hb
        obtain ⟨k, rfl⟩ := Int.eq_ofNat_of_zero_le hb.1
        exact ⟨k, rfl, by simpa only [Den] using hd2, by omega⟩
      | _ => exact absurd hb (by simp [isNum])
    subst ek
    refine ⟨_, rfl, dk, dx, _, rfl, S1 _ _ h1, rfl, dk, df, kvs, D, rfl, hD1, fun D1 hs H2 f2 hD2 => ?_, fun hs => qs hs H1 S1⟩
    obtain ⟨dx2, h12⟩ := hD2.self
    obtain ⟨o1, o2, o3⟩ := own_self hD2
    have hlm := val_mem hv1
    have gl2 : H2 l = some (.lst (bs.map V.int)) := f2 _ _ gl (fun z => by rw [z] at hlm; exact o2 hlm)
    have dg2 : DGet H2 df (.str n) (some (.ref l)) := by
      have := DGet.k (k := Sum.inr n) hD2.files
      rw [hv1] at this
      exact this
    refine ⟨_, rfl, dk, _, dx2, _, _, rfl, h12, T.cl, T.f_files, rfl, _, rfl, df, _, rfl, dg2, _, rfl, _, rfl, l, _, rfl, SqL.of gl2, fun l3 hl3 => ?_⟩
    rw [cut_to (by rw [List.length_map]; exact kb), ← List.map_take]
    have S3 := same_upd (o := .lst ((bs.take k).map V.int)) hl3
    generalize eH3 : upd H2 l3 (.lst ((bs.take k).map V.int)) = H3 at S3 ⊢
    have g3 : H3 l3 = some (.lst ((bs.take k).map V.int)) := by rw [← eH3]; exact upd_same
    have hD3 := hD2.same S3
    obtain ⟨dx3, h13⟩ := hD3.self
    have hkl : kvs.length < sizeLine := by rw [hD.rel.len]; exact Nat.lt_trans hfl (by decide)
    refine ⟨_, rfl, dk, _, dx3, _, _, rfl, h13, T.cl, T.f_files, rfl, _, rfl, df, _, rfl, DPut.k (k := Sum.inr n) hD3.files hkl, ?_⟩
    have epk : putK kvs (Sum.inr n) (V.ref l3) = kvs.map fun kv => if kv.1 = Sum.inr n then (kv.1, V.ref l3) else kv := by
      unfold putK
      rw [if_pos (by rw [valV_any, hv1]; rfl)]
    rw [epk]
    have nlm : V.ref l3 ∉ kvs.map (·.2) := fun hm => by
      obtain ⟨xs, e⟩ := file_lst hD2.rel hm
      rw [hl3] at e
      cases e
    have ldf : l3 ≠ df := fun z => by rw [z, hD2.files] at hl3; cases hl3
    have ldk : l3 ≠ dk := fun z => by rw [z, h12] at hl3; cases hl3
    have hl0 : H l3 = none := by
      cases e : H l3 with
      | none => rfl
      | some o =>
        rw [f2 l3 o (S1 _ _ e) ldk] at hl3
        cases hl3
    refine q4 D1 hs _ _ (fun b o e nb => ?_) (fun b hb' => ?_) ⟨⟨dx3, by rw [upd_ne o1]; exact h13⟩, upd_same, ?_, ?_, ?_⟩
    · rw [upd_ne (fun z => nb (.inr (.inl z)))]
      exact S3 _ _ (f2 b o (S1 _ _ e) (fun z => nb (.inl z)))
    · rcases hb' with hb' | hb' | hb'
      · exact .inl (.inl hb')
      · exact .inl (.inr (.inl hb'))
      · rw [List.mem_map] at hb'
        obtain ⟨p, hp, e⟩ := hb'
        rw [List.mem_map] at hp
        obtain ⟨r, hr', rfl⟩ := hp
        by_cases y : r.1 = Sum.inr n
        · rw [if_pos y] at e
          have : l3 = b := V.ref.inj e
          rw [← this]
          exact .inr hl0
        · rw [if_neg y] at e
          exact .inl (.inr (.inr (by rw [← e]; exact List.mem_map_of_mem hr')))
    · have base3 : FsR (upd H3 df (.dK (kvs.map fun kv => if kv.1 = Sum.inr n then (kv.1, V.ref l3) else kv))) D1.fs kvs := hD3.rel.same fun b o e m => by
        rw [upd_ne (fun z => by rw [z] at m; exact o3 m)]
        exact e
      exact base3.mapP ⟨l3, rfl, by rw [upd_ne ldf]; exact g3⟩
    · refine put_nd hD.nd ?_ nlm
      rw [hD.rel.keys]
      exact List.Pairwise.map Sum.inr (fun a b h e => h (Sum.inr.inj e)) hD.kn
    · show ((setA D1.fs n (bs.take k)).map (·.1)).Nodup
      rw [setA_keys]
      exact hD2.kn
end
end Qh
end
section
set_option Elab.async false
set_option linter.all false
set_option maxRecDepth 100000
namespace Qh
open PySem L2
abbrev s_on_disk : Stmt := top 27
abbrev s_caught : Stmt := top 31
def nameOf : PyData → Str
  | .str n => n
  | _ => ""
/-- a deed: what is raised, and the disk behind it -/
def deedF (D : Dk) (word : Str) (d d2 : PyData) : Option Str × Dk :=
  if wordD signs36 8 d = false then (some "name", D)
  else match lookF D.fs (nameOf d) with
  | none => if word = "make" then (match stepF D with
      | none => (some "stopped", D)
      | some D1 => (none, ⟨D1.fs ++ [(nameOf d, [])], D1.done, D1.left⟩)) else (some "missing", D)
  | some bs => if word = "make" then (some "there", D)
    else if word = "add" then (if isByt d2 = false then (some "row", D) else (if (addG (nameOf d) D (intsOf d2)).2 = true then none else some "stopped", (addG (nameOf d) D (intsOf d2)).1))
    else if word = "cut" then (if isNum 0 bs.length d2 = false then (some "number", D) else match stepF D with
      | none => (some "stopped", D)
      | some D1 => (none, ⟨setA D1.fs (nameOf d) (bs.take (sizeOf' d2)), D1.done, D1.left⟩))
    else match stepF D with
      | none => (some "stopped", D)
      | some D1 => (none, ⟨dropA D1.fs (nameOf d), D1.done, D1.left⟩)
def sp_on_disk (C : Addr) (cls : Str → Addr) : Sp := fun vs H Q E => ∃ (dk df pd : Addr) (kvs : List (Key × V)) (D : Dk) (word : Str) (v v2 : V) (d d2 : PyData), vs = [.ref dk, .ref pd] ∧ DiskAt C H dk df kvs D ∧ H pd = some (.tup [.str word, v, v2]) ∧ Den H d v ∧ nameOk d ∧ Den H d2 v2 ∧ D.fs.length < 1000 ∧ (∀ bs, d2 = .tuple bs → bs.length ≤ 100000) ∧ (∀ n bs, lookF D.fs n = some bs → bs.length ≤ 100000) ∧
  ∀ kvs' H', FrmD dk df kvs H H' → Grow dk df kvs kvs' H → DiskAt C H' dk df kvs' (deedF D word d d2).2 → (∀ c, (deedF D word d d2).1 = some c → c ≠ "stopped" → Same H H') → (∀ c, (deedF D word d d2).1 = some c → E (.ref (cls c)) none H') ∧ ((deedF D word d d2).1 = none → Q .non H')
def sp_caught (C : Addr) : Sp := fun vs H Q _ => ∃ (dk df pd : Addr) (kvs : List (Key × V)) (D : Dk) (word : Str) (v v2 : V) (d d2 : PyData), vs = [.ref dk, .ref pd] ∧ DiskAt C H dk df kvs D ∧ H pd = some (.tup [.str word, v, v2]) ∧ Den H d v ∧ nameOk d ∧ Den H d2 v2 ∧ D.fs.length < 1000 ∧ (∀ bs, d2 = .tuple bs → bs.length ≤ 100000) ∧ (∀ n bs, lookF D.fs n = some bs → bs.length ≤ 100000) ∧
  ∀ kvs' H', FrmD dk df kvs H H' → Grow dk df kvs kvs' H → DiskAt C H' dk df kvs' (deedF D word d d2).2 → (∀ c, (deedF D word d d2).1 = some c → c ≠ "stopped" → Same H H') → Q (.str ((deedF D word d d2).1.getD "")) H'
theorem Same.frmD {dk df : Addr} {kvs : List (Key × V)} {H H' : Hp} (s : Same H H') : FrmD dk df kvs H H' := fun b o e _ => s b o e
theorem grow_refl {dk df : Addr} {kvs : List (Key × V)} {H : Hp} : Grow dk df kvs kvs H := fun b h => .inl h
theorem dstr_eq' {k x : Str} (h : k = x) : decide (V.str k = V.str x) = true := decide_eq_true (by rw [h])
theorem dstr_ne' {k x : Str} (h : ¬ k = x) : decide (V.str k = V.str x) = false := decide_eq_false (fun z => h (V.str.inj z))
def clsF (C_BadName C_Missing C_There C_Stopped C_BadRow C_BadNumber : Addr) (c : Str) : Addr :=
  if c = "name" then C_BadName else if c = "missing" then C_Missing else if c = "there" then C_There else if c = "number" then C_BadNumber else if c = "row" then C_BadRow else C_Stopped
section
variable {P : Program} {w : World} {K : PySem.W.Frag} {mg : Str → Option Value} {base : Heap} {C_BadName C_Missing C_There C_Stopped C_BadRow C_BadNumber C_Disk : Addr}
theorem sc__law_on_disk : FnScope ["_law_disk", "_law_deed", "_law_word", "_law_name", "_law_more"] ["_law_disk", "_law_deed"] (defScope s_on_disk) := ⟨rfl, rfl, rfl, by decide +kernel, rfl, by decide +kernel, by decide +kernel⟩
set_option maxHeartbeats 1000000 in
theorem ok_on_disk {f : Addr} {fd : FuncData} (F : Fun K "_law_on_disk" "_law_on_disk" s_on_disk f fd) (T : TxtD K mg C_BadName C_Missing C_There C_Stopped C_BadRow C_BadNumber C_Disk) (m_make : Method P w K mg base C_Disk "make" 3 ["self", "name"] (sp_make C_Disk C_BadName C_There C_Stopped)) (m_add : Method P w K mg base C_Disk "add" 4 ["self", "name", "some"] (sp_add C_Disk C_BadName C_Missing C_BadRow C_Stopped))
    (m_cut : Method P w K mg base C_Disk "cut" 4 ["self", "name", "size"] (sp_cut C_Disk C_BadName C_Missing C_BadNumber C_Stopped)) (m_drop : Method P w K mg base C_Disk "drop" 4 ["self", "name"] (sp_drop C_Disk C_BadName C_Missing C_Stopped)) : FnOk P w K mg base (CXE P w) 5 f fd ["_law_disk", "_law_deed"] (sp_on_disk C_Disk (clsF C_BadName C_Missing C_There C_Stopped C_BadRow C_BadNumber)) := by
  refine F.okX sc__law_on_disk (fun vs H Q E h => ?_) (fun cdv A outer s H vs Q E hr h => ?_)
  · obtain ⟨dk, df, pd, kvs, D, word, v, v2, d, d2, rfl, _⟩ := h
    rfl
  · obtain ⟨dk, df, pd, kvs, D, word, v, v2, d, d2, rfl, hD, hp, hd, hn, hd2, hfl, hz2, hzf, q⟩ := h
    refine ⟨_, @pss_cons _ _ _ _ _ (@ps_asg _ _ _ _ _ _ (@pv _ 1 _ _ (by first | rfl | decide | exact .inl rfl | exact .inr rfl | exact .inr (.inl rfl) | exact .inr (.inr rfl) | (intro _; rfl) | with_unfolding_all rfl) (by first | rfl | decide | exact .inl rfl | exact .inr rfl | exact .inr (.inl rfl) | exact .inr (.inr rfl) | (intro _; rfl) | with_unfolding_all rfl) (by first | rfl | decide | exact .inl rfl | exact .inr rfl | exact .inr (.inl rfl) | exact .inr (.inr rfl) | (intro _; rfl) | with_unfolding_all rfl) (by first | rfl | decide | exact .inl rfl | exact .inr rfl | exact .inr (.inl rfl) | exact .inr (.inr rfl) | (intro _; rfl) | with_unfolding_all rfl)) (@pg_tupK _ K _ _ _ (3) _ (@pgs_cons _ _ _ _ _ (@pg_name _ _ (2) _ sc__law_on_disk.nd (by rfl) (by first | exact Or.inl (by rfl) | exact Or.inr (by rfl)) (by first | rfl | decide | exact .inl rfl | exact .inr rfl | exact .inr (.inl rfl) | exact .inr (.inr rfl) | (intro _; rfl) | with_unfolding_all rfl)) (@pgs_cons _ _ _ _ _ (@pg_name _ _ (3) _ sc__law_on_disk.nd (by rfl) (by first | exact Or.inl (by rfl) | exact Or.inr (by rfl)) (by first | rfl | decide | exact .inl rfl | exact .inr rfl | exact .inr (.inl rfl) | exact .inr (.inr rfl) | (intro _; rfl) | with_unfolding_all rfl)) (@pgs_cons _ _ _ _ _ (@pg_name _ _ (4) _ sc__law_on_disk.nd (by rfl) (by first | exact Or.inl (by rfl) | exact Or.inr (by rfl)) (by first | rfl | decide | exact .inl rfl | exact .inr rfl | exact .inr (.inl rfl) | exact .inr (.inr rfl) | (intro _; rfl) | with_unfolding_all rfl)) (@pgs_nil _) (by first | rfl | decide | exact .inl rfl | exact .inr rfl | exact .inr (.inl rfl) | exact .inr (.inr rfl) | (intro _; rfl) | with_unfolding_all rfl)) (by first | rfl | decide | exact .inl rfl | exact .inr rfl | exact .inr (.inl rfl) | exact .inr (.inr rfl) | (intro _; rfl) | with_unfolding_all rfl)) (by first | rfl | decide | exact .inl rfl | exact .inr rfl | exact .inr (.inl rfl) | exact .inr (.inr rfl) | (intro _; rfl) | with_unfolding_all rfl)) (by first | rfl | decide | exact .inl rfl | exact .inr rfl | exact .inr (.inl rfl) | exact .inr (.inr rfl) | (intro _; rfl) | with_unfolding_all rfl) (by first | rfl | decide | exact .inl rfl | exact .inr rfl | exact .inr (.inl rfl) | exact .inr (.inr rfl) | (intro _; rfl) | with_unfolding_all rfl) (by first | rfl | decide | exact .inl rfl | exact .inr rfl | exact .inr (.inl rfl) | exact .inr (.inr rfl) | (intro _; rfl) | with_unfolding_all rfl) (by first | rfl | decide | exact .inl rfl | exact .inr rfl | exact .inr (.inl rfl) | exact .inr (.inr rfl) | (intro _; rfl) | with_unfolding_all rfl)) (by first | rfl | decide | exact .inl rfl | exact .inr rfl | exact .inr (.inl rfl) | exact .inr (.inr rfl) | (intro _; rfl) | with_unfolding_all rfl) (by first | rfl | decide | exact .inl rfl | exact .inr rfl | exact .inr (.inl rfl) | exact .inr (.inr rfl) | (intro _; rfl) | with_unfolding_all rfl) (by first | rfl | decide | exact .inl rfl | exact .inr rfl | exact .inr (.inl rfl) | exact .inr (.inr rfl) | (intro _; rfl) | with_unfolding_all rfl)) (@pss_cons _ _ _ _ _ (@ps_if _ _ _ _ _ _ _ _ (@pt_cmpR _ _ _ _ _ _ _ _ op_eq (@pv _ 2 _ _ (by first | rfl | decide | exact .inl rfl | exact .inr rfl | exact .inr (.inl rfl) | exact .inr (.inr rfl) | (intro _; rfl) | with_unfolding_all rfl) (by first | rfl | decide | exact .inl rfl | exact .inr rfl | exact .inr (.inl rfl) | exact .inr (.inr rfl) | (intro _; rfl) | with_unfolding_all rfl) (by first | rfl | decide | exact .inl rfl | exact .inr rfl | exact .inr (.inl rfl) | exact .inr (.inr rfl) | (intro _; rfl) | with_unfolding_all rfl) (by first | rfl | decide | exact .inl rfl | exact .inr rfl | exact .inr (.inl rfl) | exact .inr (.inr rfl) | (intro _; rfl) | with_unfolding_all rfl)) (@pe_str _ _ _ _) (nomark _)) (@pss_one _ _ _ (@ps_ret _ _ _ _ (@pe_me _ _ _ _ _ _ _ _ _ _ _ _ _ _ _ m_make T.cl (hr.mono (by decide)) passS (@pv _ 0 _ _ (by first | rfl | decide | exact .inl rfl | exact .inr rfl | exact .inr (.inl rfl) | exact .inr (.inr rfl) | (intro _; rfl) | with_unfolding_all rfl) (by first | rfl | decide | exact .inl rfl | exact .inr rfl | exact .inr (.inl rfl) | exact .inr (.inr rfl) | (intro _; rfl) | with_unfolding_all rfl) (by first | rfl | decide | exact .inl rfl | exact .inr rfl | exact .inr (.inl rfl) | exact .inr (.inr rfl) | (intro _; rfl) | with_unfolding_all rfl) (by first | rfl | decide | exact .inl rfl | exact .inr rfl | exact .inr (.inl rfl) | exact .inr (.inr rfl) | (intro _; rfl) | with_unfolding_all rfl)) (@pa_Name _ _ _ _ _ _ (@pv _ 3 _ _ (by first | rfl | decide | exact .inl rfl | exact .inr rfl | exact .inr (.inl rfl) | exact .inr (.inr rfl) | (intro _; rfl) | with_unfolding_all rfl) (by first | rfl | decide | exact .inl rfl | exact .inr rfl | exact .inr (.inl rfl) | exact .inr (.inr rfl) | (intro _; rfl) | with_unfolding_all rfl) (by first | rfl | decide | exact .inl rfl | exact .inr rfl | exact .inr (.inl rfl) | exact .inr (.inr rfl) | (intro _; rfl) | with_unfolding_all rfl) (by first | rfl | decide | exact .inl rfl | exact .inr rfl | exact .inr (.inl rfl) | exact .inr (.inr rfl) | (intro _; rfl) | with_unfolding_all rfl)) (@pa_nil _)) (by first | rfl | decide | exact .inl rfl | exact .inr rfl | exact .inr (.inl rfl) | exact .inr (.inr rfl) | (intro _; rfl) | with_unfolding_all rfl) (by first | rfl | decide | exact .inl rfl | exact .inr rfl | exact .inr (.inl rfl) | exact .inr (.inr rfl) | (intro _; rfl) | with_unfolding_all rfl) (by first | rfl | decide | exact .inl rfl | exact .inr rfl | exact .inr (.inl rfl) | exact .inr (.inr rfl) | (intro _; rfl) | with_unfolding_all rfl)))) (@pss_nil _)) (@pss_cons _ _ _ _ _ (@ps_if _ _ _ _ _ _ _ _ (@pt_cmpR _ _ _ _ _ _ _ _ op_eq (@pv _ 2 _ _ (by first | rfl | decide | exact .inl rfl | exact .inr rfl | exact .inr (.inl rfl) | exact .inr (.inr rfl) | (intro _; rfl) | with_unfolding_all rfl) (by first | rfl | decide | exact .inl rfl | exact .inr rfl | exact .inr (.inl rfl) | exact .inr (.inr rfl) | (intro _; rfl) | with_unfolding_all rfl) (by first | rfl | decide | exact .inl rfl | exact .inr rfl | exact .inr (.inl rfl) | exact .inr (.inr rfl) | (intro _; rfl) | with_unfolding_all rfl) (by first | rfl | decide | exact .inl rfl | exact .inr rfl | exact .inr (.inl rfl) | exact .inr (.inr rfl) | (intro _; rfl) | with_unfolding_all rfl)) (@pe_str _ _ _ _) (nomark _)) (@pss_one _ _ _ (@ps_ret _ _ _ _ (@pe_me _ _ _ _ _ _ _ _ _ _ _ _ _ _ _ m_add T.cl (hr.mono (by decide)) passS (@pv _ 0 _ _ (by first | rfl | decide | exact .inl rfl | exact .inr rfl | exact .inr (.inl rfl) | exact .inr (.inr rfl) | (intro _; rfl) | with_unfolding_all rfl) (by first | rfl | decide | exact .inl rfl | exact .inr rfl | exact .inr (.inl rfl) | exact .inr (.inr rfl) | (intro _; rfl) | with_unfolding_all rfl) (by first | rfl | decide | exact .inl rfl | exact .inr rfl | exact .inr (.inl rfl) | exact .inr (.inr rfl) | (intro _; rfl) | with_unfolding_all rfl) (by first | rfl | decide | exact .inl rfl | exact .inr rfl | exact .inr (.inl rfl) | exact .inr (.inr rfl) | (intro _; rfl) | with_unfolding_all rfl)) (@pa_Name _ _ _ _ _ _ (@pv _ 3 _ _ (by first | rfl | decide | exact .inl rfl | exact .inr rfl | exact .inr (.inl rfl) | exact .inr (.inr rfl) | (intro _; rfl) | with_unfolding_all rfl) (by first | rfl | decide | exact .inl rfl | exact .inr rfl | exact .inr (.inl rfl) | exact .inr (.inr rfl) | (intro _; rfl) | with_unfolding_all rfl) (by first | rfl | decide | exact .inl rfl | exact .inr rfl | exact .inr (.inl rfl) | exact .inr (.inr rfl) | (intro _; rfl) | with_unfolding_all rfl) (by first | rfl | decide | exact .inl rfl | exact .inr rfl | exact .inr (.inl rfl) | exact .inr (.inr rfl) | (intro _; rfl) | with_unfolding_all rfl)) (@pa_Name _ _ _ _ _ _ (@pv _ 4 _ _ (by first | rfl | decide | exact .inl rfl | exact .inr rfl | exact .inr (.inl rfl) | exact .inr (.inr rfl) | (intro _; rfl) | with_unfolding_all rfl) (by first | rfl | decide | exact .inl rfl | exact .inr rfl | exact .inr (.inl rfl) | exact .inr (.inr rfl) | (intro _; rfl) | with_unfolding_all rfl) (by first | rfl | decide | exact .inl rfl | exact .inr rfl | exact .inr (.inl rfl) | exact .inr (.inr rfl) | (intro _; rfl) | with_unfolding_all rfl) (by first | rfl | decide | exact .inl rfl | exact .inr rfl | exact .inr (.inl rfl) | exact .inr (.inr rfl) | (intro _; rfl) | with_unfolding_all rfl)) (@pa_nil _))) (by first | rfl | decide | exact .inl rfl | exact .inr rfl | exact .inr (.inl rfl) | exact .inr (.inr rfl) | (intro _; rfl) | with_unfolding_all rfl) (by first | rfl | decide | exact .inl rfl | exact .inr rfl | exact .inr (.inl rfl) | exact .inr (.inr rfl) | (intro _; rfl) | with_unfolding_all rfl) (by first | rfl | decide | exact .inl rfl | exact .inr rfl | exact .inr (.inl rfl) | exact .inr (.inr rfl) | (intro _; rfl) | with_unfolding_all rfl)))) (@pss_nil _)) (@pss_one _ _ _ (@ps_ret _ _ _ _ (@pe_ifExp _ _ _ _ _ _ _ _ (@pt_cmpR _ _ _ _ _ _ _ _ op_eq (@pv _ 2 _ _ (by first | rfl | decide | exact .inl rfl | exact .inr rfl | exact .inr (.inl rfl) | exact .inr (.inr rfl) | (intro _; rfl) | with_unfolding_all rfl) (by first | rfl | decide | exact .inl rfl | exact .inr rfl | exact .inr (.inl rfl) | exact .inr (.inr rfl) | (intro _; rfl) | with_unfolding_all rfl) (by first | rfl | decide | exact .inl rfl | exact .inr rfl | exact .inr (.inl rfl) | exact .inr (.inr rfl) | (intro _; rfl) | with_unfolding_all rfl) (by first | rfl | decide | exact .inl rfl | exact .inr rfl | exact .inr (.inl rfl) | exact .inr (.inr rfl) | (intro _; rfl) | with_unfolding_all rfl)) (@pe_str _ _ _ _) (nomark _)) (@pe_me _ _ _ _ _ _ _ _ _ _ _ _ _ _ _ m_cut T.cl (hr.mono (by decide)) passS (@pv _ 0 _ _ (by first | rfl | decide | exact .inl rfl | exact .inr rfl | exact .inr (.inl rfl) | exact .inr (.inr rfl) | (intro _; rfl) | with_unfolding_all rfl) (by first | rfl | decide | exact .inl rfl | exact .inr rfl | exact .inr (.inl rfl) | exact .inr (.inr rfl) | (intro _; rfl) | with_unfolding_all rfl) (by first | rfl | decide | exact .inl rfl | exact .inr rfl | exact .inr (.inl rfl) | exact .inr (.inr rfl) | (intro _; rfl) | with_unfolding_all rfl) (by first | rfl | decide | exact .inl rfl | exact .inr rfl | exact .inr (.inl rfl) | exact .inr (.inr rfl) | (intro _; rfl) | with_unfolding_all rfl)) (@pa_Name _ _ _ _ _ _ (@pv _ 3 _ _ (by first | rfl | decide | exact .inl rfl | exact .inr rfl | exact .inr (.inl rfl) | exact .inr (.inr rfl) | (intro _; rfl) | with_unfolding_all rfl) (by first | rfl | decide | exact .inl rfl | exact .inr rfl | exact .inr (.inl rfl) | exact .inr (.inr rfl) | (intro _; rfl) | with_unfolding_all rfl) (by first | rfl | decide | exact .inl rfl | exact .inr rfl | exact .inr (.inl rfl) | exact .inr (.inr rfl) | (intro _; rfl) | with_unfolding_all rfl) (by first | rfl | decide | exact .inl rfl | exact .inr rfl | exact .inr (.inl rfl) | exact .inr (.inr rfl) | (intro _; rfl) | with_unfolding_all rfl)) (@pa_Name _ _ _ _ _ _ (@pv _ 4 _ _ (by first | rfl | decide | exact .inl rfl | exact .inr rfl | exact .inr (.inl rfl) | exact .inr (.inr rfl) | (intro _; rfl) | with_unfolding_all rfl) (by first | rfl | decide | exact .inl rfl | exact .inr rfl | exact .inr (.inl rfl) | exact .inr (.inr rfl) | (intro _; rfl) | with_unfolding_all rfl) (by first | rfl | decide | exact .inl rfl | exact .inr rfl | exact .inr (.inl rfl) | exact .inr (.inr rfl) | (intro _; rfl) | with_unfolding_all rfl) (by first | rfl | decide | exact .inl rfl | exact .inr rfl | exact .inr (.inl rfl) | exact .inr (.inr rfl) | (intro _; rfl) | with_unfolding_all rfl)) (@pa_nil _))) (by first | rfl | decide | exact .inl rfl | exact .inr rfl | exact .inr (.inl rfl) | exact .inr (.inr rfl) | (intro _; rfl) | with_unfolding_all rfl) (by first | rfl | decide | exact .inl rfl | exact .inr rfl | exact .inr (.inl rfl) | exact .inr (.inr rfl) | (intro _; rfl) | with_unfolding_all rfl) (by first | rfl | decide | exact .inl rfl | exact .inr rfl | exact .inr (.inl rfl) | exact .inr (.inr rfl) | (intro _; rfl) | with_unfolding_all rfl)) (@pe_me _ _ _ _ _ _ _ _ _ _ _ _ _ _ _ m_drop T.cl (hr.mono (by decide)) passS (@pv _ 0 _ _ (by first | rfl | decide | exact .inl rfl | exact .inr rfl | exact .inr (.inl rfl) | exact .inr (.inr rfl) | (intro _; rfl) | with_unfolding_all rfl) (by first | rfl | decide | exact .inl rfl | exact .inr rfl | exact .inr (.inl rfl) | exact .inr (.inr rfl) | (intro _; rfl) | with_unfolding_all rfl) (by first | rfl | decide | exact .inl rfl | exact .inr rfl | exact .inr (.inl rfl) | exact .inr (.inr rfl) | (intro _; rfl) | with_unfolding_all rfl) (by first | rfl | decide | exact .inl rfl | exact .inr rfl | exact .inr (.inl rfl) | exact .inr (.inr rfl) | (intro _; rfl) | with_unfolding_all rfl)) (@pa_Name _ _ _ _ _ _ (@pv _ 3 _ _ (by first | rfl | decide | exact .inl rfl | exact .inr rfl | exact .inr (.inl rfl) | exact .inr (.inr rfl) | (intro _; rfl) | with_unfolding_all rfl) (by first | rfl | decide | exact .inl rfl | exact .inr rfl | exact .inr (.inl rfl) | exact .inr (.inr rfl) | (intro _; rfl) | with_unfolding_all rfl) (by first | rfl | decide | exact .inl rfl | exact .inr rfl | exact .inr (.inl rfl) | exact .inr (.inr rfl) | (intro _; rfl) | with_unfolding_all rfl) (by first | rfl | decide | exact .inl rfl | exact .inr rfl | exact .inr (.inl rfl) | exact .inr (.inr rfl) | (intro _; rfl) | with_unfolding_all rfl)) (@pa_nil _)) (by first | rfl | decide | exact .inl rfl | exact .inr rfl | exact .inr (.inl rfl) | exact .inr (.inr rfl) | (intro _; rfl) | with_unfolding_all rfl) (by first | rfl | decide | exact .inl rfl | exact .inr rfl | exact .inr (.inl rfl) | exact .inr (.inr rfl) | (intro _; rfl) | with_unfolding_all rfl) (by first | rfl | decide | exact .inl rfl | exact .inr rfl | exact .inr (.inl rfl) | exact .inr (.inr rfl) | (intro _; rfl) | with_unfolding_all rfl))))))), ?_⟩
    obtain ⟨dx, h1⟩ := hD.self
    have un : ∀ c, deedF D word d d2 = (some c, D) → ∀ H', Same H H' → E (.ref (clsF C_BadName C_Missing C_There C_Stopped C_BadRow C_BadNumber c)) none H' := fun c e H' S => by
      have := q kvs H' (Same.frmD S) grow_refl (by rw [e]; exact hD.same S) (fun _ _ _ => S)
      rw [e] at this
      exact this.1 c rfl
    refine ⟨_, rfl, pd, _, rfl, SqT.of hp, rfl, _, _, rfl, _, _, rfl, _, _, rfl, rfl, ?_⟩
    refine ⟨_, rfl, rfl, _, rfl, ?_⟩
    have enm : ∀ n, d = .str n → nameOf d = n := fun n e => by rw [e]; rfl
    by_cases w1 : word = "make"
    · rw [dstr_eq' w1]
      refine iteT ?_
      refine ⟨_, rfl, dk, dx, _, rfl, h1, rfl, _, rfl, dk, df, kvs, D, v, d, rfl, hD, hd, hn, hfl, fun hw => un "name" (by unfold deedF; rw [if_pos hw]), fun n en hw => ?_⟩
      have nw : ¬ wordD signs36 8 d = false := by rw [hw]; decide
      refine ⟨fun bs hbs => un "there" (by unfold deedF; rw [if_neg nw, enm n en, hbs]; dsimp only; rw [if_pos w1]), fun hno => ⟨fun hs => un "stopped" (by unfold deedF; rw [if_neg nw, enm n en, hno]; dsimp only; rw [if_pos w1, hs]), fun D1 hs kvs' H' f' g' h' => ?_⟩⟩
      have e : deedF D word d d2 = (none, ⟨D1.fs ++ [(n, [])], D1.done, D1.left⟩) := by
        unfold deedF
        rw [if_neg nw, enm n en, hno]
        dsimp only
        rw [if_pos w1, hs]
      have := q kvs' H' f' g' (by rw [e]; exact h') (fun c hc => by rw [e] at hc; cases hc)
      exact this.2 (by rw [e])
    rw [dstr_ne' w1]
    refine iteF ?_
    refine go_next rfl ?_
    refine ⟨_, rfl, rfl, _, rfl, ?_⟩
    by_cases w2 : word = "add"
    · rw [dstr_eq' w2]
      refine iteT ?_
      refine ⟨_, rfl, dk, dx, _, rfl, h1, rfl, _, rfl, _, rfl, dk, df, kvs, D, v, v2, d, d2, rfl, hD, hd, hn, hd2, hz2, hzf, fun hw => un "name" (by unfold deedF; rw [if_pos hw]), fun n en hw => ?_⟩
      have nw : ¬ wordD signs36 8 d = false := by rw [hw]; decide
      refine ⟨fun hno => un "missing" (by unfold deedF; rw [if_neg nw, enm n en, hno]; dsimp only; rw [if_neg w1]), fun bs hbs => ⟨fun hb => un "row" (by unfold deedF; rw [if_neg nw, enm n en, hbs]; dsimp only; rw [if_neg w1, if_pos w2, if_pos hb]), fun hb H' f' h' => ?_⟩⟩
      have e : deedF D word d d2 = ((if (addG n D (intsOf d2)).2 = true then none else some ("stopped" : Str) : Option Str), (addG n D (intsOf d2)).1) := by
        unfold deedF
        rw [if_neg nw, enm n en, hbs]
        dsimp only
        rw [if_neg w1, if_pos w2, if_neg (by rw [hb]; decide)]
      have := q kvs H' f' grow_refl (by rw [e]; exact h') (fun c hc ns => by
        rw [e] at hc
        dsimp only at hc
        split at hc
        · cases hc
        · exact absurd (Option.some.inj hc).symm ns)
      rw [e] at this
      exact ⟨fun z => this.2 (by dsimp only; rw [if_pos z]), fun z => this.1 "stopped" (by dsimp only; rw [if_neg (by rw [z]; decide)])⟩
    rw [dstr_ne' w2]
    refine iteF ?_
    refine go_next rfl ?_
    refine ⟨_, rfl, rfl, _, rfl, ?_⟩
    by_cases w3 : word = "cut"
    · rw [dstr_eq' w3]
      refine iteT ?_
      refine ⟨_, rfl, dk, dx, _, rfl, h1, rfl, _, rfl, _, rfl, dk, df, kvs, D, v, v2, d, d2, rfl, hD, hd, hn, hd2, hfl, fun hw => un "name" (by unfold deedF; rw [if_pos hw]), fun n en hw => ?_⟩
      have nw : ¬ wordD signs36 8 d = false := by rw [hw]; decide
      refine ⟨fun hno => un "missing" (by unfold deedF; rw [if_neg nw, enm n en, hno]; dsimp only; rw [if_neg w1]), fun bs hbs => ⟨fun hb => un "number" (by unfold deedF; rw [if_neg nw, enm n en, hbs]; dsimp only; rw [if_neg w1, if_neg w2, if_pos w3, if_pos hb]), fun hb => ⟨fun hs => un "stopped" (by unfold deedF; rw [if_neg nw, enm n en, hbs]; dsimp only; rw [if_neg w1, if_neg w2, if_pos w3, if_neg (by rw [hb]; decide), hs]), fun D1 hs kvs' H' f' g' h' => ?_⟩⟩⟩
      have e : deedF D word d d2 = (none, ⟨setA D1.fs n (bs.take (sizeOf' d2)), D1.done, D1.left⟩) := by
        unfold deedF
        rw [if_neg nw, enm n en, hbs]
        dsimp only
        rw [if_neg w1, if_neg w2, if_pos w3, if_neg (by rw [hb]; decide), hs]
      have := q kvs' H' f' g' (by rw [e]; exact h') (fun c hc => by rw [e] at hc; cases hc)
      exact this.2 (by rw [e])
    · rw [dstr_ne' w3]
      refine iteF ?_
      refine ⟨_, rfl, dk, dx, _, rfl, h1, rfl, _, rfl, dk, df, kvs, D, v, d, rfl, hD, hd, hn, fun hw => un "name" (by unfold deedF; rw [if_pos hw]), fun n en hw => ?_⟩
      have nw : ¬ wordD signs36 8 d = false := by rw [hw]; decide
      refine ⟨fun hno => un "missing" (by unfold deedF; rw [if_neg nw, enm n en, hno]; dsimp only; rw [if_neg w1]), fun bs hbs => ⟨fun hs => un "stopped" (by unfold deedF; rw [if_neg nw, enm n en, hbs]; dsimp only; rw [if_neg w1, if_neg w2, if_neg w3, hs]), fun D1 hs kvs' H' f' g' h' => ?_⟩⟩
      have e : deedF D word d d2 = (none, ⟨dropA D1.fs n, D1.done, D1.left⟩) := by
        unfold deedF
        rw [if_neg nw, enm n en, hbs]
        dsimp only
        rw [if_neg w1, if_neg w2, if_neg w3, hs]
      have := q kvs' H' f' g' (by rw [e]; exact h') (fun c hc => by rw [e] at hc; cases hc)
      exact this.2 (by rw [e])
theorem sc__law_caught : FnScope ["_law_disk", "_law_deed", "_law_caught_here"] ["_law_disk", "_law_deed"] (defScope s_caught) := ⟨rfl, rfl, rfl, by decide +kernel, rfl, by decide +kernel, by decide +kernel⟩
structure HexD (K : PySem.W.Frag) (C_BadName C_Missing C_There C_Stopped C_BadRow C_BadNumber : Addr) : Prop where
  no : ∀ i j, i < 6 → j < 6 → i ≠ j → PySem.W.exmOne K (.ref ([C_BadName, C_Missing, C_There, C_BadNumber, C_BadRow, C_Stopped].getD i 0)) (.ref ([C_BadName, C_Missing, C_There, C_BadNumber, C_BadRow, C_Stopped].getD j 0)) = some false
  yes : ∀ i, i < 6 → PySem.W.exmOne K (.ref ([C_BadName, C_Missing, C_There, C_BadNumber, C_BadRow, C_Stopped].getD i 0)) (.ref ([C_BadName, C_Missing, C_There, C_BadNumber, C_BadRow, C_Stopped].getD i 0)) = some true
theorem deed_code (D : Dk) (word : Str) (d d2 : PyData) {c : Str} (h : (deedF D word d d2).1 = some c) : c = "name" ∨ c = "missing" ∨ c = "there" ∨ c = "number" ∨ c = "row" ∨ c = "stopped" := by
  have st : ∀ {E : Dk → Option Str × Dk} (hE : ∀ x, (E x).1 = none), (match stepF D with | none => (some ("stopped" : Str), D) | some D1 => E D1).1 = some c → c = "stopped" := by
    intro E hE h
    cases hs : stepF D with
    | none =>
      rw [hs] at h
      exact (Option.some.inj h).symm
    | some D1 =>
      rw [hs] at h
      have h : (E D1).1 = some c := h
      rw [hE D1] at h
      cases h
  unfold deedF at h
  by_cases h1 : wordD signs36 8 d = false
  · rw [if_pos h1] at h
    exact .inl (Option.some.inj h).symm
  rw [if_neg h1] at h
  cases hl : lookF D.fs (nameOf d) with
  | none =>
    rw [hl] at h
    dsimp only at h
    by_cases w1 : word = "make"
    · rw [if_pos w1] at h
      exact .inr (.inr (.inr (.inr (.inr (st (fun _ => rfl) h)))))
    · rw [if_neg w1] at h
      exact .inr (.inl (Option.some.inj h).symm)
  | some bs =>
    rw [hl] at h
    dsimp only at h
    by_cases w1 : word = "make"
    · rw [if_pos w1] at h
      exact .inr (.inr (.inl (Option.some.inj h).symm))
    rw [if_neg w1] at h
    by_cases w2 : word = "add"
    · rw [if_pos w2] at h
      by_cases hb : isByt d2 = false
      · rw [if_pos hb] at h
        exact .inr (.inr (.inr (.inr (.inl (Option.some.inj h).symm))))
      · rw [if_neg hb] at h
        dsimp only at h
        by_cases ha : (addG (nameOf d) D (intsOf d2)).2 = true
        · rw [if_pos ha] at h
          cases h
        · rw [if_neg ha] at h
          exact .inr (.inr (.inr (.inr (.inr (Option.some.inj h).symm))))
    rw [if_neg w2] at h
    by_cases w3 : word = "cut"
    · rw [if_pos w3] at h
      by_cases hb : isNum 0 bs.length d2 = false
      · rw [if_pos hb] at h
        exact .inr (.inr (.inr (.inl (Option.some.inj h).symm)))
      · rw [if_neg hb] at h
        exact .inr (.inr (.inr (.inr (.inr (st (fun _ => rfl) h)))))
    · rw [if_neg w3] at h
      exact .inr (.inr (.inr (.inr (.inr (st (fun _ => rfl) h)))))
set_option maxHeartbeats 1000000 in
theorem ok_caught {f : Addr} {fd : FuncData} (F : Fun K "_law_caught" "_law_caught" s_caught f fd) (T : TxtD K mg C_BadName C_Missing C_There C_Stopped C_BadRow C_BadNumber C_Disk) (X : HexD K C_BadName C_Missing C_There C_Stopped C_BadRow C_BadNumber) (c__law_on_disk : Callee P w K mg base "_law_on_disk" 5 ["_law_disk", "_law_deed"] (sp_on_disk C_Disk (clsF C_BadName C_Missing C_There C_Stopped C_BadRow C_BadNumber))) : FnOk P w K mg base (CXE P w) 6 f fd ["_law_disk", "_law_deed"] (sp_caught C_Disk) := by
  refine F.okX sc__law_caught (fun vs H Q E h => ?_) (fun cdv A outer s H vs Q E hr h => ?_)
  · obtain ⟨dk, df, pd, kvs, D, word, v, v2, d, d2, rfl, _⟩ := h
    rfl
  · obtain ⟨dk, df, pd, kvs, D, word, v, v2, d, d2, rfl, hD, hp, hd, hn, hd2, hfl, hz2, hzf, q⟩ := h
    refine ⟨_, @pss_cons _ _ _ _ _ (@ps_set _ _ (2) _ _ _ _ sc__law_caught.nd (by rfl) (by first | exact Or.inl (by rfl) | exact Or.inr (by rfl)) (@pe_str _ _ _ _) (by first | rfl | decide | exact .inl rfl | exact .inr rfl | exact .inr (.inl rfl) | exact .inr (.inr rfl) | (intro _; rfl) | with_unfolding_all rfl) (by first | rfl | decide | exact .inl rfl | exact .inr rfl | exact .inr (.inl rfl) | exact .inr (.inr rfl) | (intro _; rfl) | with_unfolding_all rfl)) (@pss_cons _ _ _ _ _ (@ps_try _ _ _ _ _ _ _ own_cxB (@pssx_one _ _ _ (@psx_expr _ _ _ _ (@px_fn _ _ _ _ _ _ _ _ _ _ c__law_on_disk (hr.mono (by decide)) (@pa_Name _ _ _ _ _ _ (@pv _ 0 _ _ (by first | rfl | decide | exact .inl rfl | exact .inr rfl | exact .inr (.inl rfl) | exact .inr (.inr rfl) | (intro _; rfl) | with_unfolding_all rfl) (by first | rfl | decide | exact .inl rfl | exact .inr rfl | exact .inr (.inl rfl) | exact .inr (.inr rfl) | (intro _; rfl) | with_unfolding_all rfl) (by first | rfl | decide | exact .inl rfl | exact .inr rfl | exact .inr (.inl rfl) | exact .inr (.inr rfl) | (intro _; rfl) | with_unfolding_all rfl) (by first | rfl | decide | exact .inl rfl | exact .inr rfl | exact .inr (.inl rfl) | exact .inr (.inr rfl) | (intro _; rfl) | with_unfolding_all rfl)) (@pa_Name _ _ _ _ _ _ (@pv _ 1 _ _ (by first | rfl | decide | exact .inl rfl | exact .inr rfl | exact .inr (.inl rfl) | exact .inr (.inr rfl) | (intro _; rfl) | with_unfolding_all rfl) (by first | rfl | decide | exact .inl rfl | exact .inr rfl | exact .inr (.inl rfl) | exact .inr (.inr rfl) | (intro _; rfl) | with_unfolding_all rfl) (by first | rfl | decide | exact .inl rfl | exact .inr rfl | exact .inr (.inl rfl) | exact .inr (.inr rfl) | (intro _; rfl) | with_unfolding_all rfl) (by first | rfl | decide | exact .inl rfl | exact .inr rfl | exact .inr (.inl rfl) | exact .inr (.inr rfl) | (intro _; rfl) | with_unfolding_all rfl)) (@pa_nil _))) (by first | rfl | decide | exact .inl rfl | exact .inr rfl | exact .inr (.inl rfl) | exact .inr (.inr rfl) | (intro _; rfl) | with_unfolding_all rfl) (by first | rfl | decide | exact .inl rfl | exact .inr rfl | exact .inr (.inl rfl) | exact .inr (.inr rfl) | (intro _; rfl) | with_unfolding_all rfl) (by first | rfl | decide | exact .inl rfl | exact .inr rfl | exact .inr (.inl rfl) | exact .inr (.inr rfl) | (intro _; rfl) | with_unfolding_all rfl) (by first | rfl | decide | exact .inl rfl | exact .inr rfl | exact .inr (.inl rfl) | exact .inr (.inr rfl) | (intro _; rfl) | with_unfolding_all rfl)) (by first | rfl | decide | exact .inl rfl | exact .inr rfl | exact .inr (.inl rfl) | exact .inr (.inr rfl) | (intro _; rfl) | with_unfolding_all rfl))) (@PH.cons _ _ _ _ _ _ _ _ _ _ (by rfl) T.m_BadName (by decide) (fun ex => (@pss_one _ _ _ (@ps_set _ _ (2) _ _ _ _ sc__law_caught.nd (by rfl) (by first | exact Or.inl (by rfl) | exact Or.inr (by rfl)) (@pe_str _ _ _ _) (by first | rfl | decide | exact .inl rfl | exact .inr rfl | exact .inr (.inl rfl) | exact .inr (.inr rfl) | (intro _; rfl) | with_unfolding_all rfl) (by first | rfl | decide | exact .inl rfl | exact .inr rfl | exact .inr (.inl rfl) | exact .inr (.inr rfl) | (intro _; rfl) | with_unfolding_all rfl)))) (@PH.cons _ _ _ _ _ _ _ _ _ _ (by rfl) T.m_Missing (by decide) (fun ex => (@pss_one _ _ _ (@ps_set _ _ (2) _ _ _ _ sc__law_caught.nd (by rfl) (by first | exact Or.inl (by rfl) | exact Or.inr (by rfl)) (@pe_str _ _ _ _) (by first | rfl | decide | exact .inl rfl | exact .inr rfl | exact .inr (.inl rfl) | exact .inr (.inr rfl) | (intro _; rfl) | with_unfolding_all rfl) (by first | rfl | decide | exact .inl rfl | exact .inr rfl | exact .inr (.inl rfl) | exact .inr (.inr rfl) | (intro _; rfl) | with_unfolding_all rfl)))) (@PH.cons _ _ _ _ _ _ _ _ _ _ (by rfl) T.m_There (by decide) (fun ex => (@pss_one _ _ _ (@ps_set _ _ (2) _ _ _ _ sc__law_caught.nd (by rfl) (by first | exact Or.inl (by rfl) | exact Or.inr (by rfl)) (@pe_str _ _ _ _) (by first | rfl | decide | exact .inl rfl | exact .inr rfl | exact .inr (.inl rfl) | exact .inr (.inr rfl) | (intro _; rfl) | with_unfolding_all rfl) (by first | rfl | decide | exact .inl rfl | exact .inr rfl | exact .inr (.inl rfl) | exact .inr (.inr rfl) | (intro _; rfl) | with_unfolding_all rfl)))) (@PH.cons _ _ _ _ _ _ _ _ _ _ (by rfl) T.m_BadNumber (by decide) (fun ex => (@pss_one _ _ _ (@ps_set _ _ (2) _ _ _ _ sc__law_caught.nd (by rfl) (by first | exact Or.inl (by rfl) | exact Or.inr (by rfl)) (@pe_str _ _ _ _) (by first | rfl | decide | exact .inl rfl | exact .inr rfl | exact .inr (.inl rfl) | exact .inr (.inr rfl) | (intro _; rfl) | with_unfolding_all rfl) (by first | rfl | decide | exact .inl rfl | exact .inr rfl | exact .inr (.inl rfl) | exact .inr (.inr rfl) | (intro _; rfl) | with_unfolding_all rfl)))) (@PH.cons _ _ _ _ _ _ _ _ _ _ (by rfl) T.m_BadRow (by decide) (fun ex => (@pss_one _ _ _ (@ps_set _ _ (2) _ _ _ _ sc__law_caught.nd (by rfl) (by first | exact Or.inl (by rfl) | exact Or.inr (by rfl)) (@pe_str _ _ _ _) (by first | rfl | decide | exact .inl rfl | exact .inr rfl | exact .inr (.inl rfl) | exact .inr (.inr rfl) | (intro _; rfl) | with_unfolding_all rfl) (by first | rfl | decide | exact .inl rfl | exact .inr rfl | exact .inr (.inl rfl) | exact .inr (.inr rfl) | (intro _; rfl) | with_unfolding_all rfl)))) (@PH.cons _ _ _ _ _ _ _ _ _ _ (by rfl) T.m_Stopped (by decide) (fun ex => (@pss_one _ _ _ (@ps_set _ _ (2) _ _ _ _ sc__law_caught.nd (by rfl) (by first | exact Or.inl (by rfl) | exact Or.inr (by rfl)) (@pe_str _ _ _ _) (by first | rfl | decide | exact .inl rfl | exact .inr rfl | exact .inr (.inl rfl) | exact .inr (.inr rfl) | (intro _; rfl) | with_unfolding_all rfl) (by first | rfl | decide | exact .inl rfl | exact .inr rfl | exact .inr (.inl rfl) | exact .inr (.inr rfl) | (intro _; rfl) | with_unfolding_all rfl)))) (@PH.nil _)))))))) (@pss_one _ _ _ (@ps_ret _ _ _ _ (@pv _ 2 _ _ (by first | rfl | decide | exact .inl rfl | exact .inr rfl | exact .inr (.inl rfl) | exact .inr (.inr rfl) | (intro _; rfl) | with_unfolding_all rfl) (by first | rfl | decide | exact .inl rfl | exact .inr rfl | exact .inr (.inl rfl) | exact .inr (.inr rfl) | (intro _; rfl) | with_unfolding_all rfl) (by first | rfl | decide | exact .inl rfl | exact .inr rfl | exact .inr (.inl rfl) | exact .inr (.inr rfl) | (intro _; rfl) | with_unfolding_all rfl) (by first | rfl | decide | exact .inl rfl | exact .inr rfl | exact .inr (.inl rfl) | exact .inr (.inr rfl) | (intro _; rfl) | with_unfolding_all rfl))))), ?_⟩
    refine ⟨_, rfl, _, rfl, dk, df, pd, kvs, D, word, v, v2, d, d2, rfl, hD, hp, hd, hn, hd2, hfl, hz2, hzf, fun kvs' H' f' g' h' hst => ⟨fun c hc => ?_, fun hc => ?_⟩⟩
    · have q' := q kvs' H' f' g' h' hst
      rw [hc] at q'
      have n10 := X.no
      have y := X.yes
      rcases deed_code _ _ _ _ hc with rfl | rfl | rfl | rfl | rfl | rfl
      · exact .inl ⟨y 0 (by decide), _, rfl, q'⟩
      · exact .inr ⟨n10 1 0 (by decide) (by decide) (by decide), .inl ⟨y 1 (by decide), _, rfl, q'⟩⟩
      · exact .inr ⟨n10 2 0 (by decide) (by decide) (by decide), .inr ⟨n10 2 1 (by decide) (by decide) (by decide), .inl ⟨y 2 (by decide), _, rfl, q'⟩⟩⟩
      · exact .inr ⟨n10 3 0 (by decide) (by decide) (by decide), .inr ⟨n10 3 1 (by decide) (by decide) (by decide), .inr ⟨n10 3 2 (by decide) (by decide) (by decide), .inl ⟨y 3 (by decide), _, rfl, q'⟩⟩⟩⟩
      · exact .inr ⟨n10 4 0 (by decide) (by decide) (by decide), .inr ⟨n10 4 1 (by decide) (by decide) (by decide), .inr ⟨n10 4 2 (by decide) (by decide) (by decide), .inr ⟨n10 4 3 (by decide) (by decide) (by decide), .inl ⟨y 4 (by decide), _, rfl, q'⟩⟩⟩⟩⟩
      · exact .inr ⟨n10 5 0 (by decide) (by decide) (by decide), .inr ⟨n10 5 1 (by decide) (by decide) (by decide), .inr ⟨n10 5 2 (by decide) (by decide) (by decide), .inr ⟨n10 5 3 (by decide) (by decide) (by decide), .inr ⟨n10 5 4 (by decide) (by decide) (by decide), .inl ⟨y 5 (by decide), _, rfl, q'⟩⟩⟩⟩⟩⟩
    · have q' := q kvs' H' f' g' h' hst
      rw [hc] at q'
      exact ⟨_, rfl, q'⟩
end
end Qh
end
section
set_option Elab.async false
set_option linter.all false
set_option maxRecDepth 100000
namespace Qh
open PySem L2
abbrev s_files : Stmt := top 30
theorem tb_t {H H' : Hp} (s : ∀ b xs, H b = some (.tup xs) → H' b = some (.tup xs)) : ∀ {fs : List (Str × List Int)} {kvs : List (Key × V)}, TbR H fs kvs → TbR H' fs kvs
  | [], [], _ => trivial
  | p :: fs, q :: kvs, h => by
    obtain ⟨h1, ⟨t, e, g⟩, h3⟩ := h
    exact ⟨h1, ⟨t, e, s _ _ g⟩, tb_t s h3⟩
  | [], _ :: _, h => h.elim
  | _ :: _, [], h => h.elim
theorem tb_keys {H : Hp} : ∀ {fs : List (Str × List Int)} {kvs : List (Key × V)}, TbR H fs kvs → kvs.map (·.1) = (fs.map (·.1)).map Sum.inr
  | [], [], _ => rfl
  | p :: fs, q :: kvs, h => by rw [List.map_cons, List.map_cons, List.map_cons, h.1, tb_keys h.2.2]
  | [], _ :: _, h => h.elim
  | _ :: _, [], h => h.elim
theorem tb_snoc {H : Hp} {n : Str} {e : List Int} {v : V} (hv : tabAt H v e) : ∀ {fs : List (Str × List Int)} {kvs : List (Key × V)}, TbR H fs kvs → TbR H (fs ++ [(n, e)]) (kvs ++ [(Sum.inr n, v)])
  | [], [], _ => ⟨rfl, hv, trivial⟩
  | p :: fs, q :: kvs, h => ⟨h.1, h.2.1, tb_snoc hv h.2.2⟩
  | [], _ :: _, h => h.elim
  | _ :: _, [], h => h.elim
theorem val_none {kvs : List (Key × V)} {k : Key} (h : k ∉ kvs.map (·.1)) : valV kvs k = none := by
  unfold valV
  rw [Option.map_eq_none_iff, List.find?_eq_none]
  intro p hp z
  exact h (by rw [← of_decide_eq_true z]; exact List.mem_map_of_mem hp)
theorem look_some {fs : List (Str × List Int)} {n : Str} (h : n ∈ fs.map (·.1)) : ∃ bs, lookF fs n = some bs := by
  cases e : lookF fs n with
  | none => exact absurd h (look_none e)
  | some bs => exact ⟨bs, rfl⟩
def tabF (fs : List (Str × List Int)) (ms : List Str) : List (Str × List Int) := ms.map fun n => (n, (lookF fs n).getD [])
def namesOk (fs : List (Str × List Int)) : Prop := ∀ n ∈ fs.map (·.1), wordD signs36 8 (.str n) = true ∧ n.length ≤ 1000 ∧ ascii n = true
def sp_files (C : Addr) : Sp := fun vs H Q _ => ∃ (dk df : Addr) (kvs : List (Key × V)) (D : Dk), vs = [.ref dk] ∧ DiskAt C H dk df kvs D ∧ D.fs.length < 64 ∧ namesOk D.fs ∧
  ∀ ms, List.Perm ms (D.fs.map (·.1)) → PyProof.Rows.sortedS ms = true → ∀ pf lvs H', Same H H' → H pf = none → H' pf = some (.dK lvs) → TbR H' (tabF D.fs ms) lvs → Q (.ref pf) H'
section
variable {P : Program} {w : World} {K : PySem.W.Frag} {mg : Str → Option Value} {base : Heap} {C_BadName C_Missing C_There C_Stopped C_BadRow C_BadNumber C_Disk : Addr}
theorem sc__law_files : FnScope ["_law_disk", "_law_found", "_law_name"] ["_law_disk"] (defScope s_files) := ⟨rfl, rfl, rfl, by decide +kernel, rfl, by decide +kernel, by decide +kernel⟩
set_option maxHeartbeats 1000000 in
theorem ok_files {f : Addr} {fd : FuncData} (F : Fun K "_law_files" "_law_files" s_files f fd) (T : TxtD K mg C_BadName C_Missing C_There C_Stopped C_BadRow C_BadNumber C_Disk) (m_names : Method P w K mg base C_Disk "names" 1 ["self"] (sp_names C_Disk)) (m_read : Method P w K mg base C_Disk "read" 4 ["self", "name"] (sp_read C_Disk C_BadName C_Missing)) : FnOk P w K mg base (CXE P w) 5 f fd ["_law_disk"] (sp_files C_Disk) := by
  refine F.okX sc__law_files (fun vs H Q E h => ?_) (fun cdv A outer s H vs Q E hr h => ?_)
  · obtain ⟨dk, df, kvs, D, rfl, _⟩ := h
    rfl
  · obtain ⟨dk, df, kvs, D, rfl, hD, hl, hok, q⟩ := h
    refine ⟨_, @pss_cons _ _ _ _ _ (@ps_set _ _ (1) _ _ _ _ sc__law_files.nd (by rfl) (by first | exact Or.inl (by rfl) | exact Or.inr (by rfl)) (@pe_dnewK _ _) (by first | rfl | decide | exact .inl rfl | exact .inr rfl | exact .inr (.inl rfl) | exact .inr (.inr rfl) | (intro _; rfl) | with_unfolding_all rfl) (by first | rfl | decide | exact .inl rfl | exact .inr rfl | exact .inr (.inl rfl) | exact .inr (.inr rfl) | (intro _; rfl) | with_unfolding_all rfl)) (@pss_cons _ _ _ _ _ (@ps_for _ _ _ _ _ _ _ _ (ownB own_cx) (by rfl) (@pi_listK _ K _ _ _ (@pe_me0 _ _ _ _ _ _ _ _ _ _ _ _ m_names T.cl (hr.mono (by decide)) passN (@pv _ 0 _ _ (by first | rfl | decide | exact .inl rfl | exact .inr rfl | exact .inr (.inl rfl) | exact .inr (.inr rfl) | (intro _; rfl) | with_unfolding_all rfl) (by first | rfl | decide | exact .inl rfl | exact .inr rfl | exact .inr (.inl rfl) | exact .inr (.inr rfl) | (intro _; rfl) | with_unfolding_all rfl) (by first | rfl | decide | exact .inl rfl | exact .inr rfl | exact .inr (.inl rfl) | exact .inr (.inr rfl) | (intro _; rfl) | with_unfolding_all rfl) (by first | rfl | decide | exact .inl rfl | exact .inr rfl | exact .inr (.inl rfl) | exact .inr (.inr rfl) | (intro _; rfl) | with_unfolding_all rfl)) (by first | rfl | decide | exact .inl rfl | exact .inr rfl | exact .inr (.inl rfl) | exact .inr (.inr rfl) | (intro _; rfl) | with_unfolding_all rfl)) (by first | rfl | decide | exact .inl rfl | exact .inr rfl | exact .inr (.inl rfl) | exact .inr (.inr rfl) | (intro _; rfl) | with_unfolding_all rfl)) (@pg_name _ _ (2) _ sc__law_files.nd (by rfl) (by first | exact Or.inl (by rfl) | exact Or.inr (by rfl)) (by first | rfl | decide | exact .inl rfl | exact .inr rfl | exact .inr (.inl rfl) | exact .inr (.inr rfl) | (intro _; rfl) | with_unfolding_all rfl)) (@pss_one _ _ _ (@ps_dput _ _ _ _ _ _ _ _ _ (hu1 hr.units) (@pv _ 1 _ _ (by first | rfl | decide | exact .inl rfl | exact .inr rfl | exact .inr (.inl rfl) | exact .inr (.inr rfl) | (intro _; rfl) | with_unfolding_all rfl) (by first | rfl | decide | exact .inl rfl | exact .inr rfl | exact .inr (.inl rfl) | exact .inr (.inr rfl) | (intro _; rfl) | with_unfolding_all rfl) (by first | rfl | decide | exact .inl rfl | exact .inr rfl | exact .inr (.inl rfl) | exact .inr (.inr rfl) | (intro _; rfl) | with_unfolding_all rfl) (by first | rfl | decide | exact .inl rfl | exact .inr rfl | exact .inr (.inl rfl) | exact .inr (.inr rfl) | (intro _; rfl) | with_unfolding_all rfl)) (@pv _ 2 _ _ (by first | rfl | decide | exact .inl rfl | exact .inr rfl | exact .inr (.inl rfl) | exact .inr (.inr rfl) | (intro _; rfl) | with_unfolding_all rfl) (by first | rfl | decide | exact .inl rfl | exact .inr rfl | exact .inr (.inl rfl) | exact .inr (.inr rfl) | (intro _; rfl) | with_unfolding_all rfl) (by first | rfl | decide | exact .inl rfl | exact .inr rfl | exact .inr (.inl rfl) | exact .inr (.inr rfl) | (intro _; rfl) | with_unfolding_all rfl) (by first | rfl | decide | exact .inl rfl | exact .inr rfl | exact .inr (.inl rfl) | exact .inr (.inr rfl) | (intro _; rfl) | with_unfolding_all rfl)) (@pe_me _ _ _ _ _ _ _ _ _ _ _ _ _ _ _ m_read T.cl (hr.mono (by decide)) passN (@pv _ 0 _ _ (by first | rfl | decide | exact .inl rfl | exact .inr rfl | exact .inr (.inl rfl) | exact .inr (.inr rfl) | (intro _; rfl) | with_unfolding_all rfl) (by first | rfl | decide | exact .inl rfl | exact .inr rfl | exact .inr (.inl rfl) | exact .inr (.inr rfl) | (intro _; rfl) | with_unfolding_all rfl) (by first | rfl | decide | exact .inl rfl | exact .inr rfl | exact .inr (.inl rfl) | exact .inr (.inr rfl) | (intro _; rfl) | with_unfolding_all rfl) (by first | rfl | decide | exact .inl rfl | exact .inr rfl | exact .inr (.inl rfl) | exact .inr (.inr rfl) | (intro _; rfl) | with_unfolding_all rfl)) (@pa_Name _ _ _ _ _ _ (@pv _ 2 _ _ (by first | rfl | decide | exact .inl rfl | exact .inr rfl | exact .inr (.inl rfl) | exact .inr (.inr rfl) | (intro _; rfl) | with_unfolding_all rfl) (by first | rfl | decide | exact .inl rfl | exact .inr rfl | exact .inr (.inl rfl) | exact .inr (.inr rfl) | (intro _; rfl) | with_unfolding_all rfl) (by first | rfl | decide | exact .inl rfl | exact .inr rfl | exact .inr (.inl rfl) | exact .inr (.inr rfl) | (intro _; rfl) | with_unfolding_all rfl) (by first | rfl | decide | exact .inl rfl | exact .inr rfl | exact .inr (.inl rfl) | exact .inr (.inr rfl) | (intro _; rfl) | with_unfolding_all rfl)) (@pa_nil _)) (by first | rfl | decide | exact .inl rfl | exact .inr rfl | exact .inr (.inl rfl) | exact .inr (.inr rfl) | (intro _; rfl) | with_unfolding_all rfl) (by first | rfl | decide | exact .inl rfl | exact .inr rfl | exact .inr (.inl rfl) | exact .inr (.inr rfl) | (intro _; rfl) | with_unfolding_all rfl) (by first | rfl | decide | exact .inl rfl | exact .inr rfl | exact .inr (.inl rfl) | exact .inr (.inr rfl) | (intro _; rfl) | with_unfolding_all rfl)) (by rfl))) (by first | rfl | decide | exact .inl rfl | exact .inr rfl | exact .inr (.inl rfl) | exact .inr (.inr rfl) | (intro _; rfl) | with_unfolding_all rfl)) (@pss_one _ _ _ (@ps_ret _ _ _ _ (@pv _ 1 _ _ (by first | rfl | decide | exact .inl rfl | exact .inr rfl | exact .inr (.inl rfl) | exact .inr (.inr rfl) | (intro _; rfl) | with_unfolding_all rfl) (by first | rfl | decide | exact .inl rfl | exact .inr rfl | exact .inr (.inl rfl) | exact .inr (.inr rfl) | (intro _; rfl) | with_unfolding_all rfl) (by first | rfl | decide | exact .inl rfl | exact .inr rfl | exact .inr (.inl rfl) | exact .inr (.inr rfl) | (intro _; rfl) | with_unfolding_all rfl) (by first | rfl | decide | exact .inl rfl | exact .inr rfl | exact .inr (.inl rfl) | exact .inr (.inr rfl) | (intro _; rfl) | with_unfolding_all rfl))))), ?_⟩
    refine fun pf hpf => ?_
    have S1 := same_upd (o := .dK []) hpf
    generalize eH1 : upd H pf (.dK []) = H1 at S1 ⊢
    have g1 : H1 pf = some (.dK []) := by rw [← eH1]; exact upd_same
    have hD1 := hD.same S1
    obtain ⟨dx, h1⟩ := hD1.self
    refine ⟨_, rfl, dk, dx, _, rfl, h1, rfl, dk, df, kvs, D, rfl, hD1, hl, fun pl ms perm so H2 S2 g2 hpl => ?_⟩
    have npl : pl ≠ pf := fun z => by rw [z, g1] at hpl; cases hpl
    refine ⟨pl, rfl, ⟨_, SqL.of g2⟩, ?_⟩
    have sq0 : SqL K (fun a => if a = pl then some (.lst (ms.map V.str)) else none) pl (ms.map V.str) := SqL.of (if_pos rfl)
    have lm : (ms.map V.str).length = ms.length := List.length_map _
    have nd : ms.Nodup := perm.nodup_iff.mpr hD.kn
    have pl64 := perm.length_eq
    rw [List.length_map] at pl64
    refine for_src0 (H0 := fun a => if a = pl then some (.lst (ms.map V.str)) else none) (src_list (K := K) sq0) (fun i σ H' => H' pl = some (.lst (ms.map V.str)) ∧ Same H H' ∧ ∃ lvs z2, H' pf = some (.dK lvs) ∧ TbR H' (tabF D.fs (ms.take i)) lvs ∧ σ = [some (.ref dk), some (.ref pf), z2]) ?i0 ?kp ?_ ?_
    case i0 => exact ⟨g2, S1.trans S2, [], none, S2 _ _ g1, trivial, rfl⟩
    case kp =>
      intro i σ H' h b o e
      by_cases z : b = pl
      · subst z
        have e : some (HO.lst (ms.map V.str)) = some o := by simpa using e
        rw [← e]
        exact h.1
      · have e : none = some o := by simpa [z] using e
        cases e
    · rintro i x σ H5 H6 hi ⟨g5, s5, lvs, z2, gp5, tb5, rfl⟩ s6 hx
      rw [lm] at hi
      rw [List.getElem?_map, List.getElem?_eq_getElem hi] at hx
      cases hx
      have hmem : ms[i] ∈ D.fs.map (·.1) := perm.mem_iff.mp (List.getElem_mem hi)
      obtain ⟨bs, hbs⟩ := look_some hmem
      obtain ⟨hw, hnl, hna⟩ := hok _ hmem
      have S06 : Same H H6 := s5.trans s6
      have hD6 := hD.same S06
      obtain ⟨dx6, h16⟩ := hD6.self
      refine ⟨_, rfl, dk, dx6, _, rfl, h16, rfl, _, rfl, dk, df, kvs, D, .str ms[i], .str ms[i], rfl, hD6, by simp only [Den], (fun y e => by injection e with e; rw [← e]; exact ⟨hnl, hna⟩), (fun z => by rw [hw] at z; cases z), fun n en _ => ?_⟩
      injection en with en
      subst en
      refine ⟨(fun z => by rw [hbs] at z; cases z), fun bs' hbs' p7 H7 S7 g7 => ?_⟩
      rw [hbs] at hbs'
      cases hbs'
      have gp7 : H7 pf = some (.dK lvs) := S7 _ _ (s6 _ _ gp5)
      have tb7 : TbR H7 (tabF D.fs (ms.take i)) lvs := tb_t (fun b xs e => S7 _ _ (s6 _ _ e)) tb5
      have hno : valV lvs (Sum.inr ms[i]) = none := by
        refine val_none ?_
        rw [(tb_keys tb7)]
        have ek : (tabF D.fs (ms.take i)).map (·.1) = ms.take i := by
          unfold tabF
          rw [List.map_map]
          exact List.map_id _
        rw [ek]
        intro hm
        rw [List.mem_map] at hm
        obtain ⟨y, hy, e⟩ := hm
        have e : y = ms[i] := Sum.inr.inj e
        have h2 : y ∈ ms.drop i := by
          rw [List.drop_eq_getElem_cons hi, e]
          exact List.mem_cons_self
        have nd' := nd
        rw [← List.take_append_drop i ms, List.nodup_append] at nd'
        exact nd'.2.2 y hy y h2 rfl
      have hll : lvs.length < sizeLine := by
        have := congrArg List.length (tb_keys tb7)
        unfold tabF at this
        rw [List.length_map, List.length_map, List.length_map, List.length_map, List.length_take] at this
        exact Nat.lt_of_le_of_lt (show _ ≤ 64 by omega) (by decide)
      refine ⟨_, rfl, _, rfl, pf, _, rfl, DPut.k (k := Sum.inr ms[i]) gp7 hll, ?_⟩
      have epk : putK lvs (Sum.inr ms[i]) (V.ref p7) = lvs ++ [(Sum.inr ms[i], V.ref p7)] := putK_new _ hno
      rw [epk]
      have tup8 : ∀ b xs, H7 b = some (.tup xs) → upd H7 pf (.dK (lvs ++ [(Sum.inr ms[i], V.ref p7)])) b = some (.tup xs) := fun b xs e => by
        rw [upd_ne (fun z => by rw [z, gp7] at e; cases e)]
        exact e
      refine ⟨?_, fun b o e => ?_, _, _, upd_same, ?_, rfl⟩
      · rw [upd_ne npl]
        exact S7 _ _ (s6 _ _ g5)
      · rw [upd_ne (ne_of_none e hpf)]
        exact S7 _ _ (S06 _ _ e)
      · have et : tabF D.fs (ms.take (i + 1)) = tabF D.fs (ms.take i) ++ [(ms[i], bs)] := by
          unfold tabF
          rw [List.take_add_one, List.getElem?_eq_getElem hi, List.map_append]
          show _ ++ [(ms[i], (lookF D.fs ms[i]).getD [])] = _
          rw [hbs]
          rfl
        rw [et]
        exact tb_snoc ⟨p7, rfl, tup8 _ _ g7⟩ (tb_t tup8 tb7)
    · rintro σ H5 ⟨g5, s5, lvs, z2, gp5, tb5, rfl⟩
      rw [lm, List.take_length] at tb5
      exact ⟨_, rfl, q ms perm so pf lvs H5 s5 hpf gp5 tb5⟩
end
end Qh
end
section
set_option Elab.async false
set_option linter.all false
set_option maxRecDepth 100000
namespace Qh
open PySem L2
theorem bt_dict : bootBuiltins "dict" = some (.type "dict") := by decide +kernel
abbrev s_mix : Stmt := top 22
abbrev s_with : Stmt := top 29
abbrev s_steps : Stmt := inClass (top 19) 9
abbrev s_deed : Stmt := top 26
abbrev s_dsteps : Stmt := top 28
def mixF (x p m : Int) : Int := (x * 48271 % p) ^ 3 % p % m
def sp_mix : Sp := fun vs H Q _ => ∃ (x p m : Int), vs = [.int x, .int p, .int m] ∧ 0 < p ∧ p < 2147483647 ∧ 0 < m ∧ Q (.int (mixF x p m)) H
def sp_steps (C : Addr) : Sp := fun vs H Q _ => ∃ (dk df : Addr) (kvs : List (Key × V)) (D : Dk), vs = [.ref dk] ∧ DiskAt C H dk df kvs D ∧ Q (.int D.done) H
structure TxtW (K : PySem.W.Frag) (mg : Str → Option Value) (C_BadName C_Missing C_There C_Stopped C_BadRow C_BadNumber C_Disk : Addr) : Prop extends TxtD K mg C_BadName C_Missing C_There C_Stopped C_BadRow C_BadNumber C_Disk where
  n_dict : mg "dict" = none
theorem le_size {n : Nat} (h : n ≤ 100 := by exact Nat.le_of_ble_eq_true rfl) : n ≤ sizeLine := Nat.le_trans h (by decide)
theorem same_updN {H H' : Hp} {p : Addr} {o : HO} (s : Same H H') (h : H p = none) : Same H (upd H' p o) := fun b u e => by
  rw [upd_ne (ne_of_none e h)]
  exact s b u e
/-! ### the law's own tables -/
abbrev Tab := List (Str × List Int)
def withF (gs : Tab) (n : Str) : Option (List Int) → Tab
  | none => dropA gs n
  | some e => dropA gs n ++ [(n, e)]
def TabV (H0 H : Hp) (v : V) (gs : Tab) : Prop := ∃ p lvs, v = .ref p ∧ H0 p = none ∧ H p = some (.dK lvs) ∧ TbR H gs lvs
theorem none_of {H H' : Hp} (s : Same H H') {p : Addr} (h : H' p = none) : H p = none := by
  cases e : H p with
  | none => rfl
  | some o =>
    rw [s _ _ e] at h
    cases h
theorem tb_drop {H : Hp} {n : Str} : ∀ {fs : Tab} {kvs : List (Key × V)}, TbR H fs kvs → TbR H (dropA fs n) (dropK kvs (Sum.inr n))
  | [], [], _ => trivial
  | p :: fs, q :: kvs, h => by
    obtain ⟨h1, h2, h3⟩ := h
    have ih := tb_drop (n := n) h3
    by_cases z : p.1 = n
    · have e1 : dropA (p :: fs) n = dropA fs n := by simp [dropA, z]
      rw [e1, dropK_pos (by rw [h1, z])]
      exact ih
    · have e1 : dropA (p :: fs) n = p :: dropA fs n := by simp [dropA, z]
      rw [e1, dropK_neg (by rw [h1, inr_eq]; exact z)]
      exact ⟨h1, h2, ih⟩
  | [], _ :: _, h => h.elim
  | _ :: _, [], h => h.elim
theorem tb_len {H : Hp} : ∀ {fs : Tab} {kvs : List (Key × V)}, TbR H fs kvs → kvs.length = fs.length
  | [], [], _ => rfl
  | p :: fs, q :: kvs, h => by rw [List.length_cons, List.length_cons, tb_len h.2.2]
  | [], _ :: _, h => h.elim
  | _ :: _, [], h => h.elim
theorem tb_val {H : Hp} {n : Str} : ∀ {fs : Tab} {kvs : List (Key × V)}, TbR H fs kvs → (match lookF fs n with | none => valV kvs (Sum.inr n) = none | some e => ∃ v, valV kvs (Sum.inr n) = some v ∧ tabAt H v e)
  | [], [], _ => rfl
  | p :: fs, q :: kvs, h => by
    obtain ⟨h1, h2, h3⟩ := h
    have ih := tb_val (n := n) h3
    by_cases e : p.1 = n
    · have : lookF (p :: fs) n = some p.2 := by simp [lookF, e]
      rw [this]
      exact ⟨q.2, valV_pos (by rw [h1, e]), h2⟩
    · have e1 : lookF (p :: fs) n = lookF fs n := by simp [lookF, e]
      have e2 : valV (q :: kvs) (Sum.inr n) = valV kvs (Sum.inr n) := valV_neg (by rw [h1, inr_eq]; exact e)
      rw [e1, e2]
      exact ih
  | [], _ :: _, h => h.elim
  | _ :: _, [], h => h.elim
theorem drop_no {n : Str} {kvs : List (Key × V)} : valV (dropK kvs (Sum.inr n)) (Sum.inr n) = none := by
  refine val_none fun hm => ?_
  rw [List.mem_map] at hm
  obtain ⟨p, hp, e⟩ := hm
  have := (List.mem_filter.mp hp).2
  rw [e] at this
  simp at this
theorem upd_tup {H : Hp} {p : Addr} {o u : HO} (h : H p = some o) (n : ∀ xs, o ≠ .tup xs) : ∀ b xs, H b = some (.tup xs) → upd H p u b = some (.tup xs) := fun b xs e => by
  rw [upd_ne (fun z => by rw [z, h] at e; exact n _ (Option.some.inj e))]
  exact e
def optAt (H : Hp) (v : V) : Option (List Int) → Prop
  | none => v = .non
  | some e => tabAt H v e
def sp_with : Sp := fun vs H Q _ => ∃ (a : Addr) (n : Str) (v : V) (lvs : List (Key × V)) (gs : Tab) (o : Option (List Int)), vs = [.ref a, .str n, v] ∧ H a = some (.dK lvs) ∧ TbR H gs lvs ∧ optAt H v o ∧ gs.length < 1000 ∧
  ∀ p lvs' H', Same H H' → H p = none → H' p = some (.dK lvs') → TbR H' (withF gs n o) lvs' → Q (.ref p) H'
section
variable {P : Program} {w : World} {K : PySem.W.Frag} {mg : Str → Option Value} {base : Heap} {C_BadName C_Missing C_There C_Stopped C_BadRow C_BadNumber C_Disk : Addr}
theorem sc__law_mix : FnScope ["_law_cell_here", "_law_prime", "_law_many"] ["_law_cell_here", "_law_prime", "_law_many"] (defScope s_mix) := ⟨rfl, rfl, rfl, by decide +kernel, rfl, by decide +kernel, by decide +kernel⟩
theorem ok_mix {f : Addr} {fd : FuncData} (F : Fun K "_law_mix" "_law_mix" s_mix f fd) : FnOk P w K mg base (CXE P w) 1 f fd ["_law_cell_here", "_law_prime", "_law_many"] sp_mix := by
  refine F.okX sc__law_mix (fun vs H Q E h => ?_) (fun cdv A outer s H vs Q E hr h => ?_)
  · obtain ⟨x, p, m, rfl, _⟩ := h
    rfl
  · obtain ⟨x, p, m, rfl, p0, p9, m0, q⟩ := h
    refine ⟨_, @pss_one _ _ _ (@ps_ret _ _ _ _ (@pe_op _ _ _ _ _ _ _ _ op_mod (@pe_op _ _ _ _ _ _ _ _ op_mod (@pe_op _ _ _ _ _ _ _ _ op_pow (@pe_op _ _ _ _ _ _ _ _ op_mod (@pe_op _ _ _ _ _ _ _ _ op_mul (@pv _ 0 _ _ (by first | rfl | decide | exact .inl rfl | exact .inr rfl | exact .inr (.inl rfl) | exact .inr (.inr rfl) | (intro _; rfl) | with_unfolding_all rfl) (by first | rfl | decide | exact .inl rfl | exact .inr rfl | exact .inr (.inl rfl) | exact .inr (.inr rfl) | (intro _; rfl) | with_unfolding_all rfl) (by first | rfl | decide | exact .inl rfl | exact .inr rfl | exact .inr (.inl rfl) | exact .inr (.inr rfl) | (intro _; rfl) | with_unfolding_all rfl) (by first | rfl | decide | exact .inl rfl | exact .inr rfl | exact .inr (.inl rfl) | exact .inr (.inr rfl) | (intro _; rfl) | with_unfolding_all rfl)) (@pe_int _ _ _ _)) (@pv _ 1 _ _ (by first | rfl | decide | exact .inl rfl | exact .inr rfl | exact .inr (.inl rfl) | exact .inr (.inr rfl) | (intro _; rfl) | with_unfolding_all rfl) (by first | rfl | decide | exact .inl rfl | exact .inr rfl | exact .inr (.inl rfl) | exact .inr (.inr rfl) | (intro _; rfl) | with_unfolding_all rfl) (by first | rfl | decide | exact .inl rfl | exact .inr rfl | exact .inr (.inl rfl) | exact .inr (.inr rfl) | (intro _; rfl) | with_unfolding_all rfl) (by first | rfl | decide | exact .inl rfl | exact .inr rfl | exact .inr (.inl rfl) | exact .inr (.inr rfl) | (intro _; rfl) | with_unfolding_all rfl))) (@pe_int _ _ _ _)) (@pv _ 1 _ _ (by first | rfl | decide | exact .inl rfl | exact .inr rfl | exact .inr (.inl rfl) | exact .inr (.inr rfl) | (intro _; rfl) | with_unfolding_all rfl) (by first | rfl | decide | exact .inl rfl | exact .inr rfl | exact .inr (.inl rfl) | exact .inr (.inr rfl) | (intro _; rfl) | with_unfolding_all rfl) (by first | rfl | decide | exact .inl rfl | exact .inr rfl | exact .inr (.inl rfl) | exact .inr (.inr rfl) | (intro _; rfl) | with_unfolding_all rfl) (by first | rfl | decide | exact .inl rfl | exact .inr rfl | exact .inr (.inl rfl) | exact .inr (.inr rfl) | (intro _; rfl) | with_unfolding_all rfl))) (@pv _ 2 _ _ (by first | rfl | decide | exact .inl rfl | exact .inr rfl | exact .inr (.inl rfl) | exact .inr (.inr rfl) | (intro _; rfl) | with_unfolding_all rfl) (by first | rfl | decide | exact .inl rfl | exact .inr rfl | exact .inr (.inl rfl) | exact .inr (.inr rfl) | (intro _; rfl) | with_unfolding_all rfl) (by first | rfl | decide | exact .inl rfl | exact .inr rfl | exact .inr (.inl rfl) | exact .inr (.inr rfl) | (intro _; rfl) | with_unfolding_all rfl) (by first | rfl | decide | exact .inl rfl | exact .inr rfl | exact .inr (.inl rfl) | exact .inr (.inr rfl) | (intro _; rfl) | with_unfolding_all rfl)))), ?_⟩
    have e1 := Int.emod_nonneg (x * 48271) (show p ≠ 0 by omega)
    have e2 := Int.emod_lt_of_pos (x * 48271) p0
    exact ⟨_, rfl, _, _, rfl, rfl, .inr ⟨by decide, by decide⟩, _, rfl, _, _, rfl, rfl, p0, _, _, rfl, rfl, ⟨by decide, by decide, pw_nat (b := 0) e1 (by omega)⟩, _, rfl, _, _, rfl, rfl, p0, _, rfl, _, _, rfl, rfl, m0, q⟩
theorem sc_Disk_steps : FnScope ["self"] ["self"] (defScope s_steps) := ⟨rfl, rfl, rfl, by decide +kernel, rfl, by decide +kernel, by decide +kernel⟩
theorem ok_steps {f : Addr} {fd : FuncData} (F : Fun K "steps" "Disk.steps" s_steps f fd) (T : TxtD K mg C_BadName C_Missing C_There C_Stopped C_BadRow C_BadNumber C_Disk) : FnOk P w K mg base (CXE P w) 1 f fd ["self"] (sp_steps C_Disk) := by
  refine F.okX sc_Disk_steps (fun vs H Q E h => ?_) (fun cdv A outer s H vs Q E hr h => ?_)
  · obtain ⟨dk, df, kvs, D, rfl, _⟩ := h
    rfl
  · obtain ⟨dk, df, kvs, D, rfl, hD, q⟩ := h
    refine ⟨_, @pss_one _ _ _ (@ps_ret _ _ _ _ (@pe_fld _ _ _ _ _ (@pv _ 0 _ _ (by first | rfl | decide | exact .inl rfl | exact .inr rfl | exact .inr (.inl rfl) | exact .inr (.inr rfl) | (intro _; rfl) | with_unfolding_all rfl) (by first | rfl | decide | exact .inl rfl | exact .inr rfl | exact .inr (.inl rfl) | exact .inr (.inr rfl) | (intro _; rfl) | with_unfolding_all rfl) (by first | rfl | decide | exact .inl rfl | exact .inr rfl | exact .inr (.inl rfl) | exact .inr (.inr rfl) | (intro _; rfl) | with_unfolding_all rfl) (by first | rfl | decide | exact .inl rfl | exact .inr rfl | exact .inr (.inl rfl) | exact .inr (.inr rfl) | (intro _; rfl) | with_unfolding_all rfl)) (by rfl))), ?_⟩
    obtain ⟨dx, h1⟩ := hD.self
    exact ⟨_, rfl, dk, _, dx, _, _, rfl, h1, T.cl, T.f_steps_done, rfl, q⟩
theorem sc__law_with : FnScope ["_law_files_here", "_law_name", "_law_some", "_law_found"] ["_law_files_here", "_law_name", "_law_some"] (defScope s_with) := ⟨rfl, rfl, rfl, by decide +kernel, rfl, by decide +kernel, by decide +kernel⟩
set_option maxHeartbeats 1000000 in
theorem ok_with {f : Addr} {fd : FuncData} (F : Fun K "_law_with" "_law_with" s_with f fd) (T : TxtW K mg C_BadName C_Missing C_There C_Stopped C_BadRow C_BadNumber C_Disk) : FnOk P w K mg base (CXE P w) 1 f fd ["_law_files_here", "_law_name", "_law_some"] sp_with := by
  refine F.okX sc__law_with (fun vs H Q E h => ?_) (fun cdv A outer s H vs Q E hr h => ?_)
  · obtain ⟨a, n, v, lvs, gs, o, rfl, _⟩ := h
    rfl
  · obtain ⟨a, n, v, lvs, gs, o, rfl, ha, tb, ho, hl, q⟩ := h
    refine ⟨_, @pss_cons _ _ _ _ _ (@ps_set _ _ (3) _ _ _ _ sc__law_with.nd (by rfl) (by first | exact Or.inl (by rfl) | exact Or.inr (by rfl)) (@pe_callTy _ _ _ _ _ _ _ _ _ (@call_dictC _) (by rfl) T.n_dict bt_dict (@pa_Name _ _ _ _ _ _ (@pv _ 0 _ _ (by first | rfl | decide | exact .inl rfl | exact .inr rfl | exact .inr (.inl rfl) | exact .inr (.inr rfl) | (intro _; rfl) | with_unfolding_all rfl) (by first | rfl | decide | exact .inl rfl | exact .inr rfl | exact .inr (.inl rfl) | exact .inr (.inr rfl) | (intro _; rfl) | with_unfolding_all rfl) (by first | rfl | decide | exact .inl rfl | exact .inr rfl | exact .inr (.inl rfl) | exact .inr (.inr rfl) | (intro _; rfl) | with_unfolding_all rfl) (by first | rfl | decide | exact .inl rfl | exact .inr rfl | exact .inr (.inl rfl) | exact .inr (.inr rfl) | (intro _; rfl) | with_unfolding_all rfl)) (@pa_nil _)) (by first | rfl | decide | exact .inl rfl | exact .inr rfl | exact .inr (.inl rfl) | exact .inr (.inr rfl) | (intro _; rfl) | with_unfolding_all rfl) (by first | rfl | decide | exact .inl rfl | exact .inr rfl | exact .inr (.inl rfl) | exact .inr (.inr rfl) | (intro _; rfl) | with_unfolding_all rfl) (by first | rfl | decide | exact .inl rfl | exact .inr rfl | exact .inr (.inl rfl) | exact .inr (.inr rfl) | (intro _; rfl) | with_unfolding_all rfl) (by first | rfl | decide | exact .inl rfl | exact .inr rfl | exact .inr (.inl rfl) | exact .inr (.inr rfl) | (intro _; rfl) | with_unfolding_all rfl)) (by first | rfl | decide | exact .inl rfl | exact .inr rfl | exact .inr (.inl rfl) | exact .inr (.inr rfl) | (intro _; rfl) | with_unfolding_all rfl) (by first | rfl | decide | exact .inl rfl | exact .inr rfl | exact .inr (.inl rfl) | exact .inr (.inr rfl) | (intro _; rfl) | with_unfolding_all rfl)) (@pss_cons _ _ _ _ _ (ps_expr (pe_bmK K PySem.F.plainAttrs_dict PySem.F.slot_dict_pop PySem.F.type_dict_pop mt_dpop2 (pv 3) (pa_Name (pv 1) (pa_Constant pe_non pa_nil)))) (@pss_cons _ _ _ _ _ (@ps_if _ _ _ _ _ _ _ _ (@pt_cmpR _ _ _ _ _ _ _ _ op_notN (@pv _ 2 _ _ (by first | rfl | decide | exact .inl rfl | exact .inr rfl | exact .inr (.inl rfl) | exact .inr (.inr rfl) | (intro _; rfl) | with_unfolding_all rfl) (by first | rfl | decide | exact .inl rfl | exact .inr rfl | exact .inr (.inl rfl) | exact .inr (.inr rfl) | (intro _; rfl) | with_unfolding_all rfl) (by first | rfl | decide | exact .inl rfl | exact .inr rfl | exact .inr (.inl rfl) | exact .inr (.inr rfl) | (intro _; rfl) | with_unfolding_all rfl) (by first | rfl | decide | exact .inl rfl | exact .inr rfl | exact .inr (.inl rfl) | exact .inr (.inr rfl) | (intro _; rfl) | with_unfolding_all rfl)) (@pe_non _ _ _) (nomark _)) (@pss_one _ _ _ (@ps_dput _ _ _ _ _ _ _ _ _ (hu1 hr.units) (@pv _ 3 _ _ (by first | rfl | decide | exact .inl rfl | exact .inr rfl | exact .inr (.inl rfl) | exact .inr (.inr rfl) | (intro _; rfl) | with_unfolding_all rfl) (by first | rfl | decide | exact .inl rfl | exact .inr rfl | exact .inr (.inl rfl) | exact .inr (.inr rfl) | (intro _; rfl) | with_unfolding_all rfl) (by first | rfl | decide | exact .inl rfl | exact .inr rfl | exact .inr (.inl rfl) | exact .inr (.inr rfl) | (intro _; rfl) | with_unfolding_all rfl) (by first | rfl | decide | exact .inl rfl | exact .inr rfl | exact .inr (.inl rfl) | exact .inr (.inr rfl) | (intro _; rfl) | with_unfolding_all rfl)) (@pv _ 1 _ _ (by first | rfl | decide | exact .inl rfl | exact .inr rfl | exact .inr (.inl rfl) | exact .inr (.inr rfl) | (intro _; rfl) | with_unfolding_all rfl) (by first | rfl | decide | exact .inl rfl | exact .inr rfl | exact .inr (.inl rfl) | exact .inr (.inr rfl) | (intro _; rfl) | with_unfolding_all rfl) (by first | rfl | decide | exact .inl rfl | exact .inr rfl | exact .inr (.inl rfl) | exact .inr (.inr rfl) | (intro _; rfl) | with_unfolding_all rfl) (by first | rfl | decide | exact .inl rfl | exact .inr rfl | exact .inr (.inl rfl) | exact .inr (.inr rfl) | (intro _; rfl) | with_unfolding_all rfl)) (@pv _ 2 _ _ (by first | rfl | decide | exact .inl rfl | exact .inr rfl | exact .inr (.inl rfl) | exact .inr (.inr rfl) | (intro _; rfl) | with_unfolding_all rfl) (by first | rfl | decide | exact .inl rfl | exact .inr rfl | exact .inr (.inl rfl) | exact .inr (.inr rfl) | (intro _; rfl) | with_unfolding_all rfl) (by first | rfl | decide | exact .inl rfl | exact .inr rfl | exact .inr (.inl rfl) | exact .inr (.inr rfl) | (intro _; rfl) | with_unfolding_all rfl) (by first | rfl | decide | exact .inl rfl | exact .inr rfl | exact .inr (.inl rfl) | exact .inr (.inr rfl) | (intro _; rfl) | with_unfolding_all rfl)) (by rfl))) (@pss_nil _)) (@pss_one _ _ _ (@ps_ret _ _ _ _ (@pv _ 3 _ _ (by first | rfl | decide | exact .inl rfl | exact .inr rfl | exact .inr (.inl rfl) | exact .inr (.inr rfl) | (intro _; rfl) | with_unfolding_all rfl) (by first | rfl | decide | exact .inl rfl | exact .inr rfl | exact .inr (.inl rfl) | exact .inr (.inr rfl) | (intro _; rfl) | with_unfolding_all rfl) (by first | rfl | decide | exact .inl rfl | exact .inr rfl | exact .inr (.inl rfl) | exact .inr (.inr rfl) | (intro _; rfl) | with_unfolding_all rfl) (by first | rfl | decide | exact .inl rfl | exact .inr rfl | exact .inr (.inl rfl) | exact .inr (.inr rfl) | (intro _; rfl) | with_unfolding_all rfl)))))), ?_⟩
    refine ⟨_, rfl, a, lvs, rfl, Rd.of ha, fun p hp => ?_⟩
    have S1 := same_upd (o := .dK lvs) hp
    have tb1 : TbR (upd H p (.dK lvs)) gs lvs := tb_t (fun b xs e => S1 _ _ e) tb
    refine ⟨_, rfl, .inr (.inr (.inl ⟨rfl, .inl ⟨_, upd_same⟩⟩)), _, rfl, p, lvs, Sum.inr n, .non, rfl, rfl, upd_same, fun y _ => ?_⟩
    rw [upd_upd]
    have S2 := same_upd (o := .dK (dropK lvs (Sum.inr n))) hp
    have tb2 : TbR (upd H p (.dK (dropK lvs (Sum.inr n)))) (dropA gs n) (dropK lvs (Sum.inr n)) := tb_t (fun b xs e => S2 _ _ e) (tb_drop tb)
    have g2 : upd H p (.dK (dropK lvs (Sum.inr n))) p = some (.dK (dropK lvs (Sum.inr n))) := upd_same
    generalize upd H p (.dK (dropK lvs (Sum.inr n))) = H2 at S2 tb2 g2 ⊢
    refine ⟨_, rfl, rfl, _, rfl, ?_⟩
    cases o with
    | none =>
      have ho : v = .non := ho
      subst ho
      refine iteF ?_
      exact go_next rfl ⟨_, rfl, q p _ _ S2 hp g2 tb2⟩
    | some e =>
      obtain ⟨t, rfl, ht⟩ := ho
      refine iteT ?_
      have hll : (dropK lvs (Sum.inr n)).length < sizeLine := Nat.lt_of_le_of_lt (dropK_le _ _) (Nat.lt_of_lt_of_le (show lvs.length < 1000 by rw [tb_len tb]; exact hl) (by decide))
      refine ⟨_, rfl, _, rfl, _, rfl, p, _, rfl, DPut.k (k := Sum.inr n) g2 hll, ?_⟩
      rw [putK_new _ drop_no]
      have tu := upd_tup (u := .dK (dropK lvs (Sum.inr n) ++ [(Sum.inr n, V.ref t)])) g2 (fun xs z => by cases z)
      refine ⟨_, rfl, q p _ _ (fun b o' e => ?_) hp upd_same (tb_snoc ⟨t, rfl, tu _ _ (S2 _ _ ht)⟩ (tb_t tu tb2))⟩
      rw [upd_ne (ne_of_none e hp)]
      exact S2 _ _ e
end
end Qh
end
section
set_option Elab.async false
set_option linter.all false
set_option maxRecDepth 100000
namespace Qh
open PySem L2
theorem sl_both {K : PySem.W.Frag} {a : Addr} {xs : List V} {lo hi : Option Int} {H : Hp} {Q : VK} (ha : H a = some (.tup xs)) (h : ∀ b H4, Same H H4 → H4 b = some (.tup (cutV xs lo hi)) → Q (.ref b) H4) : rSlTA K (.ref a) lo hi H Q := by
  refine ⟨a, xs, rfl, SqT.of ha, fun hw => h a H (Same.refl H) ?_, fun _ p hp => h p _ (same_upd hp) upd_same⟩
  rw [ha]
  congr 2
  unfold cutV
  rw [hw.1, hw.2, List.drop_zero, Nat.sub_zero, List.take_length]
theorem cut_min {xs : List V} {hi : Nat} : cutV xs none (some (hi : Int)) = xs.take hi := by
  unfold cutV
  rw [HT.sIx_nat, HT.sIx_none, List.drop_zero, Nat.sub_zero]
  rcases Nat.le_total hi xs.length with h | h
  · rw [Nat.min_eq_left h]
  · rw [Nat.min_eq_right h, List.take_length, List.take_of_length_le h]
theorem bytes_in (x m : Int) : ∀ b ∈ bytesF x m, 0 ≤ b ∧ b ≤ 255 := by
  intro b hb
  unfold bytesF at hb
  rw [List.mem_map] at hb
  obtain ⟨j, _, rfl⟩ := hb
  unfold byteF
  split
  · unfold pickF
    have h1 := Int.emod_nonneg (seedF x j / 97) (show (256 : Int) ≠ 0 by decide)
    have h2 := Int.emod_lt_of_pos (seedF x j / 97) (show (0 : Int) < 256 by decide)
    omega
  · omega
theorem bytes_len (x : Int) : (bytesF x 9).length ≤ 9 := by
  unfold bytesF
  rw [List.length_map, List.length_range]
  have := many_bd (x := x) (m := 9) (by decide)
  omega
theorem byt_all {ns : List Int} (h : ∀ b ∈ ns, 0 ≤ b ∧ b ≤ 255) : isByt (.tuple (ns.map .int)) = true := by
  show (ns.map PyData.int).all (isNum 0 255) = true
  rw [List.all_map, List.all_eq_true]
  intro b hb
  have := h b hb
  show (decide (0 ≤ b) && decide (b ≤ 255)) = true
  rw [decide_eq_true this.1, decide_eq_true this.2]
  rfl
theorem ints_int (ns : List Int) : intsOf (.tuple (ns.map .int)) = ns := by
  show (ns.map PyData.int).map _ = ns
  rw [List.map_map]
  exact List.map_id _
/-! ### the law's deeds -/
def deedW (x : Int) : Str := let k := pickF (seedF x 1) 8; if k < 2 then "make" else if k < 6 then "add" else if k = 6 then "cut" else "drop"
def deedM (x : Int) : PyData := let k := pickF (seedF x 1) 8; if k < 2 then .none else if k < 6 then .tuple ((bytesF (seedF x 2) 9).map .int) else if k = 6 then .int (x / 13 % 7) else .none
def deedN (x : Int) (names : List Str) : Str := names.getD (pickF x names.length).toNat ""
def sp_deed : Sp := fun vs H Q _ => ∃ (x : Int) (pn : Addr) (names : List Str), vs = [.int x, .ref pn] ∧ H pn = some (.lst (names.map V.str)) ∧ names ≠ [] ∧
  ∀ p v2 H', Same H H' → H' p = some (.tup [.str (deedW x), .str (deedN x names), v2]) → Den H' (deedM x) v2 → Q (.ref p) H'
def intOf : PyData → Int
  | .int m => m
  | _ => 0
/-- what a deed does to a table, step by step -/
def stepsT (gs : Tab) (word n : Str) (d : PyData) : Str ⊕ List Tab :=
  if word = "make" then (match lookF gs n with | some _ => .inl "there" | none => .inr [withF gs n (some [])])
  else match lookF gs n with
  | none => .inl "missing"
  | some bs => if word = "drop" then .inr [withF gs n none]
    else if word = "cut" then (if (bs.length : Int) < intOf d then .inl "number" else .inr [withF gs n (some (bs.take (sizeOf' d)))])
    else .inr ((List.range (intsOf d).length).map fun k => withF gs n (some (bs ++ (intsOf d).take (k + 1))))
def moreOk (word : Str) (d : PyData) : Prop := (word = "cut" → ∃ m : Nat, d = .int m) ∧ (word ≠ "make" → word ≠ "cut" → word ≠ "drop" → ∃ ms : List Int, d = .tuple (ms.map .int) ∧ ms.length ≤ 1000)
def TabsV (H0 H : Hp) (xs : List V) (ts : List Tab) : Prop := xs.length = ts.length ∧ ∀ (i : Nat) x t, xs[i]? = some x → ts[i]? = some t → TabV H0 H x t
def StepsV (H0 H : Hp) (v : V) : Str ⊕ List Tab → Prop
  | .inl c => v = .str c
  | .inr ts => ∃ p xs, v = .ref p ∧ H0 p = none ∧ H p = some (.lst xs) ∧ TabsV H0 H xs ts
def sp_dsteps : Sp := fun vs H Q _ => ∃ (a pd : Addr) (lvs : List (Key × V)) (gs : Tab) (word n : Str) (v2 : V) (d2 : PyData), vs = [.ref a, .ref pd] ∧ H a = some (.dK lvs) ∧ TbR H gs lvs ∧ gs.length < 1000 ∧ H pd = some (.tup [.str word, .str n, v2]) ∧ Den H d2 v2 ∧ moreOk word d2 ∧ (∀ n bs, lookF gs n = some bs → bs.length ≤ 100000) ∧
  ∀ v H', Same H H' → StepsV H H' v (stepsT gs word n d2) → Q v H'
section
variable {P : Program} {w : World} {K : PySem.W.Frag} {mg : Str → Option Value} {base : Heap} {C_BadName C_Missing C_There C_Stopped C_BadRow C_BadNumber C_Disk : Addr}
theorem sc__law_disk_deed : FnScope ["_law_seed_here", "_law_names", "_law_name", "_law_pick_here"] ["_law_seed_here", "_law_names"] (defScope s_deed) := ⟨rfl, rfl, rfl, by decide +kernel, rfl, by decide +kernel, by decide +kernel⟩
set_option maxHeartbeats 1000000 in
theorem ok_deed {f : Addr} {fd : FuncData} (F : Fun K "_law_disk_deed" "_law_disk_deed" s_deed f fd) (T : TxtN K mg) (c__law_seed : Callee P w K mg base "_law_seed" 1 ["_law_seed_here", "_law_k"] sp_seed) (c__law_pick : Callee P w K mg base "_law_pick" 1 ["_law_seed_here", "_law_many"] sp_pick) (c__law_bytes : Callee P w K mg base "_law_bytes" 2 ["_law_seed_here", "_law_most"] sp_bytes) : FnOk P w K mg base (CXE P w) 3 f fd ["_law_seed_here", "_law_names"] sp_deed := by
  refine F.okX sc__law_disk_deed (fun vs H Q E h => ?_) (fun cdv A outer s H vs Q E hr h => ?_)
  · obtain ⟨x, pn, names, rfl, _⟩ := h
    rfl
  · obtain ⟨x, pn, names, rfl, hn, hne, q⟩ := h
    refine ⟨_, @pss_cons _ _ _ _ _ (@ps_set _ _ (2) _ _ _ _ sc__law_disk_deed.nd (by rfl) (by first | exact Or.inl (by rfl) | exact Or.inr (by rfl)) (@pe_ix _ _ _ _ _ _ _ (ix_listK K) (@pv _ 1 _ _ (by first | rfl | decide | exact .inl rfl | exact .inr rfl | exact .inr (.inl rfl) | exact .inr (.inr rfl) | (intro _; rfl) | with_unfolding_all rfl) (by first | rfl | decide | exact .inl rfl | exact .inr rfl | exact .inr (.inl rfl) | exact .inr (.inr rfl) | (intro _; rfl) | with_unfolding_all rfl) (by first | rfl | decide | exact .inl rfl | exact .inr rfl | exact .inr (.inl rfl) | exact .inr (.inr rfl) | (intro _; rfl) | with_unfolding_all rfl) (by first | rfl | decide | exact .inl rfl | exact .inr rfl | exact .inr (.inl rfl) | exact .inr (.inr rfl) | (intro _; rfl) | with_unfolding_all rfl)) (@pe_fn _ _ _ _ _ _ _ _ _ _ _ c__law_pick (hr.mono (by decide)) passN (@pa_Name _ _ _ _ _ _ (@pv _ 0 _ _ (by first | rfl | decide | exact .inl rfl | exact .inr rfl | exact .inr (.inl rfl) | exact .inr (.inr rfl) | (intro _; rfl) | with_unfolding_all rfl) (by first | rfl | decide | exact .inl rfl | exact .inr rfl | exact .inr (.inl rfl) | exact .inr (.inr rfl) | (intro _; rfl) | with_unfolding_all rfl) (by first | rfl | decide | exact .inl rfl | exact .inr rfl | exact .inr (.inl rfl) | exact .inr (.inr rfl) | (intro _; rfl) | with_unfolding_all rfl) (by first | rfl | decide | exact .inl rfl | exact .inr rfl | exact .inr (.inl rfl) | exact .inr (.inr rfl) | (intro _; rfl) | with_unfolding_all rfl)) (@pa_Call _ _ _ _ _ _ _ _ (@pe_callB _ _ _ _ _ _ _ _ _ (call_lenK K) (by rfl) T.n_len bt_len (@pa_Name _ _ _ _ _ _ (@pv _ 1 _ _ (by first | rfl | decide | exact .inl rfl | exact .inr rfl | exact .inr (.inl rfl) | exact .inr (.inr rfl) | (intro _; rfl) | with_unfolding_all rfl) (by first | rfl | decide | exact .inl rfl | exact .inr rfl | exact .inr (.inl rfl) | exact .inr (.inr rfl) | (intro _; rfl) | with_unfolding_all rfl) (by first | rfl | decide | exact .inl rfl | exact .inr rfl | exact .inr (.inl rfl) | exact .inr (.inr rfl) | (intro _; rfl) | with_unfolding_all rfl) (by first | rfl | decide | exact .inl rfl | exact .inr rfl | exact .inr (.inl rfl) | exact .inr (.inr rfl) | (intro _; rfl) | with_unfolding_all rfl)) (@pa_nil _)) (by first | rfl | decide | exact .inl rfl | exact .inr rfl | exact .inr (.inl rfl) | exact .inr (.inr rfl) | (intro _; rfl) | with_unfolding_all rfl) (by first | rfl | decide | exact .inl rfl | exact .inr rfl | exact .inr (.inl rfl) | exact .inr (.inr rfl) | (intro _; rfl) | with_unfolding_all rfl) (by first | rfl | decide | exact .inl rfl | exact .inr rfl | exact .inr (.inl rfl) | exact .inr (.inr rfl) | (intro _; rfl) | with_unfolding_all rfl) (by first | rfl | decide | exact .inl rfl | exact .inr rfl | exact .inr (.inl rfl) | exact .inr (.inr rfl) | (intro _; rfl) | with_unfolding_all rfl)) (@pa_nil _))) (by first | rfl | decide | exact .inl rfl | exact .inr rfl | exact .inr (.inl rfl) | exact .inr (.inr rfl) | (intro _; rfl) | with_unfolding_all rfl) (by first | rfl | decide | exact .inl rfl | exact .inr rfl | exact .inr (.inl rfl) | exact .inr (.inr rfl) | (intro _; rfl) | with_unfolding_all rfl) (by first | rfl | decide | exact .inl rfl | exact .inr rfl | exact .inr (.inl rfl) | exact .inr (.inr rfl) | (intro _; rfl) | with_unfolding_all rfl) (by first | rfl | decide | exact .inl rfl | exact .inr rfl | exact .inr (.inl rfl) | exact .inr (.inr rfl) | (intro _; rfl) | with_unfolding_all rfl)) (fun _ _ => rfl)) (by first | rfl | decide | exact .inl rfl | exact .inr rfl | exact .inr (.inl rfl) | exact .inr (.inr rfl) | (intro _; rfl) | with_unfolding_all rfl) (by first | rfl | decide | exact .inl rfl | exact .inr rfl | exact .inr (.inl rfl) | exact .inr (.inr rfl) | (intro _; rfl) | with_unfolding_all rfl)) (@pss_cons _ _ _ _ _ (@ps_set _ _ (3) _ _ _ _ sc__law_disk_deed.nd (by rfl) (by first | exact Or.inl (by rfl) | exact Or.inr (by rfl)) (@pe_fn _ _ _ _ _ _ _ _ _ _ _ c__law_pick (hr.mono (by decide)) passN (@pa_Call _ _ _ _ _ _ _ _ (@pe_fn _ _ _ _ _ _ _ _ _ _ _ c__law_seed (hr.mono (by decide)) passN (@pa_Name _ _ _ _ _ _ (@pv _ 0 _ _ (by first | rfl | decide | exact .inl rfl | exact .inr rfl | exact .inr (.inl rfl) | exact .inr (.inr rfl) | (intro _; rfl) | with_unfolding_all rfl) (by first | rfl | decide | exact .inl rfl | exact .inr rfl | exact .inr (.inl rfl) | exact .inr (.inr rfl) | (intro _; rfl) | with_unfolding_all rfl) (by first | rfl | decide | exact .inl rfl | exact .inr rfl | exact .inr (.inl rfl) | exact .inr (.inr rfl) | (intro _; rfl) | with_unfolding_all rfl) (by first | rfl | decide | exact .inl rfl | exact .inr rfl | exact .inr (.inl rfl) | exact .inr (.inr rfl) | (intro _; rfl) | with_unfolding_all rfl)) (@pa_Constant _ _ _ _ _ _ _ (@pe_int _ _ _ _) (@pa_nil _))) (by first | rfl | decide | exact .inl rfl | exact .inr rfl | exact .inr (.inl rfl) | exact .inr (.inr rfl) | (intro _; rfl) | with_unfolding_all rfl) (by first | rfl | decide | exact .inl rfl | exact .inr rfl | exact .inr (.inl rfl) | exact .inr (.inr rfl) | (intro _; rfl) | with_unfolding_all rfl) (by first | rfl | decide | exact .inl rfl | exact .inr rfl | exact .inr (.inl rfl) | exact .inr (.inr rfl) | (intro _; rfl) | with_unfolding_all rfl) (by first | rfl | decide | exact .inl rfl | exact .inr rfl | exact .inr (.inl rfl) | exact .inr (.inr rfl) | (intro _; rfl) | with_unfolding_all rfl)) (@pa_Constant _ _ _ _ _ _ _ (@pe_int _ _ _ _) (@pa_nil _))) (by first | rfl | decide | exact .inl rfl | exact .inr rfl | exact .inr (.inl rfl) | exact .inr (.inr rfl) | (intro _; rfl) | with_unfolding_all rfl) (by first | rfl | decide | exact .inl rfl | exact .inr rfl | exact .inr (.inl rfl) | exact .inr (.inr rfl) | (intro _; rfl) | with_unfolding_all rfl) (by first | rfl | decide | exact .inl rfl | exact .inr rfl | exact .inr (.inl rfl) | exact .inr (.inr rfl) | (intro _; rfl) | with_unfolding_all rfl) (by first | rfl | decide | exact .inl rfl | exact .inr rfl | exact .inr (.inl rfl) | exact .inr (.inr rfl) | (intro _; rfl) | with_unfolding_all rfl)) (by first | rfl | decide | exact .inl rfl | exact .inr rfl | exact .inr (.inl rfl) | exact .inr (.inr rfl) | (intro _; rfl) | with_unfolding_all rfl) (by first | rfl | decide | exact .inl rfl | exact .inr rfl | exact .inr (.inl rfl) | exact .inr (.inr rfl) | (intro _; rfl) | with_unfolding_all rfl)) (@pss_cons _ _ _ _ _ (@ps_if _ _ _ _ _ _ _ _ (@pt_cmpR _ _ _ _ _ _ _ _ op_lt (@pv _ 3 _ _ (by first | rfl | decide | exact .inl rfl | exact .inr rfl | exact .inr (.inl rfl) | exact .inr (.inr rfl) | (intro _; rfl) | with_unfolding_all rfl) (by first | rfl | decide | exact .inl rfl | exact .inr rfl | exact .inr (.inl rfl) | exact .inr (.inr rfl) | (intro _; rfl) | with_unfolding_all rfl) (by first | rfl | decide | exact .inl rfl | exact .inr rfl | exact .inr (.inl rfl) | exact .inr (.inr rfl) | (intro _; rfl) | with_unfolding_all rfl) (by first | rfl | decide | exact .inl rfl | exact .inr rfl | exact .inr (.inl rfl) | exact .inr (.inr rfl) | (intro _; rfl) | with_unfolding_all rfl)) (@pe_int _ _ _ _) (nomark _)) (@pss_one _ _ _ (@ps_ret _ _ _ _ (@pe_tup _ _ _ _ _ (@pa_Constant _ _ _ _ _ _ _ (@pe_str _ _ _ _) (@pa_Name _ _ _ _ _ _ (@pv _ 2 _ _ (by first | rfl | decide | exact .inl rfl | exact .inr rfl | exact .inr (.inl rfl) | exact .inr (.inr rfl) | (intro _; rfl) | with_unfolding_all rfl) (by first | rfl | decide | exact .inl rfl | exact .inr rfl | exact .inr (.inl rfl) | exact .inr (.inr rfl) | (intro _; rfl) | with_unfolding_all rfl) (by first | rfl | decide | exact .inl rfl | exact .inr rfl | exact .inr (.inl rfl) | exact .inr (.inr rfl) | (intro _; rfl) | with_unfolding_all rfl) (by first | rfl | decide | exact .inl rfl | exact .inr rfl | exact .inr (.inl rfl) | exact .inr (.inr rfl) | (intro _; rfl) | with_unfolding_all rfl)) (@pa_Constant _ _ _ _ _ _ _ (@pe_non _ _ _) (@pa_nil _))))))) (@pss_nil _)) (@pss_cons _ _ _ _ _ (@ps_if _ _ _ _ _ _ _ _ (@pt_cmpR _ _ _ _ _ _ _ _ op_lt (@pv _ 3 _ _ (by first | rfl | decide | exact .inl rfl | exact .inr rfl | exact .inr (.inl rfl) | exact .inr (.inr rfl) | (intro _; rfl) | with_unfolding_all rfl) (by first | rfl | decide | exact .inl rfl | exact .inr rfl | exact .inr (.inl rfl) | exact .inr (.inr rfl) | (intro _; rfl) | with_unfolding_all rfl) (by first | rfl | decide | exact .inl rfl | exact .inr rfl | exact .inr (.inl rfl) | exact .inr (.inr rfl) | (intro _; rfl) | with_unfolding_all rfl) (by first | rfl | decide | exact .inl rfl | exact .inr rfl | exact .inr (.inl rfl) | exact .inr (.inr rfl) | (intro _; rfl) | with_unfolding_all rfl)) (@pe_int _ _ _ _) (nomark _)) (@pss_one _ _ _ (@ps_ret _ _ _ _ (@pe_tup _ _ _ _ _ (@pa_Constant _ _ _ _ _ _ _ (@pe_str _ _ _ _) (@pa_Name _ _ _ _ _ _ (@pv _ 2 _ _ (by first | rfl | decide | exact .inl rfl | exact .inr rfl | exact .inr (.inl rfl) | exact .inr (.inr rfl) | (intro _; rfl) | with_unfolding_all rfl) (by first | rfl | decide | exact .inl rfl | exact .inr rfl | exact .inr (.inl rfl) | exact .inr (.inr rfl) | (intro _; rfl) | with_unfolding_all rfl) (by first | rfl | decide | exact .inl rfl | exact .inr rfl | exact .inr (.inl rfl) | exact .inr (.inr rfl) | (intro _; rfl) | with_unfolding_all rfl) (by first | rfl | decide | exact .inl rfl | exact .inr rfl | exact .inr (.inl rfl) | exact .inr (.inr rfl) | (intro _; rfl) | with_unfolding_all rfl)) (@pa_Call _ _ _ _ _ _ _ _ (@pe_fn _ _ _ _ _ _ _ _ _ _ _ c__law_bytes (hr.mono (by decide)) passN (@pa_Call _ _ _ _ _ _ _ _ (@pe_fn _ _ _ _ _ _ _ _ _ _ _ c__law_seed (hr.mono (by decide)) passN (@pa_Name _ _ _ _ _ _ (@pv _ 0 _ _ (by first | rfl | decide | exact .inl rfl | exact .inr rfl | exact .inr (.inl rfl) | exact .inr (.inr rfl) | (intro _; rfl) | with_unfolding_all rfl) (by first | rfl | decide | exact .inl rfl | exact .inr rfl | exact .inr (.inl rfl) | exact .inr (.inr rfl) | (intro _; rfl) | with_unfolding_all rfl) (by first | rfl | decide | exact .inl rfl | exact .inr rfl | exact .inr (.inl rfl) | exact .inr (.inr rfl) | (intro _; rfl) | with_unfolding_all rfl) (by first | rfl | decide | exact .inl rfl | exact .inr rfl | exact .inr (.inl rfl) | exact .inr (.inr rfl) | (intro _; rfl) | with_unfolding_all rfl)) (@pa_Constant _ _ _ _ _ _ _ (@pe_int _ _ _ _) (@pa_nil _))) (by first | rfl | decide | exact .inl rfl | exact .inr rfl | exact .inr (.inl rfl) | exact .inr (.inr rfl) | (intro _; rfl) | with_unfolding_all rfl) (by first | rfl | decide | exact .inl rfl | exact .inr rfl | exact .inr (.inl rfl) | exact .inr (.inr rfl) | (intro _; rfl) | with_unfolding_all rfl) (by first | rfl | decide | exact .inl rfl | exact .inr rfl | exact .inr (.inl rfl) | exact .inr (.inr rfl) | (intro _; rfl) | with_unfolding_all rfl) (by first | rfl | decide | exact .inl rfl | exact .inr rfl | exact .inr (.inl rfl) | exact .inr (.inr rfl) | (intro _; rfl) | with_unfolding_all rfl)) (@pa_Constant _ _ _ _ _ _ _ (@pe_int _ _ _ _) (@pa_nil _))) (by first | rfl | decide | exact .inl rfl | exact .inr rfl | exact .inr (.inl rfl) | exact .inr (.inr rfl) | (intro _; rfl) | with_unfolding_all rfl) (by first | rfl | decide | exact .inl rfl | exact .inr rfl | exact .inr (.inl rfl) | exact .inr (.inr rfl) | (intro _; rfl) | with_unfolding_all rfl) (by first | rfl | decide | exact .inl rfl | exact .inr rfl | exact .inr (.inl rfl) | exact .inr (.inr rfl) | (intro _; rfl) | with_unfolding_all rfl) (by first | rfl | decide | exact .inl rfl | exact .inr rfl | exact .inr (.inl rfl) | exact .inr (.inr rfl) | (intro _; rfl) | with_unfolding_all rfl)) (@pa_nil _))))))) (@pss_nil _)) (@pss_one _ _ _ (@ps_ret _ _ _ _ (@pe_ix _ _ _ _ _ _ _ (ix_listK K) (@pe_lst _ _ _ _ (@pa_Tuple _ _ _ _ _ _ _ (@pe_tup _ _ _ _ _ (@pa_Constant _ _ _ _ _ _ _ (@pe_str _ _ _ _) (@pa_Name _ _ _ _ _ _ (@pv _ 2 _ _ (by first | rfl | decide | exact .inl rfl | exact .inr rfl | exact .inr (.inl rfl) | exact .inr (.inr rfl) | (intro _; rfl) | with_unfolding_all rfl) (by first | rfl | decide | exact .inl rfl | exact .inr rfl | exact .inr (.inl rfl) | exact .inr (.inr rfl) | (intro _; rfl) | with_unfolding_all rfl) (by first | rfl | decide | exact .inl rfl | exact .inr rfl | exact .inr (.inl rfl) | exact .inr (.inr rfl) | (intro _; rfl) | with_unfolding_all rfl) (by first | rfl | decide | exact .inl rfl | exact .inr rfl | exact .inr (.inl rfl) | exact .inr (.inr rfl) | (intro _; rfl) | with_unfolding_all rfl)) (@pa_BinOp _ _ _ _ _ _ _ _ (@pe_op _ _ _ _ _ _ _ _ op_mod (@pe_op _ _ _ _ _ _ _ _ op_fdiv (@pv _ 0 _ _ (by first | rfl | decide | exact .inl rfl | exact .inr rfl | exact .inr (.inl rfl) | exact .inr (.inr rfl) | (intro _; rfl) | with_unfolding_all rfl) (by first | rfl | decide | exact .inl rfl | exact .inr rfl | exact .inr (.inl rfl) | exact .inr (.inr rfl) | (intro _; rfl) | with_unfolding_all rfl) (by first | rfl | decide | exact .inl rfl | exact .inr rfl | exact .inr (.inl rfl) | exact .inr (.inr rfl) | (intro _; rfl) | with_unfolding_all rfl) (by first | rfl | decide | exact .inl rfl | exact .inr rfl | exact .inr (.inl rfl) | exact .inr (.inr rfl) | (intro _; rfl) | with_unfolding_all rfl)) (@pe_int _ _ _ _)) (@pe_int _ _ _ _)) (@pa_nil _))))) (@pa_Tuple _ _ _ _ _ _ _ (@pe_tup _ _ _ _ _ (@pa_Constant _ _ _ _ _ _ _ (@pe_str _ _ _ _) (@pa_Name _ _ _ _ _ _ (@pv _ 2 _ _ (by first | rfl | decide | exact .inl rfl | exact .inr rfl | exact .inr (.inl rfl) | exact .inr (.inr rfl) | (intro _; rfl) | with_unfolding_all rfl) (by first | rfl | decide | exact .inl rfl | exact .inr rfl | exact .inr (.inl rfl) | exact .inr (.inr rfl) | (intro _; rfl) | with_unfolding_all rfl) (by first | rfl | decide | exact .inl rfl | exact .inr rfl | exact .inr (.inl rfl) | exact .inr (.inr rfl) | (intro _; rfl) | with_unfolding_all rfl) (by first | rfl | decide | exact .inl rfl | exact .inr rfl | exact .inr (.inl rfl) | exact .inr (.inr rfl) | (intro _; rfl) | with_unfolding_all rfl)) (@pa_Constant _ _ _ _ _ _ _ (@pe_non _ _ _) (@pa_nil _))))) (@pa_nil _)))) (@pe_op _ _ _ _ _ _ _ _ op_sub (@pv _ 3 _ _ (by first | rfl | decide | exact .inl rfl | exact .inr rfl | exact .inr (.inl rfl) | exact .inr (.inr rfl) | (intro _; rfl) | with_unfolding_all rfl) (by first | rfl | decide | exact .inl rfl | exact .inr rfl | exact .inr (.inl rfl) | exact .inr (.inr rfl) | (intro _; rfl) | with_unfolding_all rfl) (by first | rfl | decide | exact .inl rfl | exact .inr rfl | exact .inr (.inl rfl) | exact .inr (.inr rfl) | (intro _; rfl) | with_unfolding_all rfl) (by first | rfl | decide | exact .inl rfl | exact .inr rfl | exact .inr (.inl rfl) | exact .inr (.inr rfl) | (intro _; rfl) | with_unfolding_all rfl)) (@pe_int _ _ _ _)) (fun _ _ => rfl))))))), ?_⟩
    have nl : 0 < names.length := List.length_pos_iff.mpr hne
    have i0 := Int.emod_nonneg (x / 97) (show (names.length : Int) ≠ 0 by omega)
    have i1 := Int.emod_lt_of_pos (x / 97) (show (0 : Int) < names.length by omega)
    have il : (pickF x names.length).toNat < names.length := by unfold pickF; omega
    have eN : (names.map V.str)[(pickF x names.length).toNat]? = some (.str (deedN x names)) := by
      unfold deedN
      rw [List.getElem?_map, List.getD_eq_getElem?_getD, List.getElem?_eq_getElem il]
      rfl
    refine ⟨_, rfl, _, rfl, _, rfl, pn, _, rfl, .inl (SqL.of hn), x, _, rfl, by rw [List.length_map]; omega, pn, _, _, .str (deedN x names), rfl, rfl, SqL.of hn, by rw [List.length_map]; exact atI_pos (by unfold pickF; exact i0) eN, ?_⟩
    refine ⟨_, rfl, x, 1, rfl, _, 8, rfl, by decide, ?_⟩
    have k0 := Int.emod_nonneg (seedF x 1 / 97) (show (8 : Int) ≠ 0 by decide)
    have k8 := Int.emod_lt_of_pos (seedF x 1 / 97) (show (0 : Int) < 8 by decide)
    have kd : pickF (seedF x 1) 8 = seedF x 1 / 97 % 8 := rfl
    have qW : deedW x = if pickF (seedF x 1) 8 < 2 then ("make" : Str) else if pickF (seedF x 1) 8 < 6 then ("add" : Str) else if pickF (seedF x 1) 8 = 6 then ("cut" : Str) else ("drop" : Str) := rfl
    have qM : deedM x = if pickF (seedF x 1) 8 < 2 then .none else if pickF (seedF x 1) 8 < 6 then .tuple ((bytesF (seedF x 2) 9).map .int) else if pickF (seedF x 1) 8 = 6 then .int (x / 13 % 7) else .none := rfl
    generalize pickF (seedF x 1) 8 = k at kd qW qM ⊢
    rw [← kd] at k0 k8
    refine ⟨_, rfl, _, _, rfl, rfl, _, rfl, ?_⟩
    show if decide (k < 2) = true then _ else _
    by_cases h2 : k < 2
    · rw [if_pos (decide_eq_true h2)]
      rw [if_pos h2] at qW qM
      refine ⟨_, rfl, le_size, fun p hp => ?_⟩
      exact q p .non _ (same_upd hp) (by rw [qW]; exact upd_same) (by rw [qM]; simp only [Den])
    rw [if_neg (by simpa using h2)]
    rw [if_neg h2] at qW qM
    refine go_next rfl ?_
    refine ⟨_, rfl, _, _, rfl, rfl, _, rfl, ?_⟩
    show if decide (k < 6) = true then _ else _
    by_cases h6 : k < 6
    · rw [if_pos (decide_eq_true h6)]
      rw [if_pos h6] at qW qM
      refine ⟨_, rfl, _, rfl, x, 2, rfl, _, 9, rfl, by decide, by decide, fun pb H1 S1 g1 => ⟨le_size, fun p hp => ?_⟩⟩
      refine q p (.ref pb) _ (S1.trans (same_upd hp)) (by rw [qW]; exact upd_same) ?_
      rw [qM]
      simp only [Den]
      exact ⟨pb, _, rfl, same_upd hp _ _ g1, dens_ints.mpr rfl⟩
    rw [if_neg (by simpa using h6)]
    rw [if_neg h6] at qW qM
    refine go_next rfl ?_
    refine ⟨_, rfl, _, rfl, _, _, rfl, rfl, ⟨by decide, by decide⟩, _, _, rfl, rfl, (by show (0 : Int) < 7; decide), le_size, fun p1 hp1 => ⟨_, rfl, le_size, fun p2 hp2 => ⟨le_size, fun p3 hp3 => ?_⟩⟩⟩
    have S1 := same_upd (o := .tup [.str "cut", .str (deedN x names), .int (x / 13 % 7)]) hp1
    have S2 := same_upd (o := .tup [.str "drop", .str (deedN x names), .non]) hp2
    have S3 := same_upd (o := .lst [V.ref p1, V.ref p2]) hp3
    have g1 := S3 _ _ (S2 _ _ (upd_same (H := H) (a := p1) (o := .tup [.str "cut", .str (deedN x names), .int (x / 13 % 7)])))
    have g2 := S3 _ _ (upd_same (H := upd H p1 (.tup [.str "cut", .str (deedN x names), .int (x / 13 % 7)])) (a := p2) (o := .tup [.str "drop", .str (deedN x names), .non]))
    by_cases h7 : k = 6
    · rw [if_pos h7] at qW qM
      refine ⟨_, rfl, _, _, rfl, rfl, p3, _, _, .ref p1, rfl, rfl, SqL.of upd_same, by rw [h7]; rfl, ?_⟩
      exact q p1 _ _ (S1.trans (S2.trans S3)) (by rw [qW]; exact g1) (by rw [qM]; simp only [Den])
    · rw [if_neg h7] at qW qM
      have h7 : k = 7 := by omega
      refine ⟨_, rfl, _, _, rfl, rfl, p3, _, _, .ref p2, rfl, rfl, SqL.of upd_same, by rw [h7]; rfl, ?_⟩
      exact q p2 _ _ (S1.trans (S2.trans S3)) (by rw [qW]; exact g2) (by rw [qM]; simp only [Den])
theorem sc__law_disk_steps : FnScope ["_law_files_here", "_law_deed", "_law_word", "_law_name", "_law_more", "_law_some"] ["_law_files_here", "_law_deed"] (defScope s_dsteps) := ⟨rfl, rfl, rfl, by decide +kernel, rfl, by decide +kernel, by decide +kernel⟩
theorem tab_n {H0 H H' : Hp} (s : SameN H H') {v : V} {gs : Tab} (h : TabV H0 H v gs) : TabV H0 H' v gs := by
  obtain ⟨p, lvs, e, hn, g, tb⟩ := h
  exact ⟨p, lvs, e, hn, s _ _ g (fun zs z => by cases z), tb_t (fun b xs e => s _ _ e (fun zs z => by cases z)) tb⟩
theorem tabs_one {H0 H : Hp} {v : V} {gs : Tab} (h : TabV H0 H v gs) : TabsV H0 H [v] [gs] := ⟨rfl, fun i x t e1 e2 => by
  match i with
  | 0 =>
    cases e1
    cases e2
    exact h
  | i + 1 => simp at e1⟩
theorem dgt {a b : Int} : decide (a > b) = decide (b < a) := rfl
set_option maxHeartbeats 2000000 in
theorem ok_dsteps {f : Addr} {fd : FuncData} (F : Fun K "_law_disk_steps" "_law_disk_steps" s_dsteps f fd) (T : TxtN K mg) (c__law_with : Callee P w K mg base "_law_with" 1 ["_law_files_here", "_law_name", "_law_some"] sp_with) : FnOk P w K mg base (CXE P w) 2 f fd ["_law_files_here", "_law_deed"] sp_dsteps := by
  refine F.okX sc__law_disk_steps (fun vs H Q E h => ?_) (fun cdv A outer s H vs Q E hr h => ?_)
  · obtain ⟨a, pd, lvs, gs, word, n, v2, d2, rfl, _⟩ := h
    rfl
  · obtain ⟨a, pd, lvs, gs, word, n, v2, d2, rfl, ha, tb, hl, hp, hd2, ⟨mo1, mo2⟩, hz, q⟩ := h
    have qc : ∀ c, stepsT gs word n d2 = .inl c → ∀ H', Same H H' → Q (.str c) H' := fun c e H' S => q _ H' S (by rw [e]; rfl)
    have qt : ∀ ts, stepsT gs word n d2 = .inr ts → ∀ p xs H', Same H H' → H p = none → H' p = some (.lst xs) → TabsV H H' xs ts → Q (.ref p) H' := fun ts e p xs H' S hn g tv => q _ H' S (by rw [e]; exact ⟨p, xs, rfl, hn, g, tv⟩)
    clear q
    refine ⟨_, @pss_cons _ _ _ _ _ (@ps_asg _ _ _ _ _ _ (@pv _ 1 _ _ (by first | rfl | decide | exact .inl rfl | exact .inr rfl | exact .inr (.inl rfl) | exact .inr (.inr rfl) | (intro _; rfl) | with_unfolding_all rfl) (by first | rfl | decide | exact .inl rfl | exact .inr rfl | exact .inr (.inl rfl) | exact .inr (.inr rfl) | (intro _; rfl) | with_unfolding_all rfl) (by first | rfl | decide | exact .inl rfl | exact .inr rfl | exact .inr (.inl rfl) | exact .inr (.inr rfl) | (intro _; rfl) | with_unfolding_all rfl) (by first | rfl | decide | exact .inl rfl | exact .inr rfl | exact .inr (.inl rfl) | exact .inr (.inr rfl) | (intro _; rfl) | with_unfolding_all rfl)) (@pg_tupK _ K _ _ _ (3) _ (@pgs_cons _ _ _ _ _ (@pg_name _ _ (2) _ sc__law_disk_steps.nd (by rfl) (by first | exact Or.inl (by rfl) | exact Or.inr (by rfl)) (by first | rfl | decide | exact .inl rfl | exact .inr rfl | exact .inr (.inl rfl) | exact .inr (.inr rfl) | (intro _; rfl) | with_unfolding_all rfl)) (@pgs_cons _ _ _ _ _ (@pg_name _ _ (3) _ sc__law_disk_steps.nd (by rfl) (by first | exact Or.inl (by rfl) | exact Or.inr (by rfl)) (by first | rfl | decide | exact .inl rfl | exact .inr rfl | exact .inr (.inl rfl) | exact .inr (.inr rfl) | (intro _; rfl) | with_unfolding_all rfl)) (@pgs_cons _ _ _ _ _ (@pg_name _ _ (4) _ sc__law_disk_steps.nd (by rfl) (by first | exact Or.inl (by rfl) | exact Or.inr (by rfl)) (by first | rfl | decide | exact .inl rfl | exact .inr rfl | exact .inr (.inl rfl) | exact .inr (.inr rfl) | (intro _; rfl) | with_unfolding_all rfl)) (@pgs_nil _) (by first | rfl | decide | exact .inl rfl | exact .inr rfl | exact .inr (.inl rfl) | exact .inr (.inr rfl) | (intro _; rfl) | with_unfolding_all rfl)) (by first | rfl | decide | exact .inl rfl | exact .inr rfl | exact .inr (.inl rfl) | exact .inr (.inr rfl) | (intro _; rfl) | with_unfolding_all rfl)) (by first | rfl | decide | exact .inl rfl | exact .inr rfl | exact .inr (.inl rfl) | exact .inr (.inr rfl) | (intro _; rfl) | with_unfolding_all rfl)) (by first | rfl | decide | exact .inl rfl | exact .inr rfl | exact .inr (.inl rfl) | exact .inr (.inr rfl) | (intro _; rfl) | with_unfolding_all rfl) (by first | rfl | decide | exact .inl rfl | exact .inr rfl | exact .inr (.inl rfl) | exact .inr (.inr rfl) | (intro _; rfl) | with_unfolding_all rfl) (by first | rfl | decide | exact .inl rfl | exact .inr rfl | exact .inr (.inl rfl) | exact .inr (.inr rfl) | (intro _; rfl) | with_unfolding_all rfl) (by first | rfl | decide | exact .inl rfl | exact .inr rfl | exact .inr (.inl rfl) | exact .inr (.inr rfl) | (intro _; rfl) | with_unfolding_all rfl)) (by first | rfl | decide | exact .inl rfl | exact .inr rfl | exact .inr (.inl rfl) | exact .inr (.inr rfl) | (intro _; rfl) | with_unfolding_all rfl) (by first | rfl | decide | exact .inl rfl | exact .inr rfl | exact .inr (.inl rfl) | exact .inr (.inr rfl) | (intro _; rfl) | with_unfolding_all rfl) (by first | rfl | decide | exact .inl rfl | exact .inr rfl | exact .inr (.inl rfl) | exact .inr (.inr rfl) | (intro _; rfl) | with_unfolding_all rfl)) (@pss_cons _ _ _ _ _ (@ps_if _ _ _ _ _ _ _ _ (@pt_cmpR _ _ _ _ _ _ _ _ op_eq (@pv _ 2 _ _ (by first | rfl | decide | exact .inl rfl | exact .inr rfl | exact .inr (.inl rfl) | exact .inr (.inr rfl) | (intro _; rfl) | with_unfolding_all rfl) (by first | rfl | decide | exact .inl rfl | exact .inr rfl | exact .inr (.inl rfl) | exact .inr (.inr rfl) | (intro _; rfl) | with_unfolding_all rfl) (by first | rfl | decide | exact .inl rfl | exact .inr rfl | exact .inr (.inl rfl) | exact .inr (.inr rfl) | (intro _; rfl) | with_unfolding_all rfl) (by first | rfl | decide | exact .inl rfl | exact .inr rfl | exact .inr (.inl rfl) | exact .inr (.inr rfl) | (intro _; rfl) | with_unfolding_all rfl)) (@pe_str _ _ _ _) (nomark _)) (@pss_one _ _ _ (@ps_ret _ _ _ _ (@pe_ifExp _ _ _ _ _ _ _ _ (@pt_cmp _ _ _ _ _ _ (@pc_din _ _ _ _ _ (hu1 hr.units) (@pv _ 3 _ _ (by first | rfl | decide | exact .inl rfl | exact .inr rfl | exact .inr (.inl rfl) | exact .inr (.inr rfl) | (intro _; rfl) | with_unfolding_all rfl) (by first | rfl | decide | exact .inl rfl | exact .inr rfl | exact .inr (.inl rfl) | exact .inr (.inr rfl) | (intro _; rfl) | with_unfolding_all rfl) (by first | rfl | decide | exact .inl rfl | exact .inr rfl | exact .inr (.inl rfl) | exact .inr (.inr rfl) | (intro _; rfl) | with_unfolding_all rfl) (by first | rfl | decide | exact .inl rfl | exact .inr rfl | exact .inr (.inl rfl) | exact .inr (.inr rfl) | (intro _; rfl) | with_unfolding_all rfl)) (@pv _ 0 _ _ (by first | rfl | decide | exact .inl rfl | exact .inr rfl | exact .inr (.inl rfl) | exact .inr (.inr rfl) | (intro _; rfl) | with_unfolding_all rfl) (by first | rfl | decide | exact .inl rfl | exact .inr rfl | exact .inr (.inl rfl) | exact .inr (.inr rfl) | (intro _; rfl) | with_unfolding_all rfl) (by first | rfl | decide | exact .inl rfl | exact .inr rfl | exact .inr (.inl rfl) | exact .inr (.inr rfl) | (intro _; rfl) | with_unfolding_all rfl) (by first | rfl | decide | exact .inl rfl | exact .inr rfl | exact .inr (.inl rfl) | exact .inr (.inr rfl) | (intro _; rfl) | with_unfolding_all rfl))) (by first | rfl | decide | exact .inl rfl | exact .inr rfl | exact .inr (.inl rfl) | exact .inr (.inr rfl) | (intro _; rfl) | with_unfolding_all rfl)) (@pe_str _ _ _ _) (@pe_lst _ _ _ _ (@pa_Call _ _ _ _ _ _ _ _ (@pe_fn _ _ _ _ _ _ _ _ _ _ _ c__law_with (hr.mono (by decide)) passN (@pa_Name _ _ _ _ _ _ (@pv _ 0 _ _ (by first | rfl | decide | exact .inl rfl | exact .inr rfl | exact .inr (.inl rfl) | exact .inr (.inr rfl) | (intro _; rfl) | with_unfolding_all rfl) (by first | rfl | decide | exact .inl rfl | exact .inr rfl | exact .inr (.inl rfl) | exact .inr (.inr rfl) | (intro _; rfl) | with_unfolding_all rfl) (by first | rfl | decide | exact .inl rfl | exact .inr rfl | exact .inr (.inl rfl) | exact .inr (.inr rfl) | (intro _; rfl) | with_unfolding_all rfl) (by first | rfl | decide | exact .inl rfl | exact .inr rfl | exact .inr (.inl rfl) | exact .inr (.inr rfl) | (intro _; rfl) | with_unfolding_all rfl)) (@pa_Name _ _ _ _ _ _ (@pv _ 3 _ _ (by first | rfl | decide | exact .inl rfl | exact .inr rfl | exact .inr (.inl rfl) | exact .inr (.inr rfl) | (intro _; rfl) | with_unfolding_all rfl) (by first | rfl | decide | exact .inl rfl | exact .inr rfl | exact .inr (.inl rfl) | exact .inr (.inr rfl) | (intro _; rfl) | with_unfolding_all rfl) (by first | rfl | decide | exact .inl rfl | exact .inr rfl | exact .inr (.inl rfl) | exact .inr (.inr rfl) | (intro _; rfl) | with_unfolding_all rfl) (by first | rfl | decide | exact .inl rfl | exact .inr rfl | exact .inr (.inl rfl) | exact .inr (.inr rfl) | (intro _; rfl) | with_unfolding_all rfl)) (@pa_Tuple _ _ _ _ _ _ _ (@pe_tup _ _ _ _ _ (@pa_nil _)) (@pa_nil _)))) (by first | rfl | decide | exact .inl rfl | exact .inr rfl | exact .inr (.inl rfl) | exact .inr (.inr rfl) | (intro _; rfl) | with_unfolding_all rfl) (by first | rfl | decide | exact .inl rfl | exact .inr rfl | exact .inr (.inl rfl) | exact .inr (.inr rfl) | (intro _; rfl) | with_unfolding_all rfl) (by first | rfl | decide | exact .inl rfl | exact .inr rfl | exact .inr (.inl rfl) | exact .inr (.inr rfl) | (intro _; rfl) | with_unfolding_all rfl) (by first | rfl | decide | exact .inl rfl | exact .inr rfl | exact .inr (.inl rfl) | exact .inr (.inr rfl) | (intro _; rfl) | with_unfolding_all rfl)) (@pa_nil _)))))) (@pss_nil _)) (@pss_cons _ _ _ _ _ (@ps_if _ _ _ _ _ _ _ _ (@pt_cmp _ _ _ _ _ _ (@pc_dnotin _ _ _ _ _ (hu1 hr.units) (@pv _ 3 _ _ (by first | rfl | decide | exact .inl rfl | exact .inr rfl | exact .inr (.inl rfl) | exact .inr (.inr rfl) | (intro _; rfl) | with_unfolding_all rfl) (by first | rfl | decide | exact .inl rfl | exact .inr rfl | exact .inr (.inl rfl) | exact .inr (.inr rfl) | (intro _; rfl) | with_unfolding_all rfl) (by first | rfl | decide | exact .inl rfl | exact .inr rfl | exact .inr (.inl rfl) | exact .inr (.inr rfl) | (intro _; rfl) | with_unfolding_all rfl) (by first | rfl | decide | exact .inl rfl | exact .inr rfl | exact .inr (.inl rfl) | exact .inr (.inr rfl) | (intro _; rfl) | with_unfolding_all rfl)) (@pv _ 0 _ _ (by first | rfl | decide | exact .inl rfl | exact .inr rfl | exact .inr (.inl rfl) | exact .inr (.inr rfl) | (intro _; rfl) | with_unfolding_all rfl) (by first | rfl | decide | exact .inl rfl | exact .inr rfl | exact .inr (.inl rfl) | exact .inr (.inr rfl) | (intro _; rfl) | with_unfolding_all rfl) (by first | rfl | decide | exact .inl rfl | exact .inr rfl | exact .inr (.inl rfl) | exact .inr (.inr rfl) | (intro _; rfl) | with_unfolding_all rfl) (by first | rfl | decide | exact .inl rfl | exact .inr rfl | exact .inr (.inl rfl) | exact .inr (.inr rfl) | (intro _; rfl) | with_unfolding_all rfl))) (by first | rfl | decide | exact .inl rfl | exact .inr rfl | exact .inr (.inl rfl) | exact .inr (.inr rfl) | (intro _; rfl) | with_unfolding_all rfl)) (@pss_one _ _ _ (@ps_ret _ _ _ _ (@pe_str _ _ _ _))) (@pss_nil _)) (@pss_cons _ _ _ _ _ (@ps_set _ _ (5) _ _ _ _ sc__law_disk_steps.nd (by rfl) (by first | exact Or.inl (by rfl) | exact Or.inr (by rfl)) (@pe_dget _ _ _ _ _ _ (hu1 hr.units) (@pv _ 0 _ _ (by first | rfl | decide | exact .inl rfl | exact .inr rfl | exact .inr (.inl rfl) | exact .inr (.inr rfl) | (intro _; rfl) | with_unfolding_all rfl) (by first | rfl | decide | exact .inl rfl | exact .inr rfl | exact .inr (.inl rfl) | exact .inr (.inr rfl) | (intro _; rfl) | with_unfolding_all rfl) (by first | rfl | decide | exact .inl rfl | exact .inr rfl | exact .inr (.inl rfl) | exact .inr (.inr rfl) | (intro _; rfl) | with_unfolding_all rfl) (by first | rfl | decide | exact .inl rfl | exact .inr rfl | exact .inr (.inl rfl) | exact .inr (.inr rfl) | (intro _; rfl) | with_unfolding_all rfl)) (@pv _ 3 _ _ (by first | rfl | decide | exact .inl rfl | exact .inr rfl | exact .inr (.inl rfl) | exact .inr (.inr rfl) | (intro _; rfl) | with_unfolding_all rfl) (by first | rfl | decide | exact .inl rfl | exact .inr rfl | exact .inr (.inl rfl) | exact .inr (.inr rfl) | (intro _; rfl) | with_unfolding_all rfl) (by first | rfl | decide | exact .inl rfl | exact .inr rfl | exact .inr (.inl rfl) | exact .inr (.inr rfl) | (intro _; rfl) | with_unfolding_all rfl) (by first | rfl | decide | exact .inl rfl | exact .inr rfl | exact .inr (.inl rfl) | exact .inr (.inr rfl) | (intro _; rfl) | with_unfolding_all rfl)) (fun _ _ => rfl)) (by first | rfl | decide | exact .inl rfl | exact .inr rfl | exact .inr (.inl rfl) | exact .inr (.inr rfl) | (intro _; rfl) | with_unfolding_all rfl) (by first | rfl | decide | exact .inl rfl | exact .inr rfl | exact .inr (.inl rfl) | exact .inr (.inr rfl) | (intro _; rfl) | with_unfolding_all rfl)) (@pss_cons _ _ _ _ _ (@ps_if _ _ _ _ _ _ _ _ (@pt_cmpR _ _ _ _ _ _ _ _ op_eq (@pv _ 2 _ _ (by first | rfl | decide | exact .inl rfl | exact .inr rfl | exact .inr (.inl rfl) | exact .inr (.inr rfl) | (intro _; rfl) | with_unfolding_all rfl) (by first | rfl | decide | exact .inl rfl | exact .inr rfl | exact .inr (.inl rfl) | exact .inr (.inr rfl) | (intro _; rfl) | with_unfolding_all rfl) (by first | rfl | decide | exact .inl rfl | exact .inr rfl | exact .inr (.inl rfl) | exact .inr (.inr rfl) | (intro _; rfl) | with_unfolding_all rfl) (by first | rfl | decide | exact .inl rfl | exact .inr rfl | exact .inr (.inl rfl) | exact .inr (.inr rfl) | (intro _; rfl) | with_unfolding_all rfl)) (@pe_str _ _ _ _) (nomark _)) (@pss_one _ _ _ (@ps_ret _ _ _ _ (@pe_lst _ _ _ _ (@pa_Call _ _ _ _ _ _ _ _ (@pe_fn _ _ _ _ _ _ _ _ _ _ _ c__law_with (hr.mono (by decide)) passN (@pa_Name _ _ _ _ _ _ (@pv _ 0 _ _ (by first | rfl | decide | exact .inl rfl | exact .inr rfl | exact .inr (.inl rfl) | exact .inr (.inr rfl) | (intro _; rfl) | with_unfolding_all rfl) (by first | rfl | decide | exact .inl rfl | exact .inr rfl | exact .inr (.inl rfl) | exact .inr (.inr rfl) | (intro _; rfl) | with_unfolding_all rfl) (by first | rfl | decide | exact .inl rfl | exact .inr rfl | exact .inr (.inl rfl) | exact .inr (.inr rfl) | (intro _; rfl) | with_unfolding_all rfl) (by first | rfl | decide | exact .inl rfl | exact .inr rfl | exact .inr (.inl rfl) | exact .inr (.inr rfl) | (intro _; rfl) | with_unfolding_all rfl)) (@pa_Name _ _ _ _ _ _ (@pv _ 3 _ _ (by first | rfl | decide | exact .inl rfl | exact .inr rfl | exact .inr (.inl rfl) | exact .inr (.inr rfl) | (intro _; rfl) | with_unfolding_all rfl) (by first | rfl | decide | exact .inl rfl | exact .inr rfl | exact .inr (.inl rfl) | exact .inr (.inr rfl) | (intro _; rfl) | with_unfolding_all rfl) (by first | rfl | decide | exact .inl rfl | exact .inr rfl | exact .inr (.inl rfl) | exact .inr (.inr rfl) | (intro _; rfl) | with_unfolding_all rfl) (by first | rfl | decide | exact .inl rfl | exact .inr rfl | exact .inr (.inl rfl) | exact .inr (.inr rfl) | (intro _; rfl) | with_unfolding_all rfl)) (@pa_Constant _ _ _ _ _ _ _ (@pe_non _ _ _) (@pa_nil _)))) (by first | rfl | decide | exact .inl rfl | exact .inr rfl | exact .inr (.inl rfl) | exact .inr (.inr rfl) | (intro _; rfl) | with_unfolding_all rfl) (by first | rfl | decide | exact .inl rfl | exact .inr rfl | exact .inr (.inl rfl) | exact .inr (.inr rfl) | (intro _; rfl) | with_unfolding_all rfl) (by first | rfl | decide | exact .inl rfl | exact .inr rfl | exact .inr (.inl rfl) | exact .inr (.inr rfl) | (intro _; rfl) | with_unfolding_all rfl) (by first | rfl | decide | exact .inl rfl | exact .inr rfl | exact .inr (.inl rfl) | exact .inr (.inr rfl) | (intro _; rfl) | with_unfolding_all rfl)) (@pa_nil _))))) (@pss_nil _)) (@pss_cons _ _ _ _ _ (@ps_if _ _ _ _ _ _ _ _ (@PW.pt _ _ _ (@pw_and _ _ _ _ _ _ _ (@pt_cmpR _ _ _ _ _ _ _ _ op_eq (@pv _ 2 _ _ (by first | rfl | decide | exact .inl rfl | exact .inr rfl | exact .inr (.inl rfl) | exact .inr (.inr rfl) | (intro _; rfl) | with_unfolding_all rfl) (by first | rfl | decide | exact .inl rfl | exact .inr rfl | exact .inr (.inl rfl) | exact .inr (.inr rfl) | (intro _; rfl) | with_unfolding_all rfl) (by first | rfl | decide | exact .inl rfl | exact .inr rfl | exact .inr (.inl rfl) | exact .inr (.inr rfl) | (intro _; rfl) | with_unfolding_all rfl) (by first | rfl | decide | exact .inl rfl | exact .inr rfl | exact .inr (.inl rfl) | exact .inr (.inr rfl) | (intro _; rfl) | with_unfolding_all rfl)) (@pe_str _ _ _ _) (nomark _)) (@pw_and1 _ _ _ _ (@pt_cmpR _ _ _ _ _ _ _ _ op_gt (@pv _ 4 _ _ (by first | rfl | decide | exact .inl rfl | exact .inr rfl | exact .inr (.inl rfl) | exact .inr (.inr rfl) | (intro _; rfl) | with_unfolding_all rfl) (by first | rfl | decide | exact .inl rfl | exact .inr rfl | exact .inr (.inl rfl) | exact .inr (.inr rfl) | (intro _; rfl) | with_unfolding_all rfl) (by first | rfl | decide | exact .inl rfl | exact .inr rfl | exact .inr (.inl rfl) | exact .inr (.inr rfl) | (intro _; rfl) | with_unfolding_all rfl) (by first | rfl | decide | exact .inl rfl | exact .inr rfl | exact .inr (.inl rfl) | exact .inr (.inr rfl) | (intro _; rfl) | with_unfolding_all rfl)) (@pe_callB _ _ _ _ _ _ _ _ _ (call_lenK K) (by rfl) T.n_len bt_len (@pa_Name _ _ _ _ _ _ (@pv _ 5 _ _ (by first | rfl | decide | exact .inl rfl | exact .inr rfl | exact .inr (.inl rfl) | exact .inr (.inr rfl) | (intro _; rfl) | with_unfolding_all rfl) (by first | rfl | decide | exact .inl rfl | exact .inr rfl | exact .inr (.inl rfl) | exact .inr (.inr rfl) | (intro _; rfl) | with_unfolding_all rfl) (by first | rfl | decide | exact .inl rfl | exact .inr rfl | exact .inr (.inl rfl) | exact .inr (.inr rfl) | (intro _; rfl) | with_unfolding_all rfl) (by first | rfl | decide | exact .inl rfl | exact .inr rfl | exact .inr (.inl rfl) | exact .inr (.inr rfl) | (intro _; rfl) | with_unfolding_all rfl)) (@pa_nil _)) (by first | rfl | decide | exact .inl rfl | exact .inr rfl | exact .inr (.inl rfl) | exact .inr (.inr rfl) | (intro _; rfl) | with_unfolding_all rfl) (by first | rfl | decide | exact .inl rfl | exact .inr rfl | exact .inr (.inl rfl) | exact .inr (.inr rfl) | (intro _; rfl) | with_unfolding_all rfl) (by first | rfl | decide | exact .inl rfl | exact .inr rfl | exact .inr (.inl rfl) | exact .inr (.inr rfl) | (intro _; rfl) | with_unfolding_all rfl) (by first | rfl | decide | exact .inl rfl | exact .inr rfl | exact .inr (.inl rfl) | exact .inr (.inr rfl) | (intro _; rfl) | with_unfolding_all rfl)) (nomark _))))) (@pss_one _ _ _ (@ps_ret _ _ _ _ (@pe_str _ _ _ _))) (@pss_nil _)) (@pss_cons _ _ _ _ _ (@ps_if _ _ _ _ _ _ _ _ (@pt_cmpR _ _ _ _ _ _ _ _ op_eq (@pv _ 2 _ _ (by first | rfl | decide | exact .inl rfl | exact .inr rfl | exact .inr (.inl rfl) | exact .inr (.inr rfl) | (intro _; rfl) | with_unfolding_all rfl) (by first | rfl | decide | exact .inl rfl | exact .inr rfl | exact .inr (.inl rfl) | exact .inr (.inr rfl) | (intro _; rfl) | with_unfolding_all rfl) (by first | rfl | decide | exact .inl rfl | exact .inr rfl | exact .inr (.inl rfl) | exact .inr (.inr rfl) | (intro _; rfl) | with_unfolding_all rfl) (by first | rfl | decide | exact .inl rfl | exact .inr rfl | exact .inr (.inl rfl) | exact .inr (.inr rfl) | (intro _; rfl) | with_unfolding_all rfl)) (@pe_str _ _ _ _) (nomark _)) (@pss_one _ _ _ (@ps_ret _ _ _ _ (@pe_lst _ _ _ _ (@pa_Call _ _ _ _ _ _ _ _ (@pe_fn _ _ _ _ _ _ _ _ _ _ _ c__law_with (hr.mono (by decide)) passN (@pa_Name _ _ _ _ _ _ (@pv _ 0 _ _ (by first | rfl | decide | exact .inl rfl | exact .inr rfl | exact .inr (.inl rfl) | exact .inr (.inr rfl) | (intro _; rfl) | with_unfolding_all rfl) (by first | rfl | decide | exact .inl rfl | exact .inr rfl | exact .inr (.inl rfl) | exact .inr (.inr rfl) | (intro _; rfl) | with_unfolding_all rfl) (by first | rfl | decide | exact .inl rfl | exact .inr rfl | exact .inr (.inl rfl) | exact .inr (.inr rfl) | (intro _; rfl) | with_unfolding_all rfl) (by first | rfl | decide | exact .inl rfl | exact .inr rfl | exact .inr (.inl rfl) | exact .inr (.inr rfl) | (intro _; rfl) | with_unfolding_all rfl)) (@pa_Name _ _ _ _ _ _ (@pv _ 3 _ _ (by first | rfl | decide | exact .inl rfl | exact .inr rfl | exact .inr (.inl rfl) | exact .inr (.inr rfl) | (intro _; rfl) | with_unfolding_all rfl) (by first | rfl | decide | exact .inl rfl | exact .inr rfl | exact .inr (.inl rfl) | exact .inr (.inr rfl) | (intro _; rfl) | with_unfolding_all rfl) (by first | rfl | decide | exact .inl rfl | exact .inr rfl | exact .inr (.inl rfl) | exact .inr (.inr rfl) | (intro _; rfl) | with_unfolding_all rfl) (by first | rfl | decide | exact .inl rfl | exact .inr rfl | exact .inr (.inl rfl) | exact .inr (.inr rfl) | (intro _; rfl) | with_unfolding_all rfl)) (@pa_Subscript _ _ _ _ _ _ _ (@pe_slice _ _ _ _ _ _ _ _ _ _ (sl_tupK K) (@pv _ 5 _ _ (by first | rfl | decide | exact .inl rfl | exact .inr rfl | exact .inr (.inl rfl) | exact .inr (.inr rfl) | (intro _; rfl) | with_unfolding_all rfl) (by first | rfl | decide | exact .inl rfl | exact .inr rfl | exact .inr (.inl rfl) | exact .inr (.inr rfl) | (intro _; rfl) | with_unfolding_all rfl) (by first | rfl | decide | exact .inl rfl | exact .inr rfl | exact .inr (.inl rfl) | exact .inr (.inr rfl) | (intro _; rfl) | with_unfolding_all rfl) (by first | rfl | decide | exact .inl rfl | exact .inr rfl | exact .inr (.inl rfl) | exact .inr (.inr rfl) | (intro _; rfl) | with_unfolding_all rfl)) (@po_none _) (@po_some _ _ _ (@pv _ 4 _ _ (by first | rfl | decide | exact .inl rfl | exact .inr rfl | exact .inr (.inl rfl) | exact .inr (.inr rfl) | (intro _; rfl) | with_unfolding_all rfl) (by first | rfl | decide | exact .inl rfl | exact .inr rfl | exact .inr (.inl rfl) | exact .inr (.inr rfl) | (intro _; rfl) | with_unfolding_all rfl) (by first | rfl | decide | exact .inl rfl | exact .inr rfl | exact .inr (.inl rfl) | exact .inr (.inr rfl) | (intro _; rfl) | with_unfolding_all rfl) (by first | rfl | decide | exact .inl rfl | exact .inr rfl | exact .inr (.inl rfl) | exact .inr (.inr rfl) | (intro _; rfl) | with_unfolding_all rfl)))) (@pa_nil _)))) (by first | rfl | decide | exact .inl rfl | exact .inr rfl | exact .inr (.inl rfl) | exact .inr (.inr rfl) | (intro _; rfl) | with_unfolding_all rfl) (by first | rfl | decide | exact .inl rfl | exact .inr rfl | exact .inr (.inl rfl) | exact .inr (.inr rfl) | (intro _; rfl) | with_unfolding_all rfl) (by first | rfl | decide | exact .inl rfl | exact .inr rfl | exact .inr (.inl rfl) | exact .inr (.inr rfl) | (intro _; rfl) | with_unfolding_all rfl) (by first | rfl | decide | exact .inl rfl | exact .inr rfl | exact .inr (.inl rfl) | exact .inr (.inr rfl) | (intro _; rfl) | with_unfolding_all rfl)) (@pa_nil _))))) (@pss_nil _)) (@pss_one _ _ _ (@ps_ret _ _ _ _ (@pe_comp _ _ _ _ _ _ _ _ _ _ _ ["_law_k"] [("_law_files_here", 0), ("_law_name", 3), ("_law_some", 5), ("_law_more", 4)] (by rfl) (@pi_range1 _ _ _ _ _ _ (by rfl) T.n_range (@pa_Call _ _ _ _ _ _ _ _ (@pe_callB _ _ _ _ _ _ _ _ _ (call_lenK K) (by rfl) T.n_len bt_len (@pa_Name _ _ _ _ _ _ (@pv _ 4 _ _ (by first | rfl | decide | exact .inl rfl | exact .inr rfl | exact .inr (.inl rfl) | exact .inr (.inr rfl) | (intro _; rfl) | with_unfolding_all rfl) (by first | rfl | decide | exact .inl rfl | exact .inr rfl | exact .inr (.inl rfl) | exact .inr (.inr rfl) | (intro _; rfl) | with_unfolding_all rfl) (by first | rfl | decide | exact .inl rfl | exact .inr rfl | exact .inr (.inl rfl) | exact .inr (.inr rfl) | (intro _; rfl) | with_unfolding_all rfl) (by first | rfl | decide | exact .inl rfl | exact .inr rfl | exact .inr (.inl rfl) | exact .inr (.inr rfl) | (intro _; rfl) | with_unfolding_all rfl)) (@pa_nil _)) (by first | rfl | decide | exact .inl rfl | exact .inr rfl | exact .inr (.inl rfl) | exact .inr (.inr rfl) | (intro _; rfl) | with_unfolding_all rfl) (by first | rfl | decide | exact .inl rfl | exact .inr rfl | exact .inr (.inl rfl) | exact .inr (.inr rfl) | (intro _; rfl) | with_unfolding_all rfl) (by first | rfl | decide | exact .inl rfl | exact .inr rfl | exact .inr (.inl rfl) | exact .inr (.inr rfl) | (intro _; rfl) | with_unfolding_all rfl) (by first | rfl | decide | exact .inl rfl | exact .inr rfl | exact .inr (.inl rfl) | exact .inr (.inr rfl) | (intro _; rfl) | with_unfolding_all rfl)) (@pa_nil _)) (by first | rfl | decide | exact .inl rfl | exact .inr rfl | exact .inr (.inl rfl) | exact .inr (.inr rfl) | (intro _; rfl) | with_unfolding_all rfl)) (fun C s2 H2 ex => (@pg_name _ _ (0) _ (show List.Nodup (["_law_k", "_law_files_here", "_law_name", "_law_some", "_law_more"] : List Str) by decide +kernel) (by rfl) (Or.inl (by rfl)) (by first | rfl | decide | exact .inl rfl | exact .inr rfl | exact .inr (.inl rfl) | exact .inr (.inr rfl) | (intro _; rfl) | with_unfolding_all rfl))) (fun C s2 H2 ex => (@pif_nil _)) (fun C s2 H2 ex => (@pe_fn _ _ _ _ _ _ _ _ _ _ _ c__law_with (hr.mono (by decide)) passN (@pa_Name _ _ _ _ _ _ (@pv _ 1 _ _ (by first | rfl | decide | exact .inl rfl | exact .inr rfl | exact .inr (.inl rfl) | exact .inr (.inr rfl) | (intro _; rfl) | with_unfolding_all rfl) (by first | rfl | decide | exact .inl rfl | exact .inr rfl | exact .inr (.inl rfl) | exact .inr (.inr rfl) | (intro _; rfl) | with_unfolding_all rfl) (by first | rfl | decide | exact .inl rfl | exact .inr rfl | exact .inr (.inl rfl) | exact .inr (.inr rfl) | (intro _; rfl) | with_unfolding_all rfl) (by first | rfl | decide | exact .inl rfl | exact .inr rfl | exact .inr (.inl rfl) | exact .inr (.inr rfl) | (intro _; rfl) | with_unfolding_all rfl)) (@pa_Name _ _ _ _ _ _ (@pv _ 2 _ _ (by first | rfl | decide | exact .inl rfl | exact .inr rfl | exact .inr (.inl rfl) | exact .inr (.inr rfl) | (intro _; rfl) | with_unfolding_all rfl) (by first | rfl | decide | exact .inl rfl | exact .inr rfl | exact .inr (.inl rfl) | exact .inr (.inr rfl) | (intro _; rfl) | with_unfolding_all rfl) (by first | rfl | decide | exact .inl rfl | exact .inr rfl | exact .inr (.inl rfl) | exact .inr (.inr rfl) | (intro _; rfl) | with_unfolding_all rfl) (by first | rfl | decide | exact .inl rfl | exact .inr rfl | exact .inr (.inl rfl) | exact .inr (.inr rfl) | (intro _; rfl) | with_unfolding_all rfl)) (@pa_BinOp _ _ _ _ _ _ _ _ (@pe_op _ _ _ _ _ _ _ _ op_cat2 (@pv _ 3 _ _ (by first | rfl | decide | exact .inl rfl | exact .inr rfl | exact .inr (.inl rfl) | exact .inr (.inr rfl) | (intro _; rfl) | with_unfolding_all rfl) (by first | rfl | decide | exact .inl rfl | exact .inr rfl | exact .inr (.inl rfl) | exact .inr (.inr rfl) | (intro _; rfl) | with_unfolding_all rfl) (by first | rfl | decide | exact .inl rfl | exact .inr rfl | exact .inr (.inl rfl) | exact .inr (.inr rfl) | (intro _; rfl) | with_unfolding_all rfl) (by first | rfl | decide | exact .inl rfl | exact .inr rfl | exact .inr (.inl rfl) | exact .inr (.inr rfl) | (intro _; rfl) | with_unfolding_all rfl)) (@pe_slice _ _ _ _ _ _ _ _ _ _ (sl_tupK K) (@pv _ 4 _ _ (by first | rfl | decide | exact .inl rfl | exact .inr rfl | exact .inr (.inl rfl) | exact .inr (.inr rfl) | (intro _; rfl) | with_unfolding_all rfl) (by first | rfl | decide | exact .inl rfl | exact .inr rfl | exact .inr (.inl rfl) | exact .inr (.inr rfl) | (intro _; rfl) | with_unfolding_all rfl) (by first | rfl | decide | exact .inl rfl | exact .inr rfl | exact .inr (.inl rfl) | exact .inr (.inr rfl) | (intro _; rfl) | with_unfolding_all rfl) (by first | rfl | decide | exact .inl rfl | exact .inr rfl | exact .inr (.inl rfl) | exact .inr (.inr rfl) | (intro _; rfl) | with_unfolding_all rfl)) (@po_none _) (@po_some _ _ _ (@pe_op _ _ _ _ _ _ _ _ op_add (@pv _ 0 _ _ (by first | rfl | decide | exact .inl rfl | exact .inr rfl | exact .inr (.inl rfl) | exact .inr (.inr rfl) | (intro _; rfl) | with_unfolding_all rfl) (by first | rfl | decide | exact .inl rfl | exact .inr rfl | exact .inr (.inl rfl) | exact .inr (.inr rfl) | (intro _; rfl) | with_unfolding_all rfl) (by first | rfl | decide | exact .inl rfl | exact .inr rfl | exact .inr (.inl rfl) | exact .inr (.inr rfl) | (intro _; rfl) | with_unfolding_all rfl) (by first | rfl | decide | exact .inl rfl | exact .inr rfl | exact .inr (.inl rfl) | exact .inr (.inr rfl) | (intro _; rfl) | with_unfolding_all rfl)) (@pe_int _ _ _ _))))) (@pa_nil _)))) (by first | rfl | decide | exact .inl rfl | exact .inr rfl | exact .inr (.inl rfl) | exact .inr (.inr rfl) | (intro _; rfl) | with_unfolding_all rfl) (by first | rfl | decide | exact .inl rfl | exact .inr rfl | exact .inr (.inl rfl) | exact .inr (.inr rfl) | (intro _; rfl) | with_unfolding_all rfl) (by first | rfl | decide | exact .inl rfl | exact .inr rfl | exact .inr (.inl rfl) | exact .inr (.inr rfl) | (intro _; rfl) | with_unfolding_all rfl) (by first | rfl | decide | exact .inl rfl | exact .inr rfl | exact .inr (.inl rfl) | exact .inr (.inr rfl) | (intro _; rfl) | with_unfolding_all rfl))) (by first | rfl | decide | exact .inl rfl | exact .inr rfl | exact .inr (.inl rfl) | exact .inr (.inr rfl) | (intro _; rfl) | with_unfolding_all rfl) (by first | rfl | decide | exact .inl rfl | exact .inr rfl | exact .inr (.inl rfl) | exact .inr (.inr rfl) | (intro _; rfl) | with_unfolding_all rfl) (by first | rfl | decide | exact .inl rfl | exact .inr rfl | exact .inr (.inl rfl) | exact .inr (.inr rfl) | (intro _; rfl) | with_unfolding_all rfl) (by first | rfl | decide | exact .inl rfl | exact .inr rfl | exact .inr (.inl rfl) | exact .inr (.inr rfl) | (intro _; rfl) | with_unfolding_all rfl)))))))))), ?_⟩
    refine ⟨_, rfl, pd, _, rfl, SqT.of hp, rfl, _, _, rfl, _, _, rfl, _, _, rfl, rfl, ?_⟩
    refine ⟨_, rfl, rfl, _, rfl, ?_⟩
    have hv := tb_val (n := n) tb
    unfold stepsT at qc qt
    by_cases w1 : word = "make"
    · rw [dstr_eq' w1]
      refine iteT ?_
      rw [if_pos w1] at qc qt
      refine ⟨_, rfl, _, rfl, a, _, rfl, DGet.k (k := Sum.inr n) ha, _, rfl, ?_⟩
      cases he : lookF gs n with
      | some bs =>
        rw [he] at hv qc qt
        obtain ⟨v, hv1, _⟩ := hv
        rw [hv1]
        exact iteT (qc "there" rfl H (Same.refl H))
      | none =>
        rw [he] at hv qc qt
        have hv : valV lvs (Sum.inr n) = none := hv
        rw [hv]
        refine iteF ?_
        refine ⟨_, rfl, _, rfl, le_size, fun pe hpe => ?_⟩
        have S1 := same_upd (o := .tup []) hpe
        refine ⟨a, n, .ref pe, lvs, gs, some [], rfl, S1 _ _ ha, tb_t (fun b xs e => S1 _ _ e) tb, ⟨pe, rfl, upd_same⟩, hl, fun p lvs' H2 S2 hp2 g2 tb2 => ⟨le_size, fun pl hpl => ?_⟩⟩
        have S3 := same_upd (o := .lst [V.ref p]) hpl
        exact qt _ rfl pl _ _ (S1.trans (S2.trans S3)) (none_of (S1.trans S2) hpl) upd_same (tabs_one ⟨p, lvs', rfl, none_of S1 hp2, S3 _ _ g2, tb_t (fun b xs e => S3 _ _ e) tb2⟩)
    rw [dstr_ne' w1]
    refine iteF ?_
    refine go_next rfl ?_
    rw [if_neg w1] at qc qt
    refine ⟨_, rfl, _, rfl, a, _, rfl, DGet.k (k := Sum.inr n) ha, _, rfl, ?_⟩
    cases he : lookF gs n with
    | none =>
      rw [he] at hv qc qt
      have hv : valV lvs (Sum.inr n) = none := hv
      rw [hv]
      exact iteT (qc "missing" rfl H (Same.refl H))
    | some bs =>
    rw [he] at hv qc qt
    dsimp only at qc qt
    obtain ⟨v, hv1, t, rfl, gt⟩ := hv
    have dg : DGet H a (.str n) (some (.ref t)) := by
      have := DGet.k (k := Sum.inr n) ha
      rw [hv1] at this
      exact this
    rw [hv1]
    refine iteF ?_
    refine go_next rfl ?_
    refine ⟨_, rfl, _, rfl, a, _, rfl, dg, ?_⟩
    refine ⟨_, rfl, rfl, _, rfl, ?_⟩
    by_cases w2 : word = "drop"
    · rw [dstr_eq' w2]
      refine iteT ?_
      rw [if_pos w2] at qt
      refine ⟨_, rfl, _, rfl, a, n, .non, lvs, gs, none, rfl, ha, tb, rfl, hl, fun p lvs' H2 S2 hp2 g2 tb2 => ⟨le_size, fun pl hpl => ?_⟩⟩
      have S3 := same_upd (o := .lst [V.ref p]) hpl
      exact qt _ rfl pl _ _ (S2.trans S3) (none_of S2 hpl) upd_same (tabs_one ⟨p, lvs', rfl, hp2, S3 _ _ g2, tb_t (fun b xs e => S3 _ _ e) tb2⟩)
    rw [dstr_ne' w2]
    refine iteF ?_
    refine go_next rfl ?_
    rw [if_neg w2] at qc qt
    refine ⟨_, rfl, rfl, _, rfl, ?_⟩
    by_cases w3 : word = "cut"
    · rw [dstr_eq' w3]
      refine iteT ?_
      rw [if_pos w3] at qc qt
      obtain ⟨m, rfl⟩ := mo1 w3
      have e2 : v2 = .int m := by simpa only [Den] using hd2
      subst e2
      refine ⟨_, rfl, _, rfl, t, _, rfl, .inr (SqT.of gt), _, _, rfl, rfl, _, rfl, ?_⟩
      rw [List.length_map]
      show if decide ((bs.length : Int) < (m : Int)) = true then _ else _
      rw [show intOf (.int (m : Int)) = m from rfl] at qc qt
      by_cases hm : (bs.length : Int) < (m : Int)
      · rw [if_pos (decide_eq_true hm)]
        rw [if_pos hm] at qc
        exact qc "number" rfl H (Same.refl H)
      rw [if_neg (by simpa using hm)]
      rw [if_neg hm] at qt
      refine go_next rfl ?_
      refine ⟨_, rfl, rfl, _, rfl, ?_⟩
      rw [dstr_eq' w3]
      refine iteT ?_
      refine ⟨_, rfl, _, rfl, _, rfl, _, rfl, _, rfl, sl_both gt fun b H2 S2 g2 => ?_⟩
      rw [cut_min, ← List.map_take] at g2
      refine ⟨a, n, .ref b, lvs, gs, some (bs.take m), rfl, S2 _ _ ha, tb_t (fun b xs e => S2 _ _ e) tb, ⟨b, rfl, g2⟩, hl, fun p lvs' H3 S3 hp3 g3 tb3 => ⟨le_size, fun pl hpl => ?_⟩⟩
      have S4 := same_upd (o := .lst [V.ref p]) hpl
      exact qt _ rfl pl _ _ (S2.trans (S3.trans S4)) (none_of (S2.trans S3) hpl) upd_same (tabs_one ⟨p, lvs', rfl, none_of S2 hp3, S4 _ _ g3, tb_t (fun b xs e => S4 _ _ e) tb3⟩)
    rw [dstr_ne' w3]
    refine iteF (iteF ?_)
    refine go_next rfl ?_
    rw [if_neg w3] at qc qt
    refine ⟨_, rfl, rfl, _, rfl, ?_⟩
    rw [dstr_ne' w3]
    refine iteF ?_
    refine go_next rfl ?_
    obtain ⟨ms, rfl, hms⟩ := mo2 w1 w3 w2
    rw [ints_int] at qt
    simp only [Den] at hd2
    obtain ⟨pm, ys, rfl, gm, hys⟩ := hd2
    have eys := dens_ints.mp hys
    subst eys
    have hbs := hz n bs he
    refine ⟨_, rfl, pm, _, rfl, .inr (SqT.of gm), _, rfl, by rw [List.length_map]; omega, by rw [List.length_map]; omega, ?_⟩
    rw [List.length_map]
    refine comp_src (src_range (H := H) 0 ms.length) (Nat.le_trans hms (by decide)) (fun i y H1 => TabV H H1 y (withF gs n (some (bs ++ ms.take (i + 1))))) (fun _ _ _ _ s h => tab_n s h) (fun σ => ∃ z, σ = [z, some (.ref a), some (.str n), some (.ref t), some (.ref pm)]) ?z0 ?_ ?_
    case z0 => exact ⟨none, rfl⟩
    · intro i y σc H3 hi hσ s3 hx Q' hQ'
      obtain ⟨z, rfl⟩ := hσ
      subst hx
      refine ⟨_, rfl, _, rfl, _, rfl, _, rfl, _, rfl, _, _, rfl, rfl, _, rfl, sl_both (s3 _ _ gm) fun b H4 S4 g4 => ?_⟩
      have ei : (0 : Int) + (i : Int) + 1 = ((i + 1 : Nat) : Int) := by omega
      rw [ei, cut_min, ← List.map_take] at g4
      refine ⟨t, b, _, _, rfl, rfl, S4 _ _ (s3 _ _ gt), g4, ?_, fun pc H5 S5 g5 => ?_⟩
      · rw [List.length_map, List.length_map, List.length_take]
        exact Nat.le_trans (show _ ≤ 101000 by omega) (by decide)
      rw [← List.map_append] at g5
      have S35 := s3.trans (S4.trans S5)
      refine ⟨a, n, .ref pc, lvs, gs, some (bs ++ ms.take (i + 1)), rfl, S35 _ _ ha, tb_t (fun b xs e => S35 _ _ e) tb, ⟨pc, rfl, g5⟩, hl, fun p lvs' H6 S6 hp6 g6 tb6 => ?_⟩
      exact hQ' _ _ _ ⟨_, rfl⟩ (S4.trans (S5.trans S6)) ⟨p, lvs', rfl, none_of S35 hp6, g6, tb6⟩
    intro pY ys HE hpY SE gY hlen hR
    refine qt _ rfl pY ys HE SE hpY gY ⟨by rw [hlen, List.length_map, List.length_range], fun i x tt e1 e2 => ?_⟩
    have := hR i x e1
    have hi : i < ms.length := by
      have := (List.getElem?_eq_some_iff.mp e1).1
      omega
    rw [List.getElem?_map, List.getElem?_range hi] at e2
    cases e2
    exact this
end
end Qh
end
section
set_option Elab.async false
set_option linter.all false
set_option maxRecDepth 100000
namespace Qh
open PySem L2
/-! ### the law's tables and the disk's files -/
theorem perm_of {α : Type} [DecidableEq α] : ∀ {l l' : List α}, l.Nodup → l'.Nodup → (∀ x, x ∈ l ↔ x ∈ l') → l.Perm l'
  | [], l', _, _, h => by
    cases l' with
    | nil => exact .nil
    | cons a t => exact absurd ((h a).mpr List.mem_cons_self) (by simp)
  | a :: t, l', n1, n2, h => by
    have ha : a ∈ l' := (h a).mp List.mem_cons_self
    have p1 := List.perm_cons_erase ha
    rw [List.nodup_cons] at n1
    refine (List.Perm.cons a (perm_of n1.2 (n2.erase a) fun x => ?_)).trans p1.symm
    rw [List.Nodup.mem_erase_iff n2]
    constructor
    · intro hx
      exact ⟨fun z => n1.1 (z ▸ hx), (h x).mp (List.mem_cons_of_mem _ hx)⟩
    · rintro ⟨hne, hx⟩
      rcases List.mem_cons.mp ((h x).mpr hx) with z | z
      · exact absurd z hne
      · exact z
theorem look_mem {fs : Tab} {n : Str} : n ∈ fs.map (·.1) ↔ ∃ bs, lookF fs n = some bs := ⟨look_some, fun ⟨_, h⟩ => key_mem h⟩
theorem look_drop (n m : Str) : ∀ gs : Tab, lookF (dropA gs n) m = if m = n then none else lookF gs m
  | [] => by simp [lookF, dropA]
  | p :: gs => by
    have ih := look_drop n m gs
    by_cases z : p.1 = n
    · have e1 : dropA (p :: gs) n = dropA gs n := by simp [dropA, z]
      rw [e1, ih]
      by_cases y : m = n
      · rw [if_pos y, if_pos y]
      · rw [if_neg y, if_neg y]
        have : ¬ p.1 = m := fun x => y (by rw [← x, z])
        simp [lookF, this]
    · have e1 : dropA (p :: gs) n = p :: dropA gs n := by simp [dropA, z]
      rw [e1]
      by_cases x : p.1 = m
      · have : ¬ m = n := fun y => z (by rw [x, y])
        simp [lookF, x, this]
      · have e2 : lookF (p :: dropA gs n) m = lookF (dropA gs n) m := by simp [lookF, x]
        have e3 : lookF (p :: gs) m = lookF gs m := by simp [lookF, x]
        rw [e2, e3, ih]
theorem look_snoc (n m : Str) (e : List Int) : ∀ gs : Tab, lookF (gs ++ [(n, e)]) m = match lookF gs m with | some b => some b | none => if n = m then some e else none
  | [] => by
    by_cases y : n = m
    · simp [lookF, y]
    · simp [lookF, y]
  | p :: gs => by
    have ih := look_snoc n m e gs
    rw [List.cons_append]
    by_cases x : p.1 = m
    · simp [lookF, x]
    · have e2 : lookF (p :: (gs ++ [(n, e)])) m = lookF (gs ++ [(n, e)]) m := by simp [lookF, x]
      have e3 : lookF (p :: gs) m = lookF gs m := by simp [lookF, x]
      rw [e2, e3, ih]
theorem look_with (gs : Tab) (n m : Str) (o : Option (List Int)) : lookF (withF gs n o) m = if m = n then o else lookF gs m := by
  cases o with
  | none => exact look_drop n m gs
  | some e =>
    show lookF (dropA gs n ++ [(n, e)]) m = _
    rw [look_snoc, look_drop]
    by_cases y : m = n
    · rw [if_pos y, if_pos y]
      dsimp only
      rw [if_pos y.symm]
    · rw [if_neg y, if_neg y]
      cases lookF gs m with
      | some b => rfl
      | none =>
        dsimp only
        rw [if_neg (fun z => y z.symm)]
theorem look_setG (n : Str) (e : List Int) (m : Str) : ∀ fs : Tab, lookF (setA fs n e) m = if m = n then (lookF fs n).map (fun _ => e) else lookF fs m
  | [] => by
    show (none : Option (List Int)) = if m = n then none else none
    split <;> rfl
  | p :: fs => by
    have ih := look_setG n e m fs
    have es : setA (p :: fs) n e = (if p.1 = n then (p.1, e) else p) :: setA fs n e := rfl
    rw [es]
    by_cases z : p.1 = n
    · rw [if_pos z]
      by_cases y : m = n
      · rw [if_pos y]
        have y' : n = m := y.symm
        simp [lookF, z, y]
      · rw [if_neg y] at ih ⊢
        have x : ¬ p.1 = m := fun x => y (by rw [← x, z])
        have e2 : lookF ((p.1, e) :: setA fs n e) m = lookF (setA fs n e) m := by simp [lookF, x]
        have e3 : lookF (p :: fs) m = lookF fs m := by simp [lookF, x]
        rw [e2, e3, ih]
    · rw [if_neg z]
      have e4 : lookF (p :: fs) n = lookF fs n := by simp [lookF, z]
      rw [e4]
      by_cases x : p.1 = m
      · have y : ¬ m = n := fun y => z (by rw [x, y])
        rw [if_neg y]
        simp [lookF, x]
      · have e2 : lookF (p :: setA fs n e) m = lookF (setA fs n e) m := by simp [lookF, x]
        have e3 : lookF (p :: fs) m = lookF fs m := by simp [lookF, x]
        rw [e2, e3, ih]
theorem look_set {fs : Tab} {n : Str} {bs e : List Int} (m : Str) (h : lookF fs n = some bs) : lookF (setA fs n e) m = if m = n then some e else lookF fs m := by
  rw [look_setG, h]
  rfl
/-- one table and one list of files -/
def Rel (gs fs : Tab) : Prop := ∀ m, lookF gs m = lookF fs m
def takeR (left : Option Int) (ts : List Tab) : List Tab := match left with | none => ts | some r => ts.take r.toNat
def leftR (left : Option Int) (k : Nat) : Option Int := left.map (· - (k : Int))
structure After (D : Dk) (gs : Tab) (ts : List Tab) (r : Option Str × Dk) : Prop where
  code : r.1 = if (takeR D.left ts).length < ts.length then some ("stopped" : Str) else none
  done : r.2.done = D.done + (takeR D.left ts).length
  left : r.2.left = leftR D.left (takeR D.left ts).length
  rel : Rel ((takeR D.left ts).getLastD gs) r.2.fs
theorem one_step {D : Dk} {gs t : Tab} {F : Tab → Tab} (hl : ∀ r, D.left = some r → 0 ≤ r) (R : Rel gs D.fs) (R' : Rel t (F D.fs)) : After D gs [t] (match stepF D with | none => (some ("stopped" : Str), D) | some D1 => (none, ⟨F D1.fs, D1.done, D1.left⟩)) := by
  obtain ⟨fs, done, left⟩ := D
  cases left with
  | none =>
    have e : stepF ⟨fs, done, none⟩ = some ⟨fs, done + 1, none⟩ := rfl
    rw [e]
    exact ⟨rfl, rfl, rfl, R'⟩
  | some r =>
    have h0 := hl r rfl
    by_cases hr : r = 0
    · have e : stepF ⟨fs, done, some r⟩ = none := by
        unfold stepF
        dsimp only
        rw [if_pos hr]
      rw [e]
      subst hr
      refine ⟨rfl, ?_, ?_, R⟩
      · show done = done + 0
        omega
      · show some (0 : Int) = some (0 - 0)
        rfl
    · have e : stepF ⟨fs, done, some r⟩ = some ⟨fs, done + 1, some (r - 1)⟩ := by
        unfold stepF
        dsimp only
        rw [if_neg hr]
      rw [e]
      have e1 : takeR (some r) [t] = [t] := by
        show [t].take r.toNat = [t]
        exact List.take_of_length_le (by show 1 ≤ r.toNat; omega)
      refine ⟨?_, ?_, ?_, ?_⟩
      · show none = if (takeR (some r) [t]).length < 1 then some ("stopped" : Str) else none
        rw [e1]
        rfl
      · show done + 1 = done + ((takeR (some r) [t]).length : Int)
        rw [e1]
        rfl
      · show some (r - 1) = leftR (some r) (takeR (some r) [t]).length
        rw [e1]
        rfl
      · show Rel ((takeR (some r) [t]).getLastD gs) (F fs)
        rw [e1]
        exact R'
def many (left : Option Int) (k : Nat) : Nat := match left with | none => k | some r => min r.toNat k
theorem addG_is (n : Str) : ∀ (ms : List Int) (D : Dk) (bs : List Int), (∀ r, D.left = some r → 0 ≤ r) → lookF D.fs n = some bs →
    (addG n D ms).2 = decide (many D.left ms.length = ms.length) ∧ (addG n D ms).1.done = D.done + many D.left ms.length ∧ (addG n D ms).1.left = leftR D.left (many D.left ms.length) ∧
    ∀ m, lookF (addG n D ms).1.fs m = if m = n then some (bs ++ ms.take (many D.left ms.length)) else lookF D.fs m
  | [], D, bs, hl, hb => by
    have e0 : many D.left 0 = 0 := by
      unfold many
      cases D.left with
      | none => rfl
      | some r => exact Nat.min_eq_right (Nat.zero_le _)
    show (addG n D []).2 = decide (many D.left 0 = 0) ∧ _ = D.done + ((many D.left 0 : Nat) : Int) ∧ _ = leftR D.left (many D.left 0) ∧ ∀ m, _ = if m = n then some (bs ++ List.take (many D.left 0) []) else _
    rw [e0]
    refine ⟨rfl, ?_, ?_, fun m => ?_⟩
    · show D.done = D.done + 0
      omega
    · show D.left = leftR D.left 0
      unfold leftR
      cases D.left with
      | none => rfl
      | some r => simp
    · show lookF D.fs m = _
      by_cases y : m = n
      · rw [if_pos y, y, hb]
        simp
      · rw [if_neg y]
  | b :: ms, D, bs, hl, hb => by
    obtain ⟨fs, done, left⟩ := D
    have hb : lookF fs n = some bs := hb
    have key : ∀ left', (∀ r, left' = some r → 0 ≤ r) → stepF ⟨fs, done, left⟩ = some ⟨fs, done + 1, left'⟩ → many left (ms.length + 1) = many left' ms.length + 1 → leftR left (many left' ms.length + 1) = leftR left' (many left' ms.length) →
        (addG n ⟨fs, done, left⟩ (b :: ms)).2 = decide (many left (ms.length + 1) = ms.length + 1) ∧ (addG n ⟨fs, done, left⟩ (b :: ms)).1.done = done + ((many left (ms.length + 1) : Nat) : Int) ∧ (addG n ⟨fs, done, left⟩ (b :: ms)).1.left = leftR left (many left (ms.length + 1)) ∧ ∀ m, lookF (addG n ⟨fs, done, left⟩ (b :: ms)).1.fs m = if m = n then some (bs ++ (b :: ms).take (many left (ms.length + 1))) else lookF fs m := by
      intro left' hl' hs e1 e2
      have ea : addG n ⟨fs, done, left⟩ (b :: ms) = addG n ⟨setA fs n ((lookF fs n).getD [] ++ [b]), done + 1, left'⟩ ms := by
        show (match stepF ⟨fs, done, left⟩ with | none => _ | some D1 => _) = _
        rw [hs]
      rw [ea, hb, e1]
      have ih := addG_is n ms ⟨setA fs n (bs ++ [b]), done + 1, left'⟩ (bs ++ [b]) hl' (setA_look hb)
      obtain ⟨i1, i2, i3, i4⟩ := ih
      refine ⟨?_, ?_, ?_, fun m => ?_⟩
      · refine i1.trans ?_
        show decide (many left' ms.length = ms.length) = decide (many left' ms.length + 1 = ms.length + 1)
        by_cases z : many left' ms.length = ms.length
        · rw [decide_eq_true z, decide_eq_true (by rw [z])]
        · rw [decide_eq_false z, decide_eq_false (by omega)]
      · refine i2.trans ?_
        show done + 1 + ((many left' ms.length : Nat) : Int) = done + ((many left' ms.length + 1 : Nat) : Int)
        omega
      · exact i3.trans e2.symm
      · refine (i4 m).trans ?_
        by_cases y : m = n
        · rw [if_pos y, if_pos y, List.take_succ_cons, List.append_assoc]
          rfl
        · rw [if_neg y, if_neg y]
          show lookF (setA fs n (bs ++ [b])) m = _
          rw [look_set m hb, if_neg y]
    cases left with
    | none => exact key none (fun r e => by cases e) rfl rfl rfl
    | some r =>
      have h0 := hl r rfl
      by_cases hr : r = 0
      · have hs : stepF ⟨fs, done, some r⟩ = none := by
          unfold stepF
          dsimp only
          rw [if_pos hr]
        have ea : addG n ⟨fs, done, some r⟩ (b :: ms) = (⟨fs, done, some r⟩, false) := by
          show (match stepF ⟨fs, done, some r⟩ with | none => _ | some D1 => _) = _
          rw [hs]
        have e0 : many (some r) (b :: ms).length = 0 := by
          rw [hr]
          exact Nat.min_eq_left (Nat.zero_le _)
        rw [ea]
        show false = decide (many (some r) (b :: ms).length = (b :: ms).length) ∧ done = done + ((many (some r) (b :: ms).length : Nat) : Int) ∧ some r = leftR (some r) (many (some r) (b :: ms).length) ∧ ∀ m, lookF fs m = if m = n then some (bs ++ List.take (many (some r) (b :: ms).length) (b :: ms)) else lookF fs m
        rw [e0]
        refine ⟨?_, ?_, ?_, fun m => ?_⟩
        · rw [decide_eq_false (by rw [List.length_cons]; omega)]
        · show done = done + 0
          omega
        · show some r = some (r - 0)
          rw [Int.sub_zero]
        · by_cases y : m = n
          · rw [if_pos y, y, hb]
            simp
          · rw [if_neg y]
      · have hs : stepF ⟨fs, done, some r⟩ = some ⟨fs, done + 1, some (r - 1)⟩ := by
          unfold stepF
          dsimp only
          rw [if_neg hr]
        refine key (some (r - 1)) (fun r' e => ?_) hs ?_ ?_
        · cases e
          omega
        · show min r.toNat (ms.length + 1) = min (r - 1).toNat ms.length + 1
          omega
        · show some (r - ((many (some (r - 1)) ms.length + 1 : Nat) : Int)) = some (r - 1 - ((many (some (r - 1)) ms.length : Nat) : Int))
          congr 1
          omega
theorem last_map {α β : Type} (f : Nat → β) (k : Nat) (d : β) : ((List.range k).map f).getLastD d = if k = 0 then d else f (k - 1) := by
  cases k with
  | zero => rfl
  | succ k =>
    rw [List.range_succ, List.map_append, if_neg (by omega)]
    simp
theorem takeR_range {left : Option Int} {f : Nat → Tab} {k : Nat} : takeR left ((List.range k).map f) = (List.range (many left k)).map f := by
  unfold takeR many
  cases left with
  | none => rfl
  | some r =>
    dsimp only
    rw [← List.map_take, List.take_range]
theorem wordOk_of {n : Str} {D : Dk} (hw : wordD signs36 8 (.str n) = true) : ¬ wordD signs36 8 (.str n) = false := by rw [hw]; decide
theorem deed_refused {D : Dk} {gs : Tab} {word n : Str} {d : PyData} (hw : wordD signs36 8 (.str n) = true) (mo : moreOk word d) (hword : word = "make" ∨ word = "add" ∨ word = "cut" ∨ word = "drop") (R : Rel gs D.fs) {c : Str} (h : stepsT gs word n d = .inl c) : deedF D word (.str n) d = (some c, D) := by
  unfold stepsT at h
  unfold deedF
  rw [if_neg (by rw [hw]; decide)]
  have er := R n
  show (match lookF D.fs n with | none => _ | some bs => _) = _
  rw [← er]
  by_cases w1 : word = "make"
  · rw [if_pos w1] at h
    cases he : lookF gs n with
    | none =>
      rw [he] at h
      cases h
    | some bs =>
      rw [he] at h
      cases h
      dsimp only
      rw [if_pos w1]
  rw [if_neg w1] at h
  cases he : lookF gs n with
  | none =>
    rw [he] at h
    cases h
    dsimp only
    rw [if_neg w1]
  | some bs =>
    rw [he] at h
    dsimp only at h ⊢
    rw [if_neg w1]
    by_cases w2 : word = "drop"
    · rw [if_pos w2] at h
      cases h
    rw [if_neg w2] at h
    by_cases w3 : word = "cut"
    · rw [if_pos w3] at h
      obtain ⟨m, rfl⟩ := mo.1 w3
      rw [show intOf (.int (m : Int)) = m from rfl] at h
      by_cases hm : (bs.length : Int) < (m : Int)
      · rw [if_pos hm] at h
        cases h
        have w4 : ¬ word = "add" := by rw [w3]; decide
        rw [if_neg w4, if_pos w3, if_pos]
        show (decide (0 ≤ (m : Int)) && decide ((m : Int) ≤ bs.length)) = false
        rw [decide_eq_false (show ¬ (m : Int) ≤ bs.length by omega), Bool.and_false]
      · rw [if_neg hm] at h
        cases h
    · rw [if_neg w3] at h
      cases h
theorem deed_done {D : Dk} {gs : Tab} {word n : Str} {d : PyData} (hw : wordD signs36 8 (.str n) = true) (mo : moreOk word d) (hb : word = "add" → isByt d = true) (hword : word = "make" ∨ word = "add" ∨ word = "cut" ∨ word = "drop") (hl : ∀ r, D.left = some r → 0 ≤ r) (R : Rel gs D.fs) {ts : List Tab} (h : stepsT gs word n d = .inr ts) : After D gs ts (deedF D word (.str n) d) := by
  unfold stepsT at h
  unfold deedF
  rw [if_neg (by rw [hw]; decide)]
  have er := R n
  show After D gs ts (match lookF D.fs n with | none => _ | some bs => _)
  rw [← er]
  by_cases w1 : word = "make"
  · rw [if_pos w1] at h
    cases he : lookF gs n with
    | some bs =>
      rw [he] at h
      cases h
    | none =>
      rw [he] at h
      cases h
      dsimp only
      rw [if_pos w1]
      refine one_step (F := fun fs => fs ++ [(n, [])]) hl R fun m => ?_
      rw [look_with, look_snoc, ← R m]
      by_cases y : m = n
      · rw [if_pos y, y, he]
        dsimp only
        rw [if_pos rfl]
      · rw [if_neg y]
        cases lookF gs m with
        | some b => rfl
        | none =>
          dsimp only
          rw [if_neg (fun z => y z.symm)]
  rw [if_neg w1] at h
  cases he : lookF gs n with
  | none =>
    rw [he] at h
    cases h
  | some bs =>
    rw [he] at h
    dsimp only at h ⊢
    rw [if_neg w1]
    have he' : lookF D.fs n = some bs := by rw [← R n]; exact he
    by_cases w2 : word = "drop"
    · rw [if_pos w2] at h
      cases h
      have w3 : ¬ word = "add" := by rw [w2]; decide
      have w4 : ¬ word = "cut" := by rw [w2]; decide
      rw [if_neg w3, if_neg w4]
      refine one_step (F := fun fs => dropA fs n) hl R fun m => ?_
      rw [look_with, look_drop, R m]
    rw [if_neg w2] at h
    by_cases w3 : word = "cut"
    · rw [if_pos w3] at h
      obtain ⟨m, rfl⟩ := mo.1 w3
      rw [show intOf (.int (m : Int)) = m from rfl] at h
      by_cases hm : (bs.length : Int) < (m : Int)
      · rw [if_pos hm] at h
        cases h
      · rw [if_neg hm] at h
        cases h
        have w4 : ¬ word = "add" := by rw [w3]; decide
        rw [if_neg w4, if_pos w3, if_neg]
        · refine one_step (F := fun fs => setA fs n (bs.take (sizeOf' (.int (m : Int))))) hl R fun k => ?_
          rw [look_with, look_set k he', R k]
        · show ¬ (decide (0 ≤ (m : Int)) && decide ((m : Int) ≤ bs.length)) = false
          rw [decide_eq_true (show (0 : Int) ≤ m by omega), decide_eq_true (show (m : Int) ≤ bs.length by omega)]
          decide
    · rw [if_neg w3] at h
      cases h
      have w4 : word = "add" := by
        rcases hword with z | z | z | z
        · exact absurd z w1
        · exact z
        · exact absurd z w3
        · exact absurd z w2
      rw [if_pos w4, if_neg (by rw [hb w4]; decide)]
      obtain ⟨a1, a2, a3, a4⟩ := addG_is n (intsOf d) D bs hl he'
      have el : (takeR D.left ((List.range (intsOf d).length).map fun k => withF gs n (some (bs ++ (intsOf d).take (k + 1))))).length = many D.left (intsOf d).length := by
        rw [takeR_range, List.length_map, List.length_range]
      have le : many D.left (intsOf d).length ≤ (intsOf d).length := by
        unfold many
        cases D.left with
        | none => exact Nat.le_refl _
        | some r => exact Nat.min_le_right _ _
      refine ⟨?_, ?_, ?_, ?_⟩
      · rw [el, List.length_map, List.length_range]
        show (if (addG n D (intsOf d)).2 = true then none else some ("stopped" : Str)) = _
        rw [a1]
        by_cases z : many D.left (intsOf d).length = (intsOf d).length
        · rw [decide_eq_true z, if_pos rfl, if_neg (by omega)]
        · rw [decide_eq_false z, if_neg (by decide), if_pos (by omega)]
      · rw [el]
        exact a2
      · rw [el]
        exact a3
      · intro m
        rw [takeR_range, last_map (α := Nat)]
        refine Eq.trans ?_ (a4 m).symm
        by_cases z : many D.left (intsOf d).length = 0
        · rw [if_pos z, z]
          by_cases y : m = n
          · rw [if_pos y, y, he]
            simp
          · rw [if_neg y, R m]
        · rw [if_neg z, look_with, Nat.sub_add_cancel (by omega)]
          by_cases y : m = n
          · rw [if_pos y, if_pos y]
          · rw [if_neg y, if_neg y, R m]
/-! ### what holds of the law's tables -/
structure Good (gs : Tab) (names : List Str) (B : Nat) : Prop where
  nd : (gs.map (·.1)).Nodup
  ns : ∀ n ∈ gs.map (·.1), n ∈ names
  len : ∀ n bs, lookF gs n = some bs → bs.length ≤ B
theorem drop_keys (gs : Tab) (n : Str) : (dropA gs n).map (·.1) = (gs.map (·.1)).filter fun k => decide (k ≠ n) := by
  unfold dropA
  rw [List.filter_map]
  rfl
theorem Good.with {gs : Tab} {names : List Str} {B C : Nat} {n : Str} {o : Option (List Int)} (g : Good gs names B) (hn : n ∈ names) (hBC : B ≤ C) (ho : ∀ e, o = some e → e.length ≤ C) : Good (withF gs n o) names C := by
  have nd : ((dropA gs n).map (·.1)).Nodup := by
    rw [drop_keys]
    exact g.nd.filter _
  have sub : ∀ k ∈ (dropA gs n).map (·.1), k ∈ names := fun k hk => by
    rw [drop_keys] at hk
    exact g.ns k (List.mem_filter.mp hk).1
  refine ⟨?_, fun k hk => ?_, fun k bs hk => ?_⟩
  · cases o with
    | none => exact nd
    | some e =>
      show ((dropA gs n ++ [(n, e)]).map (·.1)).Nodup
      rw [List.map_append, List.nodup_append]
      refine ⟨nd, by simp, fun x hx y hy => ?_⟩
      have hy : y = n := by simpa using hy
      rw [drop_keys] at hx
      have := (List.mem_filter.mp hx).2
      rw [hy]
      exact of_decide_eq_true this
  · cases o with
    | none => exact sub k hk
    | some e =>
      have hk : k ∈ (dropA gs n ++ [(n, e)]).map (·.1) := hk
      rw [List.map_append, List.mem_append] at hk
      rcases hk with hk | hk
      · exact sub k hk
      · have : k = n := by simpa using hk
        rw [this]
        exact hn
  · rw [look_with] at hk
    by_cases y : k = n
    · rw [if_pos y] at hk
      exact ho bs hk
    · rw [if_neg y] at hk
      exact Nat.le_trans (g.len k bs hk) hBC
theorem Good.mono {gs : Tab} {names : List Str} {B C : Nat} (g : Good gs names B) (h : B ≤ C) : Good gs names C := ⟨g.nd, g.ns, fun n bs e => Nat.le_trans (g.len n bs e) h⟩
theorem steps_good {gs : Tab} {names : List Str} {B : Nat} {word n : Str} {d : PyData} {ts : List Tab} (g : Good gs names B) (hn : n ∈ names) (hd : (intsOf d).length ≤ 9) (h : stepsT gs word n d = .inr ts) : ∀ t ∈ ts, Good t names (B + 9) := by
  unfold stepsT at h
  have one : ∀ {o : Option (List Int)} {ts : List Tab}, (Sum.inr [withF gs n o] : Str ⊕ List Tab) = .inr ts → (∀ e, o = some e → e.length ≤ B + 9) → ∀ t ∈ ts, Good t names (B + 9) := by
    intro o ts h ho t ht
    cases h
    have : t = withF gs n o := by simpa using ht
    rw [this]
    exact g.with hn (by omega) ho
  by_cases w1 : word = "make"
  · rw [if_pos w1] at h
    cases he : lookF gs n with
    | some bs =>
      rw [he] at h
      cases h
    | none =>
      rw [he] at h
      exact one h (fun e z => by cases z; exact Nat.zero_le _)
  rw [if_neg w1] at h
  cases he : lookF gs n with
  | none =>
    rw [he] at h
    cases h
  | some bs =>
    rw [he] at h
    dsimp only at h
    have hbs := g.len n bs he
    by_cases w2 : word = "drop"
    · rw [if_pos w2] at h
      exact one h (fun e z => by cases z)
    rw [if_neg w2] at h
    by_cases w3 : word = "cut"
    · rw [if_pos w3] at h
      by_cases hm : (bs.length : Int) < intOf d
      · rw [if_pos hm] at h
        cases h
      · rw [if_neg hm] at h
        refine one h (fun e z => ?_)
        cases z
        rw [List.length_take]
        omega
    · rw [if_neg w3] at h
      cases h
      intro t ht
      rw [List.mem_map] at ht
      obtain ⟨k, _, rfl⟩ := ht
      refine g.with hn (by omega) fun e z => ?_
      cases z
      rw [List.length_append, List.length_take]
      omega
theorem keys_perm {gs fs : Tab} (R : Rel gs fs) (n1 : (gs.map (·.1)).Nodup) (n2 : (fs.map (·.1)).Nodup) : (gs.map (·.1)).Perm (fs.map (·.1)) :=
  perm_of n1 n2 fun x => by rw [look_mem, look_mem, R x]
theorem len_in {l names : List Str} (nd : l.Nodup) (h : ∀ n ∈ l, n ∈ names) : l.length ≤ names.length := by
  induction l generalizing names with
  | nil => exact Nat.zero_le _
  | cons a t ih =>
    rw [List.nodup_cons] at nd
    have ha := h a List.mem_cons_self
    have := ih (names := names.erase a) nd.2 fun n hn => (List.mem_erase_of_ne (fun (z : n = a) => nd.1 (by rw [← z]; exact hn))).mpr (h n (List.mem_cons_of_mem _ hn))
    rw [List.length_erase_of_mem ha] at this
    have := List.length_pos_of_mem ha
    rw [List.length_cons]
    omega
theorem eqT_of {gs fs : Tab} {ms : List Str} (R : Rel gs fs) (n1 : (gs.map (·.1)).Nodup) (n2 : (fs.map (·.1)).Nodup) (p : ms.Perm (fs.map (·.1))) : eqT (tabF fs ms) gs = true := by
  unfold eqT
  have l1 : (tabF fs ms).length = gs.length := by
    have h1 := p.length_eq
    have h2 := (keys_perm R n1 n2).length_eq
    unfold tabF
    rw [List.length_map] at h1 h2 ⊢
    rw [List.length_map] at h2
    omega
  rw [decide_eq_true l1, Bool.true_and, List.all_eq_true]
  intro q hq
  unfold tabF at hq
  rw [List.mem_map] at hq
  obtain ⟨n, hn, rfl⟩ := hq
  obtain ⟨bs, hbs⟩ := look_some (p.mem_iff.mp hn)
  unfold okT
  have : lookT gs n = some bs := (R n).trans hbs
  show (match lookT gs n with | some bs => decide ((lookF fs n).getD [] = bs) | none => false) = true
  rw [this, hbs]
  exact decide_eq_true rfl
theorem last_mem {gs : Tab} : ∀ {us : List Tab}, us.getLastD gs = gs ∨ us.getLastD gs ∈ us
  | [] => .inl rfl
  | u :: us => .inr (by rw [List.getLastD_cons]; exact List.getLastD_mem_cons)
/-! ### the turn of a law over disks -/
theorem deed_word (x : Int) : deedW x = "make" ∨ deedW x = "add" ∨ deedW x = "cut" ∨ deedW x = "drop" := by
  unfold deedW
  dsimp only
  split
  · exact .inl rfl
  split
  · exact .inr (.inl rfl)
  split
  · exact .inr (.inr (.inl rfl))
  · exact .inr (.inr (.inr rfl))
theorem deed_more (x : Int) : moreOk (deedW x) (deedM x) ∧ (deedW x = "add" → isByt (deedM x) = true) ∧ (intsOf (deedM x)).length ≤ 9 ∧ (∀ bs, deedM x = .tuple bs → bs.length ≤ 100000) := by
  have h7 := Int.emod_nonneg (x / 13) (show (7 : Int) ≠ 0 by decide)
  unfold deedW deedM
  dsimp only
  by_cases h2 : pickF (seedF x 1) 8 < 2
  · simp only [if_pos h2]
    exact ⟨⟨fun z => absurd z (by decide), fun z => absurd rfl z⟩, fun z => absurd z (by decide), by decide, fun bs e => by cases e⟩
  simp only [if_neg h2]
  by_cases h6 : pickF (seedF x 1) 8 < 6
  · simp only [if_pos h6]
    have hl := bytes_len (seedF x 2)
    refine ⟨⟨fun z => absurd z (by decide), fun _ _ _ => ⟨_, rfl, by omega⟩⟩, fun _ => byt_all (bytes_in _ _), by rw [ints_int]; exact hl, fun bs e => ?_⟩
    cases e
    rw [List.length_map]
    omega
  simp only [if_neg h6]
  by_cases h7' : pickF (seedF x 1) 8 = 6
  · simp only [if_pos h7']
    refine ⟨⟨fun _ => ⟨(x / 13 % 7).toNat, ?_⟩, fun _ z => absurd rfl z⟩, fun z => absurd z (by decide), by show 0 ≤ 9; decide, fun bs e => by cases e⟩
    rw [Int.toNat_of_nonneg h7]
  · simp only [if_neg h7']
    exact ⟨⟨fun z => absurd z (by decide), fun _ _ z => absurd rfl z⟩, fun z => absurd z (by decide), by show 0 ≤ 9; decide, fun bs e => by cases e⟩
theorem deed_name {x : Int} {names : List Str} (h : names ≠ []) : deedN x names ∈ names := by
  have nl : 0 < names.length := List.length_pos_iff.mpr h
  have i0 := Int.emod_nonneg (x / 97) (show (names.length : Int) ≠ 0 by omega)
  have i1 := Int.emod_lt_of_pos (x / 97) (show (0 : Int) < names.length by omega)
  have il : (pickF x names.length).toNat < names.length := by unfold pickF; omega
  unfold deedN
  rw [List.getD_eq_getElem?_getD, List.getElem?_eq_getElem il]
  exact List.getElem_mem il
theorem own_tup {C dk df : Addr} {H : Hp} {kvs : List (Key × V)} {D : Dk} (h : DiskAt C H dk df kvs D) {b : Addr} {xs : List V} (e : H b = some (.tup xs)) : ¬ own dk df kvs b := by
  obtain ⟨dx, h1⟩ := h.self
  rintro (z | z | z)
  · rw [z, h1] at e
    cases e
  · rw [z, h.files] at e
    cases e
  · obtain ⟨ys, g⟩ := file_lst h.rel z
    rw [g] at e
    cases e
theorem frm_tup {C dk df : Addr} {H H' : Hp} {kvs : List (Key × V)} {D : Dk} (h : DiskAt C H dk df kvs D) (f : FrmD dk df kvs H H') : ∀ b xs, H b = some (.tup xs) → H' b = some (.tup xs) := fun b xs e => f b _ e (own_tup h e)
theorem tail_split {s tl : TS} {D : Ends} {σ : St} {H : Hp} (J : St → Hp → Prop) (h1 : ∀ σ' H', J σ' H' → tl D σ' H') (h2 : ∀ n : St → Hp → Prop, (∀ σ' H', J σ' H' → n σ' H') → s { D with nx := n } σ H) : tSeq s tl D σ H := h2 _ h1
theorem gn_split {i : Nat} {x : V} {s tl : TS} {D : Ends} {σ : St} {H : Hp} (J : St → Hp → Prop) (h1 : ∀ σ' H', J σ' H' → tl D σ' H') (h2 : ∀ n : St → Hp → Prop, (∀ σ' H', J σ' H' → n σ' H') → s { D with nx := n } (σ.set i (some x)) H) : gName i x σ H (tSeq s tl D) := h2 _ h1
theorem DiskAt.off {C dk df b : Addr} {H : Hp} {kvs : List (Key × V)} {D : Dk} {o : HO} (h : DiskAt C H dk df kvs D) (n : ¬ own dk df kvs b) : DiskAt C (upd H b o) dk df kvs D := by
  obtain ⟨dx, h1⟩ := h.self
  refine ⟨⟨dx, by rw [upd_ne (fun z => n (.inl z.symm))]; exact h1⟩, by rw [upd_ne (fun z => n (.inr (.inl z.symm)))]; exact h.files, h.rel.same fun c u e m => ?_, h.nd, h.kn⟩
  rw [upd_ne (fun z => n (.inr (.inr (by rw [← z]; exact m))))]
  exact e
theorem lay_strs : ∀ ns : List Str, (∀ n ∈ ns, PyData.canLay0 (.str n) = true) → PyData.canLayAll0 (ns.map .str) = true
  | [], _ => rfl
  | n :: ns, h => by
    show (PyData.canLay0 (.str n) && _) = true
    rw [h n List.mem_cons_self, Bool.true_and]
    exact lay_strs ns fun m hm => h m (List.mem_cons_of_mem _ hm)
theorem depth_strs : ∀ ns : List Str, PyData.depthAll (ns.map .str) = 0
  | [] => rfl
  | n :: ns => by
    show max 0 (PyData.depthAll (ns.map .str)) = 0
    rw [depth_strs ns]
    rfl
theorem shaped_strs (ns : List Str) (h : ∀ n ∈ ns, PyData.canLay0 (.str n) = true) : SeqAt.shaped (.list (ns.map .str)) = true := by
  unfold SeqAt.shaped
  have h1 : PyData.canLay0 (.list (ns.map .str)) = true := lay_strs ns h
  have h2 : PyData.depth (.list (ns.map .str)) = 1 := by
    show PyData.depthAll (ns.map .str) + 1 = 1
    rw [depth_strs]
  rw [h1, h2]
  rfl
theorem dens_strs {H : Hp} : ∀ {ns : List Str}, Dens H (ns.map PyData.str) (ns.map V.str)
  | [] => by simp [Dens]
  | n :: ns => by
    rw [List.map_cons, List.map_cons]
    simp only [Dens, Den]
    exact ⟨_, _, rfl, rfl, dens_strs⟩
theorem kit_lst_str {K : PySem.W.Frag} : PySem.W.kitOne K (.type "list") (.type "str") = some false := kit_str (.list [])
theorem kit_lst_list {K : PySem.W.Frag} : PySem.W.kitOne K (.type "list") (.type "list") = some true := kit_list (.list [])
theorem steps_code {gs : Tab} {word n : Str} {d : PyData} {c : Str} (h : stepsT gs word n d = .inl c) : c = "there" ∨ c = "missing" ∨ c = "number" := by
  unfold stepsT at h
  by_cases w1 : word = "make"
  · rw [if_pos w1] at h
    cases he : lookF gs n with
    | some bs => rw [he] at h; cases h; exact .inl rfl
    | none => rw [he] at h; cases h
  rw [if_neg w1] at h
  cases he : lookF gs n with
  | none => rw [he] at h; cases h; exact .inr (.inl rfl)
  | some bs =>
    rw [he] at h
    dsimp only at h
    by_cases w2 : word = "drop"
    · rw [if_pos w2] at h; cases h
    rw [if_neg w2] at h
    by_cases w3 : word = "cut"
    · rw [if_pos w3] at h
      by_cases hm : (bs.length : Int) < intOf d
      · rw [if_pos hm] at h; cases h; exact .inr (.inr rfl)
      · rw [if_neg hm] at h; cases h
    · rw [if_neg w3] at h; cases h
theorem code_shaped {c : Str} (h : c = "there" ∨ c = "missing" ∨ c = "number") : SeqAt.shaped (.str c) = true ∧ PyData.eqv (.str c) (.str c) = true := by
  rcases h with rfl | rfl | rfl
  · exact ⟨by decide +kernel, by decide +kernel⟩
  · exact ⟨by decide +kernel, by decide +kernel⟩
  · exact ⟨by decide +kernel, by decide +kernel⟩
theorem tabs_last {H0 H : Hp} {xs : List V} {ts : List Tab} (h : TabsV H0 H xs ts) : (xs = [] ∧ ts = []) ∨ ∃ ys v us t, xs = ys ++ [v] ∧ ts = us ++ [t] ∧ TabV H0 H v t := by
  obtain ⟨hl, h⟩ := h
  rcases List.eq_nil_or_concat xs with e | ⟨ys, v, e⟩
  · subst e
    exact .inl ⟨rfl, List.eq_nil_of_length_eq_zero hl.symm⟩
  · rcases List.eq_nil_or_concat ts with e' | ⟨us, t, e'⟩
    · subst e e'
      simp at hl
    · subst e e'
      rw [List.concat_eq_append, List.concat_eq_append, List.length_append, List.length_append] at hl
      have hl : ys.length = us.length := by simpa using hl
      refine .inr ⟨ys, v, us, t, List.concat_eq_append .., List.concat_eq_append .., h ys.length v t (by simp) (by rw [hl]; simp)⟩
end Qh
end
section
set_option Elab.async false
set_option linter.all false
set_option maxRecDepth 100000
namespace Qh
open PySem L2
abbrev s_law : Stmt := top 32
def sp_law (K : PySem.W.Frag) : Sp := fun vs H Q _ => ∃ (a : Addr) (ns : List Int), vs = [.ref a] ∧ SqL K H a (ns.map V.int) ∧ ∀ H', Q (.bl true) H'
def nm1 : List Str := ["a", "b", "c"]
theorem nm1_ok : ∀ n ∈ nm1, wordD signs36 8 (.str n) = true ∧ n.length ≤ 1000 ∧ ascii n = true := by
  intro n hn
  unfold nm1 at hn
  simp only [List.mem_cons, List.mem_nil_iff, or_false] at hn
  rcases hn with rfl | rfl | rfl
  · exact ⟨by decide +kernel, by decide, by decide +kernel⟩
  · exact ⟨by decide +kernel, by decide, by decide +kernel⟩
  · exact ⟨by decide +kernel, by decide, by decide +kernel⟩
structure Inv1 (C : Addr) (H0 H : Hp) (dk df pf : Addr) (kvs lvs : List (Key × V)) (D : Dk) (gs : Tab) (B : Nat) : Prop where
  same : Same H0 H
  new : ∀ b, own dk df kvs b → H0 b = none
  disk : DiskAt C H dk df kvs D
  tab : H pf = some (.dK lvs)
  tb : TbR H gs lvs
  off : ¬ own dk df kvs pf
  rel : Rel gs D.fs
  good : Good gs nm1 B
  left : ∀ r, D.left = some r → 0 ≤ r ∧ r ≤ 60
theorem Inv1.go {C : Addr} {H0 H H' : Hp} {dk df pf : Addr} {kvs lvs : List (Key × V)} {D : Dk} {gs : Tab} {B : Nat} (h : Inv1 C H0 H dk df pf kvs lvs D gs B) (s : Same H H') : Inv1 C H0 H' dk df pf kvs lvs D gs B :=
  ⟨h.same.trans s, h.new, h.disk.same s, s _ _ h.tab, tb_t (fun b xs e => s _ _ e) h.tb, h.off, h.rel, h.good, h.left⟩
theorem Inv1.few {C : Addr} {H0 H : Hp} {dk df pf : Addr} {kvs lvs : List (Key × V)} {D : Dk} {gs : Tab} {B : Nat} (h : Inv1 C H0 H dk df pf kvs lvs D gs B) : gs.length ≤ 3 ∧ D.fs.length ≤ 3 ∧ namesOk D.fs := by
  have h1 := len_in h.good.nd h.good.ns
  have h2 := (keys_perm h.rel h.good.nd h.disk.kn).length_eq
  rw [List.length_map] at h1 h2
  rw [List.length_map] at h2
  refine ⟨h1, by rw [← h2]; exact h1, fun n hn => ?_⟩
  exact nm1_ok n (h.good.ns n ((keys_perm h.rel h.good.nd h.disk.kn).mem_iff.mpr hn))
def σ1 (a dk pf : Addr) (room : V) (m : Int) (z5 z6 z7 z8 z9 z10 : Option V) : St := [some (.ref a), some room, some (.ref dk), some (.ref pf), some (.int m), z5, z6, z7, z8, z9, z10]
theorem tabs_take {H0 H : Hp} {xs : List V} {ts : List Tab} (k : Nat) (h : TabsV H0 H xs ts) : TabsV H0 H (xs.take k) (ts.take k) := by
  refine ⟨by rw [List.length_take, List.length_take, h.1], fun i x t e1 e2 => ?_⟩
  rw [List.getElem?_take] at e1 e2
  by_cases hi : i < k
  · rw [if_pos hi] at e1 e2
    exact h.2 i x t e1 e2
  · rw [if_neg hi] at e1
    cases e1
theorem tabs_t {H0 H H' : Hp} {xs : List V} {ts : List Tab} (h : TabsV H0 H xs ts) (k : ∀ b o, H b = some o → (∀ zs, o ≠ .lst zs) → H0 b = none → H' b = some o) (kt : ∀ b xs, H b = some (.tup xs) → H' b = some (.tup xs)) : TabsV H0 H' xs ts :=
  ⟨h.1, fun i x t e1 e2 => by
    obtain ⟨p, lvs, e, hn, g, tb⟩ := h.2 i x t e1 e2
    exact ⟨p, lvs, e, hn, k _ _ g (fun zs z => by cases z) hn, tb_t kt tb⟩⟩
theorem steps_few {gs : Tab} {word n : Str} {d : PyData} {ts : List Tab} (hd : (intsOf d).length ≤ 9) (h : stepsT gs word n d = .inr ts) : ts.length ≤ 9 := by
  unfold stepsT at h
  by_cases w1 : word = "make"
  · rw [if_pos w1] at h
    cases he : lookF gs n with
    | some bs => rw [he] at h; cases h
    | none => rw [he] at h; cases h; exact Nat.le_of_ble_eq_true rfl
  rw [if_neg w1] at h
  cases he : lookF gs n with
  | none => rw [he] at h; cases h
  | some bs =>
    rw [he] at h
    dsimp only at h
    by_cases w2 : word = "drop"
    · rw [if_pos w2] at h; cases h; exact Nat.le_of_ble_eq_true rfl
    rw [if_neg w2] at h
    by_cases w3 : word = "cut"
    · rw [if_pos w3] at h
      by_cases hm : (bs.length : Int) < intOf d
      · rw [if_pos hm] at h; cases h
      · rw [if_neg hm] at h; cases h; exact Nat.le_of_ble_eq_true rfl
    · rw [if_neg w3] at h; cases h
      rw [List.length_map, List.length_range]
      exact hd
theorem seq_join {s tl : TS} {D : Ends} {σ : St} {H : Hp} (J : St → Hp → Prop) (h2 : ∀ n : St → Hp → Prop, (∀ σ' H', J σ' H' → n σ' H') → s { D with nx := n } σ H) (h1 : ∀ σ' H', J σ' H' → tl D σ' H') : tSeq s tl D σ H := h2 _ h1
theorem gn_join {i : Nat} {x : V} {s tl : TS} {D : Ends} {σ : St} {H : Hp} (J : St → Hp → Prop) (h2 : ∀ n : St → Hp → Prop, (∀ σ' H', J σ' H' → n σ' H') → s { D with nx := n } (σ.set i (some x)) H) (h1 : ∀ σ' H', J σ' H' → tl D σ' H') : gName i x σ H (tSeq s tl D) := h2 _ h1
section
variable {P : Program} {w : World} {K : PySem.W.Frag} {mg : Str → Option Value} {base : Heap} {C_BadName C_Missing C_There C_Stopped C_BadRow C_BadNumber C_Disk : Addr}
theorem sc_law : FnScope ["_law_script", "_law_room", "_law_disk", "_law_files_here", "_law_many", "_law_k", "_law_deed", "_law_steps", "_law_caught_here", "_law_some", "_law_stops"] ["_law_script"] (defScope s_law) := ⟨rfl, rfl, rfl, by decide +kernel, rfl, by decide +kernel, by decide +kernel⟩
set_option maxHeartbeats 2000000 in
theorem ok_law {f : Addr} {fd : FuncData} (F : Fun K "law" "law" s_law f fd) (T : TxtW K mg C_BadName C_Missing C_There C_Stopped C_BadRow C_BadNumber C_Disk) (c_Disk : Maker P w K mg base "Disk" C_Disk 3 ["self", "steps"] (sp_dinit C_Disk C_BadNumber))
    (m_steps : Method P w K mg base C_Disk "steps" 1 ["self"] (sp_steps C_Disk)) (m_left : Method P w K mg base C_Disk "left" 1 ["self"] (sp_left C_Disk)) (m_go_on : Method P w K mg base C_Disk "go_on" 3 ["self", "steps"] (sp_go_on C_Disk C_BadNumber))
    (c__law_files : Callee P w K mg base "_law_files" 5 ["_law_disk"] (sp_files C_Disk)) (c__law_caught : Callee P w K mg base "_law_caught" 6 ["_law_disk", "_law_deed"] (sp_caught C_Disk)) (c__law_cell : Callee P w K mg base "_law_cell" 1 ["_law_script", "_law_k"] (sp_cell K)) (c__law_mix : Callee P w K mg base "_law_mix" 1 ["_law_cell_here", "_law_prime", "_law_many"] sp_mix) (c__law_seed : Callee P w K mg base "_law_seed" 1 ["_law_seed_here", "_law_k"] sp_seed)
    (c__law_disk_deed : Callee P w K mg base "_law_disk_deed" 3 ["_law_seed_here", "_law_names"] sp_deed) (c__law_disk_steps : Callee P w K mg base "_law_disk_steps" 2 ["_law_files_here", "_law_deed"] sp_dsteps) :
    FnOk P w K mg base (CXE P w) 7 f fd ["_law_script"] (sp_law K) := by
  refine F.okX sc_law (fun vs H Q E h => ?_) (fun cdv A outer s H vs Q E hr h => ?_)
  · obtain ⟨a, ns, rfl, _⟩ := h
    rfl
  · obtain ⟨a, ns, rfl, hs, q⟩ := h
    refine ⟨_, @pss_cons _ _ _ _ _ (@ps_set _ _ (1) _ _ _ _ sc_law.nd (by rfl) (by first | exact Or.inl (by rfl) | exact Or.inr (by rfl)) (@pe_fn _ _ _ _ _ _ _ _ _ _ _ c__law_mix (hr.mono (by decide)) passN (@pa_Call _ _ _ _ _ _ _ _ (@pe_fn _ _ _ _ _ _ _ _ _ _ _ c__law_cell (hr.mono (by decide)) passN (@pa_Name _ _ _ _ _ _ (@pv _ 0 _ _ (by first | rfl | decide | exact .inl rfl | exact .inr rfl | exact .inr (.inl rfl) | exact .inr (.inr rfl) | (intro _; rfl) | with_unfolding_all rfl) (by first | rfl | decide | exact .inl rfl | exact .inr rfl | exact .inr (.inl rfl) | exact .inr (.inr rfl) | (intro _; rfl) | with_unfolding_all rfl) (by first | rfl | decide | exact .inl rfl | exact .inr rfl | exact .inr (.inl rfl) | exact .inr (.inr rfl) | (intro _; rfl) | with_unfolding_all rfl) (by first | rfl | decide | exact .inl rfl | exact .inr rfl | exact .inr (.inl rfl) | exact .inr (.inr rfl) | (intro _; rfl) | with_unfolding_all rfl)) (@pa_Constant _ _ _ _ _ _ _ (@pe_int _ _ _ _) (@pa_nil _))) (by first | rfl | decide | exact .inl rfl | exact .inr rfl | exact .inr (.inl rfl) | exact .inr (.inr rfl) | (intro _; rfl) | with_unfolding_all rfl) (by first | rfl | decide | exact .inl rfl | exact .inr rfl | exact .inr (.inl rfl) | exact .inr (.inr rfl) | (intro _; rfl) | with_unfolding_all rfl) (by first | rfl | decide | exact .inl rfl | exact .inr rfl | exact .inr (.inl rfl) | exact .inr (.inr rfl) | (intro _; rfl) | with_unfolding_all rfl) (by first | rfl | decide | exact .inl rfl | exact .inr rfl | exact .inr (.inl rfl) | exact .inr (.inr rfl) | (intro _; rfl) | with_unfolding_all rfl)) (@pa_Constant _ _ _ _ _ _ _ (@pe_int _ _ _ _) (@pa_Constant _ _ _ _ _ _ _ (@pe_int _ _ _ _) (@pa_nil _)))) (by first | rfl | decide | exact .inl rfl | exact .inr rfl | exact .inr (.inl rfl) | exact .inr (.inr rfl) | (intro _; rfl) | with_unfolding_all rfl) (by first | rfl | decide | exact .inl rfl | exact .inr rfl | exact .inr (.inl rfl) | exact .inr (.inr rfl) | (intro _; rfl) | with_unfolding_all rfl) (by first | rfl | decide | exact .inl rfl | exact .inr rfl | exact .inr (.inl rfl) | exact .inr (.inr rfl) | (intro _; rfl) | with_unfolding_all rfl) (by first | rfl | decide | exact .inl rfl | exact .inr rfl | exact .inr (.inl rfl) | exact .inr (.inr rfl) | (intro _; rfl) | with_unfolding_all rfl)) (by first | rfl | decide | exact .inl rfl | exact .inr rfl | exact .inr (.inl rfl) | exact .inr (.inr rfl) | (intro _; rfl) | with_unfolding_all rfl) (by first | rfl | decide | exact .inl rfl | exact .inr rfl | exact .inr (.inl rfl) | exact .inr (.inr rfl) | (intro _; rfl) | with_unfolding_all rfl)) (@pss_cons _ _ _ _ _ (@ps_set _ _ (2) _ _ _ _ sc_law.nd (by rfl) (by first | exact Or.inl (by rfl) | exact Or.inr (by rfl)) (@pe_mk _ _ _ _ _ _ _ _ _ _ _ _ c_Disk (hr.mono (by decide)) passN (@pa_Name _ _ _ _ _ _ (@pv _ 1 _ _ (by first | rfl | decide | exact .inl rfl | exact .inr rfl | exact .inr (.inl rfl) | exact .inr (.inr rfl) | (intro _; rfl) | with_unfolding_all rfl) (by first | rfl | decide | exact .inl rfl | exact .inr rfl | exact .inr (.inl rfl) | exact .inr (.inr rfl) | (intro _; rfl) | with_unfolding_all rfl) (by first | rfl | decide | exact .inl rfl | exact .inr rfl | exact .inr (.inl rfl) | exact .inr (.inr rfl) | (intro _; rfl) | with_unfolding_all rfl) (by first | rfl | decide | exact .inl rfl | exact .inr rfl | exact .inr (.inl rfl) | exact .inr (.inr rfl) | (intro _; rfl) | with_unfolding_all rfl)) (@pa_nil _)) (by first | rfl | decide | exact .inl rfl | exact .inr rfl | exact .inr (.inl rfl) | exact .inr (.inr rfl) | (intro _; rfl) | with_unfolding_all rfl) (by first | rfl | decide | exact .inl rfl | exact .inr rfl | exact .inr (.inl rfl) | exact .inr (.inr rfl) | (intro _; rfl) | with_unfolding_all rfl) (by first | rfl | decide | exact .inl rfl | exact .inr rfl | exact .inr (.inl rfl) | exact .inr (.inr rfl) | (intro _; rfl) | with_unfolding_all rfl) (by first | rfl | decide | exact .inl rfl | exact .inr rfl | exact .inr (.inl rfl) | exact .inr (.inr rfl) | (intro _; rfl) | with_unfolding_all rfl)) (by first | rfl | decide | exact .inl rfl | exact .inr rfl | exact .inr (.inl rfl) | exact .inr (.inr rfl) | (intro _; rfl) | with_unfolding_all rfl) (by first | rfl | decide | exact .inl rfl | exact .inr rfl | exact .inr (.inl rfl) | exact .inr (.inr rfl) | (intro _; rfl) | with_unfolding_all rfl)) (@pss_cons _ _ _ _ _ (@ps_set _ _ (3) _ _ _ _ sc_law.nd (by rfl) (by first | exact Or.inl (by rfl) | exact Or.inr (by rfl)) (@pe_dnewK _ _) (by first | rfl | decide | exact .inl rfl | exact .inr rfl | exact .inr (.inl rfl) | exact .inr (.inr rfl) | (intro _; rfl) | with_unfolding_all rfl) (by first | rfl | decide | exact .inl rfl | exact .inr rfl | exact .inr (.inl rfl) | exact .inr (.inr rfl) | (intro _; rfl) | with_unfolding_all rfl)) (@pss_cons _ _ _ _ _ (@ps_set _ _ (4) _ _ _ _ sc_law.nd (by rfl) (by first | exact Or.inl (by rfl) | exact Or.inr (by rfl)) (@pe_int _ _ _ _) (by first | rfl | decide | exact .inl rfl | exact .inr rfl | exact .inr (.inl rfl) | exact .inr (.inr rfl) | (intro _; rfl) | with_unfolding_all rfl) (by first | rfl | decide | exact .inl rfl | exact .inr rfl | exact .inr (.inl rfl) | exact .inr (.inr rfl) | (intro _; rfl) | with_unfolding_all rfl)) (@pss_cons _ _ _ _ _ (@ps_for _ _ _ _ _ _ _ _ (ownB own_cx) (by rfl) (@pi_range1 _ _ _ _ _ _ (by rfl) T.n_range (@pa_Constant _ _ _ _ _ _ _ (@pe_int _ _ _ _) (@pa_nil _)) (by first | rfl | decide | exact .inl rfl | exact .inr rfl | exact .inr (.inl rfl) | exact .inr (.inr rfl) | (intro _; rfl) | with_unfolding_all rfl)) (@pg_name _ _ (5) _ sc_law.nd (by rfl) (by first | exact Or.inl (by rfl) | exact Or.inr (by rfl)) (by first | rfl | decide | exact .inl rfl | exact .inr rfl | exact .inr (.inl rfl) | exact .inr (.inr rfl) | (intro _; rfl) | with_unfolding_all rfl)) (@pss_cons _ _ _ _ _ (@ps_set _ _ (6) _ _ _ _ sc_law.nd (by rfl) (by first | exact Or.inl (by rfl) | exact Or.inr (by rfl)) (@pe_fn _ _ _ _ _ _ _ _ _ _ _ c__law_disk_deed (hr.mono (by decide)) passN (@pa_Call _ _ _ _ _ _ _ _ (@pe_fn _ _ _ _ _ _ _ _ _ _ _ c__law_seed (hr.mono (by decide)) passN (@pa_BinOp _ _ _ _ _ _ _ _ (@pe_op _ _ _ _ _ _ _ _ op_add (@pe_fn _ _ _ _ _ _ _ _ _ _ _ c__law_cell (hr.mono (by decide)) passN (@pa_Name _ _ _ _ _ _ (@pv _ 0 _ _ (by first | rfl | decide | exact .inl rfl | exact .inr rfl | exact .inr (.inl rfl) | exact .inr (.inr rfl) | (intro _; rfl) | with_unfolding_all rfl) (by first | rfl | decide | exact .inl rfl | exact .inr rfl | exact .inr (.inl rfl) | exact .inr (.inr rfl) | (intro _; rfl) | with_unfolding_all rfl) (by first | rfl | decide | exact .inl rfl | exact .inr rfl | exact .inr (.inl rfl) | exact .inr (.inr rfl) | (intro _; rfl) | with_unfolding_all rfl) (by first | rfl | decide | exact .inl rfl | exact .inr rfl | exact .inr (.inl rfl) | exact .inr (.inr rfl) | (intro _; rfl) | with_unfolding_all rfl)) (@pa_BinOp _ _ _ _ _ _ _ _ (@pe_op _ _ _ _ _ _ _ _ op_add (@pe_int _ _ _ _) (@pe_op _ _ _ _ _ _ _ _ op_mod (@pv _ 5 _ _ (by first | rfl | decide | exact .inl rfl | exact .inr rfl | exact .inr (.inl rfl) | exact .inr (.inr rfl) | (intro _; rfl) | with_unfolding_all rfl) (by first | rfl | decide | exact .inl rfl | exact .inr rfl | exact .inr (.inl rfl) | exact .inr (.inr rfl) | (intro _; rfl) | with_unfolding_all rfl) (by first | rfl | decide | exact .inl rfl | exact .inr rfl | exact .inr (.inl rfl) | exact .inr (.inr rfl) | (intro _; rfl) | with_unfolding_all rfl) (by first | rfl | decide | exact .inl rfl | exact .inr rfl | exact .inr (.inl rfl) | exact .inr (.inr rfl) | (intro _; rfl) | with_unfolding_all rfl)) (@pe_int _ _ _ _))) (@pa_nil _))) (by first | rfl | decide | exact .inl rfl | exact .inr rfl | exact .inr (.inl rfl) | exact .inr (.inr rfl) | (intro _; rfl) | with_unfolding_all rfl) (by first | rfl | decide | exact .inl rfl | exact .inr rfl | exact .inr (.inl rfl) | exact .inr (.inr rfl) | (intro _; rfl) | with_unfolding_all rfl) (by first | rfl | decide | exact .inl rfl | exact .inr rfl | exact .inr (.inl rfl) | exact .inr (.inr rfl) | (intro _; rfl) | with_unfolding_all rfl) (by first | rfl | decide | exact .inl rfl | exact .inr rfl | exact .inr (.inl rfl) | exact .inr (.inr rfl) | (intro _; rfl) | with_unfolding_all rfl)) (@pe_op _ _ _ _ _ _ _ _ op_mul (@pe_int _ _ _ _) (@pv _ 5 _ _ (by first | rfl | decide | exact .inl rfl | exact .inr rfl | exact .inr (.inl rfl) | exact .inr (.inr rfl) | (intro _; rfl) | with_unfolding_all rfl) (by first | rfl | decide | exact .inl rfl | exact .inr rfl | exact .inr (.inl rfl) | exact .inr (.inr rfl) | (intro _; rfl) | with_unfolding_all rfl) (by first | rfl | decide | exact .inl rfl | exact .inr rfl | exact .inr (.inl rfl) | exact .inr (.inr rfl) | (intro _; rfl) | with_unfolding_all rfl) (by first | rfl | decide | exact .inl rfl | exact .inr rfl | exact .inr (.inl rfl) | exact .inr (.inr rfl) | (intro _; rfl) | with_unfolding_all rfl)))) (@pa_Name _ _ _ _ _ _ (@pv _ 5 _ _ (by first | rfl | decide | exact .inl rfl | exact .inr rfl | exact .inr (.inl rfl) | exact .inr (.inr rfl) | (intro _; rfl) | with_unfolding_all rfl) (by first | rfl | decide | exact .inl rfl | exact .inr rfl | exact .inr (.inl rfl) | exact .inr (.inr rfl) | (intro _; rfl) | with_unfolding_all rfl) (by first | rfl | decide | exact .inl rfl | exact .inr rfl | exact .inr (.inl rfl) | exact .inr (.inr rfl) | (intro _; rfl) | with_unfolding_all rfl) (by first | rfl | decide | exact .inl rfl | exact .inr rfl | exact .inr (.inl rfl) | exact .inr (.inr rfl) | (intro _; rfl) | with_unfolding_all rfl)) (@pa_nil _))) (by first | rfl | decide | exact .inl rfl | exact .inr rfl | exact .inr (.inl rfl) | exact .inr (.inr rfl) | (intro _; rfl) | with_unfolding_all rfl) (by first | rfl | decide | exact .inl rfl | exact .inr rfl | exact .inr (.inl rfl) | exact .inr (.inr rfl) | (intro _; rfl) | with_unfolding_all rfl) (by first | rfl | decide | exact .inl rfl | exact .inr rfl | exact .inr (.inl rfl) | exact .inr (.inr rfl) | (intro _; rfl) | with_unfolding_all rfl) (by first | rfl | decide | exact .inl rfl | exact .inr rfl | exact .inr (.inl rfl) | exact .inr (.inr rfl) | (intro _; rfl) | with_unfolding_all rfl)) (@pa_List _ _ _ _ _ _ (@pe_lst _ _ _ _ (@pa_Constant _ _ _ _ _ _ _ (@pe_str _ _ _ _) (@pa_Constant _ _ _ _ _ _ _ (@pe_str _ _ _ _) (@pa_Constant _ _ _ _ _ _ _ (@pe_str _ _ _ _) (@pa_nil _))))) (@pa_nil _))) (by first | rfl | decide | exact .inl rfl | exact .inr rfl | exact .inr (.inl rfl) | exact .inr (.inr rfl) | (intro _; rfl) | with_unfolding_all rfl) (by first | rfl | decide | exact .inl rfl | exact .inr rfl | exact .inr (.inl rfl) | exact .inr (.inr rfl) | (intro _; rfl) | with_unfolding_all rfl) (by first | rfl | decide | exact .inl rfl | exact .inr rfl | exact .inr (.inl rfl) | exact .inr (.inr rfl) | (intro _; rfl) | with_unfolding_all rfl) (by first | rfl | decide | exact .inl rfl | exact .inr rfl | exact .inr (.inl rfl) | exact .inr (.inr rfl) | (intro _; rfl) | with_unfolding_all rfl)) (by first | rfl | decide | exact .inl rfl | exact .inr rfl | exact .inr (.inl rfl) | exact .inr (.inr rfl) | (intro _; rfl) | with_unfolding_all rfl) (by first | rfl | decide | exact .inl rfl | exact .inr rfl | exact .inr (.inl rfl) | exact .inr (.inr rfl) | (intro _; rfl) | with_unfolding_all rfl)) (@pss_cons _ _ _ _ _ (@ps_set _ _ (7) _ _ _ _ sc_law.nd (by rfl) (by first | exact Or.inl (by rfl) | exact Or.inr (by rfl)) (@pe_fn _ _ _ _ _ _ _ _ _ _ _ c__law_disk_steps (hr.mono (by decide)) passN (@pa_Name _ _ _ _ _ _ (@pv _ 3 _ _ (by first | rfl | decide | exact .inl rfl | exact .inr rfl | exact .inr (.inl rfl) | exact .inr (.inr rfl) | (intro _; rfl) | with_unfolding_all rfl) (by first | rfl | decide | exact .inl rfl | exact .inr rfl | exact .inr (.inl rfl) | exact .inr (.inr rfl) | (intro _; rfl) | with_unfolding_all rfl) (by first | rfl | decide | exact .inl rfl | exact .inr rfl | exact .inr (.inl rfl) | exact .inr (.inr rfl) | (intro _; rfl) | with_unfolding_all rfl) (by first | rfl | decide | exact .inl rfl | exact .inr rfl | exact .inr (.inl rfl) | exact .inr (.inr rfl) | (intro _; rfl) | with_unfolding_all rfl)) (@pa_Name _ _ _ _ _ _ (@pv _ 6 _ _ (by first | rfl | decide | exact .inl rfl | exact .inr rfl | exact .inr (.inl rfl) | exact .inr (.inr rfl) | (intro _; rfl) | with_unfolding_all rfl) (by first | rfl | decide | exact .inl rfl | exact .inr rfl | exact .inr (.inl rfl) | exact .inr (.inr rfl) | (intro _; rfl) | with_unfolding_all rfl) (by first | rfl | decide | exact .inl rfl | exact .inr rfl | exact .inr (.inl rfl) | exact .inr (.inr rfl) | (intro _; rfl) | with_unfolding_all rfl) (by first | rfl | decide | exact .inl rfl | exact .inr rfl | exact .inr (.inl rfl) | exact .inr (.inr rfl) | (intro _; rfl) | with_unfolding_all rfl)) (@pa_nil _))) (by first | rfl | decide | exact .inl rfl | exact .inr rfl | exact .inr (.inl rfl) | exact .inr (.inr rfl) | (intro _; rfl) | with_unfolding_all rfl) (by first | rfl | decide | exact .inl rfl | exact .inr rfl | exact .inr (.inl rfl) | exact .inr (.inr rfl) | (intro _; rfl) | with_unfolding_all rfl) (by first | rfl | decide | exact .inl rfl | exact .inr rfl | exact .inr (.inl rfl) | exact .inr (.inr rfl) | (intro _; rfl) | with_unfolding_all rfl) (by first | rfl | decide | exact .inl rfl | exact .inr rfl | exact .inr (.inl rfl) | exact .inr (.inr rfl) | (intro _; rfl) | with_unfolding_all rfl)) (by first | rfl | decide | exact .inl rfl | exact .inr rfl | exact .inr (.inl rfl) | exact .inr (.inr rfl) | (intro _; rfl) | with_unfolding_all rfl) (by first | rfl | decide | exact .inl rfl | exact .inr rfl | exact .inr (.inl rfl) | exact .inr (.inr rfl) | (intro _; rfl) | with_unfolding_all rfl)) (@pss_cons _ _ _ _ _ (@ps_set _ _ (8) _ _ _ _ sc_law.nd (by rfl) (by first | exact Or.inl (by rfl) | exact Or.inr (by rfl)) (@pe_fn _ _ _ _ _ _ _ _ _ _ _ c__law_caught (hr.mono (by decide)) passN (@pa_Name _ _ _ _ _ _ (@pv _ 2 _ _ (by first | rfl | decide | exact .inl rfl | exact .inr rfl | exact .inr (.inl rfl) | exact .inr (.inr rfl) | (intro _; rfl) | with_unfolding_all rfl) (by first | rfl | decide | exact .inl rfl | exact .inr rfl | exact .inr (.inl rfl) | exact .inr (.inr rfl) | (intro _; rfl) | with_unfolding_all rfl) (by first | rfl | decide | exact .inl rfl | exact .inr rfl | exact .inr (.inl rfl) | exact .inr (.inr rfl) | (intro _; rfl) | with_unfolding_all rfl) (by first | rfl | decide | exact .inl rfl | exact .inr rfl | exact .inr (.inl rfl) | exact .inr (.inr rfl) | (intro _; rfl) | with_unfolding_all rfl)) (@pa_Name _ _ _ _ _ _ (@pv _ 6 _ _ (by first | rfl | decide | exact .inl rfl | exact .inr rfl | exact .inr (.inl rfl) | exact .inr (.inr rfl) | (intro _; rfl) | with_unfolding_all rfl) (by first | rfl | decide | exact .inl rfl | exact .inr rfl | exact .inr (.inl rfl) | exact .inr (.inr rfl) | (intro _; rfl) | with_unfolding_all rfl) (by first | rfl | decide | exact .inl rfl | exact .inr rfl | exact .inr (.inl rfl) | exact .inr (.inr rfl) | (intro _; rfl) | with_unfolding_all rfl) (by first | rfl | decide | exact .inl rfl | exact .inr rfl | exact .inr (.inl rfl) | exact .inr (.inr rfl) | (intro _; rfl) | with_unfolding_all rfl)) (@pa_nil _))) (by first | rfl | decide | exact .inl rfl | exact .inr rfl | exact .inr (.inl rfl) | exact .inr (.inr rfl) | (intro _; rfl) | with_unfolding_all rfl) (by first | rfl | decide | exact .inl rfl | exact .inr rfl | exact .inr (.inl rfl) | exact .inr (.inr rfl) | (intro _; rfl) | with_unfolding_all rfl) (by first | rfl | decide | exact .inl rfl | exact .inr rfl | exact .inr (.inl rfl) | exact .inr (.inr rfl) | (intro _; rfl) | with_unfolding_all rfl) (by first | rfl | decide | exact .inl rfl | exact .inr rfl | exact .inr (.inl rfl) | exact .inr (.inr rfl) | (intro _; rfl) | with_unfolding_all rfl)) (by first | rfl | decide | exact .inl rfl | exact .inr rfl | exact .inr (.inl rfl) | exact .inr (.inr rfl) | (intro _; rfl) | with_unfolding_all rfl) (by first | rfl | decide | exact .inl rfl | exact .inr rfl | exact .inr (.inl rfl) | exact .inr (.inr rfl) | (intro _; rfl) | with_unfolding_all rfl)) (@pss_one _ _ _ (@ps_if _ _ _ _ _ _ _ _ (@pt_not _ _ _ _ (@pt_val _ _ _ (@pe_callB _ _ _ _ _ _ _ _ _ (call_isiK K) (by rfl) T.n_isinstance bt_isinstance (@pa_Name _ _ _ _ _ _ (@pv _ 7 _ _ (by first | rfl | decide | exact .inl rfl | exact .inr rfl | exact .inr (.inl rfl) | exact .inr (.inr rfl) | (intro _; rfl) | with_unfolding_all rfl) (by first | rfl | decide | exact .inl rfl | exact .inr rfl | exact .inr (.inl rfl) | exact .inr (.inr rfl) | (intro _; rfl) | with_unfolding_all rfl) (by first | rfl | decide | exact .inl rfl | exact .inr rfl | exact .inr (.inl rfl) | exact .inr (.inr rfl) | (intro _; rfl) | with_unfolding_all rfl) (by first | rfl | decide | exact .inl rfl | exact .inr rfl | exact .inr (.inl rfl) | exact .inr (.inr rfl) | (intro _; rfl) | with_unfolding_all rfl)) (@pa_Name _ _ _ _ _ _ (@pe_bltn _ _ (.ty "str") _ _ (by rfl) T.n_str bt_str (by rfl) (by first | rfl | decide | exact .inl rfl | exact .inr rfl | exact .inr (.inl rfl) | exact .inr (.inr rfl) | (intro _; rfl) | with_unfolding_all rfl) (by first | rfl | decide | exact .inl rfl | exact .inr rfl | exact .inr (.inl rfl) | exact .inr (.inr rfl) | (intro _; rfl) | with_unfolding_all rfl)) (@pa_nil _))) (by first | rfl | decide | exact .inl rfl | exact .inr rfl | exact .inr (.inl rfl) | exact .inr (.inr rfl) | (intro _; rfl) | with_unfolding_all rfl) (by first | rfl | decide | exact .inl rfl | exact .inr rfl | exact .inr (.inl rfl) | exact .inr (.inr rfl) | (intro _; rfl) | with_unfolding_all rfl) (by first | rfl | decide | exact .inl rfl | exact .inr rfl | exact .inr (.inl rfl) | exact .inr (.inr rfl) | (intro _; rfl) | with_unfolding_all rfl) (by first | rfl | decide | exact .inl rfl | exact .inr rfl | exact .inr (.inl rfl) | exact .inr (.inr rfl) | (intro _; rfl) | with_unfolding_all rfl)) (by first | rfl | decide | exact .inl rfl | exact .inr rfl | exact .inr (.inl rfl) | exact .inr (.inr rfl) | (intro _; rfl) | with_unfolding_all rfl))) (@pss_cons _ _ _ _ _ (@ps_set _ _ (9) _ _ _ _ sc_law.nd (by rfl) (by first | exact Or.inl (by rfl) | exact Or.inr (by rfl)) (@pe_ifExp _ _ _ _ _ _ _ _ (@pt_cmpR _ _ _ _ _ _ _ _ op_isN (@pv _ 1 _ _ (by first | rfl | decide | exact .inl rfl | exact .inr rfl | exact .inr (.inl rfl) | exact .inr (.inr rfl) | (intro _; rfl) | with_unfolding_all rfl) (by first | rfl | decide | exact .inl rfl | exact .inr rfl | exact .inr (.inl rfl) | exact .inr (.inr rfl) | (intro _; rfl) | with_unfolding_all rfl) (by first | rfl | decide | exact .inl rfl | exact .inr rfl | exact .inr (.inl rfl) | exact .inr (.inr rfl) | (intro _; rfl) | with_unfolding_all rfl) (by first | rfl | decide | exact .inl rfl | exact .inr rfl | exact .inr (.inl rfl) | exact .inr (.inr rfl) | (intro _; rfl) | with_unfolding_all rfl)) (@pe_non _ _ _) (nomark _)) (@pv _ 7 _ _ (by first | rfl | decide | exact .inl rfl | exact .inr rfl | exact .inr (.inl rfl) | exact .inr (.inr rfl) | (intro _; rfl) | with_unfolding_all rfl) (by first | rfl | decide | exact .inl rfl | exact .inr rfl | exact .inr (.inl rfl) | exact .inr (.inr rfl) | (intro _; rfl) | with_unfolding_all rfl) (by first | rfl | decide | exact .inl rfl | exact .inr rfl | exact .inr (.inl rfl) | exact .inr (.inr rfl) | (intro _; rfl) | with_unfolding_all rfl) (by first | rfl | decide | exact .inl rfl | exact .inr rfl | exact .inr (.inl rfl) | exact .inr (.inr rfl) | (intro _; rfl) | with_unfolding_all rfl)) (@pe_slice _ _ _ _ _ _ _ _ _ _ (sl_listK K) (@pv _ 7 _ _ (by first | rfl | decide | exact .inl rfl | exact .inr rfl | exact .inr (.inl rfl) | exact .inr (.inr rfl) | (intro _; rfl) | with_unfolding_all rfl) (by first | rfl | decide | exact .inl rfl | exact .inr rfl | exact .inr (.inl rfl) | exact .inr (.inr rfl) | (intro _; rfl) | with_unfolding_all rfl) (by first | rfl | decide | exact .inl rfl | exact .inr rfl | exact .inr (.inl rfl) | exact .inr (.inr rfl) | (intro _; rfl) | with_unfolding_all rfl) (by first | rfl | decide | exact .inl rfl | exact .inr rfl | exact .inr (.inl rfl) | exact .inr (.inr rfl) | (intro _; rfl) | with_unfolding_all rfl)) (@po_none _) (@po_some _ _ _ (@pv _ 1 _ _ (by first | rfl | decide | exact .inl rfl | exact .inr rfl | exact .inr (.inl rfl) | exact .inr (.inr rfl) | (intro _; rfl) | with_unfolding_all rfl) (by first | rfl | decide | exact .inl rfl | exact .inr rfl | exact .inr (.inl rfl) | exact .inr (.inr rfl) | (intro _; rfl) | with_unfolding_all rfl) (by first | rfl | decide | exact .inl rfl | exact .inr rfl | exact .inr (.inl rfl) | exact .inr (.inr rfl) | (intro _; rfl) | with_unfolding_all rfl) (by first | rfl | decide | exact .inl rfl | exact .inr rfl | exact .inr (.inl rfl) | exact .inr (.inr rfl) | (intro _; rfl) | with_unfolding_all rfl))))) (by first | rfl | decide | exact .inl rfl | exact .inr rfl | exact .inr (.inl rfl) | exact .inr (.inr rfl) | (intro _; rfl) | with_unfolding_all rfl) (by first | rfl | decide | exact .inl rfl | exact .inr rfl | exact .inr (.inl rfl) | exact .inr (.inr rfl) | (intro _; rfl) | with_unfolding_all rfl)) (@pss_cons _ _ _ _ _ (@ps_set _ _ (10) _ _ _ _ sc_law.nd (by rfl) (by first | exact Or.inl (by rfl) | exact Or.inr (by rfl)) (@pe_cmpR _ _ _ _ _ _ _ _ op_lt (@pe_callB _ _ _ _ _ _ _ _ _ (call_lenK K) (by rfl) T.n_len bt_len (@pa_Name _ _ _ _ _ _ (@pv _ 9 _ _ (by first | rfl | decide | exact .inl rfl | exact .inr rfl | exact .inr (.inl rfl) | exact .inr (.inr rfl) | (intro _; rfl) | with_unfolding_all rfl) (by first | rfl | decide | exact .inl rfl | exact .inr rfl | exact .inr (.inl rfl) | exact .inr (.inr rfl) | (intro _; rfl) | with_unfolding_all rfl) (by first | rfl | decide | exact .inl rfl | exact .inr rfl | exact .inr (.inl rfl) | exact .inr (.inr rfl) | (intro _; rfl) | with_unfolding_all rfl) (by first | rfl | decide | exact .inl rfl | exact .inr rfl | exact .inr (.inl rfl) | exact .inr (.inr rfl) | (intro _; rfl) | with_unfolding_all rfl)) (@pa_nil _)) (by first | rfl | decide | exact .inl rfl | exact .inr rfl | exact .inr (.inl rfl) | exact .inr (.inr rfl) | (intro _; rfl) | with_unfolding_all rfl) (by first | rfl | decide | exact .inl rfl | exact .inr rfl | exact .inr (.inl rfl) | exact .inr (.inr rfl) | (intro _; rfl) | with_unfolding_all rfl) (by first | rfl | decide | exact .inl rfl | exact .inr rfl | exact .inr (.inl rfl) | exact .inr (.inr rfl) | (intro _; rfl) | with_unfolding_all rfl) (by first | rfl | decide | exact .inl rfl | exact .inr rfl | exact .inr (.inl rfl) | exact .inr (.inr rfl) | (intro _; rfl) | with_unfolding_all rfl)) (@pe_callB _ _ _ _ _ _ _ _ _ (call_lenK K) (by rfl) T.n_len bt_len (@pa_Name _ _ _ _ _ _ (@pv _ 7 _ _ (by first | rfl | decide | exact .inl rfl | exact .inr rfl | exact .inr (.inl rfl) | exact .inr (.inr rfl) | (intro _; rfl) | with_unfolding_all rfl) (by first | rfl | decide | exact .inl rfl | exact .inr rfl | exact .inr (.inl rfl) | exact .inr (.inr rfl) | (intro _; rfl) | with_unfolding_all rfl) (by first | rfl | decide | exact .inl rfl | exact .inr rfl | exact .inr (.inl rfl) | exact .inr (.inr rfl) | (intro _; rfl) | with_unfolding_all rfl) (by first | rfl | decide | exact .inl rfl | exact .inr rfl | exact .inr (.inl rfl) | exact .inr (.inr rfl) | (intro _; rfl) | with_unfolding_all rfl)) (@pa_nil _)) (by first | rfl | decide | exact .inl rfl | exact .inr rfl | exact .inr (.inl rfl) | exact .inr (.inr rfl) | (intro _; rfl) | with_unfolding_all rfl) (by first | rfl | decide | exact .inl rfl | exact .inr rfl | exact .inr (.inl rfl) | exact .inr (.inr rfl) | (intro _; rfl) | with_unfolding_all rfl) (by first | rfl | decide | exact .inl rfl | exact .inr rfl | exact .inr (.inl rfl) | exact .inr (.inr rfl) | (intro _; rfl) | with_unfolding_all rfl) (by first | rfl | decide | exact .inl rfl | exact .inr rfl | exact .inr (.inl rfl) | exact .inr (.inr rfl) | (intro _; rfl) | with_unfolding_all rfl)) (nomark _)) (by first | rfl | decide | exact .inl rfl | exact .inr rfl | exact .inr (.inl rfl) | exact .inr (.inr rfl) | (intro _; rfl) | with_unfolding_all rfl) (by first | rfl | decide | exact .inl rfl | exact .inr rfl | exact .inr (.inl rfl) | exact .inr (.inr rfl) | (intro _; rfl) | with_unfolding_all rfl)) (@pss_cons _ _ _ _ _ (@ps_if _ _ _ _ _ _ _ _ (@pt_cmpR _ _ _ _ _ _ _ _ op_ne (@pv _ 8 _ _ (by first | rfl | decide | exact .inl rfl | exact .inr rfl | exact .inr (.inl rfl) | exact .inr (.inr rfl) | (intro _; rfl) | with_unfolding_all rfl) (by first | rfl | decide | exact .inl rfl | exact .inr rfl | exact .inr (.inl rfl) | exact .inr (.inr rfl) | (intro _; rfl) | with_unfolding_all rfl) (by first | rfl | decide | exact .inl rfl | exact .inr rfl | exact .inr (.inl rfl) | exact .inr (.inr rfl) | (intro _; rfl) | with_unfolding_all rfl) (by first | rfl | decide | exact .inl rfl | exact .inr rfl | exact .inr (.inl rfl) | exact .inr (.inr rfl) | (intro _; rfl) | with_unfolding_all rfl)) (@pe_ifExp _ _ _ _ _ _ _ _ (@pt_val _ _ _ (@pv _ 10 _ _ (by first | rfl | decide | exact .inl rfl | exact .inr rfl | exact .inr (.inl rfl) | exact .inr (.inr rfl) | (intro _; rfl) | with_unfolding_all rfl) (by first | rfl | decide | exact .inl rfl | exact .inr rfl | exact .inr (.inl rfl) | exact .inr (.inr rfl) | (intro _; rfl) | with_unfolding_all rfl) (by first | rfl | decide | exact .inl rfl | exact .inr rfl | exact .inr (.inl rfl) | exact .inr (.inr rfl) | (intro _; rfl) | with_unfolding_all rfl) (by first | rfl | decide | exact .inl rfl | exact .inr rfl | exact .inr (.inl rfl) | exact .inr (.inr rfl) | (intro _; rfl) | with_unfolding_all rfl)) (by first | rfl | decide | exact .inl rfl | exact .inr rfl | exact .inr (.inl rfl) | exact .inr (.inr rfl) | (intro _; rfl) | with_unfolding_all rfl)) (@pe_str _ _ _ _) (@pe_str _ _ _ _)) (nomark _)) (@pss_one _ _ _ (@ps_ret _ _ _ _ (@pe_bl _ _ _ _))) (@pss_nil _)) (@pss_cons _ _ _ _ _ (@ps_set _ _ (3) _ _ _ _ sc_law.nd (by rfl) (by first | exact Or.inl (by rfl) | exact Or.inr (by rfl)) (@pe_ix _ _ _ _ _ _ _ (ix_listK K) (@pe_op _ _ _ _ _ _ _ _ op_cat (@pe_lst _ _ _ _ (@pa_Name _ _ _ _ _ _ (@pv _ 3 _ _ (by first | rfl | decide | exact .inl rfl | exact .inr rfl | exact .inr (.inl rfl) | exact .inr (.inr rfl) | (intro _; rfl) | with_unfolding_all rfl) (by first | rfl | decide | exact .inl rfl | exact .inr rfl | exact .inr (.inl rfl) | exact .inr (.inr rfl) | (intro _; rfl) | with_unfolding_all rfl) (by first | rfl | decide | exact .inl rfl | exact .inr rfl | exact .inr (.inl rfl) | exact .inr (.inr rfl) | (intro _; rfl) | with_unfolding_all rfl) (by first | rfl | decide | exact .inl rfl | exact .inr rfl | exact .inr (.inl rfl) | exact .inr (.inr rfl) | (intro _; rfl) | with_unfolding_all rfl)) (@pa_nil _))) (@pv _ 9 _ _ (by first | rfl | decide | exact .inl rfl | exact .inr rfl | exact .inr (.inl rfl) | exact .inr (.inr rfl) | (intro _; rfl) | with_unfolding_all rfl) (by first | rfl | decide | exact .inl rfl | exact .inr rfl | exact .inr (.inl rfl) | exact .inr (.inr rfl) | (intro _; rfl) | with_unfolding_all rfl) (by first | rfl | decide | exact .inl rfl | exact .inr rfl | exact .inr (.inl rfl) | exact .inr (.inr rfl) | (intro _; rfl) | with_unfolding_all rfl) (by first | rfl | decide | exact .inl rfl | exact .inr rfl | exact .inr (.inl rfl) | exact .inr (.inr rfl) | (intro _; rfl) | with_unfolding_all rfl))) (@pe_un _ _ _ _ _ _ un_neg (@pe_int _ _ _ _)) (fun _ _ => rfl)) (by first | rfl | decide | exact .inl rfl | exact .inr rfl | exact .inr (.inl rfl) | exact .inr (.inr rfl) | (intro _; rfl) | with_unfolding_all rfl) (by first | rfl | decide | exact .inl rfl | exact .inr rfl | exact .inr (.inl rfl) | exact .inr (.inr rfl) | (intro _; rfl) | with_unfolding_all rfl)) (@pss_cons _ _ _ _ _ (@ps_set _ _ (4) _ _ _ _ sc_law.nd (by rfl) (by first | exact Or.inl (by rfl) | exact Or.inr (by rfl)) (@pe_op _ _ _ _ _ _ _ _ op_add (@pv _ 4 _ _ (by first | rfl | decide | exact .inl rfl | exact .inr rfl | exact .inr (.inl rfl) | exact .inr (.inr rfl) | (intro _; rfl) | with_unfolding_all rfl) (by first | rfl | decide | exact .inl rfl | exact .inr rfl | exact .inr (.inl rfl) | exact .inr (.inr rfl) | (intro _; rfl) | with_unfolding_all rfl) (by first | rfl | decide | exact .inl rfl | exact .inr rfl | exact .inr (.inl rfl) | exact .inr (.inr rfl) | (intro _; rfl) | with_unfolding_all rfl) (by first | rfl | decide | exact .inl rfl | exact .inr rfl | exact .inr (.inl rfl) | exact .inr (.inr rfl) | (intro _; rfl) | with_unfolding_all rfl)) (@pe_callB _ _ _ _ _ _ _ _ _ (call_lenK K) (by rfl) T.n_len bt_len (@pa_Name _ _ _ _ _ _ (@pv _ 9 _ _ (by first | rfl | decide | exact .inl rfl | exact .inr rfl | exact .inr (.inl rfl) | exact .inr (.inr rfl) | (intro _; rfl) | with_unfolding_all rfl) (by first | rfl | decide | exact .inl rfl | exact .inr rfl | exact .inr (.inl rfl) | exact .inr (.inr rfl) | (intro _; rfl) | with_unfolding_all rfl) (by first | rfl | decide | exact .inl rfl | exact .inr rfl | exact .inr (.inl rfl) | exact .inr (.inr rfl) | (intro _; rfl) | with_unfolding_all rfl) (by first | rfl | decide | exact .inl rfl | exact .inr rfl | exact .inr (.inl rfl) | exact .inr (.inr rfl) | (intro _; rfl) | with_unfolding_all rfl)) (@pa_nil _)) (by first | rfl | decide | exact .inl rfl | exact .inr rfl | exact .inr (.inl rfl) | exact .inr (.inr rfl) | (intro _; rfl) | with_unfolding_all rfl) (by first | rfl | decide | exact .inl rfl | exact .inr rfl | exact .inr (.inl rfl) | exact .inr (.inr rfl) | (intro _; rfl) | with_unfolding_all rfl) (by first | rfl | decide | exact .inl rfl | exact .inr rfl | exact .inr (.inl rfl) | exact .inr (.inr rfl) | (intro _; rfl) | with_unfolding_all rfl) (by first | rfl | decide | exact .inl rfl | exact .inr rfl | exact .inr (.inl rfl) | exact .inr (.inr rfl) | (intro _; rfl) | with_unfolding_all rfl))) (by first | rfl | decide | exact .inl rfl | exact .inr rfl | exact .inr (.inl rfl) | exact .inr (.inr rfl) | (intro _; rfl) | with_unfolding_all rfl) (by first | rfl | decide | exact .inl rfl | exact .inr rfl | exact .inr (.inl rfl) | exact .inr (.inr rfl) | (intro _; rfl) | with_unfolding_all rfl)) (@pss_cons _ _ _ _ _ (@ps_set _ _ (1) _ _ _ _ sc_law.nd (by rfl) (by first | exact Or.inl (by rfl) | exact Or.inr (by rfl)) (@pe_ifExp _ _ _ _ _ _ _ _ (@pt_cmpR _ _ _ _ _ _ _ _ op_isN (@pv _ 1 _ _ (by first | rfl | decide | exact .inl rfl | exact .inr rfl | exact .inr (.inl rfl) | exact .inr (.inr rfl) | (intro _; rfl) | with_unfolding_all rfl) (by first | rfl | decide | exact .inl rfl | exact .inr rfl | exact .inr (.inl rfl) | exact .inr (.inr rfl) | (intro _; rfl) | with_unfolding_all rfl) (by first | rfl | decide | exact .inl rfl | exact .inr rfl | exact .inr (.inl rfl) | exact .inr (.inr rfl) | (intro _; rfl) | with_unfolding_all rfl) (by first | rfl | decide | exact .inl rfl | exact .inr rfl | exact .inr (.inl rfl) | exact .inr (.inr rfl) | (intro _; rfl) | with_unfolding_all rfl)) (@pe_non _ _ _) (nomark _)) (@pe_non _ _ _) (@pe_op _ _ _ _ _ _ _ _ op_sub (@pv _ 1 _ _ (by first | rfl | decide | exact .inl rfl | exact .inr rfl | exact .inr (.inl rfl) | exact .inr (.inr rfl) | (intro _; rfl) | with_unfolding_all rfl) (by first | rfl | decide | exact .inl rfl | exact .inr rfl | exact .inr (.inl rfl) | exact .inr (.inr rfl) | (intro _; rfl) | with_unfolding_all rfl) (by first | rfl | decide | exact .inl rfl | exact .inr rfl | exact .inr (.inl rfl) | exact .inr (.inr rfl) | (intro _; rfl) | with_unfolding_all rfl) (by first | rfl | decide | exact .inl rfl | exact .inr rfl | exact .inr (.inl rfl) | exact .inr (.inr rfl) | (intro _; rfl) | with_unfolding_all rfl)) (@pe_callB _ _ _ _ _ _ _ _ _ (call_lenK K) (by rfl) T.n_len bt_len (@pa_Name _ _ _ _ _ _ (@pv _ 9 _ _ (by first | rfl | decide | exact .inl rfl | exact .inr rfl | exact .inr (.inl rfl) | exact .inr (.inr rfl) | (intro _; rfl) | with_unfolding_all rfl) (by first | rfl | decide | exact .inl rfl | exact .inr rfl | exact .inr (.inl rfl) | exact .inr (.inr rfl) | (intro _; rfl) | with_unfolding_all rfl) (by first | rfl | decide | exact .inl rfl | exact .inr rfl | exact .inr (.inl rfl) | exact .inr (.inr rfl) | (intro _; rfl) | with_unfolding_all rfl) (by first | rfl | decide | exact .inl rfl | exact .inr rfl | exact .inr (.inl rfl) | exact .inr (.inr rfl) | (intro _; rfl) | with_unfolding_all rfl)) (@pa_nil _)) (by first | rfl | decide | exact .inl rfl | exact .inr rfl | exact .inr (.inl rfl) | exact .inr (.inr rfl) | (intro _; rfl) | with_unfolding_all rfl) (by first | rfl | decide | exact .inl rfl | exact .inr rfl | exact .inr (.inl rfl) | exact .inr (.inr rfl) | (intro _; rfl) | with_unfolding_all rfl) (by first | rfl | decide | exact .inl rfl | exact .inr rfl | exact .inr (.inl rfl) | exact .inr (.inr rfl) | (intro _; rfl) | with_unfolding_all rfl) (by first | rfl | decide | exact .inl rfl | exact .inr rfl | exact .inr (.inl rfl) | exact .inr (.inr rfl) | (intro _; rfl) | with_unfolding_all rfl)))) (by first | rfl | decide | exact .inl rfl | exact .inr rfl | exact .inr (.inl rfl) | exact .inr (.inr rfl) | (intro _; rfl) | with_unfolding_all rfl) (by first | rfl | decide | exact .inl rfl | exact .inr rfl | exact .inr (.inl rfl) | exact .inr (.inr rfl) | (intro _; rfl) | with_unfolding_all rfl)) (@pss_cons _ _ _ _ _ (@ps_if _ _ _ _ _ _ _ _ (@PW.pt _ _ _ (@pw_or _ _ _ _ _ _ _ (@pt_cmpR _ _ _ _ _ _ _ _ op_ne (@pe_me0 _ _ _ _ _ _ _ _ _ _ _ _ m_left T.cl (hr.mono (by decide)) passN (@pv _ 2 _ _ (by first | rfl | decide | exact .inl rfl | exact .inr rfl | exact .inr (.inl rfl) | exact .inr (.inr rfl) | (intro _; rfl) | with_unfolding_all rfl) (by first | rfl | decide | exact .inl rfl | exact .inr rfl | exact .inr (.inl rfl) | exact .inr (.inr rfl) | (intro _; rfl) | with_unfolding_all rfl) (by first | rfl | decide | exact .inl rfl | exact .inr rfl | exact .inr (.inl rfl) | exact .inr (.inr rfl) | (intro _; rfl) | with_unfolding_all rfl) (by first | rfl | decide | exact .inl rfl | exact .inr rfl | exact .inr (.inl rfl) | exact .inr (.inr rfl) | (intro _; rfl) | with_unfolding_all rfl)) (by first | rfl | decide | exact .inl rfl | exact .inr rfl | exact .inr (.inl rfl) | exact .inr (.inr rfl) | (intro _; rfl) | with_unfolding_all rfl)) (@pv _ 1 _ _ (by first | rfl | decide | exact .inl rfl | exact .inr rfl | exact .inr (.inl rfl) | exact .inr (.inr rfl) | (intro _; rfl) | with_unfolding_all rfl) (by first | rfl | decide | exact .inl rfl | exact .inr rfl | exact .inr (.inl rfl) | exact .inr (.inr rfl) | (intro _; rfl) | with_unfolding_all rfl) (by first | rfl | decide | exact .inl rfl | exact .inr rfl | exact .inr (.inl rfl) | exact .inr (.inr rfl) | (intro _; rfl) | with_unfolding_all rfl) (by first | rfl | decide | exact .inl rfl | exact .inr rfl | exact .inr (.inl rfl) | exact .inr (.inr rfl) | (intro _; rfl) | with_unfolding_all rfl)) (nomark _)) (@pw_or _ _ _ _ _ _ _ (@pt_cmpR _ _ _ _ _ _ _ _ op_ne (@pe_me0 _ _ _ _ _ _ _ _ _ _ _ _ m_steps T.cl (hr.mono (by decide)) passN (@pv _ 2 _ _ (by first | rfl | decide | exact .inl rfl | exact .inr rfl | exact .inr (.inl rfl) | exact .inr (.inr rfl) | (intro _; rfl) | with_unfolding_all rfl) (by first | rfl | decide | exact .inl rfl | exact .inr rfl | exact .inr (.inl rfl) | exact .inr (.inr rfl) | (intro _; rfl) | with_unfolding_all rfl) (by first | rfl | decide | exact .inl rfl | exact .inr rfl | exact .inr (.inl rfl) | exact .inr (.inr rfl) | (intro _; rfl) | with_unfolding_all rfl) (by first | rfl | decide | exact .inl rfl | exact .inr rfl | exact .inr (.inl rfl) | exact .inr (.inr rfl) | (intro _; rfl) | with_unfolding_all rfl)) (by first | rfl | decide | exact .inl rfl | exact .inr rfl | exact .inr (.inl rfl) | exact .inr (.inr rfl) | (intro _; rfl) | with_unfolding_all rfl)) (@pv _ 4 _ _ (by first | rfl | decide | exact .inl rfl | exact .inr rfl | exact .inr (.inl rfl) | exact .inr (.inr rfl) | (intro _; rfl) | with_unfolding_all rfl) (by first | rfl | decide | exact .inl rfl | exact .inr rfl | exact .inr (.inl rfl) | exact .inr (.inr rfl) | (intro _; rfl) | with_unfolding_all rfl) (by first | rfl | decide | exact .inl rfl | exact .inr rfl | exact .inr (.inl rfl) | exact .inr (.inr rfl) | (intro _; rfl) | with_unfolding_all rfl) (by first | rfl | decide | exact .inl rfl | exact .inr rfl | exact .inr (.inl rfl) | exact .inr (.inr rfl) | (intro _; rfl) | with_unfolding_all rfl)) (nomark _)) (@pw_or1 _ _ _ _ (@pt_cmpR _ _ _ _ _ _ _ _ (op_neT hr.units) (@pe_fn _ _ _ _ _ _ _ _ _ _ _ c__law_files (hr.mono (by decide)) passN (@pa_Name _ _ _ _ _ _ (@pv _ 2 _ _ (by first | rfl | decide | exact .inl rfl | exact .inr rfl | exact .inr (.inl rfl) | exact .inr (.inr rfl) | (intro _; rfl) | with_unfolding_all rfl) (by first | rfl | decide | exact .inl rfl | exact .inr rfl | exact .inr (.inl rfl) | exact .inr (.inr rfl) | (intro _; rfl) | with_unfolding_all rfl) (by first | rfl | decide | exact .inl rfl | exact .inr rfl | exact .inr (.inl rfl) | exact .inr (.inr rfl) | (intro _; rfl) | with_unfolding_all rfl) (by first | rfl | decide | exact .inl rfl | exact .inr rfl | exact .inr (.inl rfl) | exact .inr (.inr rfl) | (intro _; rfl) | with_unfolding_all rfl)) (@pa_nil _)) (by first | rfl | decide | exact .inl rfl | exact .inr rfl | exact .inr (.inl rfl) | exact .inr (.inr rfl) | (intro _; rfl) | with_unfolding_all rfl) (by first | rfl | decide | exact .inl rfl | exact .inr rfl | exact .inr (.inl rfl) | exact .inr (.inr rfl) | (intro _; rfl) | with_unfolding_all rfl) (by first | rfl | decide | exact .inl rfl | exact .inr rfl | exact .inr (.inl rfl) | exact .inr (.inr rfl) | (intro _; rfl) | with_unfolding_all rfl) (by first | rfl | decide | exact .inl rfl | exact .inr rfl | exact .inr (.inl rfl) | exact .inr (.inr rfl) | (intro _; rfl) | with_unfolding_all rfl)) (@pv _ 3 _ _ (by first | rfl | decide | exact .inl rfl | exact .inr rfl | exact .inr (.inl rfl) | exact .inr (.inr rfl) | (intro _; rfl) | with_unfolding_all rfl) (by first | rfl | decide | exact .inl rfl | exact .inr rfl | exact .inr (.inl rfl) | exact .inr (.inr rfl) | (intro _; rfl) | with_unfolding_all rfl) (by first | rfl | decide | exact .inl rfl | exact .inr rfl | exact .inr (.inl rfl) | exact .inr (.inr rfl) | (intro _; rfl) | with_unfolding_all rfl) (by first | rfl | decide | exact .inl rfl | exact .inr rfl | exact .inr (.inl rfl) | exact .inr (.inr rfl) | (intro _; rfl) | with_unfolding_all rfl)) (nomark _)))))) (@pss_one _ _ _ (@ps_ret _ _ _ _ (@pe_bl _ _ _ _))) (@pss_nil _)) (@pss_one _ _ _ (@ps_if _ _ _ _ _ _ _ _ (@pt_val _ _ _ (@pv _ 10 _ _ (by first | rfl | decide | exact .inl rfl | exact .inr rfl | exact .inr (.inl rfl) | exact .inr (.inr rfl) | (intro _; rfl) | with_unfolding_all rfl) (by first | rfl | decide | exact .inl rfl | exact .inr rfl | exact .inr (.inl rfl) | exact .inr (.inr rfl) | (intro _; rfl) | with_unfolding_all rfl) (by first | rfl | decide | exact .inl rfl | exact .inr rfl | exact .inr (.inl rfl) | exact .inr (.inr rfl) | (intro _; rfl) | with_unfolding_all rfl) (by first | rfl | decide | exact .inl rfl | exact .inr rfl | exact .inr (.inl rfl) | exact .inr (.inr rfl) | (intro _; rfl) | with_unfolding_all rfl)) (by first | rfl | decide | exact .inl rfl | exact .inr rfl | exact .inr (.inl rfl) | exact .inr (.inr rfl) | (intro _; rfl) | with_unfolding_all rfl)) (@pss_cons _ _ _ _ _ (@ps_set _ _ (1) _ _ _ _ sc_law.nd (by rfl) (by first | exact Or.inl (by rfl) | exact Or.inr (by rfl)) (@pe_ix _ _ _ _ _ _ _ (ix_listK K) (@pe_lst _ _ _ _ (@pa_Constant _ _ _ _ _ _ _ (@pe_non _ _ _) (@pa_Constant _ _ _ _ _ _ _ (@pe_int _ _ _ _) (@pa_nil _)))) (@pe_op _ _ _ _ _ _ _ _ op_mod (@pe_fn _ _ _ _ _ _ _ _ _ _ _ c__law_cell (hr.mono (by decide)) passN (@pa_Name _ _ _ _ _ _ (@pv _ 0 _ _ (by first | rfl | decide | exact .inl rfl | exact .inr rfl | exact .inr (.inl rfl) | exact .inr (.inr rfl) | (intro _; rfl) | with_unfolding_all rfl) (by first | rfl | decide | exact .inl rfl | exact .inr rfl | exact .inr (.inl rfl) | exact .inr (.inr rfl) | (intro _; rfl) | with_unfolding_all rfl) (by first | rfl | decide | exact .inl rfl | exact .inr rfl | exact .inr (.inl rfl) | exact .inr (.inr rfl) | (intro _; rfl) | with_unfolding_all rfl) (by first | rfl | decide | exact .inl rfl | exact .inr rfl | exact .inr (.inl rfl) | exact .inr (.inr rfl) | (intro _; rfl) | with_unfolding_all rfl)) (@pa_Constant _ _ _ _ _ _ _ (@pe_int _ _ _ _) (@pa_nil _))) (by first | rfl | decide | exact .inl rfl | exact .inr rfl | exact .inr (.inl rfl) | exact .inr (.inr rfl) | (intro _; rfl) | with_unfolding_all rfl) (by first | rfl | decide | exact .inl rfl | exact .inr rfl | exact .inr (.inl rfl) | exact .inr (.inr rfl) | (intro _; rfl) | with_unfolding_all rfl) (by first | rfl | decide | exact .inl rfl | exact .inr rfl | exact .inr (.inl rfl) | exact .inr (.inr rfl) | (intro _; rfl) | with_unfolding_all rfl) (by first | rfl | decide | exact .inl rfl | exact .inr rfl | exact .inr (.inl rfl) | exact .inr (.inr rfl) | (intro _; rfl) | with_unfolding_all rfl)) (@pe_int _ _ _ _)) (fun _ _ => rfl)) (by first | rfl | decide | exact .inl rfl | exact .inr rfl | exact .inr (.inl rfl) | exact .inr (.inr rfl) | (intro _; rfl) | with_unfolding_all rfl) (by first | rfl | decide | exact .inl rfl | exact .inr rfl | exact .inr (.inl rfl) | exact .inr (.inr rfl) | (intro _; rfl) | with_unfolding_all rfl)) (@pss_one _ _ _ (ps_expr (pe_me m_go_on T.cl (hr.mono (by decide)) passN (pv 2) (pa_Name (pv 1) pa_nil))))) (@pss_nil _)))))))))) (@pss_one _ _ _ (@ps_if _ _ _ _ _ _ _ _ (@pt_cmpR _ _ _ _ _ _ _ _ (op_neD hr.units) (@pv _ 8 _ _ (by first | rfl | decide | exact .inl rfl | exact .inr rfl | exact .inr (.inl rfl) | exact .inr (.inr rfl) | (intro _; rfl) | with_unfolding_all rfl) (by first | rfl | decide | exact .inl rfl | exact .inr rfl | exact .inr (.inl rfl) | exact .inr (.inr rfl) | (intro _; rfl) | with_unfolding_all rfl) (by first | rfl | decide | exact .inl rfl | exact .inr rfl | exact .inr (.inl rfl) | exact .inr (.inr rfl) | (intro _; rfl) | with_unfolding_all rfl) (by first | rfl | decide | exact .inl rfl | exact .inr rfl | exact .inr (.inl rfl) | exact .inr (.inr rfl) | (intro _; rfl) | with_unfolding_all rfl)) (@pv _ 7 _ _ (by first | rfl | decide | exact .inl rfl | exact .inr rfl | exact .inr (.inl rfl) | exact .inr (.inr rfl) | (intro _; rfl) | with_unfolding_all rfl) (by first | rfl | decide | exact .inl rfl | exact .inr rfl | exact .inr (.inl rfl) | exact .inr (.inr rfl) | (intro _; rfl) | with_unfolding_all rfl) (by first | rfl | decide | exact .inl rfl | exact .inr rfl | exact .inr (.inl rfl) | exact .inr (.inr rfl) | (intro _; rfl) | with_unfolding_all rfl) (by first | rfl | decide | exact .inl rfl | exact .inr rfl | exact .inr (.inl rfl) | exact .inr (.inr rfl) | (intro _; rfl) | with_unfolding_all rfl)) (nomark _)) (@pss_one _ _ _ (@ps_ret _ _ _ _ (@pe_bl _ _ _ _))) (@pss_nil _)))))))) (by first | rfl | decide | exact .inl rfl | exact .inr rfl | exact .inr (.inl rfl) | exact .inr (.inr rfl) | (intro _; rfl) | with_unfolding_all rfl)) (@pss_one _ _ _ (@ps_ret _ _ _ _ (@pe_cmpR _ _ _ _ _ _ _ _ (op_eqT hr.units) (@pe_fn _ _ _ _ _ _ _ _ _ _ _ c__law_files (hr.mono (by decide)) passN (@pa_Name _ _ _ _ _ _ (@pv _ 2 _ _ (by first | rfl | decide | exact .inl rfl | exact .inr rfl | exact .inr (.inl rfl) | exact .inr (.inr rfl) | (intro _; rfl) | with_unfolding_all rfl) (by first | rfl | decide | exact .inl rfl | exact .inr rfl | exact .inr (.inl rfl) | exact .inr (.inr rfl) | (intro _; rfl) | with_unfolding_all rfl) (by first | rfl | decide | exact .inl rfl | exact .inr rfl | exact .inr (.inl rfl) | exact .inr (.inr rfl) | (intro _; rfl) | with_unfolding_all rfl) (by first | rfl | decide | exact .inl rfl | exact .inr rfl | exact .inr (.inl rfl) | exact .inr (.inr rfl) | (intro _; rfl) | with_unfolding_all rfl)) (@pa_nil _)) (by first | rfl | decide | exact .inl rfl | exact .inr rfl | exact .inr (.inl rfl) | exact .inr (.inr rfl) | (intro _; rfl) | with_unfolding_all rfl) (by first | rfl | decide | exact .inl rfl | exact .inr rfl | exact .inr (.inl rfl) | exact .inr (.inr rfl) | (intro _; rfl) | with_unfolding_all rfl) (by first | rfl | decide | exact .inl rfl | exact .inr rfl | exact .inr (.inl rfl) | exact .inr (.inr rfl) | (intro _; rfl) | with_unfolding_all rfl) (by first | rfl | decide | exact .inl rfl | exact .inr rfl | exact .inr (.inl rfl) | exact .inr (.inr rfl) | (intro _; rfl) | with_unfolding_all rfl)) (@pv _ 3 _ _ (by first | rfl | decide | exact .inl rfl | exact .inr rfl | exact .inr (.inl rfl) | exact .inr (.inr rfl) | (intro _; rfl) | with_unfolding_all rfl) (by first | rfl | decide | exact .inl rfl | exact .inr rfl | exact .inr (.inl rfl) | exact .inr (.inr rfl) | (intro _; rfl) | with_unfolding_all rfl) (by first | rfl | decide | exact .inl rfl | exact .inr rfl | exact .inr (.inl rfl) | exact .inr (.inr rfl) | (intro _; rfl) | with_unfolding_all rfl) (by first | rfl | decide | exact .inl rfl | exact .inr rfl | exact .inr (.inl rfl) | exact .inr (.inr rfl) | (intro _; rfl) | with_unfolding_all rfl)) (nomark _)))))))), ?_⟩
    have mx0 := Int.emod_nonneg ((ns.getD (Int.toNat 0) 0 * 48271 % 9949) ^ 3 % 9949) (show (61 : Int) ≠ 0 by decide)
    have mx9 := Int.emod_lt_of_pos ((ns.getD (Int.toNat 0) 0 * 48271 % 9949) ^ 3 % 9949) (show (0 : Int) < 61 by decide)
    have mxe : mixF (ns.getD (Int.toNat 0) 0) 9949 61 = (ns.getD (Int.toNat 0) 0 * 48271 % 9949) ^ 3 % 9949 % 61 := rfl
    refine ⟨_, rfl, a, ns, 0, rfl, by decide, hs, _, 9949, 61, rfl, by decide, by decide, by decide, ?_⟩
    generalize mixF (ns.getD (Int.toNat 0) 0) 9949 61 = M at mxe ⊢
    rw [← mxe] at mx0 mx9
    clear mxe
    refine ⟨_, rfl, fun dk dx hdk hdx ne => ⟨dk, dx, .int M, .int M, rfl, upd_same, by simp only [Den], (fun z => ?_), fun _ df H1 f1 hdf hD1 => ⟨rfl, ?_⟩⟩⟩
    · have : isNum 0 100000 (.int M) = true := by
        show (decide (0 ≤ M) && decide (M ≤ 100000)) = true
        rw [decide_eq_true mx0, decide_eq_true (by omega)]
        rfl
      have z : isNum 0 100000 (.int M) = false := z
      rw [this] at z
      cases z
    have S1 : Same H H1 := fun b o e => by
      have nb : b ≠ dk := ne_of_none e hdk
      have nd : b ≠ dx := ne_of_none e hdx
      exact f1 b o (by rw [upd_ne nb, upd_ne nd]; exact e) nb
    have hdf0 : H df = none := by
      cases e : H df with
      | none => rfl
      | some o =>
        have nb : df ≠ dk := ne_of_none e hdk
        have nd : df ≠ dx := ne_of_none e hdx
        rw [upd_ne nb, upd_ne nd, e] at hdf
        cases hdf
    refine fun pf hpf => ?_
    have S2 := same_upd (o := .dK []) hpf
    have g2 : upd H1 pf (.dK []) pf = some (.dK []) := upd_same
    generalize upd H1 pf (.dK []) = H2 at S2 g2 ⊢
    have I0 : Inv1 C_Disk H H2 dk df pf [] [] ⟨[], 0, some M⟩ [] 0 := by
      refine ⟨S1.trans S2, fun b hb => ?_, hD1.same S2, g2, trivial, fun hb => ?_, fun m => rfl, ⟨by simp, fun n hn => by simp at hn, fun n bs e => by cases e⟩, fun r e => by cases e; omega⟩
      · rcases hb with z | z | z
        · rw [z]; exact hdk
        · rw [z]; exact hdf0
        · simp at z
      · obtain ⟨dx1, h11⟩ := hD1.self
        rcases hb with z | z | z
        · rw [z, h11] at hpf; cases hpf
        · rw [z, hD1.files] at hpf; cases hpf
        · simp at z
    refine ⟨30, rfl, by decide, by decide, ?_⟩
    refine for_src0 (H0 := fun _ => none) (src_range (H := fun _ => none) 0 30) (fun i σ H' => ∃ pf kvs lvs D gs z5 z6 z7 z8 z9 z10, Inv1 C_Disk H H' dk df pf kvs lvs D gs (9 * i) ∧ σ = σ1 a dk pf (leftV D.left) D.done z5 z6 z7 z8 z9 z10) ?i0 ?kp ?_ ?_
    case i0 => exact ⟨pf, [], [], ⟨[], 0, some M⟩, [], none, none, none, none, none, none, I0, rfl⟩
    case kp => exact fun i σ H' _ b o e => by cases e
    · rintro i x σ H5 H6 hi ⟨pf, kvs, lvs, D, gs, z5, z6, z7, z8, z9, z10, I5, rfl⟩ s6 rfl
      have I6 := I5.go s6
      have k0 := Int.emod_nonneg ((0 : Int) + (i : Int)) (show (8 : Int) ≠ 0 by decide)
      refine ⟨_, rfl, _, rfl, _, _, rfl, rfl, (by show (0 : Int) < 8; decide), _, _, rfl, rfl, a, ns, _, rfl, by omega, I6.same.seq hs, _, rfl, _, _, rfl, rfl, .inl ⟨by decide, by decide⟩, _, _, rfl, rfl, _, rfl, _, _, rfl, le_size, fun pn hpn => ?_⟩
      have S7 := same_upd (o := .lst (nm1.map V.str)) hpn
      have g7 : upd H6 pn (.lst (nm1.map V.str)) pn = some (.lst (nm1.map V.str)) := upd_same
      refine ⟨_, pn, nm1, rfl, g7, by decide, fun p5 v2 H8 S8 g8 d8 => ?_⟩
      generalize seedF (ns.getD (1 + (0 + (i : Int)) % 8).toNat 0 + 37 * (0 + (i : Int))) (0 + (i : Int)) = x at g8 d8
      have I8 := I6.go (S7.trans S8)
      obtain ⟨f3, f4, nok⟩ := I8.few
      have mem := deed_name (x := x) (names := nm1) (by decide)
      have nmok := nm1_ok _ mem
      have dw := deed_word x
      obtain ⟨dm1, dm2, dm3, dm4⟩ := deed_more x
      generalize deedN x nm1 = n at g8 mem nmok
      generalize deedW x = word at g8 dw dm1 dm2
      generalize deedM x = d2 at d8 dm1 dm2 dm3 dm4
      have lk : ∀ n bs, lookF gs n = some bs → bs.length ≤ 100000 := fun n bs e => by
        have := I8.good.len n bs e
        omega
      refine ⟨_, rfl, _, rfl, pf, p5, lvs, gs, word, n, v2, d2, rfl, I8.tab, I8.tb, by omega, g8, d8, dm1, lk, fun v6 H9 S9 sv => ?_⟩
      have I9 := I8.go S9
      refine ⟨_, rfl, _, rfl, dk, df, p5, kvs, D, word, .str n, v2, .str n, d2, rfl, I9.disk, S9 _ _ g8, by simp only [Den], (fun y e => by injection e with e; rw [← e]; exact ⟨nmok.2.1, nmok.2.2⟩), d8.same S9, by omega, dm4, (fun n bs e => lk n bs (by rw [I8.rel n]; exact e)), fun kvs' H10 f10 gr10 h10 _ => ?_⟩
      have tups := frm_tup I9.disk f10
      have S10 : Same H H10 := fun b o e => f10 b o (I9.same b o e) (fun z => by rw [I9.new b z] at e; cases e)
      have new10 : ∀ b, own dk df kvs' b → H b = none := fun b hb => by
        rcases gr10 b hb with z | z
        · exact I9.new b z
        · cases e : H b with
          | none => rfl
          | some o =>
            rw [I9.same b o e] at z
            cases z
      have tab10 : H10 pf = some (.dK lvs) := f10 _ _ I9.tab I9.off
      have off10 : ∀ {p : Addr} {l : List (Key × V)}, H9 p = some (.dK l) → ¬ own dk df kvs p → ¬ own dk df kvs' p := fun {p l} e o z => by
        rcases gr10 p z with z | z
        · exact o z
        · rw [e] at z
          cases z
      dsimp only
      cases hst : stepsT gs word n d2 with
      | inl c =>
        rw [hst] at sv
        have sv : v6 = .str c := sv
        subst sv
        have ed := deed_refused nmok.1 dm1 dw I9.rel hst
        rw [ed] at h10 ⊢
        obtain ⟨cs, ce⟩ := code_shaped (steps_code hst)
        refine ⟨_, rfl, _, _, _, _, rfl, TyOf.str c, kit_str (.str c), _, rfl, iteF ?_⟩
        refine ⟨_, rfl, _, rfl, .str c, .str c, by simp only [Den]; rfl, by simp only [Den], cs, cs, _, rfl, ?_⟩
        rw [ce]
        refine iteF ?_
        exact go_next rfl ⟨pf, kvs', lvs, D, gs, _, _, _, _, _, _, ⟨S10, new10, h10, tab10, tb_t tups I9.tb, off10 I9.tab I9.off, I9.rel, I9.good.mono (by omega), I9.left⟩, rfl⟩
      | inr ts =>
        rw [hst] at sv
        obtain ⟨p6, xs, rfl, hp6, g6, tv⟩ := sv
        have af := deed_done nmok.1 dm1 dm2 dw (fun r e => (I9.left r e).1) I9.rel hst
        have gd := steps_good I9.good mem dm3 hst
        obtain ⟨c1, c2, c3, c4⟩ := af
        generalize deedF D word (.str n) d2 = r at h10 c1 c2 c3 c4 ⊢
        have nown : ∀ {p : Addr}, H8 p = none → ¬ own dk df kvs p := fun {p} e z => by
          obtain ⟨dx8, h8⟩ := I8.disk.self
          rcases z with z | z | z
          · rw [z, h8] at e; cases e
          · rw [z, I8.disk.files] at e; cases e
          · obtain ⟨ys, g⟩ := file_lst I8.disk.rel z
            rw [g] at e; cases e
        have g610 : H10 p6 = some (.lst xs) := f10 _ _ g6 (nown hp6)
        have tv10 : TabsV H8 H10 xs ts := tabs_t tv (fun b o e _ hn => f10 b o e (nown hn)) tups
        refine ⟨_, rfl, _, _, _, _, rfl, TyOf.lst g610, kit_lst_str, _, rfl, iteT ?_⟩
        have lt60 : ∀ r, D.left = some r → 0 ≤ r ∧ r ≤ 60 := I9.left
        refine seq_join (fun σ' H' => ∃ p9 ys, Same H10 H' ∧ H' p9 = some (.lst ys) ∧ TabsV H8 H' ys (takeR D.left ts) ∧ ys.length ≤ xs.length ∧ (∀ v ∈ ys, v ∈ xs) ∧ σ' = σ1 a dk pf (leftV D.left) D.done (some (.int (0 + (i : Int)))) (some (.ref p5)) (some (.ref p6)) (some (.str (r.1.getD ""))) (some (.ref p9)) z10) (fun n' hn' => ?_) ?_
        · refine ⟨_, rfl, rfl, _, rfl, ?_⟩
          cases hl : D.left with
          | none =>
            rw [decide_eq_true (show leftV none = V.non from rfl)]
            refine iteT ⟨_, rfl, ?_⟩
            refine hn' _ _ ⟨p6, xs, Same.refl _, g610, ?_, Nat.le_refl _, fun _ h => h, ?_⟩
            · rw [hl]; exact tv10
            · rw [hl]; rfl
          | some k =>
            rw [decide_eq_false (show ¬ leftV (some k) = V.non from fun z => by cases z)]
            obtain ⟨k', rfl⟩ := Int.eq_ofNat_of_zero_le (lt60 k hl).1
            refine iteF ⟨_, rfl, .int (k' : Int), rfl, _, rfl, p6, xs, rfl, SqL.of g610, fun p9 hp9 => ?_⟩
            rw [cut_min]
            have S9' := same_upd (o := .lst (xs.take k')) hp9
            refine hn' _ _ ⟨p9, _, S9', upd_same, ?_, ?_, fun _ h => List.mem_of_mem_take h, ?_⟩
            · rw [hl]
              show TabsV H8 _ (xs.take k') (ts.take (k' : Int).toNat)
              rw [Int.toNat_natCast]
              exact tabs_t (tabs_take k' tv10) (fun b o e _ _ => S9' _ _ e) (fun b xs e => S9' _ _ e)
            · rw [List.length_take]
              exact Nat.min_le_right _ _
            · rw [hl]; rfl
        rintro σ' H11 ⟨p9, ys, S11, g9, tv11, yl, ysub, rfl⟩
        have tk : (takeR D.left ts).length = ys.length := tv11.1.symm
        rw [tk] at c1 c2 c3
        have tsl : ts.length = xs.length := tv.1.symm
        rw [tsl] at c1
        refine ⟨_, rfl, p9, _, rfl, .inl (SqL.of g9), _, rfl, p6, _, rfl, .inl (SqL.of (S11 _ _ g610)), _, _, rfl, rfl, ?_⟩
        have eb : decide ((ys.length : Int) < (xs.length : Int)) = decide (ys.length < xs.length) := by
          by_cases z : ys.length < xs.length
          · rw [decide_eq_true z, decide_eq_true (by omega)]
          · rw [decide_eq_false z, decide_eq_false (by omega)]
        dsimp only
        rw [eb]
        refine gn_join (fun σ' H' => H' = H11 ∧ σ' = σ1 a dk pf (leftV D.left) D.done (some (.int (0 + (i : Int)))) (some (.ref p5)) (some (.ref p6)) (some (.str (r.1.getD ""))) (some (.ref p9)) (some (.bl (decide (ys.length < xs.length))))) (fun n' hn' => ?_) ?_
        · refine ⟨_, rfl, _, rfl, _, rfl, ?_⟩
          by_cases z : ys.length < xs.length
          · rw [decide_eq_true z]
            rw [if_pos z] at c1
            refine iteT ⟨rfl, _, rfl, ?_⟩
            rw [decide_eq_true (show V.str (r.1.getD "") = V.str "stopped" by rw [c1]; rfl)]
            refine iteF (go_next rfl (hn' _ _ ⟨rfl, ?_⟩))
            rw [decide_eq_true z]
            rfl
          · rw [decide_eq_false z]
            rw [if_neg z] at c1
            refine iteF ⟨rfl, _, rfl, ?_⟩
            rw [decide_eq_true (show V.str (r.1.getD "") = V.str "" by rw [c1]; rfl)]
            refine iteF (go_next rfl (hn' _ _ ⟨rfl, ?_⟩))
            rw [decide_eq_false z]
            rfl
        rintro σ' H' ⟨e1, e2⟩
        rw [e1, e2]
        clear e1 e2
        have ys_le : ∀ k, D.left = some k → (ys.length : Int) ≤ k := fun k hk => by
          have h0 := (lt60 k hk).1
          rw [hk] at tk
          have tk : (ts.take k.toNat).length = ys.length := tk
          rw [List.length_take] at tk
          omega
        have rl : ∀ q, r.2.left = some q → 0 ≤ q ∧ q ≤ 60 := fun q hq => by
          rw [c3] at hq
          cases hk : D.left with
          | none =>
            rw [hk] at hq
            cases hq
          | some k =>
            rw [hk] at hq
            have hq : some (k - (ys.length : Int)) = some q := hq
            have hq := Option.some.inj hq
            have h1 := lt60 k hk
            have h2 := ys_le k hk
            omega
        have tr : ∀ t ∈ takeR D.left ts, t ∈ ts := fun t ht => by
          unfold takeR at ht
          split at ht
          · exact ht
          · exact List.mem_of_mem_take ht
        have ylz : ys.length + 1 ≤ sizeLine := by
          have : xs.length ≤ 9 := by
            rw [← tsl]
            have := hst
            exact steps_few dm3 this
          exact Nat.le_trans (show _ ≤ 100 by omega) (by decide)
        refine seq_join (fun σ' H' => ∃ pf' lvs', Inv1 C_Disk H H' dk df pf' kvs' lvs' r.2 ((takeR D.left ts).getLastD gs) (9 * (i + 1)) ∧ H' p9 = some (.lst ys) ∧ σ' = σ1 a dk pf' (leftV D.left) D.done (some (.int (0 + (i : Int)))) (some (.ref p5)) (some (.ref p6)) (some (.str (r.1.getD ""))) (some (.ref p9)) (some (.bl (decide (ys.length < xs.length))))) (fun n' hn' => ?_) ?_
        · refine ⟨_, rfl, le_size, fun pl hpl => ⟨_, rfl, pl, p9, _, ys, rfl, rfl, upd_same, same_upd hpl _ _ g9, by show 1 + ys.length ≤ sizeLine; omega, fun pc hpc => ?_⟩⟩
          have Sl := same_upd (o := .lst [V.ref pf]) hpl
          have Sc := same_upd (o := .lst ([V.ref pf] ++ ys)) hpc
          have SS := S11.trans (Sl.trans Sc)
          have gp9 := Sc _ _ (Sl _ _ g9)
          rcases tabs_last tv11 with ⟨rfl, e⟩ | ⟨zs, v, us, t, rfl, e, p', lvs', rfl, hp', gp', tbp⟩
          · refine ⟨_, rfl, pc, _, _, .ref pf, rfl, rfl, SqL.of upd_same, rfl, ?_⟩
            rw [e] at c4
            have Iz : Inv1 C_Disk H H10 dk df pf kvs' lvs r.2 gs (9 * (i + 1)) := ⟨S10, new10, h10, tab10, tb_t tups I9.tb, off10 I9.tab I9.off, c4, I9.good.mono (by omega), rl⟩
            exact hn' _ _ ⟨pf, lvs, by rw [e]; exact Iz.go SS, gp9, rfl⟩
          · refine ⟨_, rfl, pc, _, _, .ref p', rfl, rfl, SqL.of upd_same, by rw [← List.append_assoc]; exact atI_last _ _, ?_⟩
            have el : (takeR D.left ts).getLastD gs = t := by rw [e]; simp
            rw [el] at c4
            have nop : ¬ own dk df kvs' p' := fun z => by
              rcases gr10 p' z with z | z
              · exact nown hp' z
              · obtain ⟨j, hj⟩ := List.mem_iff_getElem?.mp (ysub (V.ref p') (by simp))
                have jl : j < ts.length := by
                  rw [tsl]
                  exact (List.getElem?_eq_some_iff.mp hj).1
                obtain ⟨p'', l'', e1, _, e3, _⟩ := tv.2 j _ _ hj (List.getElem?_eq_getElem jl)
                cases e1
                rw [e3] at z
                cases z
            have Iz : Inv1 C_Disk H H11 dk df p' kvs' lvs' r.2 t (9 * (i + 1)) := ⟨S10.trans S11, new10, h10.same S11, gp', tbp, nop, c4, gd t (tr t (by rw [e]; simp)), rl⟩
            exact hn' _ _ ⟨p', lvs', by rw [el]; exact Iz.go (Sl.trans Sc), gp9, rfl⟩
        rintro σ' H12 ⟨pf', lvs', I12, g12, rfl⟩
        refine ⟨_, rfl, _, rfl, p9, _, rfl, .inl (SqL.of g12), _, _, rfl, rfl, ?_⟩
        dsimp only
        refine gn_join (fun σ' H' => H' = H12 ∧ σ' = σ1 a dk pf' (leftV r.2.left) r.2.done (some (.int (0 + (i : Int)))) (some (.ref p5)) (some (.ref p6)) (some (.str (r.1.getD ""))) (some (.ref p9)) (some (.bl (decide (ys.length < xs.length))))) (fun n' hn' => ?_) ?_
        · refine ⟨_, rfl, rfl, _, rfl, ?_⟩
          cases hl : D.left with
          | none =>
            rw [decide_eq_true (show leftV none = V.non from rfl)]
            refine iteT (hn' _ _ ⟨rfl, ?_⟩)
            rw [c3, hl, c2]
            rfl
          | some k =>
            rw [decide_eq_false (show ¬ leftV (some k) = V.non from fun z => by cases z)]
            refine iteF ⟨_, rfl, _, rfl, p9, _, rfl, .inl (SqL.of g12), _, _, rfl, rfl, hn' _ _ ⟨rfl, ?_⟩⟩
            rw [c3, hl, c2]
            rfl
        rintro σ' H' ⟨e1, e2⟩
        rw [e1, e2]
        clear e1 e2
        obtain ⟨f3, f4, nok⟩ := I12.few
        obtain ⟨dx2, h2⟩ := I12.disk.self
        have sc : scal (leftV r.2.left) (leftV r.2.left) = true := by cases r.2.left <;> rfl
        refine ⟨_, rfl, dk, dx2, _, rfl, h2, rfl, dk, df, kvs', r.2, rfl, I12.disk, _, rfl, sc, _, rfl, ?_⟩
        rw [decide_eq_true (rfl : leftV r.2.left = leftV r.2.left)]
        refine iteF ?_
        refine ⟨_, rfl, dk, dx2, _, rfl, h2, rfl, dk, df, kvs', r.2, rfl, I12.disk, _, rfl, rfl, _, rfl, ?_⟩
        rw [decide_eq_true (rfl : V.int r.2.done = V.int r.2.done)]
        refine iteF ?_
        refine ⟨_, rfl, dk, df, kvs', r.2, rfl, I12.disk, by omega, nok, fun ms perm so pg lvs2 H13 S13 hpg gpg tb2 => ?_⟩
        have I13 := I12.go S13
        refine ⟨_, rfl, pg, pf', lvs2, lvs', _, _, rfl, rfl, gpg, I13.tab, tb2, I13.tb, _, rfl, ?_⟩
        rw [eqT_of I12.rel I12.good.nd I12.disk.kn perm]
        refine iteF ?_
        refine go_next rfl ?_
        refine ⟨_, rfl, _, rfl, ?_⟩
        by_cases z : ys.length < xs.length
        case neg =>
          rw [decide_eq_false z]
          refine iteF ?_
          exact go_next rfl ⟨pf', kvs', lvs', r.2, _, _, _, _, _, _, _, I13, rfl⟩
        rw [decide_eq_true z]
        refine iteT ?_
        refine ⟨le_size, fun pz hpz => ?_⟩
        have Sz := same_upd (o := .lst [.non, .int 3]) hpz
        have gz : upd H13 pz (.lst [.non, .int 3]) pz = some (.lst [.non, .int 3]) := upd_same
        generalize upd H13 pz (.lst [.non, .int 3]) = H14 at Sz gz ⊢
        have I14 := I13.go Sz
        have m0 := Int.emod_nonneg (ns.getD (Int.toNat 9) 0) (show (2 : Int) ≠ 0 by decide)
        have m2 := Int.emod_lt_of_pos (ns.getD (Int.toNat 9) 0) (show (0 : Int) < 2 by decide)
        obtain ⟨dR, vR, hvR, dvR, okR, b60⟩ : ∃ (d : PyData) (v : V), [V.non, V.int 3][(ns.getD (Int.toNat 9) 0 % 2).toNat]? = some v ∧ (Den H14 d v ∧ v = leftV (leftD d)) ∧ stepsOk d = true ∧ ∀ k, leftD d = some k → 0 ≤ k ∧ k ≤ 60 := by
          by_cases h0 : ns.getD (Int.toNat 9) 0 % 2 = 0
          · rw [h0]
            exact ⟨.none, .non, rfl, ⟨by simp only [Den], rfl⟩, rfl, fun k e => by cases e⟩
          · rw [show ns.getD (Int.toNat 9) 0 % 2 = 1 by omega]
            exact ⟨.int 3, .int 3, rfl, ⟨by simp only [Den], rfl⟩, by decide, fun k e => by cases e; omega⟩
        refine ⟨_, rfl, a, ns, 9, rfl, by decide, I14.same.seq hs, _, _, rfl, rfl, (by show (0 : Int) < 2; decide), pz, _, _, vR, rfl, rfl, SqL.of gz, atI_pos m0 hvR, ?_⟩
        obtain ⟨dx4, h4⟩ := I14.disk.self
        refine ⟨_, rfl, dk, dx4, _, rfl, h4, rfl, _, rfl, dk, df, kvs', r.2, vR, dR, rfl, I14.disk, dvR.1, (fun z => by rw [okR] at z; cases z), fun _ H15 f15 h15 => ?_⟩
        have S15 : Same H H15 := fun b o e => f15 b o (I14.same b o e) (fun z => by rw [I14.new b (.inl z)] at e; cases e)
        have t15 : ∀ b xs, H14 b = some (.tup xs) → H15 b = some (.tup xs) := fun b xs e => f15 b _ e (fun z => by rw [z, h4] at e; cases e)
        refine ⟨pf', kvs', lvs', ⟨r.2.fs, r.2.done, leftD dR⟩, _, some (.int (0 + (i : Int))), some (.ref p5), some (.ref p6), some (.str (r.1.getD "")), some (.ref p9), some (.bl true), ⟨S15, I14.new, h15, f15 _ _ I14.tab (fun z => I14.off (.inl z)), tb_t t15 I14.tb, I14.off, I14.rel, I14.good, b60⟩, ?_⟩
        rw [dvR.2]
        rfl
    rintro σ L1 ⟨pf, kvs, lvs, D, gs, z5, z6, z7, z8, z9, z10, I, rfl⟩
    obtain ⟨f3, f4, nok⟩ := I.few
    refine ⟨_, rfl, dk, df, kvs, D, rfl, I.disk, by omega, nok, fun ms perm so pg lvs2 H13 S13 hpg gpg tb2 => ?_⟩
    have I13 := I.go S13
    refine ⟨_, rfl, pg, pf, lvs2, lvs, _, _, rfl, rfl, gpg, I13.tab, tb2, I13.tb, ?_⟩
    rw [eqT_of I.rel I.good.nd I.disk.kn perm]
    exact q _
end
end Qh
end
section
set_option Elab.async false
set_option linter.all false
set_option maxRecDepth 100000
namespace Qh
open PySem L2
/-! ### what the top has written -/
structure DefIn (K : PySem.W.Frag) (x : Str) (st : Stmt) : Prop where
  ex : ∃ (f : Addr) (oc : Value) (od : Option Addr) (kV doc pm : Value) (an : Option Addr) (cdv ct : Value) (osl : Array (Option Value)), PySem.W.nsIn K mainGlobals x = some (some (.ref f)) ∧
    K.lookup f = some ⟨oc, od, .func (PySem.W.fnOf x x (defArgs st) (defBody st) (defScope st) .none kV doc pm an cdv ct), osl⟩ ∧ PySem.W.codeIn K cdv x = true ∧ PySem.W.keepIn K (.ref f) = true
theorem defIn_mk {K : PySem.W.Frag} {x : Str} {st : Stmt} {f : Addr} {oc : Value} {od an : Option Addr} {osl : Array (Option Value)} {kV doc pm cdv ct : Value} (a : PySem.W.nsIn K mainGlobals x = some (some (.ref f)))
    (l : K.lookup f = some ⟨oc, od, .func (PySem.W.fnOf x x (defArgs st) (defBody st) (defScope st) .none kV doc pm an cdv ct), osl⟩) (c : PySem.W.codeIn K cdv x = true) (k : PySem.W.keepIn K (.ref f) = true) : DefIn K x st := ⟨⟨f, oc, od, kV, doc, pm, an, cdv, ct, osl, a, l, c, k⟩⟩
theorem DefIn.get {K : PySem.W.Frag} {h : Heap} {mg : Str → Option Value} {x : Str} {st : Stmt} (X : K.In h) (G : h.Ns mainGlobals mg) (D : DefIn K x st) : ∃ f fd, Fun K x x st f fd ∧ mg x = some (.ref f) ∧ PySem.W.keepIn K (.ref f) = true := by
  obtain ⟨f, oc, od, kV, doc, pm, an, cdv, ct, osl, a, l, c, k⟩ := D.ex
  exact ⟨f, _, fun_mk l c k, PySem.W.mg_of X G a, k⟩
def strsAre : List Str → List Value → Bool
  | [], [] => true
  | k :: ks, .str x _ :: vs => decide (x = k) && strsAre ks vs
  | _, _ => false
theorem strsAre_vals : ∀ {ks : List Str} {vs : List Value}, strsAre ks vs = true → Vals (ks.map V.str) vs
  | [], [], _ => .nil
  | k :: ks, .str x t :: vs, h => by
    simp only [strsAre, Bool.and_eq_true, decide_eq_true_eq] at h
    obtain ⟨h1, h2⟩ := h
    subst h1
    exact .cons ⟨t, rfl⟩ (strsAre_vals h2)
def kindsIn (K : PySem.W.Frag) (a : Addr) : Bool := match K.lookup a with
  | some ⟨.type t, none, .seq its n, _⟩ => decide (t = "tuple") && (decide (its.size ≤ 100) && strsAre kinds its.toList)
  | _ => false
theorem kindsIn_ok {K : PySem.W.Frag} {a : Addr} (h : kindsIn K a = true) : (∀ H, SqT K H a (kinds.map V.str)) ∧ ∃ o, K.lookup a = some o ∧ o.cls = .type "tuple" ∧ o.dict = none := by
  unfold kindsIn at h
  split at h
  · next t its n sl e =>
    simp only [Bool.and_eq_true, decide_eq_true_eq] at h
    obtain ⟨h1, h2, h3⟩ := h
    subst h1
    exact ⟨fun H => .inr ⟨_, its, n, e, rfl, rfl, le_size h2, strsAre_vals h3⟩, _, e, rfl, rfl⟩
  · cases h
structure MethIn (K : PySem.W.Frag) (C : Addr) (x qual : Str) (st : Stmt) : Prop where
  ex : ∃ (f : Addr) (oc : Value) (od : Option Addr) (kV doc pm : Value) (an : Option Addr) (cdv ct : Value) (osl : Array (Option Value)), PySem.W.findIn K (.ref C) x = some (some (.ref f)) ∧ PySem.W.isFn K (.ref f) = true ∧
    K.lookup f = some ⟨oc, od, .func (PySem.W.fnOf x qual (defArgs st) (defBody st) (defScope st) .none kV doc pm an cdv ct), osl⟩ ∧ PySem.W.codeIn K cdv qual = true ∧ PySem.W.keepIn K (.ref f) = true
theorem methIn_mk {K : PySem.W.Frag} {C : Addr} {x qual : Str} {st : Stmt} {f : Addr} {oc : Value} {od an : Option Addr} {osl : Array (Option Value)} {kV doc pm cdv ct : Value} (a : PySem.W.findIn K (.ref C) x = some (some (.ref f))) (i : PySem.W.isFn K (.ref f) = true)
    (l : K.lookup f = some ⟨oc, od, .func (PySem.W.fnOf x qual (defArgs st) (defBody st) (defScope st) .none kV doc pm an cdv ct), osl⟩) (c : PySem.W.codeIn K cdv qual = true) (k : PySem.W.keepIn K (.ref f) = true) : MethIn K C x qual st := ⟨⟨f, oc, od, kV, doc, pm, an, cdv, ct, osl, a, i, l, c, k⟩⟩
theorem MethIn.get {K : PySem.W.Frag} {C : Addr} {x qual : Str} {st : Stmt} (D : MethIn K C x qual st) : ∃ f fd, Fun K x qual st f fd ∧ PySem.W.findIn K (.ref C) x = some (some (.ref f)) ∧ PySem.W.isFn K (.ref f) = true ∧ PySem.W.keepIn K (.ref f) = true := by
  obtain ⟨f, oc, od, kV, doc, pm, an, cdv, ct, osl, a, i, l, c, k⟩ := D.ex
  exact ⟨f, _, fun_mk l c k, a, i, k⟩
end Qh
end
section
set_option Elab.async false
set_option linter.all false
set_option maxRecDepth 100000
namespace Qh
open PySem L2
theorem law_mk {l : PySem.W.OpenLaw} {w : World} {K : PySem.W.Frag} {h : Heap} {mg : Str → Option Value} {fa fL C_BadName C_Missing C_There C_Stopped C_BadRow C_BadNumber C_Disk : Addr} (X : K.In h) (G : h.Ns mainGlobals mg) (hfa : mg "law" = some (.ref fa))
    {odL anL : Option Addr} {slL : Array (Option Value)} {ocL kVL dcL pmL cdL ctL : Value} {t0 t1 t2 t3 : Tok}
    (d_is_number : DefIn K "is_number" s_is_number)
    (d_is_bytes : DefIn K "is_bytes" s_is_bytes)
    (d_is_word : DefIn K "is_word" s_is_word)
    (d_check_name : DefIn K "check_name" s_check_name)
    (d_check_steps : DefIn K "check_steps" s_check_steps)
    (d__law_cell : DefIn K "_law_cell" s_cell)
    (d__law_seed : DefIn K "_law_seed" s_seed)
    (d__law_pick : DefIn K "_law_pick" s_pick)
    (d__law_bytes : DefIn K "_law_bytes" s_bytes)
    (d__law_on_disk : DefIn K "_law_on_disk" s_on_disk)
    (d__law_caught : DefIn K "_law_caught" s_caught)
    (d__law_files : DefIn K "_law_files" s_files)
    (d__law_mix : DefIn K "_law_mix" s_mix)
    (d__law_with : DefIn K "_law_with" s_with)
    (d__law_disk_deed : DefIn K "_law_disk_deed" s_deed)
    (d__law_disk_steps : DefIn K "_law_disk_steps" s_dsteps)
    (b_Disk : PySem.W.nsIn K mainGlobals "Disk" = some (some (.ref C_Disk))) (pg_Disk : PySem.W.plainGet K C_Disk Str.empty = true) (hd_Disk : PySem.W.hasDictIn K C_Disk = true) (po_Disk : PySem.W.plainOver K C_Disk = true) (sa_Disk : PySem.W.findIn K (.ref C_Disk) "__setattr__" = some (some (.builtin "object.__setattr__"))) (mk_Disk : PySem.W.makesIn K C_Disk = true) (kc_Disk : PySem.W.keepIn K (.ref C_Disk) = true)
    (n_Disk_files : PySem.W.findIn K (.ref C_Disk) "files" = some none)
    (n_Disk_steps_done : PySem.W.findIn K (.ref C_Disk) "steps_done" = some none)
    (n_Disk_steps_ahead : PySem.W.findIn K (.ref C_Disk) "steps_ahead" = some none)
    (e_Disk___init__ : MethIn K C_Disk "__init__" "Disk.__init__" s_dinit)
    (e_Disk_go_on : MethIn K C_Disk "go_on" "Disk.go_on" s_go_on)
    (e_Disk_check_file : MethIn K C_Disk "check_file" "Disk.check_file" s_check_file)
    (e_Disk_count_step : MethIn K C_Disk "count_step" "Disk.count_step" s_count_step)
    (e_Disk_make : MethIn K C_Disk "make" "Disk.make" s_make)
    (e_Disk_add : MethIn K C_Disk "add" "Disk.add" s_add)
    (e_Disk_cut : MethIn K C_Disk "cut" "Disk.cut" s_cut)
    (e_Disk_drop : MethIn K C_Disk "drop" "Disk.drop" s_drop)
    (e_Disk_names : MethIn K C_Disk "names" "Disk.names" s_names)
    (e_Disk_read : MethIn K C_Disk "read" "Disk.read" s_read)
    (e_Disk_left : MethIn K C_Disk "left" "Disk.left" s_left)
    (e_Disk_steps : MethIn K C_Disk "steps" "Disk.steps" s_steps)
    (aL : PySem.W.nsIn K mainGlobals "law" = some (some (.ref fL))) (lL : K.lookup fL = some ⟨ocL, odL, .func (PySem.W.fnOf "law" "law" (defArgs s_law) (defBody s_law) (defScope s_law) .none kVL dcL pmL anL cdL ctL), slL⟩) (cL : PySem.W.codeIn K cdL "law" = true) (kL : PySem.W.keepIn K (.ref fL) = true)
    (z_len : PySem.W.nsIn K mainGlobals "len" = some none)
    (z_isinstance : PySem.W.nsIn K mainGlobals "isinstance" = some none)
    (z_all : PySem.W.nsIn K mainGlobals "all" = some none)
    (z_sum : PySem.W.nsIn K mainGlobals "sum" = some none)
    (z_tuple : PySem.W.nsIn K mainGlobals "tuple" = some none)
    (z_int : PySem.W.nsIn K mainGlobals "int" = some none)
    (z_bool : PySem.W.nsIn K mainGlobals "bool" = some none)
    (z_str : PySem.W.nsIn K mainGlobals "str" = some none)
    (z_range : PySem.W.nsIn K mainGlobals "range" = some none)
    (z_enumerate : PySem.W.nsIn K mainGlobals "enumerate" = some none)
    (z_list : PySem.W.nsIn K mainGlobals "list" = some none)
    (z_sorted : PySem.W.nsIn K mainGlobals "sorted" = some none)
    (z_dict : PySem.W.nsIn K mainGlobals "dict" = some none)
    (v_HIGHEST_BYTE : PySem.W.nsIn K mainGlobals "HIGHEST_BYTE" = some (some (.int 255 t0)))
    (v_LONGEST_NAME : PySem.W.nsIn K mainGlobals "LONGEST_NAME" = some (some (.int 8 t1)))
    (v_MOST_STEPS : PySem.W.nsIn K mainGlobals "MOST_STEPS" = some (some (.int 100000 t2)))
    (v_NAME_SIGNS : PySem.W.nsIn K mainGlobals "NAME_SIGNS" = some (some (.str signs36 t3)))
    (a_BadName : PySem.W.nsIn K mainGlobals "BadName" = some (some (.ref C_BadName))) (x_BadName : excIn K C_BadName = true)
    (a_Missing : PySem.W.nsIn K mainGlobals "Missing" = some (some (.ref C_Missing))) (x_Missing : excIn K C_Missing = true)
    (a_There : PySem.W.nsIn K mainGlobals "There" = some (some (.ref C_There))) (x_There : excIn K C_There = true)
    (a_Stopped : PySem.W.nsIn K mainGlobals "Stopped" = some (some (.ref C_Stopped))) (x_Stopped : excIn K C_Stopped = true)
    (a_BadRow : PySem.W.nsIn K mainGlobals "BadRow" = some (some (.ref C_BadRow))) (x_BadRow : excIn K C_BadRow = true)
    (a_BadNumber : PySem.W.nsIn K mainGlobals "BadNumber" = some (some (.ref C_BadNumber))) (x_BadNumber : excIn K C_BadNumber = true)
    (hx_0_0 : PySem.W.exmOne K (.ref C_BadName) (.ref C_BadName) = some true)
    (hx_0_1 : PySem.W.exmOne K (.ref C_BadName) (.ref C_Missing) = some false)
    (hx_0_2 : PySem.W.exmOne K (.ref C_BadName) (.ref C_There) = some false)
    (hx_0_3 : PySem.W.exmOne K (.ref C_BadName) (.ref C_BadNumber) = some false)
    (hx_0_4 : PySem.W.exmOne K (.ref C_BadName) (.ref C_BadRow) = some false)
    (hx_0_5 : PySem.W.exmOne K (.ref C_BadName) (.ref C_Stopped) = some false)
    (hx_1_0 : PySem.W.exmOne K (.ref C_Missing) (.ref C_BadName) = some false)
    (hx_1_1 : PySem.W.exmOne K (.ref C_Missing) (.ref C_Missing) = some true)
    (hx_1_2 : PySem.W.exmOne K (.ref C_Missing) (.ref C_There) = some false)
    (hx_1_3 : PySem.W.exmOne K (.ref C_Missing) (.ref C_BadNumber) = some false)
    (hx_1_4 : PySem.W.exmOne K (.ref C_Missing) (.ref C_BadRow) = some false)
    (hx_1_5 : PySem.W.exmOne K (.ref C_Missing) (.ref C_Stopped) = some false)
    (hx_2_0 : PySem.W.exmOne K (.ref C_There) (.ref C_BadName) = some false)
    (hx_2_1 : PySem.W.exmOne K (.ref C_There) (.ref C_Missing) = some false)
    (hx_2_2 : PySem.W.exmOne K (.ref C_There) (.ref C_There) = some true)
    (hx_2_3 : PySem.W.exmOne K (.ref C_There) (.ref C_BadNumber) = some false)
    (hx_2_4 : PySem.W.exmOne K (.ref C_There) (.ref C_BadRow) = some false)
    (hx_2_5 : PySem.W.exmOne K (.ref C_There) (.ref C_Stopped) = some false)
    (hx_3_0 : PySem.W.exmOne K (.ref C_BadNumber) (.ref C_BadName) = some false)
    (hx_3_1 : PySem.W.exmOne K (.ref C_BadNumber) (.ref C_Missing) = some false)
    (hx_3_2 : PySem.W.exmOne K (.ref C_BadNumber) (.ref C_There) = some false)
    (hx_3_3 : PySem.W.exmOne K (.ref C_BadNumber) (.ref C_BadNumber) = some true)
    (hx_3_4 : PySem.W.exmOne K (.ref C_BadNumber) (.ref C_BadRow) = some false)
    (hx_3_5 : PySem.W.exmOne K (.ref C_BadNumber) (.ref C_Stopped) = some false)
    (hx_4_0 : PySem.W.exmOne K (.ref C_BadRow) (.ref C_BadName) = some false)
    (hx_4_1 : PySem.W.exmOne K (.ref C_BadRow) (.ref C_Missing) = some false)
    (hx_4_2 : PySem.W.exmOne K (.ref C_BadRow) (.ref C_There) = some false)
    (hx_4_3 : PySem.W.exmOne K (.ref C_BadRow) (.ref C_BadNumber) = some false)
    (hx_4_4 : PySem.W.exmOne K (.ref C_BadRow) (.ref C_BadRow) = some true)
    (hx_4_5 : PySem.W.exmOne K (.ref C_BadRow) (.ref C_Stopped) = some false)
    (hx_5_0 : PySem.W.exmOne K (.ref C_Stopped) (.ref C_BadName) = some false)
    (hx_5_1 : PySem.W.exmOne K (.ref C_Stopped) (.ref C_Missing) = some false)
    (hx_5_2 : PySem.W.exmOne K (.ref C_Stopped) (.ref C_There) = some false)
    (hx_5_3 : PySem.W.exmOne K (.ref C_Stopped) (.ref C_BadNumber) = some false)
    (hx_5_4 : PySem.W.exmOne K (.ref C_Stopped) (.ref C_BadRow) = some false)
    (hx_5_5 : PySem.W.exmOne K (.ref C_Stopped) (.ref C_Stopped) = some true)
    : ∃ fd : FuncData, (∀ (s : Shared) (v : Value), BindsTo s fd ⟨[v], []⟩ [("_law_script", v)]) ∧ ∀ base : Heap, K.In base → base.Ns mainGlobals mg → FnOk l.prog w K mg base (CXE l.prog w) 7 fa fd ["_law_script"] (sp_law K) := by
  have e := hfa.symm.trans (PySem.W.mg_of X G aL)
  cases e
  have T : TxtW K mg C_BadName C_Missing C_There C_Stopped C_BadRow C_BadNumber C_Disk := ⟨⟨⟨PySem.W.mg_none_of X G z_len, PySem.W.mg_none_of X G z_isinstance, PySem.W.mg_none_of X G z_all, PySem.W.mg_none_of X G z_sum, PySem.W.mg_none_of X G z_tuple, PySem.W.mg_none_of X G z_int, PySem.W.mg_none_of X G z_bool, PySem.W.mg_none_of X G z_str, PySem.W.mg_none_of X G z_range, PySem.W.mg_none_of X G z_enumerate, PySem.W.mg_none_of X G z_list, PySem.W.mg_none_of X G z_sorted, ⟨_, PySem.W.mg_of X G v_HIGHEST_BYTE⟩⟩, ⟨_, PySem.W.mg_of X G v_NAME_SIGNS⟩, ⟨_, PySem.W.mg_of X G v_LONGEST_NAME⟩, ⟨_, PySem.W.mg_of X G v_MOST_STEPS⟩, x_BadName, PySem.W.mg_of X G a_BadName, x_Missing, PySem.W.mg_of X G a_Missing, x_There, PySem.W.mg_of X G a_There, x_Stopped, PySem.W.mg_of X G a_Stopped, x_BadRow, PySem.W.mg_of X G a_BadRow, x_BadNumber, PySem.W.mg_of X G a_BadNumber, ⟨pg_Disk, hd_Disk, po_Disk, sa_Disk⟩, n_Disk_files, n_Disk_steps_done, n_Disk_steps_ahead⟩, PySem.W.mg_none_of X G z_dict⟩
  have X6 : HexD K C_BadName C_Missing C_There C_Stopped C_BadRow C_BadNumber := ⟨fun i j hi hj hn => match i, hi with
    | 0, _ => match j, hj with
      | 0, _ => absurd rfl hn
      | 1, _ => hx_0_1
      | 2, _ => hx_0_2
      | 3, _ => hx_0_3
      | 4, _ => hx_0_4
      | 5, _ => hx_0_5
    | 1, _ => match j, hj with
      | 0, _ => hx_1_0
      | 1, _ => absurd rfl hn
      | 2, _ => hx_1_2
      | 3, _ => hx_1_3
      | 4, _ => hx_1_4
      | 5, _ => hx_1_5
    | 2, _ => match j, hj with
      | 0, _ => hx_2_0
      | 1, _ => hx_2_1
      | 2, _ => absurd rfl hn
      | 3, _ => hx_2_3
      | 4, _ => hx_2_4
      | 5, _ => hx_2_5
    | 3, _ => match j, hj with
      | 0, _ => hx_3_0
      | 1, _ => hx_3_1
      | 2, _ => hx_3_2
      | 3, _ => absurd rfl hn
      | 4, _ => hx_3_4
      | 5, _ => hx_3_5
    | 4, _ => match j, hj with
      | 0, _ => hx_4_0
      | 1, _ => hx_4_1
      | 2, _ => hx_4_2
      | 3, _ => hx_4_3
      | 4, _ => absurd rfl hn
      | 5, _ => hx_4_5
    | 5, _ => match j, hj with
      | 0, _ => hx_5_0
      | 1, _ => hx_5_1
      | 2, _ => hx_5_2
      | 3, _ => hx_5_3
      | 4, _ => hx_5_4
      | 5, _ => absurd rfl hn,
    fun i hi => match i, hi with
    | 0, _ => hx_0_0
    | 1, _ => hx_1_1
    | 2, _ => hx_2_2
    | 3, _ => hx_3_3
    | 4, _ => hx_4_4
    | 5, _ => hx_5_5⟩
  obtain ⟨f_is_number, fd_is_number, F_is_number, m_is_number, k_is_number⟩ := d_is_number.get X G
  obtain ⟨f_is_bytes, fd_is_bytes, F_is_bytes, m_is_bytes, k_is_bytes⟩ := d_is_bytes.get X G
  obtain ⟨f_is_word, fd_is_word, F_is_word, m_is_word, k_is_word⟩ := d_is_word.get X G
  obtain ⟨f_check_name, fd_check_name, F_check_name, m_check_name, k_check_name⟩ := d_check_name.get X G
  obtain ⟨f_check_steps, fd_check_steps, F_check_steps, m_check_steps, k_check_steps⟩ := d_check_steps.get X G
  obtain ⟨f__law_cell, fd__law_cell, F__law_cell, m__law_cell, k__law_cell⟩ := d__law_cell.get X G
  obtain ⟨f__law_seed, fd__law_seed, F__law_seed, m__law_seed, k__law_seed⟩ := d__law_seed.get X G
  obtain ⟨f__law_pick, fd__law_pick, F__law_pick, m__law_pick, k__law_pick⟩ := d__law_pick.get X G
  obtain ⟨f__law_bytes, fd__law_bytes, F__law_bytes, m__law_bytes, k__law_bytes⟩ := d__law_bytes.get X G
  obtain ⟨f__law_on_disk, fd__law_on_disk, F__law_on_disk, m__law_on_disk, k__law_on_disk⟩ := d__law_on_disk.get X G
  obtain ⟨f__law_caught, fd__law_caught, F__law_caught, m__law_caught, k__law_caught⟩ := d__law_caught.get X G
  obtain ⟨f__law_files, fd__law_files, F__law_files, m__law_files, k__law_files⟩ := d__law_files.get X G
  obtain ⟨f__law_mix, fd__law_mix, F__law_mix, m__law_mix, k__law_mix⟩ := d__law_mix.get X G
  obtain ⟨f__law_with, fd__law_with, F__law_with, m__law_with, k__law_with⟩ := d__law_with.get X G
  obtain ⟨f__law_disk_deed, fd__law_disk_deed, F__law_disk_deed, m__law_disk_deed, k__law_disk_deed⟩ := d__law_disk_deed.get X G
  obtain ⟨f__law_disk_steps, fd__law_disk_steps, F__law_disk_steps, m__law_disk_steps, k__law_disk_steps⟩ := d__law_disk_steps.get X G
  obtain ⟨f___init__, fd___init__, F___init__, a___init__, i___init__, k___init__⟩ := e_Disk___init__.get
  obtain ⟨f_go_on, fd_go_on, F_go_on, a_go_on, i_go_on, k_go_on⟩ := e_Disk_go_on.get
  obtain ⟨f_check_file, fd_check_file, F_check_file, a_check_file, i_check_file, k_check_file⟩ := e_Disk_check_file.get
  obtain ⟨f_count_step, fd_count_step, F_count_step, a_count_step, i_count_step, k_count_step⟩ := e_Disk_count_step.get
  obtain ⟨f_make, fd_make, F_make, a_make, i_make, k_make⟩ := e_Disk_make.get
  obtain ⟨f_add, fd_add, F_add, a_add, i_add, k_add⟩ := e_Disk_add.get
  obtain ⟨f_cut, fd_cut, F_cut, a_cut, i_cut, k_cut⟩ := e_Disk_cut.get
  obtain ⟨f_drop, fd_drop, F_drop, a_drop, i_drop, k_drop⟩ := e_Disk_drop.get
  obtain ⟨f_names, fd_names, F_names, a_names, i_names, k_names⟩ := e_Disk_names.get
  obtain ⟨f_read, fd_read, F_read, a_read, i_read, k_read⟩ := e_Disk_read.get
  obtain ⟨f_left, fd_left, F_left, a_left, i_left, k_left⟩ := e_Disk_left.get
  obtain ⟨f_steps, fd_steps, F_steps, a_steps, i_steps, k_steps⟩ := e_Disk_steps.get
  refine ⟨PySem.W.fnOf "law" "law" (defArgs s_law) (defBody s_law) (defScope s_law) .none kVL dcL pmL anL cdL ctL, fun s v => .of_eq rfl, fun base _ _ => ?_⟩
  have c_is_number : Callee l.prog w K mg base "is_number" 1 ["thing", "least", "most"] sp_is_number := ⟨f_is_number, fd_is_number, ok_is_number F_is_number T.toTxtN, m_is_number, k_is_number, F_is_number.binds (ps := ["thing", "least", "most"]) fun _ _ _ _ _ _ us hl => match us, hl with | [_, _, _], _ => rfl⟩
  have c_is_bytes : Callee l.prog w K mg base "is_bytes" 2 ["thing"] sp_is_bytes := ⟨f_is_bytes, fd_is_bytes, ok_is_bytes F_is_bytes T.toTxtN c_is_number, m_is_bytes, k_is_bytes, F_is_bytes.binds (ps := ["thing"]) fun _ _ _ _ _ _ us hl => match us, hl with | [_], _ => rfl⟩
  have c_is_word : Callee l.prog w K mg base "is_word" 1 ["thing", "signs", "longest"] sp_is_word := ⟨f_is_word, fd_is_word, ok_is_word F_is_word T.toTxtN, m_is_word, k_is_word, F_is_word.binds (ps := ["thing", "signs", "longest"]) fun _ _ _ _ _ _ us hl => match us, hl with | [_, _, _], _ => rfl⟩
  have c_check_name : Callee l.prog w K mg base "check_name" 2 ["name"] (sp_check_name C_BadName) := ⟨f_check_name, fd_check_name, ok_check_name F_check_name T.toTxtD c_is_word, m_check_name, k_check_name, F_check_name.binds (ps := ["name"]) fun _ _ _ _ _ _ us hl => match us, hl with | [_], _ => rfl⟩
  have c_check_steps : Callee l.prog w K mg base "check_steps" 2 ["steps"] (sp_check_steps C_BadNumber) := ⟨f_check_steps, fd_check_steps, ok_check_steps F_check_steps T.toTxtD c_is_number, m_check_steps, k_check_steps, F_check_steps.binds (ps := ["steps"]) fun _ _ _ _ _ _ us hl => match us, hl with | [_], _ => rfl⟩
  have c__law_cell : Callee l.prog w K mg base "_law_cell" 1 ["_law_script", "_law_k"] (sp_cell K) := ⟨f__law_cell, fd__law_cell, ok_cell F__law_cell T.toTxtN, m__law_cell, k__law_cell, F__law_cell.binds (ps := ["_law_script", "_law_k"]) fun _ _ _ _ _ _ us hl => match us, hl with | [_, _], _ => rfl⟩
  have c__law_seed : Callee l.prog w K mg base "_law_seed" 1 ["_law_seed_here", "_law_k"] sp_seed := ⟨f__law_seed, fd__law_seed, ok_seed F__law_seed, m__law_seed, k__law_seed, F__law_seed.binds (ps := ["_law_seed_here", "_law_k"]) fun _ _ _ _ _ _ us hl => match us, hl with | [_, _], _ => rfl⟩
  have c__law_pick : Callee l.prog w K mg base "_law_pick" 1 ["_law_seed_here", "_law_many"] sp_pick := ⟨f__law_pick, fd__law_pick, ok_pick F__law_pick, m__law_pick, k__law_pick, F__law_pick.binds (ps := ["_law_seed_here", "_law_many"]) fun _ _ _ _ _ _ us hl => match us, hl with | [_, _], _ => rfl⟩
  have c__law_bytes : Callee l.prog w K mg base "_law_bytes" 2 ["_law_seed_here", "_law_most"] sp_bytes := ⟨f__law_bytes, fd__law_bytes, ok_bytes F__law_bytes T.toTxtN c__law_seed c__law_pick, m__law_bytes, k__law_bytes, F__law_bytes.binds (ps := ["_law_seed_here", "_law_most"]) fun _ _ _ _ _ _ us hl => match us, hl with | [_, _], _ => rfl⟩
  have c_Disk : Maker l.prog w K mg base "Disk" C_Disk 3 ["self", "steps"] (sp_dinit C_Disk C_BadNumber) := ⟨f___init__, fd___init__, ok_dinit F___init__ T.toTxtD c_check_steps, ⟨mk_Disk, a___init__, i___init__, kc_Disk⟩, PySem.W.mg_of X G b_Disk, F___init__.binds (ps := ["self", "steps"]) fun _ _ _ _ _ _ us hl => match us, hl with | [_, _], _ => rfl⟩
  have m_go_on : Method l.prog w K mg base C_Disk "go_on" 3 ["self", "steps"] (sp_go_on C_Disk C_BadNumber) := ⟨f_go_on, fd_go_on, ok_go_on F_go_on T.toTxtD c_check_steps, ⟨a_go_on, i_go_on, k_go_on⟩, F_go_on.binds (ps := ["self", "steps"]) fun _ _ _ _ _ _ us hl => match us, hl with | [_, _], _ => rfl⟩
  have m_check_file : Method l.prog w K mg base C_Disk "check_file" 3 ["self", "name"] (sp_check_file C_Disk C_BadName C_Missing) := ⟨f_check_file, fd_check_file, ok_check_file F_check_file T.toTxtD c_check_name, ⟨a_check_file, i_check_file, k_check_file⟩, F_check_file.binds (ps := ["self", "name"]) fun _ _ _ _ _ _ us hl => match us, hl with | [_, _], _ => rfl⟩
  have m_count_step : Method l.prog w K mg base C_Disk "count_step" 1 ["self"] (sp_count_step C_Disk C_Stopped) := ⟨f_count_step, fd_count_step, ok_count_step F_count_step T.toTxtD, ⟨a_count_step, i_count_step, k_count_step⟩, F_count_step.binds (ps := ["self"]) fun _ _ _ _ _ _ us hl => match us, hl with | [_], _ => rfl⟩
  have m_make : Method l.prog w K mg base C_Disk "make" 3 ["self", "name"] (sp_make C_Disk C_BadName C_There C_Stopped) := ⟨f_make, fd_make, ok_make F_make T.toTxtD c_check_name m_count_step, ⟨a_make, i_make, k_make⟩, F_make.binds (ps := ["self", "name"]) fun _ _ _ _ _ _ us hl => match us, hl with | [_, _], _ => rfl⟩
  have m_add : Method l.prog w K mg base C_Disk "add" 4 ["self", "name", "some"] (sp_add C_Disk C_BadName C_Missing C_BadRow C_Stopped) := ⟨f_add, fd_add, ok_add F_add T.toTxtD c_is_bytes m_check_file m_count_step, ⟨a_add, i_add, k_add⟩, F_add.binds (ps := ["self", "name", "some"]) fun _ _ _ _ _ _ us hl => match us, hl with | [_, _, _], _ => rfl⟩
  have m_cut : Method l.prog w K mg base C_Disk "cut" 4 ["self", "name", "size"] (sp_cut C_Disk C_BadName C_Missing C_BadNumber C_Stopped) := ⟨f_cut, fd_cut, ok_cut F_cut T.toTxtD c_is_number m_check_file m_count_step, ⟨a_cut, i_cut, k_cut⟩, F_cut.binds (ps := ["self", "name", "size"]) fun _ _ _ _ _ _ us hl => match us, hl with | [_, _, _], _ => rfl⟩
  have m_drop : Method l.prog w K mg base C_Disk "drop" 4 ["self", "name"] (sp_drop C_Disk C_BadName C_Missing C_Stopped) := ⟨f_drop, fd_drop, ok_drop F_drop T.toTxtD m_check_file m_count_step, ⟨a_drop, i_drop, k_drop⟩, F_drop.binds (ps := ["self", "name"]) fun _ _ _ _ _ _ us hl => match us, hl with | [_, _], _ => rfl⟩
  have m_names : Method l.prog w K mg base C_Disk "names" 1 ["self"] (sp_names C_Disk) := ⟨f_names, fd_names, ok_names F_names T.toTxtD, ⟨a_names, i_names, k_names⟩, F_names.binds (ps := ["self"]) fun _ _ _ _ _ _ us hl => match us, hl with | [_], _ => rfl⟩
  have m_read : Method l.prog w K mg base C_Disk "read" 4 ["self", "name"] (sp_read C_Disk C_BadName C_Missing) := ⟨f_read, fd_read, ok_read F_read T.toTxtD m_check_file, ⟨a_read, i_read, k_read⟩, F_read.binds (ps := ["self", "name"]) fun _ _ _ _ _ _ us hl => match us, hl with | [_, _], _ => rfl⟩
  have m_left : Method l.prog w K mg base C_Disk "left" 1 ["self"] (sp_left C_Disk) := ⟨f_left, fd_left, ok_left F_left T.toTxtD, ⟨a_left, i_left, k_left⟩, F_left.binds (ps := ["self"]) fun _ _ _ _ _ _ us hl => match us, hl with | [_], _ => rfl⟩
  have m_steps : Method l.prog w K mg base C_Disk "steps" 1 ["self"] (sp_steps C_Disk) := ⟨f_steps, fd_steps, ok_steps F_steps T.toTxtD, ⟨a_steps, i_steps, k_steps⟩, F_steps.binds (ps := ["self"]) fun _ _ _ _ _ _ us hl => match us, hl with | [_], _ => rfl⟩
  have c__law_on_disk : Callee l.prog w K mg base "_law_on_disk" 5 ["_law_disk", "_law_deed"] (sp_on_disk C_Disk (clsF C_BadName C_Missing C_There C_Stopped C_BadRow C_BadNumber)) := ⟨f__law_on_disk, fd__law_on_disk, ok_on_disk F__law_on_disk T.toTxtD m_make m_add m_cut m_drop, m__law_on_disk, k__law_on_disk, F__law_on_disk.binds (ps := ["_law_disk", "_law_deed"]) fun _ _ _ _ _ _ us hl => match us, hl with | [_, _], _ => rfl⟩
  have c__law_caught : Callee l.prog w K mg base "_law_caught" 6 ["_law_disk", "_law_deed"] (sp_caught C_Disk) := ⟨f__law_caught, fd__law_caught, ok_caught F__law_caught T.toTxtD X6 c__law_on_disk, m__law_caught, k__law_caught, F__law_caught.binds (ps := ["_law_disk", "_law_deed"]) fun _ _ _ _ _ _ us hl => match us, hl with | [_, _], _ => rfl⟩
  have c__law_files : Callee l.prog w K mg base "_law_files" 5 ["_law_disk"] (sp_files C_Disk) := ⟨f__law_files, fd__law_files, ok_files F__law_files T.toTxtD m_names m_read, m__law_files, k__law_files, F__law_files.binds (ps := ["_law_disk"]) fun _ _ _ _ _ _ us hl => match us, hl with | [_], _ => rfl⟩
  have c__law_mix : Callee l.prog w K mg base "_law_mix" 1 ["_law_cell_here", "_law_prime", "_law_many"] sp_mix := ⟨f__law_mix, fd__law_mix, ok_mix F__law_mix, m__law_mix, k__law_mix, F__law_mix.binds (ps := ["_law_cell_here", "_law_prime", "_law_many"]) fun _ _ _ _ _ _ us hl => match us, hl with | [_, _, _], _ => rfl⟩
  have c__law_with : Callee l.prog w K mg base "_law_with" 1 ["_law_files_here", "_law_name", "_law_some"] sp_with := ⟨f__law_with, fd__law_with, ok_with F__law_with T, m__law_with, k__law_with, F__law_with.binds (ps := ["_law_files_here", "_law_name", "_law_some"]) fun _ _ _ _ _ _ us hl => match us, hl with | [_, _, _], _ => rfl⟩
  have c__law_disk_deed : Callee l.prog w K mg base "_law_disk_deed" 3 ["_law_seed_here", "_law_names"] sp_deed := ⟨f__law_disk_deed, fd__law_disk_deed, ok_deed F__law_disk_deed T.toTxtN c__law_seed c__law_pick c__law_bytes, m__law_disk_deed, k__law_disk_deed, F__law_disk_deed.binds (ps := ["_law_seed_here", "_law_names"]) fun _ _ _ _ _ _ us hl => match us, hl with | [_, _], _ => rfl⟩
  have c__law_disk_steps : Callee l.prog w K mg base "_law_disk_steps" 2 ["_law_files_here", "_law_deed"] sp_dsteps := ⟨f__law_disk_steps, fd__law_disk_steps, ok_dsteps F__law_disk_steps T.toTxtN c__law_with, m__law_disk_steps, k__law_disk_steps, F__law_disk_steps.binds (ps := ["_law_files_here", "_law_deed"]) fun _ _ _ _ _ _ us hl => match us, hl with | [_, _], _ => rfl⟩
  exact ok_law (fun_mk (st := s_law) lL cL kL) T  c_Disk m_steps m_left m_go_on c__law_files c__law_caught c__law_cell c__law_mix c__law_seed c__law_disk_deed c__law_disk_steps
theorem walk {l : PySem.W.OpenLaw} {q : Program} {loose : List Str} {XP : (Str → Option Value) → Heap → Prop} {YP : World → Heap → Prop} {d : DefRec} {K : Params → PySem.W.Frag} (hn : l.most = some 63) (hdf : d.params.defaults = [])
    (hY : ∀ (w : World) (h : Heap), YP w h → (K w.params).In h)
    (F : ∀ (w : World) (mg : Str → Option Value) (fa : Addr) (h : Heap), (K w.params).In h → h.Ns mainGlobals mg → mg d.name = some (.ref fa) →
      ∃ fd : FuncData, (∀ (s : Shared) (u : Value), BindsTo s fd ⟨[u], []⟩ [("_law_script", u)]) ∧ ∀ base : Heap, (K w.params).In base → base.Ns mainGlobals mg → FnOk l.prog w (K w.params) mg base (CXE l.prog w) 7 fa fd ["_law_script"] (sp_law (K w.params))) :
    PySem.W.WalkO q loose XP YP l.row.toRowW d [] (fun f vs => PySem.call f vs) :=
  L2.walk_of (n := 63) (k := 7) (x := "_law_script") (CX := fun w => CXE l.prog w) (sp := fun w => sp_law (K w.params)) hn (by decide) hdf ⟨rfl, by decide, by decide⟩ hY F (fun _ _ a ns hl _ hS => ⟨a, ns, rfl, hS, fun _ => rfl⟩) fun _ _ _ _ _ ⟨_, _, _, _, _, z⟩ => z
end Qh
end
section
set_option Elab.async false
set_option linter.all false
open PySem PySem.W PyProof.Rows
set_option maxRecDepth 100000 in
set_option maxHeartbeats 0 in
theorem PySem.Challenge.cw_queuehold_k03_whole_stops_holds : PySem.Challenge.rw_queuehold_k03_whole_stops.Holds := by
  w_on; o_law; k_head; (case hw => w_witness2)
  k_fill
  refine Qh.walk (l := PySem.Challenge.rw_queuehold_k03_whole_stops) rfl rfl (fun w h Y => PySem.W.kIn_of Y) ?F
  case F =>
    intro w mg fa h KX G hmg
    refine' Qh.law_mk KX G hmg ?d_is_number ?d_is_bytes ?d_is_word ?d_check_name ?d_check_steps ?d__law_cell ?d__law_seed ?d__law_pick ?d__law_bytes ?d__law_on_disk ?d__law_caught ?d__law_files ?d__law_mix ?d__law_with ?d__law_disk_deed ?d__law_disk_steps ?b_Disk ?pg_Disk ?hd_Disk ?po_Disk ?sa_Disk ?mk_Disk ?kc_Disk ?n_Disk_files ?n_Disk_steps_done ?n_Disk_steps_ahead ?e_Disk___init__ ?e_Disk_go_on ?e_Disk_check_file ?e_Disk_count_step ?e_Disk_make ?e_Disk_add ?e_Disk_cut ?e_Disk_drop ?e_Disk_names ?e_Disk_read ?e_Disk_left ?e_Disk_steps ?aL ?lL ?cL ?kL ?z_len ?z_isinstance ?z_all ?z_sum ?z_tuple ?z_int ?z_bool ?z_str ?z_range ?z_enumerate ?z_list ?z_sorted ?z_dict ?v_HIGHEST_BYTE ?v_LONGEST_NAME ?v_MOST_STEPS ?v_NAME_SIGNS ?a_BadName ?x_BadName ?a_Missing ?x_Missing ?a_There ?x_There ?a_Stopped ?x_Stopped ?a_BadRow ?x_BadRow ?a_BadNumber ?x_BadNumber ?hx_0_0 ?hx_0_1 ?hx_0_2 ?hx_0_3 ?hx_0_4 ?hx_0_5 ?hx_1_0 ?hx_1_1 ?hx_1_2 ?hx_1_3 ?hx_1_4 ?hx_1_5 ?hx_2_0 ?hx_2_1 ?hx_2_2 ?hx_2_3 ?hx_2_4 ?hx_2_5 ?hx_3_0 ?hx_3_1 ?hx_3_2 ?hx_3_3 ?hx_3_4 ?hx_3_5 ?hx_4_0 ?hx_4_1 ?hx_4_2 ?hx_4_3 ?hx_4_4 ?hx_4_5 ?hx_5_0 ?hx_5_1 ?hx_5_2 ?hx_5_3 ?hx_5_4 ?hx_5_5
    case d_is_number => refine' Qh.defIn_mk ?a ?l ?c ?k; (case a => k_is); (case l => k_is); (case c => k_is); (case k => k_is)
    case d_is_bytes => refine' Qh.defIn_mk ?a ?l ?c ?k; (case a => k_is); (case l => k_is); (case c => k_is); (case k => k_is)
    case d_is_word => refine' Qh.defIn_mk ?a ?l ?c ?k; (case a => k_is); (case l => k_is); (case c => k_is); (case k => k_is)
    case d_check_name => refine' Qh.defIn_mk ?a ?l ?c ?k; (case a => k_is); (case l => k_is); (case c => k_is); (case k => k_is)
    case d_check_steps => refine' Qh.defIn_mk ?a ?l ?c ?k; (case a => k_is); (case l => k_is); (case c => k_is); (case k => k_is)
    case d__law_cell => refine' Qh.defIn_mk ?a ?l ?c ?k; (case a => k_is); (case l => k_is); (case c => k_is); (case k => k_is)
    case d__law_seed => refine' Qh.defIn_mk ?a ?l ?c ?k; (case a => k_is); (case l => k_is); (case c => k_is); (case k => k_is)
    case d__law_pick => refine' Qh.defIn_mk ?a ?l ?c ?k; (case a => k_is); (case l => k_is); (case c => k_is); (case k => k_is)
    case d__law_bytes => refine' Qh.defIn_mk ?a ?l ?c ?k; (case a => k_is); (case l => k_is); (case c => k_is); (case k => k_is)
    case d__law_on_disk => refine' Qh.defIn_mk ?a ?l ?c ?k; (case a => k_is); (case l => k_is); (case c => k_is); (case k => k_is)
    case d__law_caught => refine' Qh.defIn_mk ?a ?l ?c ?k; (case a => k_is); (case l => k_is); (case c => k_is); (case k => k_is)
    case d__law_files => refine' Qh.defIn_mk ?a ?l ?c ?k; (case a => k_is); (case l => k_is); (case c => k_is); (case k => k_is)
    case d__law_mix => refine' Qh.defIn_mk ?a ?l ?c ?k; (case a => k_is); (case l => k_is); (case c => k_is); (case k => k_is)
    case d__law_with => refine' Qh.defIn_mk ?a ?l ?c ?k; (case a => k_is); (case l => k_is); (case c => k_is); (case k => k_is)
    case d__law_disk_deed => refine' Qh.defIn_mk ?a ?l ?c ?k; (case a => k_is); (case l => k_is); (case c => k_is); (case k => k_is)
    case d__law_disk_steps => refine' Qh.defIn_mk ?a ?l ?c ?k; (case a => k_is); (case l => k_is); (case c => k_is); (case k => k_is)
    (case b_Disk => k_is)
    (case pg_Disk => k_is)
    (case hd_Disk => k_is)
    (case po_Disk => k_is)
    (case sa_Disk => k_is)
    (case mk_Disk => k_is)
    (case kc_Disk => k_is)
    (case n_Disk_files => k_is)
    (case n_Disk_steps_done => k_is)
    (case n_Disk_steps_ahead => k_is)
    case e_Disk___init__ => refine' Qh.methIn_mk ?a ?i ?l ?c ?k; (case a => k_is); (case i => k_is); (case l => k_is); (case c => k_is); (case k => k_is)
    case e_Disk_go_on => refine' Qh.methIn_mk ?a ?i ?l ?c ?k; (case a => k_is); (case i => k_is); (case l => k_is); (case c => k_is); (case k => k_is)
    case e_Disk_check_file => refine' Qh.methIn_mk ?a ?i ?l ?c ?k; (case a => k_is); (case i => k_is); (case l => k_is); (case c => k_is); (case k => k_is)
    case e_Disk_count_step => refine' Qh.methIn_mk ?a ?i ?l ?c ?k; (case a => k_is); (case i => k_is); (case l => k_is); (case c => k_is); (case k => k_is)
    case e_Disk_make => refine' Qh.methIn_mk ?a ?i ?l ?c ?k; (case a => k_is); (case i => k_is); (case l => k_is); (case c => k_is); (case k => k_is)
    case e_Disk_add => refine' Qh.methIn_mk ?a ?i ?l ?c ?k; (case a => k_is); (case i => k_is); (case l => k_is); (case c => k_is); (case k => k_is)
    case e_Disk_cut => refine' Qh.methIn_mk ?a ?i ?l ?c ?k; (case a => k_is); (case i => k_is); (case l => k_is); (case c => k_is); (case k => k_is)
    case e_Disk_drop => refine' Qh.methIn_mk ?a ?i ?l ?c ?k; (case a => k_is); (case i => k_is); (case l => k_is); (case c => k_is); (case k => k_is)
    case e_Disk_names => refine' Qh.methIn_mk ?a ?i ?l ?c ?k; (case a => k_is); (case i => k_is); (case l => k_is); (case c => k_is); (case k => k_is)
    case e_Disk_read => refine' Qh.methIn_mk ?a ?i ?l ?c ?k; (case a => k_is); (case i => k_is); (case l => k_is); (case c => k_is); (case k => k_is)
    case e_Disk_left => refine' Qh.methIn_mk ?a ?i ?l ?c ?k; (case a => k_is); (case i => k_is); (case l => k_is); (case c => k_is); (case k => k_is)
    case e_Disk_steps => refine' Qh.methIn_mk ?a ?i ?l ?c ?k; (case a => k_is); (case i => k_is); (case l => k_is); (case c => k_is); (case k => k_is)
    (case aL => k_is)
    (case lL => k_is)
    (case cL => k_is)
    (case kL => k_is)
    (case z_len => k_is)
    (case z_isinstance => k_is)
    (case z_all => k_is)
    (case z_sum => k_is)
    (case z_tuple => k_is)
    (case z_int => k_is)
    (case z_bool => k_is)
    (case z_str => k_is)
    (case z_range => k_is)
    (case z_enumerate => k_is)
    (case z_list => k_is)
    (case z_sorted => k_is)
    (case z_dict => k_is)
    (case v_HIGHEST_BYTE => k_is)
    (case v_LONGEST_NAME => k_is)
    (case v_MOST_STEPS => k_is)
    (case v_NAME_SIGNS => k_is)
    (case a_BadName => k_is)
    (case x_BadName => exact rfl)
    (case a_Missing => k_is)
    (case x_Missing => exact rfl)
    (case a_There => k_is)
    (case x_There => exact rfl)
    (case a_Stopped => k_is)
    (case x_Stopped => exact rfl)
    (case a_BadRow => k_is)
    (case x_BadRow => exact rfl)
    (case a_BadNumber => k_is)
    (case x_BadNumber => exact rfl)
    (case hx_0_0 => kts_exm)
    (case hx_0_1 => kts_exm)
    (case hx_0_2 => kts_exm)
    (case hx_0_3 => kts_exm)
    (case hx_0_4 => kts_exm)
    (case hx_0_5 => kts_exm)
    (case hx_1_0 => kts_exm)
    (case hx_1_1 => kts_exm)
    (case hx_1_2 => kts_exm)
    (case hx_1_3 => kts_exm)
    (case hx_1_4 => kts_exm)
    (case hx_1_5 => kts_exm)
    (case hx_2_0 => kts_exm)
    (case hx_2_1 => kts_exm)
    (case hx_2_2 => kts_exm)
    (case hx_2_3 => kts_exm)
    (case hx_2_4 => kts_exm)
    (case hx_2_5 => kts_exm)
    (case hx_3_0 => kts_exm)
    (case hx_3_1 => kts_exm)
    (case hx_3_2 => kts_exm)
    (case hx_3_3 => kts_exm)
    (case hx_3_4 => kts_exm)
    (case hx_3_5 => kts_exm)
    (case hx_4_0 => kts_exm)
    (case hx_4_1 => kts_exm)
    (case hx_4_2 => kts_exm)
    (case hx_4_3 => kts_exm)
    (case hx_4_4 => kts_exm)
    (case hx_4_5 => kts_exm)
    (case hx_5_0 => kts_exm)
    (case hx_5_1 => kts_exm)
    (case hx_5_2 => kts_exm)
    (case hx_5_3 => kts_exm)
    (case hx_5_4 => kts_exm)
    (case hx_5_5 => kts_exm)
end
