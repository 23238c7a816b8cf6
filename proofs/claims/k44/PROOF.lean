import PyProof.Rows.All
import Wide.All
import OpenK.AllK
import Wide.FinOn
import Lean
import PyProof.EqAt
import PyProof.EqKinds
import PyProof.TupleCall
import PySem.Challenge.RW_ownturn_k44_whole_weaving_walked
set_option Elab.async false
set_option linter.all false
set_option maxRecDepth 100000
/-! THE HAND LAYER, for ints, bools, texts, own classes, LISTS and tuples (index, slices, in, append, pop ..), calls, loops. Paste it whole ahead of your own text; what your proof does not reach may be deleted. -/
namespace L2
open PySem PySem.Spec PyProof.Rows

/-- a key: an int or a str -/
abbrev Key := Sum Int Str
def keyIs : Key → Value → Bool
  | .inl k, v => Value.isInt k v
  | .inr x, v => Value.isStrOf x v
def keyH (w : World) : Key → Int
  | .inl k => hashInt k
  | .inr x => hashStr w x
theorem keyIs_shape : ∀ {k : Key} {v : Value}, keyIs k v = true → (∃ i t, k = Sum.inl i ∧ v = Value.int i t) ∨ (∃ x t, k = Sum.inr x ∧ v = Value.str x t)
  | .inl i, v, h => by
    obtain ⟨t, e⟩ := Value.isInt_shape (k := i) (v := v) h
    exact .inl ⟨i, t, rfl, e⟩
  | .inr x, v, h => by
    obtain ⟨t, e⟩ := Value.isStrOf_shape (x := x) (v := v) h
    exact .inr ⟨x, t, rfl, e⟩
theorem keyIs_int (i : Int) (t : Tok) : keyIs (.inl i) (.int i t) = true := by simp [keyIs, Value.isInt]
theorem keyIs_str (x : Str) (t : Tok) : keyIs (.inr x) (.str x t) = true := by simp [keyIs, Value.isStrOf]
theorem key_ll (a b : Int) : decide ((Sum.inl a : Key) = Sum.inl b) = (a == b) := by
  by_cases e : a = b
  · subst e; simp
  · have h : ¬ (Sum.inl a : Key) = Sum.inl b := fun q => e (Sum.inl.inj q)
    rw [decide_eq_false h]
    exact (beq_eq_false_iff_ne.mpr e).symm
theorem key_rr (a b : Str) : decide ((Sum.inr a : Key) = Sum.inr b) = decide (a = b) := by
  by_cases e : a = b
  · subst e; simp
  · have h : ¬ (Sum.inr a : Key) = Sum.inr b := fun q => e (Sum.inr.inj q)
    rw [decide_eq_false h, decide_eq_false e]
theorem key_lr (a : Int) (b : Str) : decide ((Sum.inl a : Key) = Sum.inr b) = false := decide_eq_false (fun q => nomatch q)
theorem key_rl (a : Str) (b : Int) : decide ((Sum.inr a : Key) = Sum.inl b) = false := decide_eq_false (fun q => nomatch q)

def mixKind (prog : Program) (w : World) : PySem.KeyKind prog w Key where
  is := keyIs
  hash := keyH w
  inj := fun v a b ha hb => by
    rcases keyIs_shape ha with ⟨i, t, rfl, rfl⟩ | ⟨x, t, rfl, rfl⟩
    · rcases keyIs_shape hb with ⟨j, u, rfl, e⟩ | ⟨y, u, rfl, e⟩
      · injection e with e1 _; rw [e1]
      · exact nomatch e
    · rcases keyIs_shape hb with ⟨j, u, rfl, e⟩ | ⟨y, u, rfl, e⟩
      · exact nomatch e
      · injection e with e1 _; rw [e1]
  byValue := fun k v h => by
    rcases keyIs_shape h with ⟨i, t, rfl, rfl⟩ | ⟨x, t, rfl, rfl⟩ <;> rfl
  pyHash := fun hv h => by
    rcases keyIs_shape hv with ⟨i, t, rfl, rfl⟩ | ⟨x, t, rfl, rfl⟩
    · exact wpAny_pyHash_int h
    · exact wpAny_pyHash_str h
  eqBool := fun hu hv h => by
    rcases keyIs_shape hu with ⟨i, t, rfl, rfl⟩ | ⟨x, t, rfl, rfl⟩
    · rcases keyIs_shape hv with ⟨j, u, rfl, rfl⟩ | ⟨y, u, rfl, rfl⟩
      · rw [key_ll] at h; exact wpAny_eqBool_int h
      · rw [key_lr] at h; exact SeqAt.EqAt.int_str i t y u _ _ _ _ h
    · rcases keyIs_shape hv with ⟨j, u, rfl, rfl⟩ | ⟨y, u, rfl, rfl⟩
      · rw [key_rl] at h; exact SeqAt.EqAt.str_int x t j u _ _ _ _ h
      · rw [key_rr] at h; exact wpAny_eqBool_str h
  «strs» := fun k x t v h => by
    rcases keyIs_shape h with ⟨i, u, rfl, e⟩ | ⟨y, u, rfl, e⟩
    · exact nomatch e
    · injection e with e1 _
      subst e1
      cases v <;> rfl

theorem mixKind_int (prog : Program) (w : World) (i : Int) (t : Tok) : (mixKind prog w).is (.inl i) (.int i t) = true := keyIs_int i t
theorem mixKind_str (prog : Program) (w : World) (x : Str) (t : Tok) : (mixKind prog w).is (.inr x) (.str x t) = true := keyIs_str x t
end L2

namespace L2
open PySem PySem.Spec PyProof.Rows

/-- a value, without the heap -/
inductive V where
  | non | bl (b : Bool) | int (i : Int) | str (x : Str) | byt (b : Array UInt8) | flt (b : UInt64) | ref (a : Addr) | ty (n : String)
  deriving DecidableEq

def RelV : V → Value → Prop
  | .non, u => u = Value.none
  | .bl b, u => u = Value.bool b
  | .int i, u => ∃ t, u = Value.int i t
  | .str x, u => ∃ t, u = Value.str x t
  | .byt b, u => ∃ t, u = Value.bytes b t
  | .flt b, u => ∃ t, u = Value.float b t
  | .ref a, u => u = Value.ref a
  | .ty n, u => u = Value.type n

abbrev Vals : List V → List Value → Prop := Paired RelV
theorem Vals.length {xs : List V} {us : List Value} (r : Vals xs us) : xs.length = us.length := Paired.length r
theorem Vals.get : ∀ {xs : List V} {us : List Value} {i : Nat} {x : V}, Vals xs us → xs[i]? = some x → ∃ u, us[i]? = some u ∧ RelV x u
  | _, _, _, _, .nil, e => by simp at e
  | _, _, 0, _, .cons r _, e => by simp at e; subst e; exact ⟨_, rfl, r⟩
  | _, _, i + 1, x, .cons _ t, e => by
    obtain ⟨u, h1, h2⟩ := Vals.get (i := i) (x := x) t (by simpa using e)
    exact ⟨u, by simpa using h1, h2⟩
theorem Vals.set {x : V} {u : Value} (r : RelV x u) : ∀ {xs : List V} {us : List Value} (i : Nat), Vals xs us → Vals (xs.set i x) (us.set i u)
  | _, _, _, .nil => .nil
  | _, _, 0, .cons _ t => .cons r t
  | _, _, i + 1, .cons q t => .cons q (Vals.set r i t)
theorem Vals.append : ∀ {xs ys : List V} {us ws : List Value}, Vals xs us → Vals ys ws → Vals (xs ++ ys) (us ++ ws)
  | _, _, _, _, .nil, s => s
  | _, _, _, _, .cons r t, s => .cons r (Vals.append t s)
theorem Vals.take : ∀ {xs : List V} {us : List Value} (n : Nat), Vals xs us → Vals (xs.take n) (us.take n)
  | _, _, 0, _ => .nil
  | _, _, _ + 1, .nil => .nil
  | _, _, n + 1, .cons r t => .cons r (Vals.take n t)
theorem Vals.drop : ∀ {xs : List V} {us : List Value} (n : Nat), Vals xs us → Vals (xs.drop n) (us.drop n)
  | _, _, 0, r => r
  | _, _, _ + 1, .nil => .nil
  | _, _, n + 1, .cons _ t => Vals.drop n t
theorem Vals.none_of : ∀ {xs : List V} {us : List Value} {i : Nat}, Vals xs us → xs[i]? = none → us[i]? = none := fun {xs us i} r e => by
  have h1 := r.length
  have h2 : xs.length ≤ i := List.getElem?_eq_none_iff.mp e
  exact List.getElem?_eq_none_iff.mpr (by omega)

def RelO : Option V → Option Value → Prop
  | some v, some u => RelV v u
  | none, none => True
  | _, _ => False
def KV {κ : Type} : List (κ × V) → List (κ × Value) → Prop := Paired fun (p : κ × V) (q : κ × Value) => p.1 = q.1 ∧ RelV p.2 q.2

/-- a key of a dict (00_mix): an int or a text -/
def kV : Key → V
  | .inl i => .int i
  | .inr x => .str x

/-- what stands at a tracked address -/
inductive HO where
  /-- a list -/
  | lst (xs : List V)
  /-- a tuple (never changes) -/
  | tup (xs : List V)
  /-- a dict whose keys are ints and texts; one whose keys are tuples of ints and texts (the empty one is both) -/
  | dK (kvs : List (Key × V)) | dT (kvs : List (List Key × V))
  /-- a set of ints: its members, its size -/
  | set (S : Int → Bool) (n : Nat)
  /-- an instance of the class at C, its dict at dx, its attributes -/
  | ins (C dx : Addr) (fs : List (Str × V))
  /-- the dict of the instance at x -/
  | own (x : Addr)
  /-- the dict of an exception -/
  | xd (fs : List (Str × V))
  /-- a bound method, f of x -/
  | met (f x : Addr)
  /-- a range object lo, lo + 1, .. below hi -/
  | rng (lo hi : Int)
  /-- a thing that is known to the object (the script; a dict while a loop walks it): read, never written while it is so -/
  | frz (o : Obj) (u : HO)
  /-- a code object's table -/
  | tbl (ps : Array Value)
  /-- any other thing, by what is true of its one object (a def of one's own: SetO a S n := HO.ext fun h => ..) -/
  | ext (φ : Heap → Prop)

abbrev Hp := Addr → Option HO
def upd (H : Hp) (a : Addr) (o : HO) : Hp := fun b => if b = a then some o else H b
theorem upd_same {H : Hp} {a : Addr} {o : HO} : upd H a o a = some o := by unfold upd; rw [if_pos rfl]
theorem upd_ne {H : Hp} {a b : Addr} {o : HO} (h : b ≠ a) : upd H a o b = H b := by unfold upd; rw [if_neg h]
/-- two objects of different content stand apart -/
theorem ne_of {H : Hp} {a b : Addr} {o u : HO} (h : H a = some o) (h' : H b = some u) (d : o ≠ u) : a ≠ b := by
  intro e; subst e; rw [h] at h'; exact d (Option.some.inj h')
theorem ne_of_none {H : Hp} {a b : Addr} {o : HO} (h : H a = some o) (h' : H b = none) : a ≠ b := by
  intro e; subst e; rw [h] at h'; cases h'

section
variable (P : Program) (w : World)
def ObjOk (H : Hp) (h : Heap) (a : Addr) : HO → Prop
  | .lst xs => xs.length ≤ sizeLine ∧ ∃ (its : List Value) (n : Nat), Vals xs its ∧ h.get? a = some { cls := .type "list", data := .seq its.toArray n }
  | .tup xs => xs.length ≤ sizeLine ∧ ∃ its : List Value, Vals xs its ∧ IsTup h a its.toArray
  | .dK kvs => kvs.length ≤ sizeLine ∧ (a == sysModules) = false ∧ ∃ vs, KV kvs vs ∧ h.DictOf (mixKind P w) a vs
  | .dT kvs => kvs.length ≤ sizeLine ∧ (a == sysModules) = false ∧ ∃ xs : List (List Key × Addr × Value),
      Paired (fun (p : List Key × V) (q : List Key × Addr × Value) => p.1 = q.1 ∧ H q.2.1 = some (.tup (p.1.map kV)) ∧ RelV p.2 q.2.2) kvs xs ∧
      ∃ o es ep, h.get? a = some o ∧ o.ExactDict ∧ o.data = .dict es ep ∧ es.toList = xs.map (entryOfKey (tupleKind (mixKind P w))) ∧ (xs.map (·.1)).Nodup
  | .set S n => h.SetOf (intKind P w) a S n
  | .ins C dx fs => H dx = some (.own a) ∧ fs.length ≤ 1000 ∧ dx ≠ a ∧ h.get? a = some (PySem.W.instObj C dx) ∧
      ∃ mA, h.Ns1 dx mA ∧ (∀ f, RelO (fs.lookup f) (mA f)) ∧ PySem.Within mA (fs.map (·.1))
  | .own _ => ∃ o, h.get? a = some o
  | .xd fs => ∃ mA, h.Ns1 a mA ∧ ∀ f, RelO (fs.lookup f) (mA f)
  | .rng lo hi => ∃ t u v, h.get? a = some { cls := .type "range", data := .fields #[.int lo t, .int hi u, .int 1 v] }
  | .frz o u => h.get? a = some o ∧ ObjOk H h a u
  | .tbl ps => h.get? a = some { cls := .none, data := .fields ps }
  | .met f x => h.get? a = some (PySem.W.methodObj (.ref f) (.ref x))
  | .ext φ => φ h ∧ (∃ o, h.get? a = some o) ∧ ∀ h1 h2 : Heap, φ h1 → (∀ o, h1.get? a = some o → h2.get? a = some o) → φ h2
/-- the abstract heap is held -/
def HOk (H : Hp) (h : Heap) : Prop := ∀ a o, H a = some o → ObjOk P w H h a o
end

section
variable {P : Program} {w : World} {H H' : Hp} {h h' : Heap} {a : Addr} {o : HO}
theorem ObjOk.lt (x : ObjOk P w H h a o) : a < h.objs.size := by
  cases o with
  | lst xs => obtain ⟨_, _, _, _, e⟩ := x; exact Heap.lt_size e
  | tup xs => obtain ⟨_, _, _, p⟩ := x; exact p.lt
  | dK kvs => obtain ⟨_, _, _, _, o, _, _, e, _⟩ := x; exact Heap.lt_size e
  | dT kvs => obtain ⟨_, _, _, _, o, _, _, e, _⟩ := x; exact Heap.lt_size e
  | set S n => obtain ⟨o, _, _, _, e, _⟩ := x; exact Heap.lt_size e
  | ins C dx fs => obtain ⟨_, _, _, e, _⟩ := x; exact Heap.lt_size e
  | own y => obtain ⟨_, e⟩ := x; exact Heap.lt_size e
  | xd fs => obtain ⟨_, ⟨_, _, _, e, _⟩, _⟩ := x; exact Heap.lt_size e
  | rng lo hi => obtain ⟨_, _, _, e⟩ := x; exact Heap.lt_size e
  | frz ob u => obtain ⟨e, _⟩ := x; exact Heap.lt_size e
  | tbl ps => exact Heap.lt_size (show h.get? a = some _ from x)
  | met f y => exact Heap.lt_size (show h.get? a = some _ from x)
  | ext φ => obtain ⟨_, ⟨_, e⟩, _⟩ := x; exact Heap.lt_size e
theorem Paired.mapP {α β : Type} {F G : α → β → Prop} : ∀ {l₁ : List α} {l₂ : List β}, Paired F l₁ l₂ → (∀ a b, F a b → G a b) → Paired G l₁ l₂
  | _, _, .nil, _ => .nil
  | _, _, .cons r t, f => .cons (f _ _ r) (Paired.mapP t f)
/-- what an object's description leans on: its own object, its own dict, the tuples -/
theorem ObjOk.stay (x : ObjOk P w H h a o) (k : ∀ b u, (b = a ∨ H b = some (.own a)) → h.get? b = some u → h'.get? b = some u)
    (ho : ∀ b, H b = some (.own a) → H' b = some (.own a)) (ht : ∀ b xs, H b = some (.tup xs) → H' b = some (.tup xs)) : ObjOk P w H' h' a o := by
  induction o with
  | lst xs => obtain ⟨z, its, n, r, e⟩ := x; exact ⟨z, its, n, r, k _ _ (.inl rfl) e⟩
  | tup xs => obtain ⟨z, its, r, ob, e, c⟩ := x; exact ⟨z, its, r, ob, k _ _ (.inl rfl) e, c⟩
  | dK kvs => obtain ⟨z, y, vs, r, ob, es, ep, e, c⟩ := x; exact ⟨z, y, vs, r, ob, es, ep, k _ _ (.inl rfl) e, c⟩
  | dT kvs =>
    obtain ⟨z, y, xs, r, ob, es, ep, e, c⟩ := x
    exact ⟨z, y, xs, Paired.mapP r fun p q z => ⟨z.1, ht _ _ z.2.1, z.2.2⟩, ob, es, ep, k _ _ (.inl rfl) e, c⟩
  | set S n => obtain ⟨ob, es, ep, t, e, c⟩ := x; exact ⟨ob, es, ep, t, k _ _ (.inl rfl) e, c⟩
  | ins C dx fs =>
    obtain ⟨d, z, ne, e, mA, ⟨od, es, ep, e2, c⟩, r⟩ := x
    exact ⟨ho _ d, z, ne, k _ _ (.inl rfl) e, mA, ⟨od, es, ep, k _ _ (.inr d) e2, c⟩, r⟩
  | own y => obtain ⟨ob, e⟩ := x; exact ⟨ob, k _ _ (.inl rfl) e⟩
  | xd fs => obtain ⟨mA, ⟨od, es, ep, e, c⟩, r⟩ := x; exact ⟨mA, ⟨od, es, ep, k _ _ (.inl rfl) e, c⟩, r⟩
  | rng lo hi => obtain ⟨t, u, v, e⟩ := x; exact ⟨t, u, v, k _ _ (.inl rfl) e⟩
  | frz ob u ih => obtain ⟨e, q⟩ := x; exact ⟨k _ _ (.inl rfl) e, ih q⟩
  | tbl ps =>
    have e : h.get? a = some { cls := .none, data := .fields ps } := x
    show h'.get? a = some { cls := .none, data := .fields ps }
    exact k a _ (.inl rfl) e
  | met f y =>
    have e : h.get? a = some (PySem.W.methodObj (.ref f) (.ref y)) := x
    show h'.get? a = some (PySem.W.methodObj (.ref f) (.ref y))
    exact k a _ (.inl rfl) e
  | ext φ => obtain ⟨p, ⟨o, e⟩, st⟩ := x; exact ⟨st _ _ p fun o q => k _ _ (.inl rfl) q, ⟨o, k _ _ (.inl rfl) e⟩, st⟩
theorem HOk.lt (x : HOk P w H h) (e : H a = some o) : a < h.objs.size := (x a o e).lt
theorem HOk.fresh (x : HOk P w H h) (e : h.objs.size ≤ a) : H a = none := by
  cases q : H a with
  | none => rfl
  | some u => exact absurd (Nat.lt_of_lt_of_le (x.lt q) e) (Nat.lt_irrefl _)
/-- every object of the heap is kept -/
theorem HOk.kept (x : HOk P w H h) (k : ∀ b u, h.get? b = some u → h'.get? b = some u) : HOk P w H h' := fun a o e =>
  (x a o e).stay (fun b u _ q => k b u q) (fun _ q => q) fun _ _ q => q
/-- a new object is laid and tracked -/
theorem HOk.laid (x : HOk P w H h) (k : ∀ b u, h.get? b = some u → h'.get? b = some u) (hp : h.objs.size ≤ a) (new : ObjOk P w (upd H a o) h' a o) : HOk P w (upd H a o) h' := fun b u e => by
  have hn := x.fresh hp
  by_cases hb : b = a
  · subst hb; rw [upd_same] at e; cases e; exact new
  · rw [upd_ne hb] at e
    exact (x b u e).stay (fun c v _ q => k c v q) (fun c q => by rw [upd_ne (ne_of_none q hn)]; exact q) fun c xs q => by rw [upd_ne (ne_of_none q hn)]; exact q
end

/-- what may be read as u: it is u, or a known u -/
def Rd (H : Hp) (a : Addr) (u : HO) : Prop := H a = some u ∨ ∃ o, H a = some (.frz o u)
theorem Rd.of {H : Hp} {a : Addr} {u : HO} (h : H a = some u) : Rd H a u := .inl h
theorem Rd.ok {P : Program} {w : World} {H : Hp} {h : Heap} {a : Addr} {u : HO} (r : Rd H a u) (x : HOk P w H h) : ObjOk P w H h a u := by
  rcases r with r | ⟨o, r⟩
  · exact x a u r
  · obtain ⟨_, q⟩ := x a _ r
    exact q
/-- what may be written -/
def Mut : Option HO → Prop
  | some (.lst _) => True
  | some (.dK _) => True
  | some (.dT _) => True
  | some (.set _ _) => True
  | some (.ins _ _ _) => True
  | some (.ext _) => True
  | _ => False
section
variable {P : Program} {w : World} {H : Hp} {h h' : Heap} {x e : Addr} {o' : HO}
/-- the object at e is changed: x itself, or the dict of the instance x -/
theorem HOk.write (ok : HOk P w H h) (mu : Mut (H x)) (he : e = x ∨ H e = some (.own x)) (k : ∀ b u, b ≠ e → h.get? b = some u → h'.get? b = some u) (heo : ∃ u, h'.get? e = some u)
    (new : ObjOk P w (upd H x o') h' x o') : HOk P w (upd H x o') h' := fun b u q => by
  have nown : ∀ c y, H c = some (.own y) → c ≠ x := fun c y r z => by subst z; rw [r] at mu; exact mu
  have ntup : ∀ c xs, H c = some (.tup xs) → c ≠ x := fun c xs r z => by subst z; rw [r] at mu; exact mu
  by_cases hb : b = x
  · subst hb; rw [upd_same] at q; cases q; exact new
  · rw [upd_ne hb] at q
    by_cases hbe : b = e
    · have q' : H b = some (.own x) := by
        rcases he with z | z
        · exact absurd (hbe.trans z) hb
        · rw [hbe]; exact z
      rw [q] at q'; cases q'
      obtain ⟨v, hv⟩ := heo
      exact ⟨v, by rw [hbe]; exact hv⟩
    · refine (ok b u q).stay (fun c v hc r => k c v ?_ r) (fun c r => by rw [upd_ne (nown c b r)]; exact r) fun c xs r => by rw [upd_ne (ntup c xs r)]; exact r
      rcases hc with rfl | hc
      · exact hbe
      · rintro rfl
        rcases he with z | z
        · exact nown c b hc z
        · rw [hc] at z; cases z; exact hb rfl
end

/-! ### kept unless tracked; of the frames at fs (the callers') the slots may change (an exception that passes writes there); of the records at ex (iterators) nothing is said -/
structure Un (fs ex : List Addr) (H H' : Hp) (h h' : Heap) : Prop where
  keep : ∀ b o, h.get? b = some o → H b = none → b ∉ fs → b ∉ ex → h'.get? b = some o
  slot : ∀ b o, h.get? b = some o → H b = none → b ∈ fs → b ∉ ex → ∃ sl, h'.get? b = some { o with slots := sl }
  free : ∀ b o, h.get? b = some o → H b = none → b ∉ ex → H' b = none
  there : ∀ b o, h.get? b = some o → b ∉ ex → ∃ o', h'.get? b = some o'
  tups : ∀ b xs, H b = some (.tup xs) → H' b = some (.tup xs)
  frzs : ∀ b o u, H b = some (.frz o u) → H' b = some (.frz o u)
  tbls : ∀ b ps, H b = some (.tbl ps) → ∃ more, H' b = some (.tbl (ps ++ more))
section
variable {fs fs' ex ex' : List Addr} {H H1 H2 : Hp} {h h1 h2 h' : Heap} {a x e : Addr} {o : HO}
theorem Un.any (u : Un fs ex H H1 h h1) {b : Addr} {ob : Obj} (q : h.get? b = some ob) (n : H b = none) (hx : b ∉ ex) : ∃ sl, h1.get? b = some { ob with slots := sl } := by
  by_cases hb : b ∈ fs
  · exact u.slot b ob q n hb hx
  · exact ⟨ob.slots, u.keep b ob q n hb hx⟩
theorem Un.trans (a : Un fs ex H H1 h h1) (b : Un fs ex H1 H2 h1 h2) : Un fs ex H H2 h h2 where
  keep := fun c ob q n hc hx => b.keep c ob (a.keep c ob q n hc hx) (a.free c ob q n hx) hc hx
  slot := fun c ob q n hc hx => by
    obtain ⟨sl, e1⟩ := a.slot c ob q n hc hx
    obtain ⟨sl', e2⟩ := b.slot c _ e1 (a.free c ob q n hx) hc hx
    exact ⟨sl', e2⟩
  free := fun c ob q n hx => by
    obtain ⟨o', e1⟩ := a.there c ob q hx
    exact b.free c o' e1 (a.free c ob q n hx) hx
  there := fun c ob q hx => by
    obtain ⟨o', e1⟩ := a.there c ob q hx
    exact b.there c o' e1 hx
  tups := fun c xs q => b.tups c xs (a.tups c xs q)
  frzs := fun c ob xs q => b.frzs c ob xs (a.frzs c ob xs q)
  tbls := fun c ps q => by
    obtain ⟨m1, e1⟩ := a.tbls c ps q
    obtain ⟨m2, e2⟩ := b.tbls c _ e1
    exact ⟨m1 ++ m2, by rw [e2, Array.append_assoc]⟩
theorem Un.kept (k : ∀ b u, h.get? b = some u → h'.get? b = some u) : Un fs ex H H h h' :=
  ⟨fun b ob q _ _ _ => k b ob q, fun b ob q _ _ _ => ⟨ob.slots, k b ob q⟩, fun _ _ _ n _ => n, fun b ob q _ => ⟨ob, k b ob q⟩, fun _ _ q => q, fun _ _ _ q => q, fun _ ps q => ⟨#[], by rw [q]; simp⟩⟩
theorem Un.refl : Un fs ex H H h h := Un.kept fun _ _ q => q
theorem Un.laid (k : ∀ b u, h.get? b = some u → h'.get? b = some u) (hp : h.objs.size ≤ a) (hn : H a = none) : Un fs ex H (upd H a o) h h' where
  keep := fun b u q _ _ _ => k b u q
  slot := fun b u q _ _ _ => ⟨u.slots, k b u q⟩
  free := fun b u q n _ => by rw [upd_ne (Nat.ne_of_lt (Nat.lt_of_lt_of_le (Heap.lt_size q) hp))]; exact n
  there := fun b u q _ => ⟨u, k b u q⟩
  tups := fun b xs q => by rw [upd_ne (ne_of_none q hn)]; exact q
  frzs := fun b u xs q => by rw [upd_ne (ne_of_none q hn)]; exact q
  tbls := fun b ps q => ⟨#[], by rw [upd_ne (ne_of_none q hn), q]; simp⟩
theorem Un.write (mu : Mut (H x)) (he : e = x ∨ H e = some (.own x)) (k : ∀ b u, b ≠ e → h.get? b = some u → h'.get? b = some u) (heo : ∃ u, h'.get? e = some u) : Un fs ex H (upd H x o) h h' := by
  have hx : ∀ b, H b = none → b ≠ x := fun b n z => by subst z; rw [n] at mu; exact mu
  have hb : ∀ b, H b = none → b ≠ e := fun b n z => by
    subst z
    rcases he with r | r
    · exact hx b n r
    · rw [n] at r; cases r
  have hm : ∀ b u, H b = some u → ¬ Mut (some u) → b ≠ x := fun b u q nm z => by subst z; rw [q] at mu; exact nm mu
  refine ⟨fun b u q n _ _ => k b u (hb b n) q, fun b u q n _ _ => ⟨u.slots, k b u (hb b n) q⟩, fun b u q n _ => by rw [upd_ne (hx b n)]; exact n, fun b u q _ => ?_,
    fun b xs q => by rw [upd_ne (hm b _ q fun z => z)]; exact q, fun b u xs q => by rw [upd_ne (hm b _ q fun z => z)]; exact q, fun b ps q => ⟨#[], by rw [upd_ne (hm b _ q fun z => z), q]; simp⟩⟩
  by_cases hbe : b = e
  · subst hbe; exact heo
  · exact ⟨u, k b u hbe q⟩
theorem Un.mono (u : Un fs ex H H1 h h1) (hs : ∀ b ∈ fs, b ∈ fs') (hx : ∀ b ∈ ex, b ∈ ex') : Un fs' ex' H H1 h h1 :=
  ⟨fun b ob q n hb he => u.keep b ob q n (fun z => hb (hs b z)) fun z => he (hx b z), fun _ _ q n _ he => u.any q n fun z => he (hx _ z), fun b ob q n he => u.free b ob q n fun z => he (hx b z), fun b ob q he => u.there b ob q fun z => he (hx b z), u.tups, u.frzs, u.tbls⟩
end

/-! ### the heap without what is tracked -/
def trk (h : Heap) (H : Hp) : List Addr := (List.range h.objs.size).filter fun a => (H a).isSome
def hidT (h : Heap) (H : Hp) : Heap := PySem.W.hideAll h (trk h H)
theorem hidT_size (h : Heap) (H : Hp) : (hidT h H).objs.size = h.objs.size := PySem.W.hideAll_size _ _
theorem hidT_get {h : Heap} {H : Hp} {b : Addr} {o : Obj} (e : h.get? b = some o) (n : H b = none) : (hidT h H).get? b = some o :=
  PySem.W.hideAll_get _ e fun hm => by
    have q : (H b).isSome = true := (List.mem_filter.mp hm).2
    rw [n] at q; simp at q
theorem of_hidT {h : Heap} {H : Hp} {b : Addr} {o : Obj} (e : (hidT h H).get? b = some o) : h.get? b = some o ∧ H b = none := by
  have e' : h.get? b = some o := PySem.W.of_hideAll (trk h H) e
  refine ⟨e', ?_⟩
  cases q : H b with
  | none => rfl
  | some x =>
    have hm : b ∈ trk h H := List.mem_filter.mpr ⟨List.mem_range.mpr (Heap.lt_size e'), by simp [q]⟩
    have z : (hidT h H).get? b = none := PySem.W.hideAll_none (trk h H) hm
    rw [z] at e; cases e

/-! ### OpenK's ledger, filled with every new object but one -/
def allNews (g h : Heap) (L : Addr) : List (Addr × Obj) := (List.range h.objs.size).filterMap fun a => if a = L ∨ (g.get? a).isSome = true then none else (h.get? a).map fun o => (a, o)
def rest (g h : Heap) (L d : Addr) : List (Addr × Obj) := (allNews g h L).filter fun p => decide (p.1 ≠ d)
end L2

namespace L2
open PySem PySem.Spec PyProof.Rows

/-- the module's facts, over the base: the heap at the law's entry without what is tracked there -/
structure Mod (K : PySem.W.Frag) (mg : Str → Option Value) (base : Heap) : Prop where
  kin : K.In base
  glob : base.Ns mainGlobals mg
  blt : ∃ mb, base.Ns builtinsNs mb ∧ ∀ x : Str, x ≠ "__name__" → mb x = bootBuiltins x
  nolimit : base.NoLimit

/-- the context: a def's body (or a comprehension's block) running. base: fixed through the whole law; s₀, H₀: the entry; outer: the frames whose slots others may change (a def's callers); stack: all frames that run;
   ex: iterators that were made ahead of the entry and are walked here (a comprehension's); fn: the names whose cells were made at the entry (a def: all; a comprehension's block: its own); calm: not within an except suite; pn: pins that every state bears; xe: what is wanted of an exception that leaves the code -/
structure Cx where
  prog : Program
  w : World
  K : PySem.W.Frag
  mg : Str → Option Value
  base : Heap
  A : Around
  N : List Str
  s₀ : Shared
  H₀ : Hp
  env : Env
  outer : List Env
  stack : List Env
  ex : List Addr
  fn : Str → Bool
  calm : Bool
  pn : List (Addr × Obj)
  xe : Value → Shared → Prop
/-- the callers' frames -/
def frs (l : List Env) : List Addr := l.filterMap (·.frame)
abbrev Cx.fs (X : Cx) : List Addr := frs X.outer

def Vis (sc : Scope) (x : Str) : Prop := sc.names.lookup x = some .local ∨ sc.names.lookup x = some .cell ∨ sc.names.lookup x = some .free
def Loc (sc : Scope) (x : Str) : Prop := sc.names.lookup x = some .local ∨ sc.names.lookup x = some .cell
def Look (env : Env) (h : Heap) (m : Str → Option Value) (x : Str) (u : Value) : Prop :=
  (env.kindOf x = some .local ∧ m x = some u) ∨ ((env.kindOf x = some .cell ∨ env.kindOf x = some .free) ∧ ∃ c, env.cells.lookup x = some c ∧ h.IsCell c (some u))

structure Cx.Ok (X : Cx) : Prop where
  mod : Mod X.K X.mg X.base
  kind : X.env.scope.kind = .function
  glob : X.env.globals = mainGlobals
  blt : X.env.builtins = builtinsNs
  above : X.s₀.heap.objs.size ≤ X.env.locals
  inj : ∀ x y c, X.env.cells.lookup x = some c → X.env.cells.lookup y = some c → x = y
  has : ∀ x, (X.env.kindOf x = some .cell ∨ X.env.kindOf x = some .free) → ∃ c, X.env.cells.lookup x = some c
  cab : ∀ x c, X.fn x = true → X.env.cells.lookup x = some c → X.s₀.heap.objs.size ≤ c
  hd : X.calm = true → X.A.handled = none
  frames : X.A.frames = some X.stack
  stk : X.stack = X.outer ∨ (X.stack = X.env :: X.outer ∧ X.env.frame = some X.env.locals)
  exf : ∀ b ∈ X.ex, b ≠ X.env.locals ∧ ∀ x c, X.env.cells.lookup x = some c → c ≠ b
  bs : ∀ b o, X.base.get? b = some o → X.s₀.heap.get? b = some o ∧ X.H₀ b = none
  bsz : X.base.objs.size ≤ X.s₀.heap.objs.size
  noex : ∀ b o, X.base.get? b = some o → b ∉ X.ex
  exfs : ∀ b ∈ X.ex, b ∉ X.fs
  funs : X.s₀.heap.FunFrames X.base X.outer
  frf : ∀ b ∈ X.fs, X.H₀ b = none

structure Inv (X : Cx) (pins : List (Addr × Obj)) (σ : List (Option V)) (H : Hp) (s : Shared) : Prop where
  ok : X.Ok
  os : s.os = X.s₀.os
  bare : AllBare s.gens
  base : Un X.fs X.ex X.H₀ H X.s₀.heap s.heap
  loc : ∃ m, s.heap.Ns X.env.locals m ∧ ∀ (i : Nat) (x : Str) (v : V), X.N[i]? = some x → σ[i]? = some (some v) → Vis X.env.scope x → ∃ u, RelV v u ∧ Look X.env s.heap m x u
  cell : ∀ x c, X.env.cells.lookup x = some c → ∃ v, s.heap.IsCell c v
  free : H X.env.locals = none
  freeC : ∀ x c, X.env.cells.lookup x = some c → H c = none
  pin : ∀ p ∈ X.pn ++ pins, s.heap.get? p.1 = some p.2 ∧ H p.1 = none ∧ p.1 ≠ X.env.locals ∧ p.1 ∉ X.fs ∧ ∀ v, p.2.data ≠ .cell v
  hok : HOk X.prog X.w H s.heap
  len : σ.length = X.N.length

section
variable {X : Cx} {pins : List (Addr × Obj)} {σ : List (Option V)} {H H' : Hp} {s : Shared} {h' : Heap}

theorem Cx.Ok.nofr (ok : X.Ok) {b : Addr} {o : Obj} (e : X.base.get? b = some o) : b ∉ X.fs := fun hb => by
  have := (ok.funs.mem hb).1
  rw [e] at this; cases this
theorem Inv.bs (I : Inv X pins σ H s) : ∀ b o, X.base.get? b = some o → s.heap.get? b = some o ∧ H b = none := fun b o e =>
  ⟨I.base.keep b o (I.ok.bs b o e).1 (I.ok.bs b o e).2 (I.ok.nofr e) (I.ok.noex b o e), I.base.free b o (I.ok.bs b o e).1 (I.ok.bs b o e).2 (I.ok.noex b o e)⟩
theorem Inv.bk (I : Inv X pins σ H s) : ∀ b o, X.base.get? b = some o → s.heap.get? b = some o := fun b o e => (I.bs b o e).1
theorem Inv.mod (I : Inv X pins σ H s) : Mod X.K X.mg X.base := I.ok.mod
theorem Inv.kIn (I : Inv X pins σ H s) : X.K.In s.heap := I.ok.mod.kin.keeps I.bk
theorem Inv.nolimit (I : Inv X pins σ H s) : s.heap.NoLimit := I.ok.mod.nolimit.keeps I.bk
/-- the frame over the base: for OpenK's rules (K.In X.base is I.mod.kin) -/
theorem Inv.fr (I : Inv X pins σ H s) : ∃ m, Fr X.base X.env.locals s.heap m :=
  let ⟨m, hn, _⟩ := I.loc
  ⟨m, hn, I.bk, Nat.le_trans I.ok.bsz I.ok.above⟩
theorem Inv.lt (I : Inv X pins σ H s) : X.env.locals < s.heap.objs.size := let ⟨_, hn, _⟩ := I.loc; hn.lt
theorem Inv.sz (I : Inv X pins σ H s) : X.s₀.heap.objs.size ≤ s.heap.objs.size := Nat.le_trans I.ok.above (Nat.le_of_lt I.lt)
theorem Inv.nofs (I : Inv X pins σ H s) {a : Addr} (h : s.heap.objs.size ≤ a) : a ∉ X.fs := fun hb => by
  obtain ⟨_, o, ho, _⟩ := I.ok.funs.mem hb
  exact absurd (Nat.lt_of_lt_of_le (Heap.lt_size ho) (Nat.le_trans I.sz h)) (Nat.lt_irrefl _)
theorem Inv.cne (I : Inv X pins σ H s) : ∀ x c, X.env.cells.lookup x = some c → c ≠ X.env.locals := fun x c e z => by
  obtain ⟨v, o, ho, hd⟩ := I.cell x c e
  obtain ⟨m, ⟨o', es, ep, ho', hd', _⟩, _⟩ := I.loc
  rw [z, ho'] at ho; cases ho; rw [hd'] at hd; cases hd
theorem Inv.funs (I : Inv X pins σ H s) : s.heap.FunFrames X.base X.outer := by
  have all : ∀ (l : List Env), (∀ b ∈ frs l, b ∈ X.fs) → X.s₀.heap.FunFrames X.base l → s.heap.FunFrames X.base l := by
    intro l
    induction l with
    | nil => intro _ _; trivial
    | cons env r ih =>
      intro hs hl
      obtain ⟨hk, ⟨L, o, hf, hn, ho, hd⟩, hr⟩ := hl
      have hL : L ∈ X.fs := hs L (by unfold frs; rw [List.filterMap_cons, hf]; exact List.mem_cons_self)
      obtain ⟨sl, e⟩ := I.base.slot L o ho (I.ok.frf L hL) hL fun z => I.ok.exfs L z hL
      exact ⟨hk, ⟨L, _, hf, hn, e, hd⟩, ih (fun b hb => hs b (by unfold frs; rw [List.filterMap_cons, hf]; exact List.mem_cons_of_mem _ hb)) hr⟩
  exact all X.outer (fun _ hb => hb) I.ok.funs

/-- the frames that run, for a call -/
theorem Inv.stack (I : Inv X pins σ H s) : s.heap.FunFrames X.base X.stack := by
  rcases I.ok.stk with e | ⟨e, hf⟩
  · rw [e]; exact I.funs
  · rw [e]
    obtain ⟨m, hn, _⟩ := I.loc
    refine .cons (by rw [I.ok.kind]; decide) hf hn ?_ I.funs
    exact Heap.get?_none_of_le (Nat.le_trans I.ok.bsz I.ok.above)
theorem Inv.stkSub (I : Inv X pins σ H s) : ∀ b ∈ frs X.stack, b ∈ X.env.locals :: X.fs := fun b hb => by
  rcases I.ok.stk with e | ⟨e, hf⟩
  · rw [e] at hb; exact List.mem_cons_of_mem _ hb
  · rw [e] at hb
    unfold frs at hb
    rw [List.filterMap_cons, hf] at hb
    exact hb
theorem Inv.stkFree (I : Inv X pins σ H s) : ∀ b ∈ frs X.stack, H b = none := fun b hb => by
  rcases List.mem_cons.mp (I.stkSub b hb) with e | hb
  · rw [e]; exact I.free
  · obtain ⟨_, o, ho, _⟩ := I.ok.funs.mem hb
    exact I.base.free b o ho (I.ok.frf b hb) fun z => I.ok.exfs b z hb

/-- THE STEP: the untracked objects but the frame and the records at ch are kept (the callers' frames up to slots), the frame's map is kept, the new abstract heap is held -/
theorem Inv.step {g' : Array GenState} {t' : Nat} {d' : Drawn} {ch : List Addr} (I : Inv X pins σ H s)
    (hch : ∀ b ∈ ch, (b ∈ X.ex ∨ X.s₀.heap.objs.size ≤ b) ∧ b ≠ X.env.locals ∧ (∀ x c, X.env.cells.lookup x = some c → c ≠ b) ∧ ∀ p ∈ X.pn ++ pins, p.1 ≠ b)
    (keep : ∀ b o, b ≠ X.env.locals → b ∉ X.fs → b ∉ ch → s.heap.get? b = some o → H b = none → h'.get? b = some o)
    (slot : ∀ b o, b ≠ X.env.locals → b ∈ X.fs → b ∉ ch → s.heap.get? b = some o → H b = none → ∃ sl, h'.get? b = some { o with slots := sl }) (free : ∀ b o, b ∉ ch → s.heap.get? b = some o → H b = none → H' b = none)
    (there : ∀ b o, b ∉ ch → s.heap.get? b = some o → ∃ o', h'.get? b = some o')
    (tups : ∀ b xs, H b = some (.tup xs) → H' b = some (.tup xs)) (frzs : ∀ b o u, H b = some (.frz o u) → H' b = some (.frz o u)) (tbls : ∀ b ps, H b = some (.tbl ps) → ∃ more, H' b = some (.tbl (ps ++ more)))
    (ns : ∀ m, s.heap.Ns X.env.locals m → h'.Ns X.env.locals m) (hok : HOk X.prog X.w H' h') (hg : AllBare g') :
    Inv X pins σ H' { s with heap := h', gens := g', drawn := d', toks := t' } := by
  have neL : ∀ b o, X.s₀.heap.get? b = some o → b ≠ X.env.locals := fun b o e => Nat.ne_of_lt (Nat.lt_of_lt_of_le (Heap.lt_size e) I.ok.above)
  have neC : ∀ b o, X.s₀.heap.get? b = some o → b ∉ X.ex → b ∉ ch := fun b o e hx hb => by
    rcases (hch b hb).1 with z | z
    · exact hx z
    · exact absurd (Nat.lt_of_lt_of_le (Heap.lt_size e) z) (Nat.lt_irrefl _)
  have cellK : ∀ x c, X.env.cells.lookup x = some c → ∀ v, s.heap.IsCell c v → h'.IsCell c v := fun x c e v ⟨o, ho, hd⟩ => by
    have nch : c ∉ ch := fun z => (hch c z).2.2.1 x c e rfl
    by_cases hc : c ∈ X.fs
    · obtain ⟨sl, q⟩ := slot c o (I.cne x c e) hc nch ho (I.freeC x c e)
      exact ⟨_, q, hd⟩
    · exact ⟨o, keep c o (I.cne x c e) hc nch ho (I.freeC x c e), hd⟩
  refine ⟨I.ok, I.os, hg, ⟨fun b o e n hb hx => ?_, fun b o e n hb hx => ?_, fun b o e n hx => ?_, fun b o e hx => ?_, fun b xs e => tups b xs (I.base.tups b xs e), fun b o xs e => frzs b o xs (I.base.frzs b o xs e), fun b ps e => ?_⟩, ?_, fun x c e => ?_, ?_, fun x c e => ?_, fun p hp => ?_, hok, I.len⟩
  · exact keep b o (neL b o e) hb (neC b o e hx) (I.base.keep b o e n hb hx) (I.base.free b o e n hx)
  · obtain ⟨sl, e1⟩ := I.base.slot b o e n hb hx
    obtain ⟨sl', e2⟩ := slot b _ (neL b o e) hb (neC b o e hx) e1 (I.base.free b o e n hx)
    exact ⟨sl', e2⟩
  · obtain ⟨o', e1⟩ := I.base.there b o e hx
    exact free b o' (neC b o e hx) e1 (I.base.free b o e n hx)
  · obtain ⟨o', e1⟩ := I.base.there b o e hx
    exact there b o' (neC b o e hx) e1
  · obtain ⟨m1, e1⟩ := I.base.tbls b ps e
    obtain ⟨m2, e2⟩ := tbls b _ e1
    exact ⟨m1 ++ m2, by rw [e2, Array.append_assoc]⟩
  · obtain ⟨m, hn, hl⟩ := I.loc
    refine ⟨m, ns m hn, fun i x v e1 e2 e3 => ?_⟩
    obtain ⟨u, r, l⟩ := hl i x v e1 e2 e3
    refine ⟨u, r, ?_⟩
    rcases l with l | ⟨k, c, e, z⟩
    · exact .inl l
    · exact .inr ⟨k, c, e, cellK x c e _ z⟩
  · obtain ⟨v, z⟩ := I.cell x c e
    exact ⟨v, cellK x c e v z⟩
  · obtain ⟨m, ⟨o, _, _, ho, _⟩, _⟩ := I.loc
    exact free _ o (fun z => (hch _ z).2.1 rfl) ho I.free
  · obtain ⟨v, o, ho, hd⟩ := I.cell x c e
    exact free c o (fun z => (hch c z).2.2.1 x c e rfl) ho (I.freeC x c e)
  · obtain ⟨e, n, ne, nf, d⟩ := I.pin p hp
    have nch : p.1 ∉ ch := fun z => (hch p.1 z).2.2.2 p hp rfl
    exact ⟨keep p.1 p.2 ne nf nch e n, free p.1 p.2 nch e n, ne, nf, d⟩
/-- .. where the frame's own object is kept too -/
theorem Inv.un {t' : Nat} (I : Inv X pins σ H s) (u : Un X.fs [] H H' s.heap h') (hok : HOk X.prog X.w H' h') : Inv X pins σ H' { s with heap := h', toks := t' } := by
  obtain ⟨m, ⟨o, es, ep, ho, r⟩, _⟩ := id I.loc
  obtain ⟨sl, hL⟩ := u.any ho I.free (by simp)
  exact I.step (g' := s.gens) (d' := s.drawn) (ch := []) (fun _ z => nomatch z) (fun b o _ hb _ e n => u.keep b o e n hb (by simp)) (fun b o _ hb _ e n => u.slot b o e n hb (by simp)) (fun b o _ e n => u.free b o e n (by simp)) (fun b o _ e => u.there b o e (by simp)) u.tups u.frzs u.tbls (fun m' hm => by
    obtain ⟨o', es', ep', ho', r'⟩ := hm
    rw [ho] at ho'; cases ho'
    exact ⟨_, es', ep', hL, r'⟩) hok I.bare
/-- behind a call (or a comprehension's block): the slots of this frame may have changed too, the records at ch may have turned -/
theorem Inv.call {g' : Array GenState} {t' : Nat} {d' : Drawn} {ch : List Addr} (I : Inv X pins σ H s) (u : Un (frs X.stack) ch H H' s.heap h') (hok : HOk X.prog X.w H' h') (hg : AllBare g')
    (hch : ∀ b ∈ ch, (b ∈ X.ex ∨ X.s₀.heap.objs.size ≤ b) ∧ b ≠ X.env.locals ∧ (∀ x c, X.env.cells.lookup x = some c → c ≠ b) ∧ ∀ p ∈ X.pn ++ pins, p.1 ≠ b) :
    Inv X pins σ H' { s with heap := h', gens := g', drawn := d', toks := t' } := by
  obtain ⟨m, ⟨o, es, ep, ho, r⟩, _⟩ := id I.loc
  obtain ⟨sl, hL⟩ := u.any ho I.free fun z => (hch _ z).2.1 rfl
  exact I.step (ch := ch) hch (fun b o hL hb hc e n => u.keep b o e n (fun z => (List.mem_cons.mp (I.stkSub b z)).elim hL hb) hc) (fun b o _ _ hc e n => u.any e n hc) (fun b o hc e n => u.free b o e n hc) (fun b o hc e => u.there b o e hc) u.tups u.frzs u.tbls (fun m' hm => by
    obtain ⟨o', es', ep', ho', r'⟩ := hm
    rw [ho] at ho'; cases ho'
    exact ⟨_, es', ep', hL, r'⟩) hok hg
/-- an untracked record of ours (an iterator) has turned -/
theorem Inv.turned {t' : Nat} {it : Addr} (I : Inv X pins σ H s) (k : ∀ b o, b ≠ it → s.heap.get? b = some o → h'.get? b = some o) (hn : H it = none) (hL : it ≠ X.env.locals)
    (h1 : it ∈ X.ex ∨ X.s₀.heap.objs.size ≤ it) (h2 : ∀ x c, X.env.cells.lookup x = some c → c ≠ it) (h3 : ∀ p ∈ X.pn ++ pins, p.1 ≠ it) : Inv X pins σ H { s with heap := h', toks := t' } := by
  have nit : ∀ b u, H b = some u → b ≠ it := fun b u e z => by rw [z, hn] at e; cases e
  refine I.step (g' := s.gens) (d' := s.drawn) (ch := [it]) (fun b hb => ?_) (fun b o _ _ hc e _ => k b o (fun z => hc (by simp [z])) e) (fun b o _ _ hc e _ => ⟨o.slots, k b o (fun z => hc (by simp [z])) e⟩) (fun _ _ _ _ n => n)
    (fun b o hc e => ⟨o, k b o (fun z => hc (by simp [z])) e⟩) (fun _ _ e => e) (fun _ _ _ e => e) (fun b ps e => ⟨#[], by rw [e]; simp⟩) (fun m hm => ?_) (fun b u e => ?_) I.bare
  · have e : b = it := by simpa using hb
    subst e
    exact ⟨h1, hL, h2, h3⟩
  · obtain ⟨o, es, ep, ho, r⟩ := hm
    exact ⟨o, es, ep, k _ o (Ne.symm hL) ho, r⟩
  · refine (I.hok b u e).stay (fun c v hc q => k c v ?_ q) (fun _ q => q) fun _ _ q => q
    rcases hc with z | z
    · rw [z]; exact nit b u e
    · exact nit c _ z
theorem Inv.tok (I : Inv X pins σ H s) (t : Nat) : Inv X pins σ H { s with toks := t } := I.un (h' := s.heap) (t' := t) Un.refl I.hok
/-- all objects kept -/
theorem Inv.kept {t' : Nat} (I : Inv X pins σ H s) (k : ∀ b u, s.heap.get? b = some u → h'.get? b = some u) : Inv X pins σ H { s with heap := h', toks := t' } := I.un (Un.kept k) (I.hok.kept k)
/-- a new object laid and tracked -/
theorem Inv.laid {a : Addr} {o : HO} {t' : Nat} (I : Inv X pins σ H s) (k : ∀ b u, s.heap.get? b = some u → h'.get? b = some u) (hp : s.heap.objs.size ≤ a) (new : ObjOk X.prog X.w (upd H a o) h' a o) :
    Inv X pins σ (upd H a o) { s with heap := h', toks := t' } := I.un (Un.laid k hp (I.hok.fresh hp)) (I.hok.laid k hp new)
/-- an object written -/
theorem Inv.write {x e : Addr} {o : HO} {t' : Nat} (I : Inv X pins σ H s) (mu : Mut (H x)) (he : e = x ∨ H e = some (.own x)) (k : ∀ b u, b ≠ e → s.heap.get? b = some u → h'.get? b = some u) (heo : ∃ u, h'.get? e = some u)
    (new : ObjOk X.prog X.w (upd H x o) h' x o) : Inv X pins σ (upd H x o) { s with heap := h', toks := t' } := I.un (Un.write mu he k heo) (I.hok.write mu he k heo new)
theorem Inv.pins_of {pins' : List (Addr × Obj)} (I : Inv X pins σ H s) (h : ∀ p ∈ pins', s.heap.get? p.1 = some p.2 ∧ H p.1 = none ∧ p.1 ≠ X.env.locals ∧ p.1 ∉ X.fs ∧ ∀ v, p.2.data ≠ .cell v) : Inv X pins' σ H s :=
  ⟨I.ok, I.os, I.bare, I.base, I.loc, I.cell, I.free, I.freeC, fun p hp => (List.mem_append.mp hp).elim (fun z => I.pin p (List.mem_append_left _ z)) (h p), I.hok, I.len⟩

theorem nodup_ix {N : List Str} (hN : N.Nodup) {i j : Nat} {x : Str} (a : N[i]? = some x) (b : N[j]? = some x) : i = j := by
  obtain ⟨h1, e1⟩ := List.getElem?_eq_some_iff.mp a
  obtain ⟨h2, e2⟩ := List.getElem?_eq_some_iff.mp b
  exact (List.getElem_inj hN).mp (e1.trans e2.symm)

/-- a name is stored; what changed -/
theorem store_ok2 {M : Model} {A : Around} {E : Value → Shared → Prop} {i : Nat} {x : Str} {v : V} {u : Value} {Q : Unit → Shared → Prop} (I : Inv X pins σ H s) (hN : X.N.Nodup) (hi : X.N[i]? = some x) (hx : Loc X.env.scope x) (r : RelV v u)
    (h : ∀ s', Inv X pins (σ.set i (some v)) H s' → (∃ a, Heap.SameBut a s.heap s'.heap ∧ (a = X.env.locals ∨ X.env.cells.lookup x = some a)) → Q () s') (hf : X.fn x = true ∨ X.env.scope.names.lookup x = some .local := by first | exact .inl rfl | exact .inr rfl | assumption) : wpAny M A (storeName X.env x u) Q E s := by
  obtain ⟨m, hn, hl⟩ := id I.loc
  have hcls : (X.env.scope.kind == .class || (X.env.scope.kind == .module && X.env.locals != X.env.globals)) = false := by rw [I.ok.kind]; rfl
  have hiσ : i < σ.length := by rw [I.len]; exact (List.getElem?_eq_some_iff.mp hi).1
  have cne := I.cne
  have tracked : ∀ {a : Addr} {h' : Heap}, (∃ o, s.heap.get? a = some o ∧ H a = none) → Heap.SameBut a s.heap h' → HOk X.prog X.w H h' := fun {a h'} ha hs b ob e => by
    obtain ⟨_, _, hfree⟩ := ha
    refine (I.hok b ob e).stay (fun c w' hc q => (hs.2 c ?_).trans q) (fun _ q => q) fun _ _ q => q
    rintro rfl
    rcases hc with rfl | hc
    · rw [hfree] at e; cases e
    · rw [hfree] at hc; cases hc
  rcases hx with hk | hk
  · refine wpAny_storeName_local hk hn (fun h' hn' hs => ?_) hcls
    obtain ⟨oL, _, _, hoL, _⟩ := id hn
    refine h _ ⟨I.ok, I.os, I.bare, ⟨fun b o e n hb hx => ?_, fun b o e n hb hx => ?_, I.base.free, fun b o e hx => ?_, I.base.tups, I.base.frzs, I.base.tbls⟩, ⟨_, hn', fun j y v' e1 e2 e3 => ?_⟩, fun y c e => ?_, I.free, I.freeC, fun p hp => ?_, tracked ⟨oL, hoL, I.free⟩ hs, by simpa using I.len⟩ ⟨_, hs, .inl rfl⟩
    · exact (hs.2 b (Nat.ne_of_lt (Nat.lt_of_lt_of_le (Heap.lt_size e) I.ok.above))).trans (I.base.keep b o e n hb hx)
    · obtain ⟨sl, e1⟩ := I.base.slot b o e n hb hx
      exact ⟨sl, (hs.2 b (Nat.ne_of_lt (Nat.lt_of_lt_of_le (Heap.lt_size e) I.ok.above))).trans e1⟩
    · obtain ⟨o', e1⟩ := I.base.there b o e hx
      exact ⟨o', (hs.2 b (Nat.ne_of_lt (Nat.lt_of_lt_of_le (Heap.lt_size e) I.ok.above))).trans e1⟩
    · by_cases hj : j = i
      · subst hj
        rw [hi] at e1; cases e1
        rw [List.getElem?_set_self hiσ] at e2
        cases e2
        exact ⟨u, r, .inl ⟨hk, by simp⟩⟩
      · rw [List.getElem?_set_ne (Ne.symm hj)] at e2
        obtain ⟨u', r', q⟩ := hl j y v' e1 e2 e3
        refine ⟨u', r', ?_⟩
        rcases q with ⟨k, e⟩ | ⟨k, c, e, z⟩
        · refine .inl ⟨k, ?_⟩
          have : y ≠ x := fun e => hj (nodup_ix hN e1 (e ▸ hi))
          simp [this, e]
        · exact .inr ⟨k, c, e, z.sameBut hs (cne y c e)⟩
    · obtain ⟨w', z⟩ := I.cell y c e
      exact ⟨w', z.sameBut hs (cne y c e)⟩
    · obtain ⟨e, n, ne, nf, d⟩ := I.pin p hp
      exact ⟨(hs.2 p.1 ne).trans e, n, ne, nf, d⟩
  · have hfn : X.fn x = true := by
      rcases hf with z | z
      · exact z
      · rw [z] at hk; cases hk
    obtain ⟨c, hc⟩ := I.ok.has x (.inl hk)
    obtain ⟨w', z⟩ := I.cell x c hc
    refine wpAny_storeName_cell I.ok.kind hk hc z (fun h' hc' hs => ?_)
    obtain ⟨oc, hoc, hocd⟩ := id z
    refine h { s with heap := h' } ⟨I.ok, I.os, I.bare, ⟨fun b o e n hb hx => ?_, fun b o e n hb hx => ?_, I.base.free, fun b o e hx => ?_, I.base.tups, I.base.frzs, I.base.tbls⟩, ⟨m, hn.sameBut hs (Ne.symm (cne x c hc)), fun j y v' e1 e2 e3 => ?_⟩, fun y c' e => ?_, I.free, I.freeC, fun p hp => ?_, tracked ⟨oc, hoc, I.freeC x c hc⟩ hs, by simpa using I.len⟩ ⟨c, hs, .inr hc⟩
    · exact (hs.2 b (Nat.ne_of_lt (Nat.lt_of_lt_of_le (Heap.lt_size e) (I.ok.cab x c hfn hc)))).trans (I.base.keep b o e n hb hx)
    · obtain ⟨sl, e1⟩ := I.base.slot b o e n hb hx
      exact ⟨sl, (hs.2 b (Nat.ne_of_lt (Nat.lt_of_lt_of_le (Heap.lt_size e) (I.ok.cab x c hfn hc)))).trans e1⟩
    · obtain ⟨o', e1⟩ := I.base.there b o e hx
      exact ⟨o', (hs.2 b (Nat.ne_of_lt (Nat.lt_of_lt_of_le (Heap.lt_size e) (I.ok.cab x c hfn hc)))).trans e1⟩
    · by_cases hj : j = i
      · subst hj
        rw [hi] at e1; cases e1
        rw [List.getElem?_set_self hiσ] at e2
        cases e2
        exact ⟨u, r, .inr ⟨.inl hk, c, hc, hc'⟩⟩
      · rw [List.getElem?_set_ne (Ne.symm hj)] at e2
        obtain ⟨u', r', q⟩ := hl j y v' e1 e2 e3
        refine ⟨u', r', ?_⟩
        rcases q with q | ⟨k, c', e, z'⟩
        · exact .inl q
        · refine .inr ⟨k, c', e, z'.sameBut hs ?_⟩
          rintro rfl
          exact hj (nodup_ix hN e1 (I.ok.inj _ _ _ e hc ▸ hi))
    · by_cases hcc : c' = c
      · subst hcc; exact ⟨_, hc'⟩
      · obtain ⟨w2, z2⟩ := I.cell y c' e
        exact ⟨w2, z2.sameBut hs hcc⟩
    · obtain ⟨e, n, ne, nf, d⟩ := I.pin p hp
      refine ⟨(hs.2 p.1 ?_).trans e, n, ne, nf, d⟩
      intro q
      rw [q, hoc] at e
      have q' : oc = p.2 := Option.some.inj e
      exact d w' (by rw [← q']; exact hocd)
theorem store_ok {M : Model} {A : Around} {E : Value → Shared → Prop} {i : Nat} {x : Str} {v : V} {u : Value} {Q : Unit → Shared → Prop} (I : Inv X pins σ H s) (hN : X.N.Nodup) (hi : X.N[i]? = some x) (hx : Loc X.env.scope x) (r : RelV v u)
    (h : ∀ s', Inv X pins (σ.set i (some v)) H s' → Q () s') (hf : X.fn x = true ∨ X.env.scope.names.lookup x = some .local := by first | exact .inl rfl | exact .inr rfl | assumption) : wpAny M A (storeName X.env x u) Q E s :=
  store_ok2 I hN hi hx r (fun s' I' _ => h s' I') hf
/-- behind a call or a block, the state as it is -/
theorem Inv.call' {s' : Shared} {ch : List Addr} (I : Inv X pins σ H s) (ho : s'.os = s.os) (u : Un (frs X.stack) ch H H' s.heap s'.heap) (hok : HOk X.prog X.w H' s'.heap) (hg : AllBare s'.gens)
    (hch : ∀ b ∈ ch, (b ∈ X.ex ∨ X.s₀.heap.objs.size ≤ b) ∧ b ≠ X.env.locals ∧ (∀ x c, X.env.cells.lookup x = some c → c ≠ b) ∧ ∀ p ∈ X.pn ++ pins, p.1 ≠ b) : Inv X pins σ H' s' := by
  obtain ⟨h', g', d', t', o'⟩ := s'
  have e : o' = s.os := ho
  subst e
  exact I.call (g' := g') (t' := t') (d' := d') u hok hg hch
end

/-! ### the judgements -/
/-- an exception: its class, its own dict's address (where it has one), the abstract heap behind it -/
abbrev XK := Value → Option Addr → Hp → Prop
abbrev St := List (Option V)
abbrev VK := V → Hp → Prop
/-- an expression's reading; a test's; an argument list's -/
abbrev TE := St → Hp → VK → Prop
abbrev TT := St → Hp → (Bool → Hp → Prop) → Prop
abbrev TA := St → Hp → (List V → Hp → Prop) → Prop
/-- what is wanted behind a statement -/
structure Ends where
  nx : St → Hp → Prop
  rt : VK
  bk : St → Hp → Prop := fun _ _ => False
  ct : St → Hp → Prop := fun _ _ => False
abbrev TS := Ends → St → Hp → Prop

def EP (X : Cx) (pins : List (Addr × Obj)) (σ : St) (Q : VK) (u : Value) (s' : Shared) : Prop := ∃ v H', Inv X pins σ H' s' ∧ RelV v u ∧ Q v H'
def TP (X : Cx) (pins : List (Addr × Obj)) (σ : St) (Q : Bool → Hp → Prop) (b : Bool) (s' : Shared) : Prop := ∃ H', Inv X pins σ H' s' ∧ Q b H'
def AP (X : Cx) (pins : List (Addr × Obj)) (σ : St) (Q : List V → Hp → Prop) (us : List Value) (s' : Shared) : Prop := ∃ vs H', Inv X pins σ H' s' ∧ Vals vs us ∧ Q vs H'
def SP (X : Cx) (pins : List (Addr × Obj)) (D : Ends) (f : Flow) (s' : Shared) : Prop :=
  match f with
  | .next => ∃ σ' H', Inv X pins σ' H' s' ∧ D.nx σ' H'
  | .brk => ∃ σ' H', Inv X pins σ' H' s' ∧ D.bk σ' H'
  | .cont => ∃ σ' H', Inv X pins σ' H' s' ∧ D.ct σ' H'
  | .ret u => ∃ v σ' H', Inv X pins σ' H' s' ∧ RelV v u ∧ D.rt v H'

def PE (X : Cx) (e : Expr) (t : TE) : Prop :=
  ∀ (pins : List (Addr × Obj)) (s : Shared) (σ : St) (H : Hp) (Q : VK), Inv X pins σ H s → t σ H Q → wpAny (model X.prog X.w) X.A (eval e X.env) (EP X pins σ Q) X.xe s
def PT (X : Cx) (e : Expr) (t : TT) : Prop :=
  ∀ (pins : List (Addr × Obj)) (s : Shared) (σ : St) (H : Hp) (Q : Bool → Hp → Prop), Inv X pins σ H s → t σ H Q → wpAny (model X.prog X.w) X.A (isTrue e X.env (eval e X.env)) (TP X pins σ Q) X.xe s
/-- a test whatever its 'whole' is (and, or) -/
def PW (X : Cx) (e : Expr) (t : TT) : Prop :=
  ∀ (whole : Sem Value) (pins : List (Addr × Obj)) (s : Shared) (σ : St) (H : Hp) (Q : Bool → Hp → Prop), Inv X pins σ H s → t σ H Q → wpAny (model X.prog X.w) X.A (isTrue e X.env whole) (TP X pins σ Q) X.xe s
theorem PW.pt {X : Cx} {e : Expr} {t : TT} (h : PW X e t) : PT X e t := h _
/-- an argument list (no star), from the left -/
def PA (X : Cx) (es : List Expr) (t : TA) : Prop :=
  ∀ (pos : Pos) (pins : List (Addr × Obj)) (s : Shared) (σ : St) (H : Hp) (Q : List V → Hp → Prop), Inv X pins σ H s → t σ H Q → wpAny (model X.prog X.w) X.A (spliced (backTo pos (starEach es X.env))) (AP X pins σ Q) X.xe s
def PS (X : Cx) (st : Stmt) (t : TS) : Prop :=
  ∀ (pins : List (Addr × Obj)) (s : Shared) (σ : St) (H : Hp) (D : Ends), Inv X pins σ H s → t D σ H → wpAny (model X.prog X.w) X.A (exec st X.env) (SP X pins D) X.xe s
def PSs (X : Cx) (st : List Stmt) (t : TS) : Prop :=
  ∀ (pins : List (Addr × Obj)) (s : Shared) (σ : St) (H : Hp) (D : Ends), Inv X pins σ H s → t D σ H → wpAny (model X.prog X.w) X.A (execs st X.env) (SP X pins D) X.xe s
/-- weaken the end -/
theorem thn {α : Type} {t : Sem α} {Q Q' : α → Shared → Prop} {M : Model} {A : Around} {E : Value → Shared → Prop} {s : Shared} (h : wpAny M A t Q E s) (hQ : ∀ a s, Q a s → Q' a s) : wpAny M A t Q' E s := wpAny_mono h hQ fun _ _ x => x
end L2

namespace L2
open PySem PySem.Spec PyProof.Rows
section
variable {X : Cx}

/-! ### names and constants -/
def tVar (i : Nat) : TE := fun σ H Q => ∃ v, σ[i]? = some (some v) ∧ Q v H
def tC (v : V) : TE := fun _ H Q => Q v H
theorem pe_var {i : Nat} {x : Str} {pos : Pos} (hN : X.N[i]? = some x) (hv : Vis X.env.scope x) (hd : (x == ("__debug__" : Str)) = false := by decide) (hcd : (x == ("__classdict__" : Str)) = false := by decide) : PE X (.Name x pos) (tVar i) := by
  intro pins s σ H Q I h
  obtain ⟨v, e, h⟩ := h
  obtain ⟨m, hn, hl⟩ := I.loc
  obtain ⟨u, r, l⟩ := hl i x v hN e hv
  have fin : EP X pins σ Q u s := ⟨v, H, I, r, h⟩
  rcases l with ⟨hk, hm⟩ | ⟨hk, c, hc, hcell⟩
  · exact wpAny_Name (wpAny_loadName_local I.ok.kind hk hn hm fin) hd
  · rcases hk with hk | hk
    · exact wpAny_Name (wpAny_loadName_cell I.ok.kind hk hc hcell fin) hd
    · exact wpAny_Name (wpAny_loadName_free I.ok.kind hk hc hcell fin hcd) hd
theorem pe_int {i j pos} : PE X (.Constant (.int i) j pos) (tC (.int i)) := fun _ _ _ H _ I h => wpAny_Constant_int ⟨.int i, H, I.tok _, ⟨_, rfl⟩, h⟩
theorem pe_bl {b j pos} : PE X (.Constant (.bool b) j pos) (tC (.bl b)) := fun _ _ _ H _ I h => Constant_bool ⟨.bl b, H, I, rfl, h⟩
theorem pe_non {j pos} : PE X (.Constant .none j pos) (tC .non) := fun _ _ _ H _ I h => Constant_none ⟨.non, H, I, rfl, h⟩
theorem pe_str {x j pos} : PE X (.Constant (.str x) j pos) (tC (.str x)) := fun _ _ _ H _ I h => Calls.Constant_str ⟨.str x, H, I.tok _, ⟨_, rfl⟩, h⟩

/-- a global name of the def -/
def Gl (X : Cx) (x : Str) : Prop := X.env.kindOf x = some .globalImplicit
theorem ld_glob {E : Value → Shared → Prop} {pins : List (Addr × Obj)} {s : Shared} {σ : St} {H : Hp} {x : Str} {u : Value} {pos : Pos} {Q : Value → Shared → Prop} (I : Inv X pins σ H s) (hg : Gl X x) (hm : X.mg x = some u) (h : Q u s)
    (hd : (x == ("__debug__" : Str)) = false := by decide) : wpAny (model X.prog X.w) X.A (eval (.Name x pos) X.env) Q E s :=
  Calls.Name_function_global I.ok.kind hg (Calls.loadGlobal_global (by rw [I.ok.glob]; exact I.mod.glob.keeps I.bk) hm h) hd
theorem ld_blt {E : Value → Shared → Prop} {pins : List (Addr × Obj)} {s : Shared} {σ : St} {H : Hp} {x : Str} {u : Value} {pos : Pos} {Q : Value → Shared → Prop} (I : Inv X pins σ H s) (hg : Gl X x) (hm : X.mg x = none) (hv : bootBuiltins x = some u) (h : Q u s)
    (hn : x ≠ "__name__" := by decide) (hd : (x == ("__debug__" : Str)) = false := by decide) : wpAny (model X.prog X.w) X.A (eval (.Name x pos) X.env) Q E s := by
  obtain ⟨mb, h1, h2⟩ := I.mod.blt
  exact Calls.Name_function_global I.ok.kind hg (Calls.loadGlobal_builtin (by rw [I.ok.glob]; exact I.mod.glob.keeps I.bk) hm (by rw [I.ok.blt]; exact h1.keeps I.bk) ((h2 x hn).trans hv) h) hd
/-! ### arithmetic -/
variable {a b : Expr} {ta tb : TE} {pos : Pos}
/-! ### comparisons -/
def PC (X : Cx) (op : CmpOp) (a b : Expr) (t : TE) : Prop :=
  ∀ (pins : List (Addr × Obj)) (s : Shared) (σ : St) (H : Hp) (Q : VK), Inv X pins σ H s → t σ H Q →
    wpAny (model X.prog X.w) X.A (eval a X.env) (fun v s₁ => wpAny (model X.prog X.w) X.A (eval b X.env) (fun u s₂ => wpAny (model X.prog X.w) X.A (compareOp op v u) (EP X pins σ Q) X.xe s₂) X.xe s₁) X.xe s
theorem nobehind (b : Expr) {op : CmpOp} (h : op ≠ .In) (h2 : op ≠ .NotIn) : behindInMarks op b = false := by
  have e1 : (op == CmpOp.In) = false := by cases op <;> first | rfl | exact absurd rfl h
  have e2 : (op == CmpOp.NotIn) = false := by cases op <;> first | rfl | exact absurd rfl h2
  cases b <;> simp [behindInMarks, e1, e2]
/-- a comparison as a value, as a test -/
def tB (t : TE) : TT := fun σ H Q => t σ H fun x H1 => ∃ c, x = .bl c ∧ Q c H1
theorem pt_cmp {op : CmpOp} {t : TE} (h : PC X op a b t) (h1 : behindInMarks op b = false := by first | exact nobehind _ (by decide) (by decide) | rfl) : PT X (.Compare a [op] [b] pos) (tB t) := by
  intro pins s σ H Q I hw
  refine wpAny_isTrue_Compare1 (thn (h pins s σ H _ I hw) fun v s1 h1 => thn h1 fun u s2 h2 => thn h2 fun c s3 ⟨x, H1, I1, r1, q1⟩ => ?_) h1
  obtain ⟨d, rfl, q⟩ := q1
  cases r1
  exact wpAny_truthy_bool ⟨H1, I1, q⟩
/-- an expression whose value is a bool, as a test -/
theorem pt_val {e : Expr} {t : TE} (h : PE X e t) (he : ∀ whole, isTrue e X.env whole = (do let v ← whole; standAt e.pos; holding [v] (truthy v)) := by intro _; rfl) : PT X e (tB t) := by
  intro pins s σ H Q I hw
  refine isTrue_plain (thn (h pins s σ H _ I hw) fun v s1 ⟨x, H1, I1, r1, q1⟩ => ?_) (he _)
  obtain ⟨d, rfl, q⟩ := q1
  cases r1
  exact wpAny_truthy_bool ⟨H1, I1, q⟩

/-! ### and, or, not -/
variable {tA tB' : TT} {rest : List Expr}
def tAnd (t u : TT) : TT := fun σ H Q => t σ H fun c H1 => if c = true then u σ H1 Q else Q false H1
def tOr (t u : TT) : TT := fun σ H Q => t σ H fun c H1 => if c = true then Q true H1 else u σ H1 Q
def tNot (t : TT) : TT := fun σ H Q => t σ H fun c H1 => Q (!c) H1
theorem pw_and1 (ha : PT X a tA) : PW X (.BoolOp .And [a] pos) tA := by
  intro wh pins s σ H Q I h
  refine isTrue_and (thn (ha pins s σ H Q I h) fun c s1 e => ?_)
  cases c with
  | true => exact isTrue_and_nil e
  | false => exact e
theorem pw_or1 (ha : PT X a tA) : PW X (.BoolOp .Or [a] pos) tA := by
  intro wh pins s σ H Q I h
  refine isTrue_or (thn (ha pins s σ H Q I h) fun c s1 e => ?_)
  cases c with
  | false => exact isTrue_or_nil e
  | true => exact e
theorem pw_and (ha : PT X a tA) (hb : PW X (.BoolOp .And (b :: rest) pos) tB') : PW X (.BoolOp .And (a :: b :: rest) pos) (tAnd tA tB') := by
  intro wh pins s σ H Q I h
  refine isTrue_and (thn (ha pins s σ H _ I h) fun c s1 ⟨H1, I1, q1⟩ => ?_)
  cases c with
  | true => exact hb wh pins s1 σ H1 Q I1 q1
  | false => exact ⟨H1, I1, q1⟩
theorem pw_or (ha : PT X a tA) (hb : PW X (.BoolOp .Or (b :: rest) pos) tB') : PW X (.BoolOp .Or (a :: b :: rest) pos) (tOr tA tB') := by
  intro wh pins s σ H Q I h
  refine isTrue_or (thn (ha pins s σ H _ I h) fun c s1 ⟨H1, I1, q1⟩ => ?_)
  cases c with
  | true => exact ⟨H1, I1, q1⟩
  | false => exact hb wh pins s1 σ H1 Q I1 q1
theorem pt_not (ha : PT X a tA) : PT X (.UnaryOp .Not a pos) (tNot tA) := by
  intro pins s σ H Q I h
  exact isTrue_not (ha pins s σ H (fun c H1 => Q (!c) H1) I h)
/-- .. as values (bools) -/
def tAndV (ta tb : TE) : TE := fun σ H Q => ta σ H fun x H1 => ∃ c, x = .bl c ∧ if c = true then tb σ H1 Q else Q (.bl false) H1
def tOrV (ta tb : TE) : TE := fun σ H Q => ta σ H fun x H1 => ∃ c, x = .bl c ∧ if c = true then Q (.bl true) H1 else tb σ H1 Q
def tNotV (ta : TE) : TE := fun σ H Q => ta σ H fun x H1 => ∃ c, x = .bl c ∧ Q (.bl (!c)) H1
theorem pe_one {op} {t : TE} (h : PE X a t) : PE X (.BoolOp op [a] pos) t := fun pins s σ H Q I hw => BoolOp_one (h pins s σ H Q I hw)
theorem pe_and (ha : PE X a ta) (hb : PE X (.BoolOp .And (b :: rest) pos) tb) : PE X (.BoolOp .And (a :: b :: rest) pos) (tAndV ta tb) := by
  intro pins s σ H Q I h
  refine BoolOp_and (thn (ha pins s σ H _ I h) fun v s1 ⟨x, H1, I1, r1, q1⟩ => ?_)
  obtain ⟨c, rfl, q1⟩ := q1
  cases r1
  refine wpAny_truthy_bool ?_
  cases c with
  | true => exact hb pins s1 σ H1 Q I1 q1
  | false => exact ⟨.bl false, H1, I1, rfl, q1⟩
/-- a if t else b -/
def tIf (t : TT) (ta tb : TE) : TE := fun σ H Q => t σ H fun c H1 => if c = true then ta σ H1 Q else tb σ H1 Q
theorem pe_ifExp {c : Expr} (hc : PT X c tA) (ha : PE X a ta) (hb : PE X b tb) : PE X (.IfExp c a b pos) (tIf tA ta tb) := by
  intro pins s σ H Q I h
  refine wpAny_IfExp (thn (hc pins s σ H _ I h) fun d s1 ⟨H1, I1, q1⟩ => ?_)
  cases d with
  | true => exact ha pins s1 σ H1 Q I1 q1
  | false => exact hb pins s1 σ H1 Q I1 q1
end
end L2

namespace L2
open PySem PySem.Spec PyProof.Rows

/-! ### a list, a tuple that is read: tracked, frozen, or an object of the module -/
def SqL (K : PySem.W.Frag) (H : Hp) (a : Addr) (xs : List V) : Prop :=
  Rd H a (.lst xs) ∨
    ∃ (o : Obj) (its : Array Value) (n : Nat), K.lookup a = some o ∧ o.cls = .type "list" ∧ o.dict = none ∧ o.data = .seq its n ∧ its.size ≤ sizeLine ∧ Vals xs its.toList
def SqT (K : PySem.W.Frag) (H : Hp) (a : Addr) (xs : List V) : Prop :=
  Rd H a (.tup xs) ∨
    ∃ (o : Obj) (its : Array Value) (n : Nat), K.lookup a = some o ∧ o.cls = .type "tuple" ∧ o.data = .seq its n ∧ its.size ≤ sizeLine ∧ Vals xs its.toList
def absV : Value → Option V
  | .none => some .non
  | .bool b => some (.bl b)
  | .int i _ => some (.int i)
  | .str x _ => some (.str x)
  | .bytes b _ => some (.byt b)
  | .float b _ => some (.flt b)
  | .ref a => some (.ref a)
  | .type n => some (.ty n)
  | _ => none
theorem RelV.abs {x : V} {u : Value} (r : RelV x u) : absV u = some x := by
  cases x with
  | non => cases r; rfl
  | bl _ => cases r; rfl
  | int _ => obtain ⟨t, rfl⟩ := r; rfl
  | str _ => obtain ⟨t, rfl⟩ := r; rfl
  | byt _ => obtain ⟨t, rfl⟩ := r; rfl
  | flt _ => obtain ⟨t, rfl⟩ := r; rfl
  | ref _ => cases r; rfl
  | ty _ => cases r; rfl
theorem RelV.inj {x y : V} {u : Value} (r : RelV x u) (q : RelV y u) : x = y := Option.some.inj (r.abs.symm.trans q.abs)
theorem Vals.inj : ∀ {xs ys : List V} {us : List Value}, Vals xs us → Vals ys us → xs = ys
  | _, _, _, .nil, .nil => rfl
  | _, _, _, .cons r t, .cons r' t' => by rw [r.inj r', Vals.inj t t']
section
variable {X : Cx} {pins : List (Addr × Obj)} {σ : St} {H : Hp} {s : Shared} {a : Addr} {xs ys : List V}
theorem SqL.of {K : PySem.W.Frag} (h : H a = some (.lst xs)) : SqL K H a xs := .inl (.inl h)
theorem SqT.of {K : PySem.W.Frag} (h : H a = some (.tup xs)) : SqT K H a xs := .inl (.inl h)
theorem Inv.list (I : Inv X pins σ H s) (h : SqL X.K H a xs) : ∃ its : List Value, Vals xs its ∧ PlainL s.heap a its.toArray ∧ xs.length ≤ sizeLine := by
  rcases h with h | ⟨o, its, n, hk, hc, hd, hs, hz, r⟩
  · obtain ⟨z, its, n, r, e⟩ := h.ok I.hok
    exact ⟨its, r, ⟨_, n, e, rfl, rfl, rfl⟩, z⟩
  · refine ⟨its.toList, r, ⟨o, n, I.kIn a o hk, hc, hd, by simpa using hs⟩, ?_⟩
    have e := r.length
    simp only [Array.length_toList] at e
    omega
theorem Inv.tuple (I : Inv X pins σ H s) (h : SqT X.K H a xs) : ∃ its : List Value, Vals xs its ∧ IsTup s.heap a its.toArray ∧ xs.length ≤ sizeLine := by
  rcases h with h | ⟨o, its, n, hk, hc, hs, hz, r⟩
  · obtain ⟨z, its, r, p⟩ := h.ok I.hok
    exact ⟨its, r, p, z⟩
  · refine ⟨its.toList, r, ⟨o, I.kIn a o hk, hc, n, by simpa using hs⟩, ?_⟩
    have e := r.length
    simp only [Array.length_toList] at e
    omega
theorem Inv.list_inj (I : Inv X pins σ H s) (h : SqL X.K H a xs) (h' : SqL X.K H a ys) : xs = ys := by
  obtain ⟨its, r, ⟨o, n, e, _, _, d⟩, _⟩ := I.list h
  obtain ⟨its', r', ⟨o', n', e', _, _, d'⟩, _⟩ := I.list h'
  rw [e] at e'; cases e'
  rw [d] at d'
  injection d' with d1 _
  have : its = its' := by simpa using congrArg Array.toList d1
  subst this
  exact r.inj r'
theorem Inv.tuple_inj (I : Inv X pins σ H s) (h : SqT X.K H a xs) (h' : SqT X.K H a ys) : xs = ys := by
  obtain ⟨its, r, ⟨o, e, _, n, d⟩, _⟩ := I.tuple h
  obtain ⟨its', r', ⟨o', e', _, n', d'⟩, _⟩ := I.tuple h'
  rw [e] at e'; cases e'
  rw [d] at d'
  injection d' with d1 _
  have : its = its' := by simpa using congrArg Array.toList d1
  subst this
  exact r.inj r'
end

/-! ### another wish about exceptions -/
abbrev Cx.wish (X : Cx) (E : Value → Shared → Prop) : Cx := { X with xe := E }
/-- no exception leaves -/
abbrev Cx.nox (X : Cx) : Cx := X.wish fun _ _ => False
theorem Cx.Ok.wish {X : Cx} (ok : X.Ok) (E : Value → Shared → Prop) : (X.wish E).Ok :=
  ⟨ok.mod, ok.kind, ok.glob, ok.blt, ok.above, ok.inj, ok.has, ok.cab, ok.hd, ok.frames, ok.stk, ok.exf, ok.bs, ok.bsz, ok.noex, ok.exfs, ok.funs, ok.frf⟩
theorem Cx.Ok.unwish {X : Cx} {E : Value → Shared → Prop} (ok : (X.wish E).Ok) : X.Ok :=
  ⟨ok.mod, ok.kind, ok.glob, ok.blt, ok.above, ok.inj, ok.has, ok.cab, ok.hd, ok.frames, ok.stk, ok.exf, ok.bs, ok.bsz, ok.noex, ok.exfs, ok.funs, ok.frf⟩
section
variable {X : Cx} {pins : List (Addr × Obj)} {σ : St} {H : Hp} {s : Shared} {E : Value → Shared → Prop}
theorem Inv.wish (I : Inv X pins σ H s) (E : Value → Shared → Prop) : Inv (X.wish E) pins σ H s := ⟨I.ok.wish E, I.os, I.bare, I.base, I.loc, I.cell, I.free, I.freeC, I.pin, I.hok, I.len⟩
theorem Inv.unwish (I : Inv (X.wish E) pins σ H s) : Inv X pins σ H s := ⟨I.ok.unwish, I.os, I.bare, I.base, I.loc, I.cell, I.free, I.freeC, I.pin, I.hok, I.len⟩
theorem SP.unwish {D : Ends} {f : Flow} {s' : Shared} (h : SP (X.wish E) pins D f s') : SP X pins D f s' := by
  cases f with
  | next => obtain ⟨σ', H', I, q⟩ := h; exact ⟨σ', H', I.unwish, q⟩
  | brk => obtain ⟨σ', H', I, q⟩ := h; exact ⟨σ', H', I.unwish, q⟩
  | cont => obtain ⟨σ', H', I, q⟩ := h; exact ⟨σ', H', I.unwish, q⟩
  | ret u => obtain ⟨v, σ', H', I, r, q⟩ := h; exact ⟨v, σ', H', I.unwish, r, q⟩
theorem PE.nox {e : Expr} {t : TE} (h : PE X.nox e t) : PE X e t := fun pins s σ H Q I hw =>
  wpAny_mono (h pins s σ H Q (I.wish _) hw) (fun _ _ ⟨v, H', I', r, q⟩ => ⟨v, H', I'.unwish, r, q⟩) fun _ _ z => False.elim z
theorem PT.nox {e : Expr} {t : TT} (h : PT X.nox e t) : PT X e t := fun pins s σ H Q I hw =>
  wpAny_mono (h pins s σ H Q (I.wish _) hw) (fun _ _ ⟨H', I', q⟩ => ⟨H', I'.unwish, q⟩) fun _ _ z => False.elim z
theorem PSs.nox {st : List Stmt} {t : TS} (h : PSs X.nox st t) : PSs X st t := fun pins s σ H D I hw =>
  wpAny_mono (h pins s σ H D (I.wish _) hw) (fun _ _ q => q.unwish) fun _ _ z => False.elim z
end

/-! ### blocks and small statements -/
section
variable {X : Cx} {st : Stmt} {rest : List Stmt} {t u : TS} {e : Expr} {te : TE} {pos : Pos}
def tNext : TS := fun D σ H => D.nx σ H
def tSeq (t u : TS) : TS := fun D σ H => t { D with nx := u D } σ H
theorem pss_nil : PSs X [] tNext := fun _ _ σ H _ I h => wpAny_execs_nil ⟨σ, H, I, h⟩
theorem pss_cons (h1 : PS X st t) (h2 : PSs X rest u) : PSs X (st :: rest) (tSeq t u) := by
  intro pins s σ H D I h
  refine wpAny_execs_cons (thn (h1 pins s σ H { D with nx := u D } I h) fun f s1 q => ?_)
  cases f with
  | next =>
    obtain ⟨σ', H', I', q⟩ := q
    exact h2 pins s1 σ' H' D I' q
  | ret v => exact q
  | brk => exact q
  | cont => exact q
theorem pss_one (h1 : PS X st t) : PSs X [st] t := by
  intro pins s σ H D I h
  refine wpAny_execs_cons (thn (h1 pins s σ H D I h) fun f s1 q => ?_)
  cases f with
  | next => exact wpAny_execs_nil q
  | ret v => exact q
  | brk => exact q
  | cont => exact q
/-- in a def's body nothing is shown -/
theorem Inv.quiet {pins : List (Addr × Obj)} {σ : St} {H : Hp} {s : Shared} (I : Inv X pins σ H s) : interactive X.env = false := by simp [interactive, I.ok.kind]
/-- an expression whose value is dropped -/
def tDrop (te : TE) : TS := fun D σ H => te σ H fun _ H1 => D.nx σ H1
theorem ps_expr (he : PE X e te) (hs : swapsWith e none pos.line X.env = pure false := by rfl) : PS X (.Expr e pos) (tDrop te) := by
  intro pins s σ H D I h
  exact wpAny_Expr_any (thn (he pins s σ H _ I h) fun v s1 ⟨x, H1, I1, r1, q1⟩ => ⟨σ, H1, I1, q1⟩) I.quiet hs
def tRet (te : TE) : TS := fun D σ H => te σ H D.rt
theorem ps_ret (he : PE X e te) : PS X (.Return (some e) pos) (tRet te) := by
  intro pins s σ H D I h
  exact wpAny_Return_some (thn (he pins s σ H _ I h) fun v s1 ⟨x, H1, I1, r1, q1⟩ => ⟨x, σ, H1, I1, r1, q1⟩)
def tRetN : TS := fun D _ H => D.rt .non H
def tIfS (c : TT) (t u : TS) : TS := fun D σ H => c σ H fun b H1 => if b = true then t D σ H1 else u D σ H1
theorem ps_if {c : Expr} {a b : List Stmt} {tc : TT} (hc : PT X c tc) (ha : PSs X a t) (hb : PSs X b u) : PS X (.If c a b pos) (tIfS tc t u) := by
  intro pins s σ H D I h
  refine wpAny_If (thn (hc pins s σ H _ I h) fun d s1 ⟨H1, I1, q1⟩ => ?_)
  cases d with
  | true => exact ha pins s1 σ H1 D I1 q1
  | false => exact hb pins s1 σ H1 D I1 q1
end

/-! ### targets -/
abbrev TG := V → St → Hp → (St → Hp → Prop) → Prop
abbrev TGs := List V → St → Hp → (St → Hp → Prop) → Prop
def PG (X : Cx) (target : Expr) (t : TG) : Prop :=
  ∀ (pins : List (Addr × Obj)) (s : Shared) (σ : St) (H : Hp) (v : V) (u : Value) (Q : St → Hp → Prop), Inv X pins σ H s → RelV v u → t v σ H Q →
    wpAny (model X.prog X.w) X.A (assign target X.env u) (fun _ s' => ∃ σ' H', Inv X pins σ' H' s' ∧ Q σ' H') X.xe s
/-- several targets, one after another -/
def PGs (X : Cx) (ts : List Expr) (t : TGs) : Prop :=
  ∀ (pins : List (Addr × Obj)) (s : Shared) (σ : St) (H : Hp) (vs : List V) (us : List Value) (Q : St → Hp → Prop), Inv X pins σ H s → Vals vs us → t vs σ H Q →
    wpAny (model X.prog X.w) X.A (assignInOrder ((assignEach ts X.env).map (·.2)) us) (fun _ s' => ∃ σ' H', Inv X pins σ' H' s' ∧ Q σ' H') X.xe s
/-- o[i] = v, by values -/
abbrev TSet := V → V → V → Hp → (Hp → Prop) → Prop
def PSet (X : Cx) (t : TSet) : Prop :=
  ∀ (pins : List (Addr × Obj)) (s : Shared) (σ : St) (H : Hp) (o i v : V) (ov iv u : Value) (Q : Hp → Prop), Inv X pins σ H s → RelV o ov → RelV i iv → RelV v u → t o i v H Q →
    wpAny (model X.prog X.w) X.A (setItem ov iv u) (fun _ s' => ∃ H', Inv X pins σ H' s' ∧ Q H') X.xe s
/-- a op= b, by values -/
abbrev TIp := V → V → Hp → VK → Prop
def PIp (X : Cx) (op : Operator) (t : TIp) : Prop :=
  ∀ (pins : List (Addr × Obj)) (s : Shared) (σ : St) (H : Hp) (x y : V) (v u : Value) (Q : VK), Inv X pins σ H s → RelV x v → RelV y u → t x y H Q →
    wpAny (model X.prog X.w) X.A (inplaceOp op v u) (EP X pins σ Q) X.xe s
section
variable {X : Cx} {pos : Pos}
def gName (i : Nat) : TG := fun v σ H Q => Q (σ.set i (some v)) H
theorem pg_name {i : Nat} {x : Str} (hN : X.N.Nodup) (hi : X.N[i]? = some x) (hx : Loc X.env.scope x) (hf : X.fn x = true ∨ X.env.scope.names.lookup x = some .local := by first | exact .inl rfl | exact .inr rfl | assumption) : PG X (.Name x pos) (gName i) := by
  intro pins s σ H v u Q I r h
  exact wpAny_assign_Name (store_ok I hN hi hx r (fun s' I' => ⟨_, H, I', h⟩) hf)
def gNil : TGs := fun vs σ H Q => vs = [] ∧ Q σ H
def gCons (t : TG) (u : TGs) : TGs := fun vs σ H Q => ∃ v r, vs = v :: r ∧ t v σ H fun σ' H' => u r σ' H' Q
theorem pgs_nil : PGs X [] gNil := by
  intro pins s σ H vs us Q I r h
  obtain ⟨e, h⟩ := h
  subst e
  cases r
  exact assignInOrder_nil ⟨σ, H, I, h⟩
theorem pgs_cons {e : Expr} {es : List Expr} {t : TG} {u : TGs} (h1 : PG X e t) (h2 : PGs X es u)
    (hs : (assignEach (e :: es) X.env).map (·.2) = assign e X.env :: (assignEach es X.env).map (·.2) := by rfl) : PGs X (e :: es) (gCons t u) := by
  intro pins s σ H vs us Q I r h
  obtain ⟨v, vr, e1, h⟩ := h
  subst e1
  cases r with
  | cons r rr =>
    rw [hs]
    refine assignInOrder_cons (thn (h1 pins s σ H _ _ _ I r h) fun _ s1 ⟨σ1, H1, I1, q1⟩ => ?_)
    exact h2 pins s1 σ1 H1 _ _ Q I1 rr q1
/-- (a, b, ..) = a tuple of that length -/
def gTup (K : PySem.W.Frag) (n : Nat) (t : TGs) : TG := fun v σ H Q => ∃ a xs, v = .ref a ∧ SqT K H a xs ∧ xs.length = n ∧ t xs σ H Q
theorem pg_tup {es : List Expr} {k : Nat} {t : TGs} {n : Nat} (hc : X.calm = true) (h : PGs X es t)
    (hn : (assignEach es X.env).length = n := by rfl) (hst : (assignEach es X.env).findIdx? (·.1) = none := by rfl) : PG X (.Tuple es k pos) (gTup X.K n t) := by
  intro pins s σ H v u Q I r hw
  obtain ⟨a, xs, e1, hq, hl, hw⟩ := hw
  subst e1
  cases r
  obtain ⟨its, rv, ht, hz⟩ := I.tuple hq
  refine assign_Tuple_tuple (I.ok.hd hc) ht (by simp [hn, ← hl, rv.length]) hst fun h' hx => ?_
  have I1 : Inv X pins σ H { s with heap := h' } := I.kept (t' := s.toks) fun b o e => hx b o (Nat.ne_of_lt (Heap.lt_size e)) e
  exact h pins _ σ H xs _ Q I1 (by simpa using rv) hw
/-- o[i] = .. -/
def gSub (to ti : TE) (t : TSet) : TG := fun v σ H Q => to σ H fun o H1 => ti σ H1 fun i H2 => t o i v H2 fun H3 => Q σ H3
theorem pg_sub {o i : Expr} {to ti : TE} {t : TSet} (ho : PE X o to) (hi : PE X i ti) (hs : PSet X t)
    (ha : ∀ v, assign (.Subscript o i pos) X.env v = (do
      let ov ← holding [v] (eval o X.env)
      let iv ← holding [v, ov] (eval i X.env)
      standAt pos
      holding [v, ov, iv] (setItem ov iv v)
      release [v, ov, iv] []) := by intro _; rfl) : PG X (.Subscript o i pos) (gSub to ti t) := by
  intro pins s σ H v u Q I r h
  rw [ha]
  refine wpAny_bind (wpAny_holding (thn (ho pins s σ H _ I h) fun ov s1 ⟨x, H1, I1, r1, q1⟩ => ?_))
  refine wpAny_bind (wpAny_holding (thn (hi pins s1 σ H1 _ I1 q1) fun iv s2 ⟨y, H2, I2, r2, q2⟩ => ?_))
  refine wpAny_bind (wpAny_standAt (wpAny_bind (wpAny_holding (thn (hs pins s2 σ H2 x y v ov iv u _ I2 r1 r2 r q2) fun _ s3 ⟨H3, I3, q3⟩ => ?_))))
  exact wpAny_release ⟨σ, H3, I3, q3⟩
/-- target = value -/
def tAsg (te : TE) (g : TG) : TS := fun D σ H => te σ H fun x H1 => g x σ H1 D.nx
theorem ps_asg {tg e : Expr} {te : TE} {g : TG} (he : PE X e te) (hg : PG X tg g) (hs : swapsWithSole [tg] e pos.line X.env = pure false := by rfl) (hw : swappedStores [tg] e X.env = pure none := by rfl)
    (h1 : (assignEach [tg] X.env).map (·.2) = [assign tg X.env] := by rfl) : PS X (.Assign [tg] e pos) (tAsg te g) := by
  intro pins s σ H D I h
  refine wpAny_Assign_stores (thn (he pins s σ H _ I h) fun v s1 ⟨x, H1, I1, r1, q1⟩ => ?_) hs hw
  rw [h1]
  exact thn (hg pins s1 σ H1 x v _ I1 r1 q1) fun _ s2 q => q
/-- name = value -/
theorem ps_set {i : Nat} {x : Str} {e : Expr} {te : TE} {pos' : Pos} (hN : X.N.Nodup) (hi : X.N[i]? = some x) (hx : Loc X.env.scope x) (he : PE X e te) (hs : swapsWith e (some (.Name x pos')) pos.line X.env = pure false := by rfl) (hf : X.fn x = true ∨ X.env.scope.names.lookup x = some .local := by first | exact .inl rfl | exact .inr rfl | assumption) :
    PS X (.Assign [.Name x pos'] e pos) (tAsg te (gName i)) := by
  intro pins s σ H D I h
  refine wpAny_Assign_Name (thn (he pins s σ H _ I h) fun v s1 ⟨y, H1, I1, r1, q1⟩ => ?_) hs
  exact store_ok I1 hN hi hx r1 (fun s2 I2 => ⟨_, H1, I2, q1⟩) hf
/-- a, b = x, y with plain local names: stored from the right; the pair itself is not tracked (the opening rows as in PyProof/Rows/TupAssign.lean:23) -/
def tPar (i j : Nat) (ta : TA) : TS := fun D σ H => ta σ H fun vs H1 => ∃ v w, vs = [v, w] ∧ D.nx ((σ.set i (some v)).set j (some w)) H1
theorem ps_par {i j : Nat} {x y : Str} {a b : Expr} {ta : TA} {px py pt : Pos} {kt k2 pt2} (hc : X.calm = true) (hN : X.N.Nodup) (hi : X.N[i]? = some x) (hj : X.N[j]? = some y) (hij : i ≠ j)
    (hx : X.env.scope.names.lookup x = some .local) (hy : X.env.scope.names.lookup y = some .local) (ha : PA X [a, b] ta)
    (hw : swappedStores [.Tuple [.Name x px, .Name y py] kt pt] (.Tuple [a, b] k2 pt2) X.env = pure (some [x, y]))
    (hs : swapsWithSole [.Tuple [.Name x px, .Name y py] kt pt] (.Tuple [a, b] k2 pt2) pos.line X.env = pure false := by rfl) :
    PS X (.Assign [.Tuple [.Name x px, .Name y py] kt pt] (.Tuple [a, b] k2 pt2) pos) (tPar i j ta) := by
  intro pins s σ H D I h
  rw [exec_Assign_arm]
  refine wpAny_bind (wpAny_standAt ?_)
  rw [hs]
  refine wpAny_bind (wpAny_pure ?_)
  rw [if_neg (by decide)]
  refine wpAny_bind (Tuple_ (thn (ha _ pins s σ H _ I h) fun us s1 ⟨vs, H1, I1, r1, q1⟩ => ?_))
  obtain ⟨v, w, e1, q1⟩ := q1
  subst e1
  obtain ⟨u1, u2, rfl, rv, rw'⟩ : ∃ u1 u2, us = [u1, u2] ∧ RelV v u1 ∧ RelV w u2 := by
    cases r1 with
    | cons p q =>
      cases q with
      | cons p' q' =>
        cases q'
        exact ⟨_, _, rfl, p, p'⟩
  refine wpAny_newObj_type ?_ (by show 2 ≤ sizeLine; decide)
  have I2 : Inv X pins σ H1 { s1 with heap := s1.heap.push { cls := .type "tuple", data := .seq [u1, u2].toArray } } := I1.kept (t' := s1.toks) fun b o e => Heap.get?_push_of_some _ e
  rw [hw]
  refine wpAny_bind (wpAny_pure ?_)
  show wpAny (model X.prog X.w) X.A (do rule "assign.swapped-stores"; let items ← unpackItems (.ref s1.heap.objs.size) 2 none; assignInOrder [fun v => bindName X.env y v, fun v => bindName X.env x v] items.reverse; pure Flow.next) _ _ _
  refine wpAny_bind (wpAny_rule (wpAny_bind (unpackItems_tuple (items := #[u1, u2]) (I.ok.hd hc) (IsTup.new s1.heap _) fun h' hx' => ?_)))
  have I3 := I2.kept (h' := h') (t' := s1.toks) fun b o e => hx' b o (Nat.ne_of_lt (Heap.lt_size e)) e
  show wpAny _ _ (assignInOrder [fun v => bindName X.env y v, fun v => bindName X.env x v] [u2, u1] >>= fun _ => pure Flow.next) _ _ _
  refine wpAny_bind (assignInOrder_cons (wpAny_bindName (store_ok I3 hN hj (.inl hy) rw' (fun s2 I4 => ?_) (.inr hy))))
  refine assignInOrder_cons (wpAny_bindName (store_ok I4 hN hi (.inl hx) rv (fun s3 I5 => assignInOrder_nil (wpAny_pure ?_)) (.inr hx)))
  rw [List.set_comm _ _ (Ne.symm hij)] at I5
  exact ⟨_, H1, I5, q1⟩
/-- name op= e -/
def tAug (i : Nat) (te : TE) (ti : TIp) : TS := fun D σ H => ∃ x, σ[i]? = some (some x) ∧ te σ H fun y H1 => ti x y H1 fun z H2 => D.nx (σ.set i (some z)) H2
theorem ps_aug {i : Nat} {x : Str} {e : Expr} {te : TE} {op : Operator} {ti : TIp} {pos' : Pos} (hN : X.N.Nodup) (hi : X.N[i]? = some x) (hx : Loc X.env.scope x) (he : PE X e te) (ho : PIp X op ti) (hf : X.fn x = true ∨ X.env.scope.names.lookup x = some .local := by first | exact .inl rfl | exact .inr rfl | assumption) :
    PS X (.AugAssign (.Name x pos') op e pos) (tAug i te ti) := by
  intro pins s σ H D I h
  obtain ⟨v, e1, h⟩ := h
  obtain ⟨m, hn, hl⟩ := I.loc
  have vis : Vis X.env.scope x := by rcases hx with k | k; exact .inl k; exact .inr (.inl k)
  obtain ⟨u, r, l⟩ := hl i x v hi e1 vis
  refine wpAny_AugAssign_Name ?_
  have go : wpAny (model X.prog X.w) X.A (eval e X.env) (fun w s₂ => wpAny (model X.prog X.w) X.A (inplaceOp op u w) (fun r s₃ => wpAny (model X.prog X.w) X.A (storeName X.env x r) (fun _ => SP X pins D .next) X.xe s₃) X.xe s₂) X.xe s := by
    refine thn (he pins s σ H _ I h) fun w s1 ⟨y, H1, I1, r1, q1⟩ => ?_
    refine thn (ho pins s1 σ H1 v y u w _ I1 r r1 q1) fun z s2 ⟨zv, H2, I2, r2, q2⟩ => ?_
    exact store_ok I2 hN hi hx r2 (fun s3 I3 => ⟨_, H2, I3, q2⟩) hf
  rcases l with ⟨hk, hm⟩ | ⟨hk, c, hc, hcell⟩
  · exact wpAny_loadName_local I.ok.kind hk hn hm go
  · rcases hk with hk | hk
    · exact wpAny_loadName_cell I.ok.kind hk hc hcell go
    · rcases hx with k | k
      · have : X.env.scope.names.lookup x = some .free := hk
        rw [k] at this; cases this
      · have : X.env.scope.names.lookup x = some .free := hk
        rw [k] at this; cases this
/-- ints -/
def ipI (f : Int → Int → Int) : TIp := fun x y H Q => ∃ i j, x = .int i ∧ y = .int j ∧ Q (.int (f i j)) H
theorem ip_add : PIp X .Add (ipI fun i j => i + j) := by
  intro pins s σ H x y v u Q I r1 r2 h
  obtain ⟨i, j, e1, e2, q⟩ := h
  subst e1; subst e2
  obtain ⟨t, rfl⟩ := r1
  obtain ⟨t', rfl⟩ := r2
  exact iadd_int ⟨.int _, H, I.tok _, ⟨_, rfl⟩, q⟩
theorem ip_sub : PIp X .Sub (ipI fun i j => i - j) := by
  intro pins s σ H x y v u Q I r1 r2 h
  obtain ⟨i, j, e1, e2, q⟩ := h
  subst e1; subst e2
  obtain ⟨t, rfl⟩ := r1
  obtain ⟨t', rfl⟩ := r2
  exact isub_int ⟨.int _, H, I.tok _, ⟨_, rfl⟩, q⟩
end

/-! ### while -/
section
variable {X : Cx} {pos : Pos}
/-- the invariant W with its measure -/
def tWhile (c : TT) (tb : TS) : TS := fun D σ H => ∃ W : Nat → St → Hp → Prop, (∃ m, W m σ H) ∧ ∀ m σ H, W m σ H →
  c σ H fun b H1 => if b = true then ∃ N : St → Hp → Prop, (∀ σ' H', N σ' H' → ∃ m', m' < m ∧ W m' σ' H') ∧ tb { D with nx := N, ct := N, bk := D.nx } σ H1 else D.nx σ H1
theorem ps_while {c : Expr} {body : List Stmt} {tc : TT} {tb : TS} (hp : PassesOwn (model X.prog X.w) X.A X.env X.xe) (hc : PT X c tc) (hb : PSs X body tb) : PS X (.While c body [] pos) (tWhile tc tb) := by
  intro pins s σ H D I h
  obtain ⟨W, ⟨m0, w0⟩, turn⟩ := h
  refine wpAny_While (codeAny_whileLoop (fun n s' => ∃ σ' H', Inv X pins σ' H' s' ∧ W n σ' H') ?_ m0 ⟨σ, H, I, w0⟩)
  rintro n s1 ⟨σ1, H1, I1, w1⟩
  refine wpAny_passesOwn hp (thn (hc pins s1 σ1 H1 _ I1 (turn n σ1 H1 w1)) fun b s2 ⟨H2, I2, q2⟩ => ?_)
  cases b with
  | true =>
    obtain ⟨N, hN, q2⟩ := q2
    rw [if_pos rfl]
    refine wpAny_passesOwn hp (thn (hb pins s2 σ1 H2 _ I2 q2) fun f s3 q3 => ?_)
    cases f with
    | next =>
      obtain ⟨σ3, H3, I3, n3⟩ := q3
      obtain ⟨m', hm, w3⟩ := hN σ3 H3 n3
      exact ⟨m', hm, σ3, H3, I3, w3⟩
    | cont =>
      obtain ⟨σ3, H3, I3, n3⟩ := q3
      obtain ⟨m', hm, w3⟩ := hN σ3 H3 n3
      exact ⟨m', hm, σ3, H3, I3, w3⟩
    | brk => exact q3
    | ret v => exact q3
  | false =>
    rw [if_neg Bool.false_ne_true]
    exact wpAny_execs_nil ⟨σ1, H2, I2, q2⟩
end

/-! ### what a loop or a comprehension walks -/
/-- at turn i: it yields x (the heap may grow), or it stops -/
structure It where
  go : Nat → Hp → Prop
  yld : Nat → Hp → V → Hp → Prop
  stop : Nat → Hp → Prop
/-- the iterator's own objects may turn: they are not the frame's, not pinned, younger than the entry (or a comprehension's own) -/
def FpOk (X : Cx) (pins : List (Addr × Obj)) (H : Hp) (b : Addr) : Prop :=
  H b = none ∧ b ≠ X.env.locals ∧ b ∉ X.fs ∧ (b ∈ X.ex ∨ X.s₀.heap.objs.size ≤ b) ∧ (∀ x c, X.env.cells.lookup x = some c → c ≠ b) ∧ ∀ p ∈ X.pn ++ pins, p.1 ≠ b
theorem Inv.fpOk {X : Cx} {pins : List (Addr × Obj)} {σ : St} {H H' : Hp} {s : Shared} {b : Addr} (I : Inv X pins σ H s) (hb : s.heap.objs.size ≤ b) (hn : H' b = none) : FpOk X pins H' b := by
  refine ⟨hn, Nat.ne_of_gt (Nat.lt_of_lt_of_le I.lt hb), I.nofs hb, .inr (Nat.le_trans I.sz hb), fun x c e z => ?_, fun p hp z => ?_⟩
  · obtain ⟨v, q⟩ := I.cell x c e
    exact absurd (Nat.lt_of_lt_of_le q.lt (by rw [z]; exact hb)) (Nat.lt_irrefl _)
  · exact absurd (Nat.lt_of_lt_of_le (Heap.lt_size (I.pin p hp).1) (by rw [z]; exact hb)) (Nat.lt_irrefl _)
structure Turn (P : Program) (w : World) (K : PySem.W.Frag) (tg : Expr) (J : It) (fp : List Addr) (it : Addr) (tn : Nat → Heap → Prop) : Prop where
  mem : it ∈ fp
  obj : ∀ i h, tn i h → ∀ b ∈ fp, ∃ o, h.get? b = some o ∧ ∀ v, o.data ≠ .cell v
  keep : ∀ i h h', tn i h → (∀ b ∈ fp, ∀ o, h.get? b = some o → h'.get? b = some o) → tn i h'
  item : ∀ (X : Cx), X.prog = P → X.w = w → X.K = K → X.calm = true → ∀ (i : Nat) (pins : List (Addr × Obj)) (s : Shared) (σ : St) (H : Hp) (E : Value → Shared → Prop), Inv X pins σ H s → (∀ b ∈ fp, FpOk X pins H b) → tn i s.heap → J.go i H →
    wpAny (model P w) X.A (pyNext (.ref it)) (fun r s1 => ∃ u, r = some u ∧
      wpAny (model P w) X.A (letOwnedTupleGo tg (.ref it) u) (fun _ s2 => ∃ x H', Inv X pins σ H' s2 ∧ RelV x u ∧ J.yld i H x H' ∧ tn (i + 1) s2.heap ∧ ∀ b ∈ fp, H' b = none) E s1) E s
  done : ∀ (X : Cx), X.prog = P → X.w = w → X.K = K → X.calm = true → ∀ (i : Nat) (pins : List (Addr × Obj)) (s : Shared) (σ : St) (H : Hp) (E : Value → Shared → Prop), Inv X pins σ H s → (∀ b ∈ fp, FpOk X pins H b) → tn i s.heap → J.stop i H →
    wpAny (model P w) X.A (pyNext (.ref it)) (fun r s1 => r = none ∧ Inv X pins σ H s1) E s
  self : ∀ (A : Around) (i : Nat) (s : Shared) (Q : Value → Shared → Prop) (E : Value → Shared → Prop), tn i s.heap → Q (.ref it) s → wpAny (model P w) A (pyIter (.ref it)) Q E s
abbrev TI := St → Hp → (It → Hp → Prop) → Prop
/-- an iterator has come -/
def PIE (X : Cx) (pins : List (Addr × Obj)) (σ : St) (tg : Expr) (R : It → Hp → Prop) (itv : Value) (s2 : Shared) : Prop :=
  ∃ (it : Addr) (fp : List Addr) (tn : Nat → Heap → Prop) (J : It) (H' : Hp), itv = .ref it ∧ Inv X pins σ H' s2 ∧ Turn X.prog X.w X.K tg J fp it tn ∧ tn 0 s2.heap ∧ (∀ b ∈ fp, FpOk X pins H' b) ∧ R J H'
def PI (X : Cx) (tg iter : Expr) (wi : TI) : Prop :=
  ∀ (pins : List (Addr × Obj)) (s : Shared) (σ : St) (H : Hp) (R : It → Hp → Prop), Inv X pins σ H s → wi σ H R →
    wpAny (model X.prog X.w) X.A (eval iter X.env) (fun v s1 => wpAny (model X.prog X.w) X.A (pyIter v) (PIE X pins σ tg R) X.xe s1) X.xe s

/-- the step ahead of the store is nothing for an iterator that keeps no tuple -/
theorem go_of {M : Model} {A : Around} {E : Value → Shared → Prop} {s : Shared} {tg : Expr} {it : Addr} {u : Value} {o : Obj} {n : String} {vs : Array Value} {Q : Unit → Shared → Prop} (ho : s.heap.get? it = some o) (hc : o.cls = .type n) (hd : o.data = .fields vs)
    (hn : ["enumerate", "zip", "dict_itemiterator", "dict_reverseitemiterator", "odict_iterator", "itertools.zip_longest", "itertools.pairwise"].contains n = false) (hQ : Q () s) : wpAny M A (letOwnedTupleGo tg (.ref it) u) Q E s := by
  unfold letOwnedTupleGo
  cases tg <;> first
    | exact wpAny_pure hQ
    | (cases u <;> first
        | exact wpAny_pure hQ
        | (refine wpAny_bind (wpAny_load ho ?_)
           rw [hc, hd]
           show wpAny M A (if (["enumerate", "zip", "dict_itemiterator", "dict_reverseitemiterator", "odict_iterator", "itertools.zip_longest", "itertools.pairwise"].contains n && vs[0]? == some (rawInt _)) = true then _ else _) Q E s
           rw [if_neg (by intro h; rw [hn, Bool.false_and] at h; cases h)]
           exact wpAny_pure hQ))

/-- the list at a, as it stands at each turn (a loop may append to it) -/
def Itl (K : PySem.W.Frag) (a : Addr) : It :=
  ⟨fun i H => ∃ xs x, SqL K H a xs ∧ xs[i]? = some x, fun i H x H' => H' = H ∧ ∀ xs, SqL K H a xs → xs[i]? = some x, fun i H => ∃ xs, SqL K H a xs ∧ xs.length ≤ i⟩
def Itt (K : PySem.W.Frag) (a : Addr) : It :=
  ⟨fun i H => ∃ xs x, SqT K H a xs ∧ xs[i]? = some x, fun i H x H' => H' = H ∧ ∀ xs, SqT K H a xs → xs[i]? = some x, fun i H => ∃ xs, SqT K H a xs ∧ xs.length ≤ i⟩
/-- lo, lo + 1, .. (n of them) -/
def Itr (lo : Int) (n : Nat) : It := ⟨fun i _ => i < n, fun i H x H' => H' = H ∧ x = .int (lo + i), fun i _ => n ≤ i⟩
theorem turn_list {P : Program} {w : World} {K : PySem.W.Frag} {tg : Expr} (a it : Addr) : Turn P w K tg (Itl K a) [it] it (fun i h => h.IsListIter it a i) where
  mem := by simp
  obj := fun i h st b hb => by
    have e : b = it := by simpa using hb
    subst e
    obtain ⟨o, e, c, d⟩ := st
    exact ⟨o, e, fun v z => by rw [d] at z; cases z⟩
  keep := fun i h h' st k => st.at fun o e => k it (by simp) o e
  item := by
    intro X hP hw hK hc i pins s σ H E I hf st hg
    subst hP hw hK
    obtain ⟨xs, x, hq, hx⟩ := hg
    obtain ⟨its, rv, p, hz⟩ := I.list hq
    obtain ⟨u, hu, ru⟩ := rv.get hx
    obtain ⟨f0, f1, f2, f3, f4, f5⟩ := hf it (by simp)
    refine wpAny_pyNext_list_item st p.isList (x := u) (by simpa using hu) fun h' st' sb => ?_
    have I1 : Inv X pins σ H { s with heap := h' } := I.turned (t' := s.toks) (fun b o hb e => (sb.2 b hb).trans e) f0 f1 f3 f4 f5
    obtain ⟨o, e, c, d⟩ := id st'
    exact ⟨u, rfl, go_of (s := { s with heap := h' }) e c d (by decide) ⟨x, H, I1, ru, ⟨rfl, fun ys hy => by rw [I.list_inj hy hq]; exact hx⟩, st', fun b hb => (hf b hb).1⟩⟩
  done := by
    intro X hP hw hK hc i pins s σ H E I hf st hg
    subst hP hw hK
    obtain ⟨xs, hq, hx⟩ := hg
    obtain ⟨its, rv, p, hz⟩ := I.list hq
    obtain ⟨f0, f1, f2, f3, f4, f5⟩ := hf it (by simp)
    have hl := rv.length
    exact wpAny_pyNext_list_end (I.ok.hd hc) st p.isList (by simp; omega) fun h' eb => ⟨rfl, I.turned (t' := s.toks) (fun b o hb e => eb b o hb e) f0 f1 f3 f4 f5⟩
  self := fun _ _ _ _ _ st h => wpAny_pyIter_listiter st h
theorem turn_tuple {P : Program} {w : World} {K : PySem.W.Frag} {tg : Expr} (a it : Addr) : Turn P w K tg (Itt K a) [it] it (fun i h => h.IsTupleIter it a i) where
  mem := by simp
  obj := fun i h st b hb => by
    have e : b = it := by simpa using hb
    subst e
    obtain ⟨o, e, c, d⟩ := st
    exact ⟨o, e, fun v z => by rw [d] at z; cases z⟩
  keep := fun i h h' st k => st.at fun o e => k it (by simp) o e
  item := by
    intro X hP hw hK hc i pins s σ H E I hf st hg
    subst hP hw hK
    obtain ⟨xs, x, hq, hx⟩ := hg
    obtain ⟨its, rv, p, hz⟩ := I.tuple hq
    obtain ⟨u, hu, ru⟩ := rv.get hx
    obtain ⟨f0, f1, f2, f3, f4, f5⟩ := hf it (by simp)
    refine wpAny_pyNext_tuple_item st (show s.heap.IsTuple a its.toArray from p) (x := u) (by simpa using hu) fun h' st' sb => ?_
    have I1 : Inv X pins σ H { s with heap := h' } := I.turned (t' := s.toks) (fun b o hb e => (sb.2 b hb).trans e) f0 f1 f3 f4 f5
    obtain ⟨o, e, c, d⟩ := id st'
    exact ⟨u, rfl, go_of (s := { s with heap := h' }) e c d (by decide) ⟨x, H, I1, ru, ⟨rfl, fun ys hy => by rw [I.tuple_inj hy hq]; exact hx⟩, st', fun b hb => (hf b hb).1⟩⟩
  done := by
    intro X hP hw hK hc i pins s σ H E I hf st hg
    subst hP hw hK
    obtain ⟨xs, hq, hx⟩ := hg
    obtain ⟨its, rv, p, hz⟩ := I.tuple hq
    obtain ⟨f0, f1, f2, f3, f4, f5⟩ := hf it (by simp)
    have hl := rv.length
    exact wpAny_pyNext_tuple_end (I.ok.hd hc) st (show s.heap.IsTuple a its.toArray from p) (by simp; omega) fun h' eb => ⟨rfl, I.turned (t' := s.toks) (fun b o hb e => eb b o hb e) f0 f1 f3 f4 f5⟩
  self := fun _ _ _ _ _ st h => wpAny_pyIter_tupleiter st h
theorem turn_range {P : Program} {w : World} {K : PySem.W.Frag} {tg : Expr} (it : Addr) (lo : Int) (n : Nat) : Turn P w K tg (Itr lo n) [it] it (fun i h => IsRangeIter h it (lo + (i : Nat) * 1) ((n : Int) - (i : Nat)) 1) where
  mem := by simp
  obj := fun i h st b hb => by
    have e : b = it := by simpa using hb
    subst e
    exact ⟨_, st, fun v z => by
      have z' : Data.fields _ = Data.cell v := z
      cases z'⟩
  keep := fun i h h' st k => k it (by simp) _ st
  item := by
    intro X hP hw hK hc i pins s σ H E I hf st hg
    subst hP hw hK
    obtain ⟨f0, f1, f2, f3, f4, f5⟩ := hf it (by simp)
    have W := Walks.range (prog := X.prog) (w := X.w) (I.ok.hd hc) it lo 1 n
    refine W.item i s _ _ hg st fun v h' tk hv st' kk => ?_
    obtain ⟨t, rfl⟩ := hv
    have I1 : Inv X pins σ H { s with heap := h', toks := tk } := I.turned (fun b o hb e => kk b o (by simpa using hb) e) f0 f1 f3 f4 f5
    refine ⟨_, rfl, go_of (s := { s with heap := h', toks := tk }) (n := "range_iterator") st' rfl rfl (by decide) ⟨.int (lo + i), H, I1, ⟨t, ?_⟩, ⟨rfl, rfl⟩, st', fun b hb => (hf b hb).1⟩⟩
    rw [Int.mul_one]
  done := by
    intro X hP hw hK hc i pins s σ H E I hf st hg
    subst hP hw hK
    obtain ⟨f0, f1, f2, f3, f4, f5⟩ := hf it (by simp)
    exact wpAny_pyNext_range_end (I.ok.hd hc) st (by have : n ≤ i := hg; omega) fun h' eb => ⟨rfl, I.turned (t' := s.toks) (fun b o hb e => eb b o hb e) f0 f1 f3 f4 f5⟩
  self := fun _ _ _ _ _ st h => wpAny_pyIter_rangeiter st h
end L2

namespace L2
open PySem PySem.Spec PyProof.Rows
section
variable {X : Cx} {tg : Expr}
def iList (K : PySem.W.Frag) (tl : TE) : TI := fun σ H R => tl σ H fun x H1 => ∃ a, x = .ref a ∧ (∃ xs, SqL K H1 a xs) ∧ R (Itl K a) H1
def iTup (K : PySem.W.Frag) (tl : TE) : TI := fun σ H R => tl σ H fun x H1 => ∃ a, x = .ref a ∧ (∃ xs, SqT K H1 a xs) ∧ R (Itt K a) H1
theorem pi_list {l : Expr} {tl : TE} (hl : PE X l tl) : PI X tg l (iList X.K tl) := by
  intro pins s σ H R I h
  refine thn (hl pins s σ H _ I h) fun v s1 ⟨x, H1, I1, r1, q1⟩ => ?_
  obtain ⟨a, e, ⟨xs, hq⟩, q⟩ := q1
  subst e
  cases r1
  obtain ⟨its, rv, p, hz⟩ := I1.list hq
  refine wpAny_pyIter_list p.isList ?_
  refine ⟨s1.heap.objs.size, [s1.heap.objs.size], _, _, H1, rfl, I1.kept (t' := s1.toks) fun b o e => Heap.get?_push_of_some _ e, turn_list a _, ⟨_, Heap.get?_push_size _ rfl, rfl, rfl⟩, fun b hb => ?_, q⟩
  have e : b = s1.heap.objs.size := by simpa using hb
  subst e
  exact I1.fpOk (Nat.le_refl _) (I1.hok.fresh (Nat.le_refl _))
theorem pi_tup {l : Expr} {tl : TE} (hl : PE X l tl) : PI X tg l (iTup X.K tl) := by
  intro pins s σ H R I h
  refine thn (hl pins s σ H _ I h) fun v s1 ⟨x, H1, I1, r1, q1⟩ => ?_
  obtain ⟨a, e, ⟨xs, hq⟩, q⟩ := q1
  subst e
  cases r1
  obtain ⟨its, rv, p, hz⟩ := I1.tuple hq
  refine wpAny_pyIter_tuple (show s1.heap.IsTuple a its.toArray from p) ?_
  refine ⟨s1.heap.objs.size, [s1.heap.objs.size], _, _, H1, rfl, I1.kept (t' := s1.toks) fun b o e => Heap.get?_push_of_some _ e, turn_tuple a _, ⟨_, Heap.get?_push_size _ rfl, rfl, rfl⟩, fun b hb => ?_, q⟩
  have e : b = s1.heap.objs.size := by simpa using hb
  subst e
  exact I1.fpOk (Nat.le_refl _) (I1.hok.fresh (Nat.le_refl _))
/-- a range object just made, walked -/
theorem range_it {pins : List (Addr × Obj)} {σ : St} {H : Hp} {s : Shared} {R : It → Hp → Prop} {E : Value → Shared → Prop} {lo hi : Int} {t u v : Tok} {tk : Nat} (I : Inv X pins σ H s) (h1 : -(2 ^ 62) ≤ lo) (h2 : lo < 2 ^ 62) (h3 : -(2 ^ 62) ≤ hi) (h4 : hi < 2 ^ 62)
    (q : R (Itr lo (hi - lo).toNat) H) : wpAny (model X.prog X.w) X.A (pyIter (.ref s.heap.objs.size)) (PIE X pins σ tg R) E { s with heap := s.heap.push { cls := .type "range", data := .fields #[.int lo t, .int hi u, .int 1 v] }, toks := tk } := by
  refine wpAny_pyIter_range (IsRange.new ..) (small_one h1 h2 h3 h4) ?_
  have I1 : Inv X pins σ H { s with heap := s.heap.push { cls := .type "range", data := .fields #[.int lo t, .int hi u, .int 1 v] }, toks := tk } := I.kept fun b o e => Heap.get?_push_of_some _ e
  refine ⟨(s.heap.push { cls := .type "range", data := .fields #[.int lo t, .int hi u, .int 1 v] }).objs.size, [(s.heap.push { cls := .type "range", data := .fields #[.int lo t, .int hi u, .int 1 v] }).objs.size], _, _, H, rfl,
    I1.kept (t' := tk) fun b o e => Heap.get?_push_of_some _ e, turn_range _ lo (hi - lo).toNat, ?_, fun b hb => ?_, q⟩
  · have e1 : lo + ((0 : Nat) : Int) * 1 = lo := by simp
    have e2 : (((hi - lo).toNat : Nat) : Int) - ((0 : Nat) : Int) = Builtin.Range.rangeSize lo hi 1 := by rw [rangeSize_one]; split <;> omega
    show IsRangeIter _ _ (lo + ((0 : Nat) : Int) * 1) ((((hi - lo).toNat : Nat) : Int) - ((0 : Nat) : Int)) 1
    rw [e1, e2]
    exact Heap.get?_push_size _ rfl
  · have e : b = (s.heap.push { cls := .type "range", data := .fields #[.int lo t, .int hi u, .int 1 v] }).objs.size := by simpa using hb
    subst e
    exact I1.fpOk (Nat.le_refl _) (I1.hok.fresh (Nat.le_refl _))
def iRng1 (ta : TA) : TI := fun σ H R => ta σ H fun vs H1 => ∃ j : Int, vs = [.int j] ∧ -(2 ^ 62) ≤ j ∧ j < 2 ^ 62 ∧ R (Itr 0 j.toNat) H1
def iRng2 (ta : TA) : TI := fun σ H R => ta σ H fun vs H1 => ∃ i j : Int, vs = [.int i, .int j] ∧ (-(2 ^ 62) ≤ i ∧ i < 2 ^ 62 ∧ -(2 ^ 62) ≤ j ∧ j < 2 ^ 62) ∧ R (Itr i (j - i).toNat) H1
theorem pi_range1 {a : Expr} {ta : TA} {p pos : Pos} (hg : Gl X "range") (hm : X.mg "range" = none) (ha : PA X [a] ta) (hs : starEach [a] X.env = [(false, eval a X.env)] := by rfl) : PI X tg (.Call (.Name "range" p) [a] [] pos) (iRng1 ta) := by
  intro pins s σ H R I h
  refine Call_ (ld_blt I hg hm boot_range (PyProof.Rows.callWith_type1 (thn (ha pos pins s σ H _ I h) fun us s1 ⟨vs, H1, I1, r1, q1⟩ => ?_) hs rfl))
  obtain ⟨j, e, q1, q2, q⟩ := q1
  subst e
  cases r1 with
  | cons r rr =>
    cases rr
    obtain ⟨t, rfl⟩ := r
    exact call_range_1 (range_it I1 (by omega) (by omega) q1 q2 (by simpa using q))
/-! ### for -/
/-- W: the invariant by the turn and a measure; N: what the body is to reach -/
def tFor (wi : TI) (g : TG) (tb : TS) : TS := fun D σ H => wi σ H fun J H1 => ∃ W : Nat → Nat → St → Hp → Prop, (∃ m, W 0 m σ H1) ∧ ∀ i m σ H, W i m σ H →
  (J.stop i H ∧ D.nx σ H) ∨ (J.go i H ∧ ∃ N : St → Hp → Prop, (∀ σ' H', N σ' H' → ∃ m', m' < m ∧ W (i + 1) m' σ' H') ∧ ∀ x H', J.yld i H x H' → g x σ H' fun σ2 H2 => tb { D with nx := N, ct := N, bk := D.nx } σ2 H2)
/-- the records at fp as they stand -/
def pinsAt (fp : List Addr) (h : Heap) : List (Addr × Obj) := fp.filterMap fun b => (h.get? b).map fun o => (b, o)
theorem mem_pinsAt {fp : List Addr} {h : Heap} {b : Addr} {o : Obj} (hb : b ∈ fp) (e : h.get? b = some o) : (b, o) ∈ pinsAt fp h := List.mem_filterMap.mpr ⟨b, hb, by rw [e]; rfl⟩
theorem of_pinsAt {fp : List Addr} {h : Heap} {p : Addr × Obj} (hp : p ∈ pinsAt fp h) : p.1 ∈ fp ∧ h.get? p.1 = some p.2 := by
  obtain ⟨b, hb, e⟩ := List.mem_filterMap.mp hp
  cases q : h.get? b with
  | none => rw [q] at e; cases e
  | some o =>
    rw [q] at e
    have e' : (b, o) = p := Option.some.inj e
    subst e'
    exact ⟨hb, q⟩
theorem Inv.pinned {pins : List (Addr × Obj)} {σ : St} {H : Hp} {s : Shared} {fp : List Addr} (I : Inv X pins σ H s) (hf : ∀ b ∈ fp, FpOk X pins H b) (ho : ∀ b ∈ fp, ∃ o, s.heap.get? b = some o ∧ ∀ v, o.data ≠ .cell v) : Inv X (pins ++ pinsAt fp s.heap) σ H s :=
  I.pins_of fun p hp => (List.mem_append.mp hp).elim (fun z => I.pin p (List.mem_append_right _ z)) fun z => by
    obtain ⟨hb, e⟩ := of_pinsAt z
    obtain ⟨f0, f1, f2, _⟩ := hf p.1 hb
    obtain ⟨o, e', d⟩ := ho p.1 hb
    rw [e] at e'; cases e'
    exact ⟨e, f0, f1, f2, d⟩
theorem Inv.unpinned {pins pl : List (Addr × Obj)} {σ : St} {H : Hp} {s : Shared} (I : Inv X (pins ++ pl) σ H s) : Inv X pins σ H s := I.pins_of fun p hp => I.pin p (List.mem_append_right _ (List.mem_append_left _ hp))
theorem ps_for {iter : Expr} {body : List Stmt} {wi : TI} {g : TG} {tb : TS} {pos : Pos} (hp : PassesOwn (model X.prog X.w) X.A X.env X.xe) (hc : X.calm = true) (hi : PI X tg iter wi) (hg : PG X tg g) (hb : PSs X body tb)
    (hs : ∀ x, foldedSetIterable iter X.env x = pure x := by intro _; rfl) : PS X (.For tg iter body [] pos) (tFor wi g tb) := by
  intro pins s σ H D I h
  refine wpAny_For (thn (hi pins s σ H _ I h) fun v s1 h1 => thn h1 fun itv s2 h2 => ?_) hs
  obtain ⟨it, fp, tn, J, H2, e, I2, T, st2, f2, W, ⟨m0, w0⟩, turn⟩ := h2
  subst e
  -- what stays true of the iterator's objects through the loop
  have stat : ∀ {H' : Hp}, (∀ b ∈ fp, H' b = none) → ∀ b ∈ fp, FpOk X pins H' b := fun hn b hb => ⟨hn b hb, (f2 b hb).2⟩
  refine codeAny_forLoop_any (fun n s' => ∃ i σ' H', Inv X pins σ' H' s' ∧ tn i s'.heap ∧ (∀ b ∈ fp, H' b = none) ∧ W i n σ' H') ?_ m0 ⟨0, σ, H2, I2, st2, fun b hb => (f2 b hb).1, w0⟩
  rintro n s3 ⟨i, σ3, H3, I3, st3, fr3, w3⟩
  rcases turn i n σ3 H3 w3 with ⟨stop, qn⟩ | ⟨go, N, hN, step⟩
  · refine wpAny_passesOwn hp (thn (T.done X rfl rfl rfl hc i pins s3 σ3 H3 X.xe I3 (stat fr3) st3 stop) fun r s4 ⟨hr, I4⟩ => ?_)
    subst hr
    exact wpAny_execs_nil ⟨σ3, H3, I4, qn⟩
  · refine wpAny_passesOwn hp (thn (T.item X rfl rfl rfl hc i pins s3 σ3 H3 X.xe I3 (stat fr3) st3 go) fun r s4 ⟨u, hr, h4⟩ => ?_)
    subst hr
    refine wpAny_passesOwn hp (thn h4 fun _ s5 ⟨x, H5, I5, r5, y5, st5, fr5⟩ => ?_)
    have I5' := I5.pinned (stat fr5) (T.obj _ _ st5)
    refine wpAny_passesOwn hp (thn (hg _ s5 σ3 H5 x u _ I5' r5 (step x H5 y5)) fun _ s6 ⟨σ6, H6, I6, q6⟩ => ?_)
    refine wpAny_passesOwn hp (thn (hb _ s6 σ6 H6 _ I6 q6) fun f s7 q7 => ?_)
    have again : ∀ {σ7 : St} {H7 : Hp}, Inv X (pins ++ pinsAt fp s5.heap) σ7 H7 s7 → N σ7 H7 → ∃ m, m < n ∧ ∃ i σ' H', Inv X pins σ' H' s7 ∧ tn i s7.heap ∧ (∀ b ∈ fp, H' b = none) ∧ W i m σ' H' := fun {σ7 H7} I7 n7 => by
      obtain ⟨m', hm, w7⟩ := hN σ7 H7 n7
      refine ⟨m', hm, i + 1, σ7, H7, I7.unpinned, T.keep _ _ _ st5 fun b hb o e => (I7.pin (b, o) (List.mem_append_right _ (List.mem_append_right _ (mem_pinsAt hb e)))).1, fun b hb => ?_, w7⟩
      obtain ⟨o, e, d⟩ := T.obj _ _ st5 b hb
      exact (I7.pin (b, o) (List.mem_append_right _ (List.mem_append_right _ (mem_pinsAt hb e)))).2.1
    cases f with
    | next => obtain ⟨σ7, H7, I7, n7⟩ := q7; exact again I7 n7
    | cont => obtain ⟨σ7, H7, I7, n7⟩ := q7; exact again I7 n7
    | brk => obtain ⟨σ7, H7, I7, q7⟩ := q7; exact ⟨σ7, H7, I7.unpinned, q7⟩
    | ret v => obtain ⟨x7, σ7, H7, I7, r7, q7⟩ := q7; exact ⟨x7, σ7, H7, I7.unpinned, r7, q7⟩
end

/-! ### the forms one uses -/
/-- over a list that the body leaves as it is -/
theorem for_list {K : PySem.W.Frag} {a : Addr} {xs : List V} {g : TG} {tb : TS} {D : Ends} {σ : St} {H : Hp} (Pv : Nat → St → Hp → Prop) (h0 : Pv 0 σ H) (hl : ∀ i σ H, i ≤ xs.length → Pv i σ H → SqL K H a xs)
    (hs : ∀ i x σ H, xs[i]? = some x → Pv i σ H → g x σ H fun σ2 H2 => tb { D with nx := Pv (i + 1), ct := Pv (i + 1), bk := D.nx } σ2 H2) (hd : ∀ σ H, Pv xs.length σ H → D.nx σ H) :
    ∃ W : Nat → Nat → St → Hp → Prop, (∃ m, W 0 m σ H) ∧ ∀ i m σ H, W i m σ H →
      ((Itl K a).stop i H ∧ D.nx σ H) ∨ ((Itl K a).go i H ∧ ∃ N : St → Hp → Prop, (∀ σ' H', N σ' H' → ∃ m', m' < m ∧ W (i + 1) m' σ' H') ∧ ∀ x H', (Itl K a).yld i H x H' → g x σ H' fun σ2 H2 => tb { D with nx := N, ct := N, bk := D.nx } σ2 H2) := by
  refine ⟨fun i m σ H => m = xs.length - i ∧ i ≤ xs.length ∧ Pv i σ H, ⟨xs.length, by simp, Nat.zero_le _, h0⟩, ?_⟩
  rintro i m σ H ⟨rfl, hi, p⟩
  have q := hl i σ H hi p
  by_cases hlt : i < xs.length
  · refine .inr ⟨⟨xs, xs[i], q, by simp [hlt]⟩, Pv (i + 1), fun σ' H' p' => ⟨xs.length - (i + 1), by omega, rfl, hlt, p'⟩, fun x H' y => ?_⟩
    obtain ⟨e, y⟩ := y
    subst e
    exact hs i x σ _ (y xs q) p
  · have e : i = xs.length := by omega
    subst e
    exact .inl ⟨⟨xs, q, Nat.le_refl _⟩, hd σ H p⟩
theorem for_tup {K : PySem.W.Frag} {a : Addr} {xs : List V} {g : TG} {tb : TS} {D : Ends} {σ : St} {H : Hp} (Pv : Nat → St → Hp → Prop) (h0 : Pv 0 σ H) (hl : ∀ i σ H, i ≤ xs.length → Pv i σ H → SqT K H a xs)
    (hs : ∀ i x σ H, xs[i]? = some x → Pv i σ H → g x σ H fun σ2 H2 => tb { D with nx := Pv (i + 1), ct := Pv (i + 1), bk := D.nx } σ2 H2) (hd : ∀ σ H, Pv xs.length σ H → D.nx σ H) :
    ∃ W : Nat → Nat → St → Hp → Prop, (∃ m, W 0 m σ H) ∧ ∀ i m σ H, W i m σ H →
      ((Itt K a).stop i H ∧ D.nx σ H) ∨ ((Itt K a).go i H ∧ ∃ N : St → Hp → Prop, (∀ σ' H', N σ' H' → ∃ m', m' < m ∧ W (i + 1) m' σ' H') ∧ ∀ x H', (Itt K a).yld i H x H' → g x σ H' fun σ2 H2 => tb { D with nx := N, ct := N, bk := D.nx } σ2 H2) := by
  refine ⟨fun i m σ H => m = xs.length - i ∧ i ≤ xs.length ∧ Pv i σ H, ⟨xs.length, by simp, Nat.zero_le _, h0⟩, ?_⟩
  rintro i m σ H ⟨rfl, hi, p⟩
  have q := hl i σ H hi p
  by_cases hlt : i < xs.length
  · refine .inr ⟨⟨xs, xs[i], q, by simp [hlt]⟩, Pv (i + 1), fun σ' H' p' => ⟨xs.length - (i + 1), by omega, rfl, hlt, p'⟩, fun x H' y => ?_⟩
    obtain ⟨e, y⟩ := y
    subst e
    exact hs i x σ _ (y xs q) p
  · have e : i = xs.length := by omega
    subst e
    exact .inl ⟨⟨xs, q, Nat.le_refl _⟩, hd σ H p⟩
theorem for_range {lo : Int} {n : Nat} {g : TG} {tb : TS} {D : Ends} {σ : St} {H : Hp} (Pv : Nat → St → Hp → Prop) (h0 : Pv 0 σ H)
    (hs : ∀ i σ H, i < n → Pv i σ H → g (.int (lo + i)) σ H fun σ2 H2 => tb { D with nx := Pv (i + 1), ct := Pv (i + 1), bk := D.nx } σ2 H2) (hd : ∀ σ H, Pv n σ H → D.nx σ H) :
    ∃ W : Nat → Nat → St → Hp → Prop, (∃ m, W 0 m σ H) ∧ ∀ i m σ H, W i m σ H →
      ((Itr lo n).stop i H ∧ D.nx σ H) ∨ ((Itr lo n).go i H ∧ ∃ N : St → Hp → Prop, (∀ σ' H', N σ' H' → ∃ m', m' < m ∧ W (i + 1) m' σ' H') ∧ ∀ x H', (Itr lo n).yld i H x H' → g x σ H' fun σ2 H2 => tb { D with nx := N, ct := N, bk := D.nx } σ2 H2) := by
  refine ⟨fun i m σ H => m = n - i ∧ i ≤ n ∧ Pv i σ H, ⟨n, by simp, Nat.zero_le _, h0⟩, ?_⟩
  rintro i m σ H ⟨rfl, hi, p⟩
  by_cases hlt : i < n
  · refine .inr ⟨hlt, Pv (i + 1), fun σ' H' p' => ⟨n - (i + 1), by omega, rfl, hlt, p'⟩, fun x H' y => ?_⟩
    obtain ⟨e, y⟩ := y
    subst e y
    exact hs i σ _ hlt p
  · have e : i = n := by omega
    subst e
    exact .inl ⟨Nat.le_refl _, hd σ H p⟩
/-- while, by a word and a measure of the state -/
theorem while_by {c : TT} {tb : TS} {D : Ends} {σ : St} {H : Hp} (Pv : St → Hp → Prop) (μ : St → Hp → Nat) (h0 : Pv σ H)
    (hs : ∀ σ H, Pv σ H → c σ H fun b H1 => if b = true then tb { D with nx := fun σ' H' => Pv σ' H' ∧ μ σ' H' < μ σ H, ct := fun σ' H' => Pv σ' H' ∧ μ σ' H' < μ σ H, bk := D.nx } σ H1 else D.nx σ H1)
    (mono : ∀ σ H Q Q', (∀ b H1, Q b H1 → Q' b H1) → c σ H Q → c σ H Q') : tWhile c tb D σ H := by
  refine ⟨fun m σ H => m = μ σ H ∧ Pv σ H, ⟨_, rfl, h0⟩, ?_⟩
  rintro m σ H ⟨rfl, p⟩
  refine mono σ H _ _ (fun b H1 q => ?_) (hs σ H p)
  cases b with
  | true => exact ⟨_, fun σ' H' ⟨p', l⟩ => ⟨_, l, rfl, p'⟩, q⟩
  | false => exact q
end L2

namespace L2
open PySem PySem.Spec PyProof.Rows

abbrev R2 := V → V → Hp → VK → Prop
/-- a two-place operation on values: f is binaryOp op, inplaceOp op or compareOp op -/
def OpR (X : Cx) (f : Value → Value → Sem Value) (r : R2) : Prop :=
  ∀ (pins : List (Addr × Obj)) (s : Shared) (σ : St) (H : Hp) (x y : V) (v u : Value) (Q : VK), Inv X pins σ H s → RelV x v → RelV y u → r x y H Q →
    wpAny (model X.prog X.w) X.A (f v u) (EP X pins σ Q) X.xe s
/-- a one-place operation -/
def UnR (X : Cx) (f : Value → Sem Value) (r : V → Hp → VK → Prop) : Prop :=
  ∀ (pins : List (Addr × Obj)) (s : Shared) (σ : St) (H : Hp) (x : V) (v : Value) (Q : VK), Inv X pins σ H s → RelV x v → r x H Q →
    wpAny (model X.prog X.w) X.A (f v) (EP X pins σ Q) X.xe s
/-- a call of a value that is known (a builtin, a type) with values -/
def CallR (X : Cx) (f : Value) (r : List V → Hp → VK → Prop) : Prop :=
  ∀ (pins : List (Addr × Obj)) (s : Shared) (σ : St) (H : Hp) (xs : List V) (us : List Value) (Q : VK), Inv X pins σ H s → Vals xs us → r xs H Q →
    wpAny (model X.prog X.w) X.A (call f us) (EP X pins σ Q) X.xe s
def tOp (r : R2) (ta tb : TE) : TE := fun σ H Q => ta σ H fun x H1 => tb σ H1 fun y H2 => r x y H2 Q
def tUn (r : V → Hp → VK → Prop) (ta : TE) : TE := fun σ H Q => ta σ H fun x H1 => r x H1 Q
/-- ints in, under C, and a value out -/
def rI (C : Int → Int → Prop) (g : Int → Int → V) : R2 := fun x y H Q => ∃ i j, x = .int i ∧ y = .int j ∧ C i j ∧ Q (g i j) H
def rI0 (g : Int → Int → V) : R2 := fun x y H Q => ∃ i j, x = .int i ∧ y = .int j ∧ Q (g i j) H
def rU (g : Int → V) : V → Hp → VK → Prop := fun x H Q => ∃ i, x = .int i ∧ Q (g i) H

section
variable {X : Cx} {a b c : Expr} {ta tb tc : TE} {pos : Pos}

theorem binT (ha : PE X a ta) (hb : PE X b tb) {pins : List (Addr × Obj)} {s : Shared} {σ : St} {H : Hp} {R : V → V → Hp → Prop} (I : Inv X pins σ H s)
    (h : ta σ H fun x H1 => tb σ H1 fun y H2 => R x y H2) {Q : Value → Shared → Prop} {f : Value → Value → Sem Value}
    (hf : ∀ v u s2 x y H2, Inv X pins σ H2 s2 → RelV x v → RelV y u → R x y H2 → wpAny (model X.prog X.w) X.A (f v u) Q X.xe s2) :
    wpAny (model X.prog X.w) X.A (eval a X.env) (fun v s₁ => wpAny (model X.prog X.w) X.A (eval b X.env) (fun u s₂ => wpAny (model X.prog X.w) X.A (f v u) Q X.xe s₂) X.xe s₁) X.xe s := by
  refine thn (ha pins s σ H _ I h) fun v s1 ⟨x, H1, I1, r1, q1⟩ => ?_
  refine thn (hb pins s1 σ H1 _ I1 q1) fun u s2 ⟨y, H2, I2, r2, q2⟩ => ?_
  exact hf v u s2 x y H2 I2 r1 r2 q2

theorem pe_op {op : Operator} {r : R2} (ho : OpR X (binaryOp op) r) (ha : PE X a ta) (hb : PE X b tb) : PE X (.BinOp a op b pos) (tOp r ta tb) := by
  intro pins s σ H Q I h
  exact wpAny_BinOp (binT ha hb I h fun v u s2 x y H2 I2 rx ry q => ho pins s2 σ H2 x y v u Q I2 rx ry q)
theorem pe_un {op : UnaryOp} {r : V → Hp → VK → Prop} (ho : UnR X (unaryOp op) r) (ha : PE X a ta) : PE X (.UnaryOp op a pos) (tUn r ta) := by
  intro pins s σ H Q I h
  exact UnaryOp_ (thn (ha pins s σ H _ I h) fun v s1 ⟨x, H1, I1, r1, q1⟩ => ho pins s1 σ H1 x v Q I1 r1 q1)
/-! ### ints -/
theorem opI {f : Value → Value → Sem Value} {C : Int → Int → Prop} {g : Int → Int → Int}
    (rule : ∀ (i j : Int) (t u : Tok) (s : Shared) (Q : Value → Shared → Prop) (E : Value → Shared → Prop), C i j → Q (.int (g i j) s.toks) { s with toks := s.toks + 1 } → wpAny (model X.prog X.w) X.A (f (.int i t) (.int j u)) Q E s) :
    OpR X f (rI C fun i j => .int (g i j)) := by
  intro pins s σ H x y v u Q I rx ry h
  obtain ⟨i, j, rfl, rfl, hc, q⟩ := h
  obtain ⟨t, rfl⟩ := rx
  obtain ⟨t', rfl⟩ := ry
  exact rule i j t t' s _ _ hc ⟨.int (g i j), H, I.tok _, ⟨_, rfl⟩, q⟩
theorem opI0 {f : Value → Value → Sem Value} {g : Int → Int → Int}
    (rule : ∀ (i j : Int) (t u : Tok) (s : Shared) (Q : Value → Shared → Prop) (E : Value → Shared → Prop), Q (.int (g i j) s.toks) { s with toks := s.toks + 1 } → wpAny (model X.prog X.w) X.A (f (.int i t) (.int j u)) Q E s) :
    OpR X f (rI0 fun i j => .int (g i j)) := by
  intro pins s σ H x y v u Q I rx ry h
  obtain ⟨i, j, rfl, rfl, q⟩ := h
  obtain ⟨t, rfl⟩ := rx
  obtain ⟨t', rfl⟩ := ry
  exact rule i j t t' s _ _ ⟨.int (g i j), H, I.tok _, ⟨_, rfl⟩, q⟩
theorem opB0 {f : Value → Value → Sem Value} {g : Int → Int → Bool}
    (rule : ∀ (i j : Int) (t u : Tok) (s : Shared) (Q : Value → Shared → Prop) (E : Value → Shared → Prop), Q (.bool (g i j)) s → wpAny (model X.prog X.w) X.A (f (.int i t) (.int j u)) Q E s) :
    OpR X f (rI0 fun i j => .bl (g i j)) := by
  intro pins s σ H x y v u Q I rx ry h
  obtain ⟨i, j, rfl, rfl, q⟩ := h
  obtain ⟨t, rfl⟩ := rx
  obtain ⟨t', rfl⟩ := ry
  exact rule i j t t' s _ _ ⟨.bl (g i j), H, I, rfl, q⟩

def CDiv (i j : Int) : Prop := 0 < j ∧ j < 1073741824
def CPow (i j : Int) : Prop := 0 ≤ j ∧ j ≤ 1000000 ∧ i.natAbs < 2 ^ 64
def CMul (i j : Int) : Prop := (-(2 ^ 64) < i ∧ i < 2 ^ 64) ∨ (-(2 ^ 64) < j ∧ j < 2 ^ 64)
theorem CMul.ok {i j : Int} (h : CMul i j) : IntMulOk i j := by
  rcases h with ⟨h1, h2⟩ | ⟨h1, h2⟩
  · exact .of_left (intBits_le_64 h1 h2)
  · exact .of_right (intBits_le_64 h1 h2)
theorem op_add : OpR X (binaryOp .Add) (rI0 fun i j => .int (i + j)) := opI0 fun _ _ _ _ _ _ _ q => add_int q
theorem op_sub : OpR X (binaryOp .Sub) (rI0 fun i j => .int (i - j)) := opI0 fun _ _ _ _ _ _ _ q => sub_int q
theorem op_mul : OpR X (binaryOp .Mult) (rI CMul fun i j => .int (i * j)) := opI fun _ _ _ _ _ _ _ hc q => mul_int q hc.ok
/-- // by a positive divisor -/
theorem op_fdiv : OpR X (binaryOp .FloorDiv) (rI CDiv fun i j => .int (i / j)) := opI fun i j _ _ _ _ _ hc q => by
  have h1 : (0 : Int) < j := hc.1
  have h2 : j < 1073741824 := hc.2
  exact floordiv_int (by omega) (by rw [Int.fdiv_eq_ediv_of_nonneg i (by omega)]; exact q) (.inl (PyProof.noPylong_small (by omega)))
/-- % by a positive divisor of any size -/
theorem op_mod : OpR X (binaryOp .Mod) (rI (fun _ j => 0 < j) fun i j => .int (i % j)) := opI fun i j _ _ _ _ _ hc q => by
  have h1 : (0 : Int) < j := hc
  exact mod_int' (by omega) (by rw [Int.fmod_eq_emod_of_nonneg i (by omega)]; exact q)
theorem op_pow : OpR X (binaryOp .Pow) (rI CPow fun i j => .int (i ^ j.toNat)) := opI fun _ _ _ _ _ _ _ hc q => pow_int_small hc.1 hc.2.1 hc.2.2 q
theorem iop_mul : OpR X (inplaceOp .Mult) (rI CMul fun i j => .int (i * j)) := opI fun _ _ _ _ _ _ _ hc q => imul_int q hc.ok
theorem unI {f : Value → Sem Value} {g : Int → Int}
    (rule : ∀ (i : Int) (t : Tok) (s : Shared) (Q : Value → Shared → Prop) (E : Value → Shared → Prop), Q (.int (g i) s.toks) { s with toks := s.toks + 1 } → wpAny (model X.prog X.w) X.A (f (.int i t)) Q E s) :
    UnR X f (rU fun i => .int (g i)) := by
  intro pins s σ H x v Q I rx h
  obtain ⟨i, rfl, q⟩ := h
  obtain ⟨t, rfl⟩ := rx
  exact rule i t s _ _ ⟨.int (g i), H, I.tok _, ⟨_, rfl⟩, q⟩
theorem un_neg : UnR X (unaryOp .USub) (rU fun i => .int (-i)) := unI fun _ _ _ _ _ q => neg_int q
/-! ### bools among ints: n += (a < b) -/
end

/-! ### comparisons -/
/-- the scalars that == tells apart as data does -/
def scal : V → V → Bool
  | .non, .non => true | .non, .int _ => true | .int _, .non => true | .non, .bl _ => true | .bl _, .non => true | .non, .str _ => true | .str _, .non => true
  | .int _, .int _ => true | .bl _, .bl _ => true | .str _, .str _ => true | .byt _, .byt _ => true
  | .int _, .str _ => true | .str _, .int _ => true | .bl _, .str _ => true | .str _, .bl _ => true
  | _, _ => false
def rEq : R2 := fun x y H Q => scal x y = true ∧ Q (.bl (decide (x = y))) H
def rNe : R2 := fun x y H Q => scal x y = true ∧ Q (.bl (!decide (x = y))) H

theorem dec_int {i j : Int} : decide (V.int i = V.int j) = (i == j) := by
  rw [Bool.eq_iff_iff]
  simp
theorem dec_bl {i j : Bool} : decide (V.bl i = V.bl j) = (i == j) := by
  rw [Bool.eq_iff_iff]
  simp
theorem dec_str {i j : Str} : decide (V.str i = V.str j) = (i == j) := by
  rw [Bool.eq_iff_iff]
  simp
theorem dec_byt {i j : Array UInt8} : decide (V.byt i = V.byt j) = (i.toList == j.toList) := by
  rw [Bool.eq_iff_iff]
  cases i
  cases j
  simp

section
variable {X : Cx} {a b c : Expr} {ta tb tc : TE} {pos : Pos}
theorem fin_bl {pins : List (Addr × Obj)} {σ : St} {H : Hp} {s : Shared} {Q : VK} {k k' : Bool} (I : Inv X pins σ H s) (q : Q (.bl k) H) (e : k = k') : EP X pins σ Q (.bool k') s := by
  subst e
  exact ⟨.bl k, H, I, rfl, q⟩
theorem op_eq : OpR X (compareOp .Eq) rEq := by
  intro pins s σ H x y v u Q I rx ry h
  obtain ⟨hs, q⟩ := h
  cases x with
  | non =>
    cases rx
    cases y with
    | non => cases ry; exact PySem.EqNone.eq_none_none (fin_bl I q (by simp))
    | bl j => cases ry; exact PySem.EqNone.eq_none_bool (fin_bl I q (by simp))
    | int j => obtain ⟨t', rfl⟩ := ry; exact PySem.EqNone.eq_none_int (fin_bl I q (by simp))
    | str j => obtain ⟨t', rfl⟩ := ry; exact PySem.EqNone.eq_none_str (fin_bl I q (by simp))
    | _ => exact absurd (show false = true from hs) Bool.false_ne_true
  | bl i =>
    cases rx
    cases y with
    | non => cases ry; exact PySem.EqNone.eq_bool_none (fin_bl I q (by simp))
    | bl j => cases ry; exact eq_bool (fin_bl I q dec_bl)
    | str j => obtain ⟨t', rfl⟩ := ry; exact PySem.EqMixed.eq_bool_str (fin_bl I q (by simp))
    | _ => exact absurd (show false = true from hs) Bool.false_ne_true
  | int i =>
    obtain ⟨t, rfl⟩ := rx
    cases y with
    | non => cases ry; exact PySem.EqNone.eq_int_none (fin_bl I q (by simp))
    | int j => obtain ⟨t', rfl⟩ := ry; exact eq_int (fin_bl I q dec_int)
    | str j => obtain ⟨t', rfl⟩ := ry; exact PySem.EqMixed.eq_int_str (fin_bl I q (by simp))
    | _ => exact absurd (show false = true from hs) Bool.false_ne_true
  | str i =>
    obtain ⟨t, rfl⟩ := rx
    cases y with
    | non => cases ry; exact PySem.EqNone.eq_str_none (fin_bl I q (by simp))
    | bl j => cases ry; exact PySem.EqMixed.eq_str_bool (fin_bl I q (by simp))
    | int j => obtain ⟨t', rfl⟩ := ry; exact PySem.EqMixed.eq_str_int (fin_bl I q (by simp))
    | str j => obtain ⟨t', rfl⟩ := ry; exact eq_str (fin_bl I q dec_str)
    | _ => exact absurd (show false = true from hs) Bool.false_ne_true
  | byt i =>
    obtain ⟨t, rfl⟩ := rx
    cases y with
    | byt j => obtain ⟨t', rfl⟩ := ry; exact PySem.W.eq_bytes (fin_bl I q dec_byt)
    | _ => exact absurd (show false = true from hs) Bool.false_ne_true
  | _ => cases y <;> exact absurd (show false = true from hs) Bool.false_ne_true
theorem op_ne : OpR X (compareOp .NotEq) rNe := by
  intro pins s σ H x y v u Q I rx ry h
  obtain ⟨hs, q⟩ := h
  cases x with
  | non =>
    cases rx
    cases y with
    | non => cases ry; exact PySem.EqNone.ne_none_none (fin_bl I q (by simp))
    | bl j => cases ry; exact PySem.EqNone.ne_none_bool (fin_bl I q (by simp))
    | int j => obtain ⟨t', rfl⟩ := ry; exact PySem.EqNone.ne_none_int (fin_bl I q (by simp))
    | str j => obtain ⟨t', rfl⟩ := ry; exact PySem.EqNone.ne_none_str (fin_bl I q (by simp))
    | _ => exact absurd (show false = true from hs) Bool.false_ne_true
  | bl i =>
    cases rx
    cases y with
    | non => cases ry; exact PySem.EqNone.ne_bool_none (fin_bl I q (by simp))
    | bl j => cases ry; exact ne_bool (fin_bl I q (congrArg not dec_bl))
    | str j => obtain ⟨t', rfl⟩ := ry; exact PySem.EqMixed.ne_bool_str (fin_bl I q (by simp))
    | _ => exact absurd (show false = true from hs) Bool.false_ne_true
  | int i =>
    obtain ⟨t, rfl⟩ := rx
    cases y with
    | non => cases ry; exact PySem.EqNone.ne_int_none (fin_bl I q (by simp))
    | int j => obtain ⟨t', rfl⟩ := ry; exact ne_int (fin_bl I q (congrArg not dec_int))
    | str j => obtain ⟨t', rfl⟩ := ry; exact PySem.EqMixed.ne_int_str (fin_bl I q (by simp))
    | _ => exact absurd (show false = true from hs) Bool.false_ne_true
  | str i =>
    obtain ⟨t, rfl⟩ := rx
    cases y with
    | non => cases ry; exact PySem.EqNone.ne_str_none (fin_bl I q (by simp))
    | bl j => cases ry; exact PySem.EqMixed.ne_str_bool (fin_bl I q (by simp))
    | int j => obtain ⟨t', rfl⟩ := ry; exact PySem.EqMixed.ne_str_int (fin_bl I q (by simp))
    | str j => obtain ⟨t', rfl⟩ := ry; exact ne_str (fin_bl I q (congrArg not dec_str))
    | _ => exact absurd (show false = true from hs) Bool.false_ne_true
  | byt i =>
    obtain ⟨t, rfl⟩ := rx
    cases y with
    | byt j => obtain ⟨t', rfl⟩ := ry; exact PySem.W.ne_bytes (fin_bl I q (congrArg not dec_byt))
    | _ => exact absurd (show false = true from hs) Bool.false_ne_true
  | _ => cases y <;> exact absurd (show false = true from hs) Bool.false_ne_true

theorem op_lt : OpR X (compareOp .Lt) (rI0 fun i j => .bl (decide (i < j))) := opB0 fun _ _ _ _ _ _ _ q => lt_int q
theorem op_le : OpR X (compareOp .LtE) (rI0 fun i j => .bl (decide (i ≤ j))) := opB0 fun _ _ _ _ _ _ _ q => le_int q
theorem op_gt : OpR X (compareOp .Gt) (rI0 fun i j => .bl (decide (j < i))) := opB0 fun _ _ _ _ _ _ _ q => gt_int q
theorem op_ge : OpR X (compareOp .GtE) (rI0 fun i j => .bl (decide (j ≤ i))) := opB0 fun _ _ _ _ _ _ _ q => ge_int q
/-- is None, is not None: the right side a value none -/
theorem op_isN : OpR X (compareOp .Is) (fun x y H Q => y = .non ∧ Q (.bl (decide (x = .non))) H) := by
  intro pins s σ H x y v u Q I rx ry h
  obtain ⟨rfl, q⟩ := h
  cases ry
  refine is_none_gen (fin_bl I q ?_)
  cases x <;> first
    | (cases rx; rfl)
    | (obtain ⟨t, rfl⟩ := rx; rfl)
theorem op_notN : OpR X (compareOp .IsNot) (fun x y H Q => y = .non ∧ Q (.bl (!decide (x = .non))) H) := by
  intro pins s σ H x y v u Q I rx ry h
  obtain ⟨rfl, q⟩ := h
  cases ry
  refine isnot_none_gen (fin_bl I q ?_)
  cases x <;> first
    | (cases rx; rfl)
    | (obtain ⟨t, rfl⟩ := rx; rfl)

/-- two rules for one operation: by cases -/
theorem OpR.or {f : Value → Value → Sem Value} {r r' : R2} (h : OpR X f r) (h' : OpR X f r') : OpR X f (fun x y H Q => r x y H Q ∨ r' x y H Q) := by
  intro pins s σ H x y v u Q I rx ry q
  rcases q with q | q
  · exact h pins s σ H x y v u Q I rx ry q
  · exact h' pins s σ H x y v u Q I rx ry q

theorem nomark (b : Expr) {op : CmpOp} (h : op ≠ .In := by decide) (h2 : op ≠ .NotIn := by decide) : behindInMarks op b = false := by
  have e1 : (op == CmpOp.In) = false := by cases op <;> first | rfl | exact absurd rfl h
  have e2 : (op == CmpOp.NotIn) = false := by cases op <;> first | rfl | exact absurd rfl h2
  cases b <;> simp [behindInMarks, e1, e2]
/-- a comparison as a value; hm: nomark b, or (for in, not in) by with_unfolding_all rfl -/
theorem pe_cmpR {op : CmpOp} {r : R2} (ho : OpR X (compareOp op) r) (ha : PE X a ta) (hb : PE X b tb) (hm : behindInMarks op b = false) : PE X (.Compare a [op] [b] pos) (tOp r ta tb) := by
  intro pins s σ H Q I h
  exact wpAny_Compare1 (binT ha hb I h fun v u s2 x y H2 I2 rx ry q => ho pins s2 σ H2 x y v u Q I2 rx ry q) hm
/-- a reading of a value as a test -/
def tTest (t : TE) : TT := fun σ H Q => t σ H fun x H' => ∃ k, x = .bl k ∧ Q k H'
theorem pt_cmpR {op : CmpOp} {r : R2} (ho : OpR X (compareOp op) r) (ha : PE X a ta) (hb : PE X b tb) (hm : behindInMarks op b = false) : PT X (.Compare a [op] [b] pos) (tTest (tOp r ta tb)) := by
  intro pins s σ H Q I h
  refine wpAny_isTrue_Compare1 (thn (ha pins s σ H _ I h) fun v s1 ⟨x, H1, I1, r1, q1⟩ => thn (hb pins s1 σ H1 _ I1 q1) fun u s2 ⟨y, H2, I2, r2, q2⟩ =>
    thn (ho pins s2 σ H2 x y v u _ I2 r1 r2 q2) fun c s3 ⟨z, H3, I3, r3, k, e, q3⟩ => ?_) hm
  subst e
  cases r3
  exact wpAny_truthy_bool ⟨H3, I3, q3⟩
/-- a op1 b op2 c -/
def tChain (r r' : R2) (ta tb tc : TE) : TE := fun σ H Q => ta σ H fun x H1 => tb σ H1 fun y H2 => r x y H2 fun z H3 => ∃ k, z = .bl k ∧
  (if k = true then tc σ H3 fun w' H4 => r' y w' H4 Q else Q (.bl false) H3)
theorem pe_chain {op op' : CmpOp} {r r' : R2} (ho : OpR X (compareOp op) r) (ho' : OpR X (compareOp op') r') (ha : PE X a ta) (hb : PE X b tb) (hc : PE X c tc)
    (hm : lastMarks [op, op'] [b, c] = false := by with_unfolding_all rfl) : PE X (.Compare a [op, op'] [b, c] pos) (tChain r r' ta tb tc) := by
  intro pins s σ H Q I h
  refine Compare_chain (thn (ha pins s σ H _ I h) fun v s1 ⟨x, H1, I1, r1, q1⟩ => chain_link (thn (hb pins s1 σ H1 _ I1 q1) fun u s2 ⟨y, H2, I2, r2, q2⟩ =>
    thn (ho pins s2 σ H2 x y v u _ I2 r1 r2 q2) fun d s3 ⟨z, H3, I3, r3, k, e, q3⟩ => ?_)) hm
  subst e
  cases r3
  refine wpAny_truthy_bool ?_
  cases k with
  | false => exact ite_ff ⟨.bl false, H3, I3, rfl, q3⟩
  | true => exact ite_tt (chain_last (thn (hc pins s3 σ H3 _ I3 q3) fun w' s4 ⟨z', H4, I4, r4, q4⟩ => ho' pins s4 σ H4 y z' u w' Q I4 r2 r4 q4))
/-! ### truth -/
theorem line63 : (sizeLine : Nat) < 2 ^ 63 := by rw [sizeLine_eq]; decide
/-! ### strs and bytes -/
/-! ### scalar builtins, by CallR -/
theorem vals1 {x : V} {us : List Value} (r : Vals [x] us) : ∃ u, us = [u] ∧ RelV x u := by
  cases r with
  | cons r1 r2 => cases r2; exact ⟨_, rfl, r1⟩
theorem vals2 {x y : V} {us : List Value} (r : Vals [x, y] us) : ∃ u w', us = [u, w'] ∧ RelV x u ∧ RelV y w' := by
  cases r with
  | cons r1 r2 =>
    cases r2 with
    | cons r3 r4 => cases r4; exact ⟨_, _, rfl, r1, r3⟩
theorem call_abs : CallR X (.builtin "abs") (fun xs H Q => ∃ i, xs = [.int i] ∧ Q (.int (if i < 0 then -i else i)) H) := by
  intro pins s σ H xs us Q I r h
  obtain ⟨i, rfl, q⟩ := h
  obtain ⟨u, rfl, t, rfl⟩ := vals1 r
  exact call_abs_int fun u tk => ⟨.int (if i < 0 then -i else i), H, I.tok _, ⟨_, rfl⟩, q⟩
theorem call_max2 (hc : X.calm = true) : CallR X (.builtin "max") (fun xs H Q => ∃ i j, xs = [.int i, .int j] ∧ Q (.int (if j > i then j else i)) H) := by
  intro pins s σ H xs us Q I r h
  obtain ⟨i, j, rfl, q⟩ := h
  obtain ⟨u, w', rfl, ⟨t, rfl⟩, ⟨t', rfl⟩⟩ := vals2 r
  refine max_two_ints (I.ok.hd hc) fun h' tk k => ⟨_, H, I.kept k, ?_, q⟩
  by_cases hj : j > i
  · rw [if_pos hj, if_pos hj]; exact ⟨_, rfl⟩
  · rw [if_neg hj, if_neg hj]; exact ⟨_, rfl⟩
theorem call_int1 : CallR X (.type "int") (fun xs H Q => (∃ i, xs = [.int i] ∧ Q (.int i) H) ∨ ∃ k, xs = [.bl k] ∧ Q (.int (if k then 1 else 0)) H) := by
  intro pins s σ H xs us Q I r h
  rcases h with ⟨i, rfl, q⟩ | ⟨k, rfl, q⟩
  · obtain ⟨u, rfl, t, rfl⟩ := vals1 r
    exact call_int_int ⟨.int i, H, I, ⟨_, rfl⟩, q⟩
  · obtain ⟨u, rfl, r1⟩ := vals1 r
    cases r1
    exact call_int_bool ⟨.int (if k then 1 else 0), H, I.tok _, ⟨_, rfl⟩, q⟩
/-- divmod: a new tuple -/
theorem call_divmod : CallR X (.builtin "divmod") (fun xs H Q => ∃ i j, xs = [.int i, .int j] ∧ CDiv i j ∧ ∀ p, H p = none → Q (.ref p) (upd H p (.tup [.int (i / j), .int (i % j)]))) := by
  intro pins s σ H xs us Q I r h
  obtain ⟨i, j, rfl, ⟨h1, h2⟩, q⟩ := h
  obtain ⟨u, w', rfl, ⟨t, rfl⟩, ⟨t', rfl⟩⟩ := vals2 r
  refine divmod_int (by omega) ?_ (.inl (PyProof.noPylong_small (by omega)))
  rw [Int.fdiv_eq_ediv_of_nonneg i (by omega), Int.fmod_eq_emod_of_nonneg i (by omega)]
  have hn : H s.heap.objs.size = none := I.hok.fresh (Nat.le_refl _)
  refine ⟨.ref s.heap.objs.size, _, ?_, rfl, q _ hn⟩
  refine I.laid (fun b o e => Heap.get?_push_of_some _ e) (Nat.le_refl _) ⟨by simp only [List.length_cons, List.length_nil]; rw [sizeLine_eq]; decide, [.int (i / j) s.toks, .int (i % j) (s.toks + 1)], .cons ⟨_, rfl⟩ (.cons ⟨_, rfl⟩ .nil), ?_⟩
  exact ⟨_, Heap.get?_push_size s.heap rfl, rfl, 0, rfl⟩
end
end L2

namespace L2
open PySem PySem.Spec PyProof.Rows

/-! ### an instance, its attributes a map -/
structure ObjM (h : Heap) (x dx C : Addr) (mA : Str → Option Value) : Prop where
  obj : h.get? x = some (PySem.W.instObj C dx)
  ns : h.Ns1 dx mA
  ne : dx ≠ x

theorem lookIn_ns {h : Heap} {dx : Addr} {mA : Str → Option Value} (n : h.Ns1 dx mA) : ∃ od, h.get? dx = some od ∧ ∀ name, PySem.W.lookIn name od = some (mA name) := by
  obtain ⟨o, es, ep, ho, hd, hk, _, hm⟩ := n
  refine ⟨o, ho, fun name => ?_⟩
  have e := hm name
  unfold nsFind findBy at e
  rw [← Array.find?_toList] at e
  unfold PySem.W.lookIn
  rw [hd]
  dsimp only
  split
  · rename_i y q
    rw [q] at e
    exact congrArg some e
  · rename_i q
    rw [q] at e
    have a : es.toList.any (·.refKey) = false := by
      rw [List.any_eq_false]
      intro y hy
      obtain ⟨z, t, hkey⟩ := hk y (Array.mem_toList_iff.mp hy)
      simp [DictEntry.refKey, hkey]
    have a' : ¬ es.toList.any (·.refKey) = true := by rw [a]; exact Bool.false_ne_true
    rw [if_neg a']
    exact congrArg some e

theorem ObjM.look {h : Heap} {x dx C : Addr} {mA : Str → Option Value} (I : ObjM h x dx C mA) : ∃ od, PySem.W.InstAt h x (PySem.W.instObj C dx) C (some od) ∧ ∀ name, PySem.W.lookIn name od = some (mA name) :=
  let ⟨od, ho, hl⟩ := lookIn_ns I.ns
  ⟨od, ⟨I.obj, rfl, rfl, ho⟩, hl⟩

section
variable {prog : Program} {w : World} {A : Around} {E : Value → Shared → Prop} {s : Shared} {K : PySem.W.Frag} {x dx C f : Addr} {mA : Str → Option Value} {name : Str} {v : Value}

theorem set_map {ns : List Str} {Q : Unit → Shared → Prop} (X : K.In s.heap) (I : ObjM s.heap x dx C mA)
    (hs : PySem.W.findIn K (.ref C) "__setattr__" = some (some (.builtin "object.__setattr__"))) (hp : PySem.W.plainOver K C = true) (ht : PySem.W.takerIn K C name = some none) (hh : PySem.W.hasDictIn K C = true)
    (hw : PySem.Within mA ns) (hsz : ns.length ≤ sizeLine)
    (h : ∀ h', ObjM h' x dx C (fun y => if y = name then some v else mA y) → Heap.SameBut dx s.heap h' → Q () { s with heap := h', toks := s.toks + 2 }) :
    wpAny (model prog w) A (setAttr (.ref x) name v) Q E s := by
  obtain ⟨od, J, hl⟩ := I.look
  refine PySem.W.set_plain X J hs (PySem.W.osa_open (s := { s with toks := s.toks + 1 }) (r := none) X J hp ht fun b => ?_)
  obtain ⟨cd, hc, hd'⟩ := PySem.W.any_some hh
  have hx : s.heap.get? x = some ⟨.ref C, some dx, .plain, #[]⟩ := I.obj
  refine wpAny_bind (wpAny_pure (wpAny_bind (wpAny_bind (wpAny_loadPart hx (wpAny_bind (PySem.W.Looks.here (s := { s with toks := s.toks + 1 }) (PySem.W.looks_clsIn X hc) ?_))))))
  rw [hd']
  refine wpAny_pure (a := some dx) (wpAny_bind (wpAny_pure (wpAny_bind ?_)))
  refine wpAny_nsSet1 (s := { s with toks := s.toks + 1 }) I.ns fun h' hn2 hs2 => ?_
  obtain ⟨oD, esD, epD, hoD, hdD, hcD⟩ := hn2.count (PySem.Within.cons name v hw)
  refine wpAny_bind (wpAny_lookBehind hoD (by rw [hdD]; exact pastItsLine_dict (Nat.le_trans hcD (by rw [List.length_cons]; omega))) ?_)
  exact wpAny_pure (h _ ⟨(hs2.2 _ (Ne.symm I.ne)).trans I.obj, hn2, I.ne⟩ hs2)

end

/-! ### the attributes as a list of pairs -/
theorem RelO.none_of {o : Option Value} (r : RelO none o) : o = none := by
  cases o with
  | none => rfl
  | some u => exact (show False from r).elim
section
variable {P : Program} {w : World} {H H' : Hp} {h h' : Heap} {a C dx : Addr} {fs fs' : List (Str × V)}
end

/-! ### what of the text a class must have -/
structure Cls (K : PySem.W.Frag) (C : Addr) : Prop where
  pg : PySem.W.plainGet K C Str.empty = true
  hd : PySem.W.hasDictIn K C = true
  po : PySem.W.plainOver K C = true
  sa : PySem.W.findIn K (.ref C) "__setattr__" = some (some (.builtin "object.__setattr__"))
theorem Cls.get {K : PySem.W.Frag} {C : Addr} (c : Cls K C) (f : Str) : PySem.W.plainGet K C f = true := c.pg
/-- a constant of the class -/
structure Con (K : PySem.W.Frag) (C : Addr) (f : Str) (v : V) (u : Value) : Prop where
  at_ : PySem.W.findIn K (.ref C) f = some (some u)
  rel : RelV v u
  get : PySem.W.specialIn K u "__get__" = some none
  cp : PySem.W.copiedNames.contains f = false
/-- a method: a plain def of the class or of one above it -/
structure Meth (K : PySem.W.Frag) (C : Addr) (m : Str) (f : Addr) : Prop where
  at_ : PySem.W.findIn K (.ref C) m = some (some (.ref f))
  fn : PySem.W.isFn K (.ref f) = true
  kp : PySem.W.keepIn K (.ref f) = true

section
variable {X : Cx} {pins : List (Addr × Obj)} {σ : St} {H : Hp} {s : Shared} {a C dx : Addr} {fs : List (Str × V)} {f : Str} {v : V} {A : Around} {E : Value → Shared → Prop}

/-- a new instance, tracked, without attributes -/
theorem Inv.made (I : Inv X pins σ H s) : Inv X pins σ (upd (upd H s.heap.objs.size (.own (s.heap.objs.size + 1))) (s.heap.objs.size + 1) (.ins C s.heap.objs.size []))
    { s with heap := (s.heap.push PySem.W.emptyDict).push (PySem.W.instObj C s.heap.objs.size) } := by
  have e1 : (s.heap.push PySem.W.emptyDict).get? s.heap.objs.size = some PySem.W.emptyDict := Heap.get?_push_size s.heap rfl
  have e2 : ((s.heap.push PySem.W.emptyDict).push (PySem.W.instObj C s.heap.objs.size)).get? (s.heap.objs.size + 1) = some (PySem.W.instObj C s.heap.objs.size) := by
    have := Heap.get?_push_size (s.heap.push PySem.W.emptyDict) (o := PySem.W.instObj C s.heap.objs.size) rfl
    rwa [Heap.size_push] at this
  have e3 : (s.heap.push PySem.W.emptyDict).Ns s.heap.objs.size (fun _ => none) := ⟨PySem.W.emptyDict, #[], _, e1, rfl, (fun e he => absurd he (by simp)), fun _ => rfl⟩
  have I1 := I.laid (a := s.heap.objs.size) (o := .own (s.heap.objs.size + 1)) (h' := s.heap.push PySem.W.emptyDict) (t' := s.toks) (fun b u q => Heap.get?_push_of_some _ q) (Nat.le_refl _) ⟨_, e1⟩
  refine I1.laid (a := s.heap.objs.size + 1) (o := .ins C s.heap.objs.size []) (t' := s.toks) (fun b u q => Heap.get?_push_of_some _ q) (Nat.le_of_eq (Heap.size_push _ _)) ?_
  have ne : s.heap.objs.size ≠ s.heap.objs.size + 1 := Nat.ne_of_lt (Nat.lt_succ_self _)
  refine ⟨by rw [upd_ne ne, upd_same], Nat.zero_le _, ne, e2, fun _ => none, (Heap.Ns1.of_empty e3).at fun o q => Heap.get?_push_of_some _ q, fun _ => True.intro, fun y hy => absurd rfl hy⟩

end

/-! ### readings and rules -/
section
variable {X : Cx} {o e value : Expr} {f : Str} {pos pos' tpos : Pos} {ta tv : TE}
end

/-! ### isinstance -/
section
variable {X : Cx} {pins : List (Addr × Obj)} {σ : St} {H : Hp} {s : Shared} {A : Around} {E : Value → Shared → Prop} {Q : Value → Shared → Prop} {c : Value} {b : Bool}
/-- the type of a value, as the fragment's deciders take it; for an instance its class -/
inductive TyOf (K : PySem.W.Frag) (H : Hp) : V → Value → Prop where
  | non : TyOf K H .non (.type "NoneType")
  | bl (x : Bool) : TyOf K H (.bl x) (.type "bool")
  | int (i : Int) : TyOf K H (.int i) (.type "int")
  | str (x : Str) : TyOf K H (.str x) (.type "str")
  | flt (x : UInt64) : TyOf K H (.flt x) (.type "float")
  | lst {a : Addr} {xs : List V} (e : H a = some (.lst xs)) : TyOf K H (.ref a) (.type "list")
  | frz {a : Addr} {o : Obj} {xs : List V} (e : H a = some (.frz o (.lst xs))) : TyOf K H (.ref a) (.type "list")
  | tup {a : Addr} {xs : List V} (e : H a = some (.tup xs)) : TyOf K H (.ref a) (.type "tuple")
  | dK {a : Addr} {kvs : List (Key × V)} (e : H a = some (.dK kvs)) : TyOf K H (.ref a) (.type "dict")
  | dT {a : Addr} {kvs : List (List Key × V)} (e : H a = some (.dT kvs)) : TyOf K H (.ref a) (.type "dict")
  | ins {a C dx : Addr} {fs : List (Str × V)} (e : H a = some (.ins C dx fs)) (cl : Cls K C) (ha : PySem.W.findIn K (.ref C) "__class__" = some (some (.builtin "object.__class__")))
      (hn : PySem.W.specialIn K (.builtin "object.__class__") "__get__" = some (some (.builtin "getset_descriptor.__get__"))) (htk : PySem.W.takesIn K (.builtin "object.__class__") = some true)
      (hm : PySem.W.mroIn K C (.type "object") = some true) : TyOf K H (.ref a) (.ref C)
end
end L2

namespace L2
open PySem PySem.Spec PyProof.Rows

/-! ### room -/
structure Room (k : Nat) (A : Around) : Prop where
  hd : A.handled = none
  dp : A.depth + 3 * k + 5 < recursionLimit
  un : A.units + 16 * k + 200 < cLine
theorem Room.mono {j k : Nat} {A : Around} (r : Room k A) (h : j ≤ k) : Room j A := ⟨r.hd, by have := r.dp; omega, by have := r.un; omega⟩
theorem Room.deeper {k : Nat} {A : Around} (r : Room (k + 1) A) (env : Env) : Room k (A.deeper env) :=
  ⟨r.hd, by have := r.dp; show A.depth + 1 + 3 * k + 5 < _; omega, by have := r.un; show A.units + 3 + 16 * k + 200 < _; omega⟩
theorem Room.in1 {k : Nat} {A : Around} (r : Room (k + 1) A) : Room k A.in1 :=
  ⟨r.hd, by have := r.dp; show A.depth + 3 * k + 5 < _; omega, by have := r.un; show A.units + 1 + 16 * k + 200 < _; omega⟩
theorem make_depth {A : Around} {C : Addr} {us : List Value} {kw : List (Str × Value)} : (A.under (.builtin "type.__call__" ⟨.ref C :: us, kw⟩)).depth = A.depth + 1 := by
  first | rfl | simp [Around.under, Code.weight, Code.isCreation, Code.isGuard, Code.isCaller, Code.frames, Code.isFrame, guardIds]
theorem make_units {A : Around} {C : Addr} {us : List Value} {kw : List (Str × Value)} : (A.under (.builtin "type.__call__" ⟨.ref C :: us, kw⟩)).units = A.units + 1 := by
  first | rfl | simp [Around.under, Code.cUnits, Code.frames, Code.isFrame]
theorem Room.make {k : Nat} {A : Around} (r : Room (k + 1) A) (C : Addr) (us : List Value) (kw : List (Str × Value)) : Room k (A.under (.builtin "type.__call__" ⟨.ref C :: us, kw⟩)) :=
  ⟨r.hd, by have := r.dp; rw [make_depth]; omega, by have := r.un; rw [make_units]; omega⟩
theorem Room.depth {k : Nat} {A : Around} (r : Room k A) : A.depth < recursionLimit := by have := r.dp; omega
theorem Room.units {k : Nat} {A : Around} (r : Room k A) : A.units + 64 < cLine := by have := r.un; omega
/-! ### argument lists and displays -/
def tNil : TA := fun _ H Q => Q [] H
def tCons (ta : TE) (tr : TA) : TA := fun σ H Q => ta σ H fun x H1 => tr σ H1 fun xs H2 => Q (x :: xs) H2
section
variable {X : Cx} {e : Expr} {es : List Expr} {te : TE} {t : TA} {pos : Pos}
theorem pa_nil : PA X [] tNil := fun _ _ _ _ H Q I h => Calls.spliced_nil ⟨[], H, I, .nil, h⟩
theorem pa_cons (ha : PE X e te) (hr : PA X es t) (hs : starEach (e :: es) X.env = (false, eval e X.env) :: starEach es X.env := by rfl) : PA X (e :: es) (tCons te t) := by
  intro pos pins s σ H Q I h
  rw [hs]
  show wpAny _ _ (spliced ((false, eval e X.env) :: backTo pos (starEach es X.env))) _ _ s
  refine Calls.spliced_cons (thn (ha pins s σ H _ I h) fun u s1 ⟨x, H1, I1, r1, q1⟩ => ?_)
  exact thn (hr pos pins s1 σ H1 _ I1 q1) fun us s2 ⟨xs, H2, I2, r2, q2⟩ => ⟨x :: xs, H2, I2, .cons r1 r2, q2⟩

/-- a tuple, a list of written items -/
def tTup (t : TA) : TE := fun σ H Q => t σ H fun xs H1 => xs.length ≤ sizeLine ∧ ∀ p, H1 p = none → Q (.ref p) (upd H1 p (.tup xs))
def tLst (t : TA) : TE := fun σ H Q => t σ H fun xs H1 => xs.length ≤ sizeLine ∧ ∀ p, H1 p = none → Q (.ref p) (upd H1 p (.lst xs))
theorem pe_tup {x1} (h : PA X es t) : PE X (.Tuple es x1 pos) (tTup t) := by
  intro pins s σ H Q I hq
  refine wpAny_Tuple_spliced (thn (h pos pins s σ H _ I hq) fun us s1 ⟨xs, H1, I1, r, z, q⟩ => ⟨by rw [← r.length]; exact z, ?_⟩)
  have hf : H1 s1.heap.objs.size = none := I1.hok.fresh (Nat.le_refl _)
  refine ⟨.ref s1.heap.objs.size, upd H1 s1.heap.objs.size (.tup xs), I1.laid (t' := s1.toks) (fun b u e => Heap.get?_push_of_some _ e) (Nat.le_refl _) ?_, rfl, q _ hf⟩
  exact ⟨z, us, r, ⟨_, Heap.get?_push_size _ rfl, rfl, _, rfl⟩⟩
theorem pe_lst (h : PA X es t) : PE X (.List es pos) (tLst t) := by
  intro pins s σ H Q I hq
  refine wpAny_List_spliced (thn (h pos pins s σ H _ I hq) fun us s1 ⟨xs, H1, I1, r, z, q⟩ => ⟨by rw [← r.length]; exact z, ?_⟩)
  have hf : H1 s1.heap.objs.size = none := I1.hok.fresh (Nat.le_refl _)
  refine ⟨.ref s1.heap.objs.size, upd H1 s1.heap.objs.size (.lst xs), I1.laid (t' := s1.toks) (fun b u e => Heap.get?_push_of_some _ e) (Nat.le_refl _) ?_, rfl, q _ hf⟩
  exact ⟨z, us, 0, r, Heap.get?_push_size _ rfl⟩
end

/-! ### what a def promises -/
/-- a def's promise: the bound arguments in the parameters' order, the heap, the wanted end, the wanted exception -/
abbrev Sp := List V → Hp → VK → XK → Prop
/-- how an exception lies behind a call (file 08 gives it): the callers' frames, abstract heap and state ahead of the call, the wish, the exception, the state -/
abbrev CXT := List Env → Hp → Shared → XK → Value → Shared → Prop

/-- the state at a call -/
structure Env0 (P : Program) (w : World) (K : PySem.W.Frag) (mg : Str → Option Value) (base : Heap) (A : Around) (outer : List Env) (s : Shared) (H : Hp) : Prop where
  frames : A.frames = some outer
  mod : Mod K mg base
  bs : ∀ b o, base.get? b = some o → s.heap.get? b = some o ∧ H b = none
  bsz : base.objs.size ≤ s.heap.objs.size
  funs : s.heap.FunFrames base outer
  frf : ∀ b ∈ frs outer, H b = none
  hok : HOk P w H s.heap
  bare : AllBare s.gens
/-- a call's end -/
def CE (outer : List Env) (P : Program) (w : World) (H : Hp) (s : Shared) (Q : VK) (u : Value) (s' : Shared) : Prop :=
  ∃ v H', s'.os = s.os ∧ AllBare s'.gens ∧ Un (frs outer) [] H H' s.heap s'.heap ∧ HOk P w H' s'.heap ∧ RelV v u ∧ Q v H'
def CR (CX : CXT) (outer : List Env) (P : Program) (w : World) (H : Hp) (s : Shared) (Q : VK) (E : XK) (r : Result) (s' : Shared) : Prop :=
  match r with
  | .ok (.ret u) => CE outer P w H s Q u s'
  | .ok _ => False
  | .error e => CX outer H s E e s'
structure FnOk (P : Program) (w : World) (K : PySem.W.Frag) (mg : Str → Option Value) (base : Heap) (CX : CXT) (k : Nat) (f : Addr) (fd : FuncData) (ps : List Str) (sp : Sp) : Prop where
  len : ∀ vs H Q E, sp vs H Q E → vs.length = ps.length
  run : ∀ (A : Around) (outer : List Env) (s : Shared) (H : Hp) (args : Args) (us : List Value) (vs : List V) (Q : VK) (E : XK), Room k A → Env0 P w K mg base A outer s H → BindsTo s fd args (ps.zip us) → Vals vs us → sp vs H Q E →
    codeAny (model P w) A (.call (.ref f) args) (CR CX outer P w H s Q E) s
theorem FnOk.mono {P : Program} {w : World} {K : PySem.W.Frag} {mg : Str → Option Value} {base : Heap} {CX : CXT} {j k : Nat} {f : Addr} {fd : FuncData} {ps : List Str} {sp : Sp} (F : FnOk P w K mg base CX j f fd ps sp) (h : j ≤ k) :
    FnOk P w K mg base CX k f fd ps sp := ⟨F.len, fun A outer s H args us vs Q E hr => F.run A outer s H args us vs Q E (hr.mono h)⟩
/-- a weaker promise -/
theorem FnOk.imp {P : Program} {w : World} {K : PySem.W.Frag} {mg : Str → Option Value} {base : Heap} {CX : CXT} {k : Nat} {f : Addr} {fd : FuncData} {ps : List Str} {sp sp' : Sp} (F : FnOk P w K mg base CX k f fd ps sp)
    (h : ∀ vs H Q E, sp' vs H Q E → sp vs H Q E) : FnOk P w K mg base CX k f fd ps sp' :=
  ⟨fun vs H Q E q => F.len vs H Q E (h _ _ _ _ q), fun A outer s H args us vs Q E hr he hb hv hs => F.run A outer s H args us vs Q E hr he hb hv (h _ _ _ _ hs)⟩

theorem Env0.make {P : Program} {w : World} {K : PySem.W.Frag} {mg : Str → Option Value} {base : Heap} {A : Around} {outer : List Env} {s : Shared} {H : Hp} (e : Env0 P w K mg base A outer s H) (C : Addr) (us : List Value) (kw : List (Str × Value)) :
    Env0 P w K mg base (A.under (.builtin "type.__call__" ⟨.ref C :: us, kw⟩)) outer s H := ⟨by first | exact e.frames | (simpa [Around.under, Code.envs, Code.isFrame, pushEnvs] using e.frames), e.mod, e.bs, e.bsz, e.funs, e.frf, e.hok, e.bare⟩
theorem Env0.in1 {P : Program} {w : World} {K : PySem.W.Frag} {mg : Str → Option Value} {base : Heap} {A : Around} {outer : List Env} {s : Shared} {H : Hp} (e : Env0 P w K mg base A outer s H) :
    Env0 P w K mg base A.in1 outer s H := ⟨e.frames, e.mod, e.bs, e.bsz, e.funs, e.frf, e.hok, e.bare⟩

section
variable {X : Cx} {pins : List (Addr × Obj)} {σ : St} {H : Hp} {s s' : Shared}
/-- from a body: what a callee wants -/
theorem Inv.env0 (I : Inv X pins σ H s) : Env0 X.prog X.w X.K X.mg X.base X.A X.stack s H :=
  ⟨I.ok.frames, I.ok.mod, I.bs, Nat.le_trans I.ok.bsz I.sz, I.stack, I.stkFree, I.hok, I.bare⟩
/-- behind a call -/
theorem Inv.after {Q : VK} {u : Value} (I : Inv X pins σ H s) (h : CE X.stack X.prog X.w H s Q u s') : EP X pins σ Q u s' := by
  obtain ⟨v, H', os, bare, un, hok, r, q⟩ := h
  obtain ⟨hh, g, d, t, os'⟩ := s'
  obtain rfl : os' = s.os := os
  exact ⟨v, H', I.call (h' := hh) (g' := g) (d' := d) (t' := t) (ch := []) un hok bare (fun b z => absurd z (by simp)), r, q⟩
end

/-! ### calls -/
/-- f(..): the written arguments, then the defaults dvs; E: what is wanted of an exception -/
def tCall (sp : Sp) (dvs : List V) (E : XK) (t : TA) : TE := fun σ H Q => t σ H fun vs H1 => sp (vs ++ dvs) H1 Q E
/-- how the parameters are bound: us the positional arguments, kw the keywords' values by name, ds the defaults that fill up -/
def Binds (K : PySem.W.Frag) (fd : FuncData) (ps : List Str) (ds : List Value) : Prop :=
  ∀ (s : Shared) (us : List Value), K.In s.heap → (us ++ ds).length = ps.length → BindsTo s fd ⟨us, []⟩ (ps.zip (us ++ ds))
/-- every parameter is given -/
theorem Binds.all {K : PySem.W.Frag} {fd : FuncData} {ps : List Str} (h : ∀ us : List Value, us.length = ps.length → bindArgs fd ⟨us, []⟩ = pure (ps.zip us)) : Binds K fd ps [] := fun s us _ hl => by
  rw [List.append_nil] at hl ⊢
  exact .of_eq (h us hl)

/-- an exception of a callee reaches what this body wants of exceptions -/
def Passes (CX : CXT) (X : Cx) (E : XK) : Prop := ∀ (pins : List (Addr × Obj)) (σ : St) (H : Hp) (s : Shared) (e : Value) (s' : Shared), Inv X pins σ H s → CX X.stack H s E e s' → X.xe e s'

section
variable {X : Cx} {CX : CXT} {k : Nat} {f C : Addr} {fd : FuncData} {ps : List Str} {sp : Sp} {dvs : List V} {ds : List Value} {E : XK} {x m : Str} {p pos apos : Pos} {e o : Expr} {es : List Expr} {ta : TE} {t : TA}

/-- the callee runs -/
theorem run_fn {pins : List (Addr × Obj)} {σ : St} {H : Hp} {s : Shared} {Q : VK} {us : List Value} {vs : List V} (F : FnOk X.prog X.w X.K X.mg X.base CX k f fd ps sp) (hr : Room k X.A) (hb : Binds X.K fd ps ds) (hd : Vals dvs ds) (hx : Passes CX X E)
    (I : Inv X pins σ H s) (r : Vals vs us) (h : sp (vs ++ dvs) H Q E) : wpAny (model X.prog X.w) X.A (call (.ref f) us) (EP X pins σ Q) X.xe s := by
  have r2 : Vals (vs ++ dvs) (us ++ ds) := r.append hd
  have hl : (us ++ ds).length = ps.length := by rw [← r2.length]; exact F.len _ _ _ _ h
  refine wpAny_call (codeAny_mono (F.run X.A X.stack s H ⟨us, []⟩ (us ++ ds) (vs ++ dvs) Q E hr I.env0 (hb s us I.kIn hl) r2 h) fun r s' hq => ?_)
  cases r with
  | error e => exact hx pins σ H s e s' I hq
  | ok fl =>
    cases fl with
    | ret u => exact I.after hq
    | next => exact False.elim hq
    | brk => exact False.elim hq
    | cont => exact False.elim hq

theorem pe_call (F : FnOk X.prog X.w X.K X.mg X.base CX k f fd ps sp) (hr : Room k X.A) (hg : Gl X x) (hm : X.mg x = some (.ref f)) (hk : PySem.W.keepIn X.K (.ref f) = true) (hb : Binds X.K fd ps ds) (hd : Vals dvs ds) (hx : Passes CX X E)
    (ha : PA X (e :: es) t) (hdb : (x == ("__debug__" : Str)) = false := by decide) (he : starEach (e :: es) X.env = (false, eval e X.env) :: starEach es X.env := by rfl) (hpl : (backTo pos (starEach es X.env)).any (·.1) = false := by rfl) :
    PE X (.Call (.Name x p) (e :: es) [] pos) (tCall sp dvs E t) := by
  intro pins s σ H Q I h
  refine wpAny_Call_Name_kw (ld_glob I hg hm ?_ hdb)
  refine PySem.W.callWith_K (h₀ := X.base) I.ok.mod.kin hk (thn (ha pos pins s σ H _ I h) fun us s1 ⟨vs, H1, I1, r, q⟩ => ⟨I1.kIn, ?_⟩) he hpl
  exact run_fn F hr hb hd hx I1 r q
/-- what a class must have to be made -/
structure Mk (K : PySem.W.Frag) (C f : Addr) : Prop where
  makes : PySem.W.makesIn K C = true
  init : PySem.W.findIn K (.ref C) "__init__" = some (some (.ref f))
  fn : PySem.W.isFn K (.ref f) = true
  kp : PySem.W.keepIn K (.ref C) = true

end

/-! ### keywords -/
section
variable {X : Cx} {CX : CXT} {k : Nat} {f C : Addr} {fd : FuncData} {ps ks : List Str} {sp : Sp} {E : XK} {x m : Str} {p pos apos kpos : Pos} {e o : Expr} {es : List Expr} {kws : List Keyword} {te ta : TE} {t tk : TA} {nm : Option Str}
/-- how a call with keywords binds: g puts the positional values us and the keywords' values ws (names ks) in the parameters' order, defaults among them -/
structure KBinds (K : PySem.W.Frag) (fd : FuncData) (ps ks : List Str) (g : List Value → List Value → List Value) (gV : List V → List V → List V) : Prop where
  to : ∀ (s : Shared) (us ws : List Value), K.In s.heap → (g us ws).length = ps.length → BindsTo s fd ⟨us, ks.zip ws⟩ (ps.zip (g us ws))
  rel : ∀ {vs : List V} {us : List Value} {zs : List V} {ws : List Value}, Vals vs us → Vals zs ws → Vals (gV vs zs) (g us ws)
variable {g : List Value → List Value → List Value} {gV : List V → List V → List V}
end

/-! ### a def's body keeps its promise -/
/-- names: the parameters first -/
structure FnScope (N P : List Str) (sc : Scope) : Prop where
  kind : sc.kind = .function
  co : sc.isCoroutine = false
  gen : sc.isGenerator = false
  nd : N.Nodup
  pre : N.take P.length = P
  par : ∀ x ∈ P, sc.names.lookup x = some .local ∨ sc.names.lookup x = some .cell
  nofree : ∀ y ∈ sc.names, y.2 ≠ .free

theorem bindL_out {kindOf : Str → Option NameKind} {x : Str} : ∀ {binds : List (Str × Value)} {m : Str → Option Value}, (∀ v, (x, v) ∉ binds) → bindL kindOf binds m x = m x
  | [], _, _ => rfl
  | (n, v) :: r, m, h => by
    unfold bindL
    rw [bindL_out fun w hw => h w (List.mem_cons_of_mem _ hw)]
    split
    · have : x ≠ n := by rintro rfl; exact h v List.mem_cons_self
      simp [this]
    · rfl
theorem bindC_out {kindOf : Str → Option NameKind} {x : Str} : ∀ {binds : List (Str × Value)} {m : Str → Option Value}, (∀ v, (x, v) ∉ binds) → bindC kindOf binds m x = m x
  | [], _, _ => rfl
  | (n, v) :: r, m, h => by
    unfold bindC
    rw [bindC_out fun w hw => h w (List.mem_cons_of_mem _ hw)]
    split
    · rfl
    · have : x ≠ n := by rintro rfl; exact h v List.mem_cons_self
      simp [this]
theorem bindL_get {kindOf : Str → Option NameKind} {x : Str} {v : Value} : ∀ {P : List Str} {vs : List Value} {i : Nat} {m : Str → Option Value}, P.Nodup → P[i]? = some x → vs[i]? = some v → kindOf x = some .local →
    bindL kindOf (P.zip vs) m x = some v
  | [], _, _, _, _, h, _, _ => by simp at h
  | _ :: _, [], _, _, _, _, h, _ => by simp at h
  | p :: P, w :: vs, 0, m, nd, h1, h2, hk => by
    simp at h1 h2; subst h1; subst h2
    show bindL kindOf ((p, w) :: P.zip vs) m p = _
    unfold bindL
    rw [bindL_out fun v hv => (List.nodup_cons.mp nd).1 (List.of_mem_zip hv).1, if_pos hk]
    simp
  | p :: P, w :: vs, i + 1, m, nd, h1, h2, hk => by
    show bindL kindOf ((p, w) :: P.zip vs) m x = _
    unfold bindL
    exact bindL_get (i := i) (List.nodup_cons.mp nd).2 (by simpa using h1) (by simpa using h2) hk
theorem bindC_get {kindOf : Str → Option NameKind} {x : Str} {v : Value} : ∀ {P : List Str} {vs : List Value} {i : Nat} {m : Str → Option Value}, P.Nodup → P[i]? = some x → vs[i]? = some v → kindOf x ≠ some .local →
    bindC kindOf (P.zip vs) m x = some v
  | [], _, _, _, _, h, _, _ => by simp at h
  | _ :: _, [], _, _, _, _, h, _ => by simp at h
  | p :: P, w :: vs, 0, m, nd, h1, h2, hk => by
    simp at h1 h2; subst h1; subst h2
    show bindC kindOf ((p, w) :: P.zip vs) m p = _
    unfold bindC
    rw [bindC_out fun v hv => (List.nodup_cons.mp nd).1 (List.of_mem_zip hv).1, if_neg hk]
    simp
  | p :: P, w :: vs, i + 1, m, nd, h1, h2, hk => by
    show bindC kindOf ((p, w) :: P.zip vs) m x = _
    unfold bindC
    exact bindC_get (i := i) (List.nodup_cons.mp nd).2 (by simpa using h1) (by simpa using h2) hk

/-- the names' values at the entry -/
def start (N : List Str) (vs : List V) : St := vs.map some ++ List.replicate (N.length - vs.length) none

/-- the context of a def's body, at its entry; an exception leaves the frame, then lies as CX says -/
def cxOf (CX : CXT) (P : Program) (w : World) (K : PySem.W.Frag) (mg : Str → Option Value) (base : Heap) (N : List Str) (qual : Str) (scope : Scope) (f : Addr) (cd : Value) (A : Around) (outer : List Env) (s : Shared) (H : Hp) (E : XK) : Cx where
  prog := P
  w := w
  K := K
  mg := mg
  base := base
  A := A.deeper (envOfC qual scope s.heap.objs.size f cd)
  N := N
  s₀ := s
  H₀ := H
  env := envOfC qual scope s.heap.objs.size f cd
  outer := outer
  stack := envOfC qual scope s.heap.objs.size f cd :: outer
  ex := []
  calm := true
  fn := fun _ => true
  pn := []
  xe := fun e s' => wpAny (model P w) (A.deeper (envOfC qual scope s.heap.objs.size f cd)) (leaving (envOfC qual scope s.heap.objs.size f cd) e) (fun _ s'' => CX outer H s E e s'') (fun e' s'' => CX outer H s E e' s'') s'

theorem cell_has {sc : Scope} {n : Nat} {x : Str} (h : sc.names.lookup x = some .cell) : ∃ c, (cellsFrom n sc.names []).lookup x = some c := by
  have q := PySem.W.cellsFrom_some sc.names n [] (.inl h)
  exact Option.isSome_iff_exists.mp q

theorem inv_start {CX : CXT} {P : Program} {w : World} {K : PySem.W.Frag} {mg : Str → Option Value} {base : Heap} {N ps : List Str} {qual : Str} {scope : Scope} {f : Addr} {cd : Value} {A : Around} {outer : List Env} {s s1 : Shared} {H : Hp} {E : XK} {us : List Value} {vs : List V}
    (S : FnScope N ps scope) (hd : A.handled = none) (e0 : Env0 P w K mg base A outer s H) (hl : vs.length = ps.length) (r : Vals vs us)
    (x : InCallC s s.heap.objs.size (bindL (envOfC qual scope s.heap.objs.size f cd).kindOf (ps.zip us) fun _ => none) (cellsFrom (s.heap.objs.size + 1) scope.names []) (bindC (envOfC qual scope s.heap.objs.size f cd).kindOf (ps.zip us) fun _ => none) s1) :
    Inv (cxOf CX P w K mg base N qual scope f cd A outer s H E) [] (start N vs) H s1 := by
  have hpl : ps.length ≤ N.length := by have := congrArg List.length S.pre; rw [List.length_take] at this; omega
  obtain ⟨h1, tk, rfl, hk⟩ := x.done
  have noA : ∀ b : Addr, b ∉ (cxOf CX P w K mg base N qual scope f cd A outer s H E).ex := fun b z => absurd (show b ∈ ([] : List Addr) from z) (by simp)
  refine ⟨⟨e0.mod, S.kind, rfl, rfl, Nat.le_refl _, fun y z c h1 h2 => ?_, fun y hy => ?_, fun y c _ h => ?_, fun _ => hd, Around.frames_deeper e0.frames, .inr ⟨rfl, rfl⟩, fun b z => absurd z (noA b), e0.bs, e0.bsz, fun b _ _ => noA b, fun b z => absurd z (noA b), e0.funs, e0.frf⟩,
    rfl, e0.bare, Un.kept hk, ⟨_, x.toInCall.ns, fun i y v h1 h2 h3 => ?_⟩, fun y c h => ⟨_, x.cell y c h⟩, e0.hok.fresh (Nat.le_refl _), fun y c h => ?_, fun p hp => absurd (show p ∈ ([] : List (Addr × Obj)) from hp) (by simp), e0.hok.kept hk, ?_⟩
  · exact name_of_addr x.apart (PySem.mem_of_lookup h1) (PySem.mem_of_lookup h2)
  · have hy : scope.names.lookup y = some .cell ∨ scope.names.lookup y = some .free := hy
    rcases hy with hy | hy
    · exact cell_has hy
    · exact absurd rfl (S.nofree _ (PySem.mem_of_lookup hy))
  · exact Nat.le_of_lt (x.above y c (PySem.mem_of_lookup h))
  · have hi : i < vs.length := by
      unfold start at h2
      by_cases hi : i < vs.length
      · exact hi
      · rw [List.getElem?_append_right (by simpa using hi)] at h2
        rw [List.getElem?_replicate] at h2
        split at h2 <;> cases h2
    have ha : vs[i]? = some v := by
      unfold start at h2
      rw [List.getElem?_append_left (by simpa using hi), List.getElem?_map] at h2
      cases e : vs[i]? with
      | none => rw [e] at h2; cases h2
      | some a => rw [e] at h2; cases h2; rfl
    obtain ⟨u, hu, rv⟩ := r.get ha
    have hp : ps[i]? = some y := by
      rw [← S.pre, List.getElem?_take_of_lt (by omega)]; exact h1
    have ndP : ps.Nodup := by rw [← S.pre]; exact S.nd.sublist (List.take_sublist _ _)
    refine ⟨u, rv, ?_⟩
    rcases S.par y (List.mem_of_getElem? hp) with k | k
    · exact .inl ⟨k, bindL_get ndP hp hu k⟩
    · obtain ⟨c, e⟩ := cell_has (n := s.heap.objs.size + 1) k
      refine .inr ⟨.inl k, c, e, ?_⟩
      have q := x.cell y c e
      rw [bindC_get ndP hp hu (by show scope.names.lookup y ≠ _; rw [k]; decide)] at q
      exact q
  · exact e0.hok.fresh (Nat.le_of_lt (x.above y c (PySem.mem_of_lookup h)))
  · unfold start
    show _ = N.length
    rw [List.length_append, List.length_map, List.length_replicate]
    omega

/-- THE RULE: a def (or a method) of the text, by its body. The body's reading t is chosen for each entry; it is run at the parameters' values -/
theorem fn_of {CX : CXT} {P : Program} {w : World} {K : PySem.W.Frag} {mg : Str → Option Value} {base : Heap} {k : Nat} {f : Addr} {name qual : Str} {params : Arguments} {body : List Stmt} {scope : Scope} {dV kV doc pm cdv ct oc : Value} {an od : Option Addr}
    {osl : Array (Option Value)} {N ps : List Str} {sp : Sp} (lk : K.lookup f = some ⟨oc, od, .func (PySem.W.fnOf name qual params body scope dV kV doc pm an cdv ct), osl⟩) (hcd : PySem.W.codeIn K cdv qual = true) (S : FnScope N ps scope)
    (len : ∀ vs H Q E, sp vs H Q E → vs.length = ps.length)
    (hbody : ∀ (A : Around) (outer : List Env) (s : Shared) (H : Hp) (vs : List V) (Q : VK) (E : XK), Room k (A.deeper (envOfC qual scope s.heap.objs.size f cdv)) → sp vs H Q E →
      ∃ t, PSs (cxOf CX P w K mg base N qual scope f cdv A outer s H E) body t ∧ t { nx := fun _ H' => Q .non H', rt := Q } (start N vs) H) :
    FnOk P w K mg base CX (k + 1) f (PySem.W.fnOf name qual params body scope dV kV doc pm an cdv ct) ps sp := by
  refine ⟨len, fun A outer s H args us vs Q E hr e0 hb r hsp => ?_⟩
  have hl := len _ _ _ _ hsp
  have KX : K.In s.heap := e0.mod.kin.keeps fun b o e => (e0.bs b o e).1
  have lim : s.heap.NoLimit := e0.mod.nolimit.keeps fun b o e => (e0.bs b o e).1
  have hkind : ∀ y ∈ ps.zip us, scope.names.lookup y.1 = some .local ∨ (scope.names.lookup y.1 = some .cell ∧ ((cellsFrom (s.heap.objs.size + 1) scope.names []).lookup y.1).isSome = true) := fun ⟨n, v⟩ hy => by
    rcases S.par n (List.of_mem_zip hy).1 with q | q
    · exact .inl q
    · exact .inr ⟨q, PySem.W.cellsFrom_some _ _ _ (.inl q)⟩
  refine codeAny_call_function hr.depth (KX _ _ lk) rfl S.co S.gen rfl (PySem.W.codeRec_of KX hcd) (hb _ _ _ _ ?_)
  refine wpAny_newFunctionEnv_cells S.kind hkind fun env he s1 x => ?_
  subst he
  refine ⟨lim.keeps x.toInCall.keep, codeAny_func ?_⟩
  obtain ⟨t, ht, hq⟩ := hbody A outer s H vs Q E (hr.deeper _) hsp
  have I : Inv (cxOf CX P w K mg base N qual scope f cdv A outer s H E) [] (start N vs) H s1 := inv_start S hr.hd e0 hl r x
  refine wpAny_mono (ht [] s1 (start N vs) H _ I hq) (fun fl s' hs => ?_) fun e s' hs => hs
  have fin : ∀ {σ' : St} {H' : Hp} {v : V} {u : Value}, Inv (cxOf CX P w K mg base N qual scope f cdv A outer s H E) [] σ' H' s' → RelV v u → Q v H' → CE outer P w H s Q u s' :=
    fun {σ' H' v u} J rv q => ⟨v, H', J.os, J.bare, J.base, J.hok, rv, q⟩
  cases fl with
  | ret u =>
    obtain ⟨v, σ', H', J, rv, q⟩ := hs
    exact fin J rv q
  | next =>
    obtain ⟨σ', H', J, q⟩ := hs
    exact fin (v := V.non) (u := Value.none) J rfl q
  | brk =>
    obtain ⟨_, _, _, q⟩ := hs
    exact False.elim q
  | cont =>
    obtain ⟨_, _, _, q⟩ := hs
    exact False.elim q
end L2

namespace L2
open PySem PySem.Spec PyProof.Rows
section
variable {X : Cx} {x : Str} {p pos : Pos} {e : Expr} {es : List Expr} {t : TA} {id T : String} {r : List V → Hp → VK → Prop}

def tCB (r : List V → Hp → VK → Prop) (t : TA) : TE := fun σ H Q => t σ H fun vs H1 => r vs H1 Q
/-- f(e, ..), f a built-in function -/
theorem pe_callB (hc : CallR X (.builtin id) r) (hg : Gl X x) (hm : X.mg x = none) (hv : bootBuiltins x = some (.builtin id)) (ha : PA X (e :: es) t) (hn : x ≠ "__name__" := by decide) (hdb : (x == ("__debug__" : Str)) = false := by decide)
    (he : starEach (e :: es) X.env = (false, eval e X.env) :: starEach es X.env := by rfl) (hpl : (backTo pos (starEach es X.env)).any (·.1) = false := by rfl) : PE X (.Call (.Name x p) (e :: es) [] pos) (tCB r t) := by
  intro pins s σ H Q I h
  refine wpAny_Call_Name_kw (ld_blt I hg hm hv ?_ hn hdb)
  exact PyProof.Rows.callWith_builtin1 (thn (ha pos pins s σ H _ I h) fun us s1 ⟨vs, H1, I1, r1, q1⟩ => hc pins s1 σ H1 vs us Q I1 r1 q1) he hpl
/-- T(e, ..), T a built-in type -/
theorem pe_callTy (hc : CallR X (.type T) r) (hg : Gl X x) (hm : X.mg x = none) (hv : bootBuiltins x = some (.type T)) (ha : PA X (e :: es) t) (hn : x ≠ "__name__" := by decide) (hdb : (x == ("__debug__" : Str)) = false := by decide)
    (he : starEach (e :: es) X.env = (false, eval e X.env) :: starEach es X.env := by rfl) (hpl : (backTo pos (starEach es X.env)).any (·.1) = false := by rfl) : PE X (.Call (.Name x p) (e :: es) [] pos) (tCB r t) := by
  intro pins s σ H Q I h
  refine wpAny_Call_Name_kw (ld_blt I hg hm hv ?_ hn hdb)
  exact PyProof.Rows.callWith_type1 (thn (ha pos pins s σ H _ I h) fun us s1 ⟨vs, H1, I1, r1, q1⟩ => hc pins s1 σ H1 vs us Q I1 r1 q1) he hpl
end
end L2

namespace HT
open PySem PyProof.Rows

section
open PySem.SeqAt
open PySem.AutoSeq1 (wpAny_loadPart')
open PySem.MeetsSeq PySem.MeetsSeq2 PySem.MeetsSeq3

end

section
variable {prog : Program} {w : World} {A : Around} {E : Value → Shared → Prop} {s : Shared}

/-! ### t[a:b], not the whole -/
/-- a slice's bound as a place among n (d where it is left out) -/
def sIx (n d : Nat) : Option Int → Nat
  | none => d
  | some v => if v < 0 then (v + (n : Int)).toNat else min v.toNat n
theorem sIx_none (n d : Nat) : sIx n d none = d := rfl
theorem sIx_nat (n d k : Nat) : sIx n d (some (k : Int)) = min k n := by
  show (if (k : Int) < 0 then ((k : Int) + (n : Int)).toNat else min (k : Int).toNat n) = min k n
  rw [if_neg (by omega), Int.toNat_natCast]
theorem sIx_le (n d : Nat) (hd : d ≤ n) (o : Option Int) : sIx n d o ≤ n := by
  cases o with
  | none => exact hd
  | some v =>
    show (if v < 0 then (v + (n : Int)).toNat else min v.toNat n) ≤ n
    by_cases hv : v < 0
    · rw [if_pos hv]; omega
    · rw [if_neg hv]; exact Nat.min_le_right _ _
theorem clip_eq (v : Int) (n d : Nat) : (if v < 0 then max (v + (n : Int)) 0 else min v (n : Int)) = ((sIx n d (some v) : Nat) : Int) := by
  show (if v < 0 then max (v + (n : Int)) 0 else min v (n : Int)) = (((if v < 0 then (v + (n : Int)).toNat else min v.toNat n) : Nat) : Int)
  by_cases hv : v < 0
  · simp only [if_pos hv]; omega
  · simp only [if_neg hv]; omega
theorem adjust_gen (lo hi : Option Int) (n : Nat) : Builtin.Slice.sliceAdjust lo hi 1 (n : Int) = (((sIx n 0 lo : Nat) : Int), ((sIx n n hi : Nat) : Int)) := by
  have h1 : ¬ ((1 : Int) < 0) := by omega
  unfold Builtin.Slice.sliceAdjust
  simp only [h1, if_false]
  refine Prod.ext ?_ ?_
  · cases lo with
    | none => rfl
    | some v => exact clip_eq v n 0
  · cases hi with
    | none => rfl
    | some v => exact clip_eq v n n
theorem places_gen (i j : Nat) : Builtin.Slice.slicePlaces (i : Int) (j : Int) 1 = j - i := by
  unfold Builtin.Slice.slicePlaces
  have h1 : (1 : Int) > 0 := by omega
  simp only [h1, if_true, Int.ediv_one]
  split <;> omega
theorem slicePart_ {v : Value} {o : Option Int} {Q : Option Int → Shared → Prop} (p : IsPart v o) (h : Q o s) : wpAny (model prog w) A (Builtin.Slice.slicePartIndex v) Q E s := by
  cases p with
  | none => exact slicePart_none h
  | int i t => exact slicePart_int h
theorem sliceApplied_gen {sl : Addr} {vl vu : Value} {lo hi : Option Int} {n : Nat} {Q : Int × Int × Nat → Shared → Prop} (hs : s.heap.IsSliceOf sl vl vu .none) (pl : IsPart vl lo) (pu : IsPart vu hi)
    (h : Q (((sIx n 0 lo : Nat) : Int), 1, sIx n n hi - sIx n 0 lo) s) : wpAny (model prog w) A (Builtin.Slice.sliceApplied (.ref sl) (pure (n : Int))) Q E s := by
  obtain ⟨os, hos, hcs, hds⟩ := id hs
  unfold Builtin.Slice.sliceApplied Builtin.Slice.sliceFields
  refine wpAny_bind (wpAny_bind (wpAny_field hos hds (x := vl) rfl (wpAny_bind (wpAny_field hos hds (x := vu) rfl (wpAny_bind (wpAny_field hos hds (x := .none) rfl (wpAny_pure ?_)))))))
  refine wpAny_bind (slicePart_none ?_)
  show wpAny _ _ (if ((1 : Int) == 0) = true then _ else _) _ _ s
  rw [if_neg (by decide)]
  refine wpAny_bind (slicePart_ pl (wpAny_bind (slicePart_ pu (wpAny_bind (wpAny_pure ?_)))))
  show wpAny _ _ (match Builtin.Slice.sliceAdjust lo hi 1 (n : Int) with | (lo, hi) => pure (lo, (1 : Int), Builtin.Slice.slicePlaces lo hi 1)) _ _ s
  rw [adjust_gen lo hi n]
  show wpAny _ _ (pure (((sIx n 0 lo : Nat) : Int), (1 : Int), Builtin.Slice.slicePlaces ((sIx n 0 lo : Nat) : Int) ((sIx n n hi : Nat) : Int) 1)) _ _ s
  rw [places_gen]
  exact wpAny_pure h
theorem pick_gen (xs : Array Value) (i k : Nat) : ((List.range k).filterMap fun (m : Nat) => xs[((i : Int) + (m : Int) * 1).toNat]?).toArray = ((xs.toList.drop i).take k).toArray := by
  have e : (fun (m : Nat) => xs[((i : Int) + (m : Int) * 1).toNat]?) = fun m => xs[i + m]? := by
    funext m
    have : ((i : Int) + (m : Int) * 1).toNat = i + m := by omega
    rw [this]
  rw [e]
  have := pick_run xs i k
  rw [List.filterMap_map] at this
  have e2 : ((fun x => xs[x]?) ∘ fun x => i + x) = fun m => xs[i + m]? := rfl
  rw [e2] at this
  rw [this]

theorem getItem_tuple_cut {t sl : Addr} {items : Array Value} {vl vu : Value} {lo hi : Option Int} {Q : Value → Shared → Prop} (ht : IsTup s.heap t items) (hs : s.heap.IsSliceOf sl vl vu .none) (pl : IsPart vl lo) (pu : IsPart vu hi)
    (hw : ¬ (sIx items.size 0 lo = 0 ∧ sIx items.size items.size hi = items.size))
    (h : Q (.ref s.heap.objs.size) { s with heap := s.heap.push { cls := .type "tuple", data := .seq ((items.toList.drop (sIx items.size 0 lo)).take (sIx items.size items.size hi - sIx items.size 0 lo)).toArray } })
    (hsz : items.size ≤ sizeLine) : wpAny (model prog w) A (getItem (.ref t) (.ref sl)) Q E s := by
  have htake : sizeOk (.seq ((items.toList.drop (sIx items.size 0 lo)).take (sIx items.size items.size hi - sIx items.size 0 lo)).toArray) := by
    show ((items.toList.drop (sIx items.size 0 lo)).take (sIx items.size items.size hi - sIx items.size 0 lo)).toArray.size ≤ sizeLine
    rw [List.size_toArray, List.length_take, List.length_drop, Array.length_toList]
    omega
  have hj : sIx items.size items.size hi ≤ items.size := sIx_le _ _ (Nat.le_refl _) hi
  obtain ⟨os, hos, hcs, hds⟩ := id hs
  have hTs : s.TypeIs (.ref sl) "slice" := ⟨os, hos, hcs⟩
  unfold getItem
  try with_reducible refine wpAny_holding ?_
  first | refine wpAny_bind (wpAny_pure ?_) | skip
  refine wpAny_bind (wpAny_sequenceKey ht.typeIs (by decide) ?_)
  refine wpAny_bind (wpAny_callSpecial?_slot (name := Str.ofString "__getitem__") ht.typeIs PyProof.Rows.slot_tuple_getitem
    (wpAny_call_entry PyProof.Rows.slot_tuple_getitem ht.typeIs entry_tuple_getitem ?_ (args_tuple_getitem _ _)))
  show wpAny _ _ (Builtin.Tuple.tupleItemsOf (.ref t) >>= _) _ _ s
  refine wpAny_bind (tupleItemsOf_ ht ?_)
  refine wpAny_bind (wpAny_typeOf hTs ?_)
  rw [if_pos (by decide)]
  refine wpAny_bind (sliceApplied_gen hs pl pu ?_)
  have hno : ¬ ((((sIx items.size 0 lo : Nat) : Int) == 0 && (1 : Int) == 1 && (sIx items.size items.size hi - sIx items.size 0 lo) == items.size) = true) := by
    intro q
    rw [Bool.and_eq_true, Bool.and_eq_true] at q
    have q1 : ((sIx items.size 0 lo : Nat) : Int) = 0 := eq_of_beq q.1.1
    have q2 : sIx items.size items.size hi - sIx items.size 0 lo = items.size := eq_of_beq q.2
    exact hw ⟨by omega, by omega⟩
  show wpAny _ _ (if (((sIx items.size 0 lo : Nat) : Int) == 0 && (1 : Int) == 1 && (sIx items.size items.size hi - sIx items.size 0 lo) == items.size) = true then _ else _) _ _ s
  rw [if_neg hno, pick_gen]
  first
    | exact wpAny_bind (m := Builtin.Tuple.tupleExact _) (wpAny_newObj_type (wpAny_pure ⟨_, rfl, wpAny_pure h⟩) htake)
    | exact wpAny_bind (m := Builtin.Tuple.tupleExact _) (wpAny_newObj_type (wpAny_bind (wpAny_pure (wpAny_pure ⟨_, rfl, wpAny_pure h⟩))) htake)
    | exact wpAny_bind (wpAny_bind (m := Builtin.Tuple.tupleExact _) (wpAny_newObj_type (wpAny_pure (wpAny_pure ⟨_, rfl, wpAny_pure h⟩)) htake))
    | exact wpAny_bind (wpAny_bind (m := Builtin.Tuple.tupleExact _) (wpAny_newObj_type (wpAny_pure ⟨_, rfl, wpAny_pure h⟩) htake))
end
end HT

namespace L2
open PySem PySem.Spec PyProof.Rows

/-! ### the parts of a slice -/
abbrev TO := St → Hp → (Option Int → Hp → Prop) → Prop
/-- a slice's part (left out, or an int) -/
def PO (X : Cx) (e : Option Expr) (t : TO) : Prop :=
  ∀ (pins : List (Addr × Obj)) (s : Shared) (σ : St) (H : Hp) (Q : Option Int → Hp → Prop), Inv X pins σ H s → t σ H Q →
    wpAny (model X.prog X.w) X.A (evalPart e X.env) (fun u s' => ∃ o H', Inv X pins σ H' s' ∧ IsPart u o ∧ Q o H') X.xe s
def tNoPart : TO := fun _ H Q => Q none H
def tPart (t : TE) : TO := fun σ H Q => t σ H fun x H1 => ∃ i, x = .int i ∧ Q (some i) H1

theorem intsAre_of {ns : List Int} : ∀ {us : List Value}, Vals (ns.map V.int) us → IntsAre us ns := by
  induction ns with
  | nil => intro us r; rw [List.map_nil] at r; cases r; exact .nil
  | cons n ns ih =>
    intro us r
    rw [List.map_cons] at r
    cases r with
    | cons r1 r2 =>
      obtain ⟨t, e⟩ := r1
      subst e
      exact .cons n t (ih r2)

section
variable {X : Cx} {e : Expr} {te : TE} {lo hi : Option Expr} {tl th : TO} {pos p2 : Pos}

theorem po_none : PO X none tNoPart := by
  intro pins s σ H Q I h
  rw [evalPart_none]
  exact wpAny_pure ⟨none, H, I, .none, h⟩
theorem po_some (h : PE X e te) : PO X (some e) (tPart te) := by
  intro pins s σ H Q I hw
  rw [evalPart_some]
  refine thn (h pins s σ H _ I hw) fun u s1 ⟨x, H1, I1, r1, q1⟩ => ?_
  obtain ⟨i, rfl, q⟩ := q1
  obtain ⟨t, rfl⟩ := r1
  exact ⟨some i, H1, I1, .int i t, q⟩

/-- what a slice of a value is, by values: the slice object stands at sl -/
def SlR (X : Cx) (r : V → Option Int → Option Int → Hp → VK → Prop) : Prop :=
  ∀ (pins : List (Addr × Obj)) (s : Shared) (σ : St) (H : Hp) (x : V) (v vl vu : Value) (lo hi : Option Int) (sl : Addr) (Q : VK), Inv X pins σ H s → RelV x v → s.heap.IsSliceOf sl vl vu .none → IsPart vl lo → IsPart vu hi → r x lo hi H Q →
    ∃ T id, typeLookup (.type T) "__getitem__" = pure (some (.builtin id)) ∧ s.TypeIs v T ∧ wpAny (model X.prog X.w) X.A (getItem v (.ref sl)) (EP X pins σ Q) X.xe s
theorem SlR.or {r r' : V → Option Int → Option Int → Hp → VK → Prop} (h : SlR X r) (h' : SlR X r') : SlR X (fun x lo hi H Q => r x lo hi H Q ∨ r' x lo hi H Q) := by
  intro pins s σ H x v vl vu lo hi sl Q I rx hs pl pu q
  rcases q with q | q
  · exact h pins s σ H x v vl vu lo hi sl Q I rx hs pl pu q
  · exact h' pins s σ H x v vl vu lo hi sl Q I rx hs pl pu q
def tSl (r : V → Option Int → Option Int → Hp → VK → Prop) (te : TE) (tl th : TO) : TE := fun σ H Q => te σ H fun x H1 => tl σ H1 fun l H2 => th σ H2 fun u H3 => r x l u H3 Q
/-- a[lo:hi], any a -/
theorem pe_slice {r : V → Option Int → Option Int → Hp → VK → Prop} (hr : SlR X r) (he : PE X e te) (hl : PO X lo tl) (hu : PO X hi th) : PE X (.Subscript e (.Slice lo hi none p2) pos) (tSl r te tl th) := by
  intro pins s σ H Q I h
  refine Subscript_ (thn (he pins s σ H _ I h) fun v s1 ⟨x, H1, I1, r1, q1⟩ => ?_)
  refine wpAny_Slice (thn (hl pins s1 σ H1 _ I1 q1) fun vl s2 ⟨l, H2, I2, pl, q2⟩ => thn (hu pins s2 σ H2 _ I2 q2) fun vu s3 ⟨u, H3, I3, pu, q3⟩ => ?_)
  rw [evalPart_none]
  refine wpAny_pure ?_
  have I4 : Inv X pins σ H3 { s3 with heap := s3.heap.push { cls := .type "slice", data := .fields #[vl, vu, .none] } } := I3.kept (t' := s3.toks) fun b ob q => Heap.get?_push_of_some _ q
  obtain ⟨T, id, hT, ht, hg⟩ := hr pins { s3 with heap := s3.heap.push { cls := .type "slice", data := .fields #[vl, vu, .none] } } σ H3 x v vl vu l u s3.heap.objs.size Q I4 r1 (Heap.IsSliceOf.new ..) pl pu q3
  show wpAny (model X.prog X.w) X.A (subscriptTail e (.Slice lo hi none p2) v (.ref s3.heap.objs.size)) (EP X pins σ Q) X.xe { s3 with heap := s3.heap.push { cls := .type "slice", data := .fields #[vl, vu, .none] } }
  exact tail_any (ops := [.ref s3.heap.objs.size, v]) ht hT hg (by with_unfolding_all rfl)

/-- the items of xs[lo:hi] -/
def cutV (xs : List V) (lo hi : Option Int) : List V := (xs.drop (HT.sIx xs.length 0 lo)).take (HT.sIx xs.length xs.length hi - HT.sIx xs.length 0 lo)
theorem cutV_length (xs : List V) (lo hi : Option Int) : (cutV xs lo hi).length ≤ xs.length := by
  unfold cutV
  rw [List.length_take, List.length_drop]
  omega
/-- t[lo:hi], not the whole of it (the whole would be t itself) -/
def rSlT (K : PySem.W.Frag) : V → Option Int → Option Int → Hp → VK → Prop := fun x lo hi H Q => ∃ a xs, x = .ref a ∧ SqT K H a xs ∧
  ¬ (HT.sIx xs.length 0 lo = 0 ∧ HT.sIx xs.length xs.length hi = xs.length) ∧ ∀ p, H p = none → Q (.ref p) (upd H p (.tup (cutV xs lo hi)))
theorem sl_tup : SlR X (rSlT X.K) := by
  intro pins s σ H x v vl vu lo hi sl Q I rx hs pl pu h
  obtain ⟨a, xs, rfl, hx, hw, q⟩ := h
  cases rx
  obtain ⟨its, r, ht, hz⟩ := I.tuple hx
  have hlen : its.toArray.size = xs.length := by rw [List.size_toArray]; exact r.length.symm
  refine ⟨"tuple", _, PyProof.Rows.slot_tuple_getitem.lookup, ht.typeIs, ?_⟩
  refine HT.getItem_tuple_cut ht hs pl pu (by rw [hlen]; exact hw) ?_ (by rw [hlen]; exact hz)
  rw [hlen]
  refine ⟨.ref s.heap.objs.size, _, I.laid (t' := s.toks) (o := .tup (cutV xs lo hi)) (fun b ob q => Heap.get?_push_of_some _ q) (Nat.le_refl _) ?_, rfl, q _ (I.hok.fresh (Nat.le_refl _))⟩
  exact ⟨Nat.le_trans (cutV_length xs lo hi) hz, _, (r.drop (HT.sIx xs.length 0 lo)).take (HT.sIx xs.length xs.length hi - HT.sIx xs.length 0 lo), IsTup.new _ _⟩

/-! ### t < u, t + u -/
/-- t + u, t not empty: u empty gives t itself -/
def rCatT (K : PySem.W.Frag) : R2 := fun x y H Q => ∃ a b xs ys, x = .ref a ∧ y = .ref b ∧ SqT K H a xs ∧ SqT K H b ys ∧ xs ≠ [] ∧ xs.length + ys.length ≤ sizeLine ∧
  (ys = [] → Q (.ref a) H) ∧ (ys ≠ [] → ∀ p, H p = none → Q (.ref p) (upd H p (.tup (xs ++ ys))))
end
end L2

namespace L2
open PySem PySem.Spec PyProof.Rows

/-! ### places -/
/-- the place that an index of any sign means -/
def ixN (n : Nat) (i : Int) : Option Nat := if 0 ≤ i then (if i < n then some i.toNat else none) else if -(n : Int) ≤ i then some (i + n).toNat else none
def atI {α : Type} (xs : List α) (i : Int) : Option α := (ixN xs.length i).bind fun j => xs[j]?
theorem ixN_seq {n : Nat} {i : Int} {j : Nat} (h : ixN n i = some j) : seqIndex? i n = some j ∧ j < n ∧ -(n : Int) ≤ i ∧ i < n := by
  unfold ixN at h
  by_cases h0 : 0 ≤ i
  · rw [if_pos h0] at h
    by_cases h1 : i < n
    · rw [if_pos h1] at h
      have e : i.toNat = j := Option.some.inj h
      exact ⟨by rw [seqIndex_of h0 h1, e], by omega, by omega, h1⟩
    · rw [if_neg h1] at h; cases h
  · rw [if_neg h0] at h
    by_cases h1 : -(n : Int) ≤ i
    · rw [if_pos h1] at h
      have e : (i + n).toNat = j := Option.some.inj h
      exact ⟨by rw [seqIndex_neg (by omega) h1, e], by omega, h1, by omega⟩
    · rw [if_neg h1] at h; cases h
theorem atI_get {α : Type} {xs : List α} {i : Int} {v : α} (h : atI xs i = some v) : ∃ j, seqIndex? i xs.length = some j ∧ xs[j]? = some v ∧ j < xs.length ∧ -(xs.length : Int) ≤ i ∧ i < xs.length := by
  unfold atI at h
  cases e : ixN xs.length i with
  | none => rw [e] at h; cases h
  | some j =>
    rw [e] at h
    obtain ⟨h1, h2, h3, h4⟩ := ixN_seq e
    exact ⟨j, h1, h, h2, h3, h4⟩
theorem atI_nat {α : Type} {xs : List α} {j : Nat} {v : α} (h : xs[j]? = some v) : atI xs (j : Int) = some v := by
  have hj : j < xs.length := (List.getElem?_eq_some_iff.mp h).1
  have e : ixN xs.length (j : Int) = some j := by
    unfold ixN
    rw [if_pos (by omega), if_pos (by omega)]; simp
  unfold atI; rw [e]; exact h
/-! ### what may be subscripted -/
/-- what stands as an index of a plain subscript -/
def PlainIx (b : Expr) : Prop := ∀ o i, subscripted b false o i = operate [o, i] (getItem o i)
/-- a subscript by values -/
def IxR (X : Cx) (r : R2) : Prop :=
  ∀ (value slice : Expr) (pins : List (Addr × Obj)) (s : Shared) (σ : St) (H : Hp) (x y : V) (v u : Value) (Q : VK), Inv X pins σ H s → RelV x v → RelV y u → r x y H Q →
    subscripted slice false v u = operate [v, u] (getItem v u) → wpAny (model X.prog X.w) X.A (subscriptTail value slice v u) (EP X pins σ Q) X.xe s
/-- a call of a builtin's method by values: the receiver, the arguments -/
def MtR (X : Cx) (id : String) (r : V → List V → Hp → VK → Prop) : Prop :=
  ∀ (pins : List (Addr × Obj)) (s : Shared) (σ : St) (H : Hp) (x : V) (xs : List V) (v : Value) (us : List Value) (Q : VK), Inv X pins σ H s → RelV x v → Vals xs us → r x xs H Q →
    wpAny (model X.prog X.w) X.A (call (.builtin id) (v :: us)) (EP X pins σ Q) X.xe s
section
variable {X : Cx} {a b : Expr} {ta tb : TE} {pos : Pos}
theorem IxR.or {r r' : R2} (h : IxR X r) (h' : IxR X r') : IxR X (fun x y H Q => r x y H Q ∨ r' x y H Q) := by
  intro value slice pins s σ H x y v u Q I rx ry q hs
  rcases q with q | q
  · exact h value slice pins s σ H x y v u Q I rx ry q hs
  · exact h' value slice pins s σ H x y v u Q I rx ry q hs
theorem MtR.or {id : String} {r r' : V → List V → Hp → VK → Prop} (h : MtR X id r) (h' : MtR X id r') : MtR X id (fun x xs H Q => r x xs H Q ∨ r' x xs H Q) := by
  intro pins s σ H x xs v us Q I rx rs q
  rcases q with q | q
  · exact h pins s σ H x xs v us Q I rx rs q
  · exact h' pins s σ H x xs v us Q I rx rs q
/-- a[b] -/
theorem pe_ix {r : R2} (hr : IxR X r) (ha : PE X a ta) (hb : PE X b tb) (hs : PlainIx b) : PE X (.Subscript a b pos) (tOp r ta tb) := by
  intro pins s σ H Q I h
  exact Subscript_ (binT ha hb I h fun v u s2 x y H2 I2 rx ry q => hr a b pins s2 σ H2 x y v u Q I2 rx ry q (hs _ _))

def rIxL (K : PySem.W.Frag) : R2 := fun x y H Q => ∃ p xs i v, x = .ref p ∧ y = .int i ∧ SqL K H p xs ∧ atI xs i = some v ∧ Q v H
def rIxT (K : PySem.W.Frag) : R2 := fun x y H Q => ∃ p xs i v, x = .ref p ∧ y = .int i ∧ SqT K H p xs ∧ atI xs i = some v ∧ Q v H
def rIxS : R2 := fun x y H Q => ∃ z i c, x = .str z ∧ y = .int i ∧ z.length ≤ sizeLine ∧ atI z.cps.toList i = some c ∧ Q (.str ⟨#[c]⟩) H
theorem ix_list : IxR X (rIxL X.K) := by
  intro value slice pins s σ H x y v u Q I rx ry h hs
  obtain ⟨p, xs, i, z, rfl, rfl, hq, he, q⟩ := h
  cases rx
  obtain ⟨t, rfl⟩ := ry
  obtain ⟨its, r, pl, hz⟩ := I.list hq
  obtain ⟨j, h1, h2, h3, h4, h5⟩ := atI_get he
  obtain ⟨w, ew, rw'⟩ := r.get h2
  have hl := r.length
  have hn := line63
  have fin : EP X pins σ Q w s := ⟨z, H, I, rw', q⟩
  by_cases h0 : 0 ≤ i
  · have hj : i.toNat = j := by
      rw [seqIndex_of h0 h5] at h1
      exact Option.some.inj h1
    exact item_listR pl.isList h0 (by omega) (by rw [hj]; simpa using ew) fin hs
  · have hj : (i + (its.toArray.size : Int)).toNat = j := by
      rw [seqIndex_neg (by omega) h4] at h1
      rw [List.size_toArray, ← hl]
      exact Option.some.inj h1
    exact subscriptTail_builtinR (x := w) pl.isList.typeIs slot_list_getitem.lookup
      (wpAny_getItem_list_neg (Q := fun r s' => r = w ∧ EP X pins σ Q r s') pl.isList (by omega) (by rw [List.size_toArray] <;> omega) (by omega) (by rw [hj]; simpa using ew) ⟨rfl, fin⟩) hs
theorem ix_tup : IxR X (rIxT X.K) := by
  intro value slice pins s σ H x y v u Q I rx ry h hs
  obtain ⟨p, xs, i, z, rfl, rfl, hq, he, q⟩ := h
  cases rx
  obtain ⟨t, rfl⟩ := ry
  obtain ⟨its, r, pl, hz⟩ := I.tuple hq
  obtain ⟨j, h1, h2, h3, h4, h5⟩ := atI_get he
  obtain ⟨w, ew, rw'⟩ := r.get h2
  have hl := r.length
  have hn := line63
  have fin : EP X pins σ Q w s := ⟨z, H, I, rw', q⟩
  exact subscriptTail_builtinR (x := w) pl.typeIs slot_tuple_getitem.lookup
    (getItem_tuple (j := j) (Q := fun r s' => r = w ∧ EP X pins σ Q r s') pl (by omega) (by omega) (by rw [List.size_toArray, ← hl]; exact h1) (by simpa using ew) ⟨rfl, fin⟩) hs
theorem ix_str : IxR X rIxS := by
  intro value slice pins s σ H x y v u Q I rx ry h hs
  obtain ⟨z, i, c, rfl, rfl, hz, he, q⟩ := h
  obtain ⟨t, rfl⟩ := rx
  obtain ⟨t', rfl⟩ := ry
  obtain ⟨j, h1, h2, h3, h4, h5⟩ := atI_get he
  have hl : z.cps.toList.length = z.length := by simp [Str.length]
  rw [hl] at h1 h4 h5
  have hn := line63
  exact tail_any (typeIs_str s z t) slot_str_getitem.lookup (getItem_str (c := c) (by
    have e1 : decide (i < -(2 ^ 63 : Int)) = false := decide_eq_false (by omega)
    have e2 : decide (i ≥ 2 ^ 63) = false := decide_eq_false (by omega)
    rw [e1, e2, Bool.or_false]) (by rw [h1]; simpa using h2) ⟨.str ⟨#[c]⟩, H, I.tok _, ⟨_, rfl⟩, q⟩) hs
/-! ### xs[i] = v, any sign -/
/-- the list's object behind a store -/
theorem mapSeq_set (its : List Value) (n j : Nat) (u : Value) : Obj.mapSeq (·.setIfInBounds j u) { cls := .type "list", data := .seq its.toArray n } = { cls := .type "list", data := .seq (its.set j u).toArray n } := by
  simp [Obj.mapSeq]
theorem Inv.lst {pins : List (Addr × Obj)} {σ : St} {H : Hp} {s : Shared} {p : Addr} {xs : List V} (I : Inv X pins σ H s) (h : H p = some (.lst xs)) :
    ∃ (its : List Value) (n : Nat), Vals xs its ∧ s.heap.get? p = some { cls := .type "list", data := .seq its.toArray n } ∧ xs.length ≤ sizeLine := by
  obtain ⟨z, its, n, r, e⟩ := I.hok p _ h
  exact ⟨its, n, r, e, z⟩
/-- the list at p is written by an update of its object -/
theorem Inv.lstUpd {pins : List (Addr × Obj)} {σ : St} {H : Hp} {s : Shared} {p : Addr} {xs ys : List V} {its its' : List Value} {n n' : Nat} {f : Obj → Obj} (I : Inv X pins σ H s) (h : H p = some (.lst xs))
    (ho : s.heap.get? p = some { cls := .type "list", data := .seq its.toArray n }) (hf : f { cls := .type "list", data := .seq its.toArray n } = { cls := .type "list", data := .seq its'.toArray n' }) (r : Vals ys its') (hz : ys.length ≤ sizeLine) (t : Nat) :
    Inv X pins σ (upd H p (.lst ys)) { s with heap := s.heap.update p f, toks := t } := by
  have e : (s.heap.update p f).get? p = some { cls := .type "list", data := .seq its'.toArray n' } := by
    rw [Heap.get?_update_self f ho (by rw [hf] <;> rfl), hf]
  refine I.write (x := p) (e := p) (by rw [h]; trivial) (.inl rfl) (fun b u hb q => (Heap.get?_update_other _ _ (Ne.symm hb)).trans q) ⟨_, e⟩ ?_
  exact ⟨hz, its', n', r, e⟩
def rSetL : V → V → V → Hp → (Hp → Prop) → Prop := fun o i v H Q => ∃ p xs k j, o = .ref p ∧ i = .int k ∧ H p = some (.lst xs) ∧ ixN xs.length k = some j ∧ Q (upd H p (.lst (xs.set j v)))
theorem set_list : PSet X rSetL := by
  intro pins s σ H o i v ov iv u Q I ro ri rv h
  obtain ⟨p, xs, k, j, rfl, rfl, hp, hj, q⟩ := h
  cases ro
  obtain ⟨t, rfl⟩ := ri
  obtain ⟨its, n, r, ho, hz⟩ := I.lst hp
  obtain ⟨h1, h2, h3, h4⟩ := ixN_seq hj
  have hl := r.length
  have hn := line63
  have I' : Inv X pins σ (upd H p (.lst (xs.set j v))) { s with heap := s.heap.update p (Obj.mapSeq (·.setIfInBounds j u)) } :=
    I.lstUpd hp ho (mapSeq_set its n j u) (r.set rv j) (by rw [List.length_set]; exact hz) s.toks
  by_cases h0 : 0 ≤ k
  · have hk : k.toNat = j := by
      rw [seqIndex_of h0 h4] at h1
      exact Option.some.inj h1
    exact PySem.W.ki_setAt ho h0 (by omega) (by rw [List.size_toArray, ← hl]; exact h4) (by rw [hk]; exact ⟨_, I', q⟩)
  · have hk : (k + (its.toArray.size : Int)).toNat = j := by
      rw [seqIndex_neg (by omega) h3] at h1
      rw [List.size_toArray, ← hl]
      exact Option.some.inj h1
    exact PySem.W.ki_setBack ho (by omega) (by rw [List.size_toArray, ← hl]; exact h3) (by omega) (by rw [hk]; exact ⟨_, I', q⟩)

/-! ### slices -/
theorem slice_bounds (lo hi : Option Int) (n : Nat) : (sliceBounds lo hi none n).1 = ((HT.sIx n 0 lo : Nat) : Int) ∧ (sliceBounds lo hi none n).2.1 = ((HT.sIx n n hi : Nat) : Int) ∧ (sliceBounds lo hi none n).2.2 = 1 := by
  refine ⟨?_, ?_, rfl⟩
  · cases lo with
    | none => simp [sliceBounds, HT.sIx]
    | some i =>
      simp only [sliceBounds, HT.sIx, Option.getD_none, show (1 : Int) > 0 by decide, if_true]
      by_cases h : i < 0
      · simp only [h, if_true] <;> omega
      · simp only [h, if_false] <;> omega
  · cases hi with
    | none => simp [sliceBounds, HT.sIx]
    | some i =>
      simp only [sliceBounds, HT.sIx, Option.getD_none, show (1 : Int) > 0 by decide, if_true]
      by_cases h : i < 0
      · simp only [h, if_true] <;> omega
      · simp only [h, if_false] <;> omega
theorem slicePick_cut (its : List Value) (lo hi : Option Int) : slicePick its.toArray lo hi none = ((its.drop (HT.sIx its.length 0 lo)).take (HT.sIx its.length its.length hi - HT.sIx its.length 0 lo)).toArray := by
  obtain ⟨h1, h2, h3⟩ := slice_bounds lo hi its.toArray.size
  unfold slicePick
  rw [h1, h2, h3]
  simp only [sliceRange_one, pick_run, List.size_toArray] <;> rfl
/-- xs[lo:hi] of a list: a new list -/
def rSlL (K : PySem.W.Frag) : V → Option Int → Option Int → Hp → VK → Prop := fun x lo hi H Q => ∃ a xs, x = .ref a ∧ SqL K H a xs ∧ ∀ p, H p = none → Q (.ref p) (upd H p (.lst (cutV xs lo hi)))
theorem sl_list : SlR X (rSlL X.K) := by
  intro pins s σ H x v vl vu lo hi sl Q I rx hs pl pu h
  obtain ⟨a, xs, rfl, hx, q⟩ := h
  cases rx
  obtain ⟨its, r, ht, hz⟩ := I.list hx
  have hlen := r.length
  refine ⟨"list", _, slot_list_getitem.lookup, ht.isList.typeIs, ?_⟩
  refine wpAny_getItem_list_slice ht.isList hs pl pu .none (by simp) ?_ (by rw [List.size_toArray] <;> omega)
  rw [slicePick_cut, ← hlen]
  refine ⟨.ref s.heap.objs.size, _, I.laid (t' := s.toks) (o := .lst (cutV xs lo hi)) (fun b ob q => Heap.get?_push_of_some _ q) (Nat.le_refl _) ?_, rfl, q _ (I.hok.fresh (Nat.le_refl _))⟩
  exact ⟨Nat.le_trans (cutV_length xs lo hi) hz, _, 0, (r.drop (HT.sIx xs.length 0 lo)).take (HT.sIx xs.length xs.length hi - HT.sIx xs.length 0 lo), Heap.get?_push_size _ rfl⟩

/-! ### in, not in: flat items -/
def flatV : V → Bool
  | .non => true
  | .bl _ => true
  | .int _ => true
  | .str _ => true
  | _ => false
/-- == of flat values -/
def eqV : V → V → Bool
  | .non, .non => true
  | .bl a, .bl b => a == b
  | .bl a, .int b => (if a then 1 else 0) == b
  | .int a, .bl b => a == (if b then 1 else 0)
  | .int a, .int b => a == b
  | .str a, .str b => a == b
  | _, _ => false
theorem eqAt_V {A : Around} {s : Shared} {y x : V} {u v : Value} (ry : RelV y u) (rx : RelV x v) (fy : flatV y = true) (fx : flatV x = true) : SeqAt.EqAt A s u v (eqV y x) := by
  cases y with
  | non =>
    cases ry
    cases x with
    | non => cases rx; exact SeqAt.EqAt.same _
    | bl b => cases rx; exact SeqAt.EqAt.none_bool b
    | int b => obtain ⟨t, rfl⟩ := rx; exact SeqAt.EqAt.none_int b t
    | str b => obtain ⟨t, rfl⟩ := rx; exact SeqAt.EqAt.none_str b t
    | _ => exact absurd (show false = true from fx) Bool.false_ne_true
  | bl a =>
    cases ry
    cases x with
    | non => cases rx; exact SeqAt.EqAt.bool_none a
    | bl b => cases rx; exact SeqAt.EqAt.bool_bool a b
    | int b => obtain ⟨t, rfl⟩ := rx; exact SeqAt.EqAt.bool_int a b t
    | str b => obtain ⟨t, rfl⟩ := rx; exact SeqAt.EqAt.bool_str a b t
    | _ => exact absurd (show false = true from fx) Bool.false_ne_true
  | int a =>
    obtain ⟨t', rfl⟩ := ry
    cases x with
    | non => cases rx; exact SeqAt.EqAt.int_none a t'
    | bl b => cases rx; exact SeqAt.EqAt.int_bool a t' b
    | int b => obtain ⟨t, rfl⟩ := rx; exact SeqAt.EqAt.int_int a t' b t
    | str b => obtain ⟨t, rfl⟩ := rx; exact SeqAt.EqAt.int_str a t' b t
    | _ => exact absurd (show false = true from fx) Bool.false_ne_true
  | str a =>
    obtain ⟨t', rfl⟩ := ry
    cases x with
    | non => cases rx; exact SeqAt.EqAt.str_none a t'
    | bl b => cases rx; exact SeqAt.EqAt.str_bool a t' b
    | int b => obtain ⟨t, rfl⟩ := rx; exact SeqAt.EqAt.str_int a t' b t
    | str b => obtain ⟨t, rfl⟩ := rx; exact SeqAt.EqAt.str_str a t' b t
    | _ => exact absurd (show false = true from fx) Bool.false_ne_true
  | _ => exact absurd (show false = true from fy) Bool.false_ne_true
/-! ### len, list(x), tuple(x) of any list or tuple that is read -/
theorem call_len_seq : CallR X (.builtin "len") (fun xs H Q => ∃ p ys, xs = [.ref p] ∧ (SqL X.K H p ys ∨ SqT X.K H p ys) ∧ Q (.int ys.length) H) := by
  intro pins s σ H xs us Q I r h
  obtain ⟨p, ys, rfl, hq, q⟩ := h
  obtain ⟨u, rfl, rx⟩ := vals1 r
  cases rx
  have hn := line63
  rcases hq with hq | hq
  · obtain ⟨its, r', pl, hz⟩ := I.list hq
    have hlen := r'.length
    exact Calls.call_len_list pl.isList (by simp only [List.size_toArray] <;> omega) ⟨.int ys.length, H, I.tok _, ⟨s.toks + 1, by rw [List.size_toArray, hlen]⟩, q⟩
  · obtain ⟨its, r', pl, hz⟩ := I.tuple hq
    have hlen := r'.length
    exact len_tuple pl (by simp only [List.size_toArray] <;> omega) ⟨.int ys.length, H, I.tok _, ⟨s.toks + 1, by rw [List.size_toArray, hlen]⟩, q⟩
theorem CallR.or {f : Value} {r r' : List V → Hp → VK → Prop} (h : CallR X f r) (h' : CallR X f r') : CallR X f (fun xs H Q => r xs H Q ∨ r' xs H Q) := by
  intro pins s σ H xs us Q I rs q
  rcases q with q | q
  · exact h pins s σ H xs us Q I rs q
  · exact h' pins s σ H xs us Q I rs q
theorem call_list_of : CallR X (.type "list") (fun xs H Q => ∃ p ys, xs = [.ref p] ∧ (SqL X.K H p ys ∨ SqT X.K H p ys) ∧ ∀ l, H l = none → Q (.ref l) (upd H l (.lst ys))) := by
  intro pins s σ H xs us Q I r h
  obtain ⟨p, ys, rfl, hq, q⟩ := h
  obtain ⟨u, rfl, rx⟩ := vals1 r
  cases rx
  have fin : ∀ (its : List Value), Vals ys its → ys.length ≤ sizeLine → ∀ (h' : Heap) (c' : Nat), (∀ b o', s.heap.get? b = some o' → h'.get? b = some o') →
      h'.get? s.heap.objs.size = some { cls := .type "list", dict := none, data := .seq its.toArray c', slots := #[] } → EP X pins σ Q (.ref s.heap.objs.size) { s with heap := h' } := fun its r' hz h' c' kp e =>
    ⟨.ref s.heap.objs.size, _, I.laid (t' := s.toks) kp (Nat.le_refl _) (show ObjOk X.prog X.w _ h' _ (.lst ys) from ⟨hz, its, c', r', e⟩), rfl, q _ (I.hok.fresh (Nat.le_refl _))⟩
  rcases hq with hq | hq
  · obtain ⟨its, r', pl, hz⟩ := I.list hq
    have hlen := r'.length
    obtain ⟨o, ho, hc, n, hd⟩ := pl.isList
    exact call_list_seq p (.inl rfl) ho hc hd (fun h' c' kp e => fin its r' hz h' c' kp e) (by simp only [List.size_toArray] <;> omega)
  · obtain ⟨its, r', pl, hz⟩ := I.tuple hq
    have hlen := r'.length
    obtain ⟨o, ho, hc, n, hd⟩ := pl
    exact call_list_seq p (.inr rfl) ho hc hd (fun h' c' kp e => fin its r' hz h' c' kp e) (by simp only [List.size_toArray] <;> omega)
/-! ### the call of a builtin's method: o.m(..) -/
/-- the value is of that builtin type -/
def tyV (K : PySem.W.Frag) (T : String) (x : V) (H : Hp) : Prop := match x with
  | .str _ => T = "str"
  | .int _ => T = "int"
  | .ref p => (T = "list" ∧ ∃ xs, SqL K H p xs) ∨ (T = "tuple" ∧ ∃ o, K.lookup p = some o ∧ o.cls = .type "tuple" ∧ o.dict = none) ∨
      (T = "dict" ∧ ((∃ kvs, H p = some (.dK kvs)) ∨ ∃ kvs, H p = some (.dT kvs))) ∨ (T = "set" ∧ ∃ S n, H p = some (.set S n))
  | _ => False
theorem tyV_is {pins : List (Addr × Obj)} {σ : St} {H : Hp} {s : Shared} {T : String} {x : V} {v : Value} (I : Inv X pins σ H s) (r : RelV x v) (ty : tyV X.K T x H) :
    s.TypeIs v T ∧ ∀ a, v = .ref a → ∃ ob, s.heap.get? a = some ob ∧ ob.dict = none := by
  cases x with
  | str z =>
    obtain ⟨t, rfl⟩ := r
    cases (show T = "str" from ty)
    exact ⟨typeIs_str s z t, fun _ e => nomatch e⟩
  | int i =>
    obtain ⟨t, rfl⟩ := r
    cases (show T = "int" from ty)
    exact ⟨typeIs_int s i t, fun _ e => nomatch e⟩
  | ref p =>
    cases r
    rcases ty with ⟨rfl, xs, hq⟩ | ⟨rfl, o, hk, hc, hd⟩ | ⟨rfl, hk⟩ | ⟨rfl, S, n, hk⟩
    · obtain ⟨its, _, pl, _⟩ := I.list hq
      refine ⟨pl.isList.typeIs, fun a e => ?_⟩
      cases e
      obtain ⟨o, n, e, c, hd, _⟩ := pl
      exact ⟨o, e, hd⟩
    · refine ⟨⟨o, I.kIn p o hk, hc⟩, fun a e => ?_⟩
      cases e
      exact ⟨o, I.kIn _ o hk, hd⟩
    · have z : ∃ o, s.heap.get? p = some o ∧ o.ExactDict := by
        rcases hk with ⟨kvs, hk⟩ | ⟨kvs, hk⟩
        · obtain ⟨_, _, _, _, o, _, _, e, ex, _⟩ := I.hok p _ hk
          exact ⟨o, e, ex⟩
        · obtain ⟨_, _, _, _, o, _, _, e, ex, _⟩ := I.hok p _ hk
          exact ⟨o, e, ex⟩
      obtain ⟨o, e, ex⟩ := z
      refine ⟨⟨o, e, ex.1⟩, fun a e2 => ?_⟩
      cases e2
      exact ⟨o, e, ex.2.1⟩
    · obtain ⟨o, _, _, _, e, ex, _⟩ := I.hok p _ hk
      refine ⟨⟨o, e, ex.1⟩, fun a e2 => ?_⟩
      cases e2
      exact ⟨o, e, ex.2.1⟩
  | _ => exact False.elim ty
def tBM0 (K : PySem.W.Frag) (T : String) (r : V → List V → Hp → VK → Prop) (to : TE) : TE := fun σ H Q => to σ H fun x H1 => tyV K T x H1 ∧ r x [] H1 Q
def tBM (K : PySem.W.Frag) (T : String) (r : V → List V → Hp → VK → Prop) (to : TE) (t : TA) : TE := fun σ H Q => to σ H fun x H1 => tyV K T x H1 ∧ t σ H1 fun xs H2 => r x xs H2 Q
variable {o e : Expr} {es : List Expr} {to : TE} {t : TA} {name : Str} {apos cpos : Pos} {T id : String} {r : V → List V → Hp → VK → Prop}
theorem pe_bm (pa : PlainAttrs T) (slot : Slot T name id) (hty : typeOf (.builtin id) = pure (.type "method_descriptor")) (hm : MtR X id r) (ho : PE X o to) (ha : PA X (e :: es) t)
    (hbase : attributeBase o name X.env (eval o X.env) = eval o X.env := by rfl)
    (hfew : ((backTo cpos (starEach (e :: es) X.env)).all (fun x => !x.1) && (backToKw cpos (keywordEach [] X.env)).all (fun x => x.1.isSome)
      && decide ((e :: es).length + ([] : List Keyword).length + (if ([] : List Keyword).isEmpty then 0 else 1) < 30)) = true := by rfl)
    (hline : (apos.endLine == cpos.line) = true := by rfl) (hs : starEach (e :: es) X.env = (false, eval e X.env) :: starEach es X.env := by rfl) (hplain : (backTo cpos (starEach es X.env)).any (·.1) = false := by rfl) :
    PE X (.Call (.Attribute o name apos) (e :: es) [] cpos) (tBM X.K T r to t) := by
  intro pins s σ H Q I h
  refine wpAny_Call_method_late hbase hfew hline rfl (thn (ho pins s σ H _ I h) fun v s1 ⟨x, H1, I1, r1, ty, q1⟩ => ?_)
  obtain ⟨h1, h2⟩ := tyV_is I1 r1 ty
  refine ⟨T, id, pa, slot, hty, h1, h2, ?_⟩
  have hA := ha cpos pins s1 σ H1 _ I1 q1
  rw [hs] at hA ⊢
  refine Calls.callWith_builtin (by show (false || (backTo cpos (starEach es X.env)).any (·.1)) = false; rw [hplain] <;> rfl) (Calls.evalArgs_plain ?_)
  exact thn hA fun us s2 ⟨vs, H2, I2, r2, q2⟩ => hm pins s2 σ H2 x vs v us Q I2 r1 r2 q2
/- xs.append(e), list.index on a module's tuple .. are MtR facts of 06m -/
end
end L2

namespace L2
open PySem PySem.Spec PyProof.Rows

def MtM (X : Cx) (id : String) (r : V → List V → Hp → VK → Prop) : Prop :=
  ∀ (pins : List (Addr × Obj)) (s : Shared) (σ : St) (H : Hp) (x : V) (xs : List V) (v : Value) (us : List Value) (Q : VK), Inv X pins σ H s → RelV x v → Vals xs us → r x xs H Q →
    wpAny (model X.prog X.w) X.A (call (.builtin id) (v :: us)) (EP X pins σ Q) X.xe s

/-! ### lists of values -/
theorem Vals.one : ∀ {x : V} {us : List Value}, Vals [x] us → ∃ u, us = [u] ∧ RelV x u
  | _, _, .cons r .nil => ⟨_, rfl, r⟩
theorem Vals.two : ∀ {x y : V} {us : List Value}, Vals [x, y] us → ∃ u v, us = [u, v] ∧ RelV x u ∧ RelV y v
  | _, _, _, .cons r (.cons q .nil) => ⟨_, _, rfl, r, q⟩
theorem Vals.zero : ∀ {us : List Value}, Vals [] us → us = []
  | _, .nil => rfl
theorem Vals.dropLast {xs : List V} {us : List Value} (h : Vals xs us) : Vals xs.dropLast us.dropLast := by
  induction h with
  | nil => exact .nil
  | cons r t ih =>
    cases t with
    | nil => exact .nil
    | cons q t' => exact .cons r ih
theorem Vals.reverse {xs : List V} {us : List Value} (h : Vals xs us) : Vals xs.reverse us.reverse := by
  induction h with
  | nil => exact .nil
  | cons r t ih => rw [List.reverse_cons, List.reverse_cons]; exact Vals.append ih (.cons r .nil)
theorem Vals.rep {xs : List V} {us : List Value} (h : Vals xs us) : ∀ k : Nat, Vals (List.replicate k xs).flatten (List.replicate k us).flatten
  | 0 => .nil
  | k + 1 => by
    rw [List.replicate_succ, List.replicate_succ, List.flatten_cons, List.flatten_cons]
    exact Vals.append h (Vals.rep h k)
theorem foldl_rep (its : List Value) : ∀ (k : Nat) (acc : List Value),
    List.foldl (fun x1 x2 => x1 ++ x2) acc.toArray (List.replicate k its.toArray) = (acc ++ (List.replicate k its).flatten).toArray
  | 0, acc => by simp
  | k + 1, acc => by
    have e : acc.toArray ++ its.toArray = (acc ++ its).toArray := by simp
    have e2 : (acc ++ its) ++ (List.replicate k its).flatten = acc ++ (List.replicate (k + 1) its).flatten := by
      rw [List.replicate_succ, List.flatten_cons, List.append_assoc]
    rw [← e2, ← foldl_rep its k (acc ++ its), ← e, List.replicate_succ, List.foldl_cons]

section
variable {X : Cx} {pins : List (Addr × Obj)} {σ : St} {H : Hp} {s : Shared} {l b : Addr} {xs ys zs : List V}

/-! ### the two steps: a tracked list is rewritten, a new list is laid -/
theorem Inv.lset {its its' : List Value} {n : Nat} {f : Array Value → Array Value} {t' : Nat} (I : Inv X pins σ H s) (hH : H l = some (.lst xs))
    (e : s.heap.get? l = some { cls := .type "list", data := .seq its.toArray n }) (hf : f its.toArray = its'.toArray) (hv : Vals ys its') (hz : ys.length ≤ sizeLine) :
    Inv X pins σ (upd H l (.lst ys)) { s with heap := s.heap.update l (Obj.mapSeq f), toks := t' } := by
  have q := PySem.IsL.update e f
  rw [hf] at q
  refine I.write (x := l) (e := l) (by rw [hH]; exact trivial) (.inl rfl) (fun b' u hb hu => (Heap.get?_update_other s.heap (Obj.mapSeq f) (Ne.symm hb)).trans hu) ⟨_, q⟩ ?_
  exact ⟨hz, its', _, hv, q⟩
theorem Inv.lnew {its : List Value} {t' : Nat} (I : Inv X pins σ H s) (hv : Vals ys its) (hz : ys.length ≤ sizeLine) :
    Inv X pins σ (upd H s.heap.objs.size (.lst ys)) { s with heap := s.heap.push { cls := .type "list", data := .seq its.toArray }, toks := t' } :=
  I.laid (fun _ _ q => Heap.get?_push_of_some _ q) (Nat.le_refl _) ⟨hz, its, 0, hv, Heap.get?_push_size _ rfl⟩
theorem Inv.fresh (I : Inv X pins σ H s) : H s.heap.objs.size = none := I.hok.fresh (Nat.le_refl _)
theorem Inv.lstM (I : Inv X pins σ H s) (hH : H l = some (.lst xs)) : xs.length ≤ sizeLine ∧ ∃ (its : List Value) (n : Nat), Vals xs its ∧ xs.length = its.length ∧ s.heap.get? l = some { cls := .type "list", data := .seq its.toArray n } := by
  obtain ⟨z, its, n, r, e⟩ := I.hok l _ hH
  exact ⟨z, its, n, r, r.length, e⟩

theorem notLongL {n : Nat} (h : n ≤ sizeLine) : Builtin.List.listTooLong n = false := by
  unfold Builtin.List.listTooLong
  exact decide_eq_false (by omega)
end

section
variable {X : Cx}

/-! ### methods -/
def rAppend : V → List V → Hp → VK → Prop := fun x vs H Q => ∃ l xs y, x = .ref l ∧ vs = [y] ∧ H l = some (.lst xs) ∧ xs.length < sizeLine ∧ Q .non (upd H l (.lst (xs ++ [y])))
theorem mt_append : MtM X "list.append" rAppend := by
  intro pins s σ H x vs v us Q I rx rv h
  obtain ⟨l, xs, y, rfl, rfl, hH, hz, q⟩ := h
  cases rx
  obtain ⟨u, rfl, ru⟩ := rv.one
  obtain ⟨z, its, n, r, hl, e⟩ := I.lstM hH
  refine call_meets F.slot_list_append ⟨_, e, rfl⟩ F.entry_list_append (F.args_list_append_2 _ _) (PySem.list_append l its.toArray n u (by rw [List.size_toArray]; omega)) ⟨e, ?_⟩
  refine ⟨.non, _, I.lset (its' := its ++ [u]) hH e (by simp) (r.append (.cons ru .nil)) ?_, rfl, q⟩
  rw [List.length_append, List.length_singleton]
  omega

def rExtend : V → List V → Hp → VK → Prop := fun x vs H Q => ∃ l b xs zs, x = .ref l ∧ vs = [.ref b] ∧ H l = some (.lst xs) ∧ H b = some (.lst zs) ∧ xs.length + zs.length ≤ sizeLine ∧ Q .non (upd H l (.lst (xs ++ zs)))
theorem mt_extend : MtM X "list.extend" rExtend := by
  intro pins s σ H x vs v us Q I rx rv h
  obtain ⟨l, b, xs, zs, rfl, rfl, hH, hB, hz, q⟩ := h
  cases rx
  obtain ⟨u, rfl, ru⟩ := rv.one
  cases ru
  obtain ⟨z, its, n, r, hl, e⟩ := I.lstM hH
  obtain ⟨z2, its2, n2, r2, hl2, e2⟩ := I.lstM hB
  have hsz : its.toArray.size + its2.toArray.size ≤ sizeLine := by rw [List.size_toArray, List.size_toArray]; omega
  have hlong : ¬ (!its.toArray.isEmpty && Builtin.List.listTooLong (its.toArray.size + its2.toArray.size)) = true := by
    rw [notLongL hsz, Bool.and_false]
    exact Bool.false_ne_true
  refine call_meets F.slot_list_extend ⟨_, e, rfl⟩ F.entry_list_extend (F.args_list_extend_2 _ _)
    (AutoSeq1.list_extend_list_list_0 l its.toArray n b its2.toArray n2 hlong (by rw [List.size_toArray]; omega) (by omega)) ⟨e, e2, ?_⟩
  refine ⟨.non, _, I.lset (its' := its ++ its2) hH e (by simp) (r.append r2) ?_, rfl, q⟩
  rw [List.length_append]
  omega

def rReverse : V → List V → Hp → VK → Prop := fun x vs H Q => ∃ l xs, x = .ref l ∧ vs = [] ∧ H l = some (.lst xs) ∧ Q .non (upd H l (.lst xs.reverse))
def rClear : V → List V → Hp → VK → Prop := fun x vs H Q => ∃ l xs, x = .ref l ∧ vs = [] ∧ H l = some (.lst xs) ∧ Q .non (upd H l (.lst []))
/-! ### list + list, list += list, list * int -/
def rCat : R2 := fun x y H Q => ∃ l b xs zs, x = .ref l ∧ y = .ref b ∧ H l = some (.lst xs) ∧ H b = some (.lst zs) ∧ xs.length + zs.length ≤ sizeLine ∧ ∀ p, H p = none → Q (.ref p) (upd H p (.lst (xs ++ zs)))
theorem op_cat : OpR X (binaryOp .Add) rCat := by
  intro pins s σ H x y v u Q I rx ry h
  obtain ⟨l, b, xs, zs, rfl, rfl, hH, hB, hz, q⟩ := h
  cases rx
  cases ry
  obtain ⟨z, its, n, r, hl, e⟩ := I.lstM hH
  obtain ⟨z2, its2, n2, r2, hl2, e2⟩ := I.lstM hB
  refine PySem.P.add_list e e2 ?_ (by rw [List.size_toArray, List.size_toArray]; omega)
  have ea : its.toArray ++ its2.toArray = (its ++ its2).toArray := by simp
  rw [ea]
  exact ⟨.ref _, _, I.lnew (t' := s.toks) (r.append r2) (by rw [List.length_append]; omega), rfl, q _ I.fresh⟩
/-- a list times an int (a negative one is nothing) -/
def rRep : R2 := fun x y H Q => ∃ l k xs, x = .ref l ∧ y = .int k ∧ H l = some (.lst xs) ∧ -(2 ^ 63) ≤ k ∧ k < 2 ^ 63 ∧ xs.length * k.toNat ≤ sizeLine ∧
  ∀ p, H p = none → Q (.ref p) (upd H p (.lst (List.replicate k.toNat xs).flatten))
theorem len_rep {α : Type} (xs : List α) (k : Nat) : (List.replicate k xs).flatten.length = k * xs.length := by
  induction k with
  | zero => simp
  | succ k ih => rw [List.replicate_succ, List.flatten_cons, List.length_append, ih, Nat.succ_mul, Nat.add_comm]
theorem op_rep : OpR X (binaryOp .Mult) rRep := by
  intro pins s σ H x y v u Q I rx ry h
  obtain ⟨l, k, xs, rfl, rfl, hH, h1, h2, hz, q⟩ := h
  cases rx
  obtain ⟨t, rfl⟩ := ry
  obtain ⟨z, its, n, r, hl, e⟩ := I.lstM hH
  have hlen : its.toArray.size * k.toNat ≤ sizeLine := by rw [List.size_toArray, ← hl]; exact hz
  have hcap : ¬ its.toArray.size * k.toNat > (2 ^ 63 - 1) / 8 := by
    have : (sizeLine : Nat) ≤ (2 ^ 63 - 1) / 8 := by decide
    omega
  have hfit : ¬ (!Builtin.List.listFitsIndex k) = true := by
    rw [fitsIndex_both h1 h2]
    exact Bool.false_ne_true
  have hlong : ¬ Builtin.List.listTooLong (its.toArray.size * k.toNat) = true := by
    rw [notLongL hlen]
    exact Bool.false_ne_true
  have hnew : List.foldl (fun x1 x2 => x1 ++ x2) #[] (List.replicate (if its.toArray.isEmpty = true then 0 else k.toNat) its.toArray) = (List.replicate k.toNat its).flatten.toArray := by
    have f0 : ∀ m : Nat, List.foldl (fun x1 x2 => x1 ++ x2) #[] (List.replicate m its.toArray) = (List.replicate m its).flatten.toArray := fun m => by
      have := foldl_rep its m []
      rw [List.nil_append] at this
      exact this
    rw [f0]
    cases its with
    | nil => simp
    | cons a r' => rw [if_neg (by simp)]
  refine wpAny_binaryOp_repeat_ref (T := "list") (U := "int") (by decide) ⟨_, e, rfl⟩ (fun s' => typeIs_int s' k t) noFill_list_mul F.fills_int_mul F.slot_int_rmul repeat_list F.slot_int_index.lookup
    (call_meets F.slot_int_rmul (typeIs_int s k t) F.entry_int_rmul (F.args_int_rmul_2 _ _) (int___rmul___int_list k t l its.toArray n)
      ⟨e, rfl, ⟨_, e, rfl⟩, call_meets F.slot_list_mul ⟨_, e, rfl⟩ F.entry_list_mul (F.args_list_mul_2 _ _) (AutoListH.list___mul___list_int_3 l its.toArray n k t hfit hcap hlong) ⟨e, ?_⟩⟩)
  rw [hnew]
  exact ⟨.ref _, _, I.lnew (t' := s.toks) (r.rep k.toNat) (by rw [len_rep, Nat.mul_comm]; exact hz), rfl, q _ I.fresh⟩

/-! ### del xs[i] -/
end

/-! ### xs[a:b] = ys -/
section
variable {prog : Program} {w : World} {A : Around} {E : Value → Shared → Prop} {s : Shared}
end

section
variable {X : Cx}
end
end L2

namespace Att
open PySem PySem.W PySem.Calls PyProof.Rows

/-! ### the script -/
theorem ints_of_wellAll {P : Params} {h : Heap} : ∀ (ns : List Int) (vs : List Value), WellAll P h vs (ns.map WData.int) → IntsAre vs ns := by
  intro ns
  induction ns with
  | nil =>
    intro vs w
    rw [List.map_nil] at w
    cases w
    exact .nil
  | cons n ns ih =>
    intro vs w
    rw [List.map_cons] at w
    cases w with
    | cons a b =>
      cases a
      exact .cons _ _ (ih _ b)

theorem script_of {l : OpenLaw} {n : Nat} (hn : l.most = some n) {P : Params} {h : Heap} {args : List WData} {vals : List Value}
    (hpre : l.row.toRowW.claim.pre args = true) (hwl : WellAll P h vals args) :
    ∃ a vs ns, vals = [Value.ref a] ∧ args = [WData.list (ns.map WData.int)] ∧ h.get? a = some { cls := .type "list", data := .seq vs.toArray } ∧ IntsAre vs ns ∧ ns.length ≤ n := by
  have hsh : WShape.hasAll [] args [.list .int] = true := (pre_splitW hpre).1
  have hc : l.pre.holds [] { args := args } = true := (pre_splitW hpre).2
  obtain ⟨d, r, rfl, h1, h2⟩ := hasAllW_cons hsh
  obtain rfl := hasAllW_nil h2
  obtain ⟨xs, rfl, h3⟩ := hasW_list h1
  obtain ⟨ns, rfl⟩ := items_int h3
  have hlen : ns.length ≤ n := by
    unfold OpenLaw.pre at hc
    have h4 : (WTm.not (.lt (.lit (.int (n : Int))) (.len (.arg 0)))).holds [] { args := [.list (ns.map .int)] } = true := by
      have h4 := (holds_andW hc).1
      rw [hn] at h4
      exact h4
    have h5 := condW_of h4 (w_not (w_lt w_lit (w_len_list (w_arg rfl))))
    rw [List.length_map] at h5
    refine Nat.le_of_not_lt fun q => ?_
    have q' : (n : Int) < ((ns.length : Nat) : Int) := by omega
    first
      | (rw [decide_eq_true q'] at h5; exact absurd h5 (by decide))
      | (simp at h5; omega)
  cases hwl with
  | cons w1 w2 =>
    cases w2
    cases w1 with
    | list ho hall => exact ⟨_, _, ns, rfl, rfl, ho, ints_of_wellAll ns _ hall, hlen⟩

theorem post_true (l : OpenLaw) (args : List WData) : l.row.toRowW.claim.post args (.bool true) args = true :=
  postW_of (r := l.row.toRowW) (X := (true == true))
    (show WShape.has [] (.bool true) .bool = true by first | rfl | decide | simp [WShape.has, WShape.arms, WShape.armsAll])
    (show (WTm.eq .res (.lit (.bool true))).value [] { args := args, res := some (.bool true), after := args } = some (.bool (true == true)) from w_eq_bool (w_res rfl) w_lit) rfl

/-! ### the attachment: holds_open's last premise (the goal 'hc' behind k_head) from a wpAny of the law's body -/
/-- the same from a codeAny of the CALL (for a layer whose function contracts speak of calls) -/
theorem attach_call {l : OpenLaw} {n : Nat} {q : Program} {loose : List Str} {XP : (Str → Option Value) → Heap → Prop} {YP : World → Heap → Prop} {d : DefRec}
    (hn : l.most = some n) (hdf : d.params.defaults = [])
    (call : ∀ (w : World) (s₀ s₁ : Shared) (mg mb : Str → Option Value) (fa : Addr) (o : Obj) (pm cd doc : Value) (a : Addr) (vs : List Value) (ns : List Int),
      Ground q loose [] XP w s₀ mg mb s₁.heap → YP w s₁.heap →
      s₁.heap.get? fa = some o → o.data = .func (docDef d.name d.params d.body d.scope pm cd doc) → s₁.heap.CodeRec cd d.name → mg d.name = some (.ref fa) →
      s₁.heap.get? a = some { cls := .type "list", data := .seq vs.toArray } → IntsAre vs ns → ns.length ≤ n → s₁.gens = #[] →
      codeAny (model l.prog w) callerA (.call (.ref fa) ⟨[.ref a], []⟩) (fun r s' => r = .ok (.ret (.bool true)) ∧ OldK s₁.heap s'.heap ∧ s'.os = s₁.os ∧ AllBare s'.gens) s₁) :
    WalkO q loose XP YP l.row.toRowW d [] (fun f vs => PySem.call f vs) := by
  intro w s₀ s₁ mg mb G Y fa o pm cd doc dV kV ho hd hcd hD hmg hg args vals as hpre hlay hrd hwl hlo
  obtain rfl : dV = .none := Dflts.none hD hdf
  obtain rfl : kV = .none := Dflts.noKw hD
  obtain ⟨a, vs, ns, rfl, rfl, hobj, hints, hlen⟩ := script_of hn hpre hwl
  refine enter_call (codeAny_mono (call w s₀ s₁ mg mb fa o pm cd doc a vs ns G Y ho (fd_plain hd) hcd hmg hobj hints hlen hg) fun r s' hq => ?_)
  obtain ⟨rfl, h2, h3, h4⟩ := hq
  exact ⟨.inl ⟨.bool true, .bool true, [], rfl, fun _ => rfl, .bool true, post_true l _, fun _ => ⟨List.Pairwise.nil, fun _ hm => (nomatch hm)⟩⟩, h2, h3, h4⟩

/-! ### rules over ANY heap (no ledger) from facts about the written part K: the library's own take a ledger (News) for what they write -/
section
variable {prog : Program} {w : World} {A : Around} {E : Value → Shared → Prop} {s : Shared} {K : Frag}

/-! the whole heap as the ledger: makes every rule that writes through a ledger a rule over any heap -/
def ledger (h : Heap) (L d : Addr) : List (Addr × Obj) := (List.range h.objs.size).filterMap fun a => if a = L ∨ a = d then none else (h.get? a).map fun o => (a, o)
end
end Att

namespace L2
open PySem PySem.Spec PyProof.Rows

theorem vals_ints : ∀ {vs : List Value} {ns : List Int}, IntsAre vs ns → Vals (ns.map V.int) vs
  | _, _, .nil => .nil
  | _, _, .cons n t h => .cons ⟨t, rfl⟩ (vals_ints h)

/-- nothing is tracked but the script, known to the object (or it is an object of the module) -/
def Only (H : Hp) : Prop := ∀ b, H b = none ∨ ∃ o xs, H b = some (.frz o (.lst xs))

/-- THE HEAD: the law's promise, at the heap behind the top. F, the promise of the law's def, may use that base is part of the heap (so K.In base, base.Ns mainGlobals mg stand in Mod) -/
theorem law_call {P : Program} {w : World} {K : PySem.W.Frag} {mg mb : Str → Option Value} {CX : CXT} {k : Nat} {fa a : Addr} {fd : FuncData} {x : Str} {sp : Sp} {s₁ : Shared} {vs : List Value} {ns : List Int}
    (KX : K.In s₁.heap) (hns : s₁.heap.Ns mainGlobals mg) (hb : s₁.heap.Ns builtinsNs mb) (hbb : ∀ x : Str, x ≠ "__name__" → mb x = bootBuiltins x) (hlim : s₁.heap.NoLimit) (hg : s₁.gens = #[])
    (ha : s₁.heap.get? a = some { cls := .type "list", data := .seq vs.toArray }) (hi : IntsAre vs ns) (hl : ns.length ≤ sizeLine) (hr : Room k callerA)
    (F : ∀ base : Heap, K.In base → base.Ns mainGlobals mg → FnOk P w K mg base CX k fa fd [x] sp) (hbind : ∀ (s : Shared) (u : Value), BindsTo s fd ⟨[u], []⟩ [(x, u)])
    (hsp : ∀ H : Hp, Only H → SqL K H a (ns.map V.int) → sp [.ref a] H (fun v _ => v = .bl true) fun _ _ _ => False)
    (hCX : ∀ H e s', CX [] H s₁ (fun _ _ _ => False) e s' → False) :
    codeAny (model P w) callerA (.call (.ref fa) ⟨[.ref a], []⟩) (fun r s' => r = .ok (.ret (.bool true)) ∧ OldK s₁.heap s'.heap ∧ s'.os = s₁.os ∧ AllBare s'.gens) s₁ := by
  have rv := vals_ints hi
  have lenV := hi.length
  -- from an abstract heap in which nothing but the script may be tracked
  have core : ∀ H : Hp, Only H → SqL K H a (ns.map V.int) → HOk P w H s₁.heap → (∀ b, H b ≠ none → b = a) → (H a ≠ none → K.lookup a = none) →
      codeAny (model P w) callerA (.call (.ref fa) ⟨[.ref a], []⟩) (fun r s' => r = .ok (.ret (.bool true)) ∧ OldK s₁.heap s'.heap ∧ s'.os = s₁.os ∧ AllBare s'.gens) s₁ := by
    intro H hO hS hok hA hK
    have base_of : ∀ {b : Addr} {o : Obj}, s₁.heap.get? b = some o → H b = none → (hidT s₁.heap H).get? b = some o := fun e n => hidT_get e n
    have noA : ∀ {b : Addr} {o : Obj} {es : Array DictEntry} {ep : Nat}, s₁.heap.get? b = some o → o.data = .dict es ep → H b = none := fun {b o es ep} e d => by
      cases q : H b with
      | none => rfl
      | some u =>
        have e' : b = a := hA b (by rw [q]; simp)
        subst e'
        rw [ha] at e; cases e
        have d' : Data.seq vs.toArray _ = Data.dict es ep := d
        cases d'
    have nsK : ∀ {b : Addr} {m : Str → Option Value}, s₁.heap.Ns b m → (hidT s₁.heap H).Ns b m := fun {b m} ⟨o, es, ep, e, d, r⟩ => ⟨o, es, ep, base_of e (noA e d), d, r⟩
    have hKb : K.In (hidT s₁.heap H) := fun b o e => base_of (KX b o e) (by
      cases q : H b with
      | none => rfl
      | some u =>
        have e' : b = a := hA b (by rw [q]; simp)
        subst e'
        rw [hK (by rw [q]; simp)] at e; cases e)
    have hM : Mod K mg (hidT s₁.heap H) := ⟨hKb, nsK hns, ⟨mb, nsK hb, hbb⟩, let ⟨mc, h1, h2⟩ := hlim; ⟨mc, nsK h1, h2⟩⟩
    have e0 : Env0 P w K mg (hidT s₁.heap H) callerA [] s₁ H := ⟨rfl, hM, fun b o e => of_hidT e, Nat.le_of_eq (hidT_size _ _), trivial, fun b hb => absurd (show b ∈ ([] : List Addr) from hb) (by simp), hok, .of_eq hg⟩
    refine codeAny_mono ((F _ hKb (nsK hns)).run callerA [] s₁ H ⟨[.ref a], []⟩ [.ref a] [.ref a] _ _ hr e0 (hbind s₁ (.ref a)) (.cons rfl .nil) (hsp H hO hS)) fun r s' h => ?_
    cases r with
    | error e => exact (hCX H e s' h).elim
    | ok fl =>
      cases fl with
      | next => exact False.elim h
      | brk => exact False.elim h
      | cont => exact False.elim h
      | ret u =>
        obtain ⟨v, H', os, bare, un, hok', r', q⟩ := h
        have q' : v = .bl true := q
        subst q'
        obtain rfl : u = Value.bool true := r'
        refine ⟨rfl, OldK.of_keep fun b o e => ?_, os, bare⟩
        cases q : H b with
        | none => exact un.keep b o e q (by intro z; exact absurd (show b ∈ ([] : List Addr) from z) (by simp)) (by simp)
        | some u =>
          rcases hO b with z | ⟨ob, xs, z⟩
          · rw [q] at z; cases z
          · have z2 := un.frzs b ob _ z
            obtain ⟨e1, _⟩ := hok b _ z
            obtain ⟨e2, _⟩ := hok' b _ z2
            rw [e] at e1; cases e1
            exact e2
  cases hk : K.lookup a with
  | some o =>
    -- the script is one of the module's own objects
    have e := KX a o hk
    rw [ha] at e
    cases e
    refine core (fun _ => none) (fun _ => .inl rfl) (.inr ⟨_, vs.toArray, _, hk, rfl, rfl, rfl, by rw [List.size_toArray, lenV]; exact hl, by simpa using rv⟩) (fun b u z => by have z' : (none : Option HO) = some u := z; cases z') (fun b z => absurd rfl z) fun z => absurd rfl z
  | none =>
    refine core (fun b => if b = a then some (.frz { cls := .type "list", data := .seq vs.toArray } (.lst (ns.map V.int))) else none) (fun b => ?_) (.inl (.inr ⟨{ cls := .type "list", data := .seq vs.toArray }, if_pos rfl⟩)) (fun b u z => ?_) (fun b z => ?_) fun _ => hk
    · by_cases hb : b = a
      · exact .inr ⟨_, _, if_pos hb⟩
      · exact .inl (if_neg hb)
    · by_cases hb : b = a
      · have z' := (if_pos hb).symm.trans z
        cases z'
        subst hb
        exact ⟨ha, by rw [List.length_map]; exact hl, vs, _, rv, ha⟩
      · have z' := (if_neg hb).symm.trans z
        cases z'
    · by_cases hb : b = a
      · exact hb
      · exact absurd (if_neg hb) z
end L2

namespace L2
open PySem PySem.Spec PyProof.Rows

abbrev KOf {K : PySem.W.Frag} {h : Heap} (_ : K.In h) : PySem.W.Frag := K

/-- the goal that k_head leaves (case hc), from the law's promise. F gives the function object fd (K's own) once, then the promise over every base -/
theorem walk_of {l : PySem.W.OpenLaw} {n k : Nat} {q : Program} {loose : List Str} {XP : (Str → Option Value) → Heap → Prop} {YP : World → Heap → Prop} {d : DefRec} {K : Params → PySem.W.Frag} {CX : World → CXT} {sp : World → Sp} {x : Str}
    (hn : l.most = some n) (hn2 : n ≤ sizeLine) (hdf : d.params.defaults = []) (hr : Room k callerA)
    (hY : ∀ (w : World) (h : Heap), YP w h → (K w.params).In h)
    (F : ∀ (w : World) (mg : Str → Option Value) (fa : Addr) (h : Heap), (K w.params).In h → h.Ns mainGlobals mg → mg d.name = some (.ref fa) →
      ∃ fd : FuncData, (∀ (s : Shared) (u : Value), BindsTo s fd ⟨[u], []⟩ [(x, u)]) ∧
        ∀ base : Heap, (K w.params).In base → base.Ns mainGlobals mg → FnOk l.prog w (K w.params) mg base (CX w) k fa fd [x] (sp w))
    (hsp : ∀ (w : World) (H : Hp) (a : Addr) (ns : List Int), ns.length ≤ n → Only H → SqL (K w.params) H a (ns.map V.int) → sp w [.ref a] H (fun v _ => v = .bl true) fun _ _ _ => False)
    (hCX : ∀ (w : World) (H : Hp) (s : Shared) (e : Value) (s' : Shared), CX w [] H s (fun _ _ _ => False) e s' → False) :
    PySem.W.WalkO q loose XP YP l.row.toRowW d [] (fun f vs => PySem.call f vs) := by
  refine Att.attach_call hn hdf fun w s₀ s₁ mg mb fa o pm cd doc a vs ns G Y ho hd hcd hmg hobj hints hlen hg => ?_
  have KX := hY w _ Y
  obtain ⟨fd, hb, hF⟩ := F w mg fa _ KX G.T.g hmg
  exact law_call KX G.T.g G.T.b G.T.builtins G.T.nolimit hg hobj hints (Nat.le_trans hlen hn2) hr hF hb (fun H hO hS => hsp w H a ns hlen hO hS) fun H e s' => hCX w H s₁ e s'
end L2

/- THE LAST THEOREM (shape; LID, My.* are yours):
   My.Adr: a structure of the addresses that your layer names (classes, functions); My.Txt K t: a structure (Prop) of the equations over K;
   My.txt_mk : {K} {implicit addresses ..} (e1 : nsIn K mainGlobals "law" = some (some (.ref f))) (e2 : K.lookup f = some ⟨oc, od, .func (fnOf "law" "law" params body scope dV kV doc pm an cdv ct), sl⟩) (e3 : codeIn K cdv "law" = true) .. : ∃ t, My.Txt K t

set_option maxRecDepth 100000 in
set_option maxHeartbeats 0 in
theorem PySem.Challenge.cw_LID_holds : PySem.Challenge.rw_LID.Holds := by
  w_on; o_law; k_head; (case hw => w_witness2)
  k_fill
  refine L2.walk_of (l := PySem.Challenge.rw_LID) (n := 63) (k := 40) (x := "script") (CX := fun w => ..) (sp := fun _ => My.sp_law) rfl (by decide) rfl ⟨rfl, by decide, by decide⟩ (fun w h Y => PySem.W.kIn_of Y) ?F ?S ?C
  case F =>
    intro w mg fa h KX G hmg
    have T : ∃ t, My.Txt (L2.KOf KX) t := by
      dsimp only [L2.KOf]                          -- K must stand as «<heap const> w.params» for k_is
      refine' My.txt_mk ?e1 ?e2 ?e3 ..
      (case e1 => PySem.W.k_is)                    -- in the order: a name -> its address -> its object -> its parts
      (case e2 => PySem.W.k_is)
      ..
    obtain ⟨t, T⟩ := T
    have e0 := hmg.symm.trans (PySem.W.mg_of KX G T.law)
    cases e0                                       -- fa is the law's own address
    exact ⟨_, fun s u => .of_eq rfl, fun base kb nb => My.law_fn T kb nb⟩     -- if «.of_eq rfl» comes too early: refine' ⟨_, ?b, fun base kb nb => My.law_fn T kb nb⟩; exact fun s u => .of_eq rfl
  case S => exact fun w H a ns hl hO hS => ..
  case C => exact ..
(the tactic k_is has no namespace: write k_is) -/

/-! SHORT WORDS over the layer: a def of the text, its body, what a loop and a test want. -/
namespace L2
open PySem PySem.Spec PyProof.Rows

/-! ### the text by places -/
def defArgs (s : Stmt) : Arguments := match s with
  | .FunctionDef _ a _ _ _ _ _ _ _ _ => a
  | _ => { posonlyargs := [], args := [], vararg := none, kwonlyargs := [], kw_defaults := [], kwarg := none, defaults := [] }
def defBody (s : Stmt) : List Stmt := match s with
  | .FunctionDef _ _ b _ _ _ _ _ _ _ => b
  | _ => []
def defScope (s : Stmt) : Scope := match s with
  | .FunctionDef _ _ _ _ _ _ sc _ _ _ => sc
  | _ => { kind := .function, names := [], isGenerator := false, isCoroutine := false }

/-! ### no exception leaves a def -/
abbrev CX0 : CXT := fun _ _ _ _ _ _ => False
abbrev E0 : XK := fun _ _ _ => False
theorem pass0 {X : Cx} : Passes CX0 X E0 := fun _ _ _ _ _ _ _ h => h.elim

/-! ### a def (or method) of the text as it stands behind the top -/
structure Fun (K : PySem.W.Frag) (x qual : Str) (st : Stmt) (f : Addr) (fd : FuncData) : Prop where
  ex : ∃ (oc : Value) (od : Option Addr) (kV doc pm : Value) (an : Option Addr) (cdv ct : Value) (osl : Array (Option Value)),
    fd = PySem.W.fnOf x qual (defArgs st) (defBody st) (defScope st) .none kV doc pm an cdv ct ∧ K.lookup f = some ⟨oc, od, .func fd, osl⟩ ∧ PySem.W.codeIn K cdv qual = true
  kp : PySem.W.keepIn K (.ref f) = true
section
variable {P : Program} {w : World} {K : PySem.W.Frag} {mg : Str → Option Value} {base : Heap}
/-- THE RULE for a def: its body as a term of rules, and the reading of that term -/
theorem Fun.ok {x qual : Str} {st : Stmt} {f : Addr} {fd : FuncData} {N ps : List Str} {k : Nat} {sp : Sp} (F : Fun K x qual st f fd) (S : FnScope N ps (defScope st)) (len : ∀ vs H Q E, sp vs H Q E → vs.length = ps.length)
    (hbody : ∀ (cdv : Value) (A : Around) (outer : List Env) (s : Shared) (H : Hp) (vs : List V) (Q : VK) (E : XK), Room k (A.deeper (envOfC qual (defScope st) s.heap.objs.size f cdv)) → sp vs H Q E →
      ∃ t, PSs (cxOf CX0 P w K mg base N qual (defScope st) f cdv A outer s H E).nox (defBody st) t ∧ t { nx := fun _ H' => Q .non H', rt := Q } (start N vs) H) : FnOk P w K mg base CX0 (k + 1) f fd ps sp := by
  obtain ⟨oc, od, kV, doc, pm, an, cdv, ct, osl, rfl, lk, hcd⟩ := F.ex
  refine fn_of lk hcd S len fun A outer s H vs Q E hr hsp => ?_
  obtain ⟨t, h, q⟩ := hbody cdv A outer s H vs Q E hr hsp
  exact ⟨t, h.nox, q⟩
/-- how its arguments bind (no defaults): h is «fun _ _ _ _ _ _ us hl => match us, hl with | [_, _], _ => rfl», one _ a parameter -/
theorem Fun.binds {x qual : Str} {st : Stmt} {f : Addr} {fd : FuncData} {ps : List Str} (F : Fun K x qual st f fd)
    (h : ∀ (kV doc pm : Value) (an : Option Addr) (cdv ct : Value) (us : List Value), us.length = ps.length → bindArgs (PySem.W.fnOf x qual (defArgs st) (defBody st) (defScope st) .none kV doc pm an cdv ct) ⟨us, []⟩ = pure (ps.zip us)) : Binds K fd ps [] := by
  obtain ⟨oc, od, kV, doc, pm, an, cdv, ct, osl, rfl, lk, hcd⟩ := F.ex
  exact .all (h kV doc pm an cdv ct)
theorem fun_mk {x qual : Str} {st : Stmt} {f : Addr} {oc : Value} {od an : Option Addr} {osl : Array (Option Value)} {kV doc pm cdv ct : Value} (l : K.lookup f = some ⟨oc, od, .func (PySem.W.fnOf x qual (defArgs st) (defBody st) (defScope st) .none kV doc pm an cdv ct), osl⟩)
    (c : PySem.W.codeIn K cdv qual = true) (k : PySem.W.keepIn K (.ref f) = true) : Fun K x qual st f (PySem.W.fnOf x qual (defArgs st) (defBody st) (defScope st) .none kV doc pm an cdv ct) := ⟨⟨oc, od, kV, doc, pm, an, cdv, ct, osl, rfl, l, c⟩, k⟩
end
theorem hu_of {A : Around} {k : Nat} (hr : Room k A) : A.units + 1 < cLine := Nat.lt_of_le_of_lt (Nat.add_le_add_left (by decide : 1 ≤ 64) _) hr.units
/-! ### expressions in short: the name that stands in the i-th slot -/
section
variable {X : Cx}
theorem pv (i : Nat) {x : Str} {pos : Pos} (hN : X.N[i]? = some x := by rfl) (hv : Vis X.env.scope x := by first | exact Or.inl rfl | exact Or.inr (Or.inl rfl) | exact Or.inr (Or.inr rfl)) (hd : (x == ("__debug__" : Str)) = false := by decide)
    (hcd : (x == ("__classdict__" : Str)) = false := by decide) : PE X (.Name x pos) (tVar i) := pe_var hN hv hd hcd
end

/-! ### tests -/
theorem ite2 {c A B : Prop} [Decidable c] (h1 : c → A) (h2 : ¬ c → B) : if c then A else B := by
  by_cases h : c
  · rw [if_pos h]
    exact h1 h
  · rw [if_neg h]
    exact h2 h
/-! ### heaps -/
/-- all that was tracked is as it was -/
def Same (H H' : Hp) : Prop := ∀ b o, H b = some o → H' b = some o
theorem Same.refl (H : Hp) : Same H H := fun _ _ h => h
theorem Same.trans {H H1 H2 : Hp} (a : Same H H1) (b : Same H1 H2) : Same H H2 := fun c o h => b c o (a c o h)
theorem Same.free {H H' : Hp} (e : Same H H') {l : Addr} (h : H' l = Option.none) : H l = Option.none := by
  cases q : H l with
  | none => rfl
  | some o =>
    rw [e l o q] at h
    cases h
theorem Same.seq {K : PySem.W.Frag} {H H' : Hp} {a : Addr} {xs : List V} (e : Same H H') (h : SqL K H a xs) : SqL K H' a xs := by
  rcases h with (h | ⟨o, h⟩) | h
  · exact .inl (.inl (e _ _ h))
  · exact .inl (.inr ⟨o, e _ _ h⟩)
  · exact .inr h

end L2

namespace L2
open PySem PySem.Spec PyProof.Rows

/-! ### lists of pairs as tables -/
section
variable {κ : Type} [DecidableEq κ]
def valV (kvs : List (κ × V)) (k : κ) : Option V := (kvs.find? fun kv => decide (kv.1 = k)).map (·.2)
/-- in its place, or at the end -/
def putK (kvs : List (κ × V)) (k : κ) (v : V) : List (κ × V) :=
  if (kvs.any fun kv => decide (kv.1 = k)) = true then kvs.map (fun kv => if kv.1 = k then (kv.1, v) else kv) else kvs ++ [(k, v)]
def dropK (kvs : List (κ × V)) (k : κ) : List (κ × V) := kvs.filter fun kv => decide (kv.1 ≠ k)

theorem valV_pos {p : κ × V} {r : List (κ × V)} {k : κ} (e : p.1 = k) : valV (p :: r) k = some p.2 := by simp [valV, List.find?_cons, e]
theorem valV_neg {p : κ × V} {r : List (κ × V)} {k : κ} (e : ¬ p.1 = k) : valV (p :: r) k = valV r k := by simp [valV, List.find?_cons, e]
theorem valV_any (k : κ) : ∀ kvs : List (κ × V), (kvs.any fun kv => decide (kv.1 = k)) = (valV kvs k).isSome
  | [] => rfl
  | p :: r => by
    rw [List.any_cons]
    by_cases e : p.1 = k
    · simp only [valV_pos e, decide_eq_true e, Bool.true_or, Option.isSome_some]
    · rw [valV_neg e, decide_eq_false e, Bool.false_or]; exact valV_any k r
theorem valV_map (k j : κ) (y : V) : ∀ kvs : List (κ × V), valV (kvs.map fun kv => if kv.1 = k then (kv.1, y) else kv) j = (valV kvs j).map fun x => if j = k then y else x
  | [] => rfl
  | p :: r => by
    have ih := valV_map k j y r
    rw [List.map_cons]
    by_cases h : p.1 = k
    · rw [if_pos h]
      by_cases e : p.1 = j
      · rw [valV_pos (p := (p.1, y)) e, valV_pos e, Option.map_some, if_pos (e.symm.trans h)]
      · rw [valV_neg (p := (p.1, y)) e, valV_neg e, ih]
    · rw [if_neg h]
      by_cases e : p.1 = j
      · rw [valV_pos (p := p) e, valV_pos e, Option.map_some, if_neg (fun z => h (e.trans z))]
      · rw [valV_neg (p := p) e, valV_neg e, ih]
theorem valV_snoc (k j : κ) (y : V) : ∀ kvs : List (κ × V), valV kvs k = none → valV (kvs ++ [(k, y)]) j = if j = k then some y else valV kvs j
  | [], _ => by
    by_cases e : k = j
    · rw [if_pos e.symm]; exact valV_pos (p := (k, y)) e
    · rw [if_neg (fun z => e z.symm)]; exact valV_neg (p := (k, y)) e
  | p :: r, hn => by
    rw [List.cons_append]
    have hk : ¬ p.1 = k := fun z => by rw [valV_pos z] at hn; cases hn
    rw [valV_neg hk] at hn
    have ih := valV_snoc k j y r hn
    by_cases e : p.1 = j
    · rw [valV_pos e, valV_pos e, if_neg (fun z => hk (e.trans z))]
    · rw [valV_neg e, valV_neg e, ih]
theorem valV_put (kvs : List (κ × V)) (k j : κ) (y : V) : valV (putK kvs k y) j = if j = k then some y else valV kvs j := by
  unfold putK
  by_cases a : (kvs.any fun kv => decide (kv.1 = k)) = true
  · rw [if_pos a, valV_map]
    rw [valV_any] at a
    by_cases e : j = k
    · obtain ⟨x, hx⟩ := Option.isSome_iff_exists.mp a
      rw [if_pos e, e, hx, Option.map_some, if_pos rfl]
    · rw [if_neg e]
      cases valV kvs j with
      | none => rfl
      | some x => rw [Option.map_some, if_neg e]
  · rw [if_neg a]
    refine valV_snoc k j y kvs ?_
    rw [valV_any] at a
    cases q : valV kvs k with
    | none => rfl
    | some x => rw [q] at a; exact (a rfl).elim
theorem length_putK (kvs : List (κ × V)) (k : κ) (v : V) : (putK kvs k v).length ≤ kvs.length + 1 := by
  unfold putK
  split
  · rw [List.length_map]; omega
  · rw [List.length_append, List.length_cons, List.length_nil]; omega
theorem RelO.isSome_eq {o : Option V} {u : Option Value} (r : RelO o u) : o.isSome = u.isSome := by
  cases o with
  | none => cases u with
    | none => rfl
    | some _ => exact (show False from r).elim
  | some _ => cases u with
    | none => exact (show False from r).elim
    | some _ => rfl
theorem RelO.getD {o : Option V} {u : Option Value} {d : V} {d' : Value} (r : RelO o u) (rd : RelV d d') : RelV (o.getD d) (u.getD d') := by
  cases o with
  | none => cases u with
    | none => exact rd
    | some _ => exact (show False from r).elim
  | some _ => cases u with
    | none => exact (show False from r).elim
    | some _ => exact r

/-- raw tables of the same keys -/
theorem KV.val {kvs : List (κ × V)} {vs : List (κ × Value)} (r : KV kvs vs) (k : κ) : RelO (valV kvs k) (valueAt vs k) := by
  unfold KV at r
  induction r with
  | nil => exact True.intro
  | @cons p q ps qs h t ih =>
    obtain ⟨h1, h2⟩ := h
    by_cases e : p.1 = k
    · have e' : q.1 = k := h1.symm.trans e
      have b : valueAt (q :: qs) k = some q.2 := by simp [valueAt, List.find?_cons, e']
      rw [valV_pos e, b]; exact h2
    · have e' : ¬ q.1 = k := fun z => e (h1.trans z)
      have b : valueAt (q :: qs) k = valueAt qs k := by simp [valueAt, List.find?_cons, e']
      rw [valV_neg e, b]; exact ih
theorem KV.any {kvs : List (κ × V)} {vs : List (κ × Value)} (r : KV kvs vs) (k : κ) : (kvs.any fun kv => decide (kv.1 = k)) = vs.any fun kv => decide (kv.1 = k) := by
  unfold KV at r
  induction r with
  | nil => rfl
  | cons h t ih => rw [List.any_cons, List.any_cons, ih, h.1]
theorem KV.repl {kvs : List (κ × V)} {vs : List (κ × Value)} (r : KV kvs vs) (k : κ) {y : V} {u : Value} (ry : RelV y u) :
    KV (kvs.map fun kv => if kv.1 = k then (kv.1, y) else kv) (vs.map fun kv => if kv.1 = k then (kv.1, u) else kv) := by
  unfold KV at r ⊢
  induction r with
  | nil => exact .nil
  | @cons p q ps qs h t ih =>
    rw [List.map_cons, List.map_cons]
    refine .cons ?_ ih
    obtain ⟨h1, h2⟩ := h
    by_cases e : p.1 = k
    · rw [if_pos e, if_pos (h1.symm.trans e)]; exact ⟨h1, ry⟩
    · rw [if_neg e, if_neg (fun z => e (h1.trans z))]; exact ⟨h1, h2⟩
theorem KV.put {kvs : List (κ × V)} {vs : List (κ × Value)} (r : KV kvs vs) (k : κ) {y : V} {u : Value} (ry : RelV y u) : KV (putK kvs k y) (stored vs k u) := by
  unfold putK stored
  rw [r.any k]
  by_cases e : (vs.any fun kv => decide (kv.1 = k)) = true
  · rw [if_pos e, if_pos e]; exact r.repl k ry
  · rw [if_neg e, if_neg e]; exact Paired.snoc r ⟨rfl, ry⟩
theorem KV.drop {kvs : List (κ × V)} {vs : List (κ × Value)} (r : KV kvs vs) (k : κ) : KV (dropK kvs k) (without vs k) := by
  unfold KV at r ⊢
  unfold dropK without
  induction r with
  | nil => exact .nil
  | @cons p q ps qs h t ih =>
    obtain ⟨h1, h2⟩ := h
    rw [List.filter_cons, List.filter_cons]
    by_cases e : p.1 = k
    · have a : ¬ decide (p.1 ≠ k) = true := by simp [e]
      have b : ¬ decide (q.1 ≠ k) = true := by simp [h1.symm.trans e]
      rw [if_neg a, if_neg b]; exact ih
    · have e' : ¬ q.1 = k := fun z => e (h1.trans z)
      have a : decide (p.1 ≠ k) = true := by simp [e]
      have b : decide (q.1 ≠ k) = true := by simp [e']
      rw [if_pos a, if_pos b]; exact .cons ⟨h1, h2⟩ ih
theorem KV.keys {kvs : List (κ × V)} {vs : List (κ × Value)} (r : KV kvs vs) : kvs.map (·.1) = vs.map (·.1) := by
  unfold KV at r
  induction r with
  | nil => rfl
  | cons h t ih => rw [List.map_cons, List.map_cons, ih, h.1]
theorem KV.length {kvs : List (κ × V)} {vs : List (κ × Value)} (r : KV kvs vs) : kvs.length = vs.length := Paired.length r
end


/-! ### a tracked dict, its keys ints and texts or tuples of these -/
theorem kV_is {P : Program} {w : World} {k : Key} {u : Value} (r : RelV (kV k) u) : (mixKind P w).is k u = true := by
  cases k with
  | inl i => obtain ⟨t, e⟩ := (show ∃ t, u = Value.int i t from r); subst e; exact mixKind_int P w i t
  | inr x => obtain ⟨t, e⟩ := (show ∃ t, u = Value.str x t from r); subst e; exact mixKind_str P w x t
theorem items_are {P : Program} {w : World} : ∀ {ks : List Key} {us : List Value}, Vals (ks.map kV) us → ItemsAre (mixKind P w) ks us
  | [], _, r => by rw [List.map_nil] at r; cases r; exact .nil
  | k :: ks, _, r => by
    rw [List.map_cons] at r
    cases r with
    | cons h t => exact .cons (kV_is h) (items_are t)

/-- raw entries of a dict with tuple keys -/
abbrev KT (H : Hp) : List (List Key × V) → List (List Key × Addr × Value) → Prop := Paired fun p q => p.1 = q.1 ∧ H q.2.1 = some (.tup (p.1.map kV)) ∧ RelV p.2 q.2.2
theorem KT.val {H : Hp} {kvs : List (List Key × V)} {xs : List (List Key × Addr × Value)} (r : KT H kvs xs) (k : List Key) : RelO (valV kvs k) ((atKey xs k).map (·.2)) := by
  induction r with
  | nil => exact True.intro
  | @cons p q ps qs h t ih =>
    obtain ⟨h1, _, h2⟩ := h
    by_cases e : p.1 = k
    · have e' : q.1 = k := h1.symm.trans e
      have b : atKey (q :: qs) k = some q.2 := by simp [atKey, List.find?_cons, e']
      rw [valV_pos e, b]; exact h2
    · have e' : ¬ q.1 = k := fun z => e (h1.trans z)
      have b : atKey (q :: qs) k = atKey qs k := by simp [atKey, List.find?_cons, e']
      rw [valV_neg e, b]; exact ih
theorem KT.repl {H : Hp} {kvs : List (List Key × V)} {xs : List (List Key × Addr × Value)} (r : KT H kvs xs) (k : List Key) {y : V} {u : Value} (ry : RelV y u) :
    KT H (kvs.map fun kv => if kv.1 = k then (kv.1, y) else kv) (xs.map (putAt k u)) := by
  induction r with
  | nil => exact .nil
  | @cons p q ps qs h t ih =>
    rw [List.map_cons, List.map_cons]
    refine .cons ?_ ih
    obtain ⟨h1, h2, h3⟩ := h
    unfold putAt
    by_cases e : p.1 = k
    · rw [if_pos e, if_pos (h1.symm.trans e)]; exact ⟨h1, h2, ry⟩
    · rw [if_neg e, if_neg (fun z => e (h1.trans z))]; exact ⟨h1, h2, h3⟩
theorem KT.put {H : Hp} {kvs : List (List Key × V)} {xs : List (List Key × Addr × Value)} (r : KT H kvs xs) (k : List Key) {b : Addr} {y : V} {u : Value} (hb : H b = some (.tup (k.map kV))) (ry : RelV y u) :
    KT H (putK kvs k y) (storedH xs k b u) := by
  have e : (kvs.any fun kv => decide (kv.1 = k)) = (atKey xs k).isSome := by
    rw [valV_any, (r.val k).isSome_eq, Option.isSome_map]
  unfold putK storedH
  rw [e]
  by_cases q : (atKey xs k).isSome = true
  · rw [if_pos q, if_pos q]; exact r.repl k ry
  · rw [if_neg q, if_neg q]; exact Paired.snoc r ⟨rfl, hb, ry⟩
theorem KT.keeps {H H' : Hp} {kvs : List (List Key × V)} {xs : List (List Key × Addr × Value)} (r : KT H kvs xs) (ht : ∀ b ys, H b = some (.tup ys) → H' b = some (.tup ys)) : KT H' kvs xs :=
  Paired.mapP r fun _ _ z => ⟨z.1, ht _ _ z.2.1, z.2.2⟩

section
variable {P : Program} {w : World} {H : Hp} {h : Heap} {a : Addr}
theorem rd_of {u : HO} (ok : HOk P w H h) (e : Rd H a u) : ObjOk P w H h a u := e.ok ok
theorem dk_rd {kvs : List (Key × V)} (ok : HOk P w H h) (e : Rd H a (.dK kvs)) : kvs.length ≤ sizeLine ∧ (a == sysModules) = false ∧ ∃ vs, KV kvs vs ∧ h.DictOf (mixKind P w) a vs :=
  show ObjOk P w H h a (.dK kvs) from rd_of ok e
theorem dk_of {kvs : List (Key × V)} (ok : HOk P w H h) (e : H a = some (.dK kvs)) : kvs.length ≤ sizeLine ∧ (a == sysModules) = false ∧ ∃ vs, KV kvs vs ∧ h.DictOf (mixKind P w) a vs := dk_rd ok (.inl e)
/-- a tracked tuple of ints and texts is a key -/
theorem key_of {ks : List Key} (ok : HOk P w H h) (e : H a = some (.tup (ks.map kV))) : (tupleKind (mixKind P w)).is h ks a := by
  obtain ⟨_, its, r, o, h1, h2, n, h3⟩ := (show ObjOk P w H h a (.tup (ks.map kV)) from ok a _ e)
  exact ⟨o, its.toArray, n, h1, h2, h3, by simpa using items_are r⟩
theorem dt_rd {kvs : List (List Key × V)} (ok : HOk P w H h) (e : Rd H a (.dT kvs)) : kvs.length ≤ sizeLine ∧ (a == sysModules) = false ∧
    ∃ xs, KT H kvs xs ∧ h.DictOfH (tupleKind (mixKind P w)) a xs := by
  obtain ⟨z, y, xs, r, o, es, ep, h1, h2, h3, h4, h5⟩ := (show ObjOk P w H h a (.dT kvs) from rd_of ok e)
  refine ⟨z, y, xs, r, o, es, ep, h1, h2, h3, h4, fun x hx => ?_, h5⟩
  have all : ∀ {l : List (List Key × V)} {m : List (List Key × Addr × Value)}, KT H l m → ∀ x ∈ m, (tupleKind (mixKind P w)).is h x.1 x.2.1 := by
    intro l m q
    induction q with
    | nil => intro x hx; exact nomatch hx
    | @cons p q ps qs hq t ih =>
      intro x hx
      rcases List.mem_cons.mp hx with e | hx
      · subst e
        exact key_of ok (by rw [← hq.1]; exact hq.2.1)
      · exact ih x hx
  exact all r x hx
theorem dt_of {kvs : List (List Key × V)} (ok : HOk P w H h) (e : H a = some (.dT kvs)) : kvs.length ≤ sizeLine ∧ (a == sysModules) = false ∧
    ∃ xs, KT H kvs xs ∧ h.DictOfH (tupleKind (mixKind P w)) a xs := dt_rd ok (.inl e)
end

/-- what the dict at a holds at the key y -/
def DGet (H : Hp) (a : Addr) (y : V) (r : Option V) : Prop :=
  (∃ kvs k, Rd H a (.dK kvs) ∧ y = kV k ∧ r = valV kvs k) ∨ ∃ kvs k b, Rd H a (.dT kvs) ∧ y = .ref b ∧ H b = some (.tup (k.map kV)) ∧ r = valV kvs k
/-- the heap behind a[y] = v -/
def DPut (H : Hp) (a : Addr) (y v : V) (H' : Hp) : Prop :=
  (∃ kvs k, H a = some (.dK kvs) ∧ y = kV k ∧ kvs.length < sizeLine ∧ H' = upd H a (.dK (putK kvs k v))) ∨
  ∃ kvs k b, H a = some (.dT kvs) ∧ y = .ref b ∧ H b = some (.tup (k.map kV)) ∧ kvs.length < sizeLine ∧ H' = upd H a (.dT (putK kvs k v))
theorem DGet.k {H : Hp} {a : Addr} {kvs : List (Key × V)} {k : Key} (e : H a = some (.dK kvs)) : DGet H a (kV k) (valV kvs k) := .inl ⟨kvs, k, .inl e, rfl, rfl⟩
theorem DGet.t {H : Hp} {a b : Addr} {kvs : List (List Key × V)} {k : List Key} (e : H a = some (.dT kvs)) (eb : H b = some (.tup (k.map kV))) : DGet H a (.ref b) (valV kvs k) := .inr ⟨kvs, k, b, .inl e, rfl, eb, rfl⟩
theorem DPut.k {H : Hp} {a : Addr} {kvs : List (Key × V)} {k : Key} {v : V} (e : H a = some (.dK kvs)) (hl : kvs.length < sizeLine) : DPut H a (kV k) v (upd H a (.dK (putK kvs k v))) := .inl ⟨kvs, k, e, rfl, hl, rfl⟩
theorem DPut.t {H : Hp} {a b : Addr} {kvs : List (List Key × V)} {k : List Key} {v : V} (e : H a = some (.dT kvs)) (eb : H b = some (.tup (k.map kV))) (hl : kvs.length < sizeLine) :
    DPut H a (.ref b) v (upd H a (.dT (putK kvs k v))) := .inr ⟨kvs, k, b, e, rfl, eb, hl, rfl⟩


section
variable {X : Cx} {pins : List (Addr × Obj)} {σ : St} {H : Hp} {s : Shared} {a : Addr} {y v : V} {u r : Value} {o : Option V} {A : Around} {E : Value → Shared → Prop}

theorem Inv.big (I : Inv X pins σ H s) : sysModules < s.heap.objs.size := by
  have h : mainGlobals < s.heap.objs.size := (I.mod.glob.keeps I.bk).lt
  exact Nat.lt_trans (by decide) h

theorem d_notIn {Q : Value → Shared → Prop} (hu : A.units + 1 < cLine) (I : Inv X pins σ H s) (g : DGet H a y o) (ry : RelV y u) (h : ∀ s', Inv X pins σ H s' → Q (.bool (!o.isSome)) s') :
    wpAny (model X.prog X.w) A (compareOp .NotIn u (.ref a)) Q E s := by
  rcases g with ⟨kvs, k, e, ey, l⟩ | ⟨kvs, k, b, e, ey, eb, l⟩
  · subst ey
    obtain ⟨z, hd, vs, rel, dd⟩ := dk_rd I.hok e
    refine wpAny_notIn_of (kV_is ry) hd dd.mapOf ?_
    rw [← (rel.val k).isSome_eq, ← l]
    exact h _ (I.tok _)
  · subst ey
    cases (show u = Value.ref b from ry)
    obtain ⟨z, hd, xs, rel, dd⟩ := dt_rd I.hok e
    refine wpAny_notIn_heap (tupleKind_room_in1 hu) (key_of I.hok eb) hd dd ?_
    have q := (rel.val k).isSome_eq
    rw [Option.isSome_map] at q
    rw [← q, ← l]
    exact h _ (I.tok _)
/-- a dict's object is replaced -/
theorem d_write {h' : Heap} {t' : Nat} {ob : HO} (I : Inv X pins σ H s) (mu : Mut (H a)) (hs : Heap.SameBut a s.heap h') (he : ∃ q, h'.get? a = some q) (new : ObjOk X.prog X.w (upd H a ob) h' a ob) :
    Inv X pins σ (upd H a ob) { s with heap := h', toks := t' } :=
  I.write (x := a) (e := a) mu (.inl rfl) (fun b q hb z => (hs.2 b hb).trans z) he new
theorem dk_new {P : Program} {w : World} {H' : Hp} {h' : Heap} {kvs : List (Key × V)} {vs : List (Key × Value)} (z : kvs.length ≤ sizeLine) (hd : (a == sysModules) = false) (rel : KV kvs vs) (dd : h'.DictOf (mixKind P w) a vs) :
    ObjOk P w H' h' a (.dK kvs) := ⟨z, hd, vs, rel, dd⟩
/-- d[y] = v -/
theorem d_setItem {H' : Hp} {Q : Unit → Shared → Prop} (hu : A.units + 1 < cLine) (I : Inv X pins σ H s) (g : DPut H a y v H') (ry : RelV y u) (rv : RelV v r) (h : ∀ s', Inv X pins σ H' s' → Q () s') :
    wpAny (model X.prog X.w) A (setItem (.ref a) u r) Q E s := by
  rcases g with ⟨kvs, k, e, ey, l, eH⟩ | ⟨kvs, k, b, e, ey, eb, l, eH⟩
  · subst ey eH
    obtain ⟨z, hd, vs, rel, dd⟩ := dk_of I.hok e
    have hz : vs.length ≤ sizeLine := by rw [← rel.length]; exact z
    have hl : (putK kvs k v).length ≤ sizeLine := by have := length_putK kvs k v; omega
    refine wpAny_setItem_pairs (hsz := hz) (kV_is ry) dd fun h' dd' hs => h _ ?_
    have he : ∃ q, h'.get? a = some q := let ⟨q, _, _, hq, _⟩ := dd'; ⟨q, hq⟩
    exact d_write I (by rw [e]; exact True.intro) hs he (dk_new hl hd (rel.put k rv) dd')
  · subst ey eH
    cases (show u = Value.ref b from ry)
    obtain ⟨z, hd, xs, rel, dd⟩ := dt_of I.hok e
    have hz : xs.length ≤ sizeLine := by rw [← Paired.length rel]; exact z
    have hl : (putK kvs k v).length ≤ sizeLine := by have := length_putK kvs k v; omega
    refine wpAny_setItem_heap (hsz := hz) (tupleKind_room_in1 hu) (key_of I.hok eb) dd fun h' dd' hs => h _ ?_
    obtain ⟨q, es, ep, hq, h2, h3, h4, _, h5⟩ := dd'
    refine d_write I (by rw [e]; exact True.intro) hs ⟨q, hq⟩ ⟨hl, hd, _, (rel.put k eb rv).keeps fun c ys ec => ?_, q, es, ep, hq, h2, h3, h4, h5⟩
    rw [upd_ne (ne_of ec e (fun z => nomatch z))]
    exact ec
end

section
variable {X : Cx} {pins : List (Addr × Obj)} {σ : St} {H : Hp} {s : Shared} {a : Addr} {kvs : List (Key × V)} {k : Key} {u : Value} {A : Around} {E : Value → Shared → Prop}
end


/-! ### readings and rules -/
/-- d[y] -/
def tDGet (td ty : TE) : TE := fun σ H Q => td σ H fun x H1 => ty σ H1 fun y H2 => ∃ a v, x = .ref a ∧ DGet H2 a y (some v) ∧ Q v H2
/-- y in d, y not in d -/
def tDIn (ty td : TE) : TE := fun σ H Q => ty σ H fun y H1 => td σ H1 fun x H2 => ∃ a o, x = .ref a ∧ DGet H2 a y o ∧ Q (.bl o.isSome) H2
def tDNotIn (ty td : TE) : TE := fun σ H Q => ty σ H fun y H1 => td σ H1 fun x H2 => ∃ a o, x = .ref a ∧ DGet H2 a y o ∧ Q (.bl (!o.isSome)) H2
/-- d[y] = v -/
def sDPut (td ty tv : TE) : TS := fun D σ H => tv σ H fun v H1 => td σ H1 fun x H2 => ty σ H2 fun y H3 => ∃ a H4, x = .ref a ∧ DPut H3 a y v H4 ∧ D.nx σ H4
section
variable {X : Cx} {o i e value : Expr} {pos pos' tpos : Pos} {td ty tv : TE}
theorem pc_dnotin (hu : X.A.units + 1 < cLine) (hi : PE X i ty) (ho : PE X o td) : PC X .NotIn i o (tDNotIn ty td) := by
  intro pins s σ H Q I h
  refine thn (hi pins s σ H _ I h) fun iv s1 ⟨y, H1, I1, ry, q1⟩ => thn (ho pins s1 σ H1 _ I1 q1) fun u s2 ⟨x, H2, I2, rx, a, ov, ex, g, q2⟩ => ?_
  subst ex
  obtain rfl : u = Value.ref a := rx
  exact d_notIn hu I2 g ry fun s3 I3 => ⟨.bl (!ov.isSome), H2, I3, rfl, q2⟩
theorem ps_dput (hu : X.A.units + 1 < cLine) (ho : PE X o td) (hi : PE X i ty) (hv : PE X value tv) (hs : swapsWith value (some (.Subscript o i pos')) pos.line X.env = pure false) :
    PS X (.Assign [.Subscript o i pos'] value pos) (sDPut td ty tv) := by
  intro pins s σ H D I h
  refine wpAny_Assign_Subscript (thn (hv pins s σ H _ I h) fun r s1 ⟨v, H1, I1, rv, q1⟩ => thn (ho pins s1 σ H1 _ I1 q1) fun u s2 ⟨x, H2, I2, rx, q2⟩ => thn (hi pins s2 σ H2 _ I2 q2) fun iv s3 ⟨y, H3, I3, ry, a, H4, ex, g, q3⟩ => ?_) hs
  subst ex
  obtain rfl : u = Value.ref a := rx
  exact d_setItem hu I3 g ry rv fun s4 I4 => ⟨σ, H4, I4, q3⟩
end


/-! ### displays -/
theorem dk_empty {P : Program} {w : World} {H : Hp} (h : Heap) (hb : sysModules < h.objs.size) : ObjOk P w H (h.push { cls := .type "dict", data := .dict #[] }) h.objs.size (.dK []) :=
  ⟨Nat.zero_le _, beq_eq_false_iff_ne.mpr (Ne.symm (Nat.ne_of_lt hb)), [], .nil, Heap.DictOf.new h⟩
/-- {}, to be a dict of the kind that is wanted -/
def tDNewK : TE := fun _ H Q => ∀ p, H p = none → Q (.ref p) (upd H p (.dK []))
section
variable {X : Cx} {pos : Pos}
theorem pe_dnewK : PE X (.Dict [] [] pos) tDNewK := fun pins s σ H Q I h =>
  wpAny_Dict_empty ⟨.ref s.heap.objs.size, _, I.laid (a := s.heap.objs.size) (o := .dK []) (t' := s.toks) (fun _ _ q => Heap.get?_push_of_some _ q) (Nat.le_refl _) (dk_empty s.heap I.big), rfl, h _ (I.hok.fresh (Nat.le_refl _))⟩
end

/-- the pairs of a display, from the left -/
def tPairs : List (TE × TE) → St → Hp → (List (V × V) → Hp → Prop) → Prop
  | [], _, H, Q => Q [] H
  | (tk, tv) :: r, σ, H, Q => tk σ H fun x H1 => tv σ H1 fun y H2 => tPairs r σ H2 fun ps H3 => Q ((x, y) :: ps) H3
def mergeK (kvs more : List (Key × V)) : List (Key × V) := more.foldl (fun acc kv => putK acc kv.1 kv.2) kvs
/-- {k: v, ..} with keys ints and texts; the new dict stands empty while the pairs are made -/
def tDisp (trs : List (TE × TE)) : TE := fun σ H Q => ∀ p, H p = none → tPairs trs σ (upd H p (.dK [])) fun ps H2 => H2 p = some (.dK []) ∧ ∃ kvs : List (Key × V), ps = kvs.map (fun kv => (kV kv.1, kv.2)) ∧ kvs.length ≤ 15 ∧ Q (.ref p) (upd H2 p (.dK (mergeK [] kvs)))
/-! ### methods -/
/-- a method call o.m(e) of a built-in, with one argument: what must be seen of the text -/
structure M1 (X : Cx) (o : Expr) (m : Str) (apos : Pos) (e : Expr) (cpos : Pos) : Prop where
  base : attributeBase o m X.env (eval o X.env) = eval o X.env
  few : ((backTo cpos (starEach [e] X.env)).all (fun x => !x.1) && (backToKw cpos (keywordEach [] X.env)).all (fun x => x.1.isSome)
    && decide (([e] : List Expr).length + ([] : List Keyword).length + (if ([] : List Keyword).isEmpty then 0 else 1) < 30)) = true
  line : (apos.endLine == cpos.line) = true
  trees : backTo cpos (starEach [e] X.env) = [(false, eval e X.env)]
structure M2 (X : Cx) (o : Expr) (m : Str) (apos : Pos) (e f : Expr) (cpos : Pos) : Prop where
  base : attributeBase o m X.env (eval o X.env) = eval o X.env
  few : ((backTo cpos (starEach [e, f] X.env)).all (fun x => !x.1) && (backToKw cpos (keywordEach [] X.env)).all (fun x => x.1.isSome)
    && decide (([e, f] : List Expr).length + ([] : List Keyword).length + (if ([] : List Keyword).isEmpty then 0 else 1) < 30)) = true
  line : (apos.endLine == cpos.line) = true
  trees : backTo cpos (starEach [e, f] X.env) = [(false, eval e X.env), (false, eval f X.env)]

section
variable {X : Cx} {pins : List (Addr × Obj)} {σ : St} {H : Hp} {s : Shared} {a : Addr} {y d : V} {u r : Value} {o : Option V} {A : Around} {E : Value → Shared → Prop}
end

section
variable {X : Cx} {o e f : Expr} {apos cpos : Pos} {td ty tx : TE}
end

/-! ### dict(d): a copy -/
section
variable {X : Cx} {pins : List (Addr × Obj)} {σ : St} {H : Hp} {s : Shared} {a : Addr} {kvs : List (Key × V)} {A : Around} {E : Value → Shared → Prop}
end


section
variable {X : Cx} {pins : List (Addr × Obj)} {σ : St} {H : Hp} {s : Shared} {a : Addr} {y : V} {u : Value} {A : Around} {E : Value → Shared → Prop}
end
end L2
namespace L2
open PySem PySem.Spec PyProof.Rows
/-! ### a dict's pairs: keys that differ -/
section
variable {κ : Type} [DecidableEq κ]
end
end L2
set_option Elab.async false
set_option linter.all false
set_option maxRecDepth 100000
set_option maxHeartbeats 4000000
namespace L2
open PySem PySem.Spec PyProof.Rows
/-! ### a list comprehension of one clause -/
def scOk (N : List Str) (ts : List Nat) (sc : Scope) (kind : Str → Option NameKind) : Bool :=
  sc.kind == .function && sc.names.all (fun y => y.2 != .cell && (y.2 != .local || sc.names.lookup y.1 == some .local) && (y.2 != .free || kind y.1 == some .cell || kind y.1 == some .free)) &&
    N.zipIdx.all (fun p => sc.names.lookup p.1 != some .local || ts.contains p.2)
def closOf (cells : List (Str × Addr)) : List (Str × NameKind) → List (Str × Addr) → List (Str × Addr)
  | [], acc => acc
  | (n, k) :: r, acc => closOf cells r (if k = .free then (n, (cells.lookup n).getD 0) :: acc else acc)
theorem clos_eq {env : Env} : ∀ (names : List (Str × NameKind)) (acc : List (Str × Addr)), (∀ y ∈ names, y.2 = .free → ∃ c, env.cells.lookup y.1 = some c) →
    (forIn names acc fun (x : Str × NameKind) (cs : List (Str × Addr)) => (match x with | (name, kind) => if (kind == NameKind.free) = true then (do let c ← cellOf env name; pure (ForInStep.yield ((name, c) :: cs))) else pure (ForInStep.yield cs) : Sem (ForInStep (List (Str × Addr))))) = pure (closOf env.cells names acc)
  | [], acc, _ => rfl
  | (n, k) :: r, acc, h => by
    rw [List.forIn_cons]
    by_cases hk : k = .free
    · subst hk
      obtain ⟨c, hc⟩ := h (n, .free) List.mem_cons_self rfl
      have e1 : cellOf env n = pure c := by unfold cellOf; rw [hc]
      simp only [beq_self_eq_true, if_true, e1, pure_bind]
      rw [clos_eq r _ fun y hy => h y (List.mem_cons_of_mem _ hy)]
      show _ = pure (closOf env.cells r (if NameKind.free = .free then _ else _))
      rw [if_pos rfl, hc]; rfl
    · have hb : (k == NameKind.free) = false := by simpa using hk
      simp only [hb, Bool.false_eq_true, if_false, pure_bind]
      rw [clos_eq r _ fun y hy => h y (List.mem_cons_of_mem _ hy)]
      show _ = pure (closOf env.cells r (if k = .free then _ else _))
      rw [if_neg hk]
theorem clos_look {cells : List (Str × Addr)} : ∀ (names : List (Str × NameKind)) (acc : List (Str × Addr)), (∀ y ∈ names, y.2 = .free → ∃ c, cells.lookup y.1 = some c) → (∀ x c, acc.lookup x = some c → cells.lookup x = some c) →
    (∀ x c, (closOf cells names acc).lookup x = some c → cells.lookup x = some c) ∧ (∀ x c, acc.lookup x = some c → ∃ c', (closOf cells names acc).lookup x = some c') ∧ ∀ y ∈ names, y.2 = .free → ∃ c, (closOf cells names acc).lookup y.1 = some c
  | [], acc, _, h2 => ⟨h2, fun x c e => ⟨c, e⟩, fun y hy => nomatch hy⟩
  | (n, k) :: r, acc, h1, h2 => by
    by_cases hk : k = .free
    · subst hk
      obtain ⟨c, hc⟩ := h1 (n, .free) List.mem_cons_self rfl
      have hc : cells.lookup n = some c := hc
      have e : closOf cells ((n, .free) :: r) acc = closOf cells r ((n, c) :: acc) := by
        show closOf cells r (if NameKind.free = .free then _ else _) = _
        rw [if_pos rfl, hc]; rfl
      rw [e]
      obtain ⟨q1, q2, q3⟩ := clos_look (cells := cells) r ((n, c) :: acc) (fun y hy => h1 y (List.mem_cons_of_mem _ hy)) (fun x c' e' => by
        rw [List.lookup_cons] at e'
        cases hx : x == n with
        | true => rw [hx] at e'; have : x = n := by simpa using hx
                  subst this; cases e'; exact hc
        | false => rw [hx] at e'; exact h2 x c' e')
      refine ⟨q1, fun x c' e' => ?_, fun y hy hf => ?_⟩
      · cases hx : x == n with
        | true => exact q2 x c (by rw [List.lookup_cons, hx])
        | false => exact q2 x c' (by rw [List.lookup_cons, hx]; exact e')
      · rcases List.mem_cons.mp hy with rfl | hy
        · exact q2 n c (by rw [List.lookup_cons, beq_self_eq_true])
        · exact q3 y hy hf
    · have e : closOf cells ((n, k) :: r) acc = closOf cells r acc := by
        show closOf cells r (if k = .free then _ else _) = _
        rw [if_neg hk]
      rw [e]
      obtain ⟨q1, q2, q3⟩ := clos_look (cells := cells) r acc (fun y hy => h1 y (List.mem_cons_of_mem _ hy)) h2
      refine ⟨q1, q2, fun y hy hf => ?_⟩
      rcases List.mem_cons.mp hy with rfl | hy
      · exact absurd hf hk
      · exact q3 y hy hf
theorem closure_ok {scope : Scope} {env : Env} (h : ∀ y ∈ scope.names, y.2 = .free → ∃ c, env.cells.lookup y.1 = some c) :
    ∃ cl, closureFor scope env = pure cl ∧ (∀ x c, cl.lookup x = some c → env.cells.lookup x = some c) ∧ ∀ y ∈ scope.names, y.2 = .free → ∃ c, cl.lookup y.1 = some c := by
  obtain ⟨q1, _, q3⟩ := clos_look (cells := env.cells) scope.names [] h (fun x c e => nomatch e)
  refine ⟨closOf env.cells scope.names [], ?_, q1, q3⟩
  unfold closureFor
  have := clos_eq (env := env) scope.names [] h
  first
    | exact this
    | (simp only [bind_pure]; exact this)
    | (refine Eq.trans ?_ this; simp)
theorem lookup_relab {env : Env} : ∀ {names : List (Str × NameKind)} {x : Str}, (names.map fun (n, k) => if (k == NameKind.free && env.scope.kind == .function && env.kindOf n == some .cell) then (n, NameKind.cell) else (n, k)).lookup x =
    (names.lookup x).map fun k => if (k == NameKind.free && env.scope.kind == .function && env.kindOf x == some .cell) then NameKind.cell else k
  | [], _ => rfl
  | (n, k) :: r, x => by
    have ih := @lookup_relab env r x
    rw [List.map_cons]
    cases hx : x == n with
    | true =>
      have e : x = n := by simpa using hx
      subst e
      rw [List.lookup_cons (as := r), beq_self_eq_true]
      show List.lookup x ((if (k == NameKind.free && env.scope.kind == .function && env.kindOf x == some .cell) = true then (x, NameKind.cell) else (x, k)) :: _) = some _
      by_cases hc : (k == NameKind.free && env.scope.kind == .function && env.kindOf x == some .cell) = true
      · rw [if_pos hc, List.lookup_cons, beq_self_eq_true]; dsimp only; rw [if_pos hc]
      · rw [if_neg hc, List.lookup_cons, beq_self_eq_true]; dsimp only; rw [if_neg hc]
    | false =>
      rw [List.lookup_cons (as := r), hx]
      show List.lookup x ((if (k == NameKind.free && env.scope.kind == .function && env.kindOf n == some .cell) = true then (n, NameKind.cell) else (n, k)) :: _) = _
      by_cases hc : (k == NameKind.free && env.scope.kind == .function && env.kindOf n == some .cell) = true
      · rw [if_pos hc, List.lookup_cons, hx]; exact ih
      · rw [if_neg hc, List.lookup_cons, hx]; exact ih
/-- the context of the block -/
abbrev cxC (X : Cx) (scope : Scope) (cl : List (Str × Addr)) (s : Shared) (H : Hp) (fp : List Addr) : Cx :=
  { X with s₀ := s, H₀ := H, env := compEnvC scope cl s.heap.objs.size X.env, outer := X.stack, ex := fp, fn := fun _ => false, pn := [], xe := fun _ _ => False }
def clr : List Nat → St → St
  | [], σ => σ
  | j :: r, σ => clr r (σ.set j none)
theorem clr_len : ∀ (ts : List Nat) (σ : St), (clr ts σ).length = σ.length
  | [], _ => rfl
  | j :: r, σ => by show (clr r (σ.set j none)).length = _; rw [clr_len r]; simp
theorem clr_some : ∀ (ts : List Nat) (σ : St) (i : Nat) (v : V), (clr ts σ)[i]? = some (some v) → i ∉ ts ∧ σ[i]? = some (some v)
  | [], _, _, _, h => ⟨by simp, h⟩
  | j :: r, σ, i, v, h => by
    obtain ⟨h1, h2⟩ := clr_some r (σ.set j none) i v h
    by_cases e : j = i
    · subst e
      rw [List.getElem?_set] at h2
      simp at h2
    · rw [List.getElem?_set_ne e] at h2
      exact ⟨by simp [h1, Ne.symm e], h2⟩
structure ScF (X : Cx) (ts : List Nat) (scope : Scope) : Prop where
  kind : scope.kind = .function
  cell : ∀ y ∈ scope.names, y.2 ≠ .cell
  loc : ∀ y ∈ scope.names, y.2 = .local → scope.names.lookup y.1 = some .local
  free : ∀ y ∈ scope.names, y.2 = .free → X.env.kindOf y.1 = some .cell ∨ X.env.kindOf y.1 = some .free
  ts : ∀ (i : Nat) x, X.N[i]? = some x → scope.names.lookup x = some .local → i ∈ ts
theorem scF_of {X : Cx} {ts : List Nat} {scope : Scope} (h : scOk X.N ts scope X.env.kindOf = true) : ScF X ts scope := by
  unfold scOk at h
  simp only [Bool.and_eq_true, List.all_eq_true, bne_iff_ne, ne_eq, Bool.or_eq_true, beq_iff_eq] at h
  obtain ⟨⟨h1, h2⟩, h3⟩ := h
  refine ⟨h1, fun y hy => (h2 y hy).1.1, fun y hy e => ?_, fun y hy e => ?_, fun i x e1 e2 => ?_⟩
  · rcases (h2 y hy).1.2 with z | z
    · exact absurd e z
    · exact z
  · rcases (h2 y hy).2 with (z | z) | z
    · exact absurd e z
    · exact .inl z
    · exact .inr z
  · have hm : (x, i) ∈ X.N.zipIdx := by
      rw [List.mem_zipIdx_iff_getElem?]; exact e1
    rcases h3 _ hm with z | z
    · exact absurd e2 z
    · simpa using z
section
variable {X : Cx} {ts : List Nat} {scope : Scope} {pins : List (Addr × Obj)} {σ : St} {H : Hp} {s : Shared} {fp : List Addr}
/-- the block's start -/
theorem comp_start (I : Inv X pins σ H s) (S : ScF X ts scope) (hf : ∀ b ∈ fp, FpOk X pins H b) (hfl : ∀ b ∈ fp, b < s.heap.objs.size) {cl : List (Str × Addr)} (c1 : ∀ x c, cl.lookup x = some c → X.env.cells.lookup x = some c)
    (c2 : ∀ y ∈ scope.names, y.2 = .free → ∃ c, cl.lookup y.1 = some c) {h1 : Heap} {t1 : Nat} (hns : h1.Ns s.heap.objs.size (fun x => ([] : List (Str × Value)).reverse.lookup x))
    (hk : ∀ b o, s.heap.get? b = some o → h1.get? b = some o) : Inv (cxC X scope cl s H fp) [] (clr ts σ) H { s with heap := h1, toks := t1 } := by
  have hlk : ∀ x, (relabel scope X.env).names.lookup x = (scope.names.lookup x).map fun k => if (k == NameKind.free && X.env.scope.kind == .function && X.env.kindOf x == some .cell) then NameKind.cell else k := fun x => lookup_relab
  have cfree : ∀ x, ((relabel scope X.env).names.lookup x = some .cell ∨ (relabel scope X.env).names.lookup x = some .free) → (x, NameKind.free) ∈ scope.names := fun x hx => by
    rw [hlk] at hx
    cases e : scope.names.lookup x with
    | none => rw [e] at hx; rcases hx with hx | hx <;> cases hx
    | some k =>
      have hm := mem_of_lookup_some e
      cases k with
      | free => exact hm
      | cell => exact absurd rfl (S.cell _ hm)
      | «local» => rw [e] at hx; rcases hx with hx | hx <;> cases hx
      | globalExplicit => rw [e] at hx; rcases hx with hx | hx <;> cases hx
      | globalImplicit => rw [e] at hx; rcases hx with hx | hx <;> cases hx
  have ccell : ∀ x c, cl.lookup x = some c → ∃ v, s.heap.IsCell c v := fun x c e => I.cell x c (c1 x c e)
  have fpne : ∀ b ∈ fp, b ∉ frs X.stack := fun b hb z => by
    obtain ⟨_, f1, f2, _⟩ := hf b hb
    rcases List.mem_cons.mp (I.stkSub b z) with e | e
    · exact f1 e
    · exact f2 e
  refine ⟨⟨I.ok.mod, S.kind, I.ok.glob, I.ok.blt, Nat.le_refl _, fun x y c e1 e2 => I.ok.inj x y c (c1 x c e1) (c1 y c e2), fun x hx => c2 (x, .free) (cfree x hx) rfl, (fun x c hx => nomatch hx), I.ok.hd, I.ok.frames, .inl rfl, fun b hb => ⟨Nat.ne_of_lt (hfl b hb), fun x c e => (hf b hb).2.2.2.2.1 x c (c1 x c e)⟩,
    I.bs, Nat.le_trans I.ok.bsz I.sz, fun b o e hb => ?_, fpne, I.stack, I.stkFree⟩, rfl, I.bare, Un.kept hk, ⟨_, hns, fun i x v e1 e2 e3 => ?_⟩, fun x c e => ?_, I.hok.fresh (Nat.le_refl _), fun x c e => I.freeC x c (c1 x c e), fun p hp => absurd hp (by simp), I.hok.kept hk, by rw [clr_len]; exact I.len⟩
  · rcases (hf b hb).2.2.2.1 with z | z
    · exact I.ok.noex b o e z
    · exact absurd (Nat.lt_of_lt_of_le (Heap.lt_size e) (Nat.le_trans I.ok.bsz z)) (Nat.lt_irrefl _)
  · obtain ⟨nt, e2⟩ := clr_some ts σ i v e2
    have e3' : (relabel scope X.env).names.lookup x = some .local ∨ (relabel scope X.env).names.lookup x = some .cell ∨ (relabel scope X.env).names.lookup x = some .free := e3
    rcases e3' with z | z
    · rw [hlk] at z
      cases e : scope.names.lookup x with
      | none => rw [e] at z; cases z
      | some k =>
        rw [e] at z
        have z' : (if (k == NameKind.free && X.env.scope.kind == .function && X.env.kindOf x == some .cell) = true then NameKind.cell else k) = .local := Option.some.inj z
        split at z'
        · cases z'
        · subst z'
          exact absurd (S.ts i x e1 e) nt
    · have hm := cfree x z
      obtain ⟨c, hc⟩ := c2 _ hm rfl
      obtain ⟨m, hn, hl⟩ := I.loc
      have vis : Vis X.env.scope x := by
        rcases S.free _ hm rfl with q | q
        · exact .inr (.inl q)
        · exact .inr (.inr q)
      obtain ⟨u, r, l⟩ := hl i x v e1 e2 vis
      refine ⟨u, r, .inr ⟨z, c, hc, ?_⟩⟩
      rcases l with ⟨q, _⟩ | ⟨_, c', hc', hcell⟩
      · rcases S.free _ hm rfl with q' | q'
        · rw [q'] at q; cases q
        · rw [q'] at q; cases q
      · rw [c1 x c hc] at hc'
        cases hc'
        obtain ⟨o, ho, hd⟩ := hcell
        exact ⟨o, hk _ _ ho, hd⟩
  · obtain ⟨v, o, ho, hd⟩ := ccell x c e
    exact ⟨v, o, hk _ _ ho, hd⟩
end
section
variable {prog : Program} {w : World} {A : Around} {R : Result → Shared → Prop} {s : Shared}
theorem codeAny_compLoop_go {elt target iter : Expr} {ifs : List Expr} {scope : Scope} {pos : Pos} {it acc : Value} {env : Env} (I : Nat → Shared → Prop)
    (turn : ∀ n s, I n s → wpAny (model prog w) A (pyNext it) (fun r s₁ => match r with
      | none => R (.ok .next) s₁
      | some v => wpAny (model prog w) A (letOwnedTupleGo target it v) (fun _ s₀ => wpAny (model prog w) A (assign target env v) (fun _ s₂ =>
          wpAny (model prog w) A (forIn ifs true fun c r => if r = true then do let ok ← isTrue c env (eval c env); pure (ForInStep.yield ok) else pure (ForInStep.yield r)) (fun ok s₃ =>
            if ok = true then wpAny (model prog w) A (eval elt env) (fun x s₄ =>
              wpAny (model prog w) A (call (.builtin "list.append") [acc, x]) (fun _ s₅ => ∃ m, m < n ∧ I m s₅) (fun _ _ => False) s₄) (fun _ _ => False) s₃
            else ∃ m, m < n ∧ I m s₃) (fun _ _ => False) s₂) (fun _ _ => False) s₀) (fun _ _ => False) s₁) (fun _ _ => False) s)
    (n : Nat) (h : I n s) :
    codeAny (model prog w) A (.compLoop (.ListComp elt [⟨target, iter, ifs, 0⟩] scope pos) 0 it acc env) R s := by
  refine codeAny_loop rfl I (fun n s hI => ?_) n h
  show wpAny _ A ((compTurn (.ListComp elt [⟨target, iter, ifs, 0⟩] scope pos) 0 it acc env).onRaise (fun x => do noteFrame x env; theTreesLotGoes x)) _ _ s
  refine wpAny_noted ?_
  rw [compTurn_list]
  refine wpAny_bind (wpAny_standAt (wpAny_bind (wpAny_mono (turn n s hI) (fun r s₁ h₁ => ?_) fun _ _ h' => h'.elim)))
  cases r with
  | none => exact wpAny_pure h₁
  | some v =>
    refine wpAny_bind (wpAny_mono h₁ (fun _ s₀ h₀ => ?_) fun _ _ h' => h'.elim)
    refine wpAny_bind (wpAny_mono h₀ (fun _ s₂ h₂ => wpAny_bind (wpAny_mono h₂ (fun ok s₃ h₃ => ?_) fun _ _ h' => h'.elim)) fun _ _ h' => h'.elim)
    cases ok with
    | false => exact wpAny_pure ⟨rfl, h₃⟩
    | true =>
      exact wpAny_bind (wpAny_bind (wpAny_mono h₃ (fun x s₄ h₄ => wpAny_bind (wpAny_mono h₄ (fun _ s₅ h₅ => wpAny_pure (wpAny_pure ⟨rfl, h₅⟩)) fun _ _ h' => h'.elim)) fun _ _ h' => h'.elim))
end
/-- the tests of a clause: none, or one -/
def tTrue : TT := fun _ H Q => Q true H
def PIf (X : Cx) (ifs : List Expr) (t : TT) : Prop :=
  ∀ (pins : List (Addr × Obj)) (s : Shared) (σ : St) (H : Hp) (Q : Bool → Hp → Prop), Inv X pins σ H s → t σ H Q →
    wpAny (model X.prog X.w) X.A (forIn ifs true fun c r => if r = true then do let ok ← isTrue c X.env (eval c X.env); pure (ForInStep.yield ok) else pure (ForInStep.yield r)) (TP X pins σ Q) X.xe s
theorem pif_nil {X : Cx} : PIf X [] tTrue := fun _ _ _ H _ I h => wpAny_tests_nil ⟨H, I, h⟩
/-- what a comprehension wants: D the new list; W the word by the turn and a measure, over the block's names and the heap -/
def tComp (ts : List Nat) (wi : TI) (g : TG) (tt : TT) (te : TE) : TE := fun σ H Q => wi σ H fun J H1 => ∀ D, H1 D = none → ∃ W : Nat → Nat → St → Hp → Prop, (∃ m, W 0 m (clr ts σ) (upd H1 D (.lst []))) ∧ ∀ i m τ H2, W i m τ H2 →
  (J.stop i H2 ∧ Q (.ref D) H2) ∨ (J.go i H2 ∧ ∃ N : St → Hp → Prop, (∀ τ' H', N τ' H' → ∃ m', m' < m ∧ W (i + 1) m' τ' H') ∧ ∀ x H', J.yld i H2 x H' → g x τ H' fun τ2 H3 => tt τ2 H3 fun b H4 =>
    if b = true then te τ2 H4 fun v H5 => ∃ ys, H5 D = some (.lst ys) ∧ ys.length < sizeLine ∧ N τ2 (upd H5 D (.lst (ys ++ [v]))) else N τ2 H4)
section
variable {X : Cx} {ts : List Nat} {scope : Scope} {tg iter elt : Expr} {ifs : List Expr} {wi : TI} {g : TG} {tt : TT} {te : TE} {pos : Pos}
/-- the block runs; behind it the outer state and the new list -/
theorem comp_run (hc : X.calm = true) (hsc : scOk X.N ts scope X.env.kindOf = true) (hi : PI X tg iter wi) (hg : ∀ cl s H fp, PG (cxC X scope cl s H fp) tg g) (ht : ∀ cl s H fp, PIf (cxC X scope cl s H fp) ifs tt) (he : ∀ cl s H fp, PE (cxC X scope cl s H fp) elt te)
    {pins : List (Addr × Obj)} {s : Shared} {σ : St} {H : Hp} {Q : VK} (I : Inv X pins σ H s) (h : tComp ts wi g tt te σ H Q) {use : Option (Value → Sem Unit)} {Q' : Value → Shared → Prop}
    (fin : ∀ (D C : Addr) (H' : Hp) (s' : Shared), Inv X pins σ H' s' → (∃ m, s'.heap.Ns C m) → H' C = none → C ≠ X.env.locals → (∀ x c, X.env.cells.lookup x = some c → c ≠ C) → X.s₀.heap.objs.size ≤ C → (∀ p ∈ X.pn ++ pins, p.1 ≠ C) → C ∉ X.fs → Q (.ref D) H' →
      compPost (model X.prog X.w) X.A X.xe use Q' (.ref D) C (.ok .next) s')
    (hs : ∀ x, foldedSetIterable iter X.env x = pure x) :
    wpAny (model X.prog X.w) X.A (comprehension (.ListComp elt [⟨tg, iter, ifs, 0⟩] scope pos) scope X.env (firstIterPos [⟨tg, iter, ifs, 0⟩] pos) (newList []) false (eval iter X.env) use) Q' X.xe s := by
  have S := scF_of hsc
  obtain ⟨cl, hcl, c1, c2⟩ := closure_ok (scope := scope) (env := X.env) fun y hy e => I.ok.has y.1 (S.free y hy e)
  refine wpAny_comprehension_free (use := use) rfl hs hcl S.kind S.loc ?_
  refine wpAny_mono (hi pins s σ H _ I h) (fun v s1 h1 => wpAny_mono h1 (fun itv s2 h2 => ?_) fun _ _ e => e) fun _ _ e => e
  obtain ⟨it, fp, tn, J, H2, e, I2, T, st2, f2, q2⟩ := h2
  subst e
  have hD : H2 s2.heap.objs.size = none := I2.hok.fresh (Nat.le_refl _)
  obtain ⟨W, ⟨m0, w0⟩, turn⟩ := q2 _ hD
  refine wpAny_newObj_type (wpAny_newFunctionEnv S.cell (by intro y hy; simp at hy) (fun h₁ hns₁ hsb₁ => ?_) S.kind)
  dsimp only at hns₁ hsb₁ ⊢
  generalize hh3 : s2.heap.push { cls := .type "list", dict := none, data := .seq ([] : List Value).toArray } = g3 at hns₁ hsb₁ ⊢
  have I3 : Inv X pins σ (upd H2 s2.heap.objs.size (.lst [])) { s2 with heap := g3 } := by
    rw [← hh3]
    exact I2.laid (t' := s2.toks) (fun b u e => Heap.get?_push_of_some _ e) (Nat.le_refl _) ⟨Nat.zero_le _, [], _, .nil, Heap.get?_push_size _ rfl⟩
  have st3 : tn 0 g3 := T.keep _ _ _ st2 fun b _ o e => by rw [← hh3]; exact Heap.get?_push_of_some _ e
  have lt2 : ∀ b ∈ fp, b < s2.heap.objs.size := fun b hb => by obtain ⟨o, e, _⟩ := T.obj _ _ st2 b hb; exact Heap.lt_size e
  have hsz3 : g3.objs.size = s2.heap.objs.size + 1 := by rw [← hh3, Heap.size_push]
  have f3 : ∀ b ∈ fp, FpOk X pins (upd H2 s2.heap.objs.size (.lst [])) b := fun b hb => ⟨by rw [upd_ne (Nat.ne_of_lt (lt2 b hb))]; exact (f2 b hb).1, (f2 b hb).2⟩
  have lt3 : ∀ b ∈ fp, b < g3.objs.size := fun b hb => by rw [hsz3]; exact Nat.lt_succ_of_lt (lt2 b hb)
  have old : ∀ b o, g3.get? b = some o → h₁.get? b = some o := fun b o e => hsb₁.extBut b o (Nat.ne_of_lt (Heap.lt_size e)) (Heap.get?_push_of_some _ e)
  have hns : h₁.Ns g3.objs.size (fun x => ([] : List (Str × Value)).reverse.lookup x) := hns₁
  have I4 : ∀ t, Inv (cxC X scope cl { s2 with heap := g3 } (upd H2 s2.heap.objs.size (.lst [])) fp) [] (clr ts σ) (upd H2 s2.heap.objs.size (.lst [])) { s2 with heap := h₁, toks := t } := fun t => comp_start I3 S f3 lt3 c1 c2 hns old
  have fpne : ∀ b ∈ fp, b ∉ frs X.stack := fun b hb z => by
    obtain ⟨_, f1, f2, _⟩ := f3 b hb
    rcases List.mem_cons.mp (I3.stkSub b z) with e | e
    · exact f1 e
    · exact f2 e
  have stat : ∀ {H' : Hp}, (∀ b ∈ fp, H' b = none) → ∀ b ∈ fp, FpOk (cxC X scope cl { s2 with heap := g3 } (upd H2 s2.heap.objs.size (.lst [])) fp) [] H' b := fun hn b hb =>
    ⟨hn b hb, Nat.ne_of_lt (lt3 b hb), fpne b hb, .inl hb, fun x c e => (f2 b hb).2.2.2.2.1 x c (c1 x c e), fun p hp => absurd hp (by simp)⟩
  have loop : ∀ t, codeAny (model X.prog X.w) X.A (.compLoop (.ListComp elt [⟨tg, iter, ifs, 0⟩] scope pos) 0 (.ref it) (.ref s2.heap.objs.size) (compEnvC scope cl g3.objs.size X.env))
      (compPost (model X.prog X.w) X.A X.xe use Q' (.ref s2.heap.objs.size) g3.objs.size) { s2 with heap := h₁, toks := t } := by
    intro t
    refine codeAny_compLoop_go (fun n s' => ∃ i τ H', Inv (cxC X scope cl { s2 with heap := g3 } (upd H2 s2.heap.objs.size (.lst [])) fp) [] τ H' s' ∧ tn i s'.heap ∧ (∀ b ∈ fp, H' b = none) ∧ W i n τ H') ?_ m0
      ⟨0, clr ts σ, _, I4 t, T.keep _ _ _ st3 fun b _ o e => old b o e, fun b hb => (f3 b hb).1, w0⟩
    rintro n s5 ⟨i, τ, H5, I5, st5, fr5, w5⟩
    rcases turn i n τ H5 w5 with ⟨stop, qn⟩ | ⟨go, N, hN, step⟩
    · refine thn (T.done (cxC X scope cl { s2 with heap := g3 } (upd H2 s2.heap.objs.size (.lst [])) fp) rfl rfl rfl hc i [] s5 τ H5 _ I5 (stat fr5) st5 stop) fun r s6 ⟨hr, I6⟩ => ?_
      subst hr
      have base : Un (frs X.stack) fp (upd H2 s2.heap.objs.size (.lst [])) H5 g3 s6.heap := I6.base
      have J6 : Inv X pins σ H5 s6 := I3.call' (ch := fp) I6.os base I6.hok I6.bare fun b hb => ⟨(f3 b hb).2.2.2.1, (f3 b hb).2.1, (f3 b hb).2.2.2.2.1, (f3 b hb).2.2.2.2.2⟩
      obtain ⟨m6, n6, _⟩ := I6.loc
      have hC : g3.get? g3.objs.size = none := Heap.get?_none_of_le (Nat.le_refl _)
      refine fin _ g3.objs.size H5 s6 J6 ⟨m6, n6⟩ I6.free (Nat.ne_of_gt I3.lt) (fun x c e z => ?_) I3.sz (fun p hp z => ?_) (I3.nofs (Nat.le_refl _)) qn
      · obtain ⟨v, q⟩ := I3.cell x c e
        exact absurd q.lt (by rw [z]; exact Nat.lt_irrefl _)
      · exact absurd (Heap.lt_size (I3.pin p hp).1) (by rw [z]; exact Nat.lt_irrefl _)
    · refine thn (T.item (cxC X scope cl { s2 with heap := g3 } (upd H2 s2.heap.objs.size (.lst [])) fp) rfl rfl rfl hc i [] s5 τ H5 _ I5 (stat fr5) st5 go) fun r s6 ⟨u, hr, h6⟩ => ?_
      subst hr
      refine thn h6 fun _ s7 ⟨x, H7, I7, r7, y7, st7, fr7⟩ => ?_
      have I7' := I7.pinned (stat fr7) (T.obj _ _ st7)
      refine thn (hg cl { s2 with heap := g3 } _ fp _ s7 τ H7 x u _ I7' r7 (step x H7 y7)) fun _ s8 ⟨τ8, H8, I8, q8⟩ => ?_
      refine thn (ht cl { s2 with heap := g3 } _ fp _ s8 τ8 H8 _ I8 q8) fun b s9 ⟨H9, I9, q9⟩ => ?_
      have again : ∀ {τ9 : St} {H9 : Hp} {s9 : Shared}, Inv (cxC X scope cl { s2 with heap := g3 } (upd H2 s2.heap.objs.size (.lst [])) fp) ([] ++ pinsAt fp s7.heap) τ9 H9 s9 → N τ9 H9 →
          ∃ m, m < n ∧ ∃ i τ H', Inv (cxC X scope cl { s2 with heap := g3 } (upd H2 s2.heap.objs.size (.lst [])) fp) [] τ H' s9 ∧ tn i s9.heap ∧ (∀ b ∈ fp, H' b = none) ∧ W i m τ H' := fun {τ9 H9 s9} I9 n9 => by
        obtain ⟨m', hm, w9⟩ := hN _ _ n9
        refine ⟨m', hm, i + 1, τ9, H9, I9.unpinned, T.keep _ _ _ st7 fun b hb o e => (I9.pin (b, o) (List.mem_append_right _ (List.mem_append_right _ (mem_pinsAt hb e)))).1, fun b hb => ?_, w9⟩
        obtain ⟨o, e, d⟩ := T.obj _ _ st7 b hb
        exact (I9.pin (b, o) (List.mem_append_right _ (List.mem_append_right _ (mem_pinsAt hb e)))).2.1
      cases b with
      | false =>
        rw [if_neg Bool.false_ne_true] at q9 ⊢
        exact again I9 q9
      | true =>
        rw [if_pos rfl] at q9 ⊢
        refine thn (he cl { s2 with heap := g3 } _ fp _ s9 τ8 H9 _ I9 q9) fun y s10 ⟨v, H10, I10, r10, ys, hys, hlen, n10⟩ => ?_
        exact thn (mt_append (X := cxC X scope cl { s2 with heap := g3 } (upd H2 s2.heap.objs.size (.lst [])) fp) _ s10 τ8 H10 (.ref s2.heap.objs.size) [v] (.ref s2.heap.objs.size) [y] (fun _ H11 => N τ8 H11) I10 rfl (.cons r10 .nil) ⟨_, ys, v, rfl, rfl, hys, hlen, n10⟩) fun _ s11 ⟨_, H11, I11, _, n11⟩ => again I11 n11
  have LW := loop (s2.toks + ([] : List (Str × Value)).length)
  exact codeAny_compStart_list LW (T.self _ 0 _ _ _ (T.keep _ _ _ st3 fun b _ o e => old b o e) LW)
end
end L2

set_option Elab.async false
set_option linter.all false
set_option maxRecDepth 100000
set_option maxHeartbeats 4000000
namespace L2
open PySem PySem.Spec PyProof.Rows
section
variable {X : Cx} {ts : List Nat} {scope : Scope} {tg iter elt : Expr} {ifs : List Expr} {wi : TI} {g : TG} {tt : TT} {te : TE} {pos : Pos}
theorem pe_comp (hc : X.calm = true) (hsc : scOk X.N ts scope X.env.kindOf = true) (hi : PI X tg iter wi) (hg : ∀ cl s H fp, PG (cxC X scope cl s H fp) tg g) (ht : ∀ cl s H fp, PIf (cxC X scope cl s H fp) ifs tt) (he : ∀ cl s H fp, PE (cxC X scope cl s H fp) elt te)
    (hs : ∀ x, foldedSetIterable iter X.env x = pure x := by intro _; rfl) : PE X (.ListComp elt [⟨tg, iter, ifs, 0⟩] scope pos) (tComp ts wi g tt te) := by
  intro pins s σ H Q I h
  rw [eval_ListComp]
  refine comp_run hc hsc hi hg ht he I h (use := none) (fun D C H' s' I' ⟨m, hn⟩ hC hL hce hsz hp hfs q => ⟨m, hn, fun h' hs' => ?_⟩) hs
  exact ⟨.ref D, H', I'.turned (t' := s'.toks) (it := C) (fun b o hb e => (hs'.2 b hb).trans e) hC hL (.inr hsz) hce hp, rfl, q⟩
theorem ps_comp {j : Nat} {y : Str} {py spos : Pos} (hc : X.calm = true) (hN : X.N.Nodup) (hj : X.N[j]? = some y) (hy : Loc X.env.scope y) (hsc : scOk X.N ts scope X.env.kindOf = true) (hi : PI X tg iter wi) (hg : ∀ cl s H fp, PG (cxC X scope cl s H fp) tg g) (ht : ∀ cl s H fp, PIf (cxC X scope cl s H fp) ifs tt) (he : ∀ cl s H fp, PE (cxC X scope cl s H fp) elt te)
    (hsw : swapsWith (.ListComp elt [⟨tg, iter, ifs, 0⟩] scope pos) (some (.Name y py)) spos.line X.env = pure true := by rfl)
    (hs : ∀ x, foldedSetIterable iter X.env x = pure x := by intro _; rfl) (hf : X.fn y = true ∨ X.env.scope.names.lookup y = some .local := by first | exact .inl rfl | exact .inr rfl | assumption) :
    PS X (.Assign [.Name y py] (.ListComp elt [⟨tg, iter, ifs, 0⟩] scope pos) spos) (tAsg (tComp ts wi g tt te) (gName j)) := by
  intro pins s σ H D I h
  rw [exec_Assign_Name_used _ _ _ _ hsw]
  refine wpAny_bind (wpAny_standAt (wpAny_bind ?_))
  show wpAny _ _ (do let _ ← comprehension (.ListComp elt [⟨tg, iter, ifs, 0⟩] scope pos) scope X.env _ (newList []) false (eval iter X.env) (some (assign (.Name y py) X.env))) _ _ s
  refine wpAny_bind (wpAny_mono (comp_run hc hsc hi hg ht he I h (use := some (assign (.Name y py) X.env)) (Q' := fun _ s' => SP X pins D .next s') (fun D' C H' s' I' ⟨m, hn⟩ hC hL hce hsz hp hfs q => ?_) hs) (fun _ s' hq => wpAny_pure (wpAny_pure hq)) fun _ _ e => e)
  show wpAny _ _ (assign (.Name y py) X.env (.ref D')) _ _ _
  refine wpAny_assign_Name (store_ok2 (v := .ref D') I' hN hj hy rfl (fun s2 I2 ⟨a, hsb, ha⟩ => ?_) hf)
  have hCa : C ≠ a := by
    rcases ha with rfl | ha
    · exact hL
    · exact Ne.symm (hce y a ha)
  refine ⟨m, hn.sameBut hsb hCa, fun h' hs' => ?_⟩
  exact ⟨_, H', I2.turned (t' := s2.toks) (it := C) (fun b o hb e => (hs'.2 b hb).trans e) hC hL (.inr hsz) hce hp, q⟩
end
/-! ### enumerate(list) -/
/-- (0, x0), (1, x1), ..: a new tuple each -/
def Ite (K : PySem.W.Frag) (a : Addr) : It :=
  ⟨fun i H => ∃ xs x, SqL K H a xs ∧ xs[i]? = some x, fun i H y H' => ∃ p x, H p = none ∧ y = .ref p ∧ (∀ xs, SqL K H a xs → xs[i]? = some x) ∧ H' = upd H p (.tup [.int i, x]), fun i H => ∃ xs, SqL K H a xs ∧ xs.length ≤ i⟩
theorem turn_enum {P : Program} {w : World} {K : PySem.W.Frag} {es : List Expr} {kt : Nat} {tp : Pos} (a e it : Addr) (hei : e ≠ it) : Turn P w K (.Tuple es kt tp) (Ite K a) [e, it] e (fun i h => (∃ old, IsEnum h e it (i : Nat) old) ∧ h.IsListIter it a i) where
  mem := by simp
  obj := fun i h st b hb => by
    obtain ⟨⟨old, he⟩, ⟨o, e1, c, d⟩⟩ := st
    rcases List.mem_cons.mp hb with rfl | hb
    · exact ⟨_, he, fun v z => by have z' : Data.fields _ = Data.cell v := z; cases z'⟩
    · have e2 : b = it := by simpa using hb
      subst e2
      exact ⟨o, e1, fun v z => by rw [d] at z; cases z⟩
  keep := fun i h h' st k => by
    obtain ⟨⟨old, he⟩, st⟩ := st
    exact ⟨⟨old, k e (by simp) _ he⟩, st.at fun o e => k it (by simp) o e⟩
  item := by
    intro X hP hw hK hc i pins s σ H E I hf st hg
    subst hP hw hK
    obtain ⟨⟨old, he⟩, st⟩ := st
    obtain ⟨xs, x, hq, hx⟩ := hg
    obtain ⟨its, rv, p, hz⟩ := I.list hq
    obtain ⟨u, hu, ru⟩ := rv.get hx
    have fe := hf e (by simp)
    have fi := hf it (by simp)
    refine wpAny_pyNext_enum_item he st p.isList (x := u) (by simpa using hu) hei fun h1 heo hit1 ht1 hz1 hk1 => ?_
    refine ⟨.ref s.heap.objs.size, rfl, wpAny_letOwnedTupleGo_enum heo fun h2 he2 hs2 => ?_⟩
    replace hs2 : Heap.SameBut e h1 h2 := hs2
    have elt : e < s.heap.objs.size := Heap.lt_size he
    have hfr : H s.heap.objs.size = none := I.hok.fresh (Nat.le_refl _)
    have ht2 : h2.get? s.heap.objs.size = some { cls := .type "tuple", data := .seq #[.int i s.toks, u] } := (hs2.2 _ (Nat.ne_of_gt elt)).trans ht1
    have kk : ∀ b o, b ∉ [e, it] → s.heap.get? b = some o → h2.get? b = some o := fun b o hc q => by
      have n1 : b ≠ e := fun z => hc (by simp [z])
      have n2 : b ≠ it := fun z => hc (by simp [z])
      exact (hs2.2 b n1).trans (hk1 b o n1 n2 q)
    have nb : ∀ c v, H c = some v → c ∉ [e, it] := fun c v z hm => by
      rcases List.mem_cons.mp hm with z' | z'
      · rw [z', fe.1] at z; cases z
      · have e2 : c = it := by simpa using z'
        rw [e2, fi.1] at z; cases z
    have I2 : Inv X pins σ (upd H s.heap.objs.size (.tup [.int i, x])) { s with heap := h2, toks := s.toks + 1 } := by
      refine I.step (g' := s.gens) (d' := s.drawn) (ch := [e, it]) (fun b hb => ?_) (fun b o _ _ hc q _ => kk b o hc q) (fun b o _ _ hc q _ => ⟨o.slots, kk b o hc q⟩) (fun b o _ q n => by rw [upd_ne (Nat.ne_of_lt (Heap.lt_size q))]; exact n) (fun b o hc q => ⟨o, kk b o hc q⟩)
        (fun b xs q => by rw [upd_ne (ne_of_none q hfr)]; exact q) (fun b o u q => by rw [upd_ne (ne_of_none q hfr)]; exact q) (fun b ps q => ⟨#[], by rw [upd_ne (ne_of_none q hfr), q]; simp⟩) (fun m hm => ?_) (fun b v q => ?_) I.bare
      · rcases List.mem_cons.mp hb with z | hb
        · rw [z]; exact ⟨fe.2.2.2.1, fe.2.1, fe.2.2.2.2.1, fe.2.2.2.2.2⟩
        · have e2 : b = it := by simpa using hb
          rw [e2]; exact ⟨fi.2.2.2.1, fi.2.1, fi.2.2.2.2.1, fi.2.2.2.2.2⟩
      · obtain ⟨o, es, ep, ho, r⟩ := hm
        exact ⟨o, es, ep, kk _ o (by simp [Ne.symm fe.2.1, Ne.symm fi.2.1]) ho, r⟩
      · by_cases hb : b = s.heap.objs.size
        · subst hb
          rw [upd_same] at q
          cases q
          exact ⟨by show 2 ≤ sizeLine; decide, [.int i s.toks, u], .cons ⟨_, rfl⟩ (.cons ru .nil), _, ht2, rfl, _, rfl⟩
        · rw [upd_ne hb] at q
          refine (I.hok b v q).stay (fun c o hc q' => kk c o ?_ q') (fun c z => by rw [upd_ne (ne_of_none z hfr)]; exact z) fun c xs z => by rw [upd_ne (ne_of_none z hfr)]; exact z
          rcases hc with z | z
          · rw [z]; exact nb b v q
          · exact nb c _ z
    refine ⟨.ref s.heap.objs.size, _, I2, rfl, ⟨s.heap.objs.size, x, hfr, rfl, fun ys hy => by rw [I.list_inj hy hq]; exact hx, rfl⟩, ⟨⟨_, by simpa using he2⟩, hit1.extBut hs2.extBut (Ne.symm hei)⟩, fun b hb => ?_⟩
    have hlt : b < s.heap.objs.size := by
      rcases List.mem_cons.mp hb with rfl | hb
      · exact elt
      · have e2 : b = it := by simpa using hb
        subst e2
        obtain ⟨o, e1, _⟩ := st
        exact Heap.lt_size e1
    rw [upd_ne (Nat.ne_of_lt hlt)]
    exact (hf b hb).1
  done := by
    intro X hP hw hK hc i pins s σ H E I hf st hg
    subst hP hw hK
    obtain ⟨⟨old, he⟩, st⟩ := st
    obtain ⟨xs, hq, hx⟩ := hg
    obtain ⟨its, rv, p, hz⟩ := I.list hq
    obtain ⟨f0, f1, f2, f3, f4, f5⟩ := hf it (by simp)
    have hl := rv.length
    exact wpAny_pyNext_enum_end (I.ok.hd hc) he st p.isList (by simp; omega) fun h' eb => ⟨rfl, I.turned (t' := s.toks) (fun b o hb e => eb b o hb e) f0 f1 f3 f4 f5⟩
  self := fun _ _ _ _ _ st h => by
    obtain ⟨⟨old, he⟩, _⟩ := st
    exact wpAny_pyIter_enum he h
end L2

set_option Elab.async false
set_option linter.all false
set_option maxRecDepth 100000
set_option maxHeartbeats 4000000
namespace L2
open PySem PySem.Spec PyProof.Rows
section
variable {X : Cx} {pins : List (Addr × Obj)} {σ : St} {H : Hp} {s : Shared}
/-- records at ch turn, nothing else -/
theorem Inv.turnedL {ch : List Addr} {h2 : Heap} {tk : Nat} (I : Inv X pins σ H s) (hf : ∀ b ∈ ch, FpOk X pins H b) (kk : ∀ b o, b ∉ ch → s.heap.get? b = some o → h2.get? b = some o) : Inv X pins σ H { s with heap := h2, toks := tk } := by
  have nb : ∀ c v, H c = some v → c ∉ ch := fun c v z hm => by rw [(hf c hm).1] at z; cases z
  refine I.step (g' := s.gens) (d' := s.drawn) (ch := ch) (fun b hb => ⟨(hf b hb).2.2.2.1, (hf b hb).2.1, (hf b hb).2.2.2.2.1, (hf b hb).2.2.2.2.2⟩) (fun b o _ _ hc q _ => kk b o hc q) (fun b o _ _ hc q _ => ⟨o.slots, kk b o hc q⟩)
    (fun b o _ q n => n) (fun b o hc q => ⟨o, kk b o hc q⟩) (fun b xs q => q) (fun b o u q => q) (fun b ps q => ⟨#[], by rw [q]; simp⟩) (fun m hm => ?_) (fun b v q => ?_) I.bare
  · obtain ⟨o, es, ep, ho, r⟩ := hm
    exact ⟨o, es, ep, kk _ o (fun z => (hf _ z).2.1 rfl) ho, r⟩
  · refine (I.hok b v q).stay (fun c o hc q' => kk c o ?_ q') (fun c z => z) fun c xs z => z
    rcases hc with z | z
    · rw [z]; exact nb b v q
    · exact nb c _ z
end
/-! ### zip(list, list) -/
def Itz (K : PySem.W.Frag) (a b : Addr) : It :=
  ⟨fun i H => ∃ xs ys x y, SqL K H a xs ∧ SqL K H b ys ∧ xs[i]? = some x ∧ ys[i]? = some y, fun i H z H' => ∃ p x y, H p = none ∧ z = .ref p ∧ (∀ xs, SqL K H a xs → xs[i]? = some x) ∧ (∀ ys, SqL K H b ys → ys[i]? = some y) ∧ H' = upd H p (.tup [x, y]),
    fun i H => ∃ xs ys, SqL K H a xs ∧ SqL K H b ys ∧ (xs.length ≤ i ∨ ys.length ≤ i)⟩
theorem boot_enumT : bootBuiltins "enumerate" = some (.type "enumerate") := by decide +kernel
section
variable {X : Cx} {es : List Expr} {kt : Nat} {tp : Pos}
def iEnum (K : PySem.W.Frag) (ta : TA) : TI := fun σ H R => ta σ H fun vs H1 => ∃ a, vs = [.ref a] ∧ (∃ xs, SqL K H1 a xs) ∧ R (Ite K a) H1
theorem pi_enum {e : Expr} {ta : TA} {p pos : Pos} (hg : Gl X "enumerate") (hm : X.mg "enumerate" = none) (ha : PA X [e] ta) (hs : starEach [e] X.env = [(false, eval e X.env)] := by rfl) :
    PI X (.Tuple es kt tp) (.Call (.Name "enumerate" p) [e] [] pos) (iEnum X.K ta) := by
  intro pins s σ H R I h
  refine Call_ (ld_blt I hg hm (boot_enumT) (PyProof.Rows.callWith_type1 (thn (ha pos pins s σ H _ I h) fun us s1 ⟨vs, H1, I1, r1, q1⟩ => ?_) hs rfl))
  obtain ⟨a, e, ⟨xs, hq⟩, q⟩ := q1
  subst e
  obtain ⟨u, rfl, ru⟩ := vals1 r1
  cases ru
  obtain ⟨its, rv, pl, hz⟩ := I1.list hq
  refine call_enumerate_list pl.isList fun h' he hit hsz hk => wpAny_pyIter_enum he ?_
  have I2 : Inv X pins σ H1 { s1 with heap := h' } := I1.kept (t' := s1.toks) hk
  refine ⟨s1.heap.objs.size + 1, [s1.heap.objs.size + 1, s1.heap.objs.size], _, _, H1, rfl, I2, turn_enum a _ _ (Nat.succ_ne_self _), ⟨⟨_, he⟩, hit⟩, fun b hb => ?_, q⟩
  have hb' : s1.heap.objs.size ≤ b := by
    simp only [List.mem_cons, List.not_mem_nil, or_false] at hb
    rcases hb with rfl | rfl
    · exact Nat.le_succ _
    · exact Nat.le_refl _
  exact I1.fpOk hb' (I1.hok.fresh hb')
def iZip (K : PySem.W.Frag) (ta : TA) : TI := fun σ H R => ta σ H fun vs H1 => ∃ a b, vs = [.ref a, .ref b] ∧ (∃ xs, SqL K H1 a xs) ∧ (∃ ys, SqL K H1 b ys) ∧ R (Itz K a b) H1
end
/-- over enumerate(list), the list left as it is -/
theorem for_enum {K : PySem.W.Frag} {a : Addr} {xs : List V} {g : TG} {tb : TS} {D : Ends} {σ : St} {H : Hp} (Pv : Nat → St → Hp → Prop) (h0 : Pv 0 σ H) (hl : ∀ i σ H, i ≤ xs.length → Pv i σ H → SqL K H a xs)
    (hs : ∀ i x p σ H, xs[i]? = some x → H p = none → Pv i σ H → g (.ref p) σ (upd H p (.tup [.int i, x])) fun σ2 H2 => tb { D with nx := Pv (i + 1), ct := Pv (i + 1), bk := D.nx } σ2 H2) (hd : ∀ σ H, Pv xs.length σ H → D.nx σ H) :
    ∃ W : Nat → Nat → St → Hp → Prop, (∃ m, W 0 m σ H) ∧ ∀ i m σ H, W i m σ H →
      ((Ite K a).stop i H ∧ D.nx σ H) ∨ ((Ite K a).go i H ∧ ∃ N : St → Hp → Prop, (∀ σ' H', N σ' H' → ∃ m', m' < m ∧ W (i + 1) m' σ' H') ∧ ∀ x H', (Ite K a).yld i H x H' → g x σ H' fun σ2 H2 => tb { D with nx := N, ct := N, bk := D.nx } σ2 H2) := by
  refine ⟨fun i m σ H => m = xs.length - i ∧ i ≤ xs.length ∧ Pv i σ H, ⟨xs.length, by simp, Nat.zero_le _, h0⟩, ?_⟩
  rintro i m σ H ⟨rfl, hi, p⟩
  have q := hl i σ H hi p
  by_cases hlt : i < xs.length
  · refine .inr ⟨⟨xs, xs[i], q, by simp [hlt]⟩, Pv (i + 1), fun σ' H' p' => ⟨xs.length - (i + 1), by omega, rfl, hlt, p'⟩, fun x H' y => ?_⟩
    obtain ⟨pp, x', hp, rfl, y, rfl⟩ := y
    exact hs i x' pp σ _ (y xs q) hp p
  · have e : i = xs.length := by omega
    subst e
    exact .inl ⟨⟨xs, q, Nat.le_refl _⟩, hd σ H p⟩
end L2

set_option Elab.async false
set_option linter.all false
set_option maxRecDepth 100000
set_option maxHeartbeats 4000000
namespace L2
open PySem PySem.Spec PyProof.Rows
/-! ### range objects, list(range) -/
def RngO (p : Addr) (a b c : Int) : HO := .ext fun h => ∃ t u v, h.get? p = some { cls := .type "range", data := .fields #[.int a t, .int b u, .int c v] }
theorem rng_ok {P : Program} {w : World} {H : Hp} {h : Heap} {p : Addr} {a b c : Int} {t u v : Tok} (e : h.get? p = some { cls := .type "range", data := .fields #[.int a t, .int b u, .int c v] }) : ObjOk P w H h p (RngO p a b c) :=
  ⟨⟨t, u, v, e⟩, ⟨_, e⟩, fun h1 h2 ⟨t, u, v, q⟩ k => ⟨t, u, v, k _ q⟩⟩
def rngL (a c : Int) (n : Nat) : List Int := (List.range n).map fun (i : Nat) => a + (i : Int) * c
theorem rngL_length (a c : Int) (n : Nat) : (rngL a c n).length = n := by simp [rngL]
theorem items_vals {a c : Int} : ∀ {n : Nat} {acc : Array Value}, ItemsOf (fun (i : Nat) (v : Value) => ∃ t, v = Value.int (a + (i : Int) * c) t) acc n → Vals ((rngL a c n).map V.int) acc.toList := by
  intro n acc ⟨hs, hi⟩
  have key : ∀ (k : Nat) (l : List Value), l.length = k → (∀ (j : Nat) v, l[j]? = some v → ∃ t, v = Value.int (a + (j : Int) * c) t) → Vals ((rngL a c k).map V.int) l := by
    intro k
    induction k with
    | zero => intro l hl _; cases l with
      | nil => exact .nil
      | cons => simp at hl
    | succ k ih =>
      intro l hl hv
      obtain ⟨l', x, rfl⟩ : ∃ l' x, l = l' ++ [x] := ⟨l.dropLast, l.getLast (by intro e; rw [e] at hl; simp at hl), (List.dropLast_concat_getLast _).symm⟩
      have hl' : l'.length = k := by simpa using hl
      have e : (rngL a c (k + 1)).map V.int = (rngL a c k).map V.int ++ [.int (a + (k : Int) * c)] := by simp [rngL, List.range_succ]
      rw [e]
      refine (ih l' hl' fun j v hj => hv j v ?_).append (.cons ?_ .nil)
      · rw [List.getElem?_append_left (List.getElem?_eq_some_iff.mp hj).1]; exact hj
      · obtain ⟨t, rfl⟩ := hv k x (by rw [List.getElem?_append_right (by omega), hl']; simp)
        exact ⟨t, rfl⟩
  exact key n acc.toList (by simpa using hs) fun j v hj => hi j v (by simpa using hj)
section
variable {X : Cx}
theorem call_range1 : CallR X (.type "range") (fun xs H Q => ∃ b : Int, xs = [.int b] ∧ ∀ p, H p = none → Q (.ref p) (upd H p (RngO p 0 b 1))) := by
  intro pins s σ H xs us Q I r h
  obtain ⟨b, rfl, q⟩ := h
  obtain ⟨u, rfl, t, rfl⟩ := vals1 r
  refine call_range_1 ⟨.ref s.heap.objs.size, _, I.laid (fun b o e => Heap.get?_push_of_some _ e) (Nat.le_refl _) ?_, rfl, q _ (I.hok.fresh (Nat.le_refl _))⟩
  exact rng_ok (Heap.get?_push_size _ rfl)
theorem call_list_rng (hc : X.calm = true) : CallR X (.type "list") (fun xs H Q => ∃ p a b c n, xs = [.ref p] ∧ H p = some (RngO p a b c) ∧ Builtin.Range.small a b c = true ∧ Builtin.Range.rangeSize a b c = ((n : Nat) : Int) ∧ n ≤ 100000 ∧ ∀ l, H l = none → Q (.ref l) (upd H l (.lst ((rngL a c n).map V.int)))) := by
  intro pins s σ H xs us Q I r h
  obtain ⟨p, a, b, c, n, rfl, hp, hs, hn, hz, q⟩ := h
  obtain ⟨u, rfl, rx⟩ := vals1 r
  cases rx
  obtain ⟨⟨t, u, v, e⟩, _⟩ := (show ObjOk X.prog X.w H s.heap p (RngO p a b c) from I.hok _ _ hp)
  refine call_list_range (I.ok.hd hc) e hs hn (Nat.le_trans hz (by decide)) fun h' tk acc c' hk he hi => ?_
  refine ⟨.ref s.heap.objs.size, _, I.laid hk (Nat.le_refl _) (show ObjOk X.prog X.w _ h' _ (.lst ((rngL a c n).map V.int)) from ⟨?_, acc.toList, c', items_vals hi, by simpa using he⟩), rfl, q _ (I.hok.fresh (Nat.le_refl _))⟩
  rw [List.length_map, rngL_length]
  exact Nat.le_trans hz (by decide)
/-! ### list.insert -/
theorem fits_of {i : Int} (h0 : 0 ≤ i) (h1 : i < 2 ^ 62) : ¬(!Builtin.List.listFitsIndex i) = true := by
  unfold Builtin.List.listFitsIndex
  simp
  omega
def rInsert : V → List V → Hp → VK → Prop := fun x vs H Q => ∃ l xs i y, x = .ref l ∧ vs = [.int i, y] ∧ H l = some (.lst xs) ∧ 0 ≤ i ∧ i ≤ xs.length ∧ xs.length < sizeLine ∧ Q .non (upd H l (.lst (xs.take i.toNat ++ y :: xs.drop i.toNat)))
theorem Vals.insert {xs : List V} {us : List Value} {y : V} {u : Value} (r : Vals xs us) (ry : RelV y u) (k : Nat) : Vals (xs.take k ++ y :: xs.drop k) (us.take k ++ u :: us.drop k) := (r.take k).append (.cons ry (r.drop k))
theorem mt_insert : MtM X "list.insert" rInsert := by
  intro pins s σ H x vs v us Q I rx rv h
  obtain ⟨l, xs, i, y, rfl, rfl, hH, h0, h1, hz, q⟩ := h
  cases rx
  obtain ⟨u, w, rfl, ⟨t, rfl⟩, rw'⟩ := rv.two
  obtain ⟨z, its, n, r, hl, e⟩ := I.lstM hH
  have l63 := line63
  have hb : i < 2 ^ 62 := by
    have : sizeLine < 2 ^ 62 := by rw [sizeLine_eq]; decide
    omega
  refine call_meets F.slot_list_insert ⟨_, e, rfl⟩ F.entry_list_insert (F.args_list_insert_3 _ _ _) (PySem.AutoSeq1.list_insert_list_int_val_1 l its.toArray n i t w (fits_of h0 hb) (by rw [List.size_toArray]; omega)) ⟨e, ?_⟩
  refine ⟨.non, _, I.lset (its' := its.take i.toNat ++ w :: its.drop i.toNat) hH e ?_ (r.insert rw' i.toNat) ?_, rfl, q⟩
  · dsimp only
    rw [if_neg (by omega)]
    have hm : min i.toNat its.toArray.size = i.toNat := by rw [List.size_toArray]; omega
    rw [hm]
    apply Array.ext'
    simp
    first | done | omega | (rw [List.take_of_length_le (by simp)])
  · rw [List.length_append, List.length_cons, List.length_take, List.length_drop]; omega
/-! ### sorted of ints -/
/-! ### == of lists with flat items -/
def eqVs : List V → List V → Bool
  | [], [] => true
  | x :: xs, y :: ys => eqV x y && eqVs xs ys
  | _, _ => false
theorem eqVs_all : ∀ {xs ys : List V}, xs.length = ys.length → eqVs xs ys = (List.range xs.length).all fun j => eqV (xs.getD j .non) (ys.getD j .non)
  | [], [], _ => rfl
  | x :: xs, y :: ys, h => by
    have h' : xs.length = ys.length := by simpa using h
    show (eqV x y && eqVs xs ys) = _
    rw [eqVs_all h', List.length_cons, List.range_succ_eq_map, List.all_cons, List.all_map]
    rfl
  | [], _ :: _, h => by simp at h
  | _ :: _, [], h => by simp at h
theorem eqL_items {A : Around} {s : Shared} {xs ys : List V} {us ws : List Value} (r1 : Vals xs us) (r2 : Vals ys ws) (f1 : xs.all flatV = true) (f2 : ys.all flatV = true) (j : Nat) (h1 : j < us.toArray.size) (h2 : j < ws.toArray.size) :
    SeqAt.EqAt A s us.toArray[j] ws.toArray[j] (eqV (xs.getD j .non) (ys.getD j .non)) := by
  have l1 := r1.length
  have l2 := r2.length
  rw [List.size_toArray] at h1 h2
  have e1 : xs[j]? = some (xs.getD j .non) := by rw [List.getD_eq_getElem?_getD, List.getElem?_eq_getElem (by omega)]; rfl
  have e2 : ys[j]? = some (ys.getD j .non) := by rw [List.getD_eq_getElem?_getD, List.getElem?_eq_getElem (by omega)]; rfl
  obtain ⟨u, hu, ru⟩ := r1.get e1
  obtain ⟨v, hv, rv⟩ := r2.get e2
  have hu' : us.toArray[j] = u := by
    have := (List.getElem?_eq_some_iff.mp hu).2
    simpa using this
  have hv' : ws.toArray[j] = v := by
    have := (List.getElem?_eq_some_iff.mp hv).2
    simpa using this
  rw [hu', hv']
  exact eqAt_V ru rv (List.all_eq_true.mp f1 _ (List.mem_of_getElem? e1)) (List.all_eq_true.mp f2 _ (List.mem_of_getElem? e2))
end
end L2

set_option Elab.async false
set_option linter.all false
set_option maxRecDepth 100000
set_option maxHeartbeats 4000000
namespace L2
open PySem PySem.Spec PyProof.Rows
section
variable {X : Cx}
/-! ### == and != of lists of ints -/
def rEqI (K : PySem.W.Frag) (f : Bool → Bool) : R2 := fun x y H Q => ∃ p q ns ms, x = .ref p ∧ y = .ref q ∧ SqL K H p (List.map V.int ns) ∧ SqL K H q (List.map V.int ms) ∧ Q (.bl (f (decide (ns = ms)))) H
theorem op_eqI (hu : X.A.units + 64 < cLine) : OpR X (compareOp .Eq) (rEqI X.K id) := by
  intro pins s σ H x y v u Q I rx ry h
  obtain ⟨p, q, ns, ms, rfl, rfl, h1, h2, k⟩ := h
  cases rx
  cases ry
  obtain ⟨us, r1, p1, z1⟩ := I.list h1
  obtain ⟨ws, r2, p2, z2⟩ := I.list h2
  exact PySem.W.ke_eq_ints p1.isList p2.isList (intsAre_of r1) (intsAre_of r2) hu ⟨.bl _, H, I, rfl, k⟩
theorem op_neI (hu : X.A.units + 64 < cLine) : OpR X (compareOp .NotEq) (rEqI X.K not) := by
  intro pins s σ H x y v u Q I rx ry h
  obtain ⟨p, q, ns, ms, rfl, rfl, h1, h2, k⟩ := h
  cases rx
  cases ry
  obtain ⟨us, r1, p1, z1⟩ := I.list h1
  obtain ⟨ws, r2, p2, z2⟩ := I.list h2
  exact PySem.W.ke_ne_ints p1.isList p2.isList (intsAre_of r1) (intsAre_of r2) hu ⟨.bl _, H, I, rfl, k⟩
/-! ### isinstance against built-in classes -/
/-! ### a comprehension, by its turns -/
theorem comp_range {lo : Int} {n : Nat} {g : TG} {tt : TT} {te : TE} {Q : VK} {τ : St} {H1 : Hp} {D : Addr} (Pv : Nat → St → Hp → Prop) (h0 : Pv 0 τ (upd H1 D (.lst [])))
    (hs : ∀ i τ H, i < n → Pv i τ H → g (.int (lo + i)) τ H fun τ2 H3 => tt τ2 H3 fun b H4 => if b = true then te τ2 H4 fun v H5 => ∃ ys, H5 D = some (.lst ys) ∧ ys.length < sizeLine ∧ Pv (i + 1) τ2 (upd H5 D (.lst (ys ++ [v]))) else Pv (i + 1) τ2 H4)
    (hd : ∀ τ H, Pv n τ H → Q (.ref D) H) :
    ∃ W : Nat → Nat → St → Hp → Prop, (∃ m, W 0 m τ (upd H1 D (.lst []))) ∧ ∀ i m τ H2, W i m τ H2 →
      ((Itr lo n).stop i H2 ∧ Q (.ref D) H2) ∨ ((Itr lo n).go i H2 ∧ ∃ N : St → Hp → Prop, (∀ τ' H', N τ' H' → ∃ m', m' < m ∧ W (i + 1) m' τ' H') ∧ ∀ x H', (Itr lo n).yld i H2 x H' → g x τ H' fun τ2 H3 => tt τ2 H3 fun b H4 =>
        if b = true then te τ2 H4 fun v H5 => ∃ ys, H5 D = some (.lst ys) ∧ ys.length < sizeLine ∧ N τ2 (upd H5 D (.lst (ys ++ [v]))) else N τ2 H4) := by
  refine ⟨fun i m τ H => m = n - i ∧ i ≤ n ∧ Pv i τ H, ⟨n, by simp, Nat.zero_le _, h0⟩, ?_⟩
  rintro i m τ H ⟨rfl, hi, p⟩
  by_cases hlt : i < n
  · refine .inr ⟨hlt, Pv (i + 1), fun σ' H' p' => ⟨n - (i + 1), by omega, rfl, hlt, p'⟩, fun x H' y => ?_⟩
    obtain ⟨e, y⟩ := y
    subst e y
    exact hs i τ _ hlt p
  · have e : i = n := by omega
    subst e
    exact .inl ⟨Nat.le_refl _, hd τ H p⟩
theorem comp_list {K : PySem.W.Frag} {a : Addr} {xs : List V} {g : TG} {tt : TT} {te : TE} {Q : VK} {τ : St} {H1 : Hp} {D : Addr} (Pv : Nat → St → Hp → Prop) (h0 : Pv 0 τ (upd H1 D (.lst []))) (hl : ∀ i τ H, i ≤ xs.length → Pv i τ H → SqL K H a xs)
    (hs : ∀ i x τ H, xs[i]? = some x → Pv i τ H → g x τ H fun τ2 H3 => tt τ2 H3 fun b H4 => if b = true then te τ2 H4 fun v H5 => ∃ ys, H5 D = some (.lst ys) ∧ ys.length < sizeLine ∧ Pv (i + 1) τ2 (upd H5 D (.lst (ys ++ [v]))) else Pv (i + 1) τ2 H4)
    (hd : ∀ τ H, Pv xs.length τ H → Q (.ref D) H) :
    ∃ W : Nat → Nat → St → Hp → Prop, (∃ m, W 0 m τ (upd H1 D (.lst []))) ∧ ∀ i m τ H2, W i m τ H2 →
      ((Itl K a).stop i H2 ∧ Q (.ref D) H2) ∨ ((Itl K a).go i H2 ∧ ∃ N : St → Hp → Prop, (∀ τ' H', N τ' H' → ∃ m', m' < m ∧ W (i + 1) m' τ' H') ∧ ∀ x H', (Itl K a).yld i H2 x H' → g x τ H' fun τ2 H3 => tt τ2 H3 fun b H4 =>
        if b = true then te τ2 H4 fun v H5 => ∃ ys, H5 D = some (.lst ys) ∧ ys.length < sizeLine ∧ N τ2 (upd H5 D (.lst (ys ++ [v]))) else N τ2 H4) := by
  refine ⟨fun i m τ H => m = xs.length - i ∧ i ≤ xs.length ∧ Pv i τ H, ⟨xs.length, by simp, Nat.zero_le _, h0⟩, ?_⟩
  rintro i m τ H ⟨rfl, hi, p⟩
  have q := hl i τ H hi p
  by_cases hlt : i < xs.length
  · refine .inr ⟨⟨xs, xs[i], q, by simp [hlt]⟩, Pv (i + 1), fun σ' H' p' => ⟨xs.length - (i + 1), by omega, rfl, hlt, p'⟩, fun x H' y => ?_⟩
    obtain ⟨e, y⟩ := y
    subst e
    exact hs i x τ _ (y xs q) p
  · have e : i = xs.length := by omega
    subst e
    exact .inl ⟨⟨xs, q, Nat.le_refl _⟩, hd τ H p⟩
end
end L2

set_option Elab.async false
set_option linter.all false
set_option maxRecDepth 100000
set_option maxHeartbeats 4000000
namespace L2
open PySem PySem.Spec PyProof.Rows
/-! ### defs of the text in one bundle -/
def At (K : PySem.W.Frag) (mg : Str → Option Value) (x : Str) (st : Stmt) : Prop := ∃ f fd, Fun K x x st f fd ∧ mg x = some (.ref f)
def Df (P : Program) (w : World) (K : PySem.W.Frag) (mg : Str → Option Value) (base : Heap) (x : Str) (ps : List Str) (k : Nat) (sp : Sp) : Prop :=
  ∃ f fd, FnOk P w K mg base CX0 k f fd ps sp ∧ Binds K fd ps [] ∧ PySem.W.keepIn K (.ref f) = true ∧ mg x = some (.ref f) ∧ ∃ oc od osl, K.lookup f = some ⟨oc, od, .func fd, osl⟩
theorem Df.mono {P : Program} {w : World} {K : PySem.W.Frag} {mg : Str → Option Value} {base : Heap} {x : Str} {ps : List Str} {j k : Nat} {sp : Sp} (D : Df P w K mg base x ps j sp) (h : j ≤ k) : Df P w K mg base x ps k sp :=
  let ⟨f, fd, F, r⟩ := D
  ⟨f, fd, F.mono h, r⟩
section
variable {X : Cx} {k : Nat} {x : Str} {ps : List Str} {sp : Sp} {p pos : Pos} {e : Expr} {es : List Expr} {t : TA}
theorem pe_cd (D : Df X.prog X.w X.K X.mg X.base x ps k sp) (hr : Room k X.A) (hg : Gl X x) (ha : PA X (e :: es) t) (hdb : (x == ("__debug__" : Str)) = false := by decide)
    (he : starEach (e :: es) X.env = (false, eval e X.env) :: starEach es X.env := by rfl) (hpl : (backTo pos (starEach es X.env)).any (·.1) = false := by rfl) : PE X (.Call (.Name x p) (e :: es) [] pos) (tCall sp [] E0 t) := by
  obtain ⟨f, fd, F, b, kp, m, _⟩ := D
  exact pe_call F hr hg m kp b .nil pass0 ha hdb he hpl
end
/-- a def of the text, by its body: its scope, how its arguments bind, its promise, its body's term and reading -/
theorem df_of {P : Program} {w : World} {K : PySem.W.Frag} {mg : Str → Option Value} {base : Heap} {x : Str} {st : Stmt} {N ps : List Str} {k : Nat} {sp : Sp} (a : At K mg x st) (S : FnScope N ps (defScope st))
    (hb : ∀ (kV doc pm : Value) (an : Option Addr) (cdv ct : Value) (us : List Value), us.length = ps.length → bindArgs (PySem.W.fnOf x x (defArgs st) (defBody st) (defScope st) .none kV doc pm an cdv ct) ⟨us, []⟩ = pure (ps.zip us))
    (len : ∀ vs H Q E, sp vs H Q E → vs.length = ps.length)
    (hbody : ∀ (f : Addr) (cdv : Value) (A : Around) (outer : List Env) (s : Shared) (H : Hp) (vs : List V) (Q : VK) (E : XK), Room k (A.deeper (envOfC x (defScope st) s.heap.objs.size f cdv)) → sp vs H Q E →
      ∃ t, PSs (cxOf CX0 P w K mg base N x (defScope st) f cdv A outer s H E).nox (defBody st) t ∧ t { nx := fun _ H' => Q .non H', rt := Q } (start N vs) H) : Df P w K mg base x ps (k + 1) sp := by
  obtain ⟨f, fd, F, m⟩ := a
  obtain ⟨oc, od, kV, doc, pm, an, cdv, ct, osl, _, lk, _⟩ := id F.ex
  exact ⟨f, fd, F.ok S len fun cdv A outer s H vs Q E => hbody f cdv A outer s H vs Q E, F.binds hb, F.kp, m, oc, od, osl, lk⟩
theorem at_mk {K : PySem.W.Frag} {mg : Str → Option Value} {h : Heap} {x : Str} {st : Stmt} {f : Addr} {oc : Value} {od an : Option Addr} {osl : Array (Option Value)} {kV doc pm cdv ct : Value} (X : K.In h) (G : h.Ns mainGlobals mg) (a : PySem.W.nsIn K mainGlobals x = some (some (.ref f)))
    (l : K.lookup f = some ⟨oc, od, .func (PySem.W.fnOf x x (defArgs st) (defBody st) (defScope st) .none kV doc pm an cdv ct), osl⟩) (c : PySem.W.codeIn K cdv x = true) (k : PySem.W.keepIn K (.ref f) = true) : At K mg x st := ⟨f, _, fun_mk l c k, PySem.W.mg_of X G a⟩
/-- the same def, by its object -/
theorem Df.fn {P : Program} {w : World} {K : PySem.W.Frag} {mg : Str → Option Value} {base : Heap} {x : Str} {ps : List Str} {k : Nat} {sp : Sp} {f : Addr} {fd : FuncData} {oc : Value} {od : Option Addr} {osl : Array (Option Value)} (D : Df P w K mg base x ps k sp) (m : mg x = some (.ref f)) (l : K.lookup f = some ⟨oc, od, .func fd, osl⟩) : FnOk P w K mg base CX0 k f fd ps sp := by
  obtain ⟨f', fd', F, _, _, m', oc', od', osl', l'⟩ := D
  rw [m] at m'
  cases m'
  rw [l] at l'
  cases l'
  exact F
/-- names of Python's own that no def of the text hides -/
structure Blt (mg : Str → Option Value) : Prop where
  len : mg "len" = none
  range : mg "range" = none
  list : mg "list" = none
  tuple : mg "tuple" = none
  int : mg "int" = none
  bool : mg "bool" = none
  str : mg "str" = none
  abs : mg "abs" = none
  divmod : mg "divmod" = none
  enumerate : mg "enumerate" = none
  zip : mg "zip" = none
  sorted : mg "sorted" = none
  max : mg "max" = none
  min : mg "min" = none
  isinstance : mg "isinstance" = none
  all : mg "all" = none
theorem blt_mk {K : PySem.W.Frag} {mg : Str → Option Value} {h : Heap} (X : K.In h) (G : h.Ns mainGlobals mg) (z1 : PySem.W.nsIn K mainGlobals "len" = some none) (z2 : PySem.W.nsIn K mainGlobals "range" = some none) (z3 : PySem.W.nsIn K mainGlobals "list" = some none) (z4 : PySem.W.nsIn K mainGlobals "tuple" = some none) (z5 : PySem.W.nsIn K mainGlobals "int" = some none) (z6 : PySem.W.nsIn K mainGlobals "bool" = some none) (z7 : PySem.W.nsIn K mainGlobals "str" = some none) (z8 : PySem.W.nsIn K mainGlobals "abs" = some none)
    (z9 : PySem.W.nsIn K mainGlobals "divmod" = some none) (z10 : PySem.W.nsIn K mainGlobals "enumerate" = some none) (z11 : PySem.W.nsIn K mainGlobals "zip" = some none) (z12 : PySem.W.nsIn K mainGlobals "sorted" = some none) (z13 : PySem.W.nsIn K mainGlobals "max" = some none) (z14 : PySem.W.nsIn K mainGlobals "min" = some none) (z15 : PySem.W.nsIn K mainGlobals "isinstance" = some none) (z16 : PySem.W.nsIn K mainGlobals "all" = some none) : Blt mg :=
  ⟨PySem.W.mg_none_of X G z1, PySem.W.mg_none_of X G z2, PySem.W.mg_none_of X G z3, PySem.W.mg_none_of X G z4, PySem.W.mg_none_of X G z5, PySem.W.mg_none_of X G z6, PySem.W.mg_none_of X G z7, PySem.W.mg_none_of X G z8, PySem.W.mg_none_of X G z9, PySem.W.mg_none_of X G z10, PySem.W.mg_none_of X G z11, PySem.W.mg_none_of X G z12, PySem.W.mg_none_of X G z13, PySem.W.mg_none_of X G z14, PySem.W.mg_none_of X G z15, PySem.W.mg_none_of X G z16⟩
theorem bt_abs : bootBuiltins "abs" = some (.builtin "abs") := by decide +kernel
theorem bt_divmod : bootBuiltins "divmod" = some (.builtin "divmod") := by decide +kernel
theorem bt_max : bootBuiltins "max" = some (.builtin "max") := by decide +kernel
theorem bt_len : bootBuiltins "len" = some (.builtin "len") := by decide +kernel
theorem bt_list : bootBuiltins "list" = some (.type "list") := by decide +kernel
theorem bt_int : bootBuiltins "int" = some (.type "int") := by decide +kernel
theorem bt_range : bootBuiltins "range" = some (.type "range") := by decide +kernel
/-! ### heaps -/
/-- what was tracked is as it was, but for the things at bs -/
def Kp (bs : List Addr) (H H' : Hp) : Prop := ∀ c o, c ∉ bs → H c = some o → H' c = some o
theorem Kp.refl {bs : List Addr} {H : Hp} : Kp bs H H := fun _ _ _ h => h
theorem Kp.trans {bs : List Addr} {H H1 H2 : Hp} (a : Kp bs H H1) (b : Kp bs H1 H2) : Kp bs H H2 := fun c o n h => b c o n (a c o n h)
theorem Kp.new {bs : List Addr} {H : Hp} {p : Addr} (o : HO) (h : H p = none) : Kp bs H (upd H p o) := fun c u _ q => by rw [upd_ne (ne_of_none q h)]; exact q
theorem Kp.set {bs : List Addr} {H : Hp} {p : Addr} (o : HO) (h : p ∈ bs) : Kp bs H (upd H p o) := fun c u n q => by have hne : c ≠ p := (fun e => n (by rw [e]; exact h)); rw [upd_ne hne]; exact q
theorem Kp.mono {bs bs' : List Addr} {H H' : Hp} (a : Kp bs H H') (h : ∀ b ∈ bs, b ∈ bs') : Kp bs' H H' := fun c o n q => a c o (fun z => n (h c z)) q
theorem Kp.free {H H' : Hp} (e : Kp [] H H') {l : Addr} (h : H' l = Option.none) : H l = Option.none := by
  cases q : H l with
  | none => rfl
  | some o => rw [e l o (by simp) q] at h; cases h
/-- the box: three numbers -/
def Bx (H : Hp) (b : Addr) (N : Nat) : Prop := ∃ x y z : Int, H b = some (.lst [.int x, .int y, .int z]) ∧ 0 ≤ x ∧ 0 ≤ y ∧ y < 2147483648 ∧ 0 ≤ z ∧ z ≤ N
abbrev il (ns : List Int) : HO := .lst (ns.map V.int)
end L2

set_option Elab.async false
set_option linter.all false
set_option maxRecDepth 100000
set_option maxHeartbeats 4000000
namespace L2
open PySem PySem.Spec PyProof.Rows
theorem cxK {CX : CXT} {P : Program} {w : World} {K : PySem.W.Frag} {mg : Str → Option Value} {base : Heap} {N : List Str} {qual : Str} {scope : Scope} {f : Addr} {cd : Value} {A : Around} {outer : List Env} {s : Shared} {H : Hp} {E : XK} :
    (cxOf CX P w K mg base N qual scope f cd A outer s H E).K = K := rfl
def Loop (J : It) (g : TG) (tb : TS) (D : Ends) (σ : St) (H : Hp) : Prop := ∃ W : Nat → Nat → St → Hp → Prop, (∃ m, W 0 m σ H) ∧ ∀ i m σ H, W i m σ H →
  (J.stop i H ∧ D.nx σ H) ∨ (J.go i H ∧ ∃ N : St → Hp → Prop, (∀ σ' H', N σ' H' → ∃ m', m' < m ∧ W (i + 1) m' σ' H') ∧ ∀ x H', J.yld i H x H' → g x σ H' fun σ2 H2 => tb { D with nx := N, ct := N, bk := D.nx } σ2 H2)
theorem tFor_eq {wi : TI} {g : TG} {tb : TS} {D : Ends} {σ : St} {H : Hp} : tFor wi g tb D σ H = wi σ H (fun J H1 => Loop J g tb D σ H1) := rfl
def CLoop (J : It) (g : TG) (tt : TT) (te : TE) (D : Addr) (Q : VK) (τ : St) (H : Hp) : Prop := ∃ W : Nat → Nat → St → Hp → Prop, (∃ m, W 0 m τ H) ∧ ∀ i m τ H2, W i m τ H2 →
  (J.stop i H2 ∧ Q (.ref D) H2) ∨ (J.go i H2 ∧ ∃ N : St → Hp → Prop, (∀ τ' H', N τ' H' → ∃ m', m' < m ∧ W (i + 1) m' τ' H') ∧ ∀ x H', J.yld i H2 x H' → g x τ H' fun τ2 H3 => tt τ2 H3 fun b H4 =>
    if b = true then te τ2 H4 fun v H5 => ∃ ys, H5 D = some (.lst ys) ∧ ys.length < sizeLine ∧ N τ2 (upd H5 D (.lst (ys ++ [v]))) else N τ2 H4)
theorem tComp_eq {ts : List Nat} {wi : TI} {g : TG} {tt : TT} {te : TE} {σ : St} {H : Hp} {Q : VK} :
    tComp ts wi g tt te σ H Q = wi σ H (fun J H1 => ∀ D, H1 D = none → CLoop J g tt te D Q (clr ts σ) (upd H1 D (.lst []))) := rfl
theorem lp_range {lo : Int} {n : Nat} {g : TG} {tb : TS} {D : Ends} {σ : St} {H : Hp} (Pv : Nat → St → Hp → Prop) (h0 : Pv 0 σ H)
    (hs : ∀ i σ H, i < n → Pv i σ H → g (.int (lo + i)) σ H fun σ2 H2 => tb { D with nx := Pv (i + 1), ct := Pv (i + 1), bk := D.nx } σ2 H2) (hd : ∀ σ H, Pv n σ H → D.nx σ H) : Loop (Itr lo n) g tb D σ H := for_range Pv h0 hs hd
theorem lp_list {K : PySem.W.Frag} {a : Addr} {xs : List V} {g : TG} {tb : TS} {D : Ends} {σ : St} {H : Hp} (Pv : Nat → St → Hp → Prop) (h0 : Pv 0 σ H) (hl : ∀ i σ H, i ≤ xs.length → Pv i σ H → SqL K H a xs)
    (hs : ∀ i x σ H, xs[i]? = some x → Pv i σ H → g x σ H fun σ2 H2 => tb { D with nx := Pv (i + 1), ct := Pv (i + 1), bk := D.nx } σ2 H2) (hd : ∀ σ H, Pv xs.length σ H → D.nx σ H) : Loop (Itl K a) g tb D σ H := for_list Pv h0 hl hs hd
theorem lp_tup {K : PySem.W.Frag} {a : Addr} {xs : List V} {g : TG} {tb : TS} {D : Ends} {σ : St} {H : Hp} (Pv : Nat → St → Hp → Prop) (h0 : Pv 0 σ H) (hl : ∀ i σ H, i ≤ xs.length → Pv i σ H → SqT K H a xs)
    (hs : ∀ i x σ H, xs[i]? = some x → Pv i σ H → g x σ H fun σ2 H2 => tb { D with nx := Pv (i + 1), ct := Pv (i + 1), bk := D.nx } σ2 H2) (hd : ∀ σ H, Pv xs.length σ H → D.nx σ H) : Loop (Itt K a) g tb D σ H := for_tup Pv h0 hl hs hd
theorem lp_enum {K : PySem.W.Frag} {a : Addr} {xs : List V} {g : TG} {tb : TS} {D : Ends} {σ : St} {H : Hp} (Pv : Nat → St → Hp → Prop) (h0 : Pv 0 σ H) (hl : ∀ i σ H, i ≤ xs.length → Pv i σ H → SqL K H a xs)
    (hs : ∀ i x p σ H, xs[i]? = some x → H p = none → Pv i σ H → g (.ref p) σ (upd H p (.tup [.int i, x])) fun σ2 H2 => tb { D with nx := Pv (i + 1), ct := Pv (i + 1), bk := D.nx } σ2 H2) (hd : ∀ σ H, Pv xs.length σ H → D.nx σ H) : Loop (Ite K a) g tb D σ H := for_enum Pv h0 hl hs hd
theorem cl_range {lo : Int} {n : Nat} {g : TG} {tt : TT} {te : TE} {Q : VK} {τ : St} {H1 : Hp} {D : Addr} (Pv : Nat → St → Hp → Prop) (h0 : Pv 0 τ (upd H1 D (.lst [])))
    (hs : ∀ i τ H, i < n → Pv i τ H → g (.int (lo + i)) τ H fun τ2 H3 => tt τ2 H3 fun b H4 => if b = true then te τ2 H4 fun v H5 => ∃ ys, H5 D = some (.lst ys) ∧ ys.length < sizeLine ∧ Pv (i + 1) τ2 (upd H5 D (.lst (ys ++ [v]))) else Pv (i + 1) τ2 H4)
    (hd : ∀ τ H, Pv n τ H → Q (.ref D) H) : CLoop (Itr lo n) g tt te D Q τ (upd H1 D (.lst [])) := comp_range Pv h0 hs hd
theorem cl_list {K : PySem.W.Frag} {a : Addr} {xs : List V} {g : TG} {tt : TT} {te : TE} {Q : VK} {τ : St} {H1 : Hp} {D : Addr} (Pv : Nat → St → Hp → Prop) (h0 : Pv 0 τ (upd H1 D (.lst []))) (hl : ∀ i τ H, i ≤ xs.length → Pv i τ H → SqL K H a xs)
    (hs : ∀ i x τ H, xs[i]? = some x → Pv i τ H → g x τ H fun τ2 H3 => tt τ2 H3 fun b H4 => if b = true then te τ2 H4 fun v H5 => ∃ ys, H5 D = some (.lst ys) ∧ ys.length < sizeLine ∧ Pv (i + 1) τ2 (upd H5 D (.lst (ys ++ [v]))) else Pv (i + 1) τ2 H4)
    (hd : ∀ τ H, Pv xs.length τ H → Q (.ref D) H) : CLoop (Itl K a) g tt te D Q τ (upd H1 D (.lst [])) := comp_list Pv h0 hl hs hd
/-! ### three names at once -/
def tPar3 (i j k : Nat) (ta : TA) : TS := fun D σ H => ta σ H fun vs H1 => ∃ v w x, vs = [v, w, x] ∧ D.nx (((σ.set i (some v)).set j (some w)).set k (some x)) H1
end L2

set_option Elab.async false
set_option linter.all false
set_option maxRecDepth 100000
set_option maxHeartbeats 4000000
namespace L2
open PySem PySem.Spec PyProof.Rows
/-! ### a list of written numbers -/
def tInts (is : List Int) : TA := fun _ H Q => Q (is.map V.int) H
theorem call_intB {X : Cx} : CallR X (.type "int") (fun xs H Q => ∃ k, xs = [.bl k] ∧ Q (.int (if k then 1 else 0)) H) := by
  intro pins s σ H xs us Q I r h
  exact call_int1 pins s σ H xs us Q I r (.inr h)
theorem Bx.mono {H : Hp} {b : Addr} {N M : Nat} (h : Bx H b N) (le : N ≤ M) : Bx H b M := let ⟨x, y, z, h1, h2, h3, h4, h5, h6⟩ := h; ⟨x, y, z, h1, h2, h3, h4, h5, by omega⟩
theorem Bx.new {H : Hp} {b p : Addr} {N : Nat} {o : HO} (h : Bx H b N) (hp : H p = none) : Bx (upd H p o) b N := let ⟨x, y, z, h1, r⟩ := h; ⟨x, y, z, (upd_ne (ne_of_none h1 hp)).trans h1, r⟩
theorem Bx.kp {H H' : Hp} {b : Addr} {N : Nat} (h : Bx H b N) (k : Kp [] H H') : Bx H' b N := let ⟨x, y, z, h1, r⟩ := h; ⟨x, y, z, k _ _ (by simp) h1, r⟩
theorem Bx.kps {H H' : Hp} {b p : Addr} {N : Nat} (h : Bx H b N) (k : Kp [p] H H') (hne : b ≠ p) : Bx H' b N := let ⟨x, y, z, h1, r⟩ := h; ⟨x, y, z, k _ _ (by simpa using hne) h1, r⟩
end L2

set_option Elab.async false
set_option linter.all false
set_option maxRecDepth 100000
set_option maxHeartbeats 4000000
namespace L2
open PySem PySem.Spec PyProof.Rows
/-! ### orders as lists of numbers -/
def IsOrd (n : Nat) (ns : List Int) : Prop := ns.length = n ∧ ns.Nodup ∧ ∀ x ∈ ns, 0 ≤ x ∧ x < (n : Int)
theorem IsOrd.nil : IsOrd 0 [] := ⟨rfl, List.nodup_nil, fun x h => nomatch h⟩
theorem insert_perm {α : Type} (xs : List α) (i : Nat) (y : α) : (xs.take i ++ y :: xs.drop i).Perm (y :: xs) := by
  refine (List.perm_middle).trans ?_
  rw [List.take_append_drop]
theorem IsOrd.insert {k : Nat} {ns : List Int} (h : IsOrd k ns) (i : Nat) : IsOrd (k + 1) (ns.take i ++ (k : Int) :: ns.drop i) := by
  obtain ⟨h1, h2, h3⟩ := h
  have pm := insert_perm ns i (k : Int)
  refine ⟨by rw [pm.length_eq, List.length_cons, h1], ?_, fun x hx => ?_⟩
  · refine pm.nodup_iff.mpr (List.nodup_cons.mpr ⟨fun hm => ?_, h2⟩)
    have := (h3 _ hm).2
    omega
  · rcases List.mem_cons.mp (pm.mem_iff.mp hx) with rfl | hx
    · omega
    · have := h3 x hx; omega
theorem nodup_le : ∀ (n : Nat) (l : List Int), l.Nodup → (∀ x ∈ l, 0 ≤ x ∧ x < (n : Int)) → l.length ≤ n
  | 0, l, _, h => by
    cases l with
    | nil => exact Nat.le_refl _
    | cons x r => have := h x List.mem_cons_self; omega
  | n + 1, l, hn, h => by
    have ih := nodup_le n (l.erase (n : Int)) (hn.erase _) (fun x hx => by
      have h1 := h x (List.mem_of_mem_erase hx)
      have h2 : x ≠ (n : Int) := fun e => by
        subst e
        exact (hn.not_mem_erase) hx
      omega)
    by_cases hm : (n : Int) ∈ l
    · rw [List.length_erase_of_mem hm] at ih; omega
    · rw [List.erase_of_not_mem hm] at ih; omega
theorem IsOrd.surj {n : Nat} {ns : List Int} (h : IsOrd n ns) {x : Int} (h0 : 0 ≤ x) (h1 : x < n) : x ∈ ns := by
  obtain ⟨l, d, b⟩ := h
  refine Classical.byContradiction fun hm => ?_
  have := nodup_le n (x :: ns) (List.nodup_cons.mpr ⟨hm, d⟩) (fun y hy => by
    rcases List.mem_cons.mp hy with rfl | hy
    · exact ⟨h0, h1⟩
    · exact b y hy)
  rw [List.length_cons, l] at this
  omega
theorem IsOrd.getD {n : Nat} {ns : List Int} (h : IsOrd n ns) {i : Nat} (hi : i < n) : 0 ≤ ns.getD i 0 ∧ ns.getD i 0 < n := by
  obtain ⟨l, d, b⟩ := h
  have hi' : i < ns.length := by omega
  have e : ns.getD i 0 = ns[i] := by rw [List.getD_eq_getElem?_getD, List.getElem?_eq_getElem hi']; rfl
  rw [e]
  exact b _ (List.getElem_mem hi')
theorem getD_eq {ns : List Int} {i : Nat} (h : i < ns.length) : ns.getD i 0 = ns[i] := by rw [List.getD_eq_getElem?_getD, List.getElem?_eq_getElem h]; rfl
theorem IsOrd.inj {n : Nat} {ns : List Int} (h : IsOrd n ns) {i j : Nat} (hi : i < n) (hj : j < n) (e : ns.getD i 0 = ns.getD j 0) : i = j := by
  obtain ⟨l, d, b⟩ := h
  rw [getD_eq (by omega), getD_eq (by omega)] at e
  exact (List.getElem_inj d).mp e
/-- an order by its places: bounded and no two alike -/
theorem isOrd_of {n : Nat} {ns : List Int} (l : ns.length = n) (b : ∀ i, i < n → 0 ≤ ns.getD i 0 ∧ ns.getD i 0 < n) (j : ∀ i k, i < n → k < n → ns.getD i 0 = ns.getD k 0 → i = k) : IsOrd n ns := by
  refine ⟨l, ?_, fun x hx => ?_⟩
  · rw [List.nodup_iff_pairwise_ne, List.pairwise_iff_getElem]
    intro i k hi hk hik e
    have := j i k (by omega) (by omega) (by rw [getD_eq hi, getD_eq hk]; exact e)
    omega
  · obtain ⟨i, hi, rfl⟩ := List.mem_iff_getElem.mp hx
    have := b i (by omega)
    rwa [getD_eq hi] at this
theorem IsOrd.ex {n : Nat} {ns : List Int} (h : IsOrd n ns) {j : Nat} (hj : j < n) : ∃ i, i < n ∧ ns.getD i 0 = (j : Int) := by
  have hm := h.surj (x := (j : Int)) (by omega) (by omega)
  obtain ⟨i, hi, e⟩ := List.mem_iff_getElem.mp hm
  exact ⟨i, by rw [← h.1]; exact hi, by rw [getD_eq hi]; exact e⟩
theorem rngL_getD (n : Nat) {i : Nat} (h : i < n) : (rngL 0 1 n).getD i 0 = (i : Int) := by
  rw [getD_eq (by rw [rngL_length]; exact h)]
  simp [rngL]
theorem IsOrd.rng (n : Nat) : IsOrd n (rngL 0 1 n) := by
  refine isOrd_of (rngL_length 0 1 n) (fun i hi => ?_) (fun i k hi hk e => ?_)
  · rw [rngL_getD n hi]; omega
  · rw [rngL_getD n hi, rngL_getD n hk] at e; omega
theorem Kp.drop1 {bs : List Addr} {H H' : Hp} {p : Addr} {o : HO} (hp : H p = none) (k : Kp (p :: bs) (upd H p o) H') : Kp bs H H' := fun c u n h => by
  have hne : c ≠ p := ne_of_none h hp
  refine k c u ?_ ((upd_ne hne).trans h)
  intro hm
  rcases List.mem_cons.mp hm with e | e
  · exact hne e
  · exact n e
theorem Bx.ne {H : Hp} {b p : Addr} {N : Nat} (h : Bx H b N) (hp : H p = none) : b ≠ p := let ⟨_, _, _, h1, _⟩ := h; ne_of_none h1 hp
theorem Bx.there {H : Hp} {b : Addr} {N : Nat} (h : Bx H b N) : ∃ o, H b = some o := let ⟨_, _, _, h1, _⟩ := h; ⟨_, h1⟩
theorem Bx.keep {H H' : Hp} {b : Addr} {N : Nat} {bs : List Addr} (h : Bx H b N) (k : Kp bs H H') (hb : b ∉ bs) : Bx H' b N := let ⟨x, y, z, h1, r⟩ := h; ⟨x, y, z, k _ _ hb h1, r⟩
theorem getD_set {ns : List Int} {i j : Nat} {v : Int} (h : i < ns.length) : (ns.set i v).getD j 0 = if j = i then v else ns.getD j 0 := by
  rw [List.getD_eq_getElem?_getD, List.getElem?_set]
  by_cases e : i = j
  · subst e; simp [h]
  · rw [if_neg e, if_neg (Ne.symm e), List.getD_eq_getElem?_getD]
theorem ext_getD {xs ys : List Int} (l : xs.length = ys.length) (h : ∀ i, i < xs.length → xs.getD i 0 = ys.getD i 0) : xs = ys := by
  refine List.ext_getElem l fun i h1 h2 => ?_
  have := h i h1
  rwa [getD_eq h1, getD_eq h2] at this
theorem take_succ_map {α : Type} {g : Int → α} {ns : List Int} {i : Nat} (h : i < ns.length) : (ns.take (i + 1)).map g = (ns.take i).map g ++ [g (ns.getD i 0)] := by
  rw [List.take_add_one, List.getElem?_eq_getElem h, getD_eq h, List.map_append]; rfl
def rSetLO : V → V → V → Hp → (Hp → Prop) → Prop := fun o i v H Q => ∃ k, i = .int k ∧ ∃ p, o = .ref p ∧ ∃ xs, H p = some (.lst xs) ∧ ∃ j, ixN xs.length k = some j ∧ Q (upd H p (.lst (xs.set j v)))
section
variable {X : Cx}
theorem mr_append : MtR X "list.append" rAppend := mt_append
theorem mr_insert : MtR X "list.insert" rInsert := mt_insert
theorem pg_tupK {es : List Expr} {k : Nat} {t : TGs} {pos : Pos} {K : PySem.W.Frag} (n : Nat) (h : X.K = K) (hc : X.calm = true) (hs : PGs X es t) (hn : (assignEach es X.env).length = n := by rfl) (hst : (assignEach es X.env).findIdx? (·.1) = none := by rfl) : PG X (.Tuple es k pos) (gTup K n t) := h ▸ pg_tup hc hs hn hst
theorem set_listO : PSet X rSetLO := by
  intro pins s σ H o i v ov iv u Q I ro ri rv h
  obtain ⟨k, e1, p, e2, xs, h1, j, h2, q⟩ := h
  exact set_list pins s σ H o i v ov iv u Q I ro ri rv ⟨p, xs, k, j, e2, e1, h1, h2, q⟩
theorem ix_listK {K : PySem.W.Frag} (h : X.K = K) : IxR X (rIxL K) := h ▸ ix_list
theorem call_len_seqK {K : PySem.W.Frag} (h : X.K = K) : CallR X (.builtin "len") (fun xs H Q => ∃ p ys, xs = [.ref p] ∧ (SqL K H p ys ∨ SqT K H p ys) ∧ Q (.int ys.length) H) := h ▸ call_len_seq
end
end L2

set_option Elab.async false
set_option linter.all false
set_option maxRecDepth 100000
set_option maxHeartbeats 4000000
namespace L2
open PySem PySem.Spec PyProof.Rows
def aft (one other : List Int) : List Int := one.map fun x => other.getD x.toNat 0
theorem aft_length (a b : List Int) : (aft a b).length = a.length := List.length_map _
theorem aft_getD {a : List Int} (b : List Int) {i : Nat} (h : i < a.length) : (aft a b).getD i 0 = b.getD (a.getD i 0).toNat 0 := by
  rw [getD_eq (by rw [aft_length]; exact h), getD_eq h]
  exact List.getElem_map _
theorem IsOrd.aft {n : Nat} {a b : List Int} (ha : IsOrd n a) (hb : IsOrd n b) : IsOrd n (aft a b) := by
  refine isOrd_of (by rw [aft_length, ha.1]) (fun i hi => ?_) (fun i k hi hk e => ?_)
  · rw [aft_getD b (by rw [ha.1]; exact hi)]
    have := ha.getD hi
    exact hb.getD (by omega)
  · rw [aft_getD b (by rw [ha.1]; exact hi), aft_getD b (by rw [ha.1]; exact hk)] at e
    have h1 := ha.getD hi
    have h2 := ha.getD hk
    have := hb.inj (by omega) (by omega) e
    exact ha.inj hi hk (by omega)
/-- bs puts back what os does -/
def IsBack (os bs : List Int) : Prop := bs.length = os.length ∧ ∀ i, i < os.length → bs.getD (os.getD i 0).toNat 0 = (i : Int)
theorem IsBack.at {n : Nat} {os bs : List Int} (ho : IsOrd n os) (h : IsBack os bs) {j : Nat} (hj : j < n) : ∃ i : Nat, i < n ∧ os.getD i 0 = (j : Int) ∧ bs.getD j 0 = (i : Int) := by
  obtain ⟨i, hi, e⟩ := ho.ex hj
  refine ⟨i, hi, e, ?_⟩
  have := h.2 i (by rw [ho.1]; exact hi)
  rw [e, Int.toNat_natCast] at this
  exact this
theorem IsBack.ord {n : Nat} {os bs : List Int} (ho : IsOrd n os) (h : IsBack os bs) : IsOrd n bs := by
  refine isOrd_of (by rw [h.1, ho.1]) (fun j hj => ?_) (fun j k hj hk e => ?_)
  · obtain ⟨i, hi, _, e⟩ := h.at ho hj
    rw [e]; omega
  · obtain ⟨i, hi, e1, e2⟩ := h.at ho hj
    obtain ⟨i', hi', e1', e2'⟩ := h.at ho hk
    have : i = i' := by omega
    subst this
    omega
theorem IsBack.right {n : Nat} {os bs : List Int} (ho : IsOrd n os) (h : IsBack os bs) : aft os bs = rngL 0 1 n := by
  refine ext_getD (by rw [aft_length, rngL_length, ho.1]) fun i hi => ?_
  rw [aft_length] at hi
  rw [aft_getD bs hi, h.2 i hi, rngL_getD n (by rw [← ho.1]; exact hi)]
theorem IsBack.left {n : Nat} {os bs : List Int} (ho : IsOrd n os) (h : IsBack os bs) : aft bs os = rngL 0 1 n := by
  refine ext_getD (by rw [aft_length, rngL_length, h.1, ho.1]) fun j hj => ?_
  rw [aft_length, h.1, ho.1] at hj
  obtain ⟨i, hi, e1, e2⟩ := h.at ho hj
  rw [aft_getD os (by rw [h.1, ho.1]; exact hj), e2, Int.toNat_natCast, e1, rngL_getD n hj]
theorem IsBack.unique {n : Nat} {os bs cs : List Int} (ho : IsOrd n os) (h : IsBack os bs) (hc : cs.length = n) (e : aft os cs = rngL 0 1 n) : cs = bs := by
  refine ext_getD (by rw [hc, h.1, ho.1]) fun j hj => ?_
  obtain ⟨i, hi, e1, e2⟩ := h.at ho (by omega : j < n)
  have := congrArg (fun l => l.getD i 0) e
  rw [aft_getD cs (by rw [ho.1]; exact hi), e1, Int.toNat_natCast, rngL_getD n hi] at this
  rw [this, e2]
/-- rs has the things xs put by os -/
def IsPut (xs os rs : List Int) : Prop := rs.length = os.length ∧ ∀ i, i < os.length → rs.getD (os.getD i 0).toNat 0 = xs.getD i 0
theorem IsPut.unique {n : Nat} {xs os rs rs' : List Int} (ho : IsOrd n os) (h : IsPut xs os rs) (h' : IsPut xs os rs') : rs = rs' := by
  refine ext_getD (by rw [h.1, h'.1]) fun j hj => ?_
  obtain ⟨i, hi, e⟩ := ho.ex (j := j) (by rw [← ho.1, ← h.1]; exact hj)
  have a := h.2 i (by rw [ho.1]; exact hi)
  have b := h'.2 i (by rw [ho.1]; exact hi)
  rw [e, Int.toNat_natCast] at a b
  rw [a, b]
theorem IsPut.rng {n : Nat} {xs : List Int} (h : xs.length = n) : IsPut xs (rngL 0 1 n) xs := by
  refine ⟨by rw [rngL_length, h], fun i hi => ?_⟩
  rw [rngL_length] at hi
  rw [rngL_getD n hi, Int.toNat_natCast]
def offL (os : List Int) (k : Nat) : Nat := ((List.range k).filter fun (i : Nat) => !decide (os.getD i 0 = (i : Int))).length
/-- so many times -/
def pwl (n : Nat) (b : List Int) : Nat → List Int
  | 0 => rngL 0 1 n
  | k + 1 => aft (pwl n b k) b
theorem pwl_ord {n : Nat} {b : List Int} (hb : IsOrd n b) : ∀ k, IsOrd n (pwl n b k)
  | 0 => IsOrd.rng n
  | k + 1 => (pwl_ord hb k).aft hb
end L2

set_option Elab.async false
set_option linter.all false
set_option maxRecDepth 100000
set_option maxHeartbeats 4000000
namespace L2
open PySem PySem.Spec PyProof.Rows
section
variable {X : Cx}
/-! ### a place of a list or a tuple -/
def rIxLT (K : PySem.W.Frag) : R2 := fun x y H Q => ∃ p xs i v, x = .ref p ∧ y = .int i ∧ (SqL K H p xs ∨ SqT K H p xs) ∧ atI xs i = some v ∧ Q v H
theorem ix_lt : IxR X (rIxLT X.K) := by
  intro value slice pins s σ H x y v u Q I rx ry h hs
  obtain ⟨p, xs, i, z, e1, e2, hq | hq, he, q⟩ := h
  · exact ix_list value slice pins s σ H x y v u Q I rx ry ⟨p, xs, i, z, e1, e2, hq, he, q⟩ hs
  · exact ix_tup value slice pins s σ H x y v u Q I rx ry ⟨p, xs, i, z, e1, e2, hq, he, q⟩ hs
/-! ### all of a list of truths -/
theorem bt_all : bootBuiltins "all" = some (.builtin "all") := by decide +kernel
theorem vals_bools : ∀ {bs : List Bool} {us : List Value}, Vals (bs.map V.bl) us → us = bs.map Value.bool
  | [], _, h => by cases h; rfl
  | b :: bs, _, h => by
    cases h with
    | cons r rs => cases r; rw [vals_bools rs]; rfl
theorem range_allB (bs : List Bool) : ((List.range bs.length).all fun i => (bs[i]?).getD true) = bs.all id := by
  rw [Bool.eq_iff_iff, List.all_eq_true, List.all_eq_true]
  constructor
  · intro h x hx
    obtain ⟨i, hi, rfl⟩ := List.getElem_of_mem hx
    have := h i (by simpa using hi)
    simpa [List.getElem?_eq_getElem hi] using this
  · intro h i hi
    have hi' : i < bs.length := by simpa using hi
    simpa [List.getElem?_eq_getElem hi'] using h bs[i] (List.getElem_mem hi')
theorem call_allB (hc : X.calm = true) : CallR X (.builtin "all") (fun xs H Q => ∃ p bs, xs = [.ref p] ∧ SqL X.K H p (List.map V.bl bs) ∧ Q (.bl (bs.all id)) H) := by
  intro pins s σ H xs us Q I r h
  obtain ⟨p, bs, rfl, hq, q⟩ := h
  obtain ⟨u, rfl, rx⟩ := vals1 r
  cases rx
  obtain ⟨its, rv, pl, hz⟩ := I.list hq
  have hu := vals_bools rv
  subst hu
  have hlt : p < s.heap.objs.size := by obtain ⟨_, e, _⟩ := pl.isList; exact Heap.lt_size e
  refine call_all_walk (wpAny_pyIter_list pl.isList ?_)
  refine ⟨s.heap.objs.size, [s.heap.objs.size, p], [s.heap.objs.size], (bs.map Value.bool).toArray.size, _, _, fun i => (bs[i]?).getD true, rfl, Walks.list (A := X.A.in1) (I.ok.hd hc) _ p (Nat.ne_of_lt hlt) (bs.map Value.bool).toArray,
    ⟨⟨_, Heap.get?_push_size _ rfl, rfl, rfl⟩, pl.isList.push _⟩, fun i v s' Q' E' hP hQ => ?_, fun h' tk hk => ?_⟩
  · have hP' : (bs.map Value.bool)[i]? = some v := by simpa using hP
    rw [List.getElem?_map] at hP'
    cases e : bs[i]? with
    | none => rw [e] at hP'; cases hP'
    | some b =>
      rw [e] at hP'
      cases hP'
      simp only [e, Option.getD_some] at hQ
      exact wpAny_truthy_bool hQ
  · have e : ((List.range (bs.map Value.bool).toArray.size).all fun i => (bs[i]?).getD true) = bs.all id := by
      rw [List.size_toArray, List.length_map]; exact range_allB bs
    rw [e]
    refine ⟨.bl (bs.all id), H, I.turnedL (ch := []) (tk := tk) (fun b hb => nomatch hb) (fun b o _ eb => ?_), rfl, q⟩
    exact hk b o (fun hm => by rw [List.mem_singleton.mp hm] at eb; exact Nat.lt_irrefl _ (Heap.lt_size eb)) (Heap.get?_push_of_some _ eb)
end
/-! ### a comprehension over zip -/
end L2

set_option Elab.async false
set_option linter.all false
set_option maxRecDepth 100000
set_option maxHeartbeats 4000000
namespace L2
open PySem PySem.Spec PyProof.Rows
/-! ### going by an order, and walks -/
def nxt (os : List Int) (p : Int) : Int := os.getD p.toNat 0
def itn (os : List Int) : Nat → Int → Int
  | 0, p => p
  | k + 1, p => nxt os (itn os k p)
theorem itn_bd {n : Nat} {os : List Int} (h : IsOrd n os) {p : Int} (p0 : 0 ≤ p) (p1 : p < n) : ∀ k, 0 ≤ itn os k p ∧ itn os k p < n
  | 0 => ⟨p0, p1⟩
  | k + 1 => by
    have := itn_bd h p0 p1 k
    exact h.getD (by omega)
theorem itn_add (os : List Int) (p : Int) (b : Nat) : ∀ a, itn os (a + b) p = itn os a (itn os b p)
  | 0 => by rw [Nat.zero_add]; rfl
  | a + 1 => by
    rw [show a + 1 + b = (a + b) + 1 by omega]
    show nxt os (itn os (a + b) p) = nxt os (itn os a (itn os b p))
    rw [itn_add os p b a]
theorem nxt_inj {n : Nat} {os : List Int} (h : IsOrd n os) {x y : Int} (x0 : 0 ≤ x) (x1 : x < n) (y0 : 0 ≤ y) (y1 : y < n) (e : nxt os x = nxt os y) : x = y := by
  have := h.inj (i := x.toNat) (j := y.toNat) (by omega) (by omega) e
  omega
theorem itn_inj {n : Nat} {os : List Int} (h : IsOrd n os) {x y : Int} (x0 : 0 ≤ x) (x1 : x < n) (y0 : 0 ≤ y) (y1 : y < n) : ∀ k, itn os k x = itn os k y → x = y
  | 0, e => e
  | k + 1, e => by
    have bx := itn_bd h x0 x1 k
    have by' := itn_bd h y0 y1 k
    exact itn_inj h x0 x1 y0 y1 k (nxt_inj h bx.1 bx.2 by'.1 by'.2 e)
theorem itn_ret {n : Nat} {os : List Int} (h : IsOrd n os) {p : Int} (p0 : 0 ≤ p) (p1 : p < n) : ∃ M, 1 ≤ M ∧ M ≤ n ∧ itn os M p = p := by
  apply Classical.byContradiction
  intro hno
  have hp : ((List.range (n + 1)).map fun i => itn os i p).Nodup := by
    rw [List.Nodup, List.pairwise_map]
    refine List.Pairwise.imp_of_mem (R := fun a b => a < b) ?_ List.pairwise_lt_range
    intro a b ha hb hlt e
    have hb' : b < n + 1 := by simpa using hb
    refine hno ⟨b - a, by omega, by omega, ?_⟩
    have bb := itn_bd h p0 p1 (b - a)
    refine (itn_inj h p0 p1 bb.1 bb.2 a ?_).symm
    rw [← itn_add, show a + (b - a) = b by omega]
    exact e
  have := nodup_le n _ hp (fun x hx => by
    obtain ⟨i, _, rfl⟩ := List.mem_map.mp hx
    exact itn_bd h p0 p1 i)
  rw [List.length_map, List.length_range] at this
  omega
/-- a walk of m steps that ends at e -/
def IsWalk (os : List Int) (p : Int) (m : Nat) (e : Int) : Prop := 1 ≤ m ∧ e = itn os m p ∧ e ≤ p ∧ ∀ j, 1 ≤ j → j < m → p < itn os j p
theorem IsWalk.uniq {os : List Int} {p : Int} {m m' : Nat} {e e' : Int} (h : IsWalk os p m e) (h' : IsWalk os p m' e') : m = m' ∧ e = e' := by
  obtain ⟨a1, a2, a3, a4⟩ := h
  obtain ⟨b1, b2, b3, b4⟩ := h'
  have : m = m' := by
    rcases Nat.lt_trichotomy m m' with z | z | z
    · have := b4 m a1 z; omega
    · exact z
    · have := a4 m' b1 z; omega
  subst this
  exact ⟨rfl, a2.trans b2.symm⟩
open Classical in
noncomputable def wkM (os : List Int) (p : Int) : Nat := if h : ∃ m, ∃ e, IsWalk os p m e then Classical.choose h else 0
open Classical in
noncomputable def wkE (os : List Int) (p : Int) : Int := itn os (wkM os p) p
theorem IsWalk.wkM {os : List Int} {p : Int} {m : Nat} {e : Int} (h : IsWalk os p m e) : wkM os p = m := by
  have hx : ∃ m, ∃ e, IsWalk os p m e := ⟨m, e, h⟩
  obtain ⟨e', h'⟩ := Classical.choose_spec hx
  unfold L2.wkM
  rw [dif_pos hx]
  exact (h'.uniq h).1
theorem IsWalk.wkE {os : List Int} {p : Int} {m : Nat} {e : Int} (h : IsWalk os p m e) : wkE os p = e := by
  unfold L2.wkE
  rw [h.wkM]
  exact h.2.1.symm
end L2

set_option Elab.async false
set_option linter.all false
set_option maxRecDepth 100000
set_option maxHeartbeats 4000000
namespace L2
open PySem PySem.Spec PyProof.Rows
theorem Df.or {P : Program} {w : World} {K : PySem.W.Frag} {mg : Str → Option Value} {base : Heap} {x : Str} {ps : List Str} {k : Nat} {sp sp' : Sp} (D : Df P w K mg base x ps k sp) (D' : Df P w K mg base x ps k sp') : Df P w K mg base x ps k (fun vs H Q E => sp vs H Q E ∨ sp' vs H Q E) := by
  obtain ⟨f, fd, F, b, kp, m, oc, od, osl, lk⟩ := D
  obtain ⟨f', fd', F', b', kp', m', oc', od', osl', lk'⟩ := D'
  rw [m] at m'
  cases m'
  rw [lk] at lk'
  cases lk'
  exact ⟨f, fd, ⟨fun vs H Q E h => h.elim (F.len _ _ _ _) (F'.len _ _ _ _), fun A outer s H args us vs Q E hr he hb hv hs => hs.elim (F.run A outer s H args us vs Q E hr he hb hv) (F'.run A outer s H args us vs Q E hr he hb hv)⟩, b, kp, m, oc, od, osl, lk⟩
end L2

set_option Elab.async false
set_option linter.all false
set_option maxRecDepth 100000
set_option maxHeartbeats 4000000
namespace L2
open PySem PySem.Spec PyProof.Rows
/-! ### enumerate of a tuple -/
section
variable {P : Program} {w : World} {A : Around} {E : Value → Shared → Prop} {s : Shared} {j t : Addr} {i : Nat} {its : Array Value} {Q : Value → Shared → Prop}
end
open AutoSeq1 (wpAny_loadPart') in
def IteT (K : PySem.W.Frag) (a : Addr) : It :=
  ⟨fun i H => ∃ xs x, SqT K H a xs ∧ xs[i]? = some x, fun i H y H' => ∃ p x, H p = none ∧ y = .ref p ∧ (∀ xs, SqT K H a xs → xs[i]? = some x) ∧ H' = upd H p (.tup [.int i, x]), fun i H => ∃ xs, SqT K H a xs ∧ xs.length ≤ i⟩
section
variable {X : Cx} {es : List Expr} {kt : Nat} {tp : Pos}
/-- enumerate of a list or a tuple -/
def iEnumLT (K : PySem.W.Frag) (ta : TA) : TI := fun σ H R => ta σ H fun vs H1 => ∃ a, vs = [.ref a] ∧ (((∃ xs, SqL K H1 a xs) ∧ R (Ite K a) H1) ∨ ((∃ xs, SqT K H1 a xs) ∧ R (IteT K a) H1))
end
theorem sqT_kp {K : PySem.W.Frag} {H H' : Hp} {a : Addr} {xs : List V} (h : SqT K H a xs) (e : Kp [] H H') : SqT K H' a xs := by
  rcases h with (h | ⟨o, h⟩) | h
  · exact .inl (.inl (e _ _ (by simp) h))
  · exact .inl (.inr ⟨o, e _ _ (by simp) h⟩)
  · exact .inr h
theorem sqL_kp {K : PySem.W.Frag} {H H' : Hp} {a : Addr} {xs : List V} (h : SqL K H a xs) (e : Kp [] H H') : SqL K H' a xs := by
  rcases h with (h | ⟨o, h⟩) | h
  · exact .inl (.inl (e _ _ (by simp) h))
  · exact .inl (.inr ⟨o, e _ _ (by simp) h⟩)
  · exact .inr h
end L2

set_option Elab.async false
set_option linter.all false
set_option maxRecDepth 100000
set_option maxHeartbeats 4000000
namespace L2
open PySem PySem.Spec PyProof.Rows
/-! ### both ways by turns -/
def bval (os bs : List Int) (p : Int) (s : Nat) : Int := if s % 2 = 1 then itn os ((s + 1) / 2) p else itn bs (s / 2) p
def IsBoth (os bs : List Int) (p : Int) (s : Nat) : Prop := 1 ≤ s ∧ bval os bs p s ≤ p ∧ ∀ j, 1 ≤ j → j < s → p < bval os bs p j
theorem IsBoth.uniq {os bs : List Int} {p : Int} {m m' : Nat} (h : IsBoth os bs p m) (h' : IsBoth os bs p m') : m = m' := by
  obtain ⟨a1, a3, a4⟩ := h
  obtain ⟨b1, b3, b4⟩ := h'
  rcases Nat.lt_trichotomy m m' with z | z | z
  · have := b4 m a1 z; omega
  · exact z
  · have := a4 m' b1 z; omega
open Classical in
noncomputable def bth (os bs : List Int) (p : Int) : Nat := if h : ∃ m, IsBoth os bs p m then Classical.choose h else 0
theorem IsBoth.bth {os bs : List Int} {p : Int} {m : Nat} (h : IsBoth os bs p m) : bth os bs p = m := by
  have hx : ∃ m, IsBoth os bs p m := ⟨m, h⟩
  unfold L2.bth
  rw [dif_pos hx]
  exact (Classical.choose_spec hx).uniq h
theorem IsBack.same {n : Nat} {os bs cs : List Int} (ho : IsOrd n os) (h : IsBack os bs) (h' : IsBack os cs) : cs = bs := IsBack.unique ho h (h'.ord ho).1 (h'.right ho)
/-! ### tests that grow with what they ask -/
def ME (t : TE) : Prop := ∀ σ H Q Q', (∀ v H1, Q v H1 → Q' v H1) → t σ H Q → t σ H Q'
def MT (t : TT) : Prop := ∀ σ H Q Q', (∀ v H1, Q v H1 → Q' v H1) → t σ H Q → t σ H Q'
def MR (r : R2) : Prop := ∀ x y H Q Q', (∀ z H1, Q z H1 → Q' z H1) → r x y H Q → r x y H Q'
theorem me_var {i : Nat} : ME (tVar i) := fun _ _ _ _ hq ⟨v, e, h⟩ => ⟨v, e, hq _ _ h⟩
theorem me_c {v : V} : ME (tC v) := fun _ _ _ _ hq h => hq _ _ h
theorem me_op {r : R2} {ta tb : TE} (hr : MR r) (ha : ME ta) (hb : ME tb) : ME (tOp r ta tb) := fun _ _ _ _ hq h => ha _ _ _ _ (fun _ _ h1 => hb _ _ _ _ (fun _ _ h2 => hr _ _ _ _ _ hq h2) h1) h
theorem mt_test {t : TE} (h : ME t) : MT (tTest t) := fun _ _ _ _ hq q => h _ _ _ _ (fun _ _ ⟨k, e, z⟩ => ⟨k, e, hq _ _ z⟩) q
theorem mr_i0 {g : Int → Int → V} : MR (rI0 g) := fun _ _ _ _ _ hq ⟨i, j, e1, e2, h⟩ => ⟨i, j, e1, e2, hq _ _ h⟩
theorem mr_i {C : Int → Int → Prop} {g : Int → Int → V} : MR (rI C g) := fun _ _ _ _ _ hq ⟨i, j, e1, e2, c, h⟩ => ⟨i, j, e1, e2, c, hq _ _ h⟩
end L2

set_option Elab.async false
set_option linter.all false
set_option maxRecDepth 100000
set_option maxHeartbeats 4000000
namespace L2
open PySem PySem.Spec PyProof.Rows
/-! ### rings -/
theorem least_of {p : Nat → Prop} : ∀ n, p n → ∃ m, p m ∧ ∀ j, j < m → ¬ p j := by
  intro n
  induction n using Nat.strongRecOn with
  | _ n ih =>
    intro h
    by_cases hx : ∃ j, j < n ∧ p j
    · obtain ⟨j, hj, pj⟩ := hx
      exact ih j hj pj
    · exact ⟨n, h, fun j hj pj => hx ⟨j, hj, pj⟩⟩
def IsPer (os : List Int) (p : Int) (m : Nat) : Prop := 1 ≤ m ∧ itn os m p = p ∧ ∀ j, 1 ≤ j → j < m → itn os j p ≠ p
theorem IsPer.uniq {os : List Int} {p : Int} {m m' : Nat} (h : IsPer os p m) (h' : IsPer os p m') : m = m' := by
  obtain ⟨a1, a3, a4⟩ := h
  obtain ⟨b1, b3, b4⟩ := h'
  rcases Nat.lt_trichotomy m m' with z | z | z
  · exact absurd a3 (b4 m a1 z)
  · exact z
  · exact absurd b3 (a4 m' b1 z)
theorem per_ex {n : Nat} {os : List Int} (h : IsOrd n os) {p : Int} (p0 : 0 ≤ p) (p1 : p < n) : ∃ m, IsPer os p m ∧ m ≤ n := by
  obtain ⟨M, h1, h2, h3⟩ := itn_ret h p0 p1
  obtain ⟨m, ⟨m1, m2⟩, m3⟩ := least_of (p := fun k => 1 ≤ k ∧ itn os k p = p) M ⟨h1, h3⟩
  refine ⟨m, ⟨m1, m2, fun j j1 jm e => m3 j jm ⟨j1, e⟩⟩, ?_⟩
  rcases Nat.lt_or_ge M m with z | z
  · exact absurd ⟨h1, h3⟩ (m3 M z)
  · omega
open Classical in
noncomputable def per (os : List Int) (p : Int) : Nat := if h : ∃ m, IsPer os p m then Classical.choose h else 0
theorem IsPer.per {os : List Int} {p : Int} {m : Nat} (h : IsPer os p m) : per os p = m := by
  have hx : ∃ m, IsPer os p m := ⟨m, h⟩
  unfold L2.per
  rw [dif_pos hx]
  exact (Classical.choose_spec hx).uniq h
def itl (os : List Int) (p : Int) (k : Nat) : List Int := (List.range k).map fun i => itn os i p
theorem itl_succ (os : List Int) (p : Int) (k : Nat) : itl os p (k + 1) = itl os p k ++ [itn os k p] := by
  unfold itl; rw [List.range_succ, List.map_append]; rfl
theorem itl_len (os : List Int) (p : Int) (k : Nat) : (itl os p k).length = k := by simp [itl]
theorem itl_mem {os : List Int} {p : Int} {k : Nat} {x : Int} : x ∈ itl os p k ↔ ∃ i, i < k ∧ itn os i p = x := by
  unfold itl
  rw [List.mem_map]
  constructor
  · rintro ⟨i, hi, e⟩
    exact ⟨i, by simpa using hi, e⟩
  · rintro ⟨i, hi, e⟩
    exact ⟨i, by simpa using hi, e⟩
noncomputable def ringOf (os : List Int) (p : Int) : List Int := itl os p (per os p)
/-- q comes to x -/
def Rch (os : List Int) (q x : Int) : Prop := ∃ k, itn os k q = x
theorem Rch.refl {os : List Int} {p : Int} : Rch os p p := ⟨0, rfl⟩
theorem Rch.trans {os : List Int} {p q r : Int} (a : Rch os p q) (b : Rch os q r) : Rch os p r := by
  obtain ⟨i, rfl⟩ := a
  obtain ⟨j, rfl⟩ := b
  exact ⟨j + i, itn_add os p i j⟩
theorem itn_mul {os : List Int} {p : Int} {m : Nat} (h : itn os m p = p) : ∀ k, itn os (k * m) p = p
  | 0 => by rw [Nat.zero_mul]; rfl
  | k + 1 => by rw [Nat.succ_mul, Nat.add_comm, itn_add, itn_mul h k, h]
theorem itn_mod {os : List Int} {p : Int} {m : Nat} (h : itn os m p = p) (k : Nat) : itn os k p = itn os (k % m) p := by
  have e : k = k % m + (k / m) * m := by rw [Nat.mul_comm]; exact (Nat.mod_add_div k m).symm
  conv => lhs; rw [e]
  rw [itn_add, itn_mul h]
theorem Rch.symm {n : Nat} {os : List Int} (h : IsOrd n os) {p q : Int} (p0 : 0 ≤ p) (p1 : p < n) (a : Rch os p q) : Rch os q p := by
  obtain ⟨k, rfl⟩ := a
  obtain ⟨M, h1, _, h3⟩ := itn_ret h p0 p1
  refine ⟨(k + 1) * M - k, ?_⟩
  have hle : k ≤ (k + 1) * M := Nat.le_trans (Nat.le_succ k) (Nat.le_mul_of_pos_right _ h1)
  rw [← itn_add, Nat.sub_add_cancel hle, itn_mul h3]
theorem Rch.mem_ring {os : List Int} {p x : Int} {m : Nat} (h : IsPer os p m) : Rch os p x ↔ x ∈ itl os p m := by
  rw [itl_mem]
  constructor
  · rintro ⟨k, rfl⟩
    exact ⟨k % m, Nat.mod_lt _ h.1, (itn_mod h.2.1 k).symm⟩
  · rintro ⟨i, _, e⟩
    exact ⟨i, e⟩
/-- p is come to from no lesser place -/
def Lead (os : List Int) (p : Nat) : Prop := ∀ q : Nat, q < p → ¬ Rch os (q : Int) (p : Int)
open Classical in
noncomputable def ringsL (os : List Int) : Nat → List (List Int)
  | 0 => []
  | i + 1 => ringsL os i ++ if Lead os i ∧ 1 < per os (i : Int) then [ringOf os (i : Int)] else []
def Seen (os : List Int) (i : Nat) (x : Int) : Prop := ∃ q : Nat, q < i ∧ Rch os (q : Int) x
theorem Seen.succ {os : List Int} {i : Nat} {x : Int} : Seen os (i + 1) x ↔ Seen os i x ∨ Rch os (i : Int) x := by
  constructor
  · rintro ⟨q, hq, r⟩
    by_cases e : q = i
    · subst e; exact .inr r
    · exact .inl ⟨q, by omega, r⟩
  · rintro (⟨q, hq, r⟩ | r)
    · exact ⟨q, by omega, r⟩
    · exact ⟨i, by omega, r⟩
theorem Lead_iff {os : List Int} {i : Nat} : Lead os i ↔ ¬ Seen os i (i : Int) := by
  constructor
  · rintro h ⟨q, hq, r⟩; exact h q hq r
  · intro h q hq r; exact h ⟨q, hq, r⟩
/-- where i was met, all that it comes to was met -/
theorem Seen.step {n : Nat} {os : List Int} (h : IsOrd n os) {i : Nat} (hi : i < n) (hs : Seen os i (i : Int)) {x : Int} : Seen os (i + 1) x ↔ Seen os i x := by
  rw [Seen.succ]
  constructor
  · rintro (z | z)
    · exact z
    · obtain ⟨q, hq, r⟩ := hs
      exact ⟨q, hq, r.trans z⟩
  · exact .inl
/-- where i was not met, nothing that it comes to was -/
theorem Seen.apart {n : Nat} {os : List Int} (h : IsOrd n os) {i : Nat} (hi : i < n) (hs : ¬ Seen os i (i : Int)) {x : Int} (r : Rch os (i : Int) x) : ¬ Seen os i x := by
  rintro ⟨q, hq, rq⟩
  exact hs ⟨q, hq, rq.trans (r.symm h (by omega) (by omega))⟩
theorem ringsL_len (os : List Int) : ∀ i, (ringsL os i).length ≤ i
  | 0 => Nat.le_refl _
  | i + 1 => by
    unfold ringsL
    rw [List.length_append]
    have := ringsL_len os i
    split <;> simp <;> omega
theorem ringsL_mem {n : Nat} {os : List Int} (h : IsOrd n os) {r : List Int} : ∀ {i : Nat}, i ≤ n → r ∈ ringsL os i → 1 < r.length ∧ r.length ≤ n
  | 0, _, hr => by simp [ringsL] at hr
  | i + 1, hi, hr => by
    unfold ringsL at hr
    rcases List.mem_append.mp hr with z | z
    · exact ringsL_mem h (by omega) z
    · by_cases c : Lead os i ∧ 1 < per os (i : Int)
      · rw [if_pos c] at z
        rw [List.mem_singleton.mp z]
        obtain ⟨m, hm, hle⟩ := per_ex h (p := (i : Int)) (by omega) (by omega)
        unfold ringOf
        rw [itl_len]
        have := hm.per
        omega
      · rw [if_neg c] at z; cases z
end L2

set_option Elab.async false
set_option linter.all false
set_option maxRecDepth 100000
set_option maxHeartbeats 4000000
namespace L2
open PySem PySem.Spec PyProof.Rows
/-! ### marks -/
def Mkd (os : List Int) (mk : Nat) : Nat → Int → Prop
  | 0, _ => False
  | i + 1, x => Mkd os mk i x ∨ (¬ Mkd os mk i (i : Int) ∧ wkE os (i : Int) = (i : Int) ∧ Rch os (i : Int) x ∧ x < (mk : Int))
theorem Mkd.lt {os : List Int} {mk : Nat} {x : Int} : ∀ {i : Nat}, Mkd os mk i x → x < (mk : Int)
  | 0, h => h.elim
  | i + 1, h => by
    rcases h with h | h
    · exact Mkd.lt h
    · exact h.2.2.2
open Classical in
noncomputable def cnt (os : List Int) (mk : Nat) (i : Nat) : Int := if Mkd os mk i (i : Int) then 0 else ((wkM os (i : Int) : Nat) : Int)
theorem IsWalk.per {os : List Int} {p : Int} {m : Nat} {e : Int} (h : IsWalk os p m e) (he : e = p) : IsPer os p m :=
  ⟨h.1, by rw [← h.2.1]; exact he, fun j j1 jm z => by have := h.2.2.2 j j1 jm; omega⟩
end L2

set_option Elab.async false
set_option linter.all false
set_option maxRecDepth 100000
set_option maxHeartbeats 4000000
namespace L2
open PySem PySem.Spec PyProof.Rows
/-! ### a list or a tuple, gone through -/
def iLT (K : PySem.W.Frag) (tl : TE) : TI := fun σ H R => tl σ H fun x H1 => ∃ a, x = .ref a ∧ (((∃ xs, SqL K H1 a xs) ∧ R (Itl K a) H1) ∨ ((∃ xs, SqT K H1 a xs) ∧ R (Itt K a) H1))
/-! ### so many times, place by place -/
def IsTms (n : Nat) (os : List Int) (many : Int) (rs : List Int) : Prop := ∃ bs, IsOrd n bs ∧ (0 ≤ many → bs = os) ∧ (many < 0 → IsBack os bs) ∧ rs = pwl n bs many.natAbs
theorem IsTms.uniq {n : Nat} {os : List Int} (ho : IsOrd n os) {many : Int} {rs rs' : List Int} (h : IsTms n os many rs) (h' : IsTms n os many rs') : rs = rs' := by
  obtain ⟨bs, b1, b2, b3, rfl⟩ := h
  obtain ⟨cs, c1, c2, c3, rfl⟩ := h'
  by_cases z : 0 ≤ many
  · rw [b2 z, c2 z]
  · rw [IsBack.same ho (b3 (by omega)) (c3 (by omega))]
theorem back_nxt {n : Nat} {os bs : List Int} (ho : IsOrd n os) (h : IsBack os bs) {x : Int} (x0 : 0 ≤ x) (x1 : x < n) : nxt os (nxt bs x) = x := by
  obtain ⟨i, hi, e1, e2⟩ := IsBack.at ho h (j := x.toNat) (by omega)
  show os.getD (bs.getD x.toNat 0).toNat 0 = x
  rw [e2, Int.toNat_natCast, e1]
  omega
theorem ringsL_is {n : Nat} {os : List Int} (h : IsOrd n os) {r : List Int} : ∀ {i : Nat}, i ≤ n → r ∈ ringsL os i → ∃ (q : Nat) (L : Nat), q < n ∧ IsPer os (q : Int) L ∧ r = itl os (q : Int) L
  | 0, _, hr => by simp [ringsL] at hr
  | i + 1, hi, hr => by
    unfold ringsL at hr
    rcases List.mem_append.mp hr with z | z
    · exact ringsL_is h (by omega) z
    · by_cases c : Lead os i ∧ 1 < per os (i : Int)
      · rw [if_pos c] at z
        rw [List.mem_singleton.mp z]
        obtain ⟨m, hm, _⟩ := per_ex h (p := (i : Int)) (by omega) (by omega)
        refine ⟨i, m, by omega, hm, ?_⟩
        unfold ringOf
        rw [hm.per]
      · rw [if_neg c] at z; cases z
end L2

set_option Elab.async false
set_option linter.all false
set_option maxRecDepth 100000
set_option maxHeartbeats 4000000
namespace L2
open PySem PySem.Spec PyProof.Rows
theorem IsTms.ord {n : Nat} {os : List Int} {many : Int} {rs : List Int} (h : IsTms n os many rs) : IsOrd n rs := by
  obtain ⟨bs, b1, _, _, rfl⟩ := h
  exact pwl_ord b1 _
end L2

set_option Elab.async false
set_option linter.all false
set_option maxRecDepth 100000
set_option maxHeartbeats 4000000
namespace L2
open PySem PySem.Spec PyProof.Rows
section
variable {X : Cx}
/-! ### sum of a list of numbers, not below nought and not too great -/
/-! ### any of a list of truths -/
end
/-! ### a comprehension over enumerate of a list or a tuple -/
end L2

set_option Elab.async false
set_option linter.all false
set_option maxRecDepth 100000
set_option maxHeartbeats 4000000
namespace L2
open PySem PySem.Spec PyProof.Rows
/-! ### == of two lists of tuples with flat parts, where they are alike -/
def tfs (ps : List (Addr × List V)) : List V := ps.map fun r => V.ref r.1
def rEqP (K : PySem.W.Frag) (f : Bool → Bool) : R2 := fun x y H Q => ∃ p q ps qs, x = .ref p ∧ y = .ref q ∧ SqL K H p (tfs ps) ∧ SqL K H q (tfs qs) ∧ (∀ r ∈ ps, H r.1 = some (.tup r.2) ∧ r.2.all flatV = true ∧ eqVs r.2 r.2 = true) ∧ (∀ r ∈ qs, H r.1 = some (.tup r.2)) ∧ ps.map (·.2) = qs.map (·.2) ∧ Q (.bl (f true)) H
section
variable {X : Cx}
theorem tfs_at {ps : List (Addr × List V)} {i : Nat} {x : V} (h : (tfs ps)[i]? = some x) : ∃ r ∈ ps, ps[i]? = some r ∧ x = .ref r.1 := by
  unfold tfs at h
  rw [List.getElem?_map] at h
  cases e : ps[i]? with
  | none => rw [e] at h; cases h
  | some r =>
    rw [e] at h
    cases h
    obtain ⟨hi, e'⟩ := List.getElem?_eq_some_iff.mp e
    exact ⟨r, by rw [← e']; exact List.getElem_mem hi, rfl, rfl⟩
end
end L2

set_option Elab.async false
set_option linter.all false
set_option maxRecDepth 100000
set_option maxHeartbeats 4000000
namespace L2
open PySem PySem.Spec PyProof.Rows
theorem mr_extend {X : Cx} : MtR X "list.extend" rExtend := mt_extend
/-! ### going through a list of boxes -/
/-! ### a table turned -/
end L2

set_option Elab.async false
set_option linter.all false
set_option maxRecDepth 100000
set_option maxHeartbeats 4000000
namespace L2
open PySem PySem.Spec PyProof.Rows
/-! ### a list comprehension of several clauses -/
section
variable {prog : Program} {w : World} {A : Around} {R : Result → Shared → Prop} {s : Shared}
end

/-! the word of a loop within a comprehension: turns of an iterator, a target, a test, and what is done with each -/
def CL (J : It) (g : TG) (tt : TT) (tr : St → Hp → (St → Hp → Prop) → Prop) (N : St → Hp → Prop) (σ : St) (H : Hp) : Prop := ∃ W : Nat → Nat → St → Hp → Prop, (∃ m, W 0 m σ H) ∧ ∀ i m τ H2, W i m τ H2 →
  (J.stop i H2 ∧ N τ H2) ∨ (J.go i H2 ∧ ∃ N1 : St → Hp → Prop, (∀ τ' H', N1 τ' H' → ∃ m', m' < m ∧ W (i + 1) m' τ' H') ∧ ∀ x H', J.yld i H2 x H' → g x τ H' fun τ2 H3 => tt τ2 H3 fun b H4 =>
    if b = true then tr τ2 H4 N1 else N1 τ2 H4)
abbrev TR := St → Hp → (St → Hp → Prop) → Prop
def trLast (te : TE) (D : Addr) : TR := fun σ H N => te σ H fun v H5 => ∃ ys, H5 D = some (.lst ys) ∧ ys.length < sizeLine ∧ N σ (upd H5 D (.lst (ys ++ [v])))
def trNext (wi : TI) (g : TG) (tt : TT) (tr : Addr → TR) (D : Addr) : TR := fun σ H N => wi σ H fun J H1 => CL J g tt (tr D) N σ H1
section
variable {C : Cx} {elt tg iter : Expr} {ifs : List Expr} {gens : List Comprehension} {scope : Scope} {pos : Pos} {d : Nat} {D : Addr} {g : TG} {tt : TT} {te : TE} {tr : TR}
end
def tCompN (ts : List Nat) (wi : TI) (g : TG) (tt : TT) (tr : Addr → TR) : TE := fun σ H Q => wi σ H fun J H1 => ∀ D, H1 D = none → CL J g tt (tr D) (fun _ H2 => Q (.ref D) H2) (clr ts σ) (upd H1 D (.lst []))
section
variable {X : Cx} {ts : List Nat} {scope : Scope} {tg iter elt : Expr} {ifs : List Expr} {rest : List Comprehension} {wi : TI} {g : TG} {tt : TT} {tr : Addr → TR} {pos : Pos}
end
/-! ### walking -/
theorem tCompN_eq {ts : List Nat} {wi : TI} {g : TG} {tt : TT} {tr : Addr → TR} {σ : St} {H : Hp} {Q : VK} :
    tCompN ts wi g tt tr σ H Q = wi σ H (fun J H1 => ∀ D, H1 D = none → CL J g tt (tr D) (fun _ H2 => Q (.ref D) H2) (clr ts σ) (upd H1 D (.lst []))) := rfl
theorem trNext_eq {wi : TI} {g : TG} {tt : TT} {tr : Addr → TR} {D : Addr} {σ : St} {H : Hp} {N : St → Hp → Prop} : trNext wi g tt tr D σ H N = wi σ H (fun J H1 => CL J g tt (tr D) N σ H1) := rfl
theorem trLast_eq {te : TE} {D : Addr} {σ : St} {H : Hp} {N : St → Hp → Prop} : trLast te D σ H N = te σ H (fun v H5 => ∃ ys, H5 D = some (.lst ys) ∧ ys.length < sizeLine ∧ N σ (upd H5 D (.lst (ys ++ [v])))) := rfl
end L2

set_option Elab.async false
set_option linter.all false
set_option maxRecDepth 100000
set_option maxHeartbeats 4000000
namespace L2
open PySem PySem.Spec PyProof.Rows
/-! ### names at once out of a list -/
section
variable {P : Program} {w : World} {A : Around} {E : Value → Shared → Prop} {it l : Addr} {items : Array Value}
end
section
variable {X : Cx} {pos : Pos}
/-- (a, b, ..) = a list of that length -/
def gLst (K : PySem.W.Frag) (n : Nat) (t : TGs) : TG := fun v σ H Q => ∃ a xs, v = .ref a ∧ SqL K H a xs ∧ xs.length = n ∧ t xs σ H Q
end
end L2

set_option Elab.async false
set_option linter.all false
set_option maxRecDepth 100000
set_option maxHeartbeats 4000000
namespace L2
open PySem PySem.Spec PyProof.Rows
/-! ### orders put one behind the other, and spread over stretches -/
def rep (o : Nat) (G : List Int) : List Int := (List.range (o * G.length)).map fun (i : Nat) => ((i / G.length * G.length : Nat) : Int) + G.getD (i % G.length) 0
def spr (m : Nat) (C : List Int) : List Int := (List.range (C.length * m)).map fun (i : Nat) => C.getD (i / m) 0 * (m : Int) + ((i % m : Nat) : Int)
theorem rep_len (o : Nat) (G : List Int) : (rep o G).length = o * G.length := by simp [rep]
theorem spr_len (m : Nat) (C : List Int) : (spr m C).length = C.length * m := by simp [spr]
theorem rep_get {o i : Nat} {G : List Int} (h : i < o * G.length) : (rep o G).getD i 0 = ((i / G.length * G.length : Nat) : Int) + G.getD (i % G.length) 0 := by
  rw [getD_eq (by rw [rep_len]; exact h)]; simp [rep]
theorem spr_get {m i : Nat} {C : List Int} (h : i < C.length * m) : (spr m C).getD i 0 = C.getD (i / m) 0 * (m : Int) + ((i % m : Nat) : Int) := by
  rw [getD_eq (by rw [spr_len]; exact h)]; simp [spr]
theorem dm_lt {a b n : Nat} (h : a < b * n) : a / n < b ∧ a % n < n ∧ a / n * n + a % n = a ∧ 0 < n := by
  have hn : 0 < n := by rcases Nat.eq_zero_or_pos n with z | z; · subst z; simp at h
                        · exact z
  exact ⟨by rw [Nat.div_lt_iff_lt_mul hn]; exact h, Nat.mod_lt _ hn, by rw [Nat.mul_comm]; exact Nat.div_add_mod a n, hn⟩
theorem dm_of {q r n : Nat} (h : r < n) : (q * n + r) / n = q ∧ (q * n + r) % n = r := by
  have hn : 0 < n := by omega
  exact ⟨by rw [Nat.add_comm, Nat.add_mul_div_right _ _ hn, Nat.div_eq_of_lt h, Nat.zero_add], by rw [Nat.add_comm, Nat.add_mul_mod_self_right, Nat.mod_eq_of_lt h]⟩
theorem mul_lt {q b r n : Nat} (h1 : q < b) (h2 : r < n) : q * n + r < b * n := by
  have : (q + 1) * n ≤ b * n := Nat.mul_le_mul_right n h1
  rw [Nat.succ_mul] at this
  omega
theorem rep_at {o t k : Nat} {G : List Int} (ht : t < o) (hk : k < G.length) : (rep o G).getD (t * G.length + k) 0 = ((t * G.length : Nat) : Int) + G.getD k 0 := by
  rw [rep_get (mul_lt ht hk), (dm_of hk).1, (dm_of hk).2]
theorem spr_at {m i a : Nat} {C : List Int} (hi : i < C.length) (ha : a < m) : (spr m C).getD (i * m + a) 0 = C.getD i 0 * (m : Int) + (a : Int) := by
  rw [spr_get (mul_lt hi ha), (dm_of ha).1, (dm_of ha).2]
theorem IsOrd.rep {n o : Nat} {G : List Int} (h : IsOrd n G) : IsOrd (o * n) (rep o G) := by
  have hl := h.1
  refine isOrd_of (by rw [rep_len, hl]) (fun i hi => ?_) (fun i j hi hj e => ?_)
  · obtain ⟨d1, d2, d3, d4⟩ := dm_lt hi
    rw [rep_get (by rw [hl]; exact hi), hl]
    have b := h.getD d2
    have := mul_lt (r := (G.getD (i % n) 0).toNat) d1 (show _ < n by omega)
    omega
  · obtain ⟨d1, d2, d3, d4⟩ := dm_lt hi
    obtain ⟨e1, e2, e3, e4⟩ := dm_lt hj
    rw [rep_get (by rw [hl]; exact hi), rep_get (by rw [hl]; exact hj), hl] at e
    have b := h.getD d2
    have c := h.getD e2
    obtain ⟨x, hx⟩ : ∃ x : Nat, G.getD (i % n) 0 = x := ⟨_, (Int.toNat_of_nonneg b.1).symm⟩
    obtain ⟨y, hy⟩ : ∃ y : Nat, G.getD (j % n) 0 = y := ⟨_, (Int.toNat_of_nonneg c.1).symm⟩
    rw [hx, hy] at e
    have e' : i / n * n + x = j / n * n + y := by omega
    have q1 := dm_of (q := i / n) (r := x) (n := n) (by omega)
    have q2 := dm_of (q := j / n) (r := y) (n := n) (by omega)
    have r1 : i / n = j / n := by rw [← q1.1, ← q2.1, e']
    have r2 : x = y := by rw [← q1.2, ← q2.2, e']
    have r3 := h.inj d2 e2 (by rw [hx, hy, r2])
    rw [← d3, ← e3, r1, r3]
theorem IsBack.rep {n o : Nat} {G G' : List Int} (h : IsOrd n G) (hb : IsBack G G') : IsBack (rep o G) (rep o G') := by
  have hl := h.1
  have hl' : G'.length = n := by rw [hb.1, hl]
  refine ⟨by rw [rep_len, rep_len, hl, hl'], fun i hi => ?_⟩
  rw [rep_len, hl] at hi
  obtain ⟨d1, d2, d3, d4⟩ := dm_lt hi
  have b := h.getD d2
  rw [rep_get (G := G) (i := i) (by rw [hl]; exact hi), hl]
  obtain ⟨x, hx⟩ : ∃ x : Nat, G.getD (i % n) 0 = x := ⟨_, (Int.toNat_of_nonneg b.1).symm⟩
  rw [hx]
  have ht : ((i / n * n : Nat) : Int) + (x : Int) = ((i / n * n + x : Nat) : Int) := by omega
  rw [ht, Int.toNat_natCast]
  have := rep_at (o := o) (t := i / n) (k := x) (G := G') d1 (by omega)
  rw [hl'] at this
  rw [this]
  have q := hb.2 (i % n) (by omega)
  rw [hx, Int.toNat_natCast] at q
  rw [q]
  omega
theorem IsOrd.spr {n m : Nat} {C : List Int} (h : IsOrd n C) : IsOrd (n * m) (spr m C) := by
  have hl := h.1
  have key : ∀ i : Nat, i < n * m → ∃ x : Nat, x < n ∧ C.getD (i / m) 0 = x ∧ (L2.spr m C).getD i 0 = ((x * m + i % m : Nat) : Int) := fun i hi => by
    obtain ⟨d1, d2, d3, d4⟩ := dm_lt hi
    have b := h.getD d1
    obtain ⟨x, hx⟩ : ∃ x : Nat, C.getD (i / m) 0 = x := ⟨_, (Int.toNat_of_nonneg b.1).symm⟩
    refine ⟨x, by omega, hx, ?_⟩
    rw [spr_get (by rw [hl]; exact hi), hx]
    push_cast
    rfl
  refine isOrd_of (by rw [spr_len, hl]) (fun i hi => ?_) (fun i j hi hj e => ?_)
  · obtain ⟨d1, d2, d3, d4⟩ := dm_lt hi
    obtain ⟨x, hx, _, e⟩ := key i hi
    rw [e]
    have := mul_lt hx d2
    omega
  · obtain ⟨d1, d2, d3, d4⟩ := dm_lt hi
    obtain ⟨e1, e2, e3, e4⟩ := dm_lt hj
    obtain ⟨x, hx, hx', ex⟩ := key i hi
    obtain ⟨y, hy, hy', ey⟩ := key j hj
    rw [ex, ey] at e
    have e' : x * m + i % m = y * m + j % m := by omega
    have q1 := dm_of (q := x) d2
    have q2 := dm_of (q := y) e2
    have r1 : x = y := by rw [← q1.1, ← q2.1, e']
    have r2 : i % m = j % m := by rw [← q1.2, ← q2.2, e']
    have r3 := h.inj d1 e1 (by rw [hx', hy', r1])
    rw [← d3, ← e3, r2, r3]
theorem IsBack.spr {n m : Nat} {C C' : List Int} (h : IsOrd n C) (hb : IsBack C C') : IsBack (spr m C) (spr m C') := by
  have hl := h.1
  have hl' : C'.length = n := by rw [hb.1, hl]
  refine ⟨by rw [spr_len, spr_len, hl, hl'], fun i hi => ?_⟩
  rw [spr_len, hl] at hi
  obtain ⟨d1, d2, d3, d4⟩ := dm_lt hi
  have b := h.getD d1
  rw [spr_get (C := C) (i := i) (by rw [hl]; exact hi)]
  obtain ⟨x, hx⟩ : ∃ x : Nat, C.getD (i / m) 0 = x := ⟨_, (Int.toNat_of_nonneg b.1).symm⟩
  rw [hx]
  have ht : (x : Int) * (m : Int) + ((i % m : Nat) : Int) = ((x * m + i % m : Nat) : Int) := by push_cast; rfl
  rw [ht, Int.toNat_natCast, spr_at (by omega) d2]
  have q := hb.2 (i / m) (by omega)
  rw [hx, Int.toNat_natCast] at q
  rw [q]
  have : ((i / m : Nat) : Int) * (m : Int) + ((i % m : Nat) : Int) = ((i / m * m + i % m : Nat) : Int) := by push_cast; rfl
  rw [this, d3]
theorem take_D {ns : List Int} {i : Nat} (h : i < ns.length) : ns.take (i + 1) = ns.take i ++ [ns.getD i 0] := by
  have := take_succ_map (g := id) h
  simpa using this
end L2

set_option Elab.async false
set_option linter.all false
set_option maxRecDepth 100000
set_option maxHeartbeats 4000000
namespace L2
open PySem PySem.Spec PyProof.Rows
/-! ### zip of two tuples -/
section
variable {P : Program} {w : World} {A : Around} {E : Value → Shared → Prop} {s : Shared} {z TI TO i1 i2 l1 l2 : Addr} {k : Nat} {xs ys : Array Value} {x y a b : Value} {Q : Option Value → Shared → Prop}
end
open AutoSeq1 (wpAny_loadPart') in
def ItzT (K : PySem.W.Frag) (a b : Addr) : It :=
  ⟨fun i H => ∃ xs ys x y, SqT K H a xs ∧ SqT K H b ys ∧ xs[i]? = some x ∧ ys[i]? = some y, fun i H z H' => ∃ p x y, H p = none ∧ z = .ref p ∧ (∀ xs, SqT K H a xs → xs[i]? = some x) ∧ (∀ ys, SqT K H b ys → ys[i]? = some y) ∧ H' = upd H p (.tup [x, y]),
    fun i H => ∃ xs, SqT K H a xs ∧ xs.length ≤ i⟩
section
variable {X : Cx} {es : List Expr} {kt : Nat} {tp : Pos}
/-- zip of two lists or of two tuples -/
def iZipLT (K : PySem.W.Frag) (ta : TA) : TI := fun σ H R => ta σ H fun vs H1 => ∃ a b, vs = [.ref a, .ref b] ∧ (((∃ xs, SqL K H1 a xs) ∧ (∃ ys, SqL K H1 b ys) ∧ R (Itz K a b) H1) ∨ ((∃ xs, SqT K H1 a xs) ∧ (∃ ys, SqT K H1 b ys) ∧ R (ItzT K a b) H1))
end
end L2

set_option Elab.async false
set_option linter.all false
set_option maxRecDepth 100000
set_option maxHeartbeats 4000000
namespace L2
open PySem PySem.Spec PyProof.Rows
/-! ### slices of a list with a step -/
def slV (xs : List V) (lo hi st : Option Int) : List V := (sliceRange (sliceBounds lo hi st xs.length).1 (sliceBounds lo hi st xs.length).2.1 (sliceBounds lo hi st xs.length).2.2).filterMap fun k => xs[k]?
theorem vals_pick {xs : List V} {us : List Value} (r : Vals xs us) : ∀ ks : List Nat, Vals (ks.filterMap fun k => xs[k]?) (ks.filterMap fun k => us[k]?)
  | [] => .nil
  | k :: ks => by
    have ih := vals_pick r ks
    have hl := r.length
    by_cases h : k < xs.length
    · have e1 : xs[k]? = some xs[k] := List.getElem?_eq_getElem h
      obtain ⟨u, hu, ru⟩ := r.get e1
      rw [List.filterMap_cons_some e1, List.filterMap_cons_some hu]
      exact .cons ru ih
    · have e1 : xs[k]? = none := List.getElem?_eq_none (by omega)
      have e2 : us[k]? = none := List.getElem?_eq_none (by omega)
      rw [List.filterMap_cons_none e1, List.filterMap_cons_none e2]
      exact ih
def rSl3 (K : PySem.W.Frag) : V → Option Int → Option Int → Option Int → Hp → VK → Prop := fun x lo hi st H Q => ∃ a xs, x = .ref a ∧ SqL K H a xs ∧ st ≠ some 0 ∧ ∀ p, H p = none → Q (.ref p) (upd H p (.lst (slV xs lo hi st)))
def tSl3 (K : PySem.W.Frag) (te : TE) (tl th ts : TO) : TE := fun σ H Q => te σ H fun x H1 => tl σ H1 fun l H2 => th σ H2 fun u H3 => ts σ H3 fun z H4 => rSl3 K x l u z H4 Q
section
variable {X : Cx} {e st : Expr} {te : TE} {lo hi : Option Expr} {tl th ts : TO} {p2 pos : Pos}
theorem pe_slice3 (he : PE X e te) (hl : PO X lo tl) (hu : PO X hi th) (hst : PO X (some st) ts) : PE X (.Subscript e (.Slice lo hi (some st) p2) pos) (tSl3 X.K te tl th ts) := by
  intro pins s σ H Q I h
  refine Subscript_ (thn (he pins s σ H _ I h) fun v s1 ⟨x, H1, I1, r1, q1⟩ => ?_)
  refine wpAny_Slice (thn (hl pins s1 σ H1 _ I1 q1) fun vl s2 ⟨l, H2, I2, pl, q2⟩ => thn (hu pins s2 σ H2 _ I2 q2) fun vu s3 ⟨u, H3, I3, pu, q3⟩ => thn (hst pins s3 σ H3 _ I3 q3) fun vs s4 ⟨z, H4, I4, pz, q4⟩ => ?_)
  have I5 : Inv X pins σ H4 { s4 with heap := s4.heap.push { cls := .type "slice", data := .fields #[vl, vu, vs] } } := I4.kept (t' := s4.toks) fun b ob q => Heap.get?_push_of_some _ q
  obtain ⟨a, xs, rfl, hx, hz0, q⟩ := q4
  cases r1
  obtain ⟨its, r, ht, hz⟩ := I5.list hx
  have hlen := r.length
  show wpAny (model X.prog X.w) X.A (subscriptTail e (.Slice lo hi (some st) p2) (.ref a) (.ref s4.heap.objs.size)) (EP X pins σ Q) X.xe { s4 with heap := s4.heap.push { cls := .type "slice", data := .fields #[vl, vu, vs] } }
  refine tail_any (ops := [.ref a, .ref s4.heap.objs.size]) ht.isList.typeIs slot_list_getitem.lookup ?_ rfl
  refine wpAny_getItem_list_slice ht.isList (Heap.IsSliceOf.new ..) pl pu pz hz0 ?_ (by rw [List.size_toArray]; omega)
  have e1 : slicePick its.toArray l u z = (List.filterMap (fun x => its[x]?) (sliceRange (sliceBounds l u z xs.length).1 (sliceBounds l u z xs.length).2.1 (sliceBounds l u z xs.length).2.2)).toArray := by
    unfold slicePick
    rw [List.size_toArray, ← hlen]
    simp only [List.getElem?_toArray]
  have hsz := slicePick_size_le its.toArray l u z
  rw [e1] at hsz ⊢
  have rr := vals_pick r (sliceRange (sliceBounds l u z xs.length).1 (sliceBounds l u z xs.length).2.1 (sliceBounds l u z xs.length).2.2)
  have hl2 := rr.length
  refine ⟨.ref _, _, I5.laid (t' := s4.toks) (o := .lst (slV xs l u z)) (fun b ob q => Heap.get?_push_of_some _ q) (Nat.le_refl _) ?_, rfl, q _ (I5.hok.fresh (Nat.le_refl _))⟩
  refine ⟨?_, _, 0, rr, Heap.get?_push_size _ rfl⟩
  rw [List.size_toArray, List.size_toArray] at hsz
  show (slV xs l u z).length ≤ _
  unfold slV
  omega
end
theorem slV_back (xs : List V) : slV xs none (some 0) (some (-1)) = (xs.drop 1).reverse := by
  have hb : sliceBounds none (some 0) (some (-1)) xs.length = ((xs.length : Int) - 1, max (-1) (min 0 ((xs.length : Int) - 1)), -1) := rfl
  unfold slV
  rw [hb]
  have key : ∀ n, n = xs.length → sliceRange ((n : Int) - 1) (max (-1) (min 0 ((n : Int) - 1))) (-1) = (List.range (n - 1)).map fun k => n - 1 - k := by
    intro n _
    unfold sliceRange
    dsimp only
    rw [if_neg (by decide)]
    have hc : ((if (n : Int) - 1 > max (-1) (min 0 ((n : Int) - 1)) then ((n : Int) - 1 - max (-1) (min 0 ((n : Int) - 1)) - -1 - 1) / - -1 else 0).toNat) = n - 1 := by
      rcases Nat.eq_zero_or_pos n with z | z
      · subst z; decide
      · have e : max (-1) (min 0 ((n : Int) - 1)) = 0 := by omega
        rw [e]
        split
        · rw [show - -(1 : Int) = 1 from rfl, Int.ediv_one]; omega
        · omega
    rw [hc]
    refine List.map_congr_left fun k hk => ?_
    have : k < n - 1 := by simpa using hk
    omega
  show List.filterMap (fun k => xs[k]?) (sliceRange ((xs.length : Int) - 1) (max (-1) (min 0 ((xs.length : Int) - 1))) (-1)) = _
  rw [key xs.length rfl, List.filterMap_map]
  refine List.ext_getElem? fun i => ?_
  have hall : ∀ k, k < xs.length - 1 → ((fun k => xs[k]?) ∘ fun k => xs.length - 1 - k) k = some (xs.getD (xs.length - 1 - k) .non) := fun k hk => by
    show xs[xs.length - 1 - k]? = _
    rw [List.getD_eq_getElem?_getD, List.getElem?_eq_getElem (by omega)]; rfl
  have hfm : List.filterMap ((fun k => xs[k]?) ∘ fun k => xs.length - 1 - k) (List.range (xs.length - 1)) = (List.range (xs.length - 1)).map fun k => xs.getD (xs.length - 1 - k) .non := by
    have go : ∀ (ks : List Nat), (∀ k ∈ ks, k < xs.length - 1) → List.filterMap ((fun k => xs[k]?) ∘ fun k => xs.length - 1 - k) ks = ks.map fun k => xs.getD (xs.length - 1 - k) .non := by
      intro ks
      induction ks with
      | nil => intro _; rfl
      | cons k ks ih =>
        intro hk
        rw [List.filterMap_cons_some (hall k (hk k (by simp))), ih fun j hj => hk j (by simp [hj])]; rfl
    exact go _ fun k hk => by simpa using hk
  rw [hfm, List.getElem?_map]
  by_cases h : i < xs.length - 1
  · rw [List.getElem?_range h, List.getElem?_reverse (by rw [List.length_drop]; omega), List.getElem?_drop, List.length_drop]
    show some (xs.getD (xs.length - 1 - i) .non) = xs[1 + (xs.length - 1 - 1 - i)]?
    rw [List.getD_eq_getElem?_getD, show 1 + (xs.length - 1 - 1 - i) = xs.length - 1 - i by omega, List.getElem?_eq_getElem (by omega)]; rfl
  · rw [List.getElem?_eq_none (by rw [List.length_range]; omega), List.getElem?_eq_none (by rw [List.length_reverse, List.length_drop]; omega)]; rfl
end L2

set_option Elab.async false
set_option linter.all false
set_option maxRecDepth 100000
set_option maxHeartbeats 4000000
namespace L2
open PySem PySem.Spec PyProof.Rows
/-! ### how many places rings have together -/
theorem countP_disj {α : Type} (p q : α → Bool) : ∀ (l : List α), (∀ x ∈ l, ¬ (p x = true ∧ q x = true)) → l.countP (fun x => p x || q x) = l.countP p + l.countP q
  | [], _ => rfl
  | x :: l, h => by
    have ih := countP_disj p q l fun y hy => h y (by simp [hy])
    have hx := h x (by simp)
    rw [List.countP_cons, List.countP_cons, List.countP_cons, ih]
    cases hp : p x <;> cases hq : q x
    · simp
    · simp; omega
    · simp; omega
    · exact absurd ⟨hp, hq⟩ hx
theorem countP_one (n y : Nat) (h : y < n) : (List.range n).countP (fun x => decide (x = y)) = 1 := by
  induction n with
  | zero => omega
  | succ n ih =>
    rw [List.range_succ, List.countP_append]
    by_cases e : y = n
    · subst e
      have : (List.range y).countP (fun x => decide (x = y)) = 0 := by
        rw [List.countP_eq_zero]
        intro x hx
        have : x < y := by simpa using hx
        simp; omega
      rw [this]; simp
    · rw [ih (by omega)]
      have : ¬ n = y := fun z => e z.symm
      simp [this]
theorem countP_mem (n : Nat) : ∀ (R : List Nat), R.Nodup → (∀ x ∈ R, x < n) → (List.range n).countP (fun x => decide (x ∈ R)) = R.length
  | [], _, _ => by simp
  | y :: R, nd, hb => by
    have hy := List.nodup_cons.mp nd
    have e : (fun x => decide (x ∈ y :: R)) = fun x => decide (x = y) || decide (x ∈ R) := by
      funext x
      rw [Bool.eq_iff_iff]
      simp
    rw [e, countP_disj, countP_one n y (hb y (by simp)), countP_mem n R hy.2 fun x hx => hb x (by simp [hx]), List.length_cons, Nat.add_comm]
    intro x _ ⟨h1, h2⟩
    have h1' : x = y := by simpa using h1
    subst h1'
    exact hy.1 (by simpa using h2)
theorem fix_iff {n : Nat} {os : List Int} (h : IsOrd n os) {i : Nat} (hi : i < n) : 1 < per os (i : Int) ↔ ¬ os.getD i 0 = (i : Int) := by
  obtain ⟨M, hM, hMn⟩ := per_ex h (p := (i : Int)) (by omega) (by omega)
  rw [hM.per]
  have e1 : itn os 1 (i : Int) = os.getD i 0 := by
    show os.getD ((i : Int)).toNat 0 = _
    rw [Int.toNat_natCast]
  constructor
  · intro z e
    exact hM.2.2 1 (Nat.le_refl _) z (by rw [e1, e])
  · intro z
    rcases Nat.lt_or_ge 1 M with y | y
    · exact y
    · have : M = 1 := by have := hM.1; omega
      rw [this] at hM
      exact absurd (by rw [← e1, hM.2.1]) z
theorem itl_nodup {n : Nat} {os : List Int} (h : IsOrd n os) {p : Int} (p0 : 0 ≤ p) (p1 : p < n) {M : Nat} (hM : IsPer os p M) : (itl os p M).Nodup := by
  rw [List.nodup_iff_pairwise_ne, List.pairwise_iff_getElem]
  intro i j hi hj hij e
  rw [itl_len] at hi hj
  have e' : itn os i p = itn os j p := by
    have e1 : (itl os p M)[i]'(by rw [itl_len]; exact hi) = itn os i p := by simp [itl]
    have e2 : (itl os p M)[j]'(by rw [itl_len]; exact hj) = itn os j p := by simp [itl]
    rw [← e1, ← e2]; exact e
  have b := itn_bd h p0 p1 (j - i)
  have e2 : itn os (j - i) p = p := by
    refine (itn_inj h p0 p1 b.1 b.2 i ?_).symm
    rw [← itn_add, show i + (j - i) = j by omega]
    exact e'
  exact hM.2.2 (j - i) (by omega) (by omega) e2
/-- of a ring of two places or more no place stays -/
theorem ring_moves {n : Nat} {os : List Int} (h : IsOrd n os) {i x : Nat} (hi : i < n) (hx : x < n) (hp : 1 < per os (i : Int)) (r : Rch os (i : Int) (x : Int)) : ¬ os.getD x 0 = (x : Int) := by
  intro e
  have r2 := r.symm h (by omega) (by omega)
  obtain ⟨k, hk⟩ := r2
  have hfix : ∀ k, itn os k (x : Int) = (x : Int) := by
    intro k
    induction k with
    | zero => rfl
    | succ k ih =>
      show nxt os (itn os k (x : Int)) = _
      rw [ih]
      show os.getD ((x : Int)).toNat 0 = _
      rw [Int.toNat_natCast, e]
  rw [hfix k] at hk
  have : x = i := by omega
  subst this
  exact (fix_iff h hi).mp hp e
open Classical in
noncomputable def offS (os : List Int) (n i : Nat) : Nat := (List.range n).countP fun (x : Nat) => decide (Seen os i (x : Int) ∧ ¬ os.getD x 0 = (x : Int))
def lsum (rs : List (List Int)) : Nat := (rs.map List.length).sum
theorem lsum_app (a b : List (List Int)) : lsum (a ++ b) = lsum a + lsum b := by unfold lsum; rw [List.map_append, List.sum_append]
open Classical in
theorem lsum_rings {n : Nat} {os : List Int} (h : IsOrd n os) : ∀ i, i ≤ n → lsum (ringsL os i) = offS os n i
  | 0, _ => by
    unfold offS
    have : (List.range n).countP (fun (x : Nat) => decide (Seen os 0 (x : Int) ∧ ¬ os.getD x 0 = (x : Int))) = 0 := by
      rw [List.countP_eq_zero]
      intro x _ hx
      have := (of_decide_eq_true hx).1
      obtain ⟨q, hq, _⟩ := this
      omega
    rw [this]; rfl
  | i + 1, hi => by
    have ih := lsum_rings h i (by omega)
    show lsum (ringsL os i ++ _) = _
    rw [lsum_app, ih]
    obtain ⟨M, hM, hMn⟩ := per_ex h (p := (i : Int)) (by omega) (by omega)
    by_cases hL : Lead os i
    · have hns := Lead_iff.mp hL
      by_cases hp : 1 < per os (i : Int)
      · rw [if_pos ⟨hL, hp⟩]
        have e : (fun x : Nat => decide (Seen os (i + 1) (x : Int) ∧ ¬ os.getD x 0 = (x : Int))) = fun x : Nat => decide (Seen os i (x : Int) ∧ ¬ os.getD x 0 = (x : Int)) || decide (Rch os (i : Int) (x : Int) ∧ ¬ os.getD x 0 = (x : Int)) := by
          funext x
          rw [Bool.eq_iff_iff, Bool.or_eq_true, decide_eq_true_eq, decide_eq_true_eq, decide_eq_true_eq, Seen.succ]
          constructor
          · rintro ⟨a | a, b⟩
            · exact .inl ⟨a, b⟩
            · exact .inr ⟨a, b⟩
          · rintro (⟨a, b⟩ | ⟨a, b⟩)
            · exact ⟨.inl a, b⟩
            · exact ⟨.inr a, b⟩
        unfold offS
        rw [e, countP_disj]
        · congr 1
          have e2 : (List.range n).countP (fun x : Nat => decide (Rch os (i : Int) (x : Int) ∧ ¬ os.getD x 0 = (x : Int))) = (List.range n).countP (fun x : Nat => decide (x ∈ (itl os (i : Int) M).map Int.toNat)) := by
            refine List.countP_congr fun x hx => ?_
            have hx' : x < n := by simpa using hx
            rw [decide_eq_true_eq, decide_eq_true_eq, List.mem_map]
            constructor
            · rintro ⟨r, _⟩
              exact ⟨(x : Int), (Rch.mem_ring hM).mp r, by simp⟩
            · rintro ⟨y, hy, e⟩
              obtain ⟨k, hk, ek⟩ := itl_mem.mp hy
              have b := itn_bd h (p := (i : Int)) (by omega) (by omega) k
              have hyx : y = (x : Int) := by omega
              rw [hyx] at hy
              have r := (Rch.mem_ring hM).mpr hy
              exact ⟨r, ring_moves h (by omega) hx' hp r⟩
          have hnd := itl_nodup h (p := (i : Int)) (by omega) (by omega) hM
          rw [e2, countP_mem]
          · rw [List.length_map, itl_len]
            unfold lsum ringOf
            rw [hM.per]
            simp [itl_len]
          · rw [List.nodup_iff_pairwise_ne, List.pairwise_map]
            refine List.Pairwise.imp_of_mem (fun {a b} ha hb hab e => ?_) (List.nodup_iff_pairwise_ne.mp hnd)
            obtain ⟨k1, _, e1⟩ := itl_mem.mp ha
            obtain ⟨k2, _, e2⟩ := itl_mem.mp hb
            have b1 := itn_bd h (p := (i : Int)) (by omega) (by omega) k1
            have b2 := itn_bd h (p := (i : Int)) (by omega) (by omega) k2
            exact hab (by omega)
          · intro x hx
            obtain ⟨y, hy, e⟩ := List.mem_map.mp hx
            obtain ⟨k, hk, ek⟩ := itl_mem.mp hy
            have b := itn_bd h (p := (i : Int)) (by omega) (by omega) k
            omega
        · intro x _ ⟨h1, h2⟩
          exact Seen.apart h (by omega) hns (of_decide_eq_true h2).1 (of_decide_eq_true h1).1
      · rw [if_neg (fun z => hp z.2)]
        have e : offS os n (i + 1) = offS os n i := by
          unfold offS
          refine List.countP_congr fun x hx => ?_
          have hx' : x < n := by simpa using hx
          rw [decide_eq_true_eq, decide_eq_true_eq, Seen.succ]
          have hfix : os.getD i 0 = (i : Int) := Classical.byContradiction fun z => hp ((fix_iff h (by omega)).mpr z)
          constructor
          · rintro ⟨a | a, b⟩
            · exact ⟨a, b⟩
            · exfalso
              obtain ⟨k, hk⟩ := a
              have hstay : ∀ k, itn os k (i : Int) = (i : Int) := by
                intro k
                induction k with
                | zero => rfl
                | succ k ih =>
                  show nxt os (itn os k (i : Int)) = _
                  rw [ih]
                  show os.getD ((i : Int)).toNat 0 = _
                  rw [Int.toNat_natCast, hfix]
              rw [hstay k] at hk
              have : i = x := by omega
              subst this
              exact b hfix
          · rintro ⟨a, b⟩
            exact ⟨.inl a, b⟩
        rw [e]
        rfl
    · rw [if_neg (fun z => hL z.1)]
      have hs : Seen os i (i : Int) := Classical.byContradiction fun z => hL (Lead_iff.mpr z)
      have e : offS os n (i + 1) = offS os n i := by
        unfold offS
        refine List.countP_congr fun x hx => ?_
        rw [decide_eq_true_eq, decide_eq_true_eq, Seen.step h (by omega) hs]
      rw [e]
      rfl
open Classical in
theorem lsum_off {n : Nat} {os : List Int} (h : IsOrd n os) : lsum (ringsL os n) = offL os n := by
  rw [lsum_rings h n (Nat.le_refl n)]
  unfold offS offL
  rw [List.countP_eq_length_filter]
  congr 1
  refine List.filter_congr fun x hx => ?_
  have hx' : x < n := by simpa using hx
  rw [Bool.eq_iff_iff]
  constructor
  · intro z
    have := (of_decide_eq_true z).2
    simpa using this
  · intro z
    have z' : ¬ os.getD x 0 = (x : Int) := by simpa using z
    exact decide_eq_true ⟨⟨x, hx', Rch.refl⟩, z'⟩
/-! ### the rings of what puts back -/
theorem IsBack.symm {n : Nat} {os bs : List Int} (ho : IsOrd n os) (h : IsBack os bs) : IsBack bs os := by
  refine ⟨h.1.symm, fun j hj => ?_⟩
  rw [h.1, ho.1] at hj
  have := back_nxt ho h (x := (j : Int)) (by omega) (by omega)
  have e : nxt os (nxt bs (j : Int)) = os.getD (bs.getD ((j : Int)).toNat 0).toNat 0 := rfl
  rw [e, Int.toNat_natCast] at this
  exact this
end L2

set_option Elab.async false
set_option linter.all false
set_option maxRecDepth 100000
set_option maxHeartbeats 4000000
namespace L2
open PySem PySem.Spec PyProof.Rows
/-! ### swaps done in a row -/
def sw1 (row : List Int) (s : Nat × Nat) : List Int := (row.set s.1 (row.getD s.2 0)).set s.2 (row.getD s.1 0)
def swR (row : List Int) (l : List (Nat × Nat)) : List Int := l.foldl sw1 row
theorem sw1_len (row : List Int) (s : Nat × Nat) : (sw1 row s).length = row.length := by unfold sw1; rw [List.length_set, List.length_set]
theorem swR_len : ∀ (l : List (Nat × Nat)) (row : List Int), (swR row l).length = row.length
  | [], _ => rfl
  | s :: l, row => by show (swR (sw1 row s) l).length = _; rw [swR_len l, sw1_len]
theorem swR_app (row : List Int) (a b : List (Nat × Nat)) : swR row (a ++ b) = swR (swR row a) b := by unfold swR; rw [List.foldl_append]
theorem sw1_get {row : List Int} {a b x : Nat} (ha : a < row.length) (hb : b < row.length) : (sw1 row (a, b)).getD x 0 = if x = b then row.getD a 0 else if x = a then row.getD b 0 else row.getD x 0 := by
  unfold sw1
  rw [getD_set (by rw [List.length_set]; exact hb), getD_set ha]
/-- the first place of a ring with each other one -/
def starS (c : List Nat) : List (Nat × Nat) := (c.drop 1).map fun p => (c.getD 0 0, p)
theorem star_step {row : List Int} {c : List Nat} (nd : c.Nodup) (hb : ∀ x ∈ c, x < row.length) (h0 : ∀ x ∈ c, row.getD x 0 = (x : Int)) (hc : 1 ≤ c.length) : ∀ k, k < c.length →
    (swR row ((starS c).take k)).getD (c.getD 0 0) 0 = ((c.getD k 0 : Nat) : Int) ∧ (∀ i, 1 ≤ i → i ≤ k → (swR row ((starS c).take k)).getD (c.getD i 0) 0 = ((c.getD (i - 1) 0 : Nat) : Int)) ∧
      (∀ i, k < i → i < c.length → (swR row ((starS c).take k)).getD (c.getD i 0) 0 = ((c.getD i 0 : Nat) : Int)) ∧ ∀ x, x ∉ c → (swR row ((starS c).take k)).getD x 0 = row.getD x 0
  | 0, h => by
    have gm : ∀ i, i < c.length → c.getD i 0 ∈ c := fun i hi => by
      rw [List.getD_eq_getElem?_getD, List.getElem?_eq_getElem hi]; exact List.getElem_mem hi
    refine ⟨h0 _ (gm 0 h), fun i h1 h2 => by omega, fun i h1 h2 => h0 _ (gm i h2), fun x hx => rfl⟩
  | k + 1, h => by
    obtain ⟨i1, i2, i3, i4⟩ := star_step nd hb h0 hc k (by omega)
    have gm : ∀ i, i < c.length → c.getD i 0 ∈ c := fun i hi => by
      rw [List.getD_eq_getElem?_getD, List.getElem?_eq_getElem hi]; exact List.getElem_mem hi
    have inj : ∀ i j, i < c.length → j < c.length → c.getD i 0 = c.getD j 0 → i = j := fun i j hi hj e => by
      rw [List.getD_eq_getElem?_getD, List.getElem?_eq_getElem hi, List.getD_eq_getElem?_getD, List.getElem?_eq_getElem hj] at e
      exact (List.getElem_inj nd).mp e
    have hsl : (starS c).length = c.length - 1 := by unfold starS; rw [List.length_map, List.length_drop]
    have est : (starS c)[k]? = some (c.getD 0 0, c.getD (k + 1) 0) := by
      unfold starS
      rw [List.getElem?_map, List.getElem?_drop, List.getD_eq_getElem?_getD (i := k + 1), show 1 + k = k + 1 by omega, List.getElem?_eq_getElem h]; rfl
    have htk : (starS c).take (k + 1) = (starS c).take k ++ [(c.getD 0 0, c.getD (k + 1) 0)] := by rw [List.take_add_one, est]; rfl
    rw [htk, swR_app]
    show (sw1 (swR row ((starS c).take k)) (c.getD 0 0, c.getD (k + 1) 0)).getD _ _ = _ ∧ _
    have b0 : c.getD 0 0 < (swR row ((starS c).take k)).length := by rw [swR_len]; exact hb _ (gm 0 (by omega))
    have b1 : c.getD (k + 1) 0 < (swR row ((starS c).take k)).length := by rw [swR_len]; exact hb _ (gm (k + 1) h)
    have ne : c.getD 0 0 ≠ c.getD (k + 1) 0 := fun e => by have := inj 0 (k + 1) (by omega) h e; omega
    refine ⟨?_, fun i h1 h2 => ?_, fun i h1 h2 => ?_, fun x hx => ?_⟩
    · rw [sw1_get b0 b1, if_neg ne, if_pos rfl]
      exact i3 (k + 1) (by omega) h
    · show (sw1 _ _).getD _ _ = _
      rw [sw1_get b0 b1]
      by_cases e : i = k + 1
      · subst e
        rw [if_pos rfl, i1, show k + 1 - 1 = k by omega]
      · rw [if_neg (fun z => e (inj i (k + 1) (by omega) h z)), if_neg (fun z => by have := inj i 0 (by omega) (by omega) z; omega)]
        exact i2 i h1 (by omega)
    · show (sw1 _ _).getD _ _ = _
      rw [sw1_get b0 b1, if_neg (fun z => by have := inj i (k + 1) h2 h z; omega), if_neg (fun z => by have := inj i 0 h2 (by omega) z; omega)]
      exact i3 i (by omega) h2
    · show (sw1 _ _).getD _ _ = _
      rw [sw1_get b0 b1, if_neg (fun z => hx (by rw [z]; exact gm (k + 1) h)), if_neg (fun z => hx (by rw [z]; exact gm 0 (by omega)))]
      exact i4 x hx
noncomputable def starL (os : List Int) (i : Nat) : List (Nat × Nat) := ((ringsL os i).map fun r => starS (r.map Int.toNat)).flatten
open Classical in
/-- what stands where behind the swaps of the rings led from below i -/
theorem star_rings {n : Nat} {os : List Int} (h : IsOrd n os) : ∀ i, i ≤ n → (swR (rngL 0 1 n) (starL os i)).length = n ∧ (∀ t : Nat, t < n → Seen os i (t : Int) → (swR (rngL 0 1 n) (starL os i)).getD (os.getD t 0).toNat 0 = (t : Int)) ∧ ∀ t : Nat, t < n → ¬ Seen os i (t : Int) → (swR (rngL 0 1 n) (starL os i)).getD t 0 = (t : Int)
  | 0, _ => by
    refine ⟨rngL_length 0 1 n, fun t _ ⟨q, hq, _⟩ => by omega, fun t ht _ => ?_⟩
    show (rngL 0 1 n).getD t 0 = _
    exact rngL_getD n ht
  | i + 1, hi => by
    obtain ⟨l, ih1, ih2⟩ := star_rings h i (by omega)
    obtain ⟨M, hM, hMn⟩ := per_ex h (p := (i : Int)) (by omega) (by omega)
    have hst : starL os (i + 1) = starL os i ++ (((if Lead os i ∧ 1 < per os (i : Int) then [ringOf os (i : Int)] else []).map fun r => starS (r.map Int.toNat)).flatten) := by
      unfold starL
      show ((ringsL os i ++ _).map _).flatten = _
      rw [List.map_append, List.flatten_append]
    rw [hst, swR_app]
    generalize swR (rngL 0 1 n) (starL os i) = row at *
    by_cases hL : Lead os i
    · have hns := Lead_iff.mp hL
      by_cases hp : 1 < per os (i : Int)
      · rw [if_pos ⟨hL, hp⟩]
        have e1 : ([ringOf os (i : Int)].map fun r => starS (r.map Int.toNat)).flatten = starS ((itl os (i : Int) M).map Int.toNat) := by
          unfold ringOf
          rw [hM.per]
          simp
        rw [e1]
        have hcl : ((itl os (i : Int) M).map Int.toNat).length = M := by rw [List.length_map, itl_len]
        have cg : ∀ k, k < M → ((itl os (i : Int) M).map Int.toNat).getD k 0 = (itn os k (i : Int)).toNat := fun k hk => by
          rw [List.getD_eq_getElem?_getD, List.getElem?_map]
          unfold itl
          rw [List.getElem?_map, List.getElem?_range hk]; rfl
        have bd : ∀ k, 0 ≤ itn os k (i : Int) ∧ itn os k (i : Int) < n := fun k => itn_bd h (by omega) (by omega) k
        have hnd : ((itl os (i : Int) M).map Int.toNat).Nodup := by
          rw [List.nodup_iff_pairwise_ne, List.pairwise_map]
          refine List.Pairwise.imp_of_mem (fun {a b} ha hb hab e => ?_) (List.nodup_iff_pairwise_ne.mp (itl_nodup h (p := (i : Int)) (by omega) (by omega) hM))
          obtain ⟨k1, _, e1⟩ := itl_mem.mp ha
          obtain ⟨k2, _, e2⟩ := itl_mem.mp hb
          have b1 := bd k1
          have b2 := bd k2
          exact hab (by omega)
        have hmem : ∀ x : Nat, x ∈ (itl os (i : Int) M).map Int.toNat ↔ Rch os (i : Int) (x : Int) := fun x => by
          rw [List.mem_map, Rch.mem_ring hM]
          constructor
          · rintro ⟨y, hy, e⟩
            obtain ⟨k, hk, ek⟩ := itl_mem.mp hy
            have := bd k
            rw [show (x : Int) = y by omega]; exact hy
          · intro hx
            exact ⟨_, hx, by simp⟩
        have hfree : ∀ x ∈ (itl os (i : Int) M).map Int.toNat, x < n ∧ row.getD x 0 = (x : Int) := fun x hx => by
          have r := (hmem x).mp hx
          obtain ⟨k, hk⟩ := r
          have := bd k
          have hxn : x < n := by omega
          exact ⟨hxn, ih2 x hxn (Seen.apart h (by omega) hns ⟨k, hk⟩)⟩
        have hM1 := hM.1
        obtain ⟨s1, s2, s3, s4⟩ := star_step hnd (fun x hx => by rw [l]; exact (hfree x hx).1) (fun x hx => (hfree x hx).2) (by omega) (M - 1) (by omega)
        have htake : (starS ((itl os (i : Int) M).map Int.toNat)).take (M - 1) = starS ((itl os (i : Int) M).map Int.toNat) := by
          rw [List.take_of_length_le]
          unfold starS
          rw [List.length_map, List.length_drop, hcl]
          exact Nat.le_refl _
        rw [htake] at s1 s2 s3 s4
        refine ⟨by rw [swR_len]; exact l, fun t ht hs => ?_, fun t ht hs => ?_⟩
        · have nx : Rch os (t : Int) (os.getD t 0) := ⟨1, by show os.getD ((t : Int)).toNat 0 = _; rw [Int.toNat_natCast]⟩
          have gb := h.getD ht
          rcases Seen.succ.mp hs with z | z
          · have hnot : (os.getD t 0).toNat ∉ (itl os (i : Int) M).map Int.toNat := fun hm => by
              have r := (hmem _).mp hm
              rw [Int.toNat_of_nonneg gb.1] at r
              obtain ⟨q, hq, rq⟩ := z
              exact Seen.apart h (by omega) hns r ⟨q, hq, rq.trans nx⟩
            rw [s4 _ hnot]
            exact ih1 t ht z
          · obtain ⟨k, hk, ek⟩ := itl_mem.mp ((Rch.mem_ring hM).mp z)
            have enx : os.getD t 0 = itn os (k + 1) (i : Int) := by
              show _ = nxt os (itn os k (i : Int))
              rw [ek]
              show _ = os.getD ((t : Int)).toNat 0
              rw [Int.toNat_natCast]
            rw [enx]
            by_cases hlast : k + 1 = M
            · rw [hlast, hM.2.1]
              have : ((i : Int)).toNat = ((itl os (i : Int) M).map Int.toNat).getD 0 0 := by rw [cg 0 (by omega)]; rfl
              rw [this, s1, cg (M - 1) (by omega), show M - 1 = k by omega, ek]
              simp
            · have := s2 (k + 1) (by omega) (by omega)
              rw [cg (k + 1) (by omega), show k + 1 - 1 = k by omega, cg k hk, ek] at this
              rw [this]
              simp
        · have hnot : t ∉ (itl os (i : Int) M).map Int.toNat := fun hm => hs (Seen.succ.mpr (.inr ((hmem t).mp hm)))
          rw [s4 t hnot]
          exact ih2 t ht fun z => hs (Seen.succ.mpr (.inl z))
      · rw [if_neg (fun z => hp z.2)]
        have hfix : os.getD i 0 = (i : Int) := Classical.byContradiction fun z => hp ((fix_iff h (by omega)).mpr z)
        have hstay : ∀ k, itn os k (i : Int) = (i : Int) := by
          intro k
          induction k with
          | zero => rfl
          | succ k ih =>
            show nxt os (itn os k (i : Int)) = _
            rw [ih]
            show os.getD ((i : Int)).toNat 0 = _
            rw [Int.toNat_natCast, hfix]
        refine ⟨l, fun t ht hs => ?_, fun t ht hs => ih2 t ht fun z => hs (Seen.succ.mpr (.inl z))⟩
        rcases Seen.succ.mp hs with z | ⟨k, z⟩
        · exact ih1 t ht z
        · rw [hstay k] at z
          have : i = t := by omega
          subst this
          rw [hfix, Int.toNat_natCast]
          exact ih2 i ht hns
    · rw [if_neg (fun z => hL z.1)]
      have hs0 : Seen os i (i : Int) := Classical.byContradiction fun z => hL (Lead_iff.mpr z)
      exact ⟨l, fun t ht hs => ih1 t ht ((Seen.step h (by omega) hs0).mp hs), fun t ht hs => ih2 t ht fun z => hs ((Seen.step h (by omega) hs0).mpr z)⟩
theorem star_all {n : Nat} {os : List Int} (h : IsOrd n os) {t : Nat} (ht : t < n) : (swR (rngL 0 1 n) (starL os n)).getD (os.getD t 0).toNat 0 = (t : Int) :=
  (star_rings h n (Nat.le_refl n)).2.1 t ht ⟨t, ht, Rch.refl⟩
end L2

set_option Elab.async false
set_option linter.all false
set_option maxRecDepth 100000
set_option maxHeartbeats 4000000
namespace L2
open PySem PySem.Spec PyProof.Rows
/-! ### stretches turned about by swaps -/
theorem Room.u1 {k : Nat} {A : Around} (r : Room k A) : A.in1.units < cLine := by have := r.un; show A.units + 1 < _; omega
end L2

set_option Elab.async false
set_option linter.all false
set_option maxRecDepth 100000
set_option maxHeartbeats 4000000
namespace L2
open PySem PySem.Spec PyProof.Rows
/-! ### where a number stands in a list of numbers -/
def rIndex : V → List V → Hp → VK → Prop := fun x vs H Q => ∃ l ns i j, x = .ref l ∧ vs = [.int i] ∧ H l = some (il ns) ∧ j < ns.length ∧ ns.getD j 0 = i ∧ (∀ m, m < j → ns.getD m 0 ≠ i) ∧ Q (.int (j : Nat)) H
section
variable {X : Cx}
variable {o e : Expr} {es : List Expr} {to : TE} {t : TA} {name : Str} {apos cpos : Pos} {T id : String} {r : V → List V → Hp → VK → Prop} {K : PySem.W.Frag}
end
end L2

set_option Elab.async false
set_option linter.all false
set_option maxRecDepth 100000
set_option maxHeartbeats 4000000
namespace L2
open PySem PySem.Spec PyProof.Rows
/-! ### for over a range with a step -/
def Its (lo c : Int) (n : Nat) : It := ⟨fun i _ => i < n, fun i H x H' => H' = H ∧ x = .int (lo + i * c), fun i _ => n ≤ i⟩
section
variable {X : Cx} {tg : Expr}
def iRng3 (ta : TA) : TI := fun σ H R => ta σ H fun vs H1 => ∃ i j c : Int, vs = [.int i, .int j, .int c] ∧ c ≠ 0 ∧ c.natAbs < 1073741824 ∧ Builtin.Range.small i j c = true ∧ ∃ n : Nat, Builtin.Range.rangeSize i j c = (n : Int) ∧ R (Its i c n) H1
end
/-! ### deeds done in a row -/
inductive Dd where
  | take (p : Nat) | move (p g : Nat) | lay (g : Nat)
abbrev RS := List (Option Int) × Option Int × List Int
def inc (mv : List Int) (x : Int) : List Int := mv.set x.toNat (mv.getD x.toNat 0 + 1)
/-- a deed can be done and comes to -/
inductive Do : Dd → RS → RS → Prop
  | take {p : Nat} {row : List (Option Int)} {mv : List Int} {x : Int} : row[p]? = some (some x) → Do (.take p) (row, none, mv) (row.set p none, some x, inc mv x)
  | move {p g : Nat} {row : List (Option Int)} {h : Option Int} {mv : List Int} {x : Int} : row[p]? = some (some x) → row[g]? = some none → Do (.move p g) (row, h, mv) ((row.set p none).set g (some x), h, inc mv x)
  | lay {g : Nat} {row : List (Option Int)} {mv : List Int} {x : Int} : row[g]? = some none → Do (.lay g) (row, some x, mv) (row.set g (some x), none, inc mv x)
inductive Dos : List Dd → RS → RS → Prop
  | nil {s : RS} : Dos [] s s
  | cons {d : Dd} {l : List Dd} {s t u : RS} : Do d s t → Dos l t u → Dos (d :: l) s u
theorem Dos.append {a b : List Dd} {s t u : RS} (h1 : Dos a s t) (h2 : Dos b t u) : Dos (a ++ b) s u := by
  induction h1 with
  | nil => exact h2
  | cons d _ ih => exact .cons d (ih h2)
def mvP : Nat → List Nat → List Dd
  | _, [] => []
  | g, p :: ps => .move p g :: mvP p ps
def ringP (c : List Nat) : List Dd := .take (c.getD 0 0) :: mvP (c.getD 0 0) (c.drop 1).reverse ++ [.lay ((c.drop 1).reverse.getLastD (c.getD 0 0))]
/-- the moves of a ring: each place is filled by the thing of the next one of the row of places -/
theorem mv_do : ∀ (ps : List Nat) (g : Nat) (row : List (Option Int)) (h : Option Int) (mv : List Int), row[g]? = some none → (g :: ps).Nodup → (∀ p ∈ ps, row[p]? = some (some (p : Int))) →
    ∃ row', Dos (mvP g ps) (row, h, mv) (row', h, ps.foldl (fun m (p : Nat) => inc m (p : Int)) mv) ∧ row'.length = row.length ∧ row'[ps.getLastD g]? = some none ∧ (∀ (i p : Nat), ps[i]? = some p → row'[(g :: ps).getD i 0]? = some (some (p : Int))) ∧ ∀ x, x ∉ g :: ps → row'[x]? = row[x]?
  | [], g, row, h, mv, hg, _, _ => ⟨row, .nil, rfl, hg, fun i p e => by simp at e, fun x _ => rfl⟩
  | p :: ps, g, row, h, mv, hg, nd, hp => by
    have gl : g < row.length := (List.getElem?_eq_some_iff.mp hg).1
    have hp0 := hp p (by simp)
    have pl : p < row.length := (List.getElem?_eq_some_iff.mp hp0).1
    rw [List.nodup_cons] at nd
    obtain ⟨n1, n2⟩ := nd
    have ngp : g ≠ p := fun z => n1 (by rw [z]; simp)
    have at1 : ∀ x, ((row.set p none).set g (some (p : Int)))[x]? = if x = g then some (some (p : Int)) else if x = p then some none else row[x]? := by
      intro x
      rw [List.getElem?_set, List.getElem?_set, List.length_set]
      by_cases e1 : x = g
      · subst e1; simp [gl]
      · rw [if_neg (fun z => e1 z.symm), if_neg e1]
        by_cases e2 : x = p
        · subst e2; simp [pl]
        · rw [if_neg (fun z => e2 z.symm), if_neg e2]
    obtain ⟨row', d, l, hl, hs, ho⟩ := mv_do ps p ((row.set p none).set g (some (p : Int))) h (inc mv (p : Int)) (by rw [at1, if_neg (fun z => ngp z.symm), if_pos rfl]) n2 (fun q hq => by
      rw [at1, if_neg (fun z => n1 (by rw [← z]; simp [hq])), if_neg (fun z => (List.nodup_cons.mp n2).1 (by rw [← z]; exact hq))]
      exact hp q (by simp [hq]))
    refine ⟨row', .cons (.move hp0 hg) d, by rw [l, List.length_set, List.length_set], ?_, fun i q e => ?_, fun x hx => ?_⟩
    · rw [show (p :: ps).getLastD g = ps.getLastD p by simp [List.getLastD_eq_getLast?, List.getLast?_cons]]; exact hl
    · cases i with
      | zero =>
        have : p = q := by simpa using e
        subst this
        show row'[g]? = _
        rw [ho g n1, at1, if_pos rfl]
      | succ i => exact hs i q (by simpa using e)
    · have hx1 : x ≠ g := fun z => hx (by simp [z])
      have hx2 : x ∉ p :: ps := fun z => hx (List.mem_cons_of_mem _ z)
      rw [ho x hx2, at1, if_neg hx1, if_neg (fun z => hx2 (by simp [z]))]
def ringM (c : List Nat) (mv : List Int) : List Int := inc ((c.drop 1).reverse.foldl (fun m (p : Nat) => inc m (p : Int)) (inc mv ((c.getD 0 0 : Nat) : Int))) ((c.getD 0 0 : Nat) : Int)
/-- a ring gone round comes to what its swaps come to -/
theorem ring_do {R : List Int} {c : List Nat} {mv : List Int} (nd : c.Nodup) (hc : 2 ≤ c.length) (hb : ∀ x ∈ c, x < R.length) (h0 : ∀ x ∈ c, R.getD x 0 = (x : Int)) :
    Dos (ringP c) (R.map some, none, mv) ((swR R (starS c)).map some, none, ringM c mv) := by
  obtain ⟨c0, ct, rfl⟩ : ∃ c0 ct, c = c0 :: ct := by
    cases c with
    | nil => simp at hc
    | cons a b => exact ⟨a, b, rfl⟩
  have hat : ∀ x ∈ c0 :: ct, (R.map some)[x]? = some (some (x : Int)) := fun x hx => by
    rw [List.getElem?_map, List.getElem?_eq_getElem (hb x hx), ← h0 x hx, getD_eq (hb x hx)]; rfl
  have l0 : c0 < R.length := hb c0 (by simp)
  have nd' := List.nodup_cons.mp nd
  have hrow : ((R.map some).set c0 none)[c0]? = some none := by rw [List.getElem?_set, List.length_map]; simp [l0]
  obtain ⟨row', d, l, hl, hs, ho⟩ := mv_do ct.reverse c0 ((R.map some).set c0 none) (some (c0 : Int)) (inc mv (c0 : Int)) hrow
    (List.nodup_cons.mpr ⟨by simpa using nd'.1, (by have h := nd'.2; rw [List.nodup_iff_pairwise_ne] at h ⊢; rw [List.pairwise_reverse]; exact h.imp fun z => z.symm)⟩) (fun p hp => by
      have hp' : p ∈ ct := by simpa using hp
      rw [List.getElem?_set, if_neg (fun z => nd'.1 (by rw [z]; exact hp'))]
      exact hat p (by simp [hp']))
  have hct : 1 ≤ ct.length := by simpa using hc
  rw [List.length_set, List.length_map] at l
  have last : ct.reverse.getLastD c0 = ct.getD 0 0 := by
    cases ct with
    | nil => simp at hct
    | cons a b => simp [List.getLastD_eq_getLast?]
  have hl' := hl
  rw [last] at hl
  have e : row'.set (ct.getD 0 0) (some (c0 : Int)) = (swR R (starS (c0 :: ct))).map some := by
    obtain ⟨s1, s2, s3, s4⟩ := star_step (row := R) nd hb h0 (by omega) ((c0 :: ct).length - 1) (by simp)
    have htake : (starS (c0 :: ct)).take ((c0 :: ct).length - 1) = starS (c0 :: ct) := by
      rw [List.take_of_length_le]
      unfold starS
      rw [List.length_map, List.length_drop]
      exact Nat.le_refl _
    rw [htake] at s1 s2 s4
    have lsw := swR_len (starS (c0 :: ct)) R
    have l1 : ct.getD 0 0 < row'.length := by rw [l]; exact hb _ (by rw [List.getD_eq_getElem?_getD, List.getElem?_eq_getElem hct]; simp)
    refine List.ext_getElem? fun x => ?_
    rw [List.getElem?_set, List.getElem?_map]
    by_cases hx : x < R.length
    · have ex : (swR R (starS (c0 :: ct)))[x]? = some ((swR R (starS (c0 :: ct))).getD x 0) := by rw [List.getD_eq_getElem?_getD, List.getElem?_eq_getElem (by omega)]; rfl
      rw [ex]
      show _ = some (some _)
      by_cases hm : x ∈ c0 :: ct
      · obtain ⟨k, hk, ek⟩ := List.mem_iff_getElem.mp hm
        have gd : ∀ i (hi : i < (c0 :: ct).length), (c0 :: ct).getD i 0 = (c0 :: ct)[i] := fun i hi => by rw [List.getD_eq_getElem?_getD, List.getElem?_eq_getElem hi]; rfl
        rcases k with _ | _ | k
        · have ek : c0 = x := ek
          subst ek
          have ne : ct.getD 0 0 ≠ c0 := fun z => nd'.1 (by rw [← z, List.getD_eq_getElem?_getD, List.getElem?_eq_getElem hct]; simp)
          rw [if_neg ne]
          have := hs 0 (ct.getD (ct.length - 1) 0) (by rw [List.getElem?_reverse (by omega), List.getD_eq_getElem?_getD, show ct.length - 1 - 0 = ct.length - 1 by omega, List.getElem?_eq_getElem (by omega)]; rfl)
          rw [show (c0 :: ct.reverse).getD 0 0 = c0 from rfl] at this
          rw [this]
          have s1' : (swR R (starS (c0 :: ct))).getD c0 0 = _ := s1
          rw [s1', gd _ (by simp)]
          simp only [List.length_cons, Nat.add_sub_cancel]
          rw [List.getD_eq_getElem?_getD, List.getElem?_eq_getElem (by omega)]
          obtain ⟨m, hm'⟩ : ∃ m, ct.length = m + 1 := ⟨ct.length - 1, by omega⟩
          simp [hm']
        · have ek : ct[0] = x := ek
          have e0 : ct.getD 0 0 = x := by rw [List.getD_eq_getElem?_getD, List.getElem?_eq_getElem hct]; exact ek
          rw [if_pos e0, if_pos l1]
          have := s2 1 (Nat.le_refl 1) (by simp; omega)
          rw [gd 1 (by simpa using hk)] at this
          rw [show x = (c0 :: ct)[1] from ek.symm, this]
          rfl
        · have hk' : k + 1 < ct.length := by simpa using hk
          have ek : ct[k + 1] = x := ek
          have ne : ct.getD 0 0 ≠ x := fun z => by
            rw [List.getD_eq_getElem?_getD, List.getElem?_eq_getElem hct, ← ek] at z
            have := (List.getElem_inj nd'.2).mp (show ct[0] = ct[k + 1] from z)
            omega
          rw [if_neg ne]
          have hi1 : ct.length - 1 - (k + 1) < ct.reverse.length := by rw [List.length_reverse]; omega
          have := hs (ct.length - 1 - k) (ct.getD k 0) (by rw [List.getElem?_reverse (by omega), List.getD_eq_getElem?_getD, show ct.length - 1 - (ct.length - 1 - k) = k by omega, List.getElem?_eq_getElem (by omega)]; rfl)
          rw [show (c0 :: ct.reverse).getD (ct.length - 1 - k) 0 = x by
            rw [show ct.length - 1 - k = (ct.length - 1 - (k + 1)) + 1 by omega, List.getD_eq_getElem?_getD, List.getElem?_cons_succ, List.getElem?_reverse (by omega), show ct.length - 1 - (ct.length - 1 - (k + 1)) = k + 1 by omega, List.getElem?_eq_getElem hk']
            exact ek] at this
          rw [this]
          have s2' := s2 (k + 2) (by omega) (by simp; omega)
          rw [gd (k + 2) hk, show (c0 :: ct)[k + 2] = x from ek] at s2'
          rw [s2', show k + 2 - 1 = k + 1 by omega, gd (k + 1) (by simp; omega), List.getD_eq_getElem?_getD, List.getElem?_eq_getElem (by omega)]
          rfl
      · rw [s4 x hm]
        have hm2 : x ∉ c0 :: ct.reverse := fun z => hm (by simpa using z)
        have ne : ct.getD 0 0 ≠ x := fun z => hm (by rw [← z, List.getD_eq_getElem?_getD, List.getElem?_eq_getElem hct]; simp)
        rw [if_neg ne, ho x hm2, List.getElem?_set, if_neg (fun z => hm (by simp [z])), List.getElem?_map, getD_eq hx, List.getElem?_eq_getElem hx]
        rfl
    · have ne : ct.getD 0 0 ≠ x := fun z => by omega
      rw [if_neg ne, List.getElem?_eq_none (by omega), List.getElem?_eq_none (by omega)]
      rfl
  refine .cons (.take (hat c0 (by simp))) (Dos.append d (.cons (.lay hl') ?_))
  show Dos [] (row'.set (ct.reverse.getLastD c0) (some (c0 : Int)), none, ringM (c0 :: ct) mv) _
  rw [last, e]
  exact .nil
noncomputable def ringsM (os : List Int) (i : Nat) (mv : List Int) : List Int := (ringsL os i).foldl (fun m r => ringM (r.map Int.toNat) m) mv
noncomputable def ringsP (os : List Int) (i : Nat) : List Dd := ((ringsL os i).map fun r => ringP (r.map Int.toNat)).flatten
open Classical in
theorem rings_do {n : Nat} {os : List Int} (h : IsOrd n os) (mv : List Int) : ∀ i, i ≤ n → Dos (ringsP os i) ((rngL 0 1 n).map some, none, mv) ((swR (rngL 0 1 n) (starL os i)).map some, none, ringsM os i mv)
  | 0, _ => .nil
  | i + 1, hi => by
    have d1 := rings_do h mv i (by omega)
    obtain ⟨l, ih1, ih2⟩ := star_rings h i (by omega)
    obtain ⟨M, hM, hMn⟩ := per_ex h (p := (i : Int)) (by omega) (by omega)
    have hst : starL os (i + 1) = starL os i ++ (((if Lead os i ∧ 1 < per os (i : Int) then [ringOf os (i : Int)] else []).map fun r => starS (r.map Int.toNat)).flatten) := by
      unfold starL
      show ((ringsL os i ++ _).map _).flatten = _
      rw [List.map_append, List.flatten_append]
    have hrp : ringsP os (i + 1) = ringsP os i ++ (((if Lead os i ∧ 1 < per os (i : Int) then [ringOf os (i : Int)] else []).map fun r => ringP (r.map Int.toNat)).flatten) := by
      unfold ringsP
      show ((ringsL os i ++ _).map _).flatten = _
      rw [List.map_append, List.flatten_append]
    have hrm : ringsM os (i + 1) mv = (if Lead os i ∧ 1 < per os (i : Int) then [ringOf os (i : Int)] else []).foldl (fun m r => ringM (r.map Int.toNat) m) (ringsM os i mv) := by
      unfold ringsM
      show (ringsL os i ++ _).foldl _ _ = _
      rw [List.foldl_append]
    rw [hst, hrp, hrm, swR_app]
    by_cases hL : Lead os i ∧ 1 < per os (i : Int)
    · rw [if_pos hL]
      have hns := Lead_iff.mp hL.1
      have hM2 : 1 < M := by rw [← hM.per]; exact hL.2
      have e1 : ([ringOf os (i : Int)].map fun r => starS (r.map Int.toNat)).flatten = starS ((itl os (i : Int) M).map Int.toNat) := by
        unfold ringOf
        rw [hM.per]
        simp
      have e2 : ([ringOf os (i : Int)].map fun r => ringP (r.map Int.toNat)).flatten = ringP ((itl os (i : Int) M).map Int.toNat) := by
        unfold ringOf
        rw [hM.per]
        simp
      have e3 : [ringOf os (i : Int)].foldl (fun m r => ringM (r.map Int.toNat) m) (ringsM os i mv) = ringM ((itl os (i : Int) M).map Int.toNat) (ringsM os i mv) := by
        unfold ringOf
        rw [hM.per]
        rfl
      rw [e1, e2, e3]
      have hcl : ((itl os (i : Int) M).map Int.toNat).length = M := by rw [List.length_map, itl_len]
      have bd : ∀ k, 0 ≤ itn os k (i : Int) ∧ itn os k (i : Int) < n := fun k => itn_bd h (by omega) (by omega) k
      have hnd : ((itl os (i : Int) M).map Int.toNat).Nodup := by
        rw [List.nodup_iff_pairwise_ne, List.pairwise_map]
        refine List.Pairwise.imp_of_mem (fun {a b} ha hb hab e => ?_) (List.nodup_iff_pairwise_ne.mp (itl_nodup h (p := (i : Int)) (by omega) (by omega) hM))
        obtain ⟨k1, _, e1⟩ := itl_mem.mp ha
        obtain ⟨k2, _, e2⟩ := itl_mem.mp hb
        have b1 := bd k1
        have b2 := bd k2
        exact hab (by omega)
      have hfree : ∀ x ∈ (itl os (i : Int) M).map Int.toNat, x < n ∧ (swR (rngL 0 1 n) (starL os i)).getD x 0 = (x : Int) := fun x hx => by
        obtain ⟨y, hy, e⟩ := List.mem_map.mp hx
        obtain ⟨k, hk, ek⟩ := itl_mem.mp hy
        have := bd k
        have hxn : x < n := by omega
        exact ⟨hxn, ih2 x hxn (Seen.apart h (by omega) hns ⟨k, by omega⟩)⟩
      have d2 := ring_do (R := swR (rngL 0 1 n) (starL os i)) (mv := ringsM os i mv) hnd (by omega) (fun x hx => by rw [l]; exact (hfree x hx).1) (fun x hx => (hfree x hx).2)
      exact d1.append d2
    · rw [if_neg hL]
      exact d1.append .nil
end L2

set_option Elab.async false
set_option linter.all false
set_option maxRecDepth 100000
set_option maxHeartbeats 4000000
namespace L2
open PySem PySem.Spec PyProof.Rows
/-! ### how many unlike numbers -/
def unl (ns : List Int) : List Int := ns.foldl step_dedup []
theorem firstMet_unl (ns : List Int) : firstMet (fun i => ns.getD i 0) ns.length = unl ns := by
  unfold firstMet unl
  congr 1
  refine List.ext_getElem (by simp) fun i h1 h2 => ?_
  rw [List.getElem_map, List.getElem_range]
  exact getD_eq h2
theorem foldl_nodup : ∀ (ns acc : List Int), (acc ++ ns).Nodup → ns.foldl step_dedup acc = acc ++ ns
  | [], acc, _ => by simp
  | x :: ns, acc, h => by
    have hx : x ∉ acc := fun z => by
      rw [List.nodup_append] at h
      exact h.2.2 x z x (by simp) rfl
    have e : step_dedup acc x = acc ++ [x] := by
      unfold step_dedup
      rw [if_neg]
      intro z
      obtain ⟨y, hy, e⟩ := List.any_eq_true.mp z
      have : y = x := by simpa using e
      exact hx (this ▸ hy)
    show ns.foldl step_dedup (step_dedup acc x) = _
    rw [e, foldl_nodup ns (acc ++ [x]) (by simpa using h)]
    simp
theorem unl_nodup {ns : List Int} (h : ns.Nodup) : (unl ns).length = ns.length := by
  unfold unl
  rw [foldl_nodup ns [] (by simpa using h)]
  rfl
theorem ints_are : ∀ {ns : List Int} {its : List Value}, Vals (ns.map V.int) its → IntsAre its ns
  | [], _, h => by cases h; exact .nil
  | n :: ns, _, h => by
    cases h with
    | cons r rr =>
      obtain ⟨t, rfl⟩ := r
      exact .cons n t (ints_are rr)
theorem bt_set : bootBuiltins "set" = some (.type "set") := by decide +kernel
section
variable {X : Cx} {K : PySem.W.Frag}
theorem call_setI (hc : X.calm = true) (hK : X.K = K) : CallR X (.type "set") (fun xs H Q => ∃ p ns, xs = [.ref p] ∧ SqL K H p (ns.map V.int) ∧ ns.length ≤ 4000 ∧ ∀ l S, H l = none → Q (.ref l) (upd H l (.set S (unl ns).length))) := by
  subst hK
  intro pins s σ H xs us Q I r h
  obtain ⟨p, ns, rfl, hq, hz, q⟩ := h
  obtain ⟨u, rfl, rx⟩ := vals1 r
  cases rx
  obtain ⟨its, r', pl, _⟩ := I.list hq
  have hlen := r'.length
  rw [List.length_map] at hlen
  refine call_set_list (ns := ns) (items := its.toArray) (I.ok.hd hc) pl.isList (by simpa using ints_are r') (by rw [List.size_toArray]; show its.length + 1 < 4096; omega) fun h' tk hs hk => ?_
  rw [show its.toArray.size = ns.length by simp [hlen], firstMet_unl] at hs
  have new : ObjOk X.prog X.w (upd H s.heap.objs.size (.set (fun k' => (unl ns).any fun x => x == k') (unl ns).length)) h' s.heap.objs.size (.set (fun k' => (unl ns).any fun x => x == k') (unl ns).length) := hs
  exact ⟨.ref s.heap.objs.size, _, I.laid (t' := tk) (fun b o e => hk b o (Heap.lt_size e) e) (Nat.le_refl _) new, rfl, q _ _ (I.hok.fresh (Nat.le_refl _))⟩
theorem call_lenS : CallR X (.builtin "len") (fun xs H Q => ∃ p S n, xs = [.ref p] ∧ H p = some (.set S n) ∧ Q (.int (n : Nat)) H) := by
  intro pins s σ H xs us Q I r h
  obtain ⟨p, S, n, rfl, hp, q⟩ := h
  obtain ⟨u, rfl, rx⟩ := vals1 r
  cases rx
  obtain ⟨o, es, ep, t, e, ex, hd, _, _, hsz, hf, hn⟩ := (show ObjOk X.prog X.w H s.heap p (.set S n) from I.hok _ _ hp)
  have hsb : es.size < 4096 := hsz
  exact call_len_set e ex hd hf (by omega) ⟨.int (n : Nat), H, I.tok _, ⟨s.toks + 1, by rw [hn]⟩, q⟩
end
end L2

set_option Elab.async false
set_option linter.all false
set_option maxRecDepth 100000
set_option maxHeartbeats 4000000
namespace L2
open PySem PySem.Spec PyProof.Rows
/-! ### plans that differ not -/
section
variable {X : Cx}
end
end L2

set_option Elab.async false
set_option linter.all false
set_option maxRecDepth 100000
set_option maxHeartbeats 4000000
namespace L2
open PySem PySem.Spec PyProof.Rows
/-! ### a list and the empty one -/
def rNil (K : PySem.W.Frag) (f : Bool → Bool) : R2 := fun x y H Q => ∃ p q xs, x = .ref p ∧ y = .ref q ∧ SqL K H p xs ∧ SqL K H q [] ∧ Q (.bl (f xs.isEmpty)) H
section
variable {X : Cx}
end
/-! ### a list or tuple turned about -/
theorem slV_rev (xs : List V) : slV xs none none (some (-1)) = xs.reverse := by
  have hb : sliceBounds none none (some (-1)) xs.length = ((xs.length : Int) - 1, -1, -1) := rfl
  unfold slV
  rw [hb]
  have key : sliceRange ((xs.length : Int) - 1) (-1) (-1) = (List.range xs.length).map fun k => xs.length - 1 - k := by
    unfold sliceRange
    dsimp only
    rw [if_neg (by decide)]
    have hc : ((if (xs.length : Int) - 1 > -1 then ((xs.length : Int) - 1 - -1 - -1 - 1) / - -1 else 0).toNat) = xs.length := by
      split
      · rw [show - -(1 : Int) = 1 from rfl, Int.ediv_one]; omega
      · omega
    rw [hc]
    refine List.map_congr_left fun k hk => ?_
    have : k < xs.length := by simpa using hk
    omega
  show List.filterMap (fun k => xs[k]?) (sliceRange ((xs.length : Int) - 1) (-1) (-1)) = _
  rw [key, List.filterMap_map]
  have go : ∀ (ks : List Nat), (∀ k ∈ ks, k < xs.length) → List.filterMap ((fun k => xs[k]?) ∘ fun k => xs.length - 1 - k) ks = ks.map fun k => xs.reverse.getD k .non := by
    intro ks
    induction ks with
    | nil => intro _; rfl
    | cons k ks ih =>
      intro hk
      have h0 := hk k (by simp)
      have e2 : ((fun k => xs[k]?) ∘ fun k => xs.length - 1 - k) k = some (xs.reverse.getD k .non) := by
        show xs[xs.length - 1 - k]? = _
        rw [List.getD_eq_getElem?_getD, List.getElem?_reverse h0, List.getElem?_eq_getElem (by omega)]; rfl
      rw [List.filterMap_cons_some e2, ih fun j hj => hk j (by simp [hj])]; rfl
  rw [go _ fun k hk => by simpa using hk]
  refine List.ext_getElem? fun i => ?_
  rw [List.getElem?_map]
  by_cases h : i < xs.length
  · rw [List.getElem?_range h, List.getElem?_eq_getElem (by rw [List.length_reverse]; exact h)]
    show some (xs.reverse.getD i .non) = _
    rw [List.getD_eq_getElem?_getD, List.getElem?_eq_getElem (by rw [List.length_reverse]; exact h)]; rfl
  · rw [List.getElem?_eq_none (by rw [List.length_range]; omega), List.getElem?_eq_none (by rw [List.length_reverse]; omega)]; rfl
/-- x[::-1] of a list or a tuple -/
def rRev (K : PySem.W.Frag) : V → Hp → VK → Prop := fun x H Q => ∃ a xs, x = .ref a ∧ ((SqL K H a xs ∧ ∀ p, H p = none → Q (.ref p) (upd H p (.lst xs.reverse))) ∨ (SqT K H a xs ∧ ∀ p, H p = none → Q (.ref p) (upd H p (.tup xs.reverse))))
def tRev (K : PySem.W.Frag) (te : TE) (ts : TO) : TE := fun σ H Q => te σ H fun x H1 => ts σ H1 fun z H2 => z = some (-1) ∧ rRev K x H2 Q
section
variable {X : Cx} {e st : Expr} {te : TE} {ts : TO} {p2 pos : Pos}
end
end L2

set_option Elab.async false
set_option linter.all false
set_option maxRecDepth 100000
set_option maxHeartbeats 4000000
namespace L2
open PySem PySem.Spec PyProof.Rows
/-! ### two lists of flat things that are alike -/
def rNeF (K : PySem.W.Frag) : R2 := fun x y H Q => ∃ p q xs, x = .ref p ∧ y = .ref q ∧ SqL K H p xs ∧ SqL K H q xs ∧ xs.all flatV = true ∧ eqVs xs xs = true ∧ Q (.bl false) H
section
variable {X : Cx}
theorem op_neF (hu : X.A.units + 64 < cLine) : OpR X (compareOp .NotEq) (rNeF X.K) := by
  intro pins s σ H x y v u Q I rx ry h
  obtain ⟨p, q, xs, rfl, rfl, h1, h2, hf, he, k⟩ := h
  cases rx
  cases ry
  obtain ⟨us, r1, p1, z1⟩ := I.list h1
  obtain ⟨ws, r2, p2, z2⟩ := I.list h2
  have l1 := r1.length
  have l2 := r2.length
  refine EqBoolInt.of_rcne (SeqAt.RcNeAt.lists (e := fun j => eqV (xs.getD j .non) (xs.getD j .non)) p1.isList p2.isList (by simp; omega) (by omega) (fun j h1' h2' => eqL_items r1 r2 hf hf j h1' h2')) ⟨.bl false, H, I, ?_, k⟩
  show (Value.bool (!(List.range us.toArray.size).all fun j => eqV (xs.getD j .non) (xs.getD j .non))) = Value.bool false
  congr 1
  rw [Bool.not_eq_false', List.size_toArray, ← l1, ← eqVs_all rfl]
  exact he
end
end L2

set_option Elab.async false
set_option linter.all false
set_option maxRecDepth 100000
set_option maxHeartbeats 4000000
namespace Ot
open PySem PySem.Spec PyProof.Rows L2

def top (i : Nat) : Stmt := PySem.Challenge.pw_ownturn_k44_whole_weaving_walked.main.body.getD i (.Pass ⟨0, 0, 0, 0⟩)
section
variable {P : Program} {w : World} {K : PySem.W.Frag} {mg : Str → Option Value} {base : Heap} {k : Nat}
local macro_rules | `(tactic| walk_at "rd") => `(tactic| try simp only [tTrue, tSeq, tIfS, tTest, tOp, tUn, rU, tVar, tC, tB, rIxL, rIxT, rIxLT, rI0, rI, tAsg, gName, tRet, tRetN, tDrop, tNext, gTup, gCons, gNil, gSub, tCB, tCons, tNil, tInts, tCall, rSetL, rSetLO, rCat, rRep, rEq, rNe, rEqI, tLst, tTup, tBM, rAppend, rInsert, rExtend, rReverse, rClear, tBM0, gLst, tCompN_eq, iZipLT, tSl3, rSl3, rEqP, rIndex, rNil, rNeF, rIxS, tRev, rRev, tDGet, tDisp, tPairs, rCatT, trNext_eq, trLast_eq, tIf, tOr, tAnd, tNot, tOrV, tAndV, tNotV, tPar, tPar3, tAug, tFor_eq, tComp_eq, cxK, iRng1, iRng2, iRng3, iList, iTup, iLT, iEnum, iEnumLT, iZip, tDNewK, tDNotIn, tDIn, sDPut, tSl, tPart, tNoPart, rSlL, List.append_nil,
  List.getElem?_cons_zero, List.getElem?_cons_succ, Option.some.injEq, exists_eq_left', exists_eq_left, V.int.injEq, V.ref.injEq, V.bl.injEq, List.cons.injEq, and_true, true_and, and_assoc, decide_eq_true_eq, Bool.not_eq_true', decide_eq_false_iff_not, Bool.false_eq_true, if_false, if_true, reduceIte, exists_and_left, exists_and_right, List.set_cons_zero, List.set_cons_succ, List.nil_append, List.cons_append])
theorem ne_of_none' {H : Hp} {a b : Addr} {o : HO} (h' : H b = none) (h : H a = some o) : a ≠ b := ne_of_none h h'
theorem Kp_free' {H H' : Hp} {l : Addr} (h : H' l = none) (e : Kp [] H H') : H l = none := e.free h
theorem Kp_sq' {K : PySem.W.Frag} {H H' : Hp} {a : Addr} {xs : List V} (h : SqL K H a xs) (e : Kp [] H H') : SqL K H' a xs := by
  rcases h with (h | ⟨o, h⟩) | h
  · exact .inl (.inl (e _ _ (by simp) h))
  · exact .inl (.inr ⟨o, e _ _ (by simp) h⟩)
  · exact .inr h
theorem hsl : 100000 < sizeLine := by rw [sizeLine_eq]; decide
theorem rep1 {α : Type} (k : Nat) (v : α) : (List.replicate k [v]).flatten = List.replicate k v := by simp
theorem mod_bd (i : Int) {j : Int} (h : 0 < j) : 0 ≤ i % j ∧ i % j < j := ⟨Int.emod_nonneg _ (by omega), Int.emod_lt_of_pos _ h⟩
theorem cmul_l {i j : Int} (h1 : 0 ≤ i) (h2 : i < 18446744073709551616) : CMul i j := .inl ⟨by omega, by omega⟩
theorem cmul_r {i j : Int} (h1 : 0 ≤ j) (h2 : j < 18446744073709551616) : CMul i j := .inr ⟨by omega, by omega⟩
theorem b01 (c : Prop) [Decidable c] : 0 ≤ (if c then (1 : Int) else 0) := by split <;> decide
theorem b01' (c : Prop) [Decidable c] : (if c then (1 : Int) else 0) < 18446744073709551616 := by split <;> decide
theorem cdiv_of {i j : Int} (h1 : 0 < j) (h2 : j < 1073741824) : CDiv i j := ⟨h1, h2⟩
local macro_rules | `(tactic| walk_at "ne") => `(tactic| first | (with_reducible assumption) | exact Ne.symm (by with_reducible assumption) | exact ne_of_none' (by with_reducible assumption) (by walk_at "hp") | exact Ne.symm (ne_of_none' (by with_reducible assumption) (by walk_at "hp")))
local macro_rules | `(tactic| walk_at "hp") => `(tactic| first | (with_reducible assumption) | (with_reducible exact upd_same) | ((with_reducible refine Eq.trans (upd_ne ?ne) ?_); (case ne => walk_at "ne"); walk_at "hp"))
local macro_rules | `(tactic| walk_at "kp") => `(tactic| first | (with_reducible assumption) | (with_reducible exact Kp.refl) | ((with_reducible refine Kp.trans ?_ (Kp.new _ ?h)); (case h => with_reducible assumption); walk_at "kp") | ((with_reducible refine Kp.trans ?_ (Kp.set _ ?h)); (case h => (simp; done)); walk_at "kp"))
local macro_rules | `(tactic| walk_at "fr") => `(tactic| first | (with_reducible assumption) | exact Kp_free' (by with_reducible assumption) (by walk_at "kp"))
local macro_rules | `(tactic| walk_at "sz") => `(tactic| (simp only [List.length_cons, List.length_nil, List.length_map, List.length_append, List.length_replicate, List.length_take, List.length_drop, rngL_length, rep1, Nat.zero_add, Nat.one_mul]; omega))
local macro_rules | `(tactic| walk_at "fact") => `(tactic| first | (with_reducible assumption) | exact rfl | exact SqL.of (by walk_at "hp") | exact SqT.of (by walk_at "hp") | exact Or.inl (SqL.of (by walk_at "hp")) | exact Or.inr (SqT.of (by walk_at "hp")) | exact Or.inl (by with_reducible assumption) | exact Kp_sq' (by with_reducible assumption) (by walk_at "kp") | exact Or.inl (Kp_sq' (by with_reducible assumption) (by walk_at "kp")) | exact Exists.intro _ (SqL.of (by walk_at "hp")) | exact Exists.intro _ (Kp_sq' (by with_reducible assumption) (by walk_at "kp")) | (walk_at "hp") | decide | omega | exact cmul_l (by omega) (by omega) | exact cmul_r (by omega) (by omega) | exact cdiv_of (by omega) (by omega) | exact ⟨by omega, by omega⟩ | (walk_at "sz") | exact ⟨by decide, by decide, by decide⟩ | exact cmul_r (b01 _) (b01' _) | (walk_at "fr"))
local macro_rules | `(tactic| walk_at "x1") => `(tactic| first
  | ((with_reducible refine Exists.intro ?w (And.intro ?h ?_)); (case h => walk_at "fact"))
  | ((with_reducible refine And.intro ?h ?_); (case h => walk_at "fact"))
  | ((with_reducible refine Exists.intro ?w (Exists.intro ?w2 (And.intro ?h ?_))); (case h => walk_at "fact")))
local macro_rules | `(tactic| walk_at "xs") => `(tactic| repeat walk_at "x1")
theorem cutV_map (ns : List Int) (lo hi : Option Int) : cutV (ns.map V.int) lo hi = List.map V.int ((ns.drop (HT.sIx ns.length 0 lo)).take (HT.sIx ns.length ns.length hi - HT.sIx ns.length 0 lo)) := by
  unfold cutV
  rw [List.length_map, ← List.map_drop, ← List.map_take]
theorem set_map (cs : List Int) (j : Nat) (v : Int) : (cs.map V.int).set j (.int v) = (cs.set j v).map V.int := by rw [List.map_set]
theorem get_map_int {cs : List Int} {k : Int} (h0 : 0 ≤ k) (h1 : k < cs.length) : ixN (cs.map V.int).length k = some k.toNat ∧ atI (cs.map V.int) k = some (.int (cs.getD k.toNat 0)) := by
  have hk : k.toNat < cs.length := by omega
  have e1 : ixN (cs.map V.int).length k = some k.toNat := by unfold ixN; rw [List.length_map, if_pos h0, if_pos h1]
  refine ⟨e1, ?_⟩
  unfold atI
  rw [e1]
  show (cs.map V.int)[k.toNat]? = _
  rw [List.getElem?_map, List.getD_eq_getElem?_getD, List.getElem?_eq_getElem hk]; rfl
theorem get_map_elim {ns : List Int} {i : Nat} {x : V} (h : (ns.map V.int)[i]? = some x) : x = .int (ns.getD i 0) ∧ i < ns.length := by
  rw [List.getElem?_map] at h
  cases e : ns[i]? with
  | none => rw [e] at h; cases h
  | some v =>
    rw [e] at h
    cases h
    exact ⟨by rw [List.getD_eq_getElem?_getD, e]; rfl, (List.getElem?_eq_some_iff.mp e).1⟩
theorem Kp.un {bs : List Addr} {p : Addr} {H H' : Hp} (h : Kp (p :: bs) H H') (hp : H p = none) : Kp bs H H' := fun c o n e => h c o (by
  intro z
  rcases List.mem_cons.mp z with z | z
  · subst z; rw [hp] at e; cases e
  · exact n z) e
theorem Kp_lt {K : PySem.W.Frag} {H H' : Hp} {a : Addr} {xs : List V} (h : SqL K H a xs ∨ SqT K H a xs) (e : Kp [] H H') : SqL K H' a xs ∨ SqT K H' a xs := h.imp (fun z => sqL_kp z e) (fun z => sqT_kp z e)
def rfs (rs : List (Addr × List Int)) : List V := rs.map fun r => V.ref r.1
abbrev s_take : Stmt := top 20
theorem sc_take : FnScope ["_law_box_here", "_law_many", "_law_once", "_law_found"] ["_law_box_here", "_law_many"] (defScope s_take) := ⟨rfl, rfl, rfl, by decide +kernel, rfl, by decide +kernel, by decide +kernel⟩
def spTake : Sp := fun vs H Q _ => ∃ (b : Addr) (many : Int) (N : Nat), vs = [.ref b, .int many] ∧ Bx H b N ∧ N < 1000000000 ∧ 0 < many ∧ many < 1073741824 ∧ ∀ r H', Kp [b] H H' → Bx H' b (N + 1) → 0 ≤ r → r < many → Q (.int r) H'
theorem df_take (a : At K mg "_law_take" s_take) (B : Blt mg) : Df P w K mg base "_law_take" ["_law_box_here", "_law_many"] 1 spTake := by
  refine df_of (k := 0) a sc_take (fun _ _ _ _ _ _ us hl => match us, hl with | [_, _], _ => rfl) (fun vs H Q E h => ?_) (fun f cdv A outer s H vs Q E hr h => ?_)
  · obtain ⟨b, m, N, rfl, _⟩ := h; rfl
  obtain ⟨b, m, N, rfl, ⟨x, y, z, hb, hx, hy, hy', hz, hz'⟩, hN, hm, hm', q⟩ := h
  have sc := sc_take
  refine ⟨_, (pss_cons (ps_if (pt_cmpR op_gt (pe_ix ix_list (pv 0) pe_int (fun _ _ => rfl)) pe_int (nomark _)) (pss_cons (ps_asg (pe_callB call_divmod rfl B.divmod bt_divmod (pa_cons (pe_ix ix_list (pv 0) pe_int (fun _ _ => rfl)) (pa_cons (pv 1) pa_nil))) (pg_tupK (K := K) 2 rfl rfl (pgs_cons (pg_sub (pv 0) pe_int set_listO) (pgs_cons (pg_name (i := 3) sc.nd rfl (by first | exact Or.inl rfl | exact Or.inr rfl)) pgs_nil))))
    (pss_one (ps_ret (pv 3)))) pss_nil)
    (pss_cons (ps_asg (pe_op op_add (pe_ix ix_list (pv 0) pe_int (fun _ _ => rfl)) pe_int) (pg_sub (pv 0) pe_int set_listO))
    (pss_cons (ps_set (i := 2) sc.nd rfl (by first | exact Or.inl rfl | exact Or.inr rfl) (pe_op op_mod (pe_op op_mul (pe_op op_add (pe_ix ix_list (pv 0) pe_int (fun _ _ => rfl)) (pe_op op_mul pe_int (pe_ix ix_list (pv 0) pe_int (fun _ _ => rfl)))) (pe_op op_add pe_int (pe_ix ix_list (pv 0) pe_int (fun _ _ => rfl)))) pe_int))
    (pss_cons (ps_asg (pe_op op_mod (pe_op op_add (pe_op op_mul (pv 2) (pe_op op_add (pe_op op_mod (pv 2) pe_int) pe_int)) (pe_ix ix_list (pv 0) pe_int (fun _ _ => rfl))) pe_int) (pg_sub (pv 0) pe_int set_listO))
    (pss_one (ps_ret (pe_op op_mod (pe_op op_fdiv (pe_op op_mod (pe_op op_mul (pe_ix ix_list (pv 0) pe_int (fun _ _ => rfl)) (pe_op op_add (pe_op op_mod (pe_ix ix_list (pv 0) pe_int (fun _ _ => rfl)) pe_int) pe_int)) pe_int) pe_int) (pv 1)))))))), ?_⟩
  rw [show start ["_law_box_here", "_law_many", "_law_once", "_law_found"] [V.ref b, V.int m] = [some (.ref b), some (.int m), none, none] from rfl]
  walk_at "rd"
  walk_at "xs"
  refine ite2 (fun c => ?_) (fun c => ?_)
  · walk_at "xs"
    refine fun p hp => ?_
    walk_at "xs"
    refine q _ _ ((Kp.new _ hp).trans (Kp.set _ (by simp))) ⟨_, _, _, upd_same, Int.ediv_nonneg hx (by omega), hy, hy', hz, by omega⟩ (mod_bd x hm).1 (mod_bd x hm).2
  · walk_at "xs"
    refine q _ _ ((Kp.set _ (by simp)).trans (Kp.set _ (by simp))) ⟨_, _, _, upd_same, hx, ?_, ?_, ?_, ?_⟩ (mod_bd _ hm).1 (mod_bd _ hm).2
    · exact (mod_bd _ (by decide)).1
    · exact Int.lt_trans (mod_bd _ (by decide)).2 (by decide)
    · omega
    · omega
abbrev s_box : Stmt := top 19
theorem sc_box : FnScope ["_law_script", "_law_k", "_law_cell"] ["_law_script", "_law_k"] (defScope s_box) := ⟨rfl, rfl, rfl, by decide +kernel, rfl, by decide +kernel, by decide +kernel⟩
def spBox : Sp := fun vs H Q _ => ∃ (a : Addr) (k : Int) (cs : List Int), vs = [.ref a, .int k] ∧ H a = some (il cs) ∧ 0 ≤ k ∧ k ≤ 1000 ∧ cs.length ≤ 1000 ∧ ∀ p H', Kp [] H H' → H p = none → Bx H' p 0 → Q (.ref p) H'
theorem cell_at {cs : List Int} {k : Int} (h0 : 0 ≤ k) : ∃ c : Int, atI (cs.map V.int ++ List.replicate (k + 1).toNat (V.int 0)) k = some (.int c) := by
  have e : cs.map V.int ++ List.replicate (k + 1).toNat (V.int 0) = (cs ++ List.replicate (k + 1).toNat 0).map V.int := by simp
  have ek : k = ((k.toNat : Nat) : Int) := by omega
  have hk : k.toNat < (cs ++ List.replicate (k + 1).toNat (0 : Int)).length := by rw [List.length_append, List.length_replicate]; omega
  refine ⟨(cs ++ List.replicate (k + 1).toNat 0)[k.toNat], ?_⟩
  rw [e]
  have q : atI ((cs ++ List.replicate (k + 1).toNat (0 : Int)).map V.int) ((k.toNat : Nat) : Int) = some (.int (cs ++ List.replicate (k + 1).toNat 0)[k.toNat]) := atI_nat (by rw [List.getElem?_map, List.getElem?_eq_getElem hk] <;> rfl)
  rw [← ek] at q
  exact q
theorem df_box (a : At K mg "_law_box" s_box) (B : Blt mg) : Df P w K mg base "_law_box" ["_law_script", "_law_k"] 1 spBox := by
  refine df_of (k := 0) a sc_box (fun _ _ _ _ _ _ us hl => match us, hl with | [_, _], _ => rfl) (fun vs H Q E h => ?_) (fun f cdv A outer s H vs Q E hr h => ?_)
  · obtain ⟨a, k, cs, rfl, _⟩ := h; rfl
  obtain ⟨a, k, cs, rfl, ha, hk, hk', hcs, q⟩ := h
  have sc := sc_box
  have hsl := hsl
  refine ⟨_, (pss_cons (ps_set (i := 2) sc.nd rfl (by first | exact Or.inl rfl | exact Or.inr rfl) (pe_ix ix_list (pe_op op_cat (pv 0) (pe_op op_rep (pe_lst (pa_cons pe_int pa_nil)) (pe_op op_add (pv 1) pe_int))) (pv 1) (fun _ _ => rfl)))
    (pss_one (ps_ret (pe_lst (pa_cons (pe_op op_mul (pe_callB call_abs rfl B.abs bt_abs (pa_cons (pv 2) pa_nil)) (pe_callTy call_intB rfl B.int bt_int (pa_cons (pe_cmpR op_ge (pe_callB call_abs rfl B.abs bt_abs (pa_cons (pv 2) pa_nil)) (pe_op op_pow pe_int pe_int) (nomark _)) pa_nil))) (pa_cons (pe_op op_mod (pe_op op_mul (pe_op op_add (pe_op op_add (pe_op op_mod (pv 2) pe_int) (pe_op op_mul pe_int (pv 1))) pe_int) pe_int) pe_int) (pa_cons pe_int pa_nil))))))), ?_⟩
  rw [show start ["_law_script", "_law_k", "_law_cell"] [V.ref a, V.int k] = [some (.ref a), some (.int k), none] from rfl]
  walk_at "rd"
  walk_at "xs"
  intro p1 hp1
  walk_at "xs"
  intro p2 hp2
  walk_at "xs"
  intro p3 hp3
  simp only [rep1] at hp3 ⊢
  obtain ⟨c, hc⟩ := cell_at (cs := cs) hk
  walk_at "xs"
  intro p4 hp4
  refine q _ _ (by walk_at "kp") (by walk_at "fr") ⟨_, _, _, upd_same, ?_, ?_, ?_, ?_, ?_⟩
  · exact Int.mul_nonneg (by split <;> omega) (b01 _)
  · exact (mod_bd _ (by decide)).1
  · exact Int.lt_trans (mod_bd _ (by decide)).2 (by decide)
  · decide
  · decide
abbrev s_folded : Stmt := top 21
theorem sc_folded : FnScope ["_law_script", "_law_many", "_law_cells", "_law_k", "_law_cell"] ["_law_script", "_law_many"] (defScope s_folded) := ⟨rfl, rfl, rfl, by decide +kernel, rfl, by decide +kernel, by decide +kernel⟩
def spFolded (K : PySem.W.Frag) : Sp := fun vs H Q _ => ∃ (a : Addr) (m : Int) (ns : List Int), vs = [.ref a, .int m] ∧ SqL K H a (ns.map V.int) ∧ 0 < m ∧ m ≤ 60 ∧ ns.length ≤ 63 ∧ ∀ p H' cs, Kp [] H H' → H p = none → H' p = some (il cs) → cs.length ≤ 1000 → Q (.ref p) H'
theorem df_folded (a : At K mg "_law_folded" s_folded) (B : Blt mg) : Df P w K mg base "_law_folded" ["_law_script", "_law_many"] 1 (spFolded K) := by
  refine df_of (k := 0) a sc_folded (fun _ _ _ _ _ _ us hl => match us, hl with | [_, _], _ => rfl) (fun vs H Q E h => ?_) (fun f cdv A outer s H vs Q E hr h => ?_)
  · obtain ⟨a, k, cs, rfl, _⟩ := h; rfl
  obtain ⟨a, m, ns, rfl, ha, hm, hm', hns, q⟩ := h
  obtain ⟨M, rfl⟩ : ∃ M : Nat, m = M := ⟨m.toNat, by omega⟩
  have sc := sc_folded
  have hsl := hsl
  refine ⟨_, (pss_cons (ps_set (i := 2) sc.nd rfl (by first | exact Or.inl rfl | exact Or.inr rfl) (pe_callTy call_list_of rfl B.list bt_list (pa_cons (pe_slice sl_list (pv 0) po_none (po_some (pv 1))) pa_nil)))
    (pss_cons (ps_for PassesOwn.never rfl (pi_enum rfl B.enumerate (pa_cons (pe_slice sl_list (pv 0) (po_some (pv 1)) (po_some pe_int)) pa_nil)) (pg_tupK (K := K) 2 rfl rfl (pgs_cons (pg_name (i := 3) sc.nd rfl (by first | exact Or.inl rfl | exact Or.inr rfl)) (pgs_cons (pg_name (i := 4) sc.nd rfl (by first | exact Or.inl rfl | exact Or.inr rfl)) pgs_nil))) (pss_one (ps_asg (pe_op op_add (pe_ix ix_list (pv 2) (pe_op op_mod (pv 3) (pv 1)) (fun _ _ => rfl)) (pe_op op_mul (pv 4) (pe_op op_add (pv 3) pe_int))) (pg_sub (pv 2) (pe_op op_mod (pv 3) (pv 1)) set_listO))))
    (pss_one (ps_ret (pv 2))))), ?_⟩
  rw [show start ["_law_script", "_law_many", "_law_cells", "_law_k", "_law_cell"] [V.ref a, V.int M] = [some (.ref a), some (.int M), none, none, none] from rfl]
  walk_at "rd"
  walk_at "xs"
  intro p1 hp1
  rw [cutV_map]
  walk_at "xs"
  intro p2 hp2
  walk_at "xs"
  intro p3 hp3
  rw [cutV_map]
  have e63 : (63 : Int) = ((63 : Nat) : Int) := rfl
  simp only [HT.sIx_none, HT.sIx_nat, e63, List.drop_zero, Nat.sub_zero] at hp2 hp3 ⊢
  walk_at "xs"
  generalize hc0 : ns.take (min M ns.length) = c0 at hp2 hp3 ⊢
  generalize hd0 : (ns.drop (min M ns.length)).take (min 63 ns.length - min M ns.length) = d0 at hp2 hp3 ⊢
  have lc : c0.length = min M ns.length := by rw [← hc0, List.length_take]; omega
  have ld : d0.length ≤ ns.length - M := by rw [← hd0, List.length_take, List.length_drop]; omega
  have n23 : p2 ≠ p3 := by walk_at "ne"
  refine lp_enum (xs := d0.map V.int) (fun i τ H' => ∃ u v cs, τ = [some (.ref a), some (.int M), some (.ref p2), u, v] ∧ Kp [p2] (upd (upd (upd H p1 (HO.lst (List.map V.int c0))) p2 (HO.lst (List.map V.int c0))) p3 (HO.lst (List.map V.int d0))) H' ∧ H' p2 = some (il cs) ∧ cs.length = c0.length) ?_ ?_ ?_ ?_
  · exact ⟨none, none, c0, rfl, Kp.refl, by walk_at "hp", rfl⟩
  · rintro i τ H' _ ⟨u, v, cs, rfl, kp, _⟩
    exact SqL.of (kp _ _ (by simp [Ne.symm n23]) (by walk_at "hp"))
  · rintro i x pp τ H' hx hpp ⟨u, v, cs, rfl, kp, hcs, hl⟩
    obtain ⟨rfl, hi⟩ := get_map_elim hx
    have b1 := mod_bd (i : Int) hm
    obtain ⟨g1, g2⟩ := get_map_int (cs := cs) (k := (i : Int) % (M : Int)) b1.1 (by omega)
    have hcs' : upd H' pp (HO.tup [V.int i, V.int (d0.getD i 0)]) p2 = some (il cs) := by walk_at "hp"
    walk_at "rd"
    walk_at "xs"
    refine ⟨(kp.trans (Kp.new _ hpp)).trans (Kp.set _ (by simp)), _, upd_same.trans (congrArg some (congrArg HO.lst (set_map _ _ _))), by rw [List.length_set]; exact hl⟩
  · rintro τ H' ⟨u, v, cs, rfl, kp, hcs, hl⟩
    walk_at "rd"
    refine q _ _ cs (fun c o hc hh => kp c o ?_ ((((Kp.new _ hp1).trans (Kp.new _ hp2)).trans (Kp.new _ hp3)) c o hc hh)) (by walk_at "fr") hcs (by omega)
    have : c ≠ p2 := ne_of_none' (Kp_free' hp2 (Kp.new _ hp1)) hh
    simpa using this
abbrev s_boxes : Stmt := top 23
theorem sc_boxes : FnScope ["_law_script", "_law_many", "_law_cells", "_law_k"] ["_law_script", "_law_many"] (defScope s_boxes) := ⟨rfl, rfl, rfl, by decide +kernel, rfl, by decide +kernel, by decide +kernel⟩
def spBoxes (K : PySem.W.Frag) : Sp := fun vs H Q _ => ∃ (a : Addr) (m : Int) (ns : List Int), vs = [.ref a, .int m] ∧ SqL K H a (ns.map V.int) ∧ 0 < m ∧ m ≤ 60 ∧ ns.length ≤ 63 ∧ ∀ (p : Addr) (H' : Hp) (bs : List Addr), Kp [] H H' → H p = none → H' p = some (.lst (bs.map V.ref)) → bs.Nodup → (∀ b ∈ bs, Bx H' b 0 ∧ b ≠ p ∧ H b = none) → bs.length ≤ 1000 → Q (.ref p) H'
theorem df_boxes (a : At K mg "_law_boxes" s_boxes) (B : Blt mg) (D_law_folded : Df P w K mg base "_law_folded" ["_law_script", "_law_many"] 1 (spFolded K)) (D_law_box : Df P w K mg base "_law_box" ["_law_script", "_law_k"] 1 spBox) : Df P w K mg base "_law_boxes" ["_law_script", "_law_many"] 2 (spBoxes K) := by
  refine df_of (k := 1) a sc_boxes (fun _ _ _ _ _ _ us hl => match us, hl with | [_, _], _ => rfl) (fun vs H Q E h => ?_) (fun f cdv A outer s H vs Q E hr h => ?_)
  · obtain ⟨a, m, ns, rfl, _⟩ := h; rfl
  obtain ⟨a, m, ns, rfl, ha, hm, hm', hn, q⟩ := h
  have sc := sc_boxes
  have hsl := hsl
  refine ⟨_, (pss_cons (ps_set (i := 2) sc.nd rfl (by first | exact Or.inl rfl | exact Or.inr rfl) (pe_cd D_law_folded hr rfl (pa_cons (pv 0) (pa_cons (pv 1) pa_nil))))
    (pss_one (ps_ret (pe_comp (ts := [3]) rfl rfl (pi_range1 rfl B.range (pa_cons (pe_callB (call_max2 rfl) rfl B.max bt_max (pa_cons pe_int (pa_cons (pe_callB call_len_seq rfl B.len bt_len (pa_cons (pv 2) pa_nil)) pa_nil))) pa_nil)) (fun _ _ _ _ => (pg_name (i := 3) sc.nd rfl (by first | exact Or.inl rfl | exact Or.inr rfl))) (fun _ _ _ _ => pif_nil) (fun _ _ _ _ => (pe_cd D_law_box hr rfl (pa_cons (pv 2) (pa_cons (pv 3) pa_nil)))))))), ?_⟩
  rw [show start ["_law_script", "_law_many", "_law_cells", "_law_k"] [V.ref a, V.int m] = [some (.ref a), some (.int m), none, none] from rfl]
  walk_at "rd"
  refine ⟨a, m, ns, rfl, ha, hm, hm', hn, fun pc H1 cs k1 hpc hc lc => ?_⟩
  refine ⟨pc, rfl, _, .inl (SqL.of hc), ?_⟩
  rw [List.length_map]
  obtain ⟨z, hz, hz'⟩ : ∃ z : Nat, (if (cs.length : Int) > 1 then (cs.length : Int) else 1) = (z : Int) ∧ z ≤ 1000 := by
    split
    · exact ⟨cs.length, rfl, by omega⟩
    · exact ⟨1, rfl, by omega⟩
  rw [hz, Int.toNat_natCast]
  refine ⟨by omega, by omega, fun D hD => ?_⟩
  refine cl_range (fun i τ H' => ∃ u bs, τ = [some (.ref a), some (.int m), some (.ref pc), u] ∧ Kp [D] (upd H1 D (.lst [])) H' ∧ H' D = some (.lst (List.map V.ref bs)) ∧ bs.length = i ∧ bs.Nodup ∧ ∀ b ∈ bs, Bx H' b 0 ∧ b ≠ D ∧ H b = none) ?_ ?_ ?_
  · exact ⟨none, [], rfl, Kp.refl, upd_same, rfl, List.nodup_nil, fun b hb => nomatch hb⟩
  · rintro i τ H' hi ⟨u, bs, rfl, kp, hd, hl, nd, hb⟩
    have k0 := Kp.drop1 hD kp
    walk_at "rd"
    refine ⟨pc, _, cs, rfl, k0 _ _ (by simp) hc, by omega, by omega, lc, fun pb H2 k2 hpb b2 => ?_⟩
    have hdb : D ≠ pb := ne_of_none hd hpb
    refine ⟨_, k2 _ _ (by simp) hd, by rw [List.length_map]; omega, (kp.trans (k2.mono (by simp))).trans (Kp.set _ (by simp)), bs ++ [pb], upd_same.trans (congrArg some (congrArg HO.lst (by rw [List.map_append]; rfl))), by rw [List.length_append, hl]; rfl, ?_, fun b hm => ?_⟩
    · refine List.nodup_append.mpr ⟨nd, by simp, fun x hx y hy e => ?_⟩
      rw [List.mem_singleton.mp hy] at e
      exact (hb x hx).1.ne hpb e
    · rcases List.mem_append.mp hm with y | y
      · obtain ⟨z1, z2, z3⟩ := hb b y
        exact ⟨(z1.kp k2).kps (Kp.set (bs := [D]) _ (by simp)) z2, z2, z3⟩
      · rw [List.mem_singleton.mp y]
        exact ⟨b2.kps (Kp.set (bs := [D]) _ (by simp)) (Ne.symm hdb), Ne.symm hdb, (k1.trans k0).free hpb⟩
  · rintro τ H' ⟨u, bs, rfl, kp, hd, hl, nd, hb⟩
    exact q _ _ bs (k1.trans (Kp.drop1 hD kp)) (k1.free hD) hd nd hb (by omega)
abbrev s_halves : Stmt := top 26
theorem sc_halves : FnScope ["_law_box_here"] ["_law_box_here"] (defScope s_halves) := ⟨rfl, rfl, rfl, by decide +kernel, rfl, by decide +kernel, by decide +kernel⟩
def spHalves : Sp := fun vs H Q _ => ∃ (b : Addr) (N : Nat), vs = [.ref b] ∧ Bx H b N ∧ N < 100000000 ∧ ∀ (r : Nat) (H' : Hp), Kp [b] H H' → Bx H' b (N + 10) → r ≤ 100 → Q (.int r) H'
theorem df_halves (a : At K mg "_law_halves" s_halves) (B : Blt mg) (D_law_take : Df P w K mg base "_law_take" ["_law_box_here", "_law_many"] 1 spTake) : Df P w K mg base "_law_halves" ["_law_box_here"] 2 spHalves := by
  refine df_of (k := 1) a sc_halves (fun _ _ _ _ _ _ us hl => match us, hl with | [_], _ => rfl) (fun vs H Q E h => ?_) (fun f cdv A outer s H vs Q E hr h => ?_)
  · obtain ⟨a, k, rfl, _⟩ := h; rfl
  obtain ⟨b, N, rfl, hb, hN, q⟩ := h
  have sc := sc_halves
  have hsl := hsl
  refine ⟨_, (pss_cons (ps_if (pt_cmpR op_eq (pe_cd D_law_take hr rfl (pa_cons (pv 0) (pa_cons pe_int pa_nil))) pe_int (nomark _)) (pss_one (ps_ret (pe_op op_sub pe_int (pe_cd D_law_take hr rfl (pa_cons (pv 0) (pa_cons pe_int pa_nil)))))) pss_nil)
    (pss_one (ps_ret (pe_ix ix_list (pe_lst (pa_cons (pe_cd D_law_take hr rfl (pa_cons (pv 0) (pa_cons pe_int pa_nil))) (pa_cons (pe_op op_add pe_int (pe_cd D_law_take hr rfl (pa_cons (pv 0) (pa_cons pe_int pa_nil)))) pa_nil))) (pe_callTy call_intB rfl B.int bt_int (pa_cons (pe_cmpR op_eq (pe_cd D_law_take hr rfl (pa_cons (pv 0) (pa_cons pe_int pa_nil))) pe_int (nomark _)) pa_nil)) (fun _ _ => rfl))))), ?_⟩
  rw [show start ["_law_box_here"] [V.ref b] = [some (.ref b)] from rfl]
  walk_at "rd"
  refine ⟨b, 12, N, rfl, hb, by omega, by decide, by decide, fun r1 H1 k1 b1 l1 u1 => ⟨rfl, ?_⟩⟩
  refine ite2 (fun c => ?_) (fun c => ?_)
  · refine ⟨b, 60, _, rfl, b1, by omega, by decide, by decide, fun r2 H2 k2 b2 l2 u2 => ⟨r2, rfl, ?_⟩⟩
    obtain ⟨n, hn⟩ : ∃ n : Nat, 100 - r2 = (n : Int) := ⟨(100 - r2).toNat, by omega⟩
    rw [hn]
    exact q n _ (k1.trans k2) (b2.mono (by omega)) (by omega)
  · refine ⟨b, 8, _, rfl, b1, by omega, by decide, by decide, fun r2 H2 k2 b2 l2 u2 => ?_⟩
    refine ⟨b, 33, _, rfl, b2, by omega, by decide, by decide, fun r3 H3 k3 b3 l3 u3 => ⟨r3, rfl, by show 2 ≤ sizeLine; omega, fun pl hpl => ?_⟩⟩
    refine ⟨b, 5, _, rfl, b3.new hpl, by omega, by decide, by decide, fun r4 H4 k4 b4 l4 u4 => ?_⟩
    have hne : pl ≠ b := Ne.symm (b3.ne hpl)
    have h4 := k4 pl _ (by simpa using hne) upd_same
    have kk : Kp [b] H H4 := (((k1.trans k2).trans k3).trans (Kp.new _ hpl)).trans k4
    walk_at "rd"
    refine ⟨rfl, _, SqL.of h4, ?_⟩
    by_cases e : r4 = 0
    · rw [if_pos e]
      refine ⟨_, rfl, ?_⟩
      obtain ⟨n, hn⟩ : ∃ n : Nat, 8 + r3 = (n : Int) := ⟨(8 + r3).toNat, by omega⟩
      rw [hn]
      exact q n _ kk (b4.mono (by omega)) (by omega)
    · rw [if_neg e]
      refine ⟨_, rfl, ?_⟩
      obtain ⟨n, hn⟩ : ∃ n : Nat, r2 = (n : Int) := ⟨r2.toNat, by omega⟩
      rw [hn]
      exact q n _ kk (b4.mono (by omega)) (by omega)
def best (n : Nat) : Nat := if 121 ≤ n then 121 else if 40 ≤ n then 40 else if 13 ≤ n then 13 else if 4 ≤ n then 4 else 1
theorem best_pos (n : Nat) : 1 ≤ best n := by unfold best; split; · decide
                                              split; · decide
                                              split; · decide
                                              split; · decide
                                              decide
theorem best_le {n : Nat} (h : 0 < n) : best n ≤ n := by
  unfold best
  split; · assumption
  split; · assumption
  split; · assumption
  split; · assumption
  exact h
def pts (n : Nat) : List Int := if h : n = 0 then [] else (best n : Int) :: pts (n - best n)
termination_by n
decreasing_by
  have := best_pos n
  omega
theorem pts_zero : pts 0 = [] := by rw [pts]; simp
theorem pts_pos {n : Nat} (h : 0 < n) : pts n = (best n : Int) :: pts (n - best n) := by
  rw [pts, dif_neg (by omega)]
theorem pts_len (n : Nat) : (pts n).length ≤ n := by
  induction n using Nat.strongRecOn with
  | _ n ih =>
    rcases Nat.eq_zero_or_pos n with z | z
    · subst z; rw [pts_zero]; exact Nat.le_refl _
    · rw [pts_pos z, List.length_cons]
      have h1 := best_pos n
      have h2 := best_le z
      have := ih (n - best n) (by omega)
      omega
abbrev s_pwithin : Stmt := top 14
theorem sc_pwithin : FnScope ["left", "part"] ["left"] (defScope s_pwithin) := ⟨rfl, rfl, rfl, by decide +kernel, rfl, by decide +kernel, by decide +kernel⟩
def spPwithin : Sp := fun vs H Q _ => ∃ (n : Nat), vs = [.int n] ∧ 0 < n ∧ n ≤ 300 ∧ Q (.int (best n)) H
theorem df_pwithin (a : At K mg "part_within" s_pwithin) (B : Blt mg) : Df P w K mg base "part_within" ["left"] 1 spPwithin := by
  refine df_of (k := 0) a sc_pwithin (fun _ _ _ _ _ _ us hl => match us, hl with | [_], _ => rfl) (fun vs H Q E h => ?_) (fun f cdv A outer s H vs Q E hr h => ?_)
  · obtain ⟨n, rfl, _⟩ := h; rfl
  obtain ⟨n, rfl, hn, hn', q⟩ := h
  have sc := sc_pwithin
  refine ⟨_, (pss_cons (ps_set (i := 1) sc.nd rfl (by first | exact Or.inl rfl | exact Or.inr rfl) pe_int)
    (pss_cons (ps_while PassesOwn.never (pt_cmpR op_le (pe_op op_add (pe_op op_mul pe_int (pv 1)) pe_int) (pv 0) (nomark _)) (pss_one (ps_set (i := 1) sc.nd rfl (by first | exact Or.inl rfl | exact Or.inr rfl) (pe_op op_add (pe_op op_mul pe_int (pv 1)) pe_int))))
    (pss_one (ps_ret (pv 1))))), ?_⟩
  rw [show start ["left", "part"] [V.int n] = [some (.int n), none] from rfl]
  walk_at "rd"
  refine while_by (fun τ H' => H' = H ∧ ∃ (j : Nat), τ = [some (.int n), some (.int j)] ∧ j ≤ n ∧ (j = 1 ∨ j = 4 ∨ j = 13 ∨ j = 40 ∨ j = 121))
    (fun τ _ => match τ with | [_, some (.int l)] => n - l.toNat | _ => 0) ?_ ?_ (mt_test (me_op mr_i0 (me_op mr_i0 (me_op mr_i me_c me_var) me_c) me_var))
  · exact ⟨rfl, 1, rfl, by omega, .inl rfl⟩
  · rintro τ H' ⟨rfl, j, rfl, jn, hj⟩
    walk_at "rd"
    refine ⟨cmul_l (by omega) (by omega), ite2 (fun c => ?_) (fun c => ?_)⟩
    · refine ⟨cmul_l (by omega) (by omega), ⟨3 * j + 1, by omega, by omega, by omega⟩, ?_⟩
      show n - (3 * (j : Int) + 1).toNat < n - (j : Int).toNat
      omega
    · walk_at "rd"
      have e : best n = j := by
        unfold best
        rcases hj with rfl | rfl | rfl | rfl | rfl
        · rw [if_neg (by omega), if_neg (by omega), if_neg (by omega), if_neg (by omega)]
        · rw [if_neg (by omega), if_neg (by omega), if_neg (by omega), if_pos (by omega)]
        · rw [if_neg (by omega), if_neg (by omega), if_pos (by omega)]
        · rw [if_neg (by omega), if_pos (by omega)]
        · rw [if_pos (by omega)]
      rw [← e]
      exact q
abbrev s_wparts : Stmt := top 15
theorem sc_wparts : FnScope ["many", "parts", "left", "part"] ["many"] (defScope s_wparts) := ⟨rfl, rfl, rfl, by decide +kernel, rfl, by decide +kernel, by decide +kernel⟩
def spWparts : Sp := fun vs H Q _ => ∃ (n : Nat), vs = [.int n] ∧ n ≤ 300 ∧ ∀ (p : Addr) (H' : Hp), Kp [] H H' → H p = none → H' p = some (il (pts n)) → Q (.ref p) H'
theorem df_wparts (a : At K mg "weave_parts" s_wparts) (B : Blt mg) (D_part_within : Df P w K mg base "part_within" ["left"] 1 spPwithin) : Df P w K mg base "weave_parts" ["many"] 2 spWparts := by
  refine df_of (k := 1) a sc_wparts (fun _ _ _ _ _ _ us hl => match us, hl with | [_], _ => rfl) (fun vs H Q E h => ?_) (fun f cdv A outer s H vs Q E hr h => ?_)
  · obtain ⟨n, rfl, _⟩ := h; rfl
  obtain ⟨n, rfl, hn, q⟩ := h
  have sc := sc_wparts
  have hsl := hsl
  have hpl := pts_len n
  refine ⟨_, (pss_cons (ps_set (i := 1) sc.nd rfl (by first | exact Or.inl rfl | exact Or.inr rfl) (pe_lst pa_nil))
    (pss_cons (ps_set (i := 2) sc.nd rfl (by first | exact Or.inl rfl | exact Or.inr rfl) (pv 0))
    (pss_cons (ps_while PassesOwn.never (pt_cmpR op_gt (pv 2) pe_int (nomark _)) (pss_cons (ps_set (i := 3) sc.nd rfl (by first | exact Or.inl rfl | exact Or.inr rfl) (pe_cd D_part_within hr rfl (pa_cons (pv 2) pa_nil)))
    (pss_cons (ps_expr (pe_bm PySem.F.plainAttrs_list PySem.F.slot_list_append PySem.F.type_list_append mr_append (pv 1) (pa_cons (pv 3) pa_nil)))
    (pss_one (ps_aug (i := 2) sc.nd rfl (by first | exact Or.inl rfl | exact Or.inr rfl) (pv 3) ip_sub)))))
    (pss_one (ps_ret (pv 1)))))), ?_⟩
  rw [show start ["many", "parts", "left", "part"] [V.int n] = [some (.int n), none, none, none] from rfl]
  walk_at "rd"
  refine ⟨Nat.zero_le _, fun pf hpf => ?_⟩
  refine while_by (fun τ H' => ∃ (j : Nat) (x : Option V) (xs : List Int), τ = [some (.int n), some (.ref pf), some (.int j), x] ∧ j ≤ n ∧ Kp [pf] (upd H pf (.lst [])) H' ∧ H' pf = some (il xs) ∧ xs ++ pts j = pts n)
    (fun τ _ => match τ with | [_, _, some (.int l), _] => l.toNat | _ => 0) ?_ ?_ (mt_test (me_op mr_i0 me_var me_c))
  · exact ⟨n, none, [], rfl, Nat.le_refl _, Kp.refl, upd_same, rfl⟩
  · rintro τ H' ⟨j, x, xs, rfl, jn, kp, hf, hx⟩
    walk_at "rd"
    refine ite2 (fun c => ?_) (fun c => ?_)
    · have h1 := best_pos j
      have h2 := best_le (n := j) (by omega)
      have hl : xs.length ≤ n := by
        have := congrArg List.length hx
        rw [List.length_append] at this
        omega
      refine ⟨j, rfl, by omega, by omega, .inl ⟨rfl, _, SqL.of hf⟩, _, hf, by rw [List.length_map]; omega, ?_⟩
      refine ⟨_, _, rfl, rfl, ⟨j - best j, ?_, by omega, kp.trans (Kp.set _ (by simp)), xs ++ [(best j : Int)], upd_same.trans (congrArg some (congrArg HO.lst (by rw [List.map_append]; rfl))), ?_⟩, ?_⟩
      · rw [Int.ofNat_sub h2]
      · rw [List.append_assoc, ← hx, pts_pos (n := j) (by omega)]; rfl
      · show ((j : Int) - (best j : Int)).toNat < (j : Int).toNat
        omega
    · have e : j = 0 := by omega
      subst e
      rw [pts_zero, List.append_nil] at hx
      subst hx
      walk_at "rd"
      exact q _ _ (Kp.drop1 hpf kp) hpf hf
def rollL (n : Nat) (k : Int) : List Int := (List.range n).map fun (p : Nat) => ((p : Int) + k) % (n : Int)
theorem rollL_len (n : Nat) (k : Int) : (rollL n k).length = n := by simp [rollL]
theorem rollL_get {n : Nat} {k : Int} {i : Nat} (h : i < n) : (rollL n k).getD i 0 = ((i : Int) + k) % (n : Int) := by
  rw [getD_eq (by rw [rollL_len]; exact h)]; simp [rollL]
theorem rollL_ord (n : Nat) (k : Int) : IsOrd n (rollL n k) := by
  refine isOrd_of (rollL_len n k) (fun i hi => ?_) (fun i j hi hj e => ?_)
  · rw [rollL_get hi]
    exact ⟨Int.emod_nonneg _ (by omega), Int.emod_lt_of_pos _ (by omega)⟩
  · rw [rollL_get hi, rollL_get hj] at e
    have d : (((i : Int) + k) - ((j : Int) + k)) % (n : Int) = 0 := by
      rw [Int.sub_emod, e, Int.sub_self, Int.zero_emod]
    rw [show ((i : Int) + k) - ((j : Int) + k) = (i : Int) - j by omega] at d
    obtain ⟨c, hc⟩ := Int.dvd_of_emod_eq_zero d
    have h1 : (i : Int) - j < n := by omega
    have h2 : -(n : Int) < (i : Int) - j := by omega
    have hn : (0 : Int) < n := by omega
    have c0 : c = 0 := by
      rcases Int.lt_trichotomy c 0 with z | z | z
      · exfalso
        have : (n : Int) * c ≤ (n : Int) * (-1) := Int.mul_le_mul_of_nonneg_left (by omega) (by omega)
        omega
      · exact z
      · exfalso
        have : (n : Int) * 1 ≤ (n : Int) * c := Int.mul_le_mul_of_nonneg_left (by omega) (by omega)
        omega
    subst c0
    omega
abbrev s_roll_order : Stmt := top 8
theorem sc_roll_order : FnScope ["n", "k", "place"] ["n", "k"] (defScope s_roll_order) := ⟨rfl, rfl, rfl, by decide +kernel, rfl, by decide +kernel, by decide +kernel⟩
def spRollOrder : Sp := fun vs H Q _ => ∃ (n : Nat) (k : Int), vs = [.int n, .int k] ∧ n ≤ 1000 ∧ ∀ p H', Kp [] H H' → H p = none → H' p = some (il (rollL n k)) → Q (.ref p) H'
theorem df_roll_order (a : At K mg "roll_order" s_roll_order) (B : Blt mg) : Df P w K mg base "roll_order" ["n", "k"] 1 spRollOrder := by
  refine df_of (k := 0) a sc_roll_order (fun _ _ _ _ _ _ us hl => match us, hl with | [_, _], _ => rfl) (fun vs H Q E h => ?_) (fun f cdv A outer s H vs Q E hr h => ?_)
  · obtain ⟨n, k, rfl, _⟩ := h; rfl
  obtain ⟨n, k, rfl, hn, q⟩ := h
  have sc := sc_roll_order
  have hsl := hsl
  have rl := rollL_len n k
  refine ⟨_, (pss_one (ps_ret (pe_comp (ts := [2]) rfl rfl (pi_range1 rfl B.range (pa_cons (pv 0) pa_nil)) (fun _ _ _ _ => (pg_name (i := 2) sc.nd rfl (by first | exact Or.inl rfl | exact Or.inr rfl))) (fun _ _ _ _ => pif_nil) (fun _ _ _ _ => (pe_op op_mod (pe_op op_add (pv 2) (pv 1)) (pv 0)))))), ?_⟩
  rw [show start ["n", "k", "place"] [V.int n, V.int k] = [some (.int n), some (.int k), none] from rfl]
  walk_at "rd"
  refine ⟨by omega, by omega, fun D hD => ?_⟩
  rw [Int.toNat_natCast]
  refine cl_range (fun i τ G => ∃ u, τ = [some (.int n), some (.int k), u] ∧ Kp [D] (upd H D (.lst [])) G ∧ G D = some (il ((rollL n k).take i))) ?_ ?_ ?_
  · exact ⟨none, rfl, Kp.refl, upd_same⟩
  · rintro i τ G hi ⟨u, rfl, kp, hd⟩
    rw [Int.zero_add]
    walk_at "rd"
    refine ⟨by omega, _, hd, by rw [List.length_map, List.length_take]; omega, kp.trans (Kp.set _ (by simp)), ?_⟩
    rw [take_D (by omega), rollL_get hi]
    exact upd_same.trans (congrArg some (congrArg HO.lst (by rw [List.map_append]; rfl)))
  · rintro τ G ⟨u, rfl, kp, hd⟩
    rw [List.take_of_length_le (by omega)] at hd
    exact q _ _ (Kp.drop1 hD kp) hD hd
theorem mr_ne : MR rNe := fun _ _ _ _ _ hq ⟨e, h⟩ => ⟨e, hq _ _ h⟩
theorem get_map_bl {ss : List Bool} {i : Nat} (h : i < ss.length) : ixN (ss.map V.bl).length (i : Int) = some i ∧ atI (ss.map V.bl) (i : Int) = some (.bl (ss.getD i false)) := by
  have e1 : ixN (ss.map V.bl).length (i : Int) = some i := by unfold ixN; rw [List.length_map, if_pos (by omega), if_pos (by omega), Int.toNat_natCast]
  refine ⟨e1, ?_⟩
  unfold atI
  rw [e1]
  show (ss.map V.bl)[i]? = _
  rw [List.getElem?_map, List.getD_eq_getElem?_getD, List.getElem?_eq_getElem h]; rfl
theorem getD_setB {ss : List Bool} {i j : Nat} {v : Bool} (h : i < ss.length) : (ss.set i v).getD j false = if j = i then v else ss.getD j false := by
  rw [List.getD_eq_getElem?_getD, List.getD_eq_getElem?_getD, List.getElem?_set]
  by_cases e : i = j
  · subst e; rw [if_pos rfl, if_pos h, if_pos rfl]; rfl
  · rw [if_neg e, if_neg (fun z => e z.symm)]
abbrev s_ring_from : Stmt := top 3
theorem sc_ring_from : FnScope ["order", "first", "ring", "place"] ["order", "first"] (defScope s_ring_from) := ⟨rfl, rfl, rfl, by decide +kernel, rfl, by decide +kernel, by decide +kernel⟩
def spRingFrom (K : PySem.W.Frag) : Sp := fun vs H Q _ => ∃ (a : Addr) (n : Nat) (os : List Int) (p : Int), vs = [.ref a, .int p] ∧ (SqL K H a (os.map V.int) ∨ SqT K H a (os.map V.int)) ∧ IsOrd n os ∧ n ≤ 1000 ∧ 0 ≤ p ∧ p < n ∧ ∀ t H', Kp [] H H' → H t = none → H' t = some (il (ringOf os p)) → Q (.ref t) H'
theorem df_ring_from (a : At K mg "ring_from" s_ring_from) (B : Blt mg) : Df P w K mg base "ring_from" ["order", "first"] 1 (spRingFrom K) := by
  refine df_of (k := 0) a sc_ring_from (fun _ _ _ _ _ _ us hl => match us, hl with | [_, _], _ => rfl) (fun vs H Q E h => ?_) (fun f cdv A outer s H vs Q E hr h => ?_)
  · obtain ⟨a, _, _, _, rfl, _⟩ := h; rfl
  obtain ⟨a, n, os, p, rfl, ha, ho, hn, p0, p1, q⟩ := h
  have sc := sc_ring_from
  have hsl := hsl
  have ol := ho.1
  obtain ⟨M, hM, hMn⟩ := per_ex ho p0 p1
  refine ⟨_, (pss_cons (ps_set (i := 2) sc.nd rfl (by first | exact Or.inl rfl | exact Or.inr rfl) (pe_lst (pa_cons (pv 1) pa_nil)))
    (pss_cons (ps_set (i := 3) sc.nd rfl (by first | exact Or.inl rfl | exact Or.inr rfl) (pe_ix ix_lt (pv 0) (pv 1) (fun _ _ => rfl)))
    (pss_cons (ps_while PassesOwn.never (pt_cmpR op_ne (pv 3) (pv 1) (nomark _)) (pss_cons (ps_expr (pe_bm PySem.F.plainAttrs_list PySem.F.slot_list_append PySem.F.type_list_append mr_append (pv 2) (pa_cons (pv 3) pa_nil)))
    (pss_one (ps_set (i := 3) sc.nd rfl (by first | exact Or.inl rfl | exact Or.inr rfl) (pe_ix ix_lt (pv 0) (pv 3) (fun _ _ => rfl))))))
    (pss_one (ps_ret (pv 2)))))), ?_⟩
  rw [show start ["order", "first", "ring", "place"] [V.ref a, V.int p] = [some (.ref a), some (.int p), none, none] from rfl]
  walk_at "rd"
  obtain ⟨e1, e2⟩ := get_map_int (cs := os) (k := p) p0 (by omega)
  refine ⟨by show 1 ≤ sizeLine; decide, fun t ht => ⟨_, Kp_lt ha (Kp.new _ ht), _, e2, ?_⟩⟩
  refine while_by (fun τ H' => ∃ (j : Nat), τ = [some (.ref a), some (.int p), some (.ref t), some (.int (itn os j p))] ∧ Kp [t] (upd H t (.lst [.int p])) H' ∧ H' t = some (il (itl os p j)) ∧ 1 ≤ j ∧ j ≤ M ∧ ∀ i, 1 ≤ i → i < j → itn os i p ≠ p)
    (fun _ H' => match H' t with | some (.lst xs) => M + 1 - xs.length | _ => 0) ?_ ?_ (mt_test (me_op mr_ne me_var me_var))
  · exact ⟨1, rfl, Kp.refl, upd_same, Nat.le_refl _, hM.1, fun i h1 h2 => by omega⟩
  · rintro τ H' ⟨j, rfl, kp, hH, j1, jM, hj⟩
    have bd := itn_bd ho p0 p1 j
    have k0 := Kp.drop1 ht kp
    walk_at "rd"
    refine ⟨rfl, ite2 (fun c => ?_) (fun c => ?_)⟩
    · have jM' : j < M := by
        rcases Nat.lt_or_ge j M with z | z
        · exact z
        · have e : j = M := by omega
          subst e
          exact absurd hM.2.1 c
      obtain ⟨g1, g2⟩ := get_map_int (cs := os) (k := itn os j p) bd.1 (by omega)
      have k1 : Kp [] H (upd H' t (HO.lst (List.map V.int (itl os p j) ++ [V.int (itn os j p)]))) := Kp.drop1 ht (kp.trans (Kp.set _ (by simp)))
      refine ⟨.inl ⟨rfl, _, SqL.of hH⟩, _, hH, by rw [List.length_map, itl_len]; omega, _, Kp_lt ha k1, _, g2, ⟨j + 1, rfl, kp.trans (Kp.set _ (by simp)), ?_, by omega, by omega, fun i h1 h2 => ?_⟩, ?_⟩
      · rw [itl_succ]
        exact upd_same.trans (congrArg some (congrArg HO.lst (by rw [List.map_append]; rfl)))
      · by_cases e : i = j
        · subst e; exact c
        · exact hj i h1 (by omega)
      · rw [upd_same, hH]
        show M + 1 - (List.map V.int (itl os p j) ++ [V.int (itn os j p)]).length < M + 1 - (List.map V.int (itl os p j)).length
        rw [List.length_append, List.length_map, itl_len]
        show M + 1 - (j + 1) < M + 1 - j
        omega
    · have hw : IsPer os p j := ⟨j1, by by_cases z : itn os j p = p; exact z; exact absurd z c, hj⟩
      refine q _ _ k0 ht ?_
      unfold ringOf
      rw [hw.per]
      exact hH
abbrev s_rings : Stmt := top 4
theorem sc_rings : FnScope ["order", "seen", "found", "first", "ring", "place"] ["order"] (defScope s_rings) := ⟨rfl, rfl, rfl, by decide +kernel, rfl, by decide +kernel, by decide +kernel⟩
def spRings (K : PySem.W.Frag) : Sp := fun vs H Q _ => ∃ (a : Addr) (n : Nat) (os : List Int), vs = [.ref a] ∧ (SqL K H a (os.map V.int) ∨ SqT K H a (os.map V.int)) ∧ IsOrd n os ∧ n ≤ 1000 ∧
  ∀ p H' rs, Kp [] H H' → H p = none → H' p = some (.lst (rfs rs)) → (∀ r ∈ rs, H r.1 = none ∧ r.1 ≠ p ∧ H' r.1 = some (il r.2)) → rs.map (·.2) = ringsL os n → Q (.ref p) H'
theorem df_rings (a : At K mg "rings" s_rings) (B : Blt mg) (D_ring_from : Df P w K mg base "ring_from" ["order", "first"] 1 (spRingFrom K)) : Df P w K mg base "rings" ["order"] 2 (spRings K) := by
  refine df_of (k := 1) a sc_rings (fun _ _ _ _ _ _ us hl => match us, hl with | [_], _ => rfl) (fun vs H Q E h => ?_) (fun f cdv A outer s H vs Q E hr h => ?_)
  · obtain ⟨a, _, _, rfl, _⟩ := h; rfl
  obtain ⟨a, n, os, rfl, ha, ho, hn, q⟩ := h
  have sc := sc_rings
  have hsl := hsl
  have ol := ho.1
  refine ⟨_, (pss_cons (ps_set (i := 1) sc.nd rfl (by first | exact Or.inl rfl | exact Or.inr rfl) (pe_op op_rep (pe_lst (pa_cons pe_bl pa_nil)) (pe_callB call_len_seq rfl B.len bt_len (pa_cons (pv 0) pa_nil))))
    (pss_cons (ps_set (i := 2) sc.nd rfl (by first | exact Or.inl rfl | exact Or.inr rfl) (pe_lst pa_nil))
    (pss_cons (ps_for PassesOwn.never rfl (pi_range1 rfl B.range (pa_cons (pe_callB call_len_seq rfl B.len bt_len (pa_cons (pv 0) pa_nil)) pa_nil)) (pg_name (i := 3) sc.nd rfl (by first | exact Or.inl rfl | exact Or.inr rfl)) (pss_one (ps_if (pt_not (pt_val (pe_ix ix_list (pv 1) (pv 3) (fun _ _ => rfl)) (fun _ => rfl))) (pss_cons (ps_set (i := 4) sc.nd rfl (by first | exact Or.inl rfl | exact Or.inr rfl) (pe_cd D_ring_from hr rfl (pa_cons (pv 0) (pa_cons (pv 3) pa_nil))))
    (pss_cons (ps_for PassesOwn.never rfl (pi_list (pv 4)) (pg_name (i := 5) sc.nd rfl (by first | exact Or.inl rfl | exact Or.inr rfl)) (pss_one (ps_asg pe_bl (pg_sub (pv 1) (pv 5) set_listO))))
    (pss_one (ps_if (pt_cmpR op_gt (pe_callB call_len_seq rfl B.len bt_len (pa_cons (pv 4) pa_nil)) pe_int (nomark _)) (pss_one (ps_expr (pe_bm PySem.F.plainAttrs_list PySem.F.slot_list_append PySem.F.type_list_append mr_append (pv 2) (pa_cons (pv 4) pa_nil)))) pss_nil)))) pss_nil)))
    (pss_one (ps_ret (pv 2)))))), ?_⟩
  rw [show start ["order", "seen", "found", "first", "ring", "place"] [V.ref a] = [some (.ref a), none, none, none, none, none] from rfl]
  walk_at "rd"
  refine ⟨by show 1 ≤ sizeLine; decide, fun pz hpz => ⟨_, Kp_lt ha (Kp.new _ hpz), _, upd_same, ?_⟩⟩
  rw [List.length_map, ol, Int.toNat_natCast, rep1]
  refine ⟨by omega, by omega, by show 1 * n ≤ sizeLine; omega, fun ps hps => ?_⟩
  refine ⟨Nat.zero_le _, fun pf hpf => ?_⟩
  have kH := ((Kp.new (bs := []) (HO.lst [V.bl false]) hpz).trans (Kp.new (HO.lst (List.replicate n (V.bl false))) hps)).trans (Kp.new (HO.lst []) hpf)
  have nps : H ps = none := (Kp.new (bs := []) _ hpz).free hps
  have npf : H pf = none := ((Kp.new (bs := []) _ hpz).trans (Kp.new _ hps)).free hpf
  have hps0 := (Kp.new (bs := []) (HO.lst []) hpf) ps _ (by simp) (upd_same (H := upd H pz (HO.lst [V.bl false])) (o := HO.lst (List.replicate n (V.bl false))))
  have hpf0 := upd_same (H := upd (upd H pz (HO.lst [V.bl false])) ps (HO.lst (List.replicate n (V.bl false)))) (a := pf) (o := HO.lst [])
  have nsf : ps ≠ pf := ne_of_none upd_same hpf
  generalize upd (upd (upd H pz (HO.lst [V.bl false])) ps (HO.lst (List.replicate n (V.bl false)))) pf (HO.lst []) = H0 at *
  refine ⟨_, Kp_lt ha kH, ?_⟩
  rw [List.length_map, ol]
  refine ⟨by omega, by omega, ?_⟩
  rw [Int.toNat_natCast]
  refine lp_range (fun i τ G => ∃ (x3 x4 x5 : Option V) (ss : List Bool) (rs : List (Addr × List Int)), τ = [some (.ref a), some (.ref ps), some (.ref pf), x3, x4, x5] ∧ Kp [ps, pf] H0 G ∧ G ps = some (.lst (ss.map V.bl)) ∧ ss.length = n ∧ (∀ x : Nat, x < n → (ss.getD x false = true ↔ Seen os i (x : Int))) ∧ G pf = some (.lst (rfs rs)) ∧ (∀ r ∈ rs, H r.1 = none ∧ r.1 ≠ pf ∧ r.1 ≠ ps ∧ G r.1 = some (il r.2)) ∧ rs.map (·.2) = ringsL os i) ?_ ?_ ?_
  · refine ⟨none, none, none, List.replicate n false, [], rfl, Kp.refl, by rw [List.map_replicate]; exact hps0, by simp, fun x hx => ?_, hpf0, fun r hr => (nomatch hr), rfl⟩
    constructor
    · intro z
      rw [List.getD_eq_getElem?_getD, List.getElem?_replicate, if_pos hx] at z
      cases z
    · rintro ⟨q, hq, _⟩; omega
  · rintro i τ G hi ⟨x3, x4, x5, ss, rs, rfl, kG, gs, ls, hs, gf, hr, er⟩
    have kHG : Kp [] H G := Kp.un (Kp.un ((kH.mono (by simp)).trans kG) nps) npf
    obtain ⟨s1, s2⟩ := get_map_bl (ss := ss) (i := i) (by omega)
    have lrs : rs.length ≤ i := by
      have := ringsL_len os i
      rw [← er, List.length_map] at this
      exact this
    rw [Int.zero_add]
    walk_at "rd"
    refine ⟨_, SqL.of gs, _, s2, _, rfl, ite2 (fun c => ?_) (fun c => ?_)⟩
    · have hns : ¬ Seen os i (i : Int) := by rw [← hs i hi, c]; simp
      refine ⟨a, n, os, i, rfl, Kp_lt ha kHG, ho, hn, by omega, by omega, fun t G1 k1 ht h1 => ?_⟩
      have gs1 := k1 _ _ (by simp) gs
      have gf1 := k1 _ _ (by simp) gf
      obtain ⟨M, hM, hMn⟩ := per_ex ho (p := (i : Int)) (by omega) (by omega)
      have hrl : (ringOf os (i : Int)).length = M := by unfold ringOf; rw [itl_len, hM.per]
      have nts : t ≠ ps := Ne.symm (ne_of_none gs ht)
      have ntf : t ≠ pf := Ne.symm (ne_of_none gf ht)
      refine ⟨t, rfl, ⟨_, SqL.of h1⟩, ?_⟩
      refine lp_list (xs := (ringOf os (i : Int)).map V.int) (fun j τ G' => ∃ (x5 : Option V) (ss' : List Bool), τ = [some (.ref a), some (.ref ps), some (.ref pf), some (.int (i : Int)), some (.ref t), x5] ∧ Kp [ps] G1 G' ∧ G' ps = some (.lst (ss'.map V.bl)) ∧ ss'.length = n ∧ ∀ x : Nat, x < n → (ss'.getD x false = true ↔ Seen os i (x : Int) ∨ (x : Int) ∈ (ringOf os (i : Int)).take j)) ?_ ?_ ?_ ?_
      · exact ⟨x5, ss, rfl, Kp.refl, gs1, ls, fun x hx => by rw [hs x hx]; simp⟩
      · rintro j τ G' _ ⟨_, ss', rfl, kp, _⟩
        exact SqL.of (kp _ _ (by simpa using nts) h1)
      · rintro j x τ G' hx ⟨y5, ss', rfl, kp, gs', ls', hs'⟩
        obtain ⟨rfl, hj⟩ := get_map_elim hx
        have hm : (ringOf os (i : Int)).getD j 0 ∈ ringOf os (i : Int) := by rw [getD_eq hj]; exact List.getElem_mem hj
        have hb : 0 ≤ (ringOf os (i : Int)).getD j 0 ∧ (ringOf os (i : Int)).getD j 0 < (n : Int) := by
          obtain ⟨k, _, e⟩ := itl_mem.mp hm
          rw [← e]
          exact itn_bd ho (by omega) (by omega) k
        have htk : (ringOf os (i : Int)).take (j + 1) = (ringOf os (i : Int)).take j ++ [(ringOf os (i : Int)).getD j 0] := by
          rw [getD_eq hj]; exact (List.take_append_getElem hj).symm
        generalize (ringOf os (i : Int)).getD j 0 = v at *
        obtain ⟨vn, rfl⟩ : ∃ vn : Nat, v = vn := ⟨v.toNat, by omega⟩
        obtain ⟨g1, g2⟩ := get_map_bl (ss := ss') (i := vn) (by omega)
        walk_at "rd"
        refine ⟨_, gs', vn, g1, kp.trans (Kp.set _ (by simp)), ss'.set vn true, upd_same.trans (congrArg some (congrArg HO.lst (by rw [List.map_set]))), by rw [List.length_set]; exact ls', fun x hx => ?_⟩
        rw [getD_setB (by omega), htk, List.mem_append, List.mem_singleton]
        by_cases e : x = vn
        · subst e; rw [if_pos rfl]; simp
        · have e' : ¬ ((x : Int) = (vn : Int)) := by omega
          rw [if_neg e, hs' x hx]
          simp [e']
      · rintro τ G' ⟨y5, ss', rfl, kp, gs', ls', hs'⟩
        rw [List.length_map, List.take_length] at hs'
        have h1' := kp _ _ (by simpa using nts) h1
        have gf' := kp _ _ (by simpa using Ne.symm nsf) gf1
        have hs'' : ∀ x : Nat, x < n → (ss'.getD x false = true ↔ Seen os (i + 1) (x : Int)) := fun x hx => by
          rw [hs' x hx, Seen.succ, Rch.mem_ring hM]
          unfold ringOf
          rw [hM.per]
        have kp2 : Kp [ps, pf] H0 G' := (kG.trans (k1.mono (by simp))).trans (kp.mono (by simp))
        have hr' : ∀ r ∈ rs, H r.1 = none ∧ r.1 ≠ pf ∧ r.1 ≠ ps ∧ G' r.1 = some (il r.2) := fun r hr0 => by
          obtain ⟨z1, z2, z3, z4⟩ := hr r hr0
          exact ⟨z1, z2, z3, kp _ _ (by simpa using z3) (k1 _ _ (by simp) z4)⟩
        have hL : Lead os i := Lead_iff.mpr hns
        walk_at "rd"
        refine ⟨_, .inl (SqL.of h1'), ite2 (fun c1 => ?_) (fun c1 => ?_)⟩
        · have hpe : 1 < per os (i : Int) := by rw [hM.per]; rw [List.length_map, hrl] at c1; omega
          refine ⟨.inl ⟨rfl, _, SqL.of gf'⟩, _, gf', by unfold rfs; rw [List.length_map]; omega, ⟨_, rfl⟩, kp2.trans (Kp.set _ (by simp)), ss', (upd_ne nsf).trans gs', ls', hs'', rs ++ [(t, ringOf os (i : Int))], ?_, fun r hr0 => ?_, ?_⟩
          · refine upd_same.trans (congrArg some (congrArg HO.lst ?_))
            unfold rfs; rw [List.map_append]; rfl
          · rcases List.mem_append.mp hr0 with z | z
            · obtain ⟨z1, z2, z3, z4⟩ := hr' r z
              exact ⟨z1, z2, z3, (upd_ne z2).trans z4⟩
            · rw [List.mem_singleton.mp z]
              exact ⟨kHG.free ht, ntf, nts, (upd_ne ntf).trans h1'⟩
          · show _ = ringsL os i ++ _
            rw [if_pos ⟨hL, hpe⟩, List.map_append, er]
            rfl
        · have hpe : ¬ 1 < per os (i : Int) := by rw [hM.per]; rw [List.length_map, hrl] at c1; omega
          refine ⟨⟨_, rfl⟩, kp2, ss', gs', ls', hs'', rs, gf', hr', ?_⟩
          show _ = ringsL os i ++ _
          rw [if_neg (fun z => hpe z.2), List.append_nil, er]
    · have hsi : Seen os i (i : Int) := (hs i hi).mp (by cases z : ss.getD i false with | true => rfl | false => exact absurd z c)
      refine ⟨kG, ss, gs, ls, fun x hx => by rw [hs x hx, Seen.step ho hi hsi], rs, gf, hr, ?_⟩
      show _ = ringsL os i ++ _
      rw [if_neg (fun z => Lead_iff.mp z.1 hsi), List.append_nil, er]
  · rintro τ G ⟨x3, x4, x5, ss, rs, rfl, kG, gs, ls, hs, gf, hr, er⟩
    have kHG : Kp [] H G := Kp.un (Kp.un ((kH.mono (by simp)).trans kG) nps) npf
    walk_at "rd"
    exact q _ _ rs kHG npf gf (fun r hr0 => ⟨(hr r hr0).1, (hr r hr0).2.1, (hr r hr0).2.2.2⟩) er
abbrev wTake : V := .str (Str.ofString "take")
abbrev wMove : V := .str (Str.ofString "move")
abbrev wLay : V := .str (Str.ofString "lay")
def mvl : Int → List Int → List (List V)
  | _, [] => []
  | g, p :: ps => [wMove, .int p, .int g] :: mvl p ps
def lastD (g : Int) (ps : List Int) : Int := ps.getLastD g
theorem mvl_snoc : ∀ (g p : Int) (ps : List Int), mvl g (ps ++ [p]) = mvl g ps ++ [[wMove, .int p, .int (lastD g ps)]]
  | g, p, [] => rfl
  | g, p, q :: ps => by
    show _ :: mvl q (ps ++ [p]) = _ :: (mvl q ps ++ _)
    rw [mvl_snoc q p ps]
    unfold lastD
    cases ps with
    | nil => rfl
    | cons r rs => simp [List.getLastD_eq_getLast?, List.getLast?_cons]
theorem mvl_len : ∀ (g : Int) (ps : List Int), (mvl g ps).length = ps.length
  | _, [] => rfl
  | g, p :: ps => by show (mvl p ps).length + 1 = _; rw [mvl_len p ps]; rfl
theorem lastD_snoc (g p : Int) (ps : List Int) : lastD g (ps ++ [p]) = p := by unfold lastD; simp
def rdL (ring : List Int) : List (List V) := [wTake, .int (ring.getD 0 0)] :: mvl (ring.getD 0 0) (ring.drop 1).reverse ++ [[wLay, .int (lastD (ring.getD 0 0) (ring.drop 1).reverse)]]
theorem rdL_len {ring : List Int} (h : 1 ≤ ring.length) : (rdL ring).length = ring.length + 1 := by
  unfold rdL
  rw [List.length_append, List.length_cons, mvl_len, List.length_reverse, List.length_drop]
  show ring.length - 1 + 1 + 1 = _
  omega
abbrev s_round_ring : Stmt := top 6
theorem sc_round_ring : FnScope ["ring", "deeds", "goal", "place"] ["ring"] (defScope s_round_ring) := ⟨rfl, rfl, rfl, by decide +kernel, rfl, by decide +kernel, by decide +kernel⟩
def spRoundRing (K : PySem.W.Frag) : Sp := fun vs H Q _ => ∃ (a : Addr) (ring : List Int), vs = [.ref a] ∧ SqL K H a (ring.map V.int) ∧ 1 ≤ ring.length ∧ ring.length ≤ 1000 ∧
  ∀ p H' ps, Kp [] H H' → H p = none → H' p = some (.lst (tfs ps)) → (∀ r ∈ ps, H r.1 = none ∧ H' r.1 = some (.tup r.2)) → ps.map (·.2) = rdL ring → Q (.ref p) H'
theorem tfs_app (a b : List (Addr × List V)) : tfs (a ++ b) = tfs a ++ tfs b := by unfold tfs; rw [List.map_append]
theorem tfs_len (a : List (Addr × List V)) : (tfs a).length = a.length := by unfold tfs; rw [List.length_map]
theorem ne_lt {H : Hp} {a b : Addr} {xs ys : List V} (h1 : H a = some (.lst xs)) (h2 : H b = some (.tup ys)) : b ≠ a := by
  intro e; subst e; rw [h1] at h2; cases h2
theorem df_round_ring (a : At K mg "round_ring" s_round_ring) (B : Blt mg) : Df P w K mg base "round_ring" ["ring"] 1 (spRoundRing K) := by
  refine df_of (k := 0) a sc_round_ring (fun _ _ _ _ _ _ us hl => match us, hl with | [_], _ => rfl) (fun vs H Q E h => ?_) (fun f cdv A outer s H vs Q E hr h => ?_)
  · obtain ⟨a, _, rfl, _⟩ := h; rfl
  obtain ⟨a, ring, rfl, ha, hr1, hr2, q⟩ := h
  have sc := sc_round_ring
  have hsl := hsl
  have g0 : atI (ring.map V.int) 0 = some (.int (ring.getD 0 0)) := (get_map_int (cs := ring) (k := 0) (by decide) (by omega)).2
  refine ⟨_, (pss_cons (ps_set (i := 1) sc.nd rfl (by first | exact Or.inl rfl | exact Or.inr rfl) (pe_lst (pa_cons (pe_tup (pa_cons pe_str (pa_cons (pe_ix ix_list (pv 0) pe_int (fun _ _ => rfl)) pa_nil))) pa_nil)))
    (pss_cons (ps_set (i := 2) sc.nd rfl (by first | exact Or.inl rfl | exact Or.inr rfl) (pe_ix ix_list (pv 0) pe_int (fun _ _ => rfl)))
    (pss_cons (ps_for PassesOwn.never rfl (pi_list (pe_slice3 (pv 0) po_none (po_some pe_int) (po_some (pe_un un_neg pe_int)))) (pg_name (i := 3) sc.nd rfl (by first | exact Or.inl rfl | exact Or.inr rfl)) (pss_cons (ps_expr (pe_bm PySem.F.plainAttrs_list PySem.F.slot_list_append PySem.F.type_list_append mr_append (pv 1) (pa_cons (pe_tup (pa_cons pe_str (pa_cons (pv 3) (pa_cons (pv 2) pa_nil)))) pa_nil)))
    (pss_one (ps_set (i := 2) sc.nd rfl (by first | exact Or.inl rfl | exact Or.inr rfl) (pv 3)))))
    (pss_cons (ps_expr (pe_bm PySem.F.plainAttrs_list PySem.F.slot_list_append PySem.F.type_list_append mr_append (pv 1) (pa_cons (pe_tup (pa_cons pe_str (pa_cons (pv 2) pa_nil))) pa_nil)))
    (pss_one (ps_ret (pv 1))))))), ?_⟩
  rw [show start ["ring", "deeds", "goal", "place"] [V.ref a] = [some (.ref a), none, none, none] from rfl]
  walk_at "rd"
  refine ⟨_, ha, _, g0, by show 2 ≤ sizeLine; omega, fun pt hpt => ⟨by show 1 ≤ sizeLine; omega, fun pd hpd => ?_⟩⟩
  have kH := (Kp.new (bs := []) (HO.tup [wTake, V.int (ring.getD 0 0)]) hpt).trans (Kp.new (HO.lst [V.ref pt]) hpd)
  refine ⟨_, Kp_sq' ha kH, _, g0, ?_⟩
  have hpd0 := upd_same (H := upd H pt (HO.tup [wTake, V.int (ring.getD 0 0)])) (a := pd) (o := HO.lst [V.ref pt])
  have hpt0 := (Kp.new (bs := []) (HO.lst [V.ref pt]) hpd) pt _ (by simp) (upd_same (H := H) (o := HO.tup [wTake, V.int (ring.getD 0 0)]))
  have npd : H pd = none := (Kp.new (bs := []) _ hpt).free hpd
  show ∃ x, SqL K (upd (upd H pt (HO.tup [wTake, V.int (ring.getD 0 0)])) pd (HO.lst [V.ref pt])) a x ∧ _
  generalize upd (upd H pt (HO.tup [wTake, V.int (ring.getD 0 0)])) pd (HO.lst [V.ref pt]) = H0 at *
  refine ⟨_, Kp_sq' ha kH, by decide, fun pl hpl => ?_⟩
  rw [slV_back, ← List.map_drop, ← List.map_reverse]
  have kl := Kp.new (bs := []) (HO.lst (List.map V.int (ring.drop 1).reverse)) hpl
  have hl0 := upd_same (H := H0) (a := pl) (o := HO.lst (List.map V.int (ring.drop 1).reverse))
  have hpd1 := kl _ _ (by simp) hpd0
  have hpt1 := kl _ _ (by simp) hpt0
  have npl : pl ≠ pd := Ne.symm (ne_of_none hpd0 hpl)
  have kH1 := kH.trans kl
  have tll : ((ring.drop 1).reverse).length = ring.length - 1 := by rw [List.length_reverse, List.length_drop]
  generalize upd H0 pl (HO.lst (List.map V.int (ring.drop 1).reverse)) = H1 at *
  refine ⟨⟨_, SqL.of hl0⟩, ?_⟩
  refine lp_list (xs := ((ring.drop 1).reverse).map V.int) (fun j τ G => ∃ (x3 : Option V) (ps : List (Addr × List V)), τ = [some (.ref a), some (.ref pd), some (.int (lastD (ring.getD 0 0) (((ring.drop 1).reverse).take j))), x3] ∧ Kp [pd] H1 G ∧ G pd = some (.lst (tfs ps)) ∧ (∀ r ∈ ps, H r.1 = none ∧ G r.1 = some (.tup r.2)) ∧ ps.map (·.2) = [wTake, .int (ring.getD 0 0)] :: mvl (ring.getD 0 0) (((ring.drop 1).reverse).take j)) ?_ ?_ ?_ ?_
  · refine ⟨none, [(pt, [wTake, .int (ring.getD 0 0)])], rfl, Kp.refl, hpd1, fun r hr => ?_, rfl⟩
    rw [List.mem_singleton.mp hr]
    exact ⟨hpt, hpt1⟩
  · rintro j τ G _ ⟨x3, ps, rfl, kp, _⟩
    exact SqL.of (kp _ _ (by simpa using npl) hl0)
  · rintro j x τ G hx ⟨x3, ps, rfl, kp, hd, hps, eps⟩
    obtain ⟨rfl, hj⟩ := get_map_elim hx
    have htk := take_D hj
    have lps : ps.length = j + 1 := by
      have := congrArg List.length eps
      rw [List.length_map, List.length_cons, mvl_len, List.length_take] at this
      omega
    have kHG : Kp [] H G := Kp.un ((kH1.mono (bs' := [pd]) (by simp)).trans kp) npd
    walk_at "rd"
    refine ⟨.inl ⟨rfl, _, SqL.of hd⟩, by show 3 ≤ sizeLine; omega, fun p3 hp3 => ?_⟩
    have k3 := Kp.new (bs := []) (HO.tup [wMove, V.int (((ring.drop 1).reverse).getD j 0), V.int (lastD (ring.getD 0 0) (((ring.drop 1).reverse).take j))]) hp3
    have hd3 := k3 _ _ (by simp) hd
    refine ⟨_, hd3, by rw [tfs_len]; omega, ?_⟩
    rw [htk, lastD_snoc, mvl_snoc]
    refine ⟨rfl, (kp.trans (k3.mono (by simp))).trans (Kp.set _ (by simp)), ps ++ [(p3, [wMove, V.int (((ring.drop 1).reverse).getD j 0), V.int (lastD (ring.getD 0 0) (((ring.drop 1).reverse).take j))])], upd_same.trans (by rw [tfs_app]; rfl), fun r hr => ?_, by rw [List.map_append, eps]; rfl⟩
    rcases List.mem_append.mp hr with y | y
    · obtain ⟨z1, z2⟩ := hps r y
      exact ⟨z1, (upd_ne (ne_lt hd z2)).trans (k3 _ _ (by simp) z2)⟩
    · rw [List.mem_singleton.mp y]
      exact ⟨kHG.free hp3, (upd_ne (ne_lt hd3 upd_same)).trans upd_same⟩
  · rintro τ G ⟨x3, ps, rfl, kp, hd, hps, eps⟩
    rw [List.length_map, List.take_length] at eps
    rw [List.length_map, List.take_length]
    have kHG : Kp [] H G := Kp.un ((kH1.mono (bs' := [pd]) (by simp)).trans kp) npd
    have lps : ps.length = ring.length := by
      have := congrArg List.length eps
      rw [List.length_map, List.length_cons, mvl_len, tll] at this
      omega
    walk_at "rd"
    refine ⟨.inl ⟨rfl, _, SqL.of hd⟩, by show 2 ≤ sizeLine; omega, fun p3 hp3 => ?_⟩
    have k3 := Kp.new (bs := []) (HO.tup [wLay, V.int (lastD (ring.getD 0 0) (ring.drop 1).reverse)]) hp3
    have hd3 := k3 _ _ (by simp) hd
    refine ⟨_, hd3, by rw [tfs_len]; omega, ?_⟩
    refine q pd _ (ps ++ [(p3, [wLay, V.int (lastD (ring.getD 0 0) (ring.drop 1).reverse)])]) (Kp.un (bs := []) (((kHG.trans k3).mono (bs' := [pd]) (by simp)).trans (Kp.set _ (by simp))) npd) npd (upd_same.trans (by rw [tfs_app]; rfl)) (fun r hr => ?_) (by rw [List.map_append, eps]; rfl)
    rcases List.mem_append.mp hr with y | y
    · obtain ⟨z1, z2⟩ := hps r y
      exact ⟨z1, (upd_ne (ne_lt hd z2)).trans (k3 _ _ (by simp) z2)⟩
    · rw [List.mem_singleton.mp y]
      exact ⟨kHG.free hp3, (upd_ne (ne_lt hd3 upd_same)).trans upd_same⟩
noncomputable def brL (os : List Int) (n : Nat) : List (List V) := ((ringsL os n).map rdL).flatten
theorem flat_len {f : List Int → List (List V)} {g : List Int → Nat} : ∀ (rs : List (List Int)), (∀ r ∈ rs, (f r).length = g r) → ((rs.map f).flatten).length = (rs.map g).sum
  | [], _ => rfl
  | r :: rs, h => by
    rw [List.map_cons, List.flatten_cons, List.length_append, flat_len rs fun x hx => h x (by simp [hx]), h r (by simp)]; rfl
theorem sum_add1 : ∀ (rs : List (List Int)), (rs.map fun r => r.length + 1).sum = lsum rs + rs.length
  | [] => rfl
  | r :: rs => by
    have := sum_add1 rs
    unfold lsum at *
    simp only [List.map_cons, List.sum_cons, List.length_cons] at *
    omega
theorem brL_len {n : Nat} {os : List Int} (h : IsOrd n os) : (brL os n).length = offL os n + (ringsL os n).length := by
  unfold brL
  rw [flat_len (g := fun r => r.length + 1), sum_add1, lsum_off h]
  intro r hr
  exact rdL_len (by have := ringsL_mem h (Nat.le_refl n) hr; omega)
theorem offL_le (os : List Int) (n : Nat) : offL os n ≤ n := by
  have := List.length_filter_le (fun (i : Nat) => !decide (os.getD i 0 = (i : Int))) (List.range n)
  rw [List.length_range] at this
  exact this
theorem rfs_at {rs : List (Addr × List Int)} {i : Nat} {x : V} (h : (rfs rs)[i]? = some x) : ∃ r ∈ rs, rs[i]? = some r ∧ x = .ref r.1 := by
  unfold rfs at h
  rw [List.getElem?_map] at h
  cases e : rs[i]? with
  | none => rw [e] at h; cases h
  | some r =>
    rw [e] at h
    cases h
    obtain ⟨hi, e'⟩ := List.getElem?_eq_some_iff.mp e
    exact ⟨r, by rw [← e']; exact List.getElem_mem hi, rfl, rfl⟩
theorem rfs_len (rs : List (Addr × List Int)) : (rfs rs).length = rs.length := by unfold rfs; rw [List.length_map]
theorem flat_pre {f : List Int → List (List V)} {rs : List (Addr × List Int)} {L : List (List Int)} (er : rs.map (·.2) = L) (j : Nat) : (((rs.take j).map fun r => f r.2).flatten).length ≤ ((L.map f).flatten).length := by
  subst er
  rw [List.map_map]
  have e : (rs.map (f ∘ fun x => x.2)) = (rs.take j).map (fun r => f r.2) ++ (rs.drop j).map (fun r => f r.2) := by
    rw [← List.map_append, List.take_append_drop]; rfl
  rw [e, List.flatten_append, List.length_append]
  omega
theorem roll_it {n : Nat} {k : Int} (hn : 0 < n) {p : Int} (p0 : 0 ≤ p) (p1 : p < n) : ∀ j, itn (rollL n k) j p = (p + (j : Int) * k) % (n : Int)
  | 0 => by
    show p = _
    simp
    exact (Int.emod_eq_of_lt p0 p1).symm
  | j + 1 => by
    have b0 := Int.emod_nonneg (p + (j : Int) * k) (show (n : Int) ≠ 0 by omega)
    have b1 := Int.emod_lt_of_pos (p + (j : Int) * k) (show (0 : Int) < n by omega)
    show (rollL n k).getD (itn (rollL n k) j p).toNat 0 = _
    rw [roll_it hn p0 p1 j, rollL_get (by omega), Int.toNat_of_nonneg b0, Int.emod_add_emod]
    congr 1
    push_cast
    rw [Int.add_mul]
    omega
theorem roll_back {n : Nat} {k p : Int} (hn : 0 < n) (p0 : 0 ≤ p) (p1 : p < n) (j : Nat) : (p + (j : Int) * k) % (n : Int) = p ↔ n ∣ j * (k % (n : Int)).toNat := by
  have r0 := Int.emod_nonneg k (show (n : Int) ≠ 0 by omega)
  have e : ((j * (k % (n : Int)).toNat : Nat) : Int) = (j : Int) * (k % (n : Int)) := by push_cast; rw [Int.toNat_of_nonneg r0]
  have e2 : ((j : Int) * (k % (n : Int))) % (n : Int) = ((j : Int) * k) % (n : Int) := by rw [Int.mul_emod (j : Int) (k % (n : Int)), Int.emod_emod_of_dvd k (Int.dvd_refl _), ← Int.mul_emod]
  rw [← Int.natCast_dvd_natCast, e]
  constructor
  · intro h
    have : ((p + (j : Int) * k) - p) % (n : Int) = 0 := by
      rw [Int.sub_emod, h, Int.emod_eq_of_lt p0 p1]; simp
    rw [show (p + (j : Int) * k) - p = (j : Int) * k by omega, ← e2] at this
    exact Int.dvd_of_emod_eq_zero this
  · intro h
    have h0 : ((j : Int) * k) % (n : Int) = 0 := by rw [← e2]; exact Int.emod_eq_zero_of_dvd h
    rw [Int.add_emod, h0, Int.emod_eq_of_lt p0 p1, Int.add_zero, Int.emod_eq_of_lt p0 p1]
theorem roll_per {n r : Nat} {k : Int} (hn : 0 < n) (hr : (k % (n : Int)).toNat = r) {p : Int} (p0 : 0 ≤ p) (p1 : p < n) : IsPer (rollL n k) p (n / Nat.gcd n r) := by
  have gp : 0 < Nat.gcd n r := Nat.gcd_pos_of_pos_left _ hn
  obtain ⟨M, hM⟩ := Nat.gcd_dvd_left n r
  obtain ⟨m, hm⟩ := Nat.gcd_dvd_right n r
  generalize hg : Nat.gcd n r = g at *
  have eM : n / g = M := by rw [hM]; exact Nat.mul_div_cancel_left M gp
  rw [eM]
  have hMp : 0 < M := Nat.pos_of_ne_zero fun z => by subst z; simp at hM; omega
  refine ⟨hMp, ?_, fun j h1 h2 => ?_⟩
  · rw [roll_it hn p0 p1, roll_back hn p0 p1, hr]
    refine ⟨m, ?_⟩
    rw [hm, ← Nat.mul_assoc, Nat.mul_comm M g, ← hM]
  · rw [roll_it hn p0 p1, Ne, roll_back hn p0 p1, hr]
    intro h
    have h3 : n ∣ Nat.gcd (j * n) (j * r) := Nat.dvd_gcd ⟨j, Nat.mul_comm j n⟩ h
    rw [Nat.gcd_mul_left, hg, hM, Nat.mul_comm j g] at h3
    have h4 := Nat.dvd_of_mul_dvd_mul_left gp h3
    have := Nat.le_of_dvd (by omega) h4
    omega
theorem lsum_all {M : Nat} : ∀ (rs : List (List Int)), (∀ r ∈ rs, r.length = M) → lsum rs = rs.length * M
  | [], _ => by simp [lsum]
  | r :: rs, h => by
    have h1 := lsum_all rs fun x hx => h x (by simp [hx])
    have h2 := h r (by simp)
    unfold lsum at *
    simp only [List.map_cons, List.sum_cons, List.length_cons] at *
    rw [h1, h2, Nat.add_mul]
    omega
theorem roll_lens {n r : Nat} {k : Int} (hn : 0 < n) (hr : (k % (n : Int)).toNat = r) : ∀ x ∈ ringsL (rollL n k) n, x.length = n / Nat.gcd n r := by
  intro x hx
  obtain ⟨q, L, hq, hL, e⟩ := ringsL_is (rollL_ord n k) (Nat.le_refl n) hx
  rw [e, itl_len]
  exact hL.uniq (roll_per hn hr (by omega) (by omega))
theorem off_count {os : List Int} : ∀ (n : Nat), (∀ i, i < n → os.getD i 0 ≠ (i : Int)) → offL os n = n := by
  intro n h
  unfold offL
  rw [List.filter_eq_self.mpr, List.length_range]
  intro i hi
  simpa using h i (List.mem_range.mp hi)
theorem off_none {os : List Int} : ∀ (n : Nat), (∀ i, i < n → os.getD i 0 = (i : Int)) → offL os n = 0 := by
  intro n h
  unfold offL
  rw [List.length_eq_zero_iff, List.filter_eq_nil_iff]
  intro i hi
  simpa using h i (List.mem_range.mp hi)
theorem roll_count {n r : Nat} {k : Int} (hn : 0 < n) (hr : (k % (n : Int)).toNat = r) (h0 : 0 < r) : (ringsL (rollL n k) n).length = Nat.gcd n r := by
  have ord := rollL_ord n k
  have gp : 0 < Nat.gcd n r := Nat.gcd_pos_of_pos_left _ hn
  have r1 := Int.emod_lt_of_pos k (show (0 : Int) < n by omega)
  have hs := lsum_all _ (roll_lens (k := k) hn hr)
  rw [lsum_off ord, off_count n fun i hi z => ?_] at hs
  · obtain ⟨M, hM⟩ := Nat.gcd_dvd_left n r
    generalize Nat.gcd n r = g at *
    have eM : n / g = M := by rw [hM]; exact Nat.mul_div_cancel_left M gp
    rw [eM] at hs
    have hMp : 0 < M := Nat.pos_of_ne_zero fun z => by subst z; simp at hM; omega
    have : (ringsL (rollL n k) n).length * M = g * M := by omega
    exact Nat.eq_of_mul_eq_mul_right hMp this
  · rw [rollL_get hi] at z
    have := (roll_back hn (p := (i : Int)) (by omega) (by omega) 1 (k := k)).mp (by simpa using z)
    rw [hr, Nat.one_mul] at this
    have := Nat.le_of_dvd h0 this
    omega
theorem roll_still {n : Nat} {k : Int} (h : n = 0 ∨ k % (n : Int) = 0) : ringsL (rollL n k) n = [] := by
  have ord := rollL_ord n k
  have hs := lsum_off ord
  rw [off_none n fun i hi => ?_] at hs
  · cases e : ringsL (rollL n k) n with
    | nil => rfl
    | cons x xs =>
      have := ringsL_mem ord (Nat.le_refl n) (r := x) (by rw [e]; simp)
      rw [e] at hs
      unfold lsum at hs
      simp only [List.map_cons, List.sum_cons] at hs
      omega
  · rw [rollL_get hi]
    have := (roll_back (n := n) (by omega) (p := (i : Int)) (by omega) (by omega) 1 (k := k)).mpr (by
      rcases h with z | z
      · omega
      · rw [z]; simp)
    simpa using this
abbrev s_xp : Stmt := top 9
theorem sc_xp : FnScope ["begin", "middle", "end", "plan", "ring", "place"] ["begin", "middle", "end"] (defScope s_xp) := ⟨rfl, rfl, rfl, by decide +kernel, rfl, by decide +kernel, by decide +kernel⟩
noncomputable def xpL (b : Nat) (rl : List Int) (L : Nat) : List (List V) := ((ringsL rl L).map fun r => rdL (r.map fun x => (b : Int) + x)).flatten
def spXp : Sp := fun vs H Q _ => ∃ (b m e : Nat), vs = [.int b, .int m, .int e] ∧ b ≤ m ∧ m ≤ e ∧ e ≤ 1000 ∧
  ∀ p H' ps, Kp [] H H' → H p = none → H' p = some (.lst (tfs ps)) → (∀ r ∈ ps, H r.1 = none ∧ H' r.1 = some (.tup r.2)) → ps.map (·.2) = xpL b (rollL (e - b) ((e - m : Nat) : Int)) (e - b) → Q (.ref p) H'
theorem xpL_len {b L : Nat} {rl : List Int} (h : IsOrd L rl) : (xpL b rl L).length = (brL rl L).length := by
  unfold xpL brL
  rw [flat_len (g := fun r => r.length + 1), flat_len (g := fun r => r.length + 1)]
  · intro r hr
    exact rdL_len (by have := ringsL_mem h (Nat.le_refl L) hr; omega)
  · intro r hr
    rw [rdL_len (by rw [List.length_map]; have := ringsL_mem h (Nat.le_refl L) hr; omega), List.length_map]
theorem df_xp (a : At K mg "exchange_plan" s_xp) (B : Blt mg) (D_roll_order : Df P w K mg base "roll_order" ["n", "k"] 2 spRollOrder) (D_rings : Df P w K mg base "rings" ["order"] 2 (spRings K)) (D_round_ring : Df P w K mg base "round_ring" ["ring"] 2 (spRoundRing K)) : Df P w K mg base "exchange_plan" ["begin", "middle", "end"] 3 spXp := by
  refine df_of (k := 2) a sc_xp (fun _ _ _ _ _ _ us hl => match us, hl with | [_, _, _], _ => rfl) (fun vs H Q E h => ?_) (fun f cdv A outer s H vs Q E hr h => ?_)
  · obtain ⟨b, m, e, rfl, _⟩ := h; rfl
  obtain ⟨b, m, e, rfl, hbm, hme, he, q⟩ := h
  have sc := sc_xp
  have hsl := hsl
  refine ⟨_, (pss_cons (ps_set (i := 3) sc.nd rfl (by first | exact Or.inl rfl | exact Or.inr rfl) (pe_lst pa_nil))
    (pss_cons (ps_for PassesOwn.never rfl (pi_list (pe_cd D_rings hr rfl (pa_cons (pe_cd D_roll_order hr rfl (pa_cons (pe_op op_sub (pv 2) (pv 0)) (pa_cons (pe_op op_sub (pv 2) (pv 1)) pa_nil))) pa_nil))) (pg_name (i := 4) sc.nd rfl (by first | exact Or.inl rfl | exact Or.inr rfl)) (pss_one (ps_expr (pe_bm PySem.F.plainAttrs_list PySem.F.slot_list_extend PySem.F.type_list_extend mr_extend (pv 3) (pa_cons (pe_cd D_round_ring hr rfl (pa_cons (pe_comp (ts := [5]) rfl rfl (pi_list (pv 4)) (fun _ _ _ _ => (pg_name (i := 5) sc.nd rfl (by first | exact Or.inl rfl | exact Or.inr rfl))) (fun _ _ _ _ => pif_nil) (fun _ _ _ _ => (pe_op op_add (pv 0) (pv 5)))) pa_nil)) pa_nil)))))
    (pss_one (ps_ret (pv 3))))), ?_⟩
  rw [show start ["begin", "middle", "end", "plan", "ring", "place"] [V.int b, V.int m, V.int e] = [some (.int b), some (.int m), some (.int e), none, none, none] from rfl]
  walk_at "rd"
  have eb : (e : Int) - (b : Int) = ((e - b : Nat) : Int) := by omega
  have em : (e : Int) - (m : Int) = ((e - m : Nat) : Int) := by omega
  rw [eb, em]
  have ho := rollL_ord (e - b) ((e - m : Nat) : Int)
  have hbl := brL_len ho
  have hxl := xpL_len (b := b) ho
  have hol := offL_le (rollL (e - b) ((e - m : Nat) : Int)) (e - b)
  have hrl := ringsL_len (rollL (e - b) ((e - m : Nat) : Int)) (e - b)
  generalize hos : rollL (e - b) ((e - m : Nat) : Int) = os at *
  generalize hL : e - b = n at *
  refine ⟨Nat.zero_le _, fun pp hpp => ?_⟩
  have kH := Kp.new (bs := []) (HO.lst []) hpp
  have hpp0 := upd_same (H := H) (a := pp) (o := HO.lst [])
  generalize upd H pp (HO.lst []) = H0 at *
  refine ⟨n, _, rfl, by omega, fun po Ho ko hpo hoo => ?_⟩
  rw [hos] at hoo
  refine ⟨po, n, os, rfl, .inl (SqL.of hoo), ho, by omega, fun pr H1 rs k1' hpr h1 hr1 er => ⟨pr, rfl, ⟨_, SqL.of h1⟩, ?_⟩⟩
  have k1 := ko.trans k1'
  have npr : pr ≠ pp := Ne.symm (ne_of_none (ko _ _ (by simp) hpp0) hpr)
  have hp1 := k1 _ _ (by simp) hpp0
  refine lp_list (xs := rfs rs) (fun j τ G => ∃ (x2 x5 : Option V) (ps : List (Addr × List V)), τ = [some (.int b), some (.int m), some (.int e), some (.ref pp), x2, x5] ∧ Kp [pp] H1 G ∧ G pp = some (.lst (tfs ps)) ∧ (∀ r ∈ ps, H r.1 = none ∧ G r.1 = some (.tup r.2)) ∧ ps.map (·.2) = ((rs.take j).map fun r => rdL (r.2.map fun x => (b : Int) + x)).flatten) ?_ ?_ ?_ ?_
  · exact ⟨none, none, [], rfl, Kp.refl, hp1, fun r hr => (nomatch hr), rfl⟩
  · rintro j τ G _ ⟨x2, x5, ps, rfl, kp, _⟩
    exact SqL.of (kp _ _ (by simpa using npr) h1)
  · rintro j x τ G hx ⟨x2, x5, ps, rfl, kp, hd, hps, eps⟩
    obtain ⟨r, hm, e', rfl⟩ := rfs_at hx
    have hrm : r.2 ∈ ringsL os n := by rw [← er]; exact List.mem_map_of_mem hm
    have hrn := ringsL_mem ho (Nat.le_refl n) hrm
    have htk : rs.take (j + 1) = rs.take j ++ [r] := by rw [List.take_add_one, e']; rfl
    have kHG : Kp [] H G := Kp.un (((kH.trans k1).mono (bs' := [pp]) (by simp)).trans kp) hpp
    have nrp : r.1 ≠ pp := Ne.symm (ne_of_none (ko _ _ (by simp) hpp0) (hr1 r hm).1)
    have hrG := kp _ _ (by simpa using nrp) (hr1 r hm).2.2
    have lps : ps.length ≤ 2 * n := by
      have h2 := flat_pre (f := fun r => rdL (r.map fun x => (b : Int) + x)) er j
      rw [← eps, List.length_map] at h2
      unfold xpL at hxl
      omega
    walk_at "rd"
    refine ⟨.inl ⟨rfl, _, SqL.of hd⟩, ⟨_, SqL.of hrG⟩, fun D hD => ?_⟩
    refine cl_list (xs := r.2.map V.int) (fun k τ G2 => ∃ u, τ = [some (.int b), some (.int m), some (.int e), some (.ref pp), some (.ref r.1), u] ∧ Kp [D] (upd G D (.lst [])) G2 ∧ G2 D = some (il ((r.2.take k).map fun x => (b : Int) + x))) ?_ ?_ ?_ ?_
    · exact ⟨none, rfl, Kp.refl, upd_same⟩
    · rintro k τ G2 _ ⟨u, rfl, kq, _⟩
      exact SqL.of ((Kp.drop1 hD kq) _ _ (by simp) hrG)
    · rintro k x τ G2 hx ⟨u, rfl, kq, hq⟩
      obtain ⟨rfl, hk⟩ := get_map_elim hx
      walk_at "rd"
      refine ⟨_, hq, by rw [List.length_map, List.length_map, List.length_take]; omega, kq.trans (Kp.set _ (by simp)), ?_⟩
      rw [take_D hk, List.map_append]
      exact upd_same.trans (congrArg some (congrArg HO.lst (by rw [List.map_append]; rfl)))
    · rintro τ G2 ⟨u, rfl, kq, hq⟩
      rw [List.length_map, List.take_length] at hq
      have kG := Kp.drop1 hD kq
      have hd2' := kG _ _ (by simp) hd
      refine ⟨D, _, rfl, SqL.of hq, by rw [List.length_map]; omega, by rw [List.length_map]; omega, fun p2 G3 ps2 k2 hp2 h2 hps2 eps2 => ?_⟩
      have hd2 := k2 _ _ (by simp) hd2'
      have l2 : ps2.length ≤ 1001 := by
        have := congrArg List.length eps2
        rw [List.length_map, rdL_len (by rw [List.length_map]; omega), List.length_map] at this
        omega
      refine ⟨p2, rfl, _, hd2, _, h2, by rw [tfs_len, tfs_len]; omega, (kp.trans ((kG.trans k2).mono (by simp))).trans (Kp.set _ (by simp)), ps ++ ps2, upd_same.trans (by rw [tfs_app]), fun y hy => ?_, by rw [List.map_append, eps, eps2, htk, List.map_append, List.flatten_append]; simp⟩
      rcases List.mem_append.mp hy with z | z
      · obtain ⟨z1, z2⟩ := hps y z
        have z3 := (kG.trans k2) _ _ (by simp) z2
        exact ⟨z1, (upd_ne (ne_lt hd2 z3)).trans z3⟩
      · obtain ⟨z1, z2⟩ := hps2 y z
        exact ⟨(kHG.trans kG).free z1, (upd_ne (ne_lt hd2 z2)).trans z2⟩
  · rintro τ G ⟨x2, x5, ps, rfl, kp, hd, hps, eps⟩
    rw [rfs_len, List.take_length] at eps
    walk_at "rd"
    refine q pp G ps (Kp.un (((kH.trans k1).mono (bs' := [pp]) (by simp)).trans kp) hpp) hpp hd hps ?_
    rw [eps]
    unfold xpL
    rw [← er, List.map_map]
    rfl
def wovR (m f : Nat) : List Int := (List.range (2 * m)).map fun (j : Nat) => if j % 2 = f then ((j / 2 : Nat) : Int) else ((m + j / 2 : Nat) : Int)
def wovO (m f : Nat) : List Int := (List.range (2 * m)).map fun (i : Nat) => if i < m then ((2 * i + f : Nat) : Int) else ((2 * (i - m) + 1 - f : Nat) : Int)
theorem wovR_len (m f : Nat) : (wovR m f).length = 2 * m := by simp [wovR]
theorem wovO_len (m f : Nat) : (wovO m f).length = 2 * m := by simp [wovO]
theorem wovR_get {m f j : Nat} (h : j < 2 * m) : (wovR m f).getD j 0 = if j % 2 = f then ((j / 2 : Nat) : Int) else ((m + j / 2 : Nat) : Int) := by
  rw [getD_eq (by rw [wovR_len]; exact h)]; simp [wovR]
theorem wovO_get {m f i : Nat} (h : i < 2 * m) : (wovO m f).getD i 0 = if i < m then ((2 * i + f : Nat) : Int) else ((2 * (i - m) + 1 - f : Nat) : Int) := by
  rw [getD_eq (by rw [wovO_len]; exact h)]; simp [wovO]
theorem wov_back1 {m f : Nat} (hf : f < 2) : IsBack (wovR m f) (wovO m f) := by
  refine ⟨by rw [wovR_len, wovO_len], fun j hj => ?_⟩
  rw [wovR_len] at hj
  rw [wovR_get hj]
  by_cases e : j % 2 = f
  · rw [if_pos e, Int.toNat_natCast, wovO_get (by omega), if_pos (by omega)]
    omega
  · rw [if_neg e, Int.toNat_natCast, wovO_get (by omega), if_neg (by omega)]
    omega
theorem wov_back2 {m f : Nat} (hf : f < 2) : IsBack (wovO m f) (wovR m f) := by
  refine ⟨by rw [wovR_len, wovO_len], fun i hi => ?_⟩
  rw [wovO_len] at hi
  rw [wovO_get hi]
  by_cases e : i < m
  · rw [if_pos e, Int.toNat_natCast, wovR_get (by omega), if_pos (by omega)]
    omega
  · rw [if_neg e, Int.toNat_natCast, wovR_get (by omega), if_neg (by omega)]
    omega
theorem wovR_ord {m f : Nat} (hf : f < 2) : IsOrd (2 * m) (wovR m f) := by
  refine isOrd_of (wovR_len m f) (fun i hi => ?_) (fun i k hi hk e => ?_)
  · rw [wovR_get hi]; split <;> omega
  · have h1 := (wov_back1 (m := m) hf).2 i (by rw [wovR_len]; exact hi)
    have h2 := (wov_back1 (m := m) hf).2 k (by rw [wovR_len]; exact hk)
    rw [e, h2] at h1
    omega
theorem wovO_ord {m f : Nat} (hf : f < 2) : IsOrd (2 * m) (wovO m f) := by
  refine isOrd_of (wovO_len m f) (fun i hi => ?_) (fun i k hi hk e => ?_)
  · rw [wovO_get hi]; split <;> omega
  · have h1 := (wov_back2 (m := m) hf).2 i (by rw [wovO_len]; exact hi)
    have h2 := (wov_back2 (m := m) hf).2 k (by rw [wovO_len]; exact hk)
    rw [e, h2] at h1
    omega
theorem take_succ_D {ns : List Int} {i : Nat} (h : i < ns.length) : ns.take (i + 1) = ns.take i ++ [ns.getD i 0] := by
  have := take_succ_map (g := id) h
  simpa using this
abbrev s_worder : Stmt := top 11
theorem sc_worder : FnScope ["many", "first", "one", "other", "at"] ["many", "first"] (defScope s_worder) := ⟨rfl, rfl, rfl, by decide +kernel, rfl, by decide +kernel, by decide +kernel⟩
def spWorder : Sp := fun vs H Q _ => ∃ (m f : Nat), vs = [.int m, .int f] ∧ f < 2 ∧ m ≤ 500 ∧ ∀ (p : Addr) (H' : Hp), Kp [] H H' → H p = none → H' p = some (il (wovO m f)) → Q (.ref p) H'
theorem df_worder (a : At K mg "weave_order" s_worder) (B : Blt mg) : Df P w K mg base "weave_order" ["many", "first"] 1 spWorder := by
  refine df_of (k := 0) a sc_worder (fun _ _ _ _ _ _ us hl => match us, hl with | [_, _], _ => rfl) (fun vs H Q E h => ?_) (fun f cdv A outer s H vs Q E hr h => ?_)
  · obtain ⟨m, f, rfl, _⟩ := h; rfl
  obtain ⟨m, f, rfl, hf, hm, q⟩ := h
  have sc := sc_worder
  have hsl := hsl
  have wl := wovO_len m f
  refine ⟨_, (pss_cons (ps_comp (j := 2) rfl sc.nd rfl (by first | exact Or.inl rfl | exact Or.inr rfl) (ts := [4]) rfl (pi_range1 rfl B.range (pa_cons (pv 0) pa_nil)) (fun _ _ _ _ => (pg_name (i := 4) sc.nd rfl (by first | exact Or.inl rfl | exact Or.inr rfl))) (fun _ _ _ _ => pif_nil) (fun _ _ _ _ => (pe_op op_add (pe_op op_mul pe_int (pv 4)) (pv 1))))
    (pss_cons (ps_comp (j := 3) rfl sc.nd rfl (by first | exact Or.inl rfl | exact Or.inr rfl) (ts := [4]) rfl (pi_range1 rfl B.range (pa_cons (pv 0) pa_nil)) (fun _ _ _ _ => (pg_name (i := 4) sc.nd rfl (by first | exact Or.inl rfl | exact Or.inr rfl))) (fun _ _ _ _ => pif_nil) (fun _ _ _ _ => (pe_op op_sub (pe_op op_add (pe_op op_mul pe_int (pv 4)) pe_int) (pv 1))))
    (pss_one (ps_ret (pe_op op_cat (pv 2) (pv 3)))))), ?_⟩
  rw [show start ["many", "first", "one", "other", "at"] [V.int m, V.int f] = [some (.int m), some (.int f), none, none, none] from rfl]
  walk_at "rd"
  refine ⟨by omega, by omega, fun D hD => ?_⟩
  rw [Int.toNat_natCast]
  refine cl_range (fun i τ G => ∃ u, τ = [some (.int m), some (.int f), none, none, u] ∧ Kp [D] (upd H D (.lst [])) G ∧ G D = some (il ((wovO m f).take i))) ?_ ?_ ?_
  · exact ⟨none, rfl, Kp.refl, upd_same⟩
  · rintro i τ G hi ⟨u, rfl, kp, hd⟩
    rw [Int.zero_add]
    walk_at "rd"
    refine ⟨cmul_l (by omega) (by omega), _, hd, by rw [List.length_map, List.length_take]; omega, kp.trans (Kp.set _ (by simp)), ?_⟩
    rw [take_succ_D (by omega), wovO_get (by omega), if_pos hi]
    exact upd_same.trans (congrArg some (congrArg HO.lst (by rw [List.map_append]; push_cast; rfl)))
  · rintro τ G ⟨u, rfl, kp, hd⟩
    have k0 := Kp.drop1 hD kp
    refine ⟨by omega, by omega, fun D2 hD2 => ?_⟩
    refine cl_range (fun i τ G1 => ∃ u, τ = [some (.int m), some (.int f), some (.ref D), none, u] ∧ Kp [D2] (upd G D2 (.lst [])) G1 ∧ G1 D2 = some (il (((wovO m f).drop m).take i))) ?_ ?_ ?_
    · exact ⟨none, rfl, Kp.refl, upd_same⟩
    · rintro i τ G1 hi ⟨u, rfl, kp, hd⟩
      rw [Int.zero_add]
      walk_at "rd"
      refine ⟨cmul_l (by omega) (by omega), _, hd, by rw [List.length_map, List.length_take]; omega, kp.trans (Kp.set _ (by simp)), ?_⟩
      have hmi : m + i < (wovO m f).length := by omega
      have e1 : ((wovO m f).drop m).take (i + 1) = ((wovO m f).drop m).take i ++ [2 * (i : Int) + 1 - (f : Int)] := by
        rw [List.take_add_one, List.getElem?_drop, List.getElem?_eq_getElem hmi, ← getD_eq hmi, wovO_get (by omega), if_neg (by omega)]
        have : ((2 * (m + i - m) + 1 - f : Nat) : Int) = 2 * (i : Int) + 1 - (f : Int) := by omega
        rw [this]; rfl
      rw [e1]
      exact upd_same.trans (congrArg some (congrArg HO.lst (by rw [List.map_append]; rfl)))
    · rintro τ G1 ⟨u, rfl, kp2, hd2⟩
      have k1 := Kp.drop1 hD2 kp2
      refine ⟨D, rfl, D2, rfl, ?_⟩
      have hd' := k1 _ _ (by simp) hd
      refine ⟨_, hd', _, hd2, by rw [List.length_map, List.length_map, List.length_take, List.length_take]; omega, fun p hp => ?_⟩
      have e : (wovO m f).take m ++ ((wovO m f).drop m).take m = wovO m f := by
        rw [List.take_of_length_le (l := (wovO m f).drop m) (by rw [List.length_drop]; omega), List.take_append_drop]
      refine q _ _ ((k0.trans k1).trans (Kp.new _ hp)) ((k0.trans k1).free hp) ?_
      rw [← List.map_append, e]
      exact upd_same
theorem ringsL_at {os : List Int} {r : List Int} : ∀ {i : Nat}, r ∈ ringsL os i → ∃ p : Nat, p < i ∧ r = ringOf os (p : Int)
  | 0, h => by simp [ringsL] at h
  | i + 1, h => by
    unfold ringsL at h
    rcases List.mem_append.mp h with z | z
    · obtain ⟨p, hp, e⟩ := ringsL_at z
      exact ⟨p, by omega, e⟩
    · by_cases c : Lead os i ∧ 1 < per os (i : Int)
      · rw [if_pos c] at z
        exact ⟨i, by omega, List.mem_singleton.mp z⟩
      · rw [if_neg c] at z; cases z
theorem ring_bd {n : Nat} {os : List Int} (h : IsOrd n os) {r : List Int} (hr : r ∈ ringsL os n) : ∀ x ∈ r, 0 ≤ x ∧ x < (n : Int) := by
  obtain ⟨p, hp, e⟩ := ringsL_at hr
  subst e
  intro x hx
  obtain ⟨k, _, ek⟩ := itl_mem.mp hx
  rw [← ek]
  exact itn_bd h (by omega) (by omega) k
/-! ### a stretch of a row that goes by an order of its own, all else staying -/
structure Stretch (n b L : Nat) (os rl : List Int) : Prop where
  ord : IsOrd n os
  rord : IsOrd L rl
  fits : b + L ≤ n
  out : ∀ p : Nat, p < n → (p < b ∨ b + L ≤ p) → os.getD p 0 = (p : Int)
  ins : ∀ t : Nat, t < L → os.getD (b + t) 0 = (b : Int) + rl.getD t 0
theorem Stretch.itn {n b L : Nat} {os rl : List Int} (h : Stretch n b L os rl) {t : Int} (t0 : 0 ≤ t) (t1 : t < L) : ∀ j, itn os j ((b : Int) + t) = (b : Int) + L2.itn rl j t
  | 0 => rfl
  | j + 1 => by
    have bd := itn_bd h.rord t0 t1 j
    show os.getD (L2.itn os j ((b : Int) + t)).toNat 0 = (b : Int) + rl.getD (L2.itn rl j t).toNat 0
    rw [h.itn t0 t1 j, show ((b : Int) + L2.itn rl j t).toNat = b + (L2.itn rl j t).toNat by omega]
    exact h.ins _ (by omega)
theorem Stretch.itn_out {n b L : Nat} {os rl : List Int} (h : Stretch n b L os rl) {p : Nat} (hp : p < n) (ho : p < b ∨ b + L ≤ p) : ∀ j, L2.itn os j (p : Int) = (p : Int)
  | 0 => rfl
  | j + 1 => by
    show os.getD (L2.itn os j (p : Int)).toNat 0 = _
    rw [h.itn_out hp ho j, Int.toNat_natCast]
    exact h.out p hp ho
theorem Stretch.per_out {n b L : Nat} {os rl : List Int} (h : Stretch n b L os rl) {p : Nat} (hp : p < n) (ho : p < b ∨ b + L ≤ p) : per os (p : Int) = 1 :=
  IsPer.per ⟨Nat.le_refl 1, h.itn_out hp ho 1, fun j h1 h2 => by omega⟩
theorem Stretch.per {n b L : Nat} {os rl : List Int} (h : Stretch n b L os rl) {t : Int} (t0 : 0 ≤ t) (t1 : t < L) : L2.per os ((b : Int) + t) = L2.per rl t := by
  obtain ⟨M, hM, _⟩ := per_ex h.rord t0 t1
  rw [hM.per]
  refine IsPer.per ⟨hM.1, ?_, fun j h1 h2 e => ?_⟩
  · rw [h.itn t0 t1, hM.2.1]
  · rw [h.itn t0 t1] at e
    exact hM.2.2 j h1 h2 (by omega)
theorem Stretch.seen {n b L : Nat} {os rl : List Int} (h : Stretch n b L os rl) {t : Nat} (ht : t < L) : Seen os (b + t) ((b + t : Nat) : Int) ↔ Seen rl t (t : Int) := by
  have hf := h.fits
  constructor
  · rintro ⟨q, hq, k, e⟩
    rcases Nat.lt_or_ge q b with z | z
    · rw [h.itn_out (by omega) (.inl z)] at e
      omega
    · obtain ⟨s, rfl⟩ : ∃ s, q = b + s := ⟨q - b, by omega⟩
      refine ⟨s, by omega, k, ?_⟩
      have := h.itn (t := (s : Int)) (by omega) (by omega) k
      push_cast at e this
      rw [this] at e
      omega
  · rintro ⟨q, hq, k, e⟩
    refine ⟨b + q, by omega, k, ?_⟩
    have := h.itn (t := (q : Int)) (by omega) (by omega) k
    push_cast at this ⊢
    rw [this, e]
theorem Stretch.ring {n b L : Nat} {os rl : List Int} (h : Stretch n b L os rl) {t : Nat} (ht : t < L) : ringOf os ((b + t : Nat) : Int) = (ringOf rl (t : Int)).map fun x => (b : Int) + x := by
  unfold ringOf
  have e : ((b + t : Nat) : Int) = (b : Int) + (t : Int) := by push_cast; rfl
  rw [e, h.per (by omega) (by omega)]
  unfold itl
  rw [List.map_map]
  refine List.map_congr_left fun j _ => ?_
  exact h.itn (by omega) (by omega) j
open Classical in
theorem ringsL_succ (os : List Int) (i : Nat) : ringsL os (i + 1) = ringsL os i ++ if Lead os i ∧ 1 < L2.per os (i : Int) then [ringOf os (i : Int)] else [] := rfl
open Classical in
theorem Stretch.rings {n b L : Nat} {os rl : List Int} (h : Stretch n b L os rl) : ringsL os n = (ringsL rl L).map fun r => r.map fun x => (b : Int) + x := by
  have hf := h.fits
  have lo : ∀ i, i ≤ b → ringsL os i = [] := by
    intro i
    induction i with
    | zero => intro _; rfl
    | succ i ih =>
      intro hi
      show ringsL os i ++ _ = _
      rw [ih (by omega), if_neg (fun z => by have := z.2; rw [h.per_out (p := i) (by omega) (.inl (by omega))] at this; omega)]
      rfl
  have mid : ∀ t, t ≤ L → ringsL os (b + t) = (ringsL rl t).map fun r => r.map fun x => (b : Int) + x := by
    intro t
    induction t with
    | zero => intro _; exact lo b (Nat.le_refl b)
    | succ t ih =>
      intro ht
      rw [← Nat.add_assoc, ringsL_succ, ringsL_succ, ih (by omega), List.map_append]
      congr 1
      have e : ((b + t : Nat) : Int) = (b : Int) + (t : Int) := by push_cast; rfl
      have hs := h.seen (t := t) (by omega)
      have hp : L2.per os ((b + t : Nat) : Int) = L2.per rl (t : Int) := by rw [e]; exact h.per (by omega) (by omega)
      by_cases c : Lead rl t ∧ 1 < L2.per rl (t : Int)
      · have c' : Lead os (b + t) ∧ 1 < L2.per os ((b + t : Nat) : Int) := ⟨Lead_iff.mpr fun z => Lead_iff.mp c.1 (hs.mp z), by rw [hp]; exact c.2⟩
        rw [if_pos c, if_pos c', h.ring (by omega)]
        rfl
      · have c' : ¬ (Lead os (b + t) ∧ 1 < L2.per os ((b + t : Nat) : Int)) := fun z => c ⟨Lead_iff.mpr fun y => Lead_iff.mp z.1 (hs.mpr y), by rw [← hp]; exact z.2⟩
        rw [if_neg c, if_neg c']
        rfl
  have hi : ∀ s, b + L + s ≤ n → ringsL os (b + L + s) = (ringsL rl L).map fun r => r.map fun x => (b : Int) + x := by
    intro s
    induction s with
    | zero => intro _; exact mid L (Nat.le_refl L)
    | succ s ih =>
      intro hs
      rw [← Nat.add_assoc, ringsL_succ, ih (by omega), if_neg (fun z => by have := z.2; rw [h.per_out (p := b + L + s) (by omega) (.inr (by omega))] at this; omega), List.append_nil]
  have := hi (n - (b + L)) (by omega)
  rwa [show b + L + (n - (b + L)) = n by omega] at this
def cV : Option Int → V
  | none => .non
  | some x => .int x
def ddV : Dd → List V
  | .take p => [wTake, .int (p : Int)]
  | .move p g => [wMove, .int (p : Int), .int (g : Int)]
  | .lay g => [wLay, .int (g : Int)]
def RsOk (n : Nat) (s : RS) : Prop := s.1.length = n ∧ s.2.2.length = n ∧ ∀ x : Int, (some x ∈ s.1 ∨ s.2.1 = some x) → 0 ≤ x ∧ x < (n : Int)
theorem inc_len (mv : List Int) (x : Int) : (inc mv x).length = mv.length := by unfold inc; rw [List.length_set]
theorem RsOk.do {n : Nat} {d : Dd} {s t : RS} (h : RsOk n s) (e : Do d s t) : RsOk n t := by
  obtain ⟨h1, h2, h3⟩ := h
  cases e with
  | take hp =>
    refine ⟨by simpa using h1, by rw [inc_len]; exact h2, fun x hx => ?_⟩
    rcases hx with z | z
    · rcases List.mem_or_eq_of_mem_set z with z | z
      · exact h3 x (.inl z)
      · cases z
    · have z : some _ = some x := z
      injection z with z
      subst z
      exact h3 _ (.inl (List.mem_of_getElem? hp))
  | move hp hg =>
    refine ⟨by simpa using h1, by rw [inc_len]; exact h2, fun x hx => ?_⟩
    rcases hx with z | z
    · rcases List.mem_or_eq_of_mem_set z with z | z
      · rcases List.mem_or_eq_of_mem_set z with z | z
        · exact h3 x (.inl z)
        · cases z
      · injection z with z
        subst z
        exact h3 _ (.inl (List.mem_of_getElem? hp))
    · exact h3 x (.inr z)
  | lay hg =>
    refine ⟨by simpa using h1, by rw [inc_len]; exact h2, fun x hx => ?_⟩
    rcases hx with z | z
    · rcases List.mem_or_eq_of_mem_set z with z | z
      · exact h3 x (.inl z)
      · injection z with z
        subst z
        exact h3 _ (.inr rfl)
    · cases z
theorem at_cell {row : List (Option Int)} {p : Nat} {c : Option Int} (h : row[p]? = some c) : ixN (row.map cV).length (p : Int) = some p ∧ atI (row.map cV) (p : Int) = some (cV c) := by
  have hp := (List.getElem?_eq_some_iff.mp h).1
  have e : ixN (row.map cV).length (p : Int) = some p := by rw [List.length_map]; unfold ixN; rw [if_pos (by omega), if_pos (by omega), Int.toNat_natCast]
  refine ⟨e, ?_⟩
  unfold atI
  rw [e]
  show (row.map cV)[p]? = _
  rw [List.getElem?_map, h]; rfl
theorem mt_b {t : TE} (h : ME t) : MT (tB t) := fun _ _ _ _ hq q => h _ _ _ _ (fun _ _ ⟨k, e, z⟩ => ⟨k, e, hq _ _ z⟩) q
theorem me_dnot {ta tb : TE} (ha : ME ta) (hb : ME tb) : ME (tDNotIn ta tb) := fun _ _ _ _ hq h => ha _ _ _ _ (fun _ _ h1 => hb _ _ _ _ (fun _ _ ⟨a, o, e, g, z⟩ => ⟨a, o, e, g, hq _ _ z⟩) h1) h
theorem per_of_seen {n : Nat} {os : List Int} (h : IsOrd n os) {p : Int} (p0 : 0 ≤ p) (p1 : p < n) {M j k : Nat} (hM : IsPer os p M) (hj : j ≤ M) (hk : k < j) (e : itn os k p = itn os j p) : j = M := by
  have e2 : itn os (j - k) p = p := by
    have b := itn_bd h p0 p1 (j - k)
    refine (itn_inj h p0 p1 b.1 b.2 k ?_).symm
    rw [← itn_add, show k + (j - k) = j by omega]
    exact e
  rcases Nat.lt_or_ge (j - k) M with z | z
  · exact absurd e2 (hM.2.2 (j - k) (by omega) z)
  · omega
abbrev s_lrings : Stmt := top 24
theorem sc_lrings : FnScope ["_law_order", "_law_met", "_law_found", "_law_place", "_law_ring", "_law_here"] ["_law_order"] (defScope s_lrings) := ⟨rfl, rfl, rfl, by decide +kernel, rfl, by decide +kernel, by decide +kernel⟩
def spLRings (K : PySem.W.Frag) : Sp := fun vs H Q _ => ∃ (a : Addr) (n : Nat) (os : List Int), vs = [.ref a] ∧ SqL K H a (os.map V.int) ∧ IsOrd n os ∧ n ≤ 1000 ∧
  ∀ p H' rs, Kp [] H H' → H p = none → H' p = some (.lst (rfs rs)) → (∀ r ∈ rs, H r.1 = none ∧ r.1 ≠ p ∧ H' r.1 = some (il r.2)) → rs.map (·.2) = ringsL os n → Q (.ref p) H'
theorem df_lrings (a : At K mg "_law_rings" s_lrings) (B : Blt mg) : Df P w K mg base "_law_rings" ["_law_order"] 1 (spLRings K) := by
  refine df_of (k := 0) a sc_lrings (fun _ _ _ _ _ _ us hl => match us, hl with | [_], _ => rfl) (fun vs H Q E h => ?_) (fun f cdv A outer s H vs Q E hr h => ?_)
  · obtain ⟨a, _, _, rfl, _⟩ := h; rfl
  obtain ⟨a, n, os, rfl, ha, ho, hn, q⟩ := h
  have sc := sc_lrings
  have hsz : sizeLine = 16777216 := sizeLine_eq
  have ol := ho.1
  refine ⟨_, (pss_cons (ps_set (i := 1) sc.nd rfl (by first | exact Or.inl rfl | exact Or.inr rfl) pe_dnewK)
    (pss_cons (ps_set (i := 2) sc.nd rfl (by first | exact Or.inl rfl | exact Or.inr rfl) (pe_lst pa_nil))
    (pss_cons (ps_for PassesOwn.never rfl (pi_range1 rfl B.range (pa_cons (pe_callB call_len_seq rfl B.len bt_len (pa_cons (pv 0) pa_nil)) pa_nil)) (pg_name (i := 3) sc.nd rfl (by first | exact Or.inl rfl | exact Or.inr rfl)) (pss_cons (ps_set (i := 4) sc.nd rfl (by first | exact Or.inl rfl | exact Or.inr rfl) (pe_lst pa_nil))
    (pss_cons (ps_set (i := 5) sc.nd rfl (by first | exact Or.inl rfl | exact Or.inr rfl) (pv 3))
    (pss_cons (ps_while PassesOwn.never (pt_cmp (pc_dnotin (hu_of hr) (pv 5) (pv 1))) (pss_cons (ps_dput (hu_of hr) (pv 1) (pv 5) pe_bl rfl)
    (pss_cons (ps_expr (pe_bm PySem.F.plainAttrs_list PySem.F.slot_list_append PySem.F.type_list_append mr_append (pv 4) (pa_cons (pv 5) pa_nil)))
    (pss_one (ps_set (i := 5) sc.nd rfl (by first | exact Or.inl rfl | exact Or.inr rfl) (pe_ix ix_list (pv 0) (pv 5) (fun _ _ => rfl)))))))
    (pss_one (ps_if (pt_cmpR op_gt (pe_callB call_len_seq rfl B.len bt_len (pa_cons (pv 4) pa_nil)) pe_int (nomark _)) (pss_one (ps_expr (pe_bm PySem.F.plainAttrs_list PySem.F.slot_list_append PySem.F.type_list_append mr_append (pv 2) (pa_cons (pv 4) pa_nil)))) pss_nil))))))
    (pss_one (ps_ret (pv 2)))))), ?_⟩
  rw [show start ["_law_order", "_law_met", "_law_found", "_law_place", "_law_ring", "_law_here"] [V.ref a] = [some (.ref a), none, none, none, none, none] from rfl]
  walk_at "rd"
  refine fun pm hpm => ⟨Nat.zero_le _, fun pf hpf' => ?_⟩
  have kH := (Kp.new (bs := []) (HO.dK []) hpm).trans (Kp.new (HO.lst []) hpf')
  have npm : H pm = none := hpm
  have hpf : H pf = none := (Kp.new (bs := []) _ hpm).free hpf'
  have hpm0 := (Kp.new (bs := []) (HO.lst []) hpf') pm _ (by simp) (upd_same (H := H) (o := HO.dK []))
  have hpf0 := upd_same (H := upd H pm (HO.dK [])) (a := pf) (o := HO.lst [])
  have nsf : pm ≠ pf := ne_of_none upd_same hpf'
  generalize upd (upd H pm (HO.dK [])) pf (HO.lst []) = H0 at *
  refine ⟨_, .inl (Kp_sq' ha kH), ?_⟩
  rw [List.length_map, ol]
  refine ⟨by omega, by omega, ?_⟩
  rw [Int.toNat_natCast]
  refine lp_range (fun i τ G => ∃ (x3 x4 x5 : Option V) (kvs : List (Key × V)) (rs : List (Addr × List Int)), τ = [some (.ref a), some (.ref pm), some (.ref pf), x3, x4, x5] ∧ Kp [pm, pf] H0 G ∧ G pm = some (.dK kvs) ∧ kvs.length ≤ i * 1000 ∧ (∀ x : Nat, x < n → ((valV kvs (Sum.inl (x : Int))).isSome = true ↔ Seen os i (x : Int))) ∧ G pf = some (.lst (rfs rs)) ∧ (∀ r ∈ rs, H r.1 = none ∧ r.1 ≠ pf ∧ r.1 ≠ pm ∧ G r.1 = some (il r.2)) ∧ rs.map (·.2) = ringsL os i) ?_ ?_ ?_
  · refine ⟨none, none, none, [], [], rfl, Kp.refl, hpm0, by simp, fun x hx => ?_, hpf0, fun r hr => (nomatch hr), rfl⟩
    constructor
    · intro z; simp [valV] at z
    · rintro ⟨q, hq, _⟩; omega
  · rintro i τ G hi ⟨x3, x4, x5, kvs, rs, rfl, kG, gm, lk, hs, gf, hr, er⟩
    have kHG : Kp [] H G := Kp.un (Kp.un ((kH.mono (by simp)).trans kG) npm) hpf
    have lrs : rs.length ≤ i := by
      have := ringsL_len os i
      rw [← er, List.length_map] at this
      exact this
    obtain ⟨M, hM, hMn⟩ := per_ex ho (p := (i : Int)) (by omega) (by omega)
    rw [Int.zero_add]
    walk_at "rd"
    refine ⟨Nat.zero_le _, fun pr hpr => ?_⟩
    have gm1 := (Kp.new (bs := []) (HO.lst []) hpr) _ _ (by simp) gm
    have gf1 := (Kp.new (bs := []) (HO.lst []) hpr) _ _ (by simp) gf
    have gr1 := upd_same (H := G) (a := pr) (o := HO.lst [])
    have nrm : pr ≠ pm := Ne.symm (ne_of_none gm hpr)
    have nrf : pr ≠ pf := Ne.symm (ne_of_none gf hpr)
    refine while_by (fun τ G' => ∃ (j : Nat) (kvs' : List (Key × V)), τ = [some (.ref a), some (.ref pm), some (.ref pf), some (.int (i : Int)), some (.ref pr), some (.int (itn os j (i : Int)))] ∧ Kp [pm, pr] (upd G pr (.lst [])) G' ∧ G' pm = some (.dK kvs') ∧ kvs'.length ≤ i * 1000 + j ∧ G' pr = some (il (itl os (i : Int) j)) ∧ j ≤ M ∧ (∀ x : Nat, x < n → ((valV kvs' (Sum.inl (x : Int))).isSome = true ↔ Seen os i (x : Int) ∨ ∃ k, k < j ∧ itn os k (i : Int) = (x : Int))) ∧ (1 ≤ j → ¬ Seen os i (i : Int)))
      (fun _ H' => match H' pr with | some (.lst xs) => M + 1 - xs.length | _ => 0) ?_ ?_ (mt_b (me_dnot me_var me_var))
    · exact ⟨0, kvs, rfl, Kp.refl, gm1, by omega, gr1, Nat.zero_le _, fun x hx => by rw [hs x hx]; simp, fun z => by omega⟩
    · rintro τ G' ⟨j, kvs', rfl, kp, gm', lk', gr', jM, hx', hns⟩
      have bd := itn_bd ho (p := (i : Int)) (by omega) (by omega) j
      have kpG : Kp [pm] G G' := Kp.drop1 hpr (kp.mono (bs' := [pr, pm]) (by intro b hb; simp at hb ⊢; exact hb.symm))
      have k1 : Kp [] H G' := Kp.un ((kHG.mono (bs' := [pm]) (by simp)).trans kpG) npm
      have npr : H pr = none := kHG.free hpr
      obtain ⟨vn, hvn⟩ : ∃ vn : Nat, itn os j (i : Int) = vn := ⟨(itn os j (i : Int)).toNat, by omega⟩
      have hv := hx' vn (by omega)
      walk_at "rd"
      refine ⟨_, DGet.k (k := Sum.inl (itn os j (i : Int))) gm', ?_⟩
      rw [hvn]
      refine ite2 (fun c => ?_) (fun c => ?_)
      · have hno : ¬ (Seen os i (vn : Int) ∨ ∃ k, k < j ∧ itn os k (i : Int) = (vn : Int)) := by rw [← hv, c]; simp
        have jM' : j < M := by
          rcases Nat.lt_or_ge j M with z | z
          · exact z
          · have e : j = M := by omega
            subst e
            exact absurd (.inr ⟨0, hM.1, by show (i : Int) = vn; rw [← hvn, hM.2.1]⟩) hno
        obtain ⟨g1, g2⟩ := get_map_int (cs := os) (k := (vn : Int)) (by omega) (by omega)
        have nmr : pm ≠ pr := Ne.symm nrm
        have gr2 : upd G' pm (.dK (putK kvs' (Sum.inl (vn : Int)) (.bl true))) pr = some (il (itl os (i : Int) j)) := (upd_ne nrm).trans gr'
        have kX := (kp.trans (Kp.set (.dK (putK kvs' (Sum.inl (vn : Int)) (.bl true))) (by simp : pm ∈ [pm, pr]))).trans (Kp.set (HO.lst (List.map V.int (itl os (i : Int) j) ++ [V.int (vn : Int)])) (by simp : pr ∈ [pm, pr]))
        have kHX := Kp.un (Kp.un (((k1.mono (bs' := [pm, pr]) (by simp)).trans (Kp.set (.dK (putK kvs' (Sum.inl (vn : Int)) (.bl true))) (by simp : pm ∈ [pm, pr]))).trans (Kp.set (HO.lst (List.map V.int (itl os (i : Int) j) ++ [V.int (vn : Int)])) (by simp : pr ∈ [pm, pr]))) npm) npr
        have lp := length_putK kvs' (Sum.inl (vn : Int)) (V.bl true)
        refine ⟨_, DPut.k (k := Sum.inl (vn : Int)) gm' (by omega), .inl ⟨rfl, _, SqL.of gr2⟩, _, gr2, by rw [List.length_map, itl_len]; omega, _, Kp_sq' ha kHX, _, g2, ⟨j + 1, ?_, kX, _, (upd_ne nmr).trans upd_same, by omega, ?_, by omega, ?_, ?_⟩, ?_⟩
        · show _ = V.int (os.getD (itn os j (i : Int)).toNat 0)
          rw [hvn]
        · rw [itl_succ, hvn]
          exact upd_same.trans (congrArg some (congrArg HO.lst (by rw [List.map_append]; rfl)))
        · intro x hx
          rw [valV_put]
          by_cases e : x = vn
          · subst e
            rw [if_pos rfl]
            simp only [Option.isSome_some, true_iff]
            exact .inr ⟨j, by omega, hvn⟩
          · rw [if_neg (fun z => e (by have := Sum.inl.inj z; omega)), hx' x hx]
            constructor
            · rintro (z | ⟨k, hk, e2⟩)
              · exact .inl z
              · exact .inr ⟨k, by omega, e2⟩
            · rintro (z | ⟨k, hk, e2⟩)
              · exact .inl z
              · by_cases kj : k = j
                · subst kj; exact absurd (by omega) e
                · exact .inr ⟨k, by omega, e2⟩
        · intro _ s
          rcases Nat.eq_zero_or_pos j with z | z
          · subst z
            exact hno (.inl (by rw [← hvn]; exact s))
          · exact hns z s
        · rw [upd_same, gr']
          show M + 1 - (List.map V.int (itl os (i : Int) j) ++ [V.int (vn : Int)]).length < M + 1 - (List.map V.int (itl os (i : Int) j)).length
          rw [List.length_append, List.length_map, itl_len]
          show M + 1 - (j + 1) < M + 1 - j
          omega
      · have c' : (valV kvs' (Sum.inl (vn : Int))).isSome = true := by
          cases z : (valV kvs' (Sum.inl (vn : Int))).isSome with
          | true => rfl
          | false => exact absurd z c
        have hin := hv.mp c'
        have gf' := kpG _ _ (by simpa using Ne.symm nsf) gf
        have kp2 : Kp [pm, pf] H0 G' := kG.trans (kpG.mono (by simp))
        have hr' : ∀ r ∈ rs, H r.1 = none ∧ r.1 ≠ pf ∧ r.1 ≠ pm ∧ G' r.1 = some (il r.2) := fun r hr0 => by
          obtain ⟨z1, z2, z3, z4⟩ := hr r hr0
          exact ⟨z1, z2, z3, kpG _ _ (by simpa using z3) z4⟩
        rcases Nat.eq_zero_or_pos j with z | z
        · subst z
          have hsi : Seen os i (i : Int) := by
            rcases hin with y | ⟨k, hk, _⟩
            · rw [← hvn] at y; exact y
            · omega
          refine ⟨_, .inl (SqL.of gr'), ?_⟩
          rw [if_neg (by simp [itl])]
          refine ⟨⟨_, rfl⟩, kp2, kvs', gm', by omega, fun x hx => by rw [hx' x hx, Seen.step ho hi hsi]; simp, rs, gf', hr', ?_⟩
          show _ = ringsL os i ++ _
          rw [if_neg (fun y => Lead_iff.mp y.1 hsi), List.append_nil, er]
        · have hn' := hns z
          have hnS : ¬ Seen os i (vn : Int) := Seen.apart ho hi hn' ⟨j, hvn⟩
          obtain ⟨k, hk, e⟩ := hin.resolve_left hnS
          have jeq : j = M := per_of_seen ho (by omega) (by omega) hM jM hk (e.trans hvn.symm)
          subst jeq
          have hring : ringOf os (i : Int) = itl os (i : Int) j := by unfold ringOf; rw [hM.per]
          have hs'' : ∀ x : Nat, x < n → ((valV kvs' (Sum.inl (x : Int))).isSome = true ↔ Seen os (i + 1) (x : Int)) := fun x hx => by
            rw [hx' x hx, Seen.succ, Rch.mem_ring hM, itl_mem]
          have hL : Lead os i := Lead_iff.mpr hn'
          refine ⟨_, .inl (SqL.of gr'), ite2 (fun c1 => ?_) (fun c1 => ?_)⟩
          · have hpe : 1 < per os (i : Int) := by rw [hM.per]; rw [List.length_map, itl_len] at c1; omega
            refine ⟨.inl ⟨rfl, _, SqL.of gf'⟩, _, gf', by unfold rfs; rw [List.length_map]; omega, ⟨_, rfl⟩, kp2.trans (Kp.set _ (by simp)), kvs', (upd_ne nsf).trans gm', by omega, hs'', rs ++ [(pr, ringOf os (i : Int))], ?_, fun r hr0 => ?_, ?_⟩
            · refine upd_same.trans (congrArg some (congrArg HO.lst ?_))
              unfold rfs; rw [List.map_append]; rfl
            · rcases List.mem_append.mp hr0 with y | y
              · obtain ⟨z1, z2, z3, z4⟩ := hr' r y
                exact ⟨z1, z2, z3, (upd_ne z2).trans z4⟩
              · rw [List.mem_singleton.mp y]
                refine ⟨npr, nrf, nrm, (upd_ne nrf).trans ?_⟩
                show _ = some (il (ringOf os (i : Int)))
                rw [hring]; exact gr'
            · show _ = ringsL os i ++ _
              rw [if_pos ⟨hL, hpe⟩, List.map_append, er]
              rfl
          · have hpe : ¬ 1 < per os (i : Int) := by rw [hM.per]; rw [List.length_map, itl_len] at c1; omega
            refine ⟨⟨_, rfl⟩, kp2, kvs', gm', by omega, hs'', rs, gf', hr', ?_⟩
            show _ = ringsL os i ++ _
            rw [if_neg (fun y => hpe y.2), List.append_nil, er]
  · rintro τ G ⟨x3, x4, x5, kvs, rs, rfl, kG, gm, lk, hs, gf, hr, er⟩
    have kHG : Kp [] H G := Kp.un (Kp.un ((kH.mono (by simp)).trans kG) npm) hpf
    walk_at "rd"
    exact q _ _ rs kHG hpf gf (fun r hr0 => ⟨(hr r hr0).1, (hr r hr0).2.1, (hr r hr0).2.2.2⟩) er
theorem itn_wov {m p : Nat} (hp : p < 2 * m) : ∀ j, L2.itn (wovO m 1) j (p : Int) = (((p + 1) * 2 ^ j % (2 * m + 1) : Nat) : Int) - 1
  | 0 => by
    rw [Nat.pow_zero, Nat.mul_one, Nat.mod_eq_of_lt (by omega)]
    show (p : Int) = _
    omega
  | j + 1 => by
    have ih := itn_wov hp j
    have bd := itn_bd (wovO_ord (m := m) (f := 1) (by omega)) (p := (p : Int)) (by omega) (by omega) j
    show (wovO m 1).getD (L2.itn (wovO m 1) j (p : Int)).toNat 0 = _
    have e2 : (p + 1) * 2 ^ (j + 1) % (2 * m + 1) = ((p + 1) * 2 ^ j % (2 * m + 1)) * 2 % (2 * m + 1) := by
      rw [Nat.pow_succ, ← Nat.mul_assoc, Nat.mod_mul_mod]
    rw [e2]
    rw [ih] at bd
    rw [ih]
    generalize (p + 1) * 2 ^ j % (2 * m + 1) = v at *
    rw [wovO_get (by omega)]
    by_cases c : v ≤ m
    · rw [if_pos (by omega), Nat.mod_eq_of_lt (by omega)]
      omega
    · rw [if_neg (by omega), Nat.mod_eq_sub_mod (by omega), Nat.mod_eq_of_lt (by omega)]
      omega
theorem per_wov {m c j M : Nat} (hm : 2 * m + 1 = 3 ^ c) (hj : 3 ^ j ≤ 2 * m) (h1 : 1 ≤ M) (h2 : 3 ^ j * 2 ^ M % 3 ^ c = 3 ^ j) (h3 : ∀ i, i < M → 1 ≤ i → 3 ^ j * 2 ^ i % 3 ^ c ≠ 3 ^ j) : (ringOf (wovO m 1) ((3 ^ j - 1 : Nat) : Int)).length = M := by
  have h0 : 0 < 3 ^ j := Nat.pow_pos (by decide)
  have it : ∀ i, L2.itn (wovO m 1) i ((3 ^ j - 1 : Nat) : Int) = ((3 ^ j * 2 ^ i % 3 ^ c : Nat) : Int) - 1 := fun i => by
    rw [itn_wov (by omega) i, hm, show 3 ^ j - 1 + 1 = 3 ^ j by omega]
  have hp : IsPer (wovO m 1) ((3 ^ j - 1 : Nat) : Int) M := by
    refine ⟨h1, ?_, fun i i1 i2 => ?_⟩
    · show L2.itn _ _ _ = _
      rw [it, h2]; omega
    · show L2.itn _ _ _ ≠ _
      rw [it]
      have := h3 i i2 i1
      omega
  unfold ringOf
  rw [hp.per, itl_len]
noncomputable def rwL (b m c : Nat) : List (List V) := ((List.range c).map fun j => rdL ((ringOf (wovO m 1) ((3 ^ j - 1 : Nat) : Int)).map fun x => (b : Int) + x)).flatten
theorem rwL_one {b m j M : Nat} (h : (ringOf (wovO m 1) ((3 ^ j - 1 : Nat) : Int)).length = M) (h1 : 1 ≤ M) : (rdL ((ringOf (wovO m 1) ((3 ^ j - 1 : Nat) : Int)).map fun x => (b : Int) + x)).length = M + 1 := by
  rw [rdL_len (by rw [List.length_map]; omega), List.length_map, h]
theorem rwL_succ (b m c : Nat) : rwL b m (c + 1) = rwL b m c ++ rdL ((ringOf (wovO m 1) ((3 ^ c - 1 : Nat) : Int)).map fun x => (b : Int) + x) := by
  unfold rwL
  rw [List.range_succ, List.map_append, List.flatten_append]
  simp
theorem rwL_zero (b m : Nat) : rwL b m 0 = [] := rfl
theorem rwL_len (b : Nat) {m c : Nat} (h : (m = 1 ∧ c = 1) ∨ (m = 4 ∧ c = 2) ∨ (m = 13 ∧ c = 3) ∨ (m = 40 ∧ c = 4)) : (rwL b m c).length = 2 * m + c := by
  rcases h with ⟨rfl, rfl⟩ | ⟨rfl, rfl⟩ | ⟨rfl, rfl⟩ | ⟨rfl, rfl⟩
  · rw [rwL_succ, List.length_append, rwL_zero, rwL_one (per_wov (c := 1) (M := 2) (by decide) (by decide) (by decide) (by decide) (by decide +kernel)) (by decide)]
    rfl
  · rw [rwL_succ, List.length_append, rwL_succ, List.length_append, rwL_zero, rwL_one (per_wov (c := 2) (M := 6) (by decide) (by decide) (by decide) (by decide) (by decide +kernel)) (by decide), rwL_one (per_wov (c := 2) (M := 2) (by decide) (by decide) (by decide) (by decide) (by decide +kernel)) (by decide)]
    rfl
  · rw [rwL_succ, List.length_append, rwL_succ, List.length_append, rwL_succ, List.length_append, rwL_zero, rwL_one (per_wov (c := 3) (M := 18) (by decide) (by decide) (by decide) (by decide +kernel) (by decide +kernel)) (by decide), rwL_one (per_wov (c := 3) (M := 6) (by decide) (by decide) (by decide) (by decide +kernel) (by decide +kernel)) (by decide), rwL_one (per_wov (c := 3) (M := 2) (by decide) (by decide) (by decide) (by decide +kernel) (by decide +kernel)) (by decide)]
    rfl
  · rw [rwL_succ, List.length_append, rwL_succ, List.length_append, rwL_succ, List.length_append, rwL_succ, List.length_append, rwL_zero, rwL_one (per_wov (c := 4) (M := 54) (by decide) (by decide) (by decide) (by decide +kernel) (by decide +kernel)) (by decide), rwL_one (per_wov (c := 4) (M := 18) (by decide) (by decide) (by decide) (by decide +kernel) (by decide +kernel)) (by decide), rwL_one (per_wov (c := 4) (M := 6) (by decide) (by decide) (by decide) (by decide +kernel) (by decide +kernel)) (by decide), rwL_one (per_wov (c := 4) (M := 2) (by decide) (by decide) (by decide) (by decide +kernel) (by decide +kernel)) (by decide)]
    rfl
def cnt (n : Nat) : Nat := if 40 ≤ n then 4 else if 13 ≤ n then 3 else if 4 ≤ n then 2 else 1
theorem best_cnt {l : Nat} (h : l ≤ 100) : (best l = 1 ∧ cnt l = 1) ∨ (best l = 4 ∧ cnt l = 2) ∨ (best l = 13 ∧ cnt l = 3) ∨ (best l = 40 ∧ cnt l = 4) := by
  unfold best cnt
  rw [if_neg (by omega)]
  by_cases c1 : 40 ≤ l
  · rw [if_pos c1, if_pos c1]; simp
  · rw [if_neg c1, if_neg c1]
    by_cases c2 : 13 ≤ l
    · rw [if_pos c2, if_pos c2]; simp
    · rw [if_neg c2, if_neg c2]
      by_cases c3 : 4 ≤ l
      · rw [if_pos c3, if_pos c3]; simp
      · rw [if_neg c3, if_neg c3]; simp
theorem xpR_len {b l p : Nat} (h0 : 0 < p) (h : p ≤ l) : (xpL b (rollL l (p : Int)) l).length = if p < l then l + Nat.gcd l p else 0 := by
  by_cases c : p < l
  · rw [if_pos c, xpL_len (rollL_ord l p), brL_len (rollL_ord l p)]
    have hr : ((p : Int) % (l : Int)).toNat = p := by rw [Int.emod_eq_of_lt (by omega) (by omega), Int.toNat_natCast]
    rw [roll_count (by omega) hr h0, off_count l]
    intro i hi
    rw [rollL_get hi]
    rcases Nat.lt_or_ge (i + p) l with z | z
    · rw [Int.emod_eq_of_lt (by omega) (by omega)]; omega
    · rw [← Int.sub_emod_right, Int.emod_eq_of_lt (by omega) (by omega)]; omega
  · rw [if_neg c]
    unfold xpL
    rw [roll_still (.inr (by rw [show p = l by omega]; exact Int.emod_self))]
    rfl
noncomputable def wpP (b l : Nat) : List (List V) := if h : l = 0 then [] else xpL (b + best l) (rollL l (best l : Int)) l ++ rwL b (best l) (cnt l) ++ wpP (b + 2 * best l) (l - best l)
termination_by l
decreasing_by
  have := best_pos l
  omega
theorem wpP_zero (b : Nat) : wpP b 0 = [] := by rw [wpP]; simp
theorem wpP_pos {b l : Nat} (h : 0 < l) : wpP b l = xpL (b + best l) (rollL l (best l : Int)) l ++ rwL b (best l) (cnt l) ++ wpP (b + 2 * best l) (l - best l) := by
  rw [wpP, dif_neg (by omega)]
def mvN (l : Nat) : Nat := if h : l = 0 then 0 else (if best l < l then l + Nat.gcd l (best l) else 0) + (2 * best l + cnt l) + mvN (l - best l)
termination_by l
decreasing_by
  have := best_pos l
  omega
theorem mvN_zero : mvN 0 = 0 := by rw [mvN]; simp
theorem mvN_pos {l : Nat} (h : 0 < l) : mvN l = (if best l < l then l + Nat.gcd l (best l) else 0) + (2 * best l + cnt l) + mvN (l - best l) := by
  rw [mvN, dif_neg (by omega)]
theorem wpP_len (l : Nat) : ∀ b, l ≤ 100 → (wpP b l).length = mvN l := by
  induction l using Nat.strongRecOn with
  | _ l ih =>
    intro b hl
    rcases Nat.eq_zero_or_pos l with z | z
    · subst z; rw [wpP_zero, mvN_zero]; rfl
    · have h1 := best_pos l
      have h2 := best_le z
      rw [wpP_pos z, mvN_pos z, List.length_append, List.length_append, xpR_len (by omega) h2, rwL_len _ (best_cnt hl), ih (l - best l) (by omega) _ (by omega)]
theorem mvN_le (l : Nat) : l ≤ 100 → mvN l ≤ 5 * (l * l) := by
  induction l using Nat.strongRecOn with
  | _ l ih =>
    intro hl
    rcases Nat.eq_zero_or_pos l with z | z
    · subst z; rw [mvN_zero]; exact Nat.zero_le _
    · have h1 := best_pos l
      have h2 := best_le z
      have i1 := ih (l - best l) (by omega) (by omega)
      have hg : Nat.gcd l (best l) ≤ l := Nat.gcd_le_left _ z
      have hc := best_cnt hl
      rw [mvN_pos z]
      generalize mvN (l - best l) = x at *
      obtain ⟨r, hr⟩ : ∃ r, l = best l + r := ⟨l - best l, by omega⟩
      generalize Nat.gcd l (best l) = g at *
      generalize best l = p at *
      subst hr
      have e1 : p + r - p = r := by omega
      rw [e1] at i1
      have e2 : (p + r) * (p + r) = p * p + 2 * (p * r) + r * r := by
        rw [Nat.add_mul, Nat.mul_add, Nat.mul_add, Nat.mul_comm r p]; omega
      have e3 : p ≤ p * p := Nat.le_mul_of_pos_left p (by omega)
      have e4 : r ≤ p * r := Nat.le_mul_of_pos_left r (by omega)
      rw [e2]
      split <;> omega
abbrev s_rweave : Stmt := top 16
theorem sc_rweave : FnScope ["begin", "part", "order", "deeds", "power", "ring", "place"] ["begin", "part"] (defScope s_rweave) := ⟨rfl, rfl, rfl, by decide +kernel, rfl, by decide +kernel, by decide +kernel⟩
def spRweave : Sp := fun vs H Q _ => ∃ (b m c : Nat), vs = [.int b, .int m] ∧ 2 * m + 1 = 3 ^ c ∧ m ≤ 200 ∧ c ≤ 10 ∧
  ∀ p H' ps, Kp [] H H' → H p = none → H' p = some (.lst (tfs ps)) → (∀ r ∈ ps, H r.1 = none ∧ H' r.1 = some (.tup r.2)) → ps.map (·.2) = rwL b m c → Q (.ref p) H'
theorem rwL_le {b m : Nat} (hm : m ≤ 200) : ∀ c, 3 ^ c ≤ 2 * m + 1 → (rwL b m c).length ≤ c * 1000
  | 0, _ => Nat.zero_le _
  | c + 1, h => by
    have h3 : 3 ^ (c + 1) = 3 ^ c * 3 := Nat.pow_succ ..
    have h0 : 0 < 3 ^ c := Nat.pow_pos (by decide)
    have ih := rwL_le (b := b) hm c (by omega)
    obtain ⟨M, hM, hMn⟩ := per_ex (wovO_ord (m := m) (f := 1) (by omega)) (p := ((3 ^ c - 1 : Nat) : Int)) (by omega) (by omega)
    rw [rwL_succ, List.length_append, rdL_len]
    · rw [List.length_map]
      unfold ringOf
      rw [hM.per, itl_len]
      omega
    · rw [List.length_map]
      unfold ringOf
      rw [hM.per, itl_len]
      exact hM.1
theorem df_rweave (a : At K mg "round_weave" s_rweave) (B : Blt mg) (D_weave_order : Df P w K mg base "weave_order" ["many", "first"] 1 spWorder) (D_ring_from : Df P w K mg base "ring_from" ["order", "first"] 1 (spRingFrom K)) (D_round_ring : Df P w K mg base "round_ring" ["ring"] 1 (spRoundRing K)) : Df P w K mg base "round_weave" ["begin", "part"] 2 spRweave := by
  refine df_of (k := 1) a sc_rweave (fun _ _ _ _ _ _ us hl => match us, hl with | [_, _], _ => rfl) (fun vs H Q E h => ?_) (fun f cdv A outer s H vs Q E hr h => ?_)
  · obtain ⟨b, m, c, rfl, _⟩ := h; rfl
  obtain ⟨b, m, c, rfl, hc, hm, hc10, q⟩ := h
  have sc := sc_rweave
  have hsl := hsl
  refine ⟨_, (pss_cons (ps_set (i := 2) sc.nd rfl (by first | exact Or.inl rfl | exact Or.inr rfl) (pe_cd D_weave_order hr rfl (pa_cons (pv 1) (pa_cons pe_int pa_nil))))
    (pss_cons (ps_set (i := 3) sc.nd rfl (by first | exact Or.inl rfl | exact Or.inr rfl) (pe_lst pa_nil))
    (pss_cons (ps_set (i := 4) sc.nd rfl (by first | exact Or.inl rfl | exact Or.inr rfl) pe_int)
    (pss_cons (ps_while PassesOwn.never (pt_cmpR op_le (pv 4) (pe_op op_mul pe_int (pv 1)) (nomark _)) (pss_cons (ps_set (i := 5) sc.nd rfl (by first | exact Or.inl rfl | exact Or.inr rfl) (pe_cd D_ring_from hr rfl (pa_cons (pv 2) (pa_cons (pe_op op_sub (pv 4) pe_int) pa_nil))))
    (pss_cons (ps_expr (pe_bm PySem.F.plainAttrs_list PySem.F.slot_list_extend PySem.F.type_list_extend mr_extend (pv 3) (pa_cons (pe_cd D_round_ring hr rfl (pa_cons (pe_comp (ts := [6]) rfl rfl (pi_list (pv 5)) (fun _ _ _ _ => (pg_name (i := 6) sc.nd rfl (by first | exact Or.inl rfl | exact Or.inr rfl))) (fun _ _ _ _ => pif_nil) (fun _ _ _ _ => (pe_op op_add (pv 0) (pv 6)))) pa_nil)) pa_nil)))
    (pss_one (ps_aug (i := 4) sc.nd rfl (by first | exact Or.inl rfl | exact Or.inr rfl) pe_int iop_mul)))))
    (pss_one (ps_ret (pv 3))))))), ?_⟩
  rw [show start ["begin", "part", "order", "deeds", "power", "ring", "place"] [V.int b, V.int m] = [some (.int b), some (.int m), none, none, none, none, none] from rfl]
  walk_at "rd"
  have oo := wovO_ord (m := m) (f := 1) (by omega)
  refine ⟨m, 1, rfl, by omega, by omega, fun po H1 k1 hpo ho => ⟨Nat.zero_le _, fun pd hpd => ?_⟩⟩
  have k2 := Kp.new (bs := []) (HO.lst []) hpd
  have ho2 := k2 _ _ (by simp) ho
  have hd2 := upd_same (H := H1) (a := pd) (o := HO.lst [])
  have nod : po ≠ pd := ne_of_none ho hpd
  have k12 := k1.trans k2
  have npd : H pd = none := k1.free hpd
  generalize upd H1 pd (HO.lst []) = H2 at *
  refine while_by (fun τ G => ∃ (j : Nat) (x5 x6 : Option V) (ps : List (Addr × List V)), τ = [some (.int b), some (.int m), some (.ref po), some (.ref pd), some (.int ((3 ^ j : Nat) : Int)), x5, x6] ∧ j ≤ c ∧ Kp [pd] H2 G ∧ G pd = some (.lst (tfs ps)) ∧ (∀ r ∈ ps, H r.1 = none ∧ G r.1 = some (.tup r.2)) ∧ ps.map (·.2) = rwL b m j)
    (fun τ _ => match τ with | [_, _, _, _, some (.int l), _, _] => 2 * m + 1 - l.toNat | _ => 0) ?_ ?_ (mt_test (me_op mr_i0 me_var (me_op mr_i me_c me_var)))
  · exact ⟨0, none, none, [], rfl, Nat.zero_le _, Kp.refl, hd2, fun r hr => (nomatch hr), rfl⟩
  · rintro τ G ⟨j, x5, x6, ps, rfl, hj, kp, hd, hps, eps⟩
    have h0 : 0 < 3 ^ j := Nat.pow_pos (by decide)
    have h3 : 3 ^ (j + 1) = 3 ^ j * 3 := Nat.pow_succ ..
    have hjm : 3 ^ j ≤ 2 * m + 1 := by rw [hc]; exact Nat.pow_le_pow_right (by decide) hj
    have lps : ps.length ≤ 10 * 1000 := by
      have := congrArg List.length eps
      rw [List.length_map] at this
      have := rwL_le (b := b) hm j hjm
      omega
    walk_at "rd"
    refine ⟨cmul_l (by omega) (by omega), ite2 (fun z => ?_) (fun z => ?_)⟩
    · have hjc : j < c := by
        rcases Nat.lt_or_ge j c with y | y
        · exact y
        · have : j = c := by omega
          subst this
          omega
      have kHG : Kp [] H G := Kp.un ((k12.mono (bs' := [pd]) (by simp)).trans kp) npd
      refine ⟨po, 2 * m, wovO m 1, ((3 ^ j - 1 : Nat) : Int), by rw [Int.ofNat_sub (by omega)]; rfl, .inl (SqL.of (kp _ _ (by simpa using nod) ho2)), oo, by omega, by omega, by omega, fun pr G1 g1 hpr hr1 => ?_⟩
      obtain ⟨M, hM, hMn⟩ := per_ex oo (p := ((3 ^ j - 1 : Nat) : Int)) (by omega) (by omega)
      have hlen : (ringOf (wovO m 1) ((3 ^ j - 1 : Nat) : Int)).length = M := by unfold ringOf; rw [hM.per, itl_len]
      have hM1 := hM.1
      have e1 := rwL_succ b m j
      generalize ringOf (wovO m 1) ((3 ^ j - 1 : Nat) : Int) = ring at *
      have hd1 := g1 _ _ (by simp) hd
      refine ⟨.inl ⟨rfl, _, SqL.of hd1⟩, pr, rfl, ⟨_, SqL.of hr1⟩, fun D hD => ?_⟩
      refine cl_list (xs := ring.map V.int) (fun k τ G2 => ∃ u, τ = [some (.int b), some (.int m), some (.ref po), some (.ref pd), some (.int ((3 ^ j : Nat) : Int)), some (.ref pr), u] ∧ Kp [D] (upd G1 D (.lst [])) G2 ∧ G2 D = some (il ((ring.take k).map fun x => (b : Int) + x))) ?_ ?_ ?_ ?_
      · exact ⟨none, rfl, Kp.refl, upd_same⟩
      · rintro k τ G2 _ ⟨u, rfl, kq, _⟩
        exact SqL.of ((Kp.drop1 hD kq) _ _ (by simp) hr1)
      · rintro k x τ G2 hx ⟨u, rfl, kq, hq⟩
        obtain ⟨rfl, hk⟩ := get_map_elim hx
        walk_at "rd"
        refine ⟨_, hq, by rw [List.length_map, List.length_map, List.length_take]; omega, kq.trans (Kp.set _ (by simp)), ?_⟩
        rw [take_D hk, List.map_append]
        exact upd_same.trans (congrArg some (congrArg HO.lst (by rw [List.map_append]; rfl)))
      · rintro τ G2 ⟨u, rfl, kq, hq⟩
        rw [List.length_map, List.take_length] at hq
        have kG := g1.trans (Kp.drop1 hD kq)
        have hd2' := kG _ _ (by simp) hd
        refine ⟨D, _, rfl, SqL.of hq, by rw [List.length_map]; omega, by rw [List.length_map]; omega, fun p2 G3 ps2 k2' hp2 h2 hps2 eps2 => ?_⟩
        have hd3 := k2' _ _ (by simp) hd2'
        have l2 : ps2.length ≤ 1001 := by
          have := congrArg List.length eps2
          rw [List.length_map, rdL_len (by rw [List.length_map]; omega), List.length_map] at this
          omega
        refine ⟨p2, rfl, _, hd3, _, h2, by rw [tfs_len, tfs_len]; omega, cmul_l (by omega) (by omega), ⟨j + 1, by rw [h3]; push_cast; rfl, by omega, (kp.trans ((kG.trans k2').mono (by simp))).trans (Kp.set _ (by simp)), ps ++ ps2, upd_same.trans (by rw [tfs_app]), fun y hy => ?_, by rw [List.map_append, eps, eps2, e1]⟩, ?_⟩
        · rcases List.mem_append.mp hy with z | z
          · obtain ⟨z1, z2⟩ := hps y z
            have z3 := (kG.trans k2') _ _ (by simp) z2
            exact ⟨z1, (upd_ne (ne_lt hd3 z3)).trans z3⟩
          · obtain ⟨z1, z2⟩ := hps2 y z
            exact ⟨(kHG.trans kG).free z1, (upd_ne (ne_lt hd3 z2)).trans z2⟩
        · omega
    · have hjc : j = c := by
        rcases Nat.lt_or_ge j c with y | y
        · have : 3 ^ (j + 1) ≤ 3 ^ c := Nat.pow_le_pow_right (by decide) y
          omega
        · omega
      subst hjc
      walk_at "rd"
      exact q pd G ps (Kp.un ((k12.mono (bs' := [pd]) (by simp)).trans kp) npd) npd hd hps eps
abbrev s_wplan : Stmt := top 17
theorem sc_wplan : FnScope ["many", "plan", "begin", "left", "part"] ["many"] (defScope s_wplan) := ⟨rfl, rfl, rfl, by decide +kernel, rfl, by decide +kernel, by decide +kernel⟩
def spWplan : Sp := fun vs H Q _ => ∃ (n : Nat), vs = [.int n] ∧ n ≤ 100 ∧
  ∀ p H' ps, Kp [] H H' → H p = none → H' p = some (.lst (tfs ps)) → (∀ r ∈ ps, H r.1 = none ∧ H' r.1 = some (.tup r.2)) → ps.map (·.2) = wpP 0 n → Q (.ref p) H'
theorem mvN_100 {l : Nat} (h : l ≤ 100) : mvN l ≤ 50000 := by
  have h1 := mvN_le l h
  have h2 : l * l ≤ 100 * 100 := Nat.mul_le_mul h h
  omega
theorem df_wplan (a : At K mg "weave_plan" s_wplan) (B : Blt mg) (D_weave_parts : Df P w K mg base "weave_parts" ["many"] 3 spWparts) (D_exchange_plan : Df P w K mg base "exchange_plan" ["begin", "middle", "end"] 3 spXp) (D_round_weave : Df P w K mg base "round_weave" ["begin", "part"] 3 spRweave) : Df P w K mg base "weave_plan" ["many"] 4 spWplan := by
  refine df_of (k := 3) a sc_wplan (fun _ _ _ _ _ _ us hl => match us, hl with | [_], _ => rfl) (fun vs H Q E h => ?_) (fun f cdv A outer s H vs Q E hr h => ?_)
  · obtain ⟨n, rfl, _⟩ := h; rfl
  obtain ⟨n, rfl, hn, q⟩ := h
  have sc := sc_wplan
  have hsl := hsl
  have hwl := wpP_len n 0 hn
  have hm5 := mvN_100 hn
  refine ⟨_, (pss_cons (ps_set (i := 1) sc.nd rfl (by first | exact Or.inl rfl | exact Or.inr rfl) (pe_lst pa_nil))
    (pss_cons (ps_set (i := 2) sc.nd rfl (by first | exact Or.inl rfl | exact Or.inr rfl) pe_int)
    (pss_cons (ps_set (i := 3) sc.nd rfl (by first | exact Or.inl rfl | exact Or.inr rfl) (pv 0))
    (pss_cons (ps_for PassesOwn.never rfl (pi_list (pe_cd D_weave_parts hr rfl (pa_cons (pv 0) pa_nil))) (pg_name (i := 4) sc.nd rfl (by first | exact Or.inl rfl | exact Or.inr rfl)) (pss_cons (ps_expr (pe_bm PySem.F.plainAttrs_list PySem.F.slot_list_extend PySem.F.type_list_extend mr_extend (pv 1) (pa_cons (pe_cd D_exchange_plan hr rfl (pa_cons (pe_op op_add (pv 2) (pv 4)) (pa_cons (pe_op op_add (pv 2) (pv 3)) (pa_cons (pe_op op_add (pe_op op_add (pv 2) (pv 3)) (pv 4)) pa_nil)))) pa_nil)))
    (pss_cons (ps_expr (pe_bm PySem.F.plainAttrs_list PySem.F.slot_list_extend PySem.F.type_list_extend mr_extend (pv 1) (pa_cons (pe_cd D_round_weave hr rfl (pa_cons (pv 2) (pa_cons (pv 4) pa_nil))) pa_nil)))
    (pss_cons (ps_aug (i := 2) sc.nd rfl (by first | exact Or.inl rfl | exact Or.inr rfl) (pe_op op_mul pe_int (pv 4)) ip_add)
    (pss_one (ps_aug (i := 3) sc.nd rfl (by first | exact Or.inl rfl | exact Or.inr rfl) (pv 4) ip_sub))))))
    (pss_one (ps_ret (pv 1))))))), ?_⟩
  rw [show start ["many", "plan", "begin", "left", "part"] [V.int n] = [some (.int n), none, none, none, none] from rfl]
  walk_at "rd"
  refine ⟨Nat.zero_le _, fun pd hpd => ?_⟩
  have k0 := Kp.new (bs := []) (HO.lst []) hpd
  have hd0 := upd_same (H := H) (a := pd) (o := HO.lst [])
  generalize upd H pd (HO.lst []) = H0 at *
  refine ⟨n, rfl, by omega, fun pp H1 k1 hpp hp => ⟨pp, rfl, ⟨_, SqL.of hp⟩, ?_⟩⟩
  have hd1 := k1 _ _ (by simp) hd0
  have npd : pp ≠ pd := Ne.symm (ne_of_none hd0 hpp)
  refine lp_list (xs := (pts n).map V.int) (fun i τ G => ∃ (b l : Nat) (x4 : Option V) (ps : List (Addr × List V)), τ = [some (.int n), some (.ref pd), some (.int b), some (.int l), x4] ∧ (pts n).drop i = pts l ∧ b + 2 * l = 2 * n ∧ Kp [pd] H1 G ∧ G pd = some (.lst (tfs ps)) ∧ (∀ r ∈ ps, H r.1 = none ∧ G r.1 = some (.tup r.2)) ∧ ps.map (·.2) ++ wpP b l = wpP 0 n) ?_ ?_ ?_ ?_
  · exact ⟨0, n, none, [], rfl, rfl, by omega, Kp.refl, hd1, fun r hr => (nomatch hr), rfl⟩
  · rintro i τ G _ ⟨b, l, x4, ps, rfl, _, _, kp, _⟩
    exact SqL.of (kp _ _ (by simpa using npd) hp)
  · rintro i x τ G hx ⟨b, l, x4, ps, rfl, hdr, hbl, kp, hd, hps, eps⟩
    obtain ⟨rfl, hi⟩ := get_map_elim hx
    have hl0 : 0 < l := by
      rcases Nat.eq_zero_or_pos l with z | z
      · subst z
        rw [pts_zero] at hdr
        have := congrArg List.length hdr
        rw [List.length_drop] at this
        simp at this
        omega
      · exact z
    have hln : l ≤ n := by omega
    have hcons : (pts n).drop i = (pts n).getD i 0 :: (pts n).drop (i + 1) := by
      rw [List.drop_eq_getElem_cons hi, getD_eq hi]
    rw [pts_pos hl0, hcons] at hdr
    obtain ⟨e1, e2⟩ := List.cons.inj hdr
    rw [e1]
    have h1 := best_pos l
    have h2 := best_le hl0
    have hbc := best_cnt (l := l) (by omega)
    have hpow : 2 * best l + 1 = 3 ^ cnt l := by rcases hbc with ⟨z1, z2⟩ | ⟨z1, z2⟩ | ⟨z1, z2⟩ | ⟨z1, z2⟩ <;> rw [z1, z2] <;> rfl
    rw [wpP_pos hl0] at eps
    have llen : ps.length + (xpL (b + best l) (rollL l (best l : Int)) l).length + (rwL b (best l) (cnt l)).length ≤ 50000 := by
      have := congrArg List.length eps
      rw [List.length_append, List.length_append, List.length_append, List.length_map] at this
      omega
    have kHG : Kp [] H G := Kp.un (((k0.trans k1).mono (bs' := [pd]) (by simp)).trans kp) hpd
    walk_at "rd"
    refine ⟨.inl ⟨rfl, _, SqL.of hd⟩, b + best l, b + l, b + l + best l, by push_cast; rfl, by omega, by omega, by omega, fun p1 G1 ps1 g1 hp1 h1' hps1 eps1 => ?_⟩
    rw [show b + l + best l - (b + best l) = l by omega, show b + l + best l - (b + l) = best l by omega] at eps1
    have hd1' := g1 _ _ (by simp) hd
    have l1 := congrArg List.length eps1
    rw [List.length_map] at l1
    refine ⟨p1, rfl, _, hd1', _, h1', by rw [tfs_len, tfs_len]; omega, ?_⟩
    have kW := (g1.mono (bs' := [pd]) (by simp)).trans (Kp.set (H := G1) (p := pd) (HO.lst (tfs ps ++ tfs ps1)) (by simp))
    have hdW := upd_same (H := G1) (a := pd) (o := HO.lst (tfs ps ++ tfs ps1))
    have hpsW : ∀ r ∈ ps ++ ps1, H r.1 = none ∧ upd G1 pd (HO.lst (tfs ps ++ tfs ps1)) r.1 = some (.tup r.2) := fun y hy => by
      rcases List.mem_append.mp hy with z | z
      · obtain ⟨z1, z2⟩ := hps y z
        have z3 := g1 _ _ (by simp) z2
        exact ⟨z1, (upd_ne (ne_lt hd1' z3)).trans z3⟩
      · obtain ⟨z1, z2⟩ := hps1 y z
        exact ⟨kHG.free z1, (upd_ne (ne_lt hd1' z2)).trans z2⟩
    generalize upd G1 pd (HO.lst (tfs ps ++ tfs ps1)) = W at *
    rw [← tfs_app] at hdW
    refine ⟨.inl ⟨rfl, _, SqL.of hdW⟩, b, best l, cnt l, rfl, hpow, by omega, by omega, fun p2 G2 ps2 g2 hp2 h2' hps2 eps2 => ?_⟩
    have hd2' := g2 _ _ (by simp) hdW
    have l2 := congrArg List.length eps2
    rw [List.length_map] at l2
    have kHW : Kp [] H W := Kp.un ((kHG.mono (bs' := [pd]) (by simp)).trans kW) hpd
    refine ⟨p2, rfl, _, hd2', _, h2', by rw [tfs_len, tfs_len, List.length_append]; omega, ?_⟩
    refine ⟨cmul_l (by omega) (by omega), _, _, rfl, rfl, _, _, rfl, rfl, b + 2 * best l, by push_cast; rfl, l - best l, by rw [Int.ofNat_sub h2], e2, by omega, (kp.trans kW).trans ((g2.mono (by simp)).trans (Kp.set _ (by simp))), ps ++ ps1 ++ ps2, upd_same.trans (by rw [tfs_app _ ps2]), fun y hy => ?_, ?_⟩
    · rcases List.mem_append.mp hy with z | z
      · obtain ⟨z1, z2⟩ := hpsW y z
        have z3 := g2 _ _ (by simp) z2
        exact ⟨z1, (upd_ne (ne_lt hd2' z3)).trans z3⟩
      · obtain ⟨z1, z2⟩ := hps2 y z
        exact ⟨kHW.free z1, (upd_ne (ne_lt hd2' z2)).trans z2⟩
    · rw [List.map_append, List.map_append, eps1, eps2, ← eps]
      simp only [List.append_assoc]
  · rintro τ G ⟨b, l, x4, ps, rfl, hdr, hbl, kp, hd, hps, eps⟩
    have hl0 : l = 0 := by
      rw [List.length_map, List.drop_length] at hdr
      rcases Nat.eq_zero_or_pos l with z | z
      · exact z
      · rw [pts_pos z] at hdr; cases hdr
    subst hl0
    rw [wpP_zero, List.append_nil] at eps
    walk_at "rd"
    exact q pd G ps (Kp.un (((k0.trans k1).mono (bs' := [pd]) (by simp)).trans kp) hpd) hpd hd hps eps
abbrev s_back_of : Stmt := top 1
theorem sc_back_of : FnScope ["order", "back", "place", "goal"] ["order"] (defScope s_back_of) := ⟨rfl, rfl, rfl, by decide +kernel, rfl, by decide +kernel, by decide +kernel⟩
def spBack (K : PySem.W.Frag) : Sp := fun vs H Q _ => ∃ (a : Addr) (n : Nat) (os : List Int), vs = [.ref a] ∧ SqL K H a (os.map V.int) ∧ IsOrd n os ∧ n ≤ 1000 ∧ ∀ p H' bs, Kp [] H H' → H p = none → H' p = some (il bs) → IsBack os bs → Q (.ref p) H'
theorem df_back_of (a : At K mg "back_of" s_back_of) (B : Blt mg) : Df P w K mg base "back_of" ["order"] 1 (spBack K) := by
  refine df_of (k := 0) a sc_back_of (fun _ _ _ _ _ _ us hl => match us, hl with | [_], _ => rfl) (fun vs H Q E h => ?_) (fun f cdv A outer s H vs Q E hr h => ?_)
  · obtain ⟨a, _, _, rfl, _⟩ := h; rfl
  obtain ⟨a, n, os, rfl, ha, ho, hn, q⟩ := h
  have sc := sc_back_of
  have hsl := hsl
  have ol := ho.1
  refine ⟨_, (pss_cons (ps_set (i := 1) sc.nd rfl (by first | exact Or.inl rfl | exact Or.inr rfl) (pe_op op_rep (pe_lst (pa_cons pe_int pa_nil)) (pe_callB call_len_seq rfl B.len bt_len (pa_cons (pv 0) pa_nil))))
    (pss_cons (ps_for PassesOwn.never rfl (pi_enum rfl B.enumerate (pa_cons (pv 0) pa_nil)) (pg_tupK (K := K) 2 rfl rfl (pgs_cons (pg_name (i := 2) sc.nd rfl (by first | exact Or.inl rfl | exact Or.inr rfl)) (pgs_cons (pg_name (i := 3) sc.nd rfl (by first | exact Or.inl rfl | exact Or.inr rfl)) pgs_nil))) (pss_one (ps_asg (pv 2) (pg_sub (pv 1) (pv 3) set_listO))))
    (pss_one (ps_ret (pv 1))))), ?_⟩
  rw [show start ["order", "back", "place", "goal"] [V.ref a] = [some (.ref a), none, none, none] from rfl]
  walk_at "rd"
  walk_at "xs"
  intro p1 hp1
  walk_at "xs"
  intro p2 hp2
  walk_at "xs"
  rw [List.length_map, ol, Int.toNat_natCast, rep1]
  have hn2 : H p2 = none := by walk_at "fr"
  refine lp_enum (xs := os.map V.int) (fun i τ H' => ∃ u v bs, τ = [some (.ref a), some (.ref p2), u, v] ∧ Kp [p2] (upd (upd H p1 (.lst [.int 0])) p2 (.lst (List.replicate n (.int 0)))) H' ∧ H' p2 = some (il bs) ∧ bs.length = n ∧ ∀ j, j < i → bs.getD (os.getD j 0).toNat 0 = (j : Int)) ?_ ?_ ?_ ?_
  · exact ⟨none, none, List.replicate n 0, rfl, Kp.refl, upd_same.trans (by simp), by simp, fun j hj => nomatch hj⟩
  · rintro i τ H' _ ⟨u, v, bs, rfl, kp, _⟩
    exact Kp_sq' ha ((Kp.new _ hp1).trans (Kp.drop1 hp2 kp))
  · rintro i x pp τ H' hx hpp ⟨u, v, bs, rfl, kp, hbs, hl, hj⟩
    obtain ⟨rfl, hi⟩ := get_map_elim hx
    have gb := ho.getD (i := i) (by omega)
    obtain ⟨g1, g2⟩ := get_map_int (cs := bs) (k := os.getD i 0) gb.1 (by omega)
    have hb' : upd H' pp (HO.tup [V.int i, V.int (os.getD i 0)]) p2 = some (il bs) := by walk_at "hp"
    walk_at "rd"
    walk_at "xs"
    refine ⟨(kp.trans (Kp.new _ hpp)).trans (Kp.set _ (by simp)), _, upd_same.trans (congrArg some (congrArg HO.lst (set_map _ _ _))), by rw [List.length_set]; exact hl, fun j hj' => ?_⟩
    rw [getD_set (by omega)]
    by_cases e : j = i
    · subst e; rw [if_pos rfl]
    · rw [if_neg, hj j (by omega)]
      intro z
      have gj := ho.getD (i := j) (by omega)
      exact e (ho.inj (by omega) (by omega) (by omega))
  · rintro τ H' ⟨u, v, bs, rfl, kp, hbs, hl, hj⟩
    walk_at "rd"
    rw [List.length_map] at hj
    exact q _ _ bs ((Kp.new _ hp1).trans (Kp.drop1 hp2 kp)) hn2 hbs ⟨by omega, hj⟩
def spWrow : Sp := fun vs H Q _ => ∃ (m f : Nat), vs = [.int m, .int f] ∧ f < 2 ∧ m ≤ 500 ∧ ∀ (p : Addr) (H' : Hp), Kp [] H H' → H p = none → H' p = some (il (wovR m f)) → Q (.ref p) H'
abbrev s_uorder : Stmt := top 12
theorem sc_uorder : FnScope ["many", "first"] ["many", "first"] (defScope s_uorder) := ⟨rfl, rfl, rfl, by decide +kernel, rfl, by decide +kernel, by decide +kernel⟩
theorem df_uorder (a : At K mg "unweave_order" s_uorder) (B : Blt mg) (D_weave_order : Df P w K mg base "weave_order" ["many", "first"] 1 spWorder) (D_back_of : Df P w K mg base "back_of" ["order"] 1 (spBack K)) : Df P w K mg base "unweave_order" ["many", "first"] 2 spWrow := by
  refine df_of (k := 1) a sc_uorder (fun _ _ _ _ _ _ us hl => match us, hl with | [_, _], _ => rfl) (fun vs H Q E h => ?_) (fun f cdv A outer s H vs Q E hr h => ?_)
  · obtain ⟨m, f, rfl, _⟩ := h; rfl
  obtain ⟨m, f, rfl, hf, hm, q⟩ := h
  have sc := sc_uorder
  refine ⟨_, (pss_one (ps_ret (pe_cd D_back_of hr rfl (pa_cons (pe_cd D_weave_order hr rfl (pa_cons (pv 0) (pa_cons (pv 1) pa_nil))) pa_nil)))), ?_⟩
  rw [show start ["many", "first"] [V.int m, V.int f] = [some (.int m), some (.int f)] from rfl]
  walk_at "rd"
  refine ⟨m, f, rfl, hf, hm, fun p H1 k1 hp h1 => ⟨p, _, _, rfl, SqL.of h1, wovO_ord hf, by omega, fun p2 H2 bs k2 hp2 h2 hb => ?_⟩⟩
  rw [IsBack.same (wovO_ord hf) (wov_back2 hf) hb] at h2
  exact q _ _ (k1.trans k2) (k1.free hp2) h2
theorem wov_lead {m c j : Nat} (hm : 2 * m + 1 = 3 ^ c) (hj : j < c) : Lead (wovO m 1) (3 ^ j - 1) ∧ 1 < per (wovO m 1) ((3 ^ j - 1 : Nat) : Int) := by
  have h0 : 0 < 3 ^ j := Nat.pow_pos (by decide)
  have h3 : 3 ^ (j + 1) = 3 ^ j * 3 := Nat.pow_succ ..
  have hle : 3 ^ (j + 1) ≤ 3 ^ c := Nat.pow_le_pow_right (by decide) hj
  have hd : 3 ^ j ∣ 3 ^ c := Nat.pow_dvd_pow 3 (by omega)
  refine ⟨fun q hq z => ?_, ?_⟩
  · obtain ⟨k, hk⟩ := z
    have hk : L2.itn (wovO m 1) k (q : Int) = ((3 ^ j - 1 : Nat) : Int) := hk
    rw [itn_wov (by omega) k, hm] at hk
    have e : (q + 1) * 2 ^ k % 3 ^ c = 3 ^ j := by omega
    have d1 : 3 ^ j ∣ (q + 1) * 2 ^ k := by
      rw [← Nat.dvd_mod_iff hd, e]; exact Nat.dvd_refl _
    have d2 : 3 ^ j ∣ q + 1 := (Nat.Coprime.pow j k (by decide : Nat.Coprime 3 2)).dvd_of_dvd_mul_right d1
    have := Nat.le_of_dvd (by omega) d2
    omega
  · obtain ⟨M, hM, _⟩ := per_ex (wovO_ord (m := m) (f := 1) (by omega)) (p := ((3 ^ j - 1 : Nat) : Int)) (by omega) (by omega)
    rw [hM.per]
    rcases Nat.lt_or_ge 1 M with z | z
    · exact z
    · have hM1 := hM.1
      have e : M = 1 := by omega
      subst e
      have h1 : L2.itn (wovO m 1) 1 ((3 ^ j - 1 : Nat) : Int) = ((3 ^ j - 1 : Nat) : Int) := hM.2.1
      rw [itn_wov (by omega) 1, hm, show 3 ^ j - 1 + 1 = 3 ^ j by omega, Nat.pow_one, Nat.mod_eq_of_lt (by omega)] at h1
      omega
theorem wov_not {m i k : Nat} (hi : i < 2 * m) (h : (i + 1) * 2 ^ k % (2 * m + 1) < i + 1) : ¬ Lead (wovO m 1) i := by
  intro z
  have oo := wovO_ord (m := m) (f := 1) (by omega)
  have bd := itn_bd oo (p := (i : Int)) (by omega) (by omega) k
  have e := itn_wov hi k
  rw [e] at bd
  refine z ((i + 1) * 2 ^ k % (2 * m + 1) - 1) (by omega) ?_
  have e2 : (((i + 1) * 2 ^ k % (2 * m + 1) - 1 : Nat) : Int) = L2.itn (wovO m 1) k (i : Int) := by rw [e]; omega
  rw [e2]
  exact Rch.symm oo (by omega) (by omega) ⟨k, rfl⟩
open Classical in
theorem ringsL_pick {os : List Int} {S : List Nat} : ∀ (n : Nat), (∀ i, i < n → ((Lead os i ∧ 1 < per os (i : Int)) ↔ i ∈ S)) → ringsL os n = ((List.range n).filter (fun i => decide (i ∈ S))).map fun (i : Nat) => ringOf os (i : Int)
  | 0, _ => rfl
  | n + 1, h => by
    rw [ringsL_succ, ringsL_pick n (fun i hi => h i (by omega)), List.range_succ, List.filter_append, List.map_append]
    congr 1
    by_cases c : Lead os n ∧ 1 < per os (n : Int)
    · have hn := (h n (by omega)).mp c
      rw [if_pos c, List.filter_cons, if_pos (by simpa using hn)]; rfl
    · have hn : n ∉ S := fun z => c ((h n (by omega)).mpr z)
      rw [if_neg c, List.filter_cons, if_neg (by simpa using hn)]; rfl
theorem wov_rings1 {m c : Nat} {S : List Nat} (hm : 2 * m + 1 = 3 ^ c) (hS : S = (List.range c).map fun j => 3 ^ j - 1) (h2 : ∀ i, i < 2 * m → i ∈ S ∨ ∃ k, k < 60 ∧ (i + 1) * 2 ^ k % (2 * m + 1) < i + 1) (h3 : (List.range (2 * m)).filter (fun i => decide (i ∈ S)) = S) :
    ringsL (wovO m 1) (2 * m) = (List.range c).map fun j => ringOf (wovO m 1) ((3 ^ j - 1 : Nat) : Int) := by
  rw [ringsL_pick (S := S) (2 * m) fun i hi => ?_]
  · rw [h3, hS, List.map_map]; rfl
  · constructor
    · intro z
      rcases h2 i hi with y | ⟨k, _, y⟩
      · exact y
      · exact absurd z.1 (wov_not hi y)
    · intro z
      rw [hS] at z
      obtain ⟨j, hj, e⟩ := List.mem_map.mp z
      subst e
      exact wov_lead hm (List.mem_range.mp hj)
theorem wov_rings {m c : Nat} (h : (m = 1 ∧ c = 1) ∨ (m = 4 ∧ c = 2) ∨ (m = 13 ∧ c = 3) ∨ (m = 40 ∧ c = 4)) : ringsL (wovO m 1) (2 * m) = (List.range c).map fun j => ringOf (wovO m 1) ((3 ^ j - 1 : Nat) : Int) := by
  rcases h with ⟨rfl, rfl⟩ | ⟨rfl, rfl⟩ | ⟨rfl, rfl⟩ | ⟨rfl, rfl⟩
  · exact wov_rings1 (S := [0]) (by decide) (by decide) (by decide +kernel) (by decide +kernel)
  · exact wov_rings1 (S := [0, 2]) (by decide) (by decide) (by decide +kernel) (by decide +kernel)
  · exact wov_rings1 (S := [0, 2, 8]) (by decide) (by decide) (by decide +kernel) (by decide +kernel)
  · exact wov_rings1 (S := [0, 2, 8, 26]) (by decide) (by decide) (by decide +kernel) (by decide +kernel)
theorem rwL_xp {b m c : Nat} (h : (m = 1 ∧ c = 1) ∨ (m = 4 ∧ c = 2) ∨ (m = 13 ∧ c = 3) ∨ (m = 40 ∧ c = 4)) : rwL b m c = xpL b (wovO m 1) (2 * m) := by
  unfold rwL xpL
  rw [wov_rings h, List.map_map]
  rfl
abbrev s_lput : Stmt := top 27
theorem sc_lput : FnScope ["_law_things", "_law_order", "_law_found", "_law_place", "_law_thing"] ["_law_things", "_law_order"] (defScope s_lput) := ⟨rfl, rfl, rfl, by decide +kernel, rfl, by decide +kernel, by decide +kernel⟩
/-- things put by an order -/
def Puts (os : List Int) (xs ys : List V) : Prop := ys.length = xs.length ∧ ∀ p : Nat, p < xs.length → ys[(os.getD p 0).toNat]? = xs[p]?
theorem Puts.uniq {n : Nat} {os : List Int} {xs ys zs : List V} (ho : IsOrd n os) (hx : xs.length = n) (h1 : Puts os xs ys) (h2 : Puts os xs zs) : ys = zs := by
  refine List.ext_getElem? fun i => ?_
  by_cases hi : i < n
  · obtain ⟨p, hp, e⟩ := ho.ex hi
    have a := h1.2 p (by omega)
    have b := h2.2 p (by omega)
    rw [e] at a b
    rw [Int.toNat_natCast] at a b
    rw [a, b]
  · rw [List.getElem?_eq_none (by have := h1.1; omega), List.getElem?_eq_none (by have := h2.1; omega)]
def spLPut (K : PySem.W.Frag) : Sp := fun vs H Q _ => ∃ (a b : Addr) (n : Nat) (xs : List V) (os : List Int), vs = [.ref a, .ref b] ∧ SqL K H a xs ∧ SqL K H b (os.map V.int) ∧ IsOrd n os ∧ xs.length = n ∧ n ≤ 1000 ∧
  ∀ p H' ys, Kp [] H H' → H p = none → H' p = some (.lst ys) → Puts os xs ys → Q (.ref p) H'
theorem df_lput (a : At K mg "_law_put" s_lput) (B : Blt mg) : Df P w K mg base "_law_put" ["_law_things", "_law_order"] 1 (spLPut K) := by
  refine df_of (k := 0) a sc_lput (fun _ _ _ _ _ _ us hl => match us, hl with | [_, _], _ => rfl) (fun vs H Q E h => ?_) (fun f cdv A outer s H vs Q E hr h => ?_)
  · obtain ⟨a, b, n, xs, os, rfl, _⟩ := h; rfl
  obtain ⟨a, b, n, xs, os, rfl, ha, hb, ho, hx, hn, q⟩ := h
  have sc := sc_lput
  have hsl := hsl
  refine ⟨_, (pss_cons (ps_set (i := 2) sc.nd rfl (by first | exact Or.inl rfl | exact Or.inr rfl) (pe_callTy call_list_of rfl B.list bt_list (pa_cons (pv 0) pa_nil)))
    (pss_cons (ps_for PassesOwn.never rfl (pi_enum rfl B.enumerate (pa_cons (pv 0) pa_nil)) (pg_tupK (K := K) 2 rfl rfl (pgs_cons (pg_name (i := 3) sc.nd rfl (by first | exact Or.inl rfl | exact Or.inr rfl)) (pgs_cons (pg_name (i := 4) sc.nd rfl (by first | exact Or.inl rfl | exact Or.inr rfl)) pgs_nil))) (pss_one (ps_asg (pv 4) (pg_sub (pv 2) (pe_ix ix_list (pv 1) (pv 3) (fun _ _ => rfl)) set_listO))))
    (pss_one (ps_ret (pv 2))))), ?_⟩
  rw [show start ["_law_things", "_law_order", "_law_found", "_law_place", "_law_thing"] [V.ref a, V.ref b] = [some (.ref a), some (.ref b), none, none, none] from rfl]
  walk_at "rd"
  refine ⟨_, .inl ha, fun l hl => ?_⟩
  have kl := Kp.new (bs := []) (HO.lst xs) hl
  have hl1 := upd_same (H := H) (a := l) (o := HO.lst xs)
  have ha1 := Kp_sq' ha kl
  generalize upd H l (HO.lst xs) = H1 at *
  refine ⟨⟨_, ha1⟩, ?_⟩
  refine lp_enum (xs := xs) (fun j τ G => ∃ (y3 y4 : Option V) (ys : List V), τ = [some (.ref a), some (.ref b), some (.ref l), y3, y4] ∧ Kp [l] H1 G ∧ G l = some (.lst ys) ∧ ys.length = n ∧ ∀ p : Nat, p < j → ys[(os.getD p 0).toNat]? = xs[p]?) ?_ ?_ ?_ ?_
  · exact ⟨none, none, xs, rfl, Kp.refl, hl1, hx, fun p hp => nomatch hp⟩
  · rintro j τ G _ ⟨y3, y4, ys, rfl, kq, _⟩
    exact Kp_sq' ha (Kp.un (bs := []) ((kl.mono (bs' := [l]) (by simp)).trans kq) hl)
  · rintro j x pp τ G hx' hpp ⟨y3, y4, ys, rfl, kq, hq, ly, hj⟩
    have hjl := (List.getElem?_eq_some_iff.mp hx').1
    have gb := ho.getD (i := j) (by omega)
    obtain ⟨_, g2⟩ := get_map_int (cs := os) (k := (j : Int)) (by omega) (by have := ho.1; omega)
    rw [Int.toNat_natCast] at g2
    have kt := Kp.new (bs := []) (HO.tup [V.int j, x]) hpp
    have kHG : Kp [] H G := Kp.un (bs := []) ((kl.mono (bs' := [l]) (by simp)).trans kq) hl
    have ix : ixN ys.length (os.getD j 0) = some (os.getD j 0).toNat := by unfold ixN; rw [if_pos gb.1, if_pos (by omega)]
    walk_at "rd"
    refine ⟨_, SqT.of upd_same, rfl, _, _, rfl, _, _, rfl, rfl, ?_⟩
    refine ⟨_, _, rfl, Kp_sq' hb (kHG.trans kt), _, g2, _, rfl, _, kt _ _ (by simp) hq, _, ix, (kq.trans (kt.mono (by simp))).trans (Kp.set _ (by simp)), _, upd_same, by rw [List.length_set]; exact ly, fun p hp => ?_⟩
    rw [List.getElem?_set]
    by_cases e : p = j
    · subst e
      rw [if_pos rfl, if_pos (by omega)]
      exact hx'.symm
    · rw [if_neg (fun z => e ?_), hj p (by omega)]
      have gp := ho.getD (i := p) (by omega)
      exact ho.inj (by omega) (by omega) (by omega)
  · rintro τ G ⟨y3, y4, ys, rfl, kq, hq, ly, hj⟩
    walk_at "rd"
    exact q l G ys (Kp.un (bs := []) ((kl.mono (bs' := [l]) (by simp)).trans kq) hl) hl hq ⟨by omega, hj⟩
abbrev s_wturns : Stmt := top 13
theorem sc_wturns : FnScope ["many", "first", "by", "turns", "rest"] ["many", "first"] (defScope s_wturns) := ⟨rfl, rfl, rfl, by decide +kernel, rfl, by decide +kernel, by decide +kernel⟩
def spWturns : Sp := fun vs H Q _ => ∃ (n : Nat), vs = [.int n, .int 1] ∧ n ≤ 100 ∧ ∀ (T : Nat), 1 ≤ T → T ≤ 1000 → (n = 0 → T = 1) → (0 < n → 2 ^ T % (2 * n + 1) = 1 ∧ ∀ i, 1 ≤ i → i < T → 2 ^ i % (2 * n + 1) ≠ 1) → Q (.int T) H
theorem two_ord {n : Nat} (hn : 0 < n) : ∃ M, 1 ≤ M ∧ M ≤ 2 * n ∧ 2 ^ M % (2 * n + 1) = 1 := by
  obtain ⟨M, hM, hMn⟩ := per_ex (wovO_ord (m := n) (f := 1) (by omega)) (p := ((0 : Nat) : Int)) (by omega) (by omega)
  have h1 : L2.itn (wovO n 1) M ((0 : Nat) : Int) = ((0 : Nat) : Int) := hM.2.1
  rw [itn_wov (by omega)] at h1
  refine ⟨M, hM.1, hMn, ?_⟩
  rw [Nat.zero_add, Nat.one_mul] at h1
  omega
theorem df_wturns (a : At K mg "weave_turns" s_wturns) (B : Blt mg) : Df P w K mg base "weave_turns" ["many", "first"] 1 spWturns := by
  refine df_of (k := 0) a sc_wturns (fun _ _ _ _ _ _ us hl => match us, hl with | [_, _], _ => rfl) (fun vs H Q E h => ?_) (fun f cdv A outer s H vs Q E hr h => ?_)
  · obtain ⟨n, rfl, _⟩ := h; rfl
  obtain ⟨n, rfl, hn, q⟩ := h
  have sc := sc_wturns
  have hsl := hsl
  refine ⟨_, (pss_cons (ps_set (i := 2) sc.nd rfl (by first | exact Or.inl rfl | exact Or.inr rfl) (pe_ifExp (pt_cmpR op_eq (pv 1) pe_int (nomark _)) (pe_op op_add (pe_op op_mul pe_int (pv 0)) pe_int) (pe_op op_sub (pe_op op_mul pe_int (pv 0)) pe_int)))
    (pss_cons (ps_if (pt_cmpR op_le (pv 2) pe_int (nomark _)) (pss_one (ps_ret pe_int)) pss_nil)
    (pss_cons (ps_set (i := 3) sc.nd rfl (by first | exact Or.inl rfl | exact Or.inr rfl) pe_int)
    (pss_cons (ps_set (i := 4) sc.nd rfl (by first | exact Or.inl rfl | exact Or.inr rfl) pe_int)
    (pss_cons (ps_while PassesOwn.never (pt_cmpR op_ne (pv 4) pe_int (nomark _)) (pss_cons (ps_set (i := 4) sc.nd rfl (by first | exact Or.inl rfl | exact Or.inr rfl) (pe_op op_mod (pe_op op_mul (pv 4) pe_int) (pv 2)))
    (pss_one (ps_aug (i := 3) sc.nd rfl (by first | exact Or.inl rfl | exact Or.inr rfl) pe_int ip_add))))
    (pss_one (ps_ret (pv 3)))))))), ?_⟩
  rw [show start ["many", "first", "by", "turns", "rest"] [V.int n, V.int 1] = [some (.int n), some (.int 1), none, none, none] from rfl]
  walk_at "rd"
  refine ⟨rfl, cmul_l (by decide) (by decide), ite2 (fun z => ?_) (fun z => ?_)⟩
  · exact q 1 (by omega) (by omega) (fun _ => rfl) (fun h0 => by omega)
  · have hn0 : 0 < n := by omega
    obtain ⟨M, hM1, hM2, hM3⟩ := two_ord hn0
    refine while_by (fun τ H' => H' = H ∧ ∃ (t : Nat), τ = [some (.int n), some (.int 1), some (.int (2 * (n : Int) + 1)), some (.int t), some (.int ((2 ^ t % (2 * n + 1) : Nat) : Int))] ∧ 1 ≤ t ∧ t ≤ M ∧ ∀ i, 1 ≤ i → i < t → 2 ^ i % (2 * n + 1) ≠ 1)
      (fun τ _ => match τ with | [_, _, _, some (.int l), _] => M + 1 - l.toNat | _ => 0) ?_ ?_ (mt_test (me_op mr_ne me_var me_c))
    · exact ⟨rfl, 1, by rw [Nat.pow_one, Nat.mod_eq_of_lt (by omega)]; rfl, by omega, hM1, fun i h1 h2 => by omega⟩
    · rintro τ H' ⟨rfl, t, rfl, t1, tM, ht⟩
      walk_at "rd"
      refine ⟨rfl, ite2 (fun c => ?_) (fun c => ?_)⟩
      · have hmod := Nat.mod_lt (2 ^ t) (show 0 < 2 * n + 1 by omega)
        have hne : 2 ^ t % (2 * n + 1) ≠ 1 := fun e => c (by rw [e]; rfl)
        have htM : t < M := by
          rcases Nat.lt_or_ge t M with y | y
          · exact y
          · have : t = M := by omega
            subst this
            exact absurd hM3 hne
        have e2 : (((2 ^ t % (2 * n + 1) : Nat) : Int) * 2) % (2 * (n : Int) + 1) = ((2 ^ (t + 1) % (2 * n + 1) : Nat) : Int) := by
          rw [Nat.pow_succ, ← Nat.mod_mul_mod]
          push_cast
          rfl
        refine ⟨cmul_l (by omega) (by omega), by omega, ?_⟩
        rw [e2]
        refine ⟨_, _, rfl, rfl, rfl, ⟨t + 1, by push_cast; rfl, rfl, by omega, by omega, fun i h1 h2 => ?_⟩, ?_⟩
        · by_cases e : i = t
          · subst e; exact hne
          · exact ht i h1 (by omega)
        · show M + 1 - ((t : Int) + 1).toNat < M + 1 - (t : Int).toNat
          omega
      · have he : 2 ^ t % (2 * n + 1) = 1 := by
          by_cases y : 2 ^ t % (2 * n + 1) = 1
          · exact y
          · exact absurd (fun z => y (by omega)) c
        walk_at "rd"
        exact q t t1 (by omega) (fun h0 => by omega) (fun _ => ⟨he, ht⟩)
abbrev s_pright : Stmt := top 28
theorem sc_pright : FnScope ["_law_part", "_law_power", "_law_found", "_law_one", "_law_k", "_law_firsts", "_law_longs", "_law_ring"] ["_law_part", "_law_power"] (defScope s_pright) := ⟨rfl, rfl, rfl, by decide +kernel, rfl, by decide +kernel, by decide +kernel⟩
def spPright : Sp := fun vs H Q _ => ∃ (m c : Nat), vs = [.int m, .int c] ∧ ((m = 1 ∧ c = 1) ∨ (m = 4 ∧ c = 2) ∨ (m = 13 ∧ c = 3) ∨ (m = 40 ∧ c = 4)) ∧ ∀ H', Kp [] H H' → Q (.bl true) H'
/-- the leaders, and how long the rings are -/
def lgL : Nat → List Int
  | 0 => []
  | k + 1 => (2 * 3 ^ k : Int) :: lgL k
theorem lg_lens {m c : Nat} (h : (m = 1 ∧ c = 1) ∨ (m = 4 ∧ c = 2) ∨ (m = 13 ∧ c = 3) ∨ (m = 40 ∧ c = 4)) : (((List.range c).map fun j => ringOf (wovO m 1) ((3 ^ j - 1 : Nat) : Int)).map fun r => (r.length : Int)) = lgL c := by
  rcases h with ⟨rfl, rfl⟩ | ⟨rfl, rfl⟩ | ⟨rfl, rfl⟩ | ⟨rfl, rfl⟩
  · have e0 := per_wov (m := 1) (c := 1) (j := 0) (M := 2) (by decide) (by decide) (by decide) (by decide) (by decide +kernel)
    show [((ringOf (wovO 1 1) ((3 ^ 0 - 1 : Nat) : Int)).length : Int)] = _
    rw [e0]; rfl
  · have e0 := per_wov (m := 4) (c := 2) (j := 0) (M := 6) (by decide) (by decide) (by decide) (by decide) (by decide +kernel)
    have e1 := per_wov (m := 4) (c := 2) (j := 1) (M := 2) (by decide) (by decide) (by decide) (by decide) (by decide +kernel)
    show [((ringOf (wovO 4 1) ((3 ^ 0 - 1 : Nat) : Int)).length : Int), ((ringOf (wovO 4 1) ((3 ^ 1 - 1 : Nat) : Int)).length : Int)] = _
    rw [e0, e1]; rfl
  · have e0 := per_wov (m := 13) (c := 3) (j := 0) (M := 18) (by decide) (by decide) (by decide) (by decide +kernel) (by decide +kernel)
    have e1 := per_wov (m := 13) (c := 3) (j := 1) (M := 6) (by decide) (by decide) (by decide) (by decide +kernel) (by decide +kernel)
    have e2 := per_wov (m := 13) (c := 3) (j := 2) (M := 2) (by decide) (by decide) (by decide) (by decide +kernel) (by decide +kernel)
    show [((ringOf (wovO 13 1) ((3 ^ 0 - 1 : Nat) : Int)).length : Int), ((ringOf (wovO 13 1) ((3 ^ 1 - 1 : Nat) : Int)).length : Int), ((ringOf (wovO 13 1) ((3 ^ 2 - 1 : Nat) : Int)).length : Int)] = _
    rw [e0, e1, e2]; rfl
  · have e0 := per_wov (m := 40) (c := 4) (j := 0) (M := 54) (by decide) (by decide) (by decide) (by decide +kernel) (by decide +kernel)
    have e1 := per_wov (m := 40) (c := 4) (j := 1) (M := 18) (by decide) (by decide) (by decide) (by decide +kernel) (by decide +kernel)
    have e2 := per_wov (m := 40) (c := 4) (j := 2) (M := 6) (by decide) (by decide) (by decide) (by decide +kernel) (by decide +kernel)
    have e3 := per_wov (m := 40) (c := 4) (j := 3) (M := 2) (by decide) (by decide) (by decide) (by decide +kernel) (by decide +kernel)
    show [((ringOf (wovO 40 1) ((3 ^ 0 - 1 : Nat) : Int)).length : Int), ((ringOf (wovO 40 1) ((3 ^ 1 - 1 : Nat) : Int)).length : Int), ((ringOf (wovO 40 1) ((3 ^ 2 - 1 : Nat) : Int)).length : Int), ((ringOf (wovO 40 1) ((3 ^ 3 - 1 : Nat) : Int)).length : Int)] = _
    rw [e0, e1, e2, e3]; rfl
theorem ringOf_head {n : Nat} {os : List Int} (h : IsOrd n os) {p : Nat} (hp : p < n) : (ringOf os (p : Int)).getD 0 0 = (p : Int) := by
  obtain ⟨M, hM, _⟩ := per_ex h (p := (p : Int)) (by omega) (by omega)
  unfold ringOf
  rw [hM.per, List.getD_eq_getElem?_getD]
  unfold itl
  rw [List.getElem?_map, List.getElem?_range (by have := hM.1; omega)]
  rfl
theorem df_pright (a : At K mg "_law_parts_right" s_pright) (B : Blt mg) (D_law_rings : Df P w K mg base "_law_rings" ["_law_order"] 1 (spLRings K)) (D_weave_order : Df P w K mg base "weave_order" ["many", "first"] 1 spWorder) : Df P w K mg base "_law_parts_right" ["_law_part", "_law_power"] 2 spPright := by
  refine df_of (k := 1) a sc_pright (fun _ _ _ _ _ _ us hl => match us, hl with | [_, _], _ => rfl) (fun vs H Q E h => ?_) (fun f cdv A outer s H vs Q E hr h => ?_)
  · obtain ⟨m, c, rfl, _⟩ := h; rfl
  obtain ⟨m, c, rfl, hmc, q⟩ := h
  have sc := sc_pright
  have hsl := hsl
  have hm40 : m ≤ 40 ∧ c ≤ 4 ∧ 1 ≤ m := by omega
  have hpow : 2 * m + 1 = 3 ^ c := by rcases hmc with ⟨rfl, rfl⟩ | ⟨rfl, rfl⟩ | ⟨rfl, rfl⟩ | ⟨rfl, rfl⟩ <;> rfl
  refine ⟨_, (pss_cons (ps_set (i := 2) sc.nd rfl (by first | exact Or.inl rfl | exact Or.inr rfl) (pe_cd D_law_rings hr rfl (pa_cons (pe_cd D_weave_order hr rfl (pa_cons (pv 0) (pa_cons pe_int pa_nil))) pa_nil)))
    (pss_cons (ps_par (i := 5) (j := 6) rfl sc.nd rfl rfl (by decide) rfl rfl (pa_cons (pe_lst pa_nil) (pa_cons (pe_lst pa_nil) pa_nil)) rfl)
    (pss_cons (ps_set (i := 3) sc.nd rfl (by first | exact Or.inl rfl | exact Or.inr rfl) pe_int)
    (pss_cons (ps_for PassesOwn.never rfl (pi_range1 rfl B.range (pa_cons (pv 1) pa_nil)) (pg_name (i := 4) sc.nd rfl (by first | exact Or.inl rfl | exact Or.inr rfl)) (pss_cons (ps_expr (pe_bm PySem.F.plainAttrs_list PySem.F.slot_list_append PySem.F.type_list_append mr_append (pv 5) (pa_cons (pe_op op_sub (pv 3) pe_int) pa_nil)))
    (pss_cons (ps_expr (pe_bm PySem.F.plainAttrs_list PySem.F.slot_list_insert PySem.F.type_list_insert mr_insert (pv 6) (pa_cons pe_int (pa_cons (pe_op op_mul pe_int (pv 3)) pa_nil))))
    (pss_one (ps_set (i := 3) sc.nd rfl (by first | exact Or.inl rfl | exact Or.inr rfl) (pe_op op_mul pe_int (pv 3)))))))
    (pss_one (ps_ret (pe_and (pe_cmpR (op_eqI hr.units) (pe_comp (ts := [7]) rfl rfl (pi_list (pv 2)) (fun _ _ _ _ => (pg_name (i := 7) sc.nd rfl (by first | exact Or.inl rfl | exact Or.inr rfl))) (fun _ _ _ _ => pif_nil) (fun _ _ _ _ => (pe_ix (ix_listK (K := K) rfl) (pv 7) pe_int (fun _ _ => rfl)))) (pv 5) (nomark _)) (pe_one (pe_cmpR (op_eqI hr.units) (pe_comp (ts := [7]) rfl rfl (pi_list (pv 2)) (fun _ _ _ _ => (pg_name (i := 7) sc.nd rfl (by first | exact Or.inl rfl | exact Or.inr rfl))) (fun _ _ _ _ => pif_nil) (fun _ _ _ _ => (pe_callB (call_len_seqK (K := K) rfl) rfl B.len bt_len (pa_cons (pv 7) pa_nil)))) (pv 6) (nomark _)))))))))), ?_⟩
  rw [show start ["_law_part", "_law_power", "_law_found", "_law_one", "_law_k", "_law_firsts", "_law_longs", "_law_ring"] [V.int m, V.int c] = [some (.int m), some (.int c), none, none, none, none, none, none] from rfl]
  walk_at "rd"
  have oo := wovO_ord (m := m) (f := 1) (by omega)
  refine ⟨m, 1, rfl, by omega, by omega, fun po H1 k1 hpo ho => ?_⟩
  refine ⟨po, 2 * m, wovO m 1, rfl, SqL.of ho, oo, by omega, fun pr H2 rs k2 hpr hr2 hrr er => ?_⟩
  refine ⟨Nat.zero_le _, fun pf hpf => ⟨Nat.zero_le _, fun pg hpg => ⟨by omega, by omega, ?_⟩⟩⟩
  have kf := Kp.new (bs := []) (HO.lst []) hpf
  have kg := Kp.new (bs := []) (HO.lst []) hpg
  have hfF := kg _ _ (by simp) (upd_same (H := H2) (a := pf) (o := HO.lst []))
  have hgF := upd_same (H := upd H2 pf (HO.lst [])) (a := pg) (o := HO.lst [])
  have nfg : pf ≠ pg := ne_of_none (upd_same (H := H2) (a := pf) (o := HO.lst [])) hpg
  have npg2 : H2 pg = none := kf.free hpg
  have kfg := kf.trans kg
  generalize upd (upd H2 pf (HO.lst [])) pg (HO.lst []) = H3 at *
  rw [Int.toNat_natCast]
  refine lp_range (fun i τ G => ∃ (y4 y7 : Option V), τ = [some (.int m), some (.int c), some (.ref pr), some (.int ((3 ^ i : Nat) : Int)), y4, some (.ref pf), some (.ref pg), y7] ∧ Kp [pf, pg] H3 G ∧ G pf = some (il ((List.range i).map fun j => ((3 ^ j - 1 : Nat) : Int))) ∧ G pg = some (il (lgL i))) ?_ ?_ ?_
  · exact ⟨none, none, rfl, Kp.refl, hfF, hgF⟩
  · rintro i τ G hi ⟨y4, y7, rfl, kq, h5, h6⟩
    have hp0 : 0 < 3 ^ i := Nat.pow_pos (by decide)
    have hp1 : 3 ^ i ≤ 3 ^ 4 := Nat.pow_le_pow_right (by decide) (by omega)
    have hp2 : 3 ^ (i + 1) = 3 ^ i * 3 := Nat.pow_succ ..
    walk_at "rd"
    have lg : (lgL i).length = i := by
      clear h6 h5
      induction i with
      | zero => rfl
      | succ i ih => show (lgL i).length + 1 = _; rw [ih (by omega) (Nat.pow_pos (by decide)) (Nat.pow_le_pow_right (by decide) (by omega)) (Nat.pow_succ ..)]
    have hgN : ∀ o, upd G pf o pg = some (il (lgL i)) := fun o => (upd_ne (Ne.symm nfg)).trans h6
    refine ⟨.inl ⟨rfl, _, SqL.of h5⟩, _, h5, by rw [List.length_map, List.length_map, List.length_range]; omega, .inl ⟨rfl, _, SqL.of (hgN _)⟩, cmul_l (by decide) (by decide), _, hgN _, by omega, by omega, by rw [List.length_map, lg]; omega, cmul_l (by decide) (by decide), by rw [hp2]; push_cast; omega, (kq.trans (Kp.set _ (by simp))).trans (Kp.set _ (by simp)), (upd_ne nfg).trans (upd_same.trans (congrArg some (congrArg HO.lst ?_))), upd_same.trans (congrArg some (congrArg HO.lst ?_))⟩
    · rw [List.range_succ, List.map_append, List.map_append]
      congr 1
      show [V.int (((3 ^ i : Nat) : Int) - 1)] = [V.int ((3 ^ i - 1 : Nat) : Int)]
      rw [Int.ofNat_sub hp0]; rfl
    · show V.int (2 * ((3 ^ i : Nat) : Int)) :: (lgL i).map V.int = (lgL (i + 1)).map V.int
      show _ = V.int (2 * 3 ^ i) :: (lgL i).map V.int
      push_cast
      rfl
  · rintro τ G ⟨y4, y7, rfl, kq, h5, h6⟩
    walk_at "rd"
    have nrf : ∀ r ∈ rs, r.1 ∉ [pf, pg] := fun r hr => by
      have h0 := (hrr r hr).2.2
      have a1 := ne_of_none h0 hpf
      have a2 := ne_of_none h0 npg2
      simp [a1, a2]
    have npr : pr ∉ [pf, pg] := by
      have a1 := ne_of_none hr2 hpf
      have a2 := ne_of_none hr2 npg2
      simp [a1, a2]
    have hprG := kq _ _ npr (kfg _ _ (by simp) hr2)
    have hrG : ∀ r ∈ rs, G r.1 = some (il r.2) := fun r hr => kq _ _ (nrf r hr) (kfg _ _ (by simp) (hrr r hr).2.2)
    have lrs : rs.length ≤ 1000 := by
      have h1 := ringsL_len (wovO m 1) (2 * m)
      rw [← er, List.length_map] at h1
      omega
    have hne : ∀ r ∈ rs, 2 ≤ r.2.length ∧ r.2.length ≤ 1000 := fun r hr => by
      have := ringsL_mem oo (Nat.le_refl _) (r := r.2) (by rw [← er]; exact List.mem_map_of_mem hr)
      omega
    have erf : rs.map (fun r => r.2.getD 0 0) = (List.range c).map fun j => ((3 ^ j - 1 : Nat) : Int) := by
      have e1 : rs.map (fun r => r.2.getD 0 0) = (ringsL (wovO m 1) (2 * m)).map fun r => r.getD 0 0 := by rw [← er, List.map_map]; rfl
      rw [e1, wov_rings hmc, List.map_map]
      refine List.map_congr_left fun j hj => ?_
      have hj := List.mem_range.mp hj
      have hlt : 3 ^ j < 3 ^ c := Nat.pow_lt_pow_right (by decide) hj
      have hp0 : 0 < 3 ^ j := Nat.pow_pos (by decide)
      exact ringOf_head oo (by omega)
    have erl : rs.map (fun r => (r.2.length : Int)) = lgL c := by
      have e1 : rs.map (fun r => (r.2.length : Int)) = (ringsL (wovO m 1) (2 * m)).map fun r => (r.length : Int) := by rw [← er, List.map_map]; rfl
      rw [e1, wov_rings hmc, lg_lens hmc]
    refine ⟨⟨_, SqL.of hprG⟩, fun D hD => ?_⟩
    refine cl_list (xs := rfs rs) (fun j τ F => ∃ u, τ = [some (.int m), some (.int c), some (.ref pr), some (.int ((3 ^ c : Nat) : Int)), y4, some (.ref pf), some (.ref pg), u] ∧ Kp [D] (upd G D (.lst [])) F ∧ F D = some (il ((rs.take j).map fun r => r.2.getD 0 0))) ?_ ?_ ?_ ?_
    · exact ⟨none, rfl, Kp.refl, upd_same⟩
    · rintro j τ F _ ⟨u, rfl, kd, hd⟩
      exact SqL.of ((Kp.drop1 hD kd) _ _ (by simp) hprG)
    · rintro j x τ F hx ⟨u, rfl, kd, hd⟩
      obtain ⟨y, hm, e', rfl⟩ := rfs_at hx
      have htk : rs.take (j + 1) = rs.take j ++ [y] := by rw [List.take_add_one, e']; rfl
      have g0 : atI (y.2.map V.int) 0 = some (.int (y.2.getD 0 0)) := (get_map_int (cs := y.2) (k := 0) (by decide) (by have := (hne y hm).1; omega)).2
      walk_at "rd"
      refine ⟨_, SqL.of ((Kp.drop1 hD kd) _ _ (by simp) (hrG y hm)), _, g0, _, hd, by rw [List.length_map, List.length_map, List.length_take]; omega, kd.trans (Kp.set _ (by simp)), ?_⟩
      rw [htk, List.map_append]
      exact upd_same.trans (congrArg some (congrArg HO.lst (by rw [List.map_append]; rfl)))
    · rintro τ F ⟨u, rfl, kd, hd⟩
      rw [rfs_len, List.take_length, erf] at hd
      have kD := Kp.drop1 hD kd
      refine ⟨D, rfl, _, SqL.of hd, _, SqL.of (kD _ _ (by simp) h5), ?_⟩
      rw [if_pos (by simp)]
      refine ⟨⟨_, SqL.of (kD _ _ (by simp) hprG)⟩, fun D2 hD2 => ?_⟩
      refine cl_list (xs := rfs rs) (fun j τ F2 => ∃ u, τ = [some (.int m), some (.int c), some (.ref pr), some (.int ((3 ^ c : Nat) : Int)), y4, some (.ref pf), some (.ref pg), u] ∧ Kp [D2] (upd F D2 (.lst [])) F2 ∧ F2 D2 = some (il ((rs.take j).map fun r => (r.2.length : Int)))) ?_ ?_ ?_ ?_
      · exact ⟨none, rfl, Kp.refl, upd_same⟩
      · rintro j τ F2 _ ⟨u, rfl, kd2, hd2⟩
        exact SqL.of ((Kp.drop1 hD2 kd2) _ _ (by simp) (kD _ _ (by simp) hprG))
      · rintro j x τ F2 hx ⟨u, rfl, kd2, hd2⟩
        obtain ⟨y, hm, e', rfl⟩ := rfs_at hx
        have htk : rs.take (j + 1) = rs.take j ++ [y] := by rw [List.take_add_one, e']; rfl
        walk_at "rd"
        refine ⟨_, .inl (SqL.of ((Kp.drop1 hD2 kd2) _ _ (by simp) (kD _ _ (by simp) (hrG y hm)))), _, hd2, by rw [List.length_map, List.length_map, List.length_take]; omega, kd2.trans (Kp.set _ (by simp)), ?_⟩
        rw [htk, List.map_append]
        exact upd_same.trans (congrArg some (congrArg HO.lst (by rw [List.map_append, List.length_map]; rfl)))
      · rintro τ F2 ⟨u, rfl, kd2, hd2⟩
        rw [rfs_len, List.take_length, erl] at hd2
        have kD2 := Kp.drop1 hD2 kd2
        refine ⟨D2, rfl, _, SqL.of hd2, _, SqL.of ((kD.trans kD2) _ _ (by simp) h6), ?_⟩
        rw [show id (decide (lgL c = lgL c)) = true by simp]
        refine q _ ?_
        have kG : Kp [pf, pg] H G := (((k1.trans k2).trans kfg).mono (by simp)).trans kq
        have n1 : H pf = none := (k1.trans k2).free hpf
        have n2 : H pg = none := (k1.trans k2).free npg2
        exact (Kp.un (Kp.un kG n1) n2).trans (kD.trans kD2)
theorem getD_toNat (r : List Int) (k : Nat) : (r.map Int.toNat).getD k 0 = (r.getD k 0).toNat := by
  rw [List.getD_eq_getElem?_getD, List.getD_eq_getElem?_getD, List.getElem?_map]
  cases r[k]? <;> rfl
theorem mv_dd : ∀ (ps : List Int) (g : Int), 0 ≤ g → (∀ x ∈ ps, 0 ≤ x) → mvl g ps = (mvP g.toNat (ps.map Int.toNat)).map ddV
  | [], _, _, _ => rfl
  | p :: ps, g, hg, hp => by
    have h0 := hp p (by simp)
    show [wMove, V.int p, V.int g] :: mvl p ps = [wMove, V.int ((p.toNat : Nat) : Int), V.int ((g.toNat : Nat) : Int)] :: (mvP p.toNat (ps.map Int.toNat)).map ddV
    rw [mv_dd ps p h0 fun x hx => hp x (by simp [hx]), Int.toNat_of_nonneg h0, Int.toNat_of_nonneg hg]
theorem last_toNat (g : Int) (l : List Int) : (l.map Int.toNat).getLastD g.toNat = (lastD g l).toNat := by
  unfold lastD
  rw [List.getLastD_eq_getLast?, List.getLastD_eq_getLast?, List.getLast?_map]
  cases l.getLast? <;> rfl
theorem ring_dd {r : List Int} (hr : 1 ≤ r.length) (h : ∀ x ∈ r, 0 ≤ x) : rdL r = (ringP (r.map Int.toNat)).map ddV := by
  have g0 : 0 ≤ r.getD 0 0 := by rw [getD_eq (by omega)]; exact h _ (List.getElem_mem _)
  have hps : ∀ x ∈ (r.drop 1).reverse, 0 ≤ x := fun x hx => h x (List.mem_of_mem_drop (List.mem_reverse.mp hx))
  have hl : 0 ≤ lastD (r.getD 0 0) (r.drop 1).reverse := by
    unfold lastD
    rw [List.getLastD_eq_getLast?]
    cases e : (r.drop 1).reverse.getLast? with
    | none => exact g0
    | some y => exact hps y (List.mem_of_getLast? e)
  unfold rdL ringP
  rw [← List.map_drop, ← List.map_reverse, getD_toNat, mv_dd _ _ g0 hps, last_toNat, List.map_append]
  show ([wTake, V.int (r.getD 0 0)] :: _) ++ [[wLay, V.int _]] = ([wTake, V.int (((r.getD 0 0).toNat : Nat) : Int)] :: _) ++ [[wLay, V.int (((lastD (r.getD 0 0) (r.drop 1).reverse).toNat : Nat) : Int)]]
  rw [Int.toNat_of_nonneg g0, Int.toNat_of_nonneg hl]
theorem rings_dd {n : Nat} {os : List Int} (h : IsOrd n os) : brL os n = (ringsP os n).map ddV := by
  unfold brL ringsP
  rw [List.map_flatten, List.map_map]
  congr 1
  refine List.map_congr_left fun r hr => ?_
  have hl := ringsL_mem h (Nat.le_refl n) hr
  exact ring_dd (by omega) fun x hx => (ring_bd h hr x hx).1
theorem xp_br {n b L : Nat} {OS os : List Int} (h : Stretch n b L OS os) : xpL b os L = brL OS n := by
  unfold xpL brL
  rw [h.rings, List.map_map]
  rfl
def stL (n b L : Nat) (os : List Int) : List Int := (List.range n).map fun p => if b ≤ p ∧ p < b + L then (b : Int) + os.getD (p - b) 0 else (p : Int)
theorem stL_len (n b L : Nat) (os : List Int) : (stL n b L os).length = n := by simp [stL]
theorem stL_get {n b L : Nat} {os : List Int} {p : Nat} (h : p < n) : (stL n b L os).getD p 0 = if b ≤ p ∧ p < b + L then (b : Int) + os.getD (p - b) 0 else (p : Int) := by
  rw [getD_eq (by rw [stL_len]; exact h)]; simp [stL]
theorem stL_ok {n b L : Nat} {os : List Int} (ho : IsOrd L os) (hf : b + L ≤ n) : Stretch n b L (stL n b L os) os := by
  refine ⟨isOrd_of (stL_len n b L os) (fun i hi => ?_) (fun i k hi hk e => ?_), ho, hf, fun p hp z => ?_, fun t ht => ?_⟩
  · rw [stL_get hi]
    split
    · have := ho.getD (i := i - b) (by omega)
      omega
    · omega
  · rw [stL_get hi, stL_get hk] at e
    split at e <;> split at e
    · have := ho.inj (i := i - b) (j := k - b) (by omega) (by omega) (by omega)
      omega
    · have := ho.getD (i := i - b) (by omega)
      omega
    · have := ho.getD (i := k - b) (by omega)
      omega
    · omega
  · rw [stL_get hp, if_neg (by omega)]
  · rw [stL_get (by omega), if_pos (by omega), show b + t - b = t by omega]
theorem do_nat (f : Int → Int) {d : Dd} {s t : RS} (h : Do d s t) (mv : List Int) : ∃ mv', Do d (s.1.map (Option.map f), s.2.1.map f, mv) (t.1.map (Option.map f), t.2.1.map f, mv') := by
  cases h with
  | @take p row m x hp =>
    refine ⟨inc mv (f x), ?_⟩
    have := Do.take (p := p) (row := row.map (Option.map f)) (mv := mv) (x := f x) (by rw [List.getElem?_map, hp]; rfl)
    show Do _ _ ((row.set p none).map (Option.map f), _, _)
    rw [List.map_set]; exact this
  | @move p g row hh m x hp hg =>
    refine ⟨inc mv (f x), ?_⟩
    have := Do.move (p := p) (g := g) (row := row.map (Option.map f)) (h := hh.map f) (mv := mv) (x := f x) (by rw [List.getElem?_map, hp]; rfl) (by rw [List.getElem?_map, hg]; rfl)
    show Do _ _ (((row.set p none).set g (some x)).map (Option.map f), _, _)
    rw [List.map_set, List.map_set]; exact this
  | @lay g row m x hg =>
    refine ⟨inc mv (f x), ?_⟩
    have := Do.lay (g := g) (row := row.map (Option.map f)) (mv := mv) (x := f x) (by rw [List.getElem?_map, hg]; rfl)
    show Do _ _ ((row.set g (some x)).map (Option.map f), _, _)
    rw [List.map_set]; exact this
theorem dos_nat (f : Int → Int) {l : List Dd} {s t : RS} (h : Dos l s t) : ∀ mv : List Int, ∃ mv', Dos l (s.1.map (Option.map f), s.2.1.map f, mv) (t.1.map (Option.map f), t.2.1.map f, mv') := by
  induction h with
  | nil => exact fun mv => ⟨mv, .nil⟩
  | cons d _ ih =>
    intro mv
    obtain ⟨m1, h1⟩ := do_nat f d mv
    obtain ⟨m2, h2⟩ := ih m1
    exact ⟨m2, .cons h1 h2⟩
theorem seg_do {n b L : Nat} {OS os : List Int} (h : Stretch n b L OS os) {row : List Int} (hl : row.length = n) (mv : List Int) :
    ∃ row' mv' : List Int, Dos (ringsP OS n) (row.map some, none, mv) (row'.map some, none, mv') ∧ row'.length = n ∧ ∀ p, p < n → row'.getD (OS.getD p 0).toNat 0 = row.getD p 0 := by
  have hdo := rings_do h.ord (List.replicate n 0) n (Nat.le_refl n)
  obtain ⟨mv', hd⟩ := dos_nat (fun x => row.getD x.toNat 0) hdo mv
  have e1 : (rngL 0 1 n).map (fun x => row.getD x.toNat 0) = row := ext_getD (by rw [List.length_map, rngL_length, hl]) fun i hi => by
    rw [List.length_map, rngL_length] at hi
    rw [getD_eq (by rw [List.length_map, rngL_length]; exact hi), List.getElem_map, ← getD_eq (by rw [rngL_length]; exact hi), rngL_getD n hi, Int.toNat_natCast]
  have e2 : ∀ R : List Int, (R.map some).map (Option.map fun x => row.getD x.toNat 0) = (R.map fun x => row.getD x.toNat 0).map some := fun R => by rw [List.map_map, List.map_map]; rfl
  refine ⟨(swR (rngL 0 1 n) (starL OS n)).map (fun x => row.getD x.toNat 0), mv', ?_, by rw [List.length_map, swR_len, rngL_length], fun p hp => ?_⟩
  · rw [← e2, show row.map some = ((rngL 0 1 n).map some).map (Option.map fun x => row.getD x.toNat 0) by rw [e2, e1]]
    exact hd
  · have gb := h.ord.getD (i := p) hp
    have hlt : (OS.getD p 0).toNat < (swR (rngL 0 1 n) (starL OS n)).length := by rw [swR_len, rngL_length]; omega
    rw [getD_eq (by rw [List.length_map]; exact hlt), List.getElem_map, ← getD_eq hlt, star_all h.ord hp, Int.toNat_natCast]
/-- what stands at a place p while l of each half are still to be woven, from b on -/
def rowI (n b l p : Nat) (v : Int) : Prop := (p < b ∧ 2 * v + 1 = p) ∨ (p < b ∧ 2 * v = 2 * n + p) ∨ (b ≤ p ∧ p < b + l ∧ v + l + b = n + p) ∨ (b + l ≤ p ∧ v + 2 * l + b = 2 * n + p)
theorem pre1 {n b l m : Nat} (hm : 0 < m) (hml : m ≤ l) (hn : b + 2 * l = 2 * n) {p2 : Nat} (hp : p2 < 2 * n) : ∃ p1, p1 < 2 * n ∧ ((stL (2 * n) (b + m) l (rollL l (m : Int))).getD p1 0).toNat = p2 ∧
    ((p1 = p2 ∧ (p2 < b + m ∨ b + m + l ≤ p2)) ∨ (b + m ≤ p2 ∧ p2 < b + 2 * m ∧ p1 = p2 + (l - m)) ∨ (b + 2 * m ≤ p2 ∧ p2 < b + m + l ∧ p1 = p2 - m)) := by
  by_cases c1 : p2 < b + m ∨ b + m + l ≤ p2
  · refine ⟨p2, hp, ?_, .inl ⟨rfl, c1⟩⟩
    rw [stL_get hp, if_neg (by omega), Int.toNat_natCast]
  · by_cases c2 : p2 < b + 2 * m
    · refine ⟨p2 + (l - m), by omega, ?_, .inr (.inl ⟨by omega, c2, rfl⟩)⟩
      rw [stL_get (by omega), if_pos (by omega), rollL_get (by omega), ← Int.sub_emod_right, Int.emod_eq_of_lt (by omega) (by omega)]
      omega
    · refine ⟨p2 - m, by omega, ?_, .inr (.inr ⟨by omega, by omega, rfl⟩)⟩
      rw [stL_get (by omega), if_pos (by omega), rollL_get (by omega), Int.emod_eq_of_lt (by omega) (by omega)]
      omega
theorem pre2 {n b m : Nat} (hn : b + 2 * m ≤ 2 * n) {q : Nat} (hq : q < 2 * n) : ∃ p2, p2 < 2 * n ∧ ((stL (2 * n) b (2 * m) (wovO m 1)).getD p2 0).toNat = q ∧
    ((p2 = q ∧ (q < b ∨ b + 2 * m ≤ q)) ∨ (b ≤ q ∧ q < b + 2 * m ∧ 2 * p2 + 1 = b + q) ∨ (b ≤ q ∧ q < b + 2 * m ∧ 2 * p2 = b + 2 * m + q)) := by
  by_cases c1 : q < b ∨ b + 2 * m ≤ q
  · refine ⟨q, hq, ?_, .inl ⟨rfl, c1⟩⟩
    rw [stL_get hq, if_neg (by omega), Int.toNat_natCast]
  · by_cases c2 : (q - b) % 2 = 1
    · refine ⟨b + (q - b) / 2, by omega, ?_, .inr (.inl ⟨by omega, by omega, by omega⟩)⟩
      rw [stL_get (by omega), if_pos (by omega), wovO_get (by omega), if_pos (by omega)]
      omega
    · refine ⟨b + m + (q - b) / 2, by omega, ?_, .inr (.inr ⟨by omega, by omega, by omega⟩)⟩
      rw [stL_get (by omega), if_pos (by omega), wovO_get (by omega), if_neg (by omega)]
      omega
theorem rowI_step {n b l m : Nat} (hm : 0 < m) (hml : m ≤ l) (hb : b + 2 * l = 2 * n) {q p2 p1 : Nat} {v : Int} (hq : q < 2 * n)
    (h2 : (p2 = q ∧ (q < b ∨ b + 2 * m ≤ q)) ∨ (b ≤ q ∧ q < b + 2 * m ∧ 2 * p2 + 1 = b + q) ∨ (b ≤ q ∧ q < b + 2 * m ∧ 2 * p2 = b + 2 * m + q))
    (h1 : (p1 = p2 ∧ (p2 < b + m ∨ b + m + l ≤ p2)) ∨ (b + m ≤ p2 ∧ p2 < b + 2 * m ∧ p1 = p2 + (l - m)) ∨ (b + 2 * m ≤ p2 ∧ p2 < b + m + l ∧ p1 = p2 - m)) (h : rowI n b l p1 v) : rowI n (b + 2 * m) (l - m) q v := by
  obtain ⟨r, rfl⟩ : ∃ r, l = m + r := ⟨l - m, by omega⟩
  rw [show m + r - m = r by omega] at *
  unfold rowI at *
  rcases h2 with ⟨e2, c2⟩ | ⟨a1, a2, e2⟩ | ⟨a1, a2, e2⟩
  · rcases c2 with c2 | c2
    · rcases h1 with ⟨e1, _⟩ | h1 | h1
      · omega
      · omega
      · omega
    · rcases h1 with ⟨e1, _⟩ | h1 | ⟨b1, b2, e1⟩
      · exact .inr (.inr (.inr (by omega)))
      · omega
      · exact .inr (.inr (.inl (by omega)))
  · rcases h1 with ⟨e1, _⟩ | h1 | h1
    · exact .inl (by omega)
    · omega
    · omega
  · rcases h1 with ⟨e1, _⟩ | ⟨b1, b2, e1⟩ | h1
    · omega
    · exact .inr (.inl (by omega))
    · omega
theorem wp_do {n : Nat} (l : Nat) : l ≤ n → l ≤ 100 → ∃ dl : List Dd, wpP (2 * (n - l)) l = dl.map ddV ∧ ∀ (row mv : List Int), row.length = 2 * n → (∀ p, p < 2 * n → rowI n (2 * (n - l)) l p (row.getD p 0)) →
    ∃ row' mv' : List Int, Dos dl (row.map some, none, mv) (row'.map some, none, mv') ∧ row'.length = 2 * n ∧ ∀ p, p < 2 * n → rowI n (2 * n) 0 p (row'.getD p 0) := by
  induction l using Nat.strongRecOn with
  | _ l ih =>
    intro hl h100
    rcases Nat.eq_zero_or_pos l with z | z
    · subst z
      exact ⟨[], by rw [wpP_zero]; rfl, fun row mv h1 h2 => ⟨row, mv, .nil, h1, h2⟩⟩
    · have h1 := best_pos l
      have h2 := best_le z
      have hbc := best_cnt h100
      have S1 := stL_ok (n := 2 * n) (b := 2 * (n - l) + best l) (rollL_ord l (best l : Int)) (by omega)
      have S2 := stL_ok (n := 2 * n) (b := 2 * (n - l)) (wovO_ord (m := best l) (f := 1) (by omega)) (by omega)
      obtain ⟨dl, ed, hd⟩ := ih (l - best l) (by omega) (by omega) (by omega)
      rw [show 2 * (n - (l - best l)) = 2 * (n - l) + 2 * best l by omega] at ed
      refine ⟨ringsP (stL (2 * n) (2 * (n - l) + best l) l (rollL l (best l : Int))) (2 * n) ++ ringsP (stL (2 * n) (2 * (n - l)) (2 * best l) (wovO (best l) 1)) (2 * n) ++ dl, ?_, fun row mv hlen hrow => ?_⟩
      · rw [wpP_pos z, ed, xp_br S1, rwL_xp hbc, xp_br S2, rings_dd S1.ord, rings_dd S2.ord, List.map_append, List.map_append]
      · obtain ⟨r1, m1, d1, l1, g1⟩ := seg_do S1 hlen mv
        obtain ⟨r2, m2, d2, l2, g2⟩ := seg_do S2 l1 m1
        obtain ⟨r3, m3, d3, l3, g3⟩ := hd r2 m2 l2 fun q hq => by
          rw [show 2 * (n - (l - best l)) = 2 * (n - l) + 2 * best l by omega]
          obtain ⟨p2, hp2, e2, c2⟩ := pre2 (n := n) (b := 2 * (n - l)) (m := best l) (by omega) hq
          obtain ⟨p1, hp1, e1, c1⟩ := pre1 (n := n) (b := 2 * (n - l)) (l := l) (m := best l) (by omega) h2 (by omega) hp2
          have x2 := g2 p2 hp2
          have x1 := g1 p1 hp1
          rw [e2] at x2
          rw [e1] at x1
          rw [x2, x1]
          exact rowI_step (by omega) h2 (by omega) hq c2 c1 (hrow p1 hp1)
        exact ⟨r3, m3, (d1.append d2).append d3, l3, g3⟩
theorem weave_does {n : Nat} (hn : n ≤ 100) : ∃ (dl : List Dd) (mv : List Int), wpP 0 n = dl.map ddV ∧ Dos dl ((rngL 0 1 (2 * n)).map some, none, List.replicate (2 * n) 0) ((wovR n 1).map some, none, mv) := by
  obtain ⟨dl, ed, hd⟩ := wp_do (n := n) n (Nat.le_refl n) hn
  rw [show 2 * (n - n) = 0 by omega] at ed
  obtain ⟨r, mv, d, l, g⟩ := hd (rngL 0 1 (2 * n)) (List.replicate (2 * n) 0) (rngL_length ..) fun p hp => by
    rw [rngL_getD (2 * n) hp]
    unfold rowI
    omega
  refine ⟨dl, mv, ed, ?_⟩
  have e : r = wovR n 1 := ext_getD (by rw [l, wovR_len]) fun i hi => by
    have gi := g i (by omega)
    unfold rowI at gi
    rw [wovR_get (by omega)]
    split <;> omega
  rw [← e]
  exact d
theorem seq_cut {X rest : TS} {D : Ends} {σ : L2.St} {H : Hp} (h : ∀ r, r = rest → tSeq X r D σ H) : tSeq X rest D σ H := h rest rfl
abbrev s_done : Stmt := top 22
theorem sc_done : FnScope ["_law_row", "_law_hand", "_law_deed", "_law_one", "_law_other"] ["_law_row", "_law_hand", "_law_deed"] (defScope s_done) := ⟨rfl, rfl, rfl, by decide +kernel, rfl, by decide +kernel, by decide +kernel⟩
def spDone : Sp := fun vs H Q _ => ∃ (a b : Addr) (d : Dd) (st st' : RS), vs = [.ref a, cV st.2.1, .ref b] ∧ H a = some (.lst (st.1.map cV)) ∧ H b = some (.tup (ddV d)) ∧ Do d st st' ∧ st.1.length ≤ 1000 ∧
  ∀ t p H', Kp [] H H' → H' t = some (.tup [.ref p, cV st'.2.1]) → H' p = some (.lst (st'.1.map cV)) → Q (.ref t) H'
theorem df_done (a : At K mg "_law_done" s_done) (B : Blt mg) : Df P w K mg base "_law_done" ["_law_row", "_law_hand", "_law_deed"] 1 spDone := by
  refine df_of (k := 0) a sc_done (fun _ _ _ _ _ _ us hl => match us, hl with | [_, _, _], _ => rfl) (fun vs H Q E h => ?_) (fun f cdv A outer s H vs Q E hr h => ?_)
  · obtain ⟨a, b, d, st, st', rfl, _⟩ := h; rfl
  obtain ⟨a, b, d, st, st', rfl, ha, hb, hdo, hl, q⟩ := h
  have sc := sc_done
  have hsl := hsl
  refine ⟨_, (pss_cons (ps_set (i := 0) sc.nd rfl (by first | exact Or.inl rfl | exact Or.inr rfl) (pe_callTy call_list_of rfl B.list bt_list (pa_cons (pv 0) pa_nil)))
    (pss_cons (ps_if (pt_cmpR op_eq (pe_ix ix_tup (pv 2) pe_int (fun _ _ => rfl)) pe_str (nomark _)) (pss_cons (ps_par (i := 3) (j := 4) rfl sc.nd rfl rfl (by decide) rfl rfl (pa_cons (pe_ix ix_list (pv 0) (pe_ix ix_tup (pv 2) pe_int (fun _ _ => rfl)) (fun _ _ => rfl)) (pa_cons (pe_ix ix_list (pv 0) (pe_ix ix_tup (pv 2) pe_int (fun _ _ => rfl)) (fun _ _ => rfl)) pa_nil)) rfl)
    (pss_one (ps_asg (pe_tup (pa_cons (pv 4) (pa_cons (pv 3) pa_nil))) (pg_tupK (K := K) 2 rfl rfl (pgs_cons (pg_sub (pv 0) (pe_ix ix_tup (pv 2) pe_int (fun _ _ => rfl)) set_listO) (pgs_cons (pg_sub (pv 0) (pe_ix ix_tup (pv 2) pe_int (fun _ _ => rfl)) set_listO) pgs_nil)))))) pss_nil)
    (pss_cons (ps_if (pt_cmpR op_eq (pe_ix ix_tup (pv 2) pe_int (fun _ _ => rfl)) pe_str (nomark _)) (pss_one (ps_asg (pe_tup (pa_cons pe_non (pa_cons (pe_ix ix_list (pv 0) (pe_ix ix_tup (pv 2) pe_int (fun _ _ => rfl)) (fun _ _ => rfl)) pa_nil))) (pg_tupK (K := K) 2 rfl rfl (pgs_cons (pg_sub (pv 0) (pe_ix ix_tup (pv 2) pe_int (fun _ _ => rfl)) set_listO) (pgs_cons (pg_name (i := 1) sc.nd rfl (by first | exact Or.inl rfl | exact Or.inr rfl)) pgs_nil))))) pss_nil)
    (pss_cons (ps_if (pt_cmpR op_eq (pe_ix ix_tup (pv 2) pe_int (fun _ _ => rfl)) pe_str (nomark _)) (pss_one (ps_asg (pe_tup (pa_cons pe_non (pa_cons (pe_ix ix_list (pv 0) (pe_ix ix_tup (pv 2) pe_int (fun _ _ => rfl)) (fun _ _ => rfl)) pa_nil))) (pg_tupK (K := K) 2 rfl rfl (pgs_cons (pg_sub (pv 0) (pe_ix ix_tup (pv 2) pe_int (fun _ _ => rfl)) set_listO) (pgs_cons (pg_sub (pv 0) (pe_ix ix_tup (pv 2) pe_int (fun _ _ => rfl)) set_listO) pgs_nil))))) pss_nil)
    (pss_cons (ps_if (pt_cmpR op_eq (pe_ix ix_tup (pv 2) pe_int (fun _ _ => rfl)) pe_str (nomark _)) (pss_one (ps_asg (pe_tup (pa_cons (pv 1) (pa_cons pe_non pa_nil))) (pg_tupK (K := K) 2 rfl rfl (pgs_cons (pg_sub (pv 0) (pe_ix ix_tup (pv 2) pe_int (fun _ _ => rfl)) set_listO) (pgs_cons (pg_name (i := 1) sc.nd rfl (by first | exact Or.inl rfl | exact Or.inr rfl)) pgs_nil))))) pss_nil)
    (pss_one (ps_ret (pe_tup (pa_cons (pv 0) (pa_cons (pv 1) pa_nil)))))))))), ?_⟩
  rw [show start ["_law_row", "_law_hand", "_law_deed", "_law_one", "_law_other"] [V.ref a, cV st.2.1, V.ref b] = [some (.ref a), some (cV st.2.1), some (.ref b), none, none] from rfl]
  refine seq_cut fun r hr0 => ?_
  walk_at "rd"
  refine ⟨_, .inl (SqL.of ha), fun l hl0 => ?_⟩
  subst hr0
  have kl := Kp.new (bs := []) (HO.lst (st.1.map cV)) hl0
  have hl1 := upd_same (H := H) (a := l) (o := HO.lst (st.1.map cV))
  have hb1 := kl _ _ (by simp) hb
  have nbl : b ≠ l := ne_of_none hb hl0
  generalize upd H l (HO.lst (st.1.map cV)) = H1 at *
  have hnl := hl0
  cases hdo with
  | @take p row mv x hp =>
    obtain ⟨c1, c2⟩ := at_cell hp
    refine seq_cut fun r hr0 => ?_
    walk_at "rd"
    refine ⟨_, SqT.of hb1, _, rfl, rfl, ?_⟩
    rw [if_neg (by show ¬ (V.str (Str.ofString "take") = V.str (Str.ofString "swap")); decide)]
    subst hr0
    refine seq_cut fun r hr0 => ?_
    walk_at "rd"
    refine ⟨_, SqT.of hb1, _, rfl, rfl, ?_⟩
    rw [if_pos rfl]
    refine ⟨_, SqT.of hb1, _, rfl, _, _, rfl, SqL.of hl1, _, c2, by show 2 ≤ sizeLine; omega, fun pt hpt => ?_⟩
    have kt := Kp.new (bs := []) (HO.tup [V.non, cV (some x)]) hpt
    refine ⟨_, SqT.of upd_same, rfl, _, _, rfl, _, SqT.of (kt _ _ (by simp) hb1), _, rfl, _, rfl, _, kt _ _ (by simp) hl1, _, c1, _, _, rfl, rfl, ?_⟩
    subst hr0
    have hl2 := upd_same (H := upd H1 pt (HO.tup [V.non, cV (some x)])) (a := l) (o := HO.lst ((row.map cV).set p V.non))
    have hb2 : upd (upd H1 pt (HO.tup [V.non, cV (some x)])) l (HO.lst ((row.map cV).set p V.non)) b = some (.tup (ddV (.take p))) := (upd_ne nbl).trans (kt _ _ (by simp) hb1)
    have kn := (kt.mono (bs' := [l]) (by simp)).trans (Kp.set (HO.lst ((row.map cV).set p V.non)) (by simp : l ∈ [l]))
    have hl2 := hl2.trans (show _ = some (HO.lst ((row.set p none).map cV)) by rw [List.map_set]; rfl)
    show tSeq _ _ _ _ (upd (upd H1 pt (HO.tup [V.non, cV (some x)])) l (HO.lst ((row.map cV).set p V.non)))
    generalize upd (upd H1 pt (HO.tup [V.non, cV (some x)])) l (HO.lst ((row.map cV).set p V.non)) = H2 at *
    refine seq_cut fun r hr0 => ?_
    walk_at "rd"
    refine ⟨_, SqT.of hb2, _, rfl, rfl, ?_⟩
    rw [if_neg (by show ¬ (V.str (Str.ofString "take") = V.str (Str.ofString "move")); decide)]
    subst hr0
    refine seq_cut fun r hr0 => ?_
    walk_at "rd"
    refine ⟨_, SqT.of hb2, _, rfl, rfl, ?_⟩
    rw [if_neg (by show ¬ (V.str (Str.ofString "take") = V.str (Str.ofString "lay")); decide)]
    subst hr0
    walk_at "rd"
    refine ⟨by show 2 ≤ sizeLine; omega, fun t ht => ?_⟩
    have kt2 := Kp.new (bs := []) (HO.tup [V.ref l, cV (some x)]) ht
    exact q t l _ ((Kp.un ((kl.mono (bs' := [l]) (by simp)).trans kn) hnl).trans kt2) upd_same (kt2 _ _ (by simp) hl2)
  | @move p g row h mv x hp hg =>
    obtain ⟨c1, c2⟩ := at_cell hp
    obtain ⟨g1, g2⟩ := at_cell hg
    refine seq_cut fun r hr0 => ?_
    walk_at "rd"
    refine ⟨_, SqT.of hb1, _, rfl, rfl, ?_⟩
    rw [if_neg (by show ¬ (V.str (Str.ofString "move") = V.str (Str.ofString "swap")); decide)]
    subst hr0
    refine seq_cut fun r hr0 => ?_
    walk_at "rd"
    refine ⟨_, SqT.of hb1, _, rfl, rfl, ?_⟩
    rw [if_neg (by show ¬ (V.str (Str.ofString "move") = V.str (Str.ofString "take")); decide)]
    subst hr0
    refine seq_cut fun r hr0 => ?_
    walk_at "rd"
    refine ⟨_, SqT.of hb1, _, rfl, rfl, ?_⟩
    rw [if_pos rfl]
    refine ⟨_, SqT.of hb1, _, rfl, _, _, rfl, SqL.of hl1, _, c2, by show 2 ≤ sizeLine; omega, fun pt hpt => ?_⟩
    have kt := Kp.new (bs := []) (HO.tup [V.non, cV (some x)]) hpt
    have ig : ixN ((row.map cV).set p V.non).length (g : Int) = some g := by rw [List.length_set]; exact g1
    have hbt := kt _ _ (by simp) hb1
    refine ⟨_, SqT.of upd_same, rfl, _, _, rfl, _, SqT.of hbt, _, rfl, _, rfl, _, kt _ _ (by simp) hl1, _, c1, _, _, rfl, _, SqT.of ((upd_ne nbl).trans hbt), _, rfl, _, rfl, _, upd_same, _, ig, rfl, ?_⟩
    subst hr0
    have hl2 := upd_same (H := upd (upd H1 pt (HO.tup [V.non, cV (some x)])) l (HO.lst ((row.map cV).set p V.non))) (a := l) (o := HO.lst (((row.map cV).set p V.non).set g (cV (some x))))
    have hb2 : upd (upd (upd H1 pt (HO.tup [V.non, cV (some x)])) l (HO.lst ((row.map cV).set p V.non))) l (HO.lst (((row.map cV).set p V.non).set g (cV (some x)))) b = some (.tup (ddV (.move p g))) := (upd_ne nbl).trans ((upd_ne nbl).trans hbt)
    have kn := ((kt.mono (bs' := [l]) (by simp)).trans (Kp.set (HO.lst ((row.map cV).set p V.non)) (by simp : l ∈ [l]))).trans (Kp.set (HO.lst (((row.map cV).set p V.non).set g (cV (some x)))) (by simp : l ∈ [l]))
    have hl2 := hl2.trans (show _ = some (HO.lst (((row.set p none).set g (some x)).map cV)) by rw [List.map_set, List.map_set]; rfl)
    show tSeq _ _ _ _ (upd (upd (upd H1 pt (HO.tup [V.non, cV (some x)])) l (HO.lst ((row.map cV).set p V.non))) l (HO.lst (((row.map cV).set p V.non).set g (cV (some x)))))
    generalize upd (upd (upd H1 pt (HO.tup [V.non, cV (some x)])) l (HO.lst ((row.map cV).set p V.non))) l (HO.lst (((row.map cV).set p V.non).set g (cV (some x)))) = H2 at *
    refine seq_cut fun r hr0 => ?_
    walk_at "rd"
    refine ⟨_, SqT.of hb2, _, rfl, rfl, ?_⟩
    rw [if_neg (by show ¬ (V.str (Str.ofString "move") = V.str (Str.ofString "lay")); decide)]
    subst hr0
    walk_at "rd"
    refine ⟨by show 2 ≤ sizeLine; omega, fun t ht => ?_⟩
    have kt2 := Kp.new (bs := []) (HO.tup [V.ref l, cV h]) ht
    exact q t l _ ((Kp.un ((kl.mono (bs' := [l]) (by simp)).trans kn) hnl).trans kt2) upd_same (kt2 _ _ (by simp) hl2)
  | @lay g row mv x hg =>
    obtain ⟨g1, g2⟩ := at_cell hg
    refine seq_cut fun r hr0 => ?_
    walk_at "rd"
    refine ⟨_, SqT.of hb1, _, rfl, rfl, ?_⟩
    rw [if_neg (by show ¬ (V.str (Str.ofString "lay") = V.str (Str.ofString "swap")); decide)]
    subst hr0
    refine seq_cut fun r hr0 => ?_
    walk_at "rd"
    refine ⟨_, SqT.of hb1, _, rfl, rfl, ?_⟩
    rw [if_neg (by show ¬ (V.str (Str.ofString "lay") = V.str (Str.ofString "take")); decide)]
    subst hr0
    refine seq_cut fun r hr0 => ?_
    walk_at "rd"
    refine ⟨_, SqT.of hb1, _, rfl, rfl, ?_⟩
    rw [if_neg (by show ¬ (V.str (Str.ofString "lay") = V.str (Str.ofString "move")); decide)]
    subst hr0
    refine seq_cut fun r hr0 => ?_
    walk_at "rd"
    refine ⟨_, SqT.of hb1, _, rfl, rfl, ?_⟩
    rw [if_pos rfl]
    refine ⟨by show 2 ≤ sizeLine; omega, fun pt hpt => ?_⟩
    have kt := Kp.new (bs := []) (HO.tup [cV (some x), V.non]) hpt
    have hbt := kt _ _ (by simp) hb1
    refine ⟨_, SqT.of upd_same, rfl, _, _, rfl, _, SqT.of hbt, _, rfl, _, rfl, _, kt _ _ (by simp) hl1, _, g1, _, _, rfl, rfl, ?_⟩
    subst hr0
    have hl2 := upd_same (H := upd H1 pt (HO.tup [cV (some x), V.non])) (a := l) (o := HO.lst ((row.map cV).set g (cV (some x))))
    have kn := (kt.mono (bs' := [l]) (by simp)).trans (Kp.set (HO.lst ((row.map cV).set g (cV (some x)))) (by simp : l ∈ [l]))
    have hl2 := hl2.trans (show _ = some (HO.lst ((row.set g (some x)).map cV)) by rw [List.map_set])
    show tRet _ _ _ (upd (upd H1 pt (HO.tup [cV (some x), V.non])) l (HO.lst ((row.map cV).set g (cV (some x)))))
    generalize upd (upd H1 pt (HO.tup [cV (some x), V.non])) l (HO.lst ((row.map cV).set g (cV (some x)))) = H2 at *
    walk_at "rd"
    refine ⟨by show 2 ≤ sizeLine; omega, fun t ht => ?_⟩
    have kt2 := Kp.new (bs := []) (HO.tup [V.ref l, cV none]) ht
    exact q t l _ ((Kp.un ((kl.mono (bs' := [l]) (by simp)).trans kn) hnl).trans kt2) upd_same (kt2 _ _ (by simp) hl2)
theorem rs_oneI {j : Int} (h : 0 ≤ j) : Builtin.Range.rangeSize 0 j 1 = (j.toNat : Int) := by rw [rangeSize_one]; split <;> omega
theorem for_cut {wi : TI} {g : TG} {tb rest : TS} {D : Ends} {σ : L2.St} {H : Hp} (h : ∀ b r, b = tb → r = rest → tSeq (tFor wi g b) r D σ H) : tSeq (tFor wi g tb) rest D σ H := h tb rest rfl rfl
abbrev s_went : Stmt := top 25
theorem sc_went : FnScope ["_law_n", "_law_plan", "_law_deed", "_law_row", "_law_hand", "_law_spots", "_law_spot"] ["_law_n", "_law_plan"] (defScope s_went) := ⟨rfl, rfl, rfl, by decide +kernel, rfl, by decide +kernel, by decide +kernel⟩
def ddP : Dd → List Nat
  | .take p => [p]
  | .move p g => [p, g]
  | .lay g => [g]
def spI (d : Dd) : List Int := (ddP d).map fun (p : Nat) => (p : Int)
theorem cut_dd (d : Dd) : cutV (ddV d) (some 1) none = (spI d).map V.int := by cases d <;> rfl
theorem not_all (d : Dd) : ¬ (HT.sIx (ddV d).length 0 (some 1) = 0 ∧ HT.sIx (ddV d).length (ddV d).length none = (ddV d).length) := by cases d <;> (intro z; exact absurd z.1 (by show ¬ (1 = 0); decide))
theorem sp_bd {d : Dd} {s t : RS} (h : Do d s t) : ∀ x ∈ spI d, 0 ≤ x ∧ x < (s.1.length : Int) := by
  intro x hx
  cases h with
  | @take p row mv y hp =>
    have := (List.getElem?_eq_some_iff.mp hp).1
    show 0 ≤ x ∧ x < (row.length : Int)
    simp [spI, ddP] at hx
    omega
  | @move p g row h mv y hp hg =>
    have := (List.getElem?_eq_some_iff.mp hp).1
    have := (List.getElem?_eq_some_iff.mp hg).1
    show 0 ≤ x ∧ x < (row.length : Int)
    simp [spI, ddP] at hx
    omega
  | @lay g row mv y hg =>
    have := (List.getElem?_eq_some_iff.mp hg).1
    show 0 ≤ x ∧ x < (row.length : Int)
    simp [spI, ddP] at hx
    omega
theorem sp_nd {d : Dd} {s t : RS} (h : Do d s t) : (spI d).Nodup := by
  cases h with
  | take hp => simp [spI, ddP]
  | @move p g row h mv y hp hg =>
    simp [spI, ddP]
    intro e
    have e : p = g := by omega
    rw [e, hg] at hp
    cases hp
  | lay hg => simp [spI, ddP]
def spWent (K : PySem.W.Frag) : Sp := fun vs H Q _ => ∃ (a : Addr) (n : Nat) (ps : List (Addr × List V)) (dl : List Dd) (fin : RS), vs = [.int n, .ref a] ∧ H a = some (.lst (tfs ps)) ∧ (∀ r ∈ ps, H r.1 = some (.tup r.2)) ∧ ps.map (·.2) = dl.map ddV ∧ n ≤ 1000 ∧ Dos dl ((rngL 0 1 n).map some, none, List.replicate n 0) fin ∧ fin.2.1 = none ∧
  ∀ (p : Addr) (H' : Hp), Kp [] H H' → H' p = some (.lst (fin.1.map cV)) → Q (.ref p) H'
theorem df_went (a : At K mg "_law_went" s_went) (B : Blt mg) (Bset : mg "set" = none) (D_law_done : Df P w K mg base "_law_done" ["_law_row", "_law_hand", "_law_deed"] 1 spDone) : Df P w K mg base "_law_went" ["_law_n", "_law_plan"] 2 (spWent K) := by
  refine df_of (k := 1) a sc_went (fun _ _ _ _ _ _ us hl => match us, hl with | [_, _], _ => rfl) (fun vs H Q E h => ?_) (fun f cdv A outer s H vs Q E hr h => ?_)
  · obtain ⟨a, n, ps, dl, fin, rfl, _⟩ := h; rfl
  obtain ⟨a, n, ps, dl, fin, rfl, ha, hps, eps, hn, hdl, hfin, q⟩ := h
  have sc := sc_went
  have hsl := hsl
  have Ball := B.all
  refine ⟨_, (pss_cons (ps_par (i := 3) (j := 4) rfl sc.nd rfl rfl (by decide) rfl rfl (pa_cons (pe_callTy (call_list_rng rfl) rfl B.list bt_list (pa_cons (pe_callTy call_range1 rfl B.range bt_range (pa_cons (pv 0) pa_nil)) pa_nil)) (pa_cons pe_non pa_nil)) rfl)
    (pss_cons (ps_for PassesOwn.never rfl (pi_list (pv 1)) (pg_name (i := 2) sc.nd rfl (by first | exact Or.inl rfl | exact Or.inr rfl)) (pss_cons (ps_set (i := 5) sc.nd rfl (by first | exact Or.inl rfl | exact Or.inr rfl) (pe_callTy call_list_of rfl B.list bt_list (pa_cons (pe_slice sl_tup (pv 2) (po_some pe_int) po_none) pa_nil)))
    (pss_cons (ps_if (PW.pt (pw_or (pt_not (pt_val (pe_callB (call_allB rfl) rfl Ball bt_all (pa_cons (pe_comp (ts := [6]) rfl rfl (pi_list (pv 5)) (fun _ _ _ _ => (pg_name (i := 6) sc.nd rfl (by first | exact Or.inl rfl | exact Or.inr rfl))) (fun _ _ _ _ => pif_nil) (fun _ _ _ _ => (pe_chain op_le op_lt pe_int (pv 6) (pv 0)))) pa_nil)) (fun _ => rfl))) (pw_or1 (pt_cmpR op_lt (pe_callB call_lenS rfl B.len bt_len (pa_cons (pe_callTy (call_setI rfl rfl) rfl Bset bt_set (pa_cons (pv 5) pa_nil)) pa_nil)) (pe_callB call_len_seq rfl B.len bt_len (pa_cons (pv 5) pa_nil)) (nomark _))))) (pss_one (ps_ret pe_non)) pss_nil)
    (pss_cons (ps_if (PW.pt (pw_and (pt_cmpR op_ne (pe_ix ix_tup (pv 2) pe_int (fun _ _ => rfl)) pe_str (nomark _)) (pw_and1 (pt_cmpR op_isN (pe_ix ix_list (pv 3) (pe_ix ix_list (pv 5) pe_int (fun _ _ => rfl)) (fun _ _ => rfl)) pe_non (nomark _))))) (pss_one (ps_ret pe_non)) pss_nil)
    (pss_cons (ps_if (PW.pt (pw_or (PW.pt (pw_and (pt_cmpR op_eq (pe_ix ix_tup (pv 2) pe_int (fun _ _ => rfl)) pe_str (nomark _)) (pw_and1 (pt_cmpR op_isN (pe_ix ix_list (pv 3) (pe_ix ix_list (pv 5) pe_int (fun _ _ => rfl)) (fun _ _ => rfl)) pe_non (nomark _))))) (pw_or1 (PW.pt (pw_and (pt_cmpR op_eq (pe_ix ix_tup (pv 2) pe_int (fun _ _ => rfl)) pe_str (nomark _)) (pw_and1 (pt_cmpR op_notN (pe_ix ix_list (pv 3) (pe_ix ix_list (pv 5) pe_int (fun _ _ => rfl)) (fun _ _ => rfl)) pe_non (nomark _)))))))) (pss_one (ps_ret pe_non)) pss_nil)
    (pss_cons (ps_if (PW.pt (pw_and (pt_cmpR op_eq (pe_ix ix_tup (pv 2) pe_int (fun _ _ => rfl)) pe_str (nomark _)) (pw_and1 (pt_cmpR op_notN (pv 4) pe_non (nomark _))))) (pss_one (ps_ret pe_non)) pss_nil)
    (pss_cons (ps_if (PW.pt (pw_and (pt_cmpR op_eq (pe_ix ix_tup (pv 2) pe_int (fun _ _ => rfl)) pe_str (nomark _)) (pw_and1 (PW.pt (pw_or (pt_cmpR op_isN (pv 4) pe_non (nomark _)) (pw_or1 (pt_cmpR op_notN (pe_ix ix_list (pv 3) (pe_ix ix_list (pv 5) pe_int (fun _ _ => rfl)) (fun _ _ => rfl)) pe_non (nomark _)))))))) (pss_one (ps_ret pe_non)) pss_nil)
    (pss_one (ps_asg (pe_cd D_law_done hr rfl (pa_cons (pv 3) (pa_cons (pv 4) (pa_cons (pv 2) pa_nil)))) (pg_tupK (K := K) 2 rfl rfl (pgs_cons (pg_name (i := 3) sc.nd rfl (by first | exact Or.inl rfl | exact Or.inr rfl)) (pgs_cons (pg_name (i := 4) sc.nd rfl (by first | exact Or.inl rfl | exact Or.inr rfl)) pgs_nil))))))))))))
    (pss_one (ps_ret (pe_ifExp (pt_cmpR op_isN (pv 4) pe_non (nomark _)) (pv 3) pe_non))))), ?_⟩
  rw [show start ["_law_n", "_law_plan", "_law_deed", "_law_row", "_law_hand", "_law_spots", "_law_spot"] [V.int n, V.ref a] = [some (.int n), some (.ref a), none, none, none, none, none] from rfl]
  refine seq_cut fun r hr0 => ?_
  walk_at "rd"
  refine fun pg hpg => ⟨0, n, 1, upd_same, small_one (by omega) (by omega) (by omega) (by omega), n, rs_oneI (by omega), by omega, fun pr hpr => ?_⟩
  subst hr0
  have kH := (Kp.new (bs := []) (RngO pg 0 (n : Int) 1) hpg).trans (Kp.new (HO.lst (List.map V.int (rngL 0 1 n))) hpr)
  have hr0 := upd_same (H := upd H pg (RngO pg 0 (n : Int) 1)) (a := pr) (o := HO.lst (List.map V.int (rngL 0 1 n)))
  have ha0 := kH _ _ (by simp) ha
  generalize upd (upd H pg (RngO pg 0 (n : Int) 1)) pr (HO.lst (List.map V.int (rngL 0 1 n))) = H0 at *
  have lps : ps.length = dl.length := by
    have := congrArg List.length eps
    rw [List.length_map, List.length_map] at this
    exact this
  refine for_cut fun bd r hbd hr1 => ?_
  walk_at "rd"
  refine ⟨⟨_, SqL.of ha0⟩, ?_⟩
  refine lp_list (xs := tfs ps) (fun j τ G => ∃ (x2 x5 x6 : Option V) (pq : Addr) (st : RS), τ = [some (.int n), some (.ref a), x2, some (.ref pq), some (cV st.2.1), x5, x6] ∧ Kp [] H0 G ∧ G pq = some (.lst (st.1.map cV)) ∧ RsOk n st ∧ Dos (dl.drop j) st fin) ?_ ?_ ?_ ?_
  · refine ⟨none, none, none, pr, ((rngL 0 1 n).map some, none, List.replicate n 0), rfl, Kp.refl, hr0.trans (by rw [List.map_map]; rfl), ⟨by rw [List.length_map, rngL_length], by simp, fun x hx => ?_⟩, hdl⟩
    rcases hx with z | z
    · obtain ⟨y, hy, e⟩ := List.mem_map.mp z
      injection e with e
      subst e
      unfold rngL at hy
      obtain ⟨i, hi, e⟩ := List.mem_map.mp hy
      have := List.mem_range.mp hi
      omega
    · cases z
  · rintro j τ G _ ⟨x2, x5, x6, pq, st, rfl, kp, _⟩
    exact SqL.of (kp _ _ (by simp) ha0)
  · rintro j x τ G hx ⟨x2, x5, x6, pq, st, rfl, kp, hrw, ok, hds⟩
    obtain ⟨rr, hm, e, rfl⟩ := tfs_at hx
    have hj : j < dl.length := by rw [← lps]; exact (List.getElem?_eq_some_iff.mp e).1
    have er2 : rr.2 = ddV dl[j] := by
      have h1 : (ps.map (·.2))[j]? = some rr.2 := by rw [List.getElem?_map, e]; rfl
      rw [eps, List.getElem?_map, List.getElem?_eq_getElem hj] at h1
      injection h1 with h2
      exact h2.symm
    rw [List.drop_eq_getElem_cons hj] at hds
    have hrG := kp _ _ (by simp) (kH _ _ (by simp) (hps rr hm))
    rw [er2] at hrG
    generalize dl[j] = d at *
    obtain ⟨st1, hdo, hrest⟩ : ∃ st1, Do d st st1 ∧ Dos (dl.drop (j + 1)) st1 fin := by
      cases hds with
      | cons h1 h2 => exact ⟨_, h1, h2⟩
    have ok1 := ok.do hdo
    have lrow : st.1.length ≤ 1000 := by have := ok.1; omega
    walk_at "rd"
    subst hbd
    refine seq_cut fun r2 hr2 => ?_
    walk_at "rd"
    simp only [rSlT]
    refine ⟨_, _, rfl, SqT.of hrG, not_all d, fun psl hpsl => ⟨psl, rfl, _, .inr (SqT.of upd_same), fun pl hpl => ?_⟩⟩
    subst hr2
    rw [cut_dd]
    have kl := (Kp.new (bs := []) (HO.tup ((spI d).map V.int)) hpsl).trans (Kp.new (il (spI d)) (by rw [← cut_dd]; exact hpl))
    have hsp := upd_same (H := upd G psl (HO.tup ((spI d).map V.int))) (a := pl) (o := il (spI d))
    have hrw1 := kl _ _ (by simp) hrw
    have hrG1 := kl _ _ (by simp) hrG
    have kp1 := kp.trans kl
    generalize upd (upd G psl (HO.tup ((spI d).map V.int))) pl (il (spI d)) = G1 at *
    have hbd := sp_bd hdo
    have hnd := sp_nd hdo
    have lsp : (spI d).length ≤ 2 := by cases d <;> simp [spI, ddP]
    refine seq_cut fun r2 hr2 => ?_
    walk_at "rd"
    refine ⟨⟨_, SqL.of hsp⟩, fun D hD => ?_⟩
    refine cl_list (xs := (spI d).map V.int) (fun k τ G2 => ∃ u, τ = [some (.int n), some (.ref a), some (.ref rr.1), some (.ref pq), some (cV st.2.1), some (.ref pl), u] ∧ Kp [D] (upd G1 D (.lst [])) G2 ∧ G2 D = some (.lst (List.map V.bl (List.replicate k true)))) ?_ ?_ ?_ ?_
    · exact ⟨none, rfl, Kp.refl, upd_same⟩
    · rintro k τ G2 _ ⟨u, rfl, kq, hq⟩
      exact SqL.of ((Kp.drop1 hD kq) _ _ (by simp) hsp)
    · rintro k y τ G2 hy ⟨u, rfl, kq, hq⟩
      obtain ⟨rfl, hk⟩ := get_map_elim hy
      have hb := hbd ((spI d).getD k 0) (by rw [getD_eq hk]; exact List.getElem_mem _)
      have hb2 : (spI d).getD k 0 < (n : Int) := by have := ok.1; omega
      walk_at "rd"
      simp only [tChain]
      walk_at "rd"
      rw [if_pos hb.1, decide_eq_true hb2]
      refine ⟨_, hq, by rw [List.length_map, List.length_replicate]; omega, kq.trans (Kp.set _ (by simp)), ?_⟩
      exact upd_same.trans (congrArg some (congrArg HO.lst (by rw [List.replicate_succ', List.map_append]; rfl)))
    · rintro τ G2 ⟨u, rfl, kq, hq⟩
      have kG := Kp.drop1 hD kq
      have hsp2 := kG _ _ (by simp) hsp
      refine ⟨D, rfl, _, SqL.of hq, ?_⟩
      rw [show (List.replicate ((spI d).map V.int).length true).all id = true by simp, if_neg (by decide)]
      refine ⟨_, SqL.of hsp2, by omega, fun pS S hpS => ⟨_, _, upd_same, ?_⟩⟩
      have kS := Kp.new (bs := []) (HO.set S (unl (spI d)).length) hpS
      refine ⟨_, .inl (SqL.of (kS _ _ (by simp) hsp2)), ?_⟩
      rw [unl_nodup hnd, List.length_map, if_neg (by omega)]
      subst hr2
      have hrw2 := (kG.trans kS) _ _ (by simp) hrw1
      have hrG2 := (kG.trans kS) _ _ (by simp) hrG1
      have hsp3 := kS _ _ (by simp) hsp2
      have kp2 := (kp1.trans kG).trans kS
      rw [unl_nodup hnd] at *
      show tSeq _ _ _ _ (upd G2 pS (HO.set S (spI d).length))
      generalize upd G2 pS (HO.set S (spI d).length) = G3 at *
      clear hrw1 hrG1 hsp hsp2 kp1 hq
      have hdo0 := hdo
      cases hdo0 with
      | @take p row mv x hp =>
        obtain ⟨c1, c2⟩ := at_cell hp
        refine seq_cut fun r2 hr2 => ?_
        walk_at "rd"
        refine ⟨_, SqT.of hrG2, _, rfl, rfl, ?_⟩
        rw [if_pos (by show ¬ (V.str (Str.ofString "take") = V.str (Str.ofString "lay")); decide)]
        refine ⟨_, SqL.of hsp3, _, rfl, _, _, rfl, SqL.of hrw2, _, c2, ?_⟩
        rw [if_neg (fun z => nomatch z)]
        subst hr2
        refine seq_cut fun r2 hr2 => ?_
        walk_at "rd"
        refine ⟨_, SqT.of hrG2, _, rfl, rfl, ?_⟩
        rw [if_neg (by show ¬ (V.str (Str.ofString "take") = V.str (Str.ofString "swap")); decide)]
        refine ⟨_, SqT.of hrG2, _, rfl, rfl, ?_⟩
        rw [if_neg (by show ¬ (V.str (Str.ofString "take") = V.str (Str.ofString "move")); decide)]
        subst hr2
        refine seq_cut fun r2 hr2 => ?_
        walk_at "rd"
        refine ⟨_, SqT.of hrG2, _, rfl, rfl, ?_⟩
        rw [if_pos rfl, if_neg (not_not_intro (show cV none = V.non from rfl))]
        subst hr2
        refine seq_cut fun r2 hr2 => ?_
        walk_at "rd"
        refine ⟨_, SqT.of hrG2, _, rfl, rfl, ?_⟩
        rw [if_neg (by show ¬ (V.str (Str.ofString "take") = V.str (Str.ofString "lay")); decide)]
        subst hr2
        walk_at "rd"
        refine ⟨pq, rr.1, _, _, _, rfl, hrw2, hrG2, hdo, lrow, fun t p2 G4 k4 ht hp2 => ?_⟩
        exact ⟨t, rfl, _, SqT.of ht, rfl, _, _, rfl, _, _, rfl, rfl, _, _, _, rfl, (row.set p none, some x, inc mv x), rfl, rfl, rfl, kp2.trans k4, hp2, ok1, hrest⟩
      | @move p g row h mv x hp hg =>
        obtain ⟨c1, c2⟩ := at_cell hp
        obtain ⟨g1, g2⟩ := at_cell hg
        refine seq_cut fun r2 hr2 => ?_
        walk_at "rd"
        refine ⟨_, SqT.of hrG2, _, rfl, rfl, ?_⟩
        rw [if_pos (by show ¬ (V.str (Str.ofString "move") = V.str (Str.ofString "lay")); decide)]
        refine ⟨_, SqL.of hsp3, _, rfl, _, _, rfl, SqL.of hrw2, _, c2, ?_⟩
        rw [if_neg (fun z => nomatch z)]
        subst hr2
        refine seq_cut fun r2 hr2 => ?_
        walk_at "rd"
        refine ⟨_, SqT.of hrG2, _, rfl, rfl, ?_⟩
        rw [if_neg (by show ¬ (V.str (Str.ofString "move") = V.str (Str.ofString "swap")); decide)]
        refine ⟨_, SqT.of hrG2, _, rfl, rfl, ?_⟩
        rw [if_pos rfl]
        refine ⟨_, SqL.of hsp3, _, rfl, _, _, rfl, SqL.of hrw2, _, g2, ?_⟩
        rw [if_neg (not_not_intro (show cV none = V.non from rfl))]
        subst hr2
        refine seq_cut fun r2 hr2 => ?_
        walk_at "rd"
        refine ⟨_, SqT.of hrG2, _, rfl, rfl, ?_⟩
        rw [if_neg (by show ¬ (V.str (Str.ofString "move") = V.str (Str.ofString "take")); decide)]
        subst hr2
        refine seq_cut fun r2 hr2 => ?_
        walk_at "rd"
        refine ⟨_, SqT.of hrG2, _, rfl, rfl, ?_⟩
        rw [if_neg (by show ¬ (V.str (Str.ofString "move") = V.str (Str.ofString "lay")); decide)]
        subst hr2
        walk_at "rd"
        refine ⟨pq, rr.1, _, _, _, rfl, hrw2, hrG2, hdo, lrow, fun t p2 G4 k4 ht hp2 => ?_⟩
        exact ⟨t, rfl, _, SqT.of ht, rfl, _, _, rfl, _, _, rfl, rfl, _, _, _, rfl, ((row.set p none).set g (some x), h, inc mv x), rfl, rfl, rfl, kp2.trans k4, hp2, ok1, hrest⟩
      | @lay g row mv x hg =>
        obtain ⟨g1, g2⟩ := at_cell hg
        refine seq_cut fun r2 hr2 => ?_
        walk_at "rd"
        refine ⟨_, SqT.of hrG2, _, rfl, rfl, ?_⟩
        rw [if_neg (not_not_intro rfl)]
        subst hr2
        refine seq_cut fun r2 hr2 => ?_
        walk_at "rd"
        refine ⟨_, SqT.of hrG2, _, rfl, rfl, ?_⟩
        rw [if_neg (by show ¬ (V.str (Str.ofString "lay") = V.str (Str.ofString "swap")); decide)]
        refine ⟨_, SqT.of hrG2, _, rfl, rfl, ?_⟩
        rw [if_neg (by show ¬ (V.str (Str.ofString "lay") = V.str (Str.ofString "move")); decide)]
        subst hr2
        refine seq_cut fun r2 hr2 => ?_
        walk_at "rd"
        refine ⟨_, SqT.of hrG2, _, rfl, rfl, ?_⟩
        rw [if_neg (by show ¬ (V.str (Str.ofString "lay") = V.str (Str.ofString "take")); decide)]
        subst hr2
        refine seq_cut fun r2 hr2 => ?_
        walk_at "rd"
        refine ⟨_, SqT.of hrG2, _, rfl, rfl, ?_⟩
        rw [if_pos rfl, if_neg (fun z => nomatch z)]
        refine ⟨_, SqL.of hsp3, _, rfl, _, _, rfl, SqL.of hrw2, _, g2, ?_⟩
        rw [if_neg (not_not_intro (show cV none = V.non from rfl))]
        subst hr2
        walk_at "rd"
        refine ⟨pq, rr.1, _, _, _, rfl, hrw2, hrG2, hdo, lrow, fun t p2 G4 k4 ht hp2 => ?_⟩
        exact ⟨t, rfl, _, SqT.of ht, rfl, _, _, rfl, _, _, rfl, rfl, _, _, _, rfl, (row.set g (some x), none, inc mv x), rfl, rfl, rfl, kp2.trans k4, hp2, ok1, hrest⟩
  · rintro τ G ⟨x2, x5, x6, pq, st, rfl, kp, hrw, ok, hds⟩
    rw [tfs_len, lps, List.drop_length] at hds
    cases hds
    walk_at "rd"
    subst hr1
    walk_at "rd"
    rw [hfin, if_pos (show cV none = V.non from rfl)]
    exact q pq _ (kH.trans kp) hrw
theorem puts_map {n : Nat} {os bs : List Int} {xs : List V} (ho : IsOrd n os) (hb : IsBack os bs) (hx : xs.length = n) : Puts os xs (bs.map fun k => xs.getD k.toNat .non) := by
  have hbo := IsBack.ord ho hb
  refine ⟨by rw [List.length_map, hbo.1, hx], fun p hp => ?_⟩
  have gp := ho.getD (i := p) (by omega)
  have e := hb.2 p (by have := ho.1; omega)
  have hl : (os.getD p 0).toNat < bs.length := by rw [hbo.1]; omega
  rw [List.getElem?_map, List.getElem?_eq_getElem hl, ← getD_eq hl, e]
  show some (xs.getD ((p : Int)).toNat .non) = _
  rw [Int.toNat_natCast, List.getD_eq_getElem?_getD, List.getElem?_eq_getElem hp]; rfl
theorem puts_back {n : Nat} {os bs : List Int} {xs ys : List V} (ho : IsOrd n os) (hb : IsBack os bs) (hx : xs.length = n) (h : Puts os xs ys) : Puts bs ys xs := by
  have hbo := IsBack.ord ho hb
  refine ⟨by rw [h.1], fun q hq => ?_⟩
  rw [h.1, hx] at hq
  obtain ⟨p, hp, e⟩ := ho.ex hq
  have e2 := hb.2 p (by have := ho.1; omega)
  rw [e, Int.toNat_natCast] at e2
  have e3 := h.2 p (by omega)
  rw [e, Int.toNat_natCast] at e3
  rw [e2, Int.toNat_natCast, e3]
theorem puts_it {n : Nat} {os : List Int} (ho : IsOrd n os) {row : List Int} {t : Nat} (hr : row.length = n) (h : ∀ p : Nat, p < n → row.getD (L2.itn os t (p : Int)).toNat 0 = (p : Int)) {ys : List V} (hy : Puts os (row.map V.int) ys) :
    ∃ row' : List Int, ys = row'.map V.int ∧ row'.length = n ∧ ∀ p : Nat, p < n → row'.getD (L2.itn os (t + 1) (p : Int)).toNat 0 = (p : Int) := by
  have hl : ys.length = n := by rw [hy.1, List.length_map, hr]
  have hget : ∀ q : Nat, q < n → ys[(os.getD q 0).toNat]? = some (.int (row.getD q 0)) := fun q hq => by
    rw [hy.2 q (by rw [List.length_map]; omega), List.getElem?_map, List.getElem?_eq_getElem (by omega), getD_eq (by omega)]; rfl
  have hall : ∀ i : Nat, i < n → ∃ v : Int, ys[i]? = some (.int v) := fun i hi => by
    obtain ⟨q, hq, e⟩ := ho.ex hi
    have := hget q hq
    rw [e, Int.toNat_natCast] at this
    exact ⟨_, this⟩
  let f : V → Int := fun v => match v with | .int i => i | _ => 0
  refine ⟨ys.map f, ?_, by rw [List.length_map, hl], fun p hp => ?_⟩
  · refine List.ext_getElem? fun i => ?_
    rw [List.getElem?_map, List.getElem?_map]
    by_cases hi : i < n
    · obtain ⟨v, hv⟩ := hall i hi
      rw [hv]; rfl
    · rw [List.getElem?_eq_none (by omega)]; rfl
  · have bd := itn_bd ho (p := (p : Int)) (by omega) (by omega) t
    show (ys.map f).getD (os.getD (L2.itn os t (p : Int)).toNat 0).toNat 0 = _
    have := hget (L2.itn os t (p : Int)).toNat (by omega)
    rw [List.getD_eq_getElem?_getD, List.getElem?_map, this]
    show row.getD _ 0 = _
    exact h p hp
theorem outer_eq {n : Nat} (hn : 0 < n) : wovO n 0 = [0] ++ (wovO (n - 1) 1).map (fun x => x + 1) ++ [2 * (n : Int) - 1] := by
  refine ext_getD (by simp [wovO_len]; omega) fun i hi => ?_
  rw [wovO_len] at hi
  have hl : ((wovO (n - 1) 1).map (fun x => x + 1)).length = 2 * (n - 1) := by rw [List.length_map, wovO_len]
  rw [wovO_get hi, List.getD_eq_getElem?_getD]
  rcases Nat.eq_zero_or_pos i with z | z
  · subst z
    rw [if_pos hn]; rfl
  · by_cases c : i < 2 * n - 1
    · rw [List.getElem?_append_left (by rw [List.length_append, hl]; show i < 1 + _; omega), List.getElem?_append_right (by show 1 ≤ i; omega), List.getElem?_map, List.getElem?_eq_getElem (by rw [wovO_len]; show i - 1 < _; omega), ← getD_eq]
      show _ = (wovO (n - 1) 1).getD (i - 1) 0 + 1
      rw [wovO_get (by omega)]
      split <;> split <;> omega
    · rw [List.getElem?_append_right (by rw [List.length_append, hl]; show 1 + _ ≤ i; omega), List.length_append, hl]
      have : i - (([0] : List Int).length + 2 * (n - 1)) = 0 := by show i - (1 + 2 * (n - 1)) = 0; omega
      rw [this]
      show _ = 2 * (n : Int) - 1
      rw [if_neg (by omega)]
      omega
theorem outer_rev (n : Nat) : (wovO n 0).reverse.map (fun x => 2 * (n : Int) - 1 - x) = wovO n 0 := by
  refine ext_getD (by rw [List.length_map, List.length_reverse]) fun i hi => ?_
  rw [List.length_map, List.length_reverse, wovO_len] at hi
  rw [List.getD_eq_getElem?_getD, List.getElem?_map, List.getElem?_reverse (by rw [wovO_len]; exact hi), wovO_len, List.getElem?_eq_getElem (by rw [wovO_len]; omega), ← getD_eq]
  show 2 * (n : Int) - 1 - (wovO n 0).getD (2 * n - 1 - i) 0 = _
  rw [wovO_get (by omega), wovO_get hi]
  split <;> split <;> omega
theorem strs_flat (zs : List Str) : (zs.map V.str).all flatV = true ∧ eqVs (zs.map V.str) (zs.map V.str) = true := by
  constructor
  · rw [List.all_eq_true]; intro x hx; obtain ⟨_, _, rfl⟩ := List.mem_map.mp hx; rfl
  · induction zs with
    | nil => rfl
    | cons z zs ih => simp [eqVs, eqV] at ih ⊢; exact ih
theorem pick_flat {zs : List Str} {is : List Int} (h : ∀ k ∈ is, 0 ≤ k ∧ k < (zs.length : Int)) : (is.map fun k => (zs.map V.str).getD k.toNat .non).all flatV = true ∧ eqVs (is.map fun k => (zs.map V.str).getD k.toNat .non) (is.map fun k => (zs.map V.str).getD k.toNat .non) = true := by
  have e : (is.map fun k => (zs.map V.str).getD k.toNat .non) = (is.map fun k => zs.getD k.toNat (Str.ofString "")).map V.str := by
    rw [List.map_map]
    refine List.map_congr_left fun k hk => ?_
    have := h k hk
    have hl : k.toNat < zs.length := by omega
    show (zs.map V.str).getD k.toNat .non = V.str (zs.getD k.toNat (Str.ofString ""))
    rw [List.getD_eq_getElem?_getD, List.getElem?_map, List.getElem?_eq_getElem hl, List.getD_eq_getElem?_getD, List.getElem?_eq_getElem hl]; rfl
  rw [e]
  exact strs_flat _
abbrev s_right : Stmt := top 29
theorem sc_right : FnScope ["_law_box_here", "_law_many", "_law_words", "_law_order", "_law_stood", "_law_row", "_law_turn", "_law_inner", "_law_outer", "_law_k", "_law_place"] ["_law_box_here", "_law_many"] (defScope s_right) := ⟨rfl, rfl, rfl, by decide +kernel, rfl, by decide +kernel, by decide +kernel⟩
def spRight : Sp := fun vs H Q _ => ∃ (bx : Addr) (n N : Nat), vs = [.ref bx, .int n] ∧ n ≤ 100 ∧ Bx H bx N ∧ N < 1000000 ∧ ∀ H', Kp [bx] H H' → Q (.bl true) H'
theorem df_right (a : At K mg "_law_right" s_right) (B : Blt mg) (D_law_take : Df P w K mg base "_law_take" ["_law_box_here", "_law_many"] 5 spTake) (D_weave_order : Df P w K mg base "weave_order" ["many", "first"] 5 spWorder) (D_law_went : Df P w K mg base "_law_went" ["_law_n", "_law_plan"] 5 (spWent K)) (D_weave_plan : Df P w K mg base "weave_plan" ["many"] 5 spWplan)
    (D_law_put : Df P w K mg base "_law_put" ["_law_things", "_law_order"] 5 (spLPut K)) (D_unweave_order : Df P w K mg base "unweave_order" ["many", "first"] 5 spWrow) (D_weave_turns : Df P w K mg base "weave_turns" ["many", "first"] 5 spWturns) : Df P w K mg base "_law_right" ["_law_box_here", "_law_many"] 6 spRight := by
  refine df_of (k := 5) a sc_right (fun _ _ _ _ _ _ us hl => match us, hl with | [_, _], _ => rfl) (fun vs H Q E h => ?_) (fun f cdv A outer s H vs Q E hr h => ?_)
  · obtain ⟨bx, n, N, rfl, _⟩ := h; rfl
  obtain ⟨bx, n, N, rfl, hn, hb, hN, q⟩ := h
  have sc := sc_right
  have hsl := hsl
  refine ⟨_, (pss_cons (ps_set (i := 2) sc.nd rfl (by first | exact Or.inl rfl | exact Or.inr rfl) (pe_comp (ts := [9]) rfl rfl (pi_range1 rfl B.range (pa_cons (pe_op op_mul pe_int (pv 1)) pa_nil)) (fun _ _ _ _ => (pg_name (i := 9) sc.nd rfl (by first | exact Or.inl rfl | exact Or.inr rfl))) (fun _ _ _ _ => pif_nil) (fun _ _ _ _ => (pe_ix ix_str pe_str (pe_cd D_law_take hr rfl (pa_cons (pv 0) (pa_cons pe_int pa_nil))) (fun _ _ => rfl)))))
    (pss_cons (ps_set (i := 3) sc.nd rfl (by first | exact Or.inl rfl | exact Or.inr rfl) (pe_cd D_weave_order hr rfl (pa_cons (pv 1) (pa_cons pe_int pa_nil))))
    (pss_cons (ps_set (i := 4) sc.nd rfl (by first | exact Or.inl rfl | exact Or.inr rfl) (pe_cd D_law_went hr rfl (pa_cons (pe_op op_mul pe_int (pv 1)) (pa_cons (pe_cd D_weave_plan hr rfl (pa_cons (pv 1) pa_nil)) pa_nil))))
    (pss_cons (ps_if (PW.pt (pw_or (pt_cmpR op_isN (pv 4) pe_non (nomark _)) (pw_or1 (pt_cmpR (op_neF hr.units) (pe_comp (ts := [9]) rfl rfl (pi_list (pv 4)) (fun _ _ _ _ => (pg_name (i := 9) sc.nd rfl (by first | exact Or.inl rfl | exact Or.inr rfl))) (fun _ _ _ _ => pif_nil) (fun _ _ _ _ => (pe_ix (ix_listK (K := K) rfl) (pv 2) (pv 9) (fun _ _ => rfl)))) (pe_cd D_law_put hr rfl (pa_cons (pv 2) (pa_cons (pv 3) pa_nil))) (nomark _))))) (pss_one (ps_ret pe_bl)) pss_nil)
    (pss_cons (ps_if (pt_cmpR (op_neF hr.units) (pe_cd D_law_put hr rfl (pa_cons (pe_cd D_law_put hr rfl (pa_cons (pv 2) (pa_cons (pv 3) pa_nil))) (pa_cons (pe_cd D_unweave_order hr rfl (pa_cons (pv 1) (pa_cons pe_int pa_nil))) pa_nil))) (pv 2) (nomark _)) (pss_one (ps_ret pe_bl)) pss_nil)
    (pss_cons (ps_set (i := 5) sc.nd rfl (by first | exact Or.inl rfl | exact Or.inr rfl) (pe_callTy (call_list_rng rfl) rfl B.list bt_list (pa_cons (pe_callTy call_range1 rfl B.range bt_range (pa_cons (pe_op op_mul pe_int (pv 1)) pa_nil)) pa_nil)))
    (pss_cons (ps_for PassesOwn.never rfl (pi_range1 rfl B.range (pa_cons (pe_cd D_weave_turns hr rfl (pa_cons (pv 1) (pa_cons pe_int pa_nil))) pa_nil)) (pg_name (i := 6) sc.nd rfl (by first | exact Or.inl rfl | exact Or.inr rfl)) (pss_cons (ps_if (PW.pt (pw_and (pt_cmpR op_gt (pv 6) pe_int (nomark _)) (pw_and1 (pt_cmpR (op_eqI hr.units) (pv 5) (pe_callTy (call_list_rng rfl) rfl B.list bt_list (pa_cons (pe_callTy call_range1 rfl B.range bt_range (pa_cons (pe_op op_mul pe_int (pv 1)) pa_nil)) pa_nil)) (nomark _))))) (pss_one (ps_ret pe_bl)) pss_nil)
    (pss_one (ps_set (i := 5) sc.nd rfl (by first | exact Or.inl rfl | exact Or.inr rfl) (pe_cd D_law_put hr rfl (pa_cons (pv 5) (pa_cons (pv 3) pa_nil)))))))
    (pss_cons (ps_if (pt_cmpR (op_neI hr.units) (pv 5) (pe_callTy (call_list_rng rfl) rfl B.list bt_list (pa_cons (pe_callTy call_range1 rfl B.range bt_range (pa_cons (pe_op op_mul pe_int (pv 1)) pa_nil)) pa_nil)) (nomark _)) (pss_one (ps_ret pe_bl)) pss_nil)
    (pss_cons (ps_if (pt_cmpR op_eq (pv 1) pe_int (nomark _)) (pss_one (ps_ret pe_bl)) pss_nil)
    (pss_cons (ps_comp (j := 7) rfl sc.nd rfl (by first | exact Or.inl rfl | exact Or.inr rfl) (ts := [10]) rfl (pi_list (pe_cd D_weave_order hr rfl (pa_cons (pe_op op_sub (pv 1) pe_int) (pa_cons pe_int pa_nil)))) (fun _ _ _ _ => (pg_name (i := 10) sc.nd rfl (by first | exact Or.inl rfl | exact Or.inr rfl))) (fun _ _ _ _ => pif_nil) (fun _ _ _ _ => (pe_op op_add (pv 10) pe_int)))
    (pss_cons (ps_set (i := 8) sc.nd rfl (by first | exact Or.inl rfl | exact Or.inr rfl) (pe_cd D_weave_order hr rfl (pa_cons (pv 1) (pa_cons pe_int pa_nil))))
    (pss_cons (ps_if (pt_cmpR (op_neI hr.units) (pv 8) (pe_op op_cat (pe_op op_cat (pe_lst (pa_cons pe_int pa_nil)) (pv 7)) (pe_lst (pa_cons (pe_op op_sub (pe_op op_mul pe_int (pv 1)) pe_int) pa_nil))) (nomark _)) (pss_one (ps_ret pe_bl)) pss_nil)
    (pss_one (ps_ret (pe_cmpR (op_eqI hr.units) (pe_comp (ts := [10]) rfl rfl (pi_list (pe_slice3 (pv 8) po_none po_none (po_some (pe_un un_neg pe_int)))) (fun _ _ _ _ => (pg_name (i := 10) sc.nd rfl (by first | exact Or.inl rfl | exact Or.inr rfl))) (fun _ _ _ _ => pif_nil) (fun _ _ _ _ => (pe_op op_sub (pe_op op_sub (pe_op op_mul pe_int (pv 1)) pe_int) (pv 10)))) (pv 8) (nomark _)))))))))))))))), ?_⟩
  rw [show start ["_law_box_here", "_law_many", "_law_words", "_law_order", "_law_stood", "_law_row", "_law_turn", "_law_inner", "_law_outer", "_law_k", "_law_place"] [V.ref bx, V.int n] = [some (.ref bx), some (.int n), none, none, none, none, none, none, none, none, none] from rfl]
  have en : (2 : Int) * (n : Int) = ((2 * n : Nat) : Int) := by push_cast; rfl
  refine seq_cut fun r hr0 => ?_
  walk_at "rd"
  refine ⟨cmul_l (by decide) (by decide), by omega, by omega, fun D hD => ?_⟩
  rw [en, Int.toNat_natCast]
  refine cl_range (fun i τ G => ∃ (u : Option V) (zs : List Str), τ = [some (.ref bx), some (.int n), none, none, none, none, none, none, none, u, none] ∧ Kp [bx, D] (upd H D (.lst [])) G ∧ Bx G bx (N + i) ∧ G D = some (.lst (zs.map V.str)) ∧ zs.length = i) ?_ ?_ ?_
  · exact ⟨none, [], rfl, Kp.refl, hb.new hD, upd_same, rfl⟩
  · rintro i τ G hi ⟨u, zs, rfl, kg, bg, hd, hl⟩
    have hbD : D ≠ bx := Ne.symm (hb.ne hD)
    walk_at "rd"
    refine ⟨bx, 7, _, rfl, bg, by omega, by decide, by decide, fun r1 G1 k1 b1 l1 u1 => ?_⟩
    have hc : ∃ ch, atI (Str.ofString "abcdefg").cps.toList r1 = some ch := by
      have e : r1 = ((r1.toNat : Nat) : Int) := by omega
      have hlt : r1.toNat < 7 := by omega
      have h7 : (Str.ofString "abcdefg").cps.toList.length = 7 := by decide +kernel
      rw [e]
      exact ⟨_, atI_nat (List.getElem?_eq_getElem (by rw [h7]; exact hlt))⟩
    obtain ⟨ch, hch⟩ := hc
    refine ⟨_, rfl, _, rfl, by rw [show (Str.ofString "abcdefg").length = 7 by decide +kernel]; omega, ch, hch, _, k1 _ _ (by simpa using hbD) hd, by rw [List.length_map]; omega, (kg.trans (k1.mono (by simp))).trans (Kp.set _ (by simp)), (b1.mono (by omega)).kps (Kp.set (bs := [D]) _ (by simp)) (Ne.symm hbD), zs ++ [⟨#[ch]⟩], upd_same.trans (congrArg some (congrArg HO.lst (by rw [List.map_append]; rfl))), by rw [List.length_append, hl]; rfl⟩
  · rintro τ G ⟨u, zs, rfl, kg, bg, hd, hl⟩
    have kb : Kp [bx] H G := Kp.drop1 hD (kg.mono (bs' := [D, bx]) (by intro c hc; simp at hc ⊢; exact hc.symm))
    obtain ⟨fl1, fl2⟩ := strs_flat zs
    have hpf := pick_flat (zs := zs) (is := wovR n 1) (fun k hk => by have := (wovR_ord (m := n) (f := 1) (by omega)).2.2 k hk; omega)
    have hzl : (zs.map V.str).length = 2 * n := by rw [List.length_map]; omega
    generalize zs.map V.str = ws at *
    have oo := wovO_ord (m := n) (f := 1) (by omega)
    have hbk : IsBack (wovO n 1) (wovR n 1) := wov_back2 (by omega)
    have hwl := wpP_len n 0 hn
    obtain ⟨dl, mv, edl, hdo⟩ := weave_does hn
    subst hr0
    refine seq_cut fun r hr0 => ?_
    walk_at "rd"
    refine ⟨n, 1, rfl, by omega, by omega, fun po G1 g1 hpo ho => ?_⟩
    subst hr0
    refine seq_cut fun r hr0 => ?_
    walk_at "rd"
    refine ⟨cmul_l (by decide) (by decide), ?_⟩
    refine ⟨n, rfl, hn, fun pp G2 ps g2 hpp hp2 hps eps => ?_⟩
    rw [en]
    refine ⟨pp, 2 * n, ps, dl, _, rfl, hp2, fun y hy => (hps y hy).2, by rw [eps, edl], by omega, hdo, rfl, fun pw G3 g3 hw => ?_⟩
    have hw : G3 pw = some (il (wovR n 1)) := hw.trans (by rw [List.map_map]; rfl)
    have g13 := (g1.trans g2).trans g3
    have hd3 := g13 _ _ (by simp) hd
    have ho3 := (g2.trans g3) _ _ (by simp) ho
    have kb3 := kb.trans (g13.mono (by simp))
    clear hp2 hps
    subst hr0
    refine seq_cut fun r hr0 => ?_
    walk_at "rd"
    rw [if_neg (fun z => nomatch z)]
    have hcell : ∀ j : Nat, j < 2 * n → ∃ k : Nat, (wovR n 1).getD j 0 = (k : Int) ∧ k < 2 * n ∧ atI ws (k : Int) = some (ws.getD k .non) := fun j hj => by
      have gj := (wovR_ord (m := n) (f := 1) (by omega)).getD (i := j) hj
      refine ⟨((wovR n 1).getD j 0).toNat, by omega, by omega, atI_nat ?_⟩
      rw [List.getD_eq_getElem?_getD (l := ws), List.getElem?_eq_getElem (by omega)]; rfl
    have hwl2 := wovR_len n 1
    refine ⟨⟨_, SqL.of hw⟩, fun D2 hD2 => ?_⟩
    refine cl_list (xs := (wovR n 1).map V.int) (fun j τ F => ∃ u, τ = [some (.ref bx), some (.int n), some (.ref D), some (.ref po), some (.ref pw), none, none, none, none, u, none] ∧ Kp [D2] (upd G3 D2 (.lst [])) F ∧ F D2 = some (.lst (((wovR n 1).take j).map fun k => ws.getD k.toNat .non))) ?_ ?_ ?_ ?_
    · exact ⟨none, rfl, Kp.refl, upd_same⟩
    · rintro j τ F _ ⟨u, rfl, kd, hd2⟩
      exact SqL.of ((Kp.drop1 hD2 kd) _ _ (by simp) hw)
    · rintro j x τ F hx ⟨u, rfl, kd, hd2⟩
      obtain ⟨rfl, hj⟩ := get_map_elim hx
      obtain ⟨k, ek, hk, gk⟩ := hcell j (by omega)
      walk_at "rd"
      rw [ek]
      refine ⟨_, SqL.of ((Kp.drop1 hD2 kd) _ _ (by simp) hd3), _, gk, _, hd2, by rw [List.length_map, List.length_take]; omega, kd.trans (Kp.set _ (by simp)), ?_⟩
      rw [take_D hj, ek, List.map_append]
      exact upd_same
    · rintro τ F ⟨u, rfl, kd, hd2⟩
      rw [List.length_map, List.take_length] at hd2
      have kD := Kp.drop1 hD2 kd
      refine ⟨D, po, 2 * n, ws, wovO n 1, rfl, SqL.of (kD _ _ (by simp) hd3), SqL.of (kD _ _ (by simp) ho3), oo, hzl, by omega, fun py F1 ys f1 hpy hy py1 => ?_⟩
      have ey : ys = (wovR n 1).map fun k => ws.getD k.toNat .non := Puts.uniq oo hzl py1 (puts_map oo hbk hzl)
      subst ey
      refine ⟨D2, rfl, py, rfl, _, SqL.of (f1 _ _ (by simp) hd2), SqL.of hy, hpf.1, hpf.2, ?_⟩
      have kF1 := kD.trans f1
      have hdF := kF1 _ _ (by simp) hd3
      have hoF := kF1 _ _ (by simp) ho3
      have kbF := kb3.trans (kF1.mono (by simp))
      clear hd2 kd hD2 hy hw
      subst hr0
      refine seq_cut fun r hr0 => ?_
      walk_at "rd"
      refine ⟨D, po, 2 * n, ws, wovO n 1, rfl, SqL.of hdF, SqL.of hoF, oo, hzl, by omega, fun p2 F2 ys f2 hp2 hy2 py2 => ?_⟩
      refine ⟨n, 1, rfl, by omega, by omega, fun p3 F3 f3 hp3 h3 => ?_⟩
      have lys : ys.length = 2 * n := by rw [py2.1, hzl]
      have ob := wovR_ord (m := n) (f := 1) (by omega)
      refine ⟨p2, p3, 2 * n, ys, wovR n 1, rfl, SqL.of (f3 _ _ (by simp) hy2), SqL.of h3, ob, lys, by omega, fun p4 F4 vs4 f4 hp4 hy4 py4 => ?_⟩
      have ev : vs4 = ws := Puts.uniq ob lys py4 (puts_back oo hbk hzl py2)
      subst ev
      have f24 := (f2.trans f3).trans f4
      refine ⟨p4, rfl, _, SqL.of hy4, SqL.of (f24 _ _ (by simp) hdF), fl1, fl2, ?_⟩
      have hoF4 := f24 _ _ (by simp) hoF
      have kb4 := kbF.trans (f24.mono (by simp))
      clear hy2 h3 hy4 hdF
      subst hr0
      refine seq_cut fun r hr0 => ?_
      walk_at "rd"
      refine ⟨cmul_l (by decide) (by decide), ?_⟩
      rw [en]
      refine fun e1 he1 => ⟨_, _, _, upd_same, small_one (by omega) (by omega) (by omega) (by omega), 2 * n, by rw [rangeSize_one]; split <;> omega, by omega, fun pr0 hpr0 => ?_⟩
      have ke := (Kp.new (bs := []) (RngO e1 0 ((2 * n : Nat) : Int) 1) he1).trans (Kp.new (HO.lst (List.map V.int (rngL 0 1 (2 * n)))) hpr0)
      have hrow0 := upd_same (H := upd F4 e1 (RngO e1 0 ((2 * n : Nat) : Int) 1)) (a := pr0) (o := HO.lst (List.map V.int (rngL 0 1 (2 * n))))
      generalize upd (upd F4 e1 (RngO e1 0 ((2 * n : Nat) : Int) 1)) pr0 (HO.lst (List.map V.int (rngL 0 1 (2 * n)))) = F5 at *
      have hoF5 := ke _ _ (by simp) hoF4
      have kb5 := kb4.trans (ke.mono (by simp))
      subst hr0
      refine seq_cut fun r hr0 => ?_
      walk_at "rd"
      refine ⟨n, rfl, hn, fun T hT1 hT2 hT3 hT4 => ⟨T, rfl, by omega, by omega, ?_⟩⟩
      rw [Int.toNat_natCast]
      refine lp_range (fun i τ G => ∃ (y6 : Option V) (pr : Addr) (row : List Int), τ = [some (.ref bx), some (.int n), some (.ref D), some (.ref po), some (.ref pw), some (.ref pr), y6, none, none, none, none] ∧ Kp [] F5 G ∧ G pr = some (il row) ∧ row.length = 2 * n ∧ ∀ p : Nat, p < 2 * n → row.getD (L2.itn (wovO n 1) i (p : Int)).toNat 0 = (p : Int)) ?_ ?_ ?_
      · exact ⟨none, pr0, _, rfl, Kp.refl, hrow0, rngL_length .., fun p hp => by show (rngL 0 1 (2 * n)).getD ((p : Int)).toNat 0 = _; rw [Int.toNat_natCast, rngL_getD (2 * n) hp]⟩
      · rintro i τ G hi ⟨y6, pr, row, rfl, kg5, hrow, lrow, hitn⟩
        refine seq_cut fun r2 hr2 => ?_
        have key : ∀ (De : Ends) (G' : Hp), (∀ τ G, (∃ (y6 : Option V) (pr : Addr) (row : List Int), τ = [some (.ref bx), some (.int n), some (.ref D), some (.ref po), some (.ref pw), some (.ref pr), y6, none, none, none, none] ∧ Kp [] F5 G ∧ G pr = some (il row) ∧ row.length = 2 * n ∧ ∀ p : Nat, p < 2 * n → row.getD (L2.itn (wovO n 1) (i + 1) (p : Int)).toNat 0 = (p : Int)) → De.nx τ G) → Kp [] G G' →
            r2 De [some (.ref bx), some (.int n), some (.ref D), some (.ref po), some (.ref pw), some (.ref pr), some (.int (0 + i)), none, none, none, none] G' := by
          intro De G' hDe kG'
          subst hr2
          walk_at "rd"
          refine ⟨pr, po, 2 * n, row.map V.int, wovO n 1, rfl, SqL.of (kG' _ _ (by simp) hrow), SqL.of ((kg5.trans kG') _ _ (by simp) hoF5), oo, by rw [List.length_map]; exact lrow, by omega, fun p7 G7 ys7 g7 hp7 hy7 py7 => ?_⟩
          obtain ⟨row', er, lr, hr'⟩ := puts_it oo lrow hitn py7
          subst er
          exact hDe _ _ ⟨_, p7, row', rfl, (kg5.trans kG').trans g7, hy7, lr, hr'⟩
        have hend : ∀ (De : Ends), De.nx = De.nx := fun _ => rfl
        walk_at "rd"
        refine ite2 (fun z => ?_) (fun z => ?_)
        · refine ⟨cmul_l (by decide) (by decide), ?_⟩
          rw [en]
          refine fun e2 he2 => ⟨_, _, _, upd_same, small_one (by omega) (by omega) (by omega) (by omega), 2 * n, by rw [rangeSize_one]; split <;> omega, by omega, fun e3 he3 => ?_⟩
          have ke2 := (Kp.new (bs := []) (RngO e2 0 ((2 * n : Nat) : Int) 1) he2).trans (Kp.new (HO.lst (List.map V.int (rngL 0 1 (2 * n)))) he3)
          have hrng := upd_same (H := upd G e2 (RngO e2 0 ((2 * n : Nat) : Int) 1)) (a := e3) (o := HO.lst (List.map V.int (rngL 0 1 (2 * n))))
          generalize upd (upd G e2 (RngO e2 0 ((2 * n : Nat) : Int) 1)) e3 (HO.lst (List.map V.int (rngL 0 1 (2 * n)))) = G8 at *
          refine ⟨_, SqL.of (ke2 _ _ (by simp) hrow), _, SqL.of hrng, ?_⟩
          have hne : row ≠ rngL 0 1 (2 * n) := by
            intro e
            have hn0 : 0 < n := by
              rcases Nat.eq_zero_or_pos n with y | y
              · have := hT3 y; omega
              · exact y
            have h0 := hitn 0 (by omega)
            have bd := itn_bd oo (p := ((0 : Nat) : Int)) (by omega) (by omega) i
            have ei := itn_wov (m := n) (p := 0) (by omega) i
            rw [Nat.zero_add, Nat.one_mul] at ei
            rw [e, rngL_getD (2 * n) (by omega)] at h0
            exact (hT4 hn0).2 i (by omega) hi (by omega)
          rw [if_neg (by simpa using hne)]
          exact key _ _ (fun τ G ⟨y6, pr, row, e1, e2, e3⟩ => ⟨y6, pr, e1, e2, row, e3⟩) ke2
        · exact key _ _ (fun τ G ⟨y6, pr, row, e1, e2, e3⟩ => ⟨y6, pr, e1, e2, row, e3⟩) Kp.refl
      · rintro τ G ⟨y6, pr, row, rfl, kg5, hrow, lrow, hitn⟩
        have hid : row = rngL 0 1 (2 * n) := ext_getD (by rw [lrow, rngL_length]) fun p hp => by
          rw [lrow] at hp
          have hn0 : 0 < n := by omega
          have h0 := hitn p hp
          have e2 : 2 ^ T % (2 * n + 1) = 1 := (hT4 hn0).1
          have ei := itn_wov (m := n) (p := p) hp T
          have em : (p + 1) * 2 ^ T % (2 * n + 1) = p + 1 := by rw [← Nat.mul_mod_mod, e2, Nat.mul_one, Nat.mod_eq_of_lt (by omega)]
          rw [em] at ei
          rw [ei, show (((p + 1 : Nat) : Int) - 1).toNat = p by omega] at h0
          rw [h0, rngL_getD (2 * n) hp]
        subst hid
        show r _ _ _
        subst hr0
        refine seq_cut fun r hr0 => ?_
        walk_at "rd"
        refine ⟨cmul_l (by decide) (by decide), ?_⟩
        rw [en]
        refine fun e2 he2 => ⟨_, _, _, upd_same, small_one (by omega) (by omega) (by omega) (by omega), 2 * n, by rw [rangeSize_one]; split <;> omega, by omega, fun e3 he3 => ?_⟩
        have ke2 := (Kp.new (bs := []) (RngO e2 0 ((2 * n : Nat) : Int) 1) he2).trans (Kp.new (HO.lst (List.map V.int (rngL 0 1 (2 * n)))) he3)
        have hrng := upd_same (H := upd G e2 (RngO e2 0 ((2 * n : Nat) : Int) 1)) (a := e3) (o := HO.lst (List.map V.int (rngL 0 1 (2 * n))))
        generalize upd (upd G e2 (RngO e2 0 ((2 * n : Nat) : Int) 1)) e3 (HO.lst (List.map V.int (rngL 0 1 (2 * n)))) = G8 at *
        refine ⟨_, SqL.of (ke2 _ _ (by simp) hrow), _, SqL.of hrng, ?_⟩
        rw [if_neg (not_not_intro rfl)]
        have kb8 := kb5.trans ((kg5.trans ke2).mono (by simp))
        subst hr0
        refine seq_cut fun r hr0 => ?_
        walk_at "rd"
        refine ⟨rfl, ite2 (fun z => q _ kb8) (fun z => ?_)⟩
        have hn0 : 0 < n := by omega
        subst hr0
        refine seq_cut fun r hr0 => ?_
        walk_at "rd"
        have en1 : (n : Int) - 1 = ((n - 1 : Nat) : Int) := by omega
        rw [en1]
        refine ⟨n - 1, 1, rfl, by omega, by omega, fun pi G9 g9 hpi hi9 => ⟨pi, rfl, ⟨_, SqL.of hi9⟩, fun D5 hD5 => ?_⟩⟩
        have wl1 := wovO_len (n - 1) 1
        refine cl_list (xs := (wovO (n - 1) 1).map V.int) (fun j τ F => ∃ u, τ = [some (.ref bx), some (.int n), some (.ref D), some (.ref po), some (.ref pw), some (.ref pr), y6, none, none, none, u] ∧ Kp [D5] (upd G9 D5 (.lst [])) F ∧ F D5 = some (il (((wovO (n - 1) 1).take j).map fun x => x + 1))) ?_ ?_ ?_ ?_
        · exact ⟨none, rfl, Kp.refl, upd_same⟩
        · rintro j τ F _ ⟨u, rfl, kd, hd2⟩
          exact SqL.of ((Kp.drop1 hD5 kd) _ _ (by simp) hi9)
        · rintro j x τ F hx ⟨u, rfl, kd, hd2⟩
          obtain ⟨rfl, hj⟩ := get_map_elim hx
          walk_at "rd"
          refine ⟨_, hd2, by rw [List.length_map, List.length_map, List.length_take]; omega, kd.trans (Kp.set _ (by simp)), ?_⟩
          rw [take_D hj, List.map_append]
          exact upd_same.trans (congrArg some (congrArg HO.lst (by rw [List.map_append]; rfl)))
        · rintro τ F ⟨u, rfl, kd, hd2⟩
          rw [List.length_map, List.take_length] at hd2
          have kD5 := Kp.drop1 hD5 kd
          have kb9 := kb8.trans ((g9.trans kD5).mono (by simp))
          subst hr0
          refine seq_cut fun r hr0 => ?_
          walk_at "rd"
          refine ⟨n, 0, rfl, by omega, by omega, fun pu G10 g10 hpu hu => ?_⟩
          have hin := g10 _ _ (by simp) hd2
          have kb10 := kb9.trans (g10.mono (by simp))
          subst hr0
          refine seq_cut fun r hr0 => ?_
          walk_at "rd"
          refine ⟨by show 1 ≤ sizeLine; omega, fun q1 hq1 => ?_⟩
          have c1 := Kp.new (bs := []) (HO.lst [V.int 0]) hq1
          refine ⟨_, upd_same, _, c1 _ _ (by simp) hin, by rw [List.length_map, List.length_map]; show 1 + _ ≤ _; omega, fun q2 hq2 => ?_⟩
          generalize upd G10 q1 (HO.lst [V.int 0]) = G11 at *
          have c2 := Kp.new (bs := []) (HO.lst ([V.int 0] ++ List.map V.int ((wovO (n - 1) 1).map fun x => x + 1))) hq2
          have hq2' := upd_same (H := G11) (a := q2) (o := HO.lst ([V.int 0] ++ List.map V.int ((wovO (n - 1) 1).map fun x => x + 1)))
          generalize upd G11 q2 (HO.lst ([V.int 0] ++ List.map V.int ((wovO (n - 1) 1).map fun x => x + 1))) = G12 at *
          refine ⟨cmul_l (by decide) (by decide), by show 1 ≤ sizeLine; omega, fun q3 hq3 => ?_⟩
          have c3 := Kp.new (bs := []) (HO.lst [V.int (2 * (n : Int) - 1)]) hq3
          have hq3' := upd_same (H := G12) (a := q3) (o := HO.lst [V.int (2 * (n : Int) - 1)])
          have hq23 := c3 _ _ (by simp) hq2'
          generalize upd G12 q3 (HO.lst [V.int (2 * (n : Int) - 1)]) = G13 at *
          refine ⟨_, hq23, _, hq3', by rw [List.length_append, List.length_map, List.length_map]; show 1 + _ + 1 ≤ _; omega, fun q4 hq4 => ?_⟩
          have c4 := Kp.new (bs := []) (HO.lst ([V.int 0] ++ List.map V.int ((wovO (n - 1) 1).map fun x => x + 1) ++ [V.int (2 * (n : Int) - 1)])) hq4
          have hq4' := upd_same (H := G13) (a := q4) (o := HO.lst ([V.int 0] ++ List.map V.int ((wovO (n - 1) 1).map fun x => x + 1) ++ [V.int (2 * (n : Int) - 1)]))
          have eout : [V.int 0] ++ List.map V.int ((wovO (n - 1) 1).map fun x => x + 1) ++ [V.int (2 * (n : Int) - 1)] = (wovO n 0).map V.int := by rw [outer_eq hn0, List.map_append, List.map_append]; rfl
          generalize upd G13 q4 (HO.lst ([V.int 0] ++ List.map V.int ((wovO (n - 1) 1).map fun x => x + 1) ++ [V.int (2 * (n : Int) - 1)])) = G14 at *
          rw [eout] at hq4'
          have c14 := (c1.trans c2).trans (c3.trans c4)
          have hu14 := c14 _ _ (by simp) hu
          refine ⟨_, SqL.of hu14, _, SqL.of hq4', ?_⟩
          rw [if_neg (not_not_intro rfl)]
          have kb14 := kb10.trans (c14.mono (by simp))
          subst hr0
          walk_at "rd"
          have wl0 := wovO_len n 0
          refine ⟨_, SqL.of hu14, by decide, fun q5 hq5 => ?_⟩
          rw [slV_rev, ← List.map_reverse]
          have c5 := Kp.new (bs := []) (HO.lst (List.map V.int (wovO n 0).reverse)) hq5
          have hq5' := upd_same (H := G14) (a := q5) (o := HO.lst (List.map V.int (wovO n 0).reverse))
          generalize upd G14 q5 (HO.lst (List.map V.int (wovO n 0).reverse)) = G15 at *
          refine ⟨⟨_, SqL.of hq5'⟩, fun D6 hD6 => ?_⟩
          refine cl_list (xs := (wovO n 0).reverse.map V.int) (fun j τ F => ∃ u, τ = [some (.ref bx), some (.int n), some (.ref D), some (.ref po), some (.ref pw), some (.ref pr), y6, some (.ref D5), some (.ref pu), none, u] ∧ Kp [D6] (upd G15 D6 (.lst [])) F ∧ F D6 = some (il (((wovO n 0).reverse.take j).map fun x => 2 * (n : Int) - 1 - x))) ?_ ?_ ?_ ?_
          · exact ⟨none, rfl, Kp.refl, upd_same⟩
          · rintro j τ F _ ⟨u, rfl, kd, hd2⟩
            exact SqL.of ((Kp.drop1 hD6 kd) _ _ (by simp) hq5')
          · rintro j x τ F hx ⟨u, rfl, kd, hd2⟩
            obtain ⟨rfl, hj⟩ := get_map_elim hx
            walk_at "rd"
            refine ⟨cmul_l (by decide) (by decide), _, hd2, by rw [List.length_map, List.length_map, List.length_take, List.length_reverse]; omega, kd.trans (Kp.set _ (by simp)), ?_⟩
            rw [take_D hj, List.map_append]
            exact upd_same.trans (congrArg some (congrArg HO.lst (by rw [List.map_append]; rfl)))
          · rintro τ F ⟨u, rfl, kd, hd2⟩
            rw [List.length_map, List.take_length, outer_rev] at hd2
            have kD6 := Kp.drop1 hD6 kd
            refine ⟨D6, rfl, _, SqL.of hd2, _, SqL.of ((c5.trans kD6) _ _ (by simp) hu14), ?_⟩
            rw [show id (decide (wovO n 0 = wovO n 0)) = true by simp]
            exact q _ (kb14.trans ((c5.trans kD6).mono (by simp)))
abbrev s_law : Stmt := top 30
theorem sc_law : FnScope ["_law_script", "_law_part", "_law_power", "_law_box_here"] ["_law_script"] (defScope s_law) := ⟨rfl, rfl, rfl, by decide +kernel, rfl, by decide +kernel, by decide +kernel⟩
def spLaw (K : PySem.W.Frag) : Sp := fun vs H Q _ => ∃ (a : Addr) (ns : List Int), vs = [.ref a] ∧ SqL K H a (ns.map V.int) ∧ ns.length ≤ 63 ∧ ∀ H', Q (.bl true) H'
theorem df_law (a : At K mg "law" s_law) (B : Blt mg) (D_law_boxes : Df P w K mg base "_law_boxes" ["_law_script", "_law_many"] 19 (spBoxes K)) (D_law_halves : Df P w K mg base "_law_halves" ["_law_box_here"] 19 spHalves) (D_law_parts_right : Df P w K mg base "_law_parts_right" ["_law_part", "_law_power"] 19 spPright) (D_law_right : Df P w K mg base "_law_right" ["_law_box_here", "_law_many"] 19 spRight) : Df P w K mg base "law" ["_law_script"] 20 (spLaw K) := by
  refine df_of (k := 19) a sc_law (fun _ _ _ _ _ _ us hl => match us, hl with | [_], _ => rfl) (fun vs H Q E h => ?_) (fun f cdv A outer s H vs Q E hr h => ?_)
  · obtain ⟨a, ns, rfl, _⟩ := h; rfl
  obtain ⟨a, ns, rfl, ha, hn, q⟩ := h
  have sc := sc_law
  have hsl := hsl
  have Ball := B.all
  refine' ⟨_, pss_cons _ _, _⟩
  rotate_left 2
  · refine' ps_for _ _ _ _ _
    rotate_left 3
    · exact PassesOwn.never
    · rfl
    · refine' pi_tup _
      rotate_left 1
      refine' pe_tup _
      rotate_left 1
      refine' pa_cons _ _
      rotate_left 2
      · exact (pe_tup (pa_cons pe_int (pa_cons pe_int pa_nil)))
      · refine' pa_cons _ _
        rotate_left 2
        · exact (pe_tup (pa_cons pe_int (pa_cons pe_int pa_nil)))
        · refine' pa_cons _ _
          rotate_left 2
          · exact (pe_tup (pa_cons pe_int (pa_cons pe_int pa_nil)))
          · refine' pa_cons _ _
            rotate_left 2
            · exact (pe_tup (pa_cons pe_int (pa_cons pe_int pa_nil)))
            · exact pa_nil
    · exact (pg_tupK (K := K) 2 rfl rfl (pgs_cons (pg_name (i := 1) sc.nd rfl (by first | exact Or.inl rfl | exact Or.inr rfl)) (pgs_cons (pg_name (i := 2) sc.nd rfl (by first | exact Or.inl rfl | exact Or.inr rfl)) pgs_nil)))
    · exact (pss_one (ps_if (pt_not (pt_val (pe_cd D_law_parts_right hr rfl (pa_cons (pv 1) (pa_cons (pv 2) pa_nil))) (fun _ => rfl))) (pss_one (ps_ret pe_bl)) pss_nil))
  · exact (pss_one (ps_ret (pe_callB (call_allB rfl) rfl Ball bt_all (pa_cons (pe_comp (ts := [3]) rfl rfl (pi_list (pe_cd D_law_boxes hr rfl (pa_cons (pv 0) (pa_cons pe_int pa_nil)))) (fun _ _ _ _ => (pg_name (i := 3) sc.nd rfl (by first | exact Or.inl rfl | exact Or.inr rfl))) (fun _ _ _ _ => pif_nil) (fun _ _ _ _ => (pe_cd D_law_right hr rfl (pa_cons (pv 3) (pa_cons (pe_cd D_law_halves hr rfl (pa_cons (pv 3) pa_nil)) pa_nil))))) pa_nil))))
  rw [show start ["_law_script", "_law_part", "_law_power", "_law_box_here"] [V.ref a] = [some (.ref a), none, none, none] from rfl]
  walk_at "rd"
  refine ⟨by show 2 ≤ sizeLine; omega, fun p1 h1 => ⟨by show 2 ≤ sizeLine; omega, fun p2 h2 => ⟨by show 2 ≤ sizeLine; omega, fun p3 h3 => ⟨by show 2 ≤ sizeLine; omega, fun p4 h4 => ⟨by show 4 ≤ sizeLine; omega, fun p5 h5 => ?_⟩⟩⟩⟩⟩
  have k1 := Kp.new (bs := []) (HO.tup [V.int 1, V.int 1]) h1
  have k2 := Kp.new (bs := []) (HO.tup [V.int 4, V.int 2]) h2
  have k3 := Kp.new (bs := []) (HO.tup [V.int 13, V.int 3]) h3
  have k4 := Kp.new (bs := []) (HO.tup [V.int 40, V.int 4]) h4
  have k5 := Kp.new (bs := []) (HO.tup [V.ref p1, V.ref p2, V.ref p3, V.ref p4]) h5
  have a1 := (k2.trans (k3.trans (k4.trans k5))) _ _ (by simp) (upd_same (H := H) (a := p1) (o := HO.tup [V.int 1, V.int 1]))
  have a2 := (k3.trans (k4.trans k5)) _ _ (by simp) (upd_same (H := upd H p1 (HO.tup [V.int 1, V.int 1])) (a := p2) (o := HO.tup [V.int 4, V.int 2]))
  have a3 := (k4.trans k5) _ _ (by simp) (upd_same (H := upd (upd H p1 (HO.tup [V.int 1, V.int 1])) p2 (HO.tup [V.int 4, V.int 2])) (a := p3) (o := HO.tup [V.int 13, V.int 3]))
  have a4 := k5 _ _ (by simp) (upd_same (H := upd (upd (upd H p1 (HO.tup [V.int 1, V.int 1])) p2 (HO.tup [V.int 4, V.int 2])) p3 (HO.tup [V.int 13, V.int 3])) (a := p4) (o := HO.tup [V.int 40, V.int 4]))
  have a5 := upd_same (H := upd (upd (upd (upd H p1 (HO.tup [V.int 1, V.int 1])) p2 (HO.tup [V.int 4, V.int 2])) p3 (HO.tup [V.int 13, V.int 3])) p4 (HO.tup [V.int 40, V.int 4])) (a := p5) (o := HO.tup [V.ref p1, V.ref p2, V.ref p3, V.ref p4])
  have k15 := k1.trans (k2.trans (k3.trans (k4.trans k5)))
  generalize upd (upd (upd (upd (upd H p1 (HO.tup [V.int 1, V.int 1])) p2 (HO.tup [V.int 4, V.int 2])) p3 (HO.tup [V.int 13, V.int 3])) p4 (HO.tup [V.int 40, V.int 4])) p5 (HO.tup [V.ref p1, V.ref p2, V.ref p3, V.ref p4]) = H1 at *
  refine ⟨⟨_, SqT.of a5⟩, ?_⟩
  refine lp_tup (xs := [V.ref p1, V.ref p2, V.ref p3, V.ref p4]) (fun k τ G => ∃ y1 y2, τ = [some (.ref a), y1, y2, none] ∧ Kp [] H1 G) ?_ ?_ ?_ ?_
  · exact ⟨_, _, rfl, Kp.refl⟩
  · rintro k τ G _ ⟨y1, y2, rfl, kg⟩
    exact SqT.of (kg _ _ (by simp) a5)
  · rintro k x τ G hx ⟨y1, y2, rfl, kg⟩
    obtain ⟨px, m, c, ex, hpx, hmc⟩ : ∃ (px : Addr) (m c : Nat), x = .ref px ∧ H1 px = some (.tup [.int m, .int c]) ∧ ((m = 1 ∧ c = 1) ∨ (m = 4 ∧ c = 2) ∨ (m = 13 ∧ c = 3) ∨ (m = 40 ∧ c = 4)) := by
      match k, hx with
      | 0, hx => exact ⟨p1, 1, 1, (Option.some.inj hx).symm, a1, by decide⟩
      | 1, hx => exact ⟨p2, 4, 2, (Option.some.inj hx).symm, a2, by decide⟩
      | 2, hx => exact ⟨p3, 13, 3, (Option.some.inj hx).symm, a3, by decide⟩
      | 3, hx => exact ⟨p4, 40, 4, (Option.some.inj hx).symm, a4, by decide⟩
    subst ex
    walk_at "rd"
    refine ⟨_, SqT.of (kg _ _ (by simp) hpx), rfl, _, _, rfl, _, _, rfl, rfl, ?_⟩
    refine ⟨m, c, rfl, hmc, fun G1 g1 => ⟨true, rfl, ?_⟩⟩
    rw [if_neg (by decide)]
    exact kg.trans g1
  · rintro τ G ⟨y1, y2, rfl, kg⟩
    walk_at "rd"
    have haG := Kp_sq' ha (k15.trans kg)
    refine ⟨a, 6, ns, rfl, haG, by decide, by decide, hn, fun pb H2 bs k2' hpb hb nd hbx lb => ⟨pb, rfl, ⟨_, SqL.of hb⟩, fun D hD => ?_⟩⟩
    have nDb : ∀ b ∈ bs, b ≠ D := fun b hb' => (hbx b hb').1.ne hD
    have npD : pb ≠ D := ne_of_none hb hD
    have npb : pb ∉ bs := fun z => (hbx pb z).2.1 rfl
    refine cl_list (xs := bs.map V.ref) (fun k τ F => ∃ u, τ = [some (.ref a), y1, y2, u] ∧ Kp (D :: bs) (upd H2 D (.lst [])) F ∧ (∀ j (hj : j < bs.length), k ≤ j → Bx F bs[j] 0) ∧ F D = some (.lst (List.map V.bl (List.replicate k true)))) ?_ ?_ ?_ ?_
    · exact ⟨none, rfl, Kp.refl, fun j hj _ => (hbx _ (List.getElem_mem hj)).1.new hD, upd_same⟩
    · rintro k τ F _ ⟨u, rfl, kf, _⟩
      exact SqL.of (kf _ _ (by simp [npD, npb]) ((upd_ne npD).trans hb))
    · rintro k x τ F hx ⟨u, rfl, kf, hbF, hd⟩
      rw [List.getElem?_map] at hx
      have hk : k < bs.length := by
        rcases Nat.lt_or_ge k bs.length with y | y
        · exact y
        · rw [List.getElem?_eq_none y] at hx; cases hx
      rw [List.getElem?_eq_getElem hk] at hx
      obtain rfl : V.ref bs[k] = x := Option.some.inj hx
      have hbm : bs[k] ∈ bs := List.getElem_mem hk
      have bk := hbF k hk (Nat.le_refl k)
      have nkD := nDb _ hbm
      have others : ∀ j (hj : j < bs.length), k + 1 ≤ j → bs[j] ≠ bs[k] := fun j hj hkj z => by
        have := (List.getElem_inj nd).mp z
        omega
      generalize bs[k] = b at *
      walk_at "rd"
      refine ⟨b, 0, rfl, bk, by decide, fun n F1 f1 b1 hn1 => ?_⟩
      refine ⟨b, n, _, rfl, hn1, b1, by omega, fun F2 f2 => ?_⟩
      have f12 := f1.trans f2
      have hd2 := f12 _ _ (by simpa using Ne.symm nkD) hd
      refine ⟨_, hd2, by rw [List.length_map, List.length_replicate]; omega, ?_, fun j hj hkj => ?_, ?_⟩
      · exact (kf.trans (f12.mono (by intro c hc; simp at hc; simp [hc, hbm]))).trans (Kp.set _ (by simp))
      · have h1 := (hbF j hj (by omega)).kps f12 (others j hj hkj)
        exact h1.kps (Kp.set (bs := [D]) _ (by simp)) (nDb _ (List.getElem_mem hj))
      · exact upd_same.trans (congrArg some (congrArg HO.lst (by rw [List.replicate_succ', List.map_append]; rfl)))
    · rintro τ F ⟨u, rfl, kf, hbF, hd⟩
      refine ⟨D, rfl, _, SqL.of hd, ?_⟩
      rw [show (List.replicate (bs.map V.ref).length true).all id = true by simp]
      exact q _
end
theorem all_mk {l : PySem.W.OpenLaw} {w : World} {K : PySem.W.Frag} {h : Heap} {mg : Str → Option Value} {fa : Addr} (X : K.In h) (G : h.Ns mainGlobals mg) (hfa : mg "law" = some (.ref fa)) (a : At K mg "law" s_law) (B : Blt mg) (Bset : mg "set" = none)
    (a1 : At K mg "_law_take" s_take) (a2 : At K mg "_law_box" s_box) (a3 : At K mg "_law_folded" s_folded) (a4 : At K mg "unweave_order" s_uorder) (a5 : At K mg "_law_boxes" s_boxes) (a6 : At K mg "_law_halves" s_halves) (a7 : At K mg "back_of" s_back_of) (a8 : At K mg "part_within" s_pwithin)
    (a9 : At K mg "weave_parts" s_wparts) (a10 : At K mg "_law_done" s_done) (a11 : At K mg "_law_went" s_went) (a12 : At K mg "ring_from" s_ring_from) (a13 : At K mg "rings" s_rings) (a14 : At K mg "round_ring" s_round_ring) (a15 : At K mg "roll_order" s_roll_order) (a16 : At K mg "exchange_plan" s_xp) (a17 : At K mg "weave_order" s_worder) (a18 : At K mg "round_weave" s_rweave) (a19 : At K mg "weave_plan" s_wplan)
    (a20 : At K mg "_law_put" s_lput) (a21 : At K mg "weave_turns" s_wturns) (a22 : At K mg "_law_rings" s_lrings) (a23 : At K mg "_law_parts_right" s_pright) (a24 : At K mg "_law_right" s_right) :
    ∃ fd : FuncData, (∀ (s : Shared) (v : Value), BindsTo s fd ⟨[v], []⟩ [("_law_script", v)]) ∧ ∀ base : Heap, K.In base → base.Ns mainGlobals mg → FnOk l.prog w K mg base CX0 20 fa fd ["_law_script"] (spLaw K) := by
  obtain ⟨f, fd, F, m⟩ := id a
  obtain rfl : fa = f := by rw [hfa] at m; cases m; rfl
  obtain ⟨oc, od, kV, doc, pm, an, cdv, ct, osl, e, lk, hcd⟩ := F.ex
  refine ⟨fd, fun s v => ?_, fun base _ _ => ?_⟩
  · subst e; exact .of_eq rfl
  · have T := df_take (P := l.prog) (w := w) (base := base) a1 B
    have rf := df_ring_from (P := l.prog) (w := w) (base := base) a12 B
    have rr := df_round_ring (P := l.prog) (w := w) (base := base) a14 B
    have wo := df_worder (P := l.prog) (w := w) (base := base) a17 B
    have xp := df_xp (P := l.prog) (w := w) (base := base) a16 B ((df_roll_order a15 B).mono (by decide)) (df_rings a13 B rf) (rr.mono (by decide))
    have rv := df_rweave (P := l.prog) (w := w) (base := base) a18 B wo rf rr
    have wp := df_wplan (P := l.prog) (w := w) (base := base) a19 B ((df_wparts a9 B (df_pwithin a8 B)).mono (by decide)) xp (rv.mono (by decide))
    have we := df_went (P := l.prog) (w := w) (base := base) a11 B Bset (df_done a10 B)
    have uo := df_uorder (P := l.prog) (w := w) (base := base) a4 B wo (df_back_of a7 B)
    have R := df_right (P := l.prog) (w := w) (base := base) a24 B (T.mono (by decide)) (wo.mono (by decide)) (we.mono (by decide)) (wp.mono (by decide)) ((df_lput a20 B).mono (by decide)) (uo.mono (by decide)) ((df_wturns a21 B).mono (by decide))
    have L := df_law (P := l.prog) (w := w) (base := base) a B ((df_boxes a5 B (df_folded a3 B) (df_box a2 B)).mono (by decide)) ((df_halves a6 B T).mono (by decide)) ((df_pright a23 B (df_lrings a22 B) wo).mono (by decide)) (R.mono (by decide))
    exact L.fn m lk
theorem walk {l : PySem.W.OpenLaw} {q : Program} {loose : List Str} {XP : (Str → Option Value) → Heap → Prop} {YP : World → Heap → Prop} {d : DefRec} {K : Params → PySem.W.Frag} (hn : l.most = some 63) (hdf : d.params.defaults = [])
    (hY : ∀ (w : World) (h : Heap), YP w h → (K w.params).In h)
    (F : ∀ (w : World) (mg : Str → Option Value) (fa : Addr) (h : Heap), (K w.params).In h → h.Ns mainGlobals mg → mg d.name = some (.ref fa) →
      ∃ fd : FuncData, (∀ (s : Shared) (u : Value), BindsTo s fd ⟨[u], []⟩ [("_law_script", u)]) ∧ ∀ base : Heap, (K w.params).In base → base.Ns mainGlobals mg → FnOk l.prog w (K w.params) mg base CX0 20 fa fd ["_law_script"] (spLaw (K w.params))) :
    PySem.W.WalkO q loose XP YP l.row.toRowW d [] (fun f vs => PySem.call f vs) :=
  L2.walk_of (n := 63) (k := 20) (x := "_law_script") (CX := fun _ => CX0) (sp := fun w => spLaw (K w.params)) hn (by decide) hdf ⟨rfl, by decide, by decide⟩ hY F (fun _ _ a ns hl _ hS => ⟨a, ns, rfl, hS, hl, fun _ => rfl⟩) fun _ _ _ _ _ z => z
end Ot
open PySem PySem.W PyProof.Rows
set_option maxRecDepth 100000 in
set_option maxHeartbeats 0 in
theorem PySem.Challenge.cw_ownturn_k44_whole_weaving_walked_holds : PySem.Challenge.rw_ownturn_k44_whole_weaving_walked.Holds := by
  w_on; o_law; k_head; (case hw => w_witness2)
  k_fill
  refine Ot.walk (l := PySem.Challenge.rw_ownturn_k44_whole_weaving_walked) rfl rfl (fun w h Y => PySem.W.kIn_of Y) ?F
  case F =>
    intro w mg fa h KX G hmg
    refine' Ot.all_mk KX G hmg (L2.at_mk KX G ?a0 ?l0 ?c0 ?k0) (L2.blt_mk KX G ?z1 ?z2 ?z3 ?z4 ?z5 ?z6 ?z7 ?z8 ?z9 ?z10 ?z11 ?z12 ?z13 ?z14 ?z15 ?z16) (PySem.W.mg_none_of KX G ?zset) (L2.at_mk KX G ?a1 ?l1 ?c1 ?k1) (L2.at_mk KX G ?a2 ?l2 ?c2 ?k2) (L2.at_mk KX G ?a3 ?l3 ?c3 ?k3) (L2.at_mk KX G ?a4 ?l4 ?c4 ?k4) (L2.at_mk KX G ?a5 ?l5 ?c5 ?k5) (L2.at_mk KX G ?a6 ?l6 ?c6 ?k6) (L2.at_mk KX G ?a7 ?l7 ?c7 ?k7) (L2.at_mk KX G ?a8 ?l8 ?c8 ?k8) (L2.at_mk KX G ?a9 ?l9 ?c9 ?k9) (L2.at_mk KX G ?a10 ?l10 ?c10 ?k10) (L2.at_mk KX G ?a11 ?l11 ?c11 ?k11) (L2.at_mk KX G ?a12 ?l12 ?c12 ?k12) (L2.at_mk KX G ?a13 ?l13 ?c13 ?k13) (L2.at_mk KX G ?a14 ?l14 ?c14 ?k14) (L2.at_mk KX G ?a15 ?l15 ?c15 ?k15) (L2.at_mk KX G ?a16 ?l16 ?c16 ?k16) (L2.at_mk KX G ?a17 ?l17 ?c17 ?k17) (L2.at_mk KX G ?a18 ?l18 ?c18 ?k18) (L2.at_mk KX G ?a19 ?l19 ?c19 ?k19) (L2.at_mk KX G ?a20 ?l20 ?c20 ?k20) (L2.at_mk KX G ?a21 ?l21 ?c21 ?k21) (L2.at_mk KX G ?a22 ?l22 ?c22 ?k22) (L2.at_mk KX G ?a23 ?l23 ?c23 ?k23) (L2.at_mk KX G ?a24 ?l24 ?c24 ?k24)
    (case a0 => k_is); (case l0 => k_is); (case c0 => k_is); (case k0 => k_is)
    (case a1 => k_is); (case l1 => k_is); (case c1 => k_is); (case k1 => k_is)
    (case a2 => k_is); (case l2 => k_is); (case c2 => k_is); (case k2 => k_is)
    (case a3 => k_is); (case l3 => k_is); (case c3 => k_is); (case k3 => k_is)
    (case a4 => k_is); (case l4 => k_is); (case c4 => k_is); (case k4 => k_is)
    (case a5 => k_is); (case l5 => k_is); (case c5 => k_is); (case k5 => k_is)
    (case a6 => k_is); (case l6 => k_is); (case c6 => k_is); (case k6 => k_is)
    (case a7 => k_is); (case l7 => k_is); (case c7 => k_is); (case k7 => k_is)
    (case a8 => k_is); (case l8 => k_is); (case c8 => k_is); (case k8 => k_is)
    (case a9 => k_is); (case l9 => k_is); (case c9 => k_is); (case k9 => k_is)
    (case a10 => k_is); (case l10 => k_is); (case c10 => k_is); (case k10 => k_is)
    (case a11 => k_is); (case l11 => k_is); (case c11 => k_is); (case k11 => k_is)
    (case a12 => k_is); (case l12 => k_is); (case c12 => k_is); (case k12 => k_is)
    (case a13 => k_is); (case l13 => k_is); (case c13 => k_is); (case k13 => k_is)
    (case a14 => k_is); (case l14 => k_is); (case c14 => k_is); (case k14 => k_is)
    (case a15 => k_is); (case l15 => k_is); (case c15 => k_is); (case k15 => k_is)
    (case a16 => k_is); (case l16 => k_is); (case c16 => k_is); (case k16 => k_is)
    (case a17 => k_is); (case l17 => k_is); (case c17 => k_is); (case k17 => k_is)
    (case a18 => k_is); (case l18 => k_is); (case c18 => k_is); (case k18 => k_is)
    (case a19 => k_is); (case l19 => k_is); (case c19 => k_is); (case k19 => k_is)
    (case a20 => k_is); (case l20 => k_is); (case c20 => k_is); (case k20 => k_is)
    (case a21 => k_is); (case l21 => k_is); (case c21 => k_is); (case k21 => k_is)
    (case a22 => k_is); (case l22 => k_is); (case c22 => k_is); (case k22 => k_is)
    (case a23 => k_is); (case l23 => k_is); (case c23 => k_is); (case k23 => k_is)
    (case a24 => k_is); (case l24 => k_is); (case c24 => k_is); (case k24 => k_is)
    (case z1 => k_is)
    (case z2 => k_is)
    (case z3 => k_is)
    (case z4 => k_is)
    (case z5 => k_is)
    (case z6 => k_is)
    (case z7 => k_is)
    (case z8 => k_is)
    (case z9 => k_is)
    (case z10 => k_is)
    (case z11 => k_is)
    (case z12 => k_is)
    (case z13 => k_is)
    (case z14 => k_is)
    (case z15 => k_is)
    (case z16 => k_is)
    (case zset => k_is)
