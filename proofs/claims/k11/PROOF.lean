import PyProof.Rows.All
import Wide.All
import OpenK.AllK
import Wide.FinOn
import Lean
import PyProof.EqAt
import PyProof.EqKinds
import PyProof.TupleCall
import PySem.Challenge.RW_ownturn_k11_deeds_counted
set_option Elab.async false
set_option linter.all false
set_option maxRecDepth 100000
/-! THE HAND LAYER, for ints, bools, texts, own classes, LISTS and tuples (index, slices, in, append, pop ..), calls, loops. Paste it whole ahead of your own text; what your proof does not reach may be deleted. -/
namespace L2
open PySem PySem.Spec PyProof.Rows

/-- a key: an int or a str -/
abbrev Key := Sum Int Str
def keyIs : Key → Value → Bool
  | .inl k, v => Value.isInt k v
  | .inr x, v => Value.isStrOf x v
def keyH (w : World) : Key → Int
  | .inl k => hashInt k
  | .inr x => hashStr w x
theorem keyIs_shape : ∀ {k : Key} {v : Value}, keyIs k v = true → (∃ i t, k = Sum.inl i ∧ v = Value.int i t) ∨ (∃ x t, k = Sum.inr x ∧ v = Value.str x t)
  | .inl i, v, h => by
    obtain ⟨t, e⟩ := Value.isInt_shape (k := i) (v := v) h
    exact .inl ⟨i, t, rfl, e⟩
  | .inr x, v, h => by
    obtain ⟨t, e⟩ := Value.isStrOf_shape (x := x) (v := v) h
    exact .inr ⟨x, t, rfl, e⟩
theorem keyIs_int (i : Int) (t : Tok) : keyIs (.inl i) (.int i t) = true := by simp [keyIs, Value.isInt]
theorem keyIs_str (x : Str) (t : Tok) : keyIs (.inr x) (.str x t) = true := by simp [keyIs, Value.isStrOf]
theorem key_ll (a b : Int) : decide ((Sum.inl a : Key) = Sum.inl b) = (a == b) := by
  by_cases e : a = b
  · subst e; simp
  · have h : ¬ (Sum.inl a : Key) = Sum.inl b := fun q => e (Sum.inl.inj q)
    rw [decide_eq_false h]
    exact (beq_eq_false_iff_ne.mpr e).symm
theorem key_rr (a b : Str) : decide ((Sum.inr a : Key) = Sum.inr b) = decide (a = b) := by
  by_cases e : a = b
  · subst e; simp
  · have h : ¬ (Sum.inr a : Key) = Sum.inr b := fun q => e (Sum.inr.inj q)
    rw [decide_eq_false h, decide_eq_false e]
theorem key_lr (a : Int) (b : Str) : decide ((Sum.inl a : Key) = Sum.inr b) = false := decide_eq_false (fun q => nomatch q)
theorem key_rl (a : Str) (b : Int) : decide ((Sum.inr a : Key) = Sum.inl b) = false := decide_eq_false (fun q => nomatch q)

def mixKind (prog : Program) (w : World) : PySem.KeyKind prog w Key where
  is := keyIs
  hash := keyH w
  inj := fun v a b ha hb => by
    rcases keyIs_shape ha with ⟨i, t, rfl, rfl⟩ | ⟨x, t, rfl, rfl⟩
    · rcases keyIs_shape hb with ⟨j, u, rfl, e⟩ | ⟨y, u, rfl, e⟩
      · injection e with e1 _; rw [e1]
      · exact nomatch e
    · rcases keyIs_shape hb with ⟨j, u, rfl, e⟩ | ⟨y, u, rfl, e⟩
      · exact nomatch e
      · injection e with e1 _; rw [e1]
  byValue := fun k v h => by
    rcases keyIs_shape h with ⟨i, t, rfl, rfl⟩ | ⟨x, t, rfl, rfl⟩ <;> rfl
  pyHash := fun hv h => by
    rcases keyIs_shape hv with ⟨i, t, rfl, rfl⟩ | ⟨x, t, rfl, rfl⟩
    · exact wpAny_pyHash_int h
    · exact wpAny_pyHash_str h
  eqBool := fun hu hv h => by
    rcases keyIs_shape hu with ⟨i, t, rfl, rfl⟩ | ⟨x, t, rfl, rfl⟩
    · rcases keyIs_shape hv with ⟨j, u, rfl, rfl⟩ | ⟨y, u, rfl, rfl⟩
      · rw [key_ll] at h; exact wpAny_eqBool_int h
      · rw [key_lr] at h; exact SeqAt.EqAt.int_str i t y u _ _ _ _ h
    · rcases keyIs_shape hv with ⟨j, u, rfl, rfl⟩ | ⟨y, u, rfl, rfl⟩
      · rw [key_rl] at h; exact SeqAt.EqAt.str_int x t j u _ _ _ _ h
      · rw [key_rr] at h; exact wpAny_eqBool_str h
  «strs» := fun k x t v h => by
    rcases keyIs_shape h with ⟨i, u, rfl, e⟩ | ⟨y, u, rfl, e⟩
    · exact nomatch e
    · injection e with e1 _
      subst e1
      cases v <;> rfl

theorem mixKind_int (prog : Program) (w : World) (i : Int) (t : Tok) : (mixKind prog w).is (.inl i) (.int i t) = true := keyIs_int i t
theorem mixKind_str (prog : Program) (w : World) (x : Str) (t : Tok) : (mixKind prog w).is (.inr x) (.str x t) = true := keyIs_str x t
end L2

namespace L2
open PySem PySem.Spec PyProof.Rows

/-- a value, without the heap -/
inductive V where
  | non | bl (b : Bool) | int (i : Int) | str (x : Str) | byt (b : Array UInt8) | flt (b : UInt64) | ref (a : Addr) | ty (n : String)
  deriving DecidableEq

def RelV : V → Value → Prop
  | .non, u => u = Value.none
  | .bl b, u => u = Value.bool b
  | .int i, u => ∃ t, u = Value.int i t
  | .str x, u => ∃ t, u = Value.str x t
  | .byt b, u => ∃ t, u = Value.bytes b t
  | .flt b, u => ∃ t, u = Value.float b t
  | .ref a, u => u = Value.ref a
  | .ty n, u => u = Value.type n

abbrev Vals : List V → List Value → Prop := Paired RelV
theorem Vals.length {xs : List V} {us : List Value} (r : Vals xs us) : xs.length = us.length := Paired.length r
theorem Vals.get : ∀ {xs : List V} {us : List Value} {i : Nat} {x : V}, Vals xs us → xs[i]? = some x → ∃ u, us[i]? = some u ∧ RelV x u
  | _, _, _, _, .nil, e => by simp at e
  | _, _, 0, _, .cons r _, e => by simp at e; subst e; exact ⟨_, rfl, r⟩
  | _, _, i + 1, x, .cons _ t, e => by
    obtain ⟨u, h1, h2⟩ := Vals.get (i := i) (x := x) t (by simpa using e)
    exact ⟨u, by simpa using h1, h2⟩
theorem Vals.set {x : V} {u : Value} (r : RelV x u) : ∀ {xs : List V} {us : List Value} (i : Nat), Vals xs us → Vals (xs.set i x) (us.set i u)
  | _, _, _, .nil => .nil
  | _, _, 0, .cons _ t => .cons r t
  | _, _, i + 1, .cons q t => .cons q (Vals.set r i t)
theorem Vals.append : ∀ {xs ys : List V} {us ws : List Value}, Vals xs us → Vals ys ws → Vals (xs ++ ys) (us ++ ws)
  | _, _, _, _, .nil, s => s
  | _, _, _, _, .cons r t, s => .cons r (Vals.append t s)
theorem Vals.take : ∀ {xs : List V} {us : List Value} (n : Nat), Vals xs us → Vals (xs.take n) (us.take n)
  | _, _, 0, _ => .nil
  | _, _, _ + 1, .nil => .nil
  | _, _, n + 1, .cons r t => .cons r (Vals.take n t)
theorem Vals.drop : ∀ {xs : List V} {us : List Value} (n : Nat), Vals xs us → Vals (xs.drop n) (us.drop n)
  | _, _, 0, r => r
  | _, _, _ + 1, .nil => .nil
  | _, _, n + 1, .cons _ t => Vals.drop n t
theorem Vals.none_of : ∀ {xs : List V} {us : List Value} {i : Nat}, Vals xs us → xs[i]? = none → us[i]? = none := fun {xs us i} r e => by
  have h1 := r.length
  have h2 : xs.length ≤ i := List.getElem?_eq_none_iff.mp e
  exact List.getElem?_eq_none_iff.mpr (by omega)

def RelO : Option V → Option Value → Prop
  | some v, some u => RelV v u
  | none, none => True
  | _, _ => False
def KV {κ : Type} : List (κ × V) → List (κ × Value) → Prop := Paired fun (p : κ × V) (q : κ × Value) => p.1 = q.1 ∧ RelV p.2 q.2

/-- a key of a dict (00_mix): an int or a text -/
def kV : Key → V
  | .inl i => .int i
  | .inr x => .str x

/-- what stands at a tracked address -/
inductive HO where
  /-- a list -/
  | lst (xs : List V)
  /-- a tuple (never changes) -/
  | tup (xs : List V)
  /-- a dict whose keys are ints and texts; one whose keys are tuples of ints and texts (the empty one is both) -/
  | dK (kvs : List (Key × V)) | dT (kvs : List (List Key × V))
  /-- a set of ints: its members, its size -/
  | set (S : Int → Bool) (n : Nat)
  /-- an instance of the class at C, its dict at dx, its attributes -/
  | ins (C dx : Addr) (fs : List (Str × V))
  /-- the dict of the instance at x -/
  | own (x : Addr)
  /-- the dict of an exception -/
  | xd (fs : List (Str × V))
  /-- a bound method, f of x -/
  | met (f x : Addr)
  /-- a range object lo, lo + 1, .. below hi -/
  | rng (lo hi : Int)
  /-- a thing that is known to the object (the script; a dict while a loop walks it): read, never written while it is so -/
  | frz (o : Obj) (u : HO)
  /-- a code object's table -/
  | tbl (ps : Array Value)
  /-- any other thing, by what is true of its one object (a def of one's own: SetO a S n := HO.ext fun h => ..) -/
  | ext (φ : Heap → Prop)

abbrev Hp := Addr → Option HO
def upd (H : Hp) (a : Addr) (o : HO) : Hp := fun b => if b = a then some o else H b
theorem upd_same {H : Hp} {a : Addr} {o : HO} : upd H a o a = some o := by unfold upd; rw [if_pos rfl]
theorem upd_ne {H : Hp} {a b : Addr} {o : HO} (h : b ≠ a) : upd H a o b = H b := by unfold upd; rw [if_neg h]
theorem ne_of_none {H : Hp} {a b : Addr} {o : HO} (h : H a = some o) (h' : H b = none) : a ≠ b := by
  intro e; subst e; rw [h] at h'; cases h'

section
variable (P : Program) (w : World)
def ObjOk (H : Hp) (h : Heap) (a : Addr) : HO → Prop
  | .lst xs => xs.length ≤ sizeLine ∧ ∃ (its : List Value) (n : Nat), Vals xs its ∧ h.get? a = some { cls := .type "list", data := .seq its.toArray n }
  | .tup xs => xs.length ≤ sizeLine ∧ ∃ its : List Value, Vals xs its ∧ IsTup h a its.toArray
  | .dK kvs => kvs.length ≤ sizeLine ∧ (a == sysModules) = false ∧ ∃ vs, KV kvs vs ∧ h.DictOf (mixKind P w) a vs
  | .dT kvs => kvs.length ≤ sizeLine ∧ (a == sysModules) = false ∧ ∃ xs : List (List Key × Addr × Value),
      Paired (fun (p : List Key × V) (q : List Key × Addr × Value) => p.1 = q.1 ∧ H q.2.1 = some (.tup (p.1.map kV)) ∧ RelV p.2 q.2.2) kvs xs ∧
      ∃ o es ep, h.get? a = some o ∧ o.ExactDict ∧ o.data = .dict es ep ∧ es.toList = xs.map (entryOfKey (tupleKind (mixKind P w))) ∧ (xs.map (·.1)).Nodup
  | .set S n => h.SetOf (intKind P w) a S n
  | .ins C dx fs => H dx = some (.own a) ∧ fs.length ≤ 1000 ∧ dx ≠ a ∧ h.get? a = some (PySem.W.instObj C dx) ∧
      ∃ mA, h.Ns1 dx mA ∧ (∀ f, RelO (fs.lookup f) (mA f)) ∧ PySem.Within mA (fs.map (·.1))
  | .own _ => ∃ o, h.get? a = some o
  | .xd fs => ∃ mA, h.Ns1 a mA ∧ ∀ f, RelO (fs.lookup f) (mA f)
  | .rng lo hi => ∃ t u v, h.get? a = some { cls := .type "range", data := .fields #[.int lo t, .int hi u, .int 1 v] }
  | .frz o u => h.get? a = some o ∧ ObjOk H h a u
  | .tbl ps => h.get? a = some { cls := .none, data := .fields ps }
  | .met f x => h.get? a = some (PySem.W.methodObj (.ref f) (.ref x))
  | .ext φ => φ h ∧ (∃ o, h.get? a = some o) ∧ ∀ h1 h2 : Heap, φ h1 → (∀ o, h1.get? a = some o → h2.get? a = some o) → φ h2
/-- the abstract heap is held -/
def HOk (H : Hp) (h : Heap) : Prop := ∀ a o, H a = some o → ObjOk P w H h a o
end

section
variable {P : Program} {w : World} {H H' : Hp} {h h' : Heap} {a : Addr} {o : HO}
theorem ObjOk.lt (x : ObjOk P w H h a o) : a < h.objs.size := by
  cases o with
  | lst xs => obtain ⟨_, _, _, _, e⟩ := x; exact Heap.lt_size e
  | tup xs => obtain ⟨_, _, _, p⟩ := x; exact p.lt
  | dK kvs => obtain ⟨_, _, _, _, o, _, _, e, _⟩ := x; exact Heap.lt_size e
  | dT kvs => obtain ⟨_, _, _, _, o, _, _, e, _⟩ := x; exact Heap.lt_size e
  | set S n => obtain ⟨o, _, _, _, e, _⟩ := x; exact Heap.lt_size e
  | ins C dx fs => obtain ⟨_, _, _, e, _⟩ := x; exact Heap.lt_size e
  | own y => obtain ⟨_, e⟩ := x; exact Heap.lt_size e
  | xd fs => obtain ⟨_, ⟨_, _, _, e, _⟩, _⟩ := x; exact Heap.lt_size e
  | rng lo hi => obtain ⟨_, _, _, e⟩ := x; exact Heap.lt_size e
  | frz ob u => obtain ⟨e, _⟩ := x; exact Heap.lt_size e
  | tbl ps => exact Heap.lt_size (show h.get? a = some _ from x)
  | met f y => exact Heap.lt_size (show h.get? a = some _ from x)
  | ext φ => obtain ⟨_, ⟨_, e⟩, _⟩ := x; exact Heap.lt_size e
theorem Paired.mapP {α β : Type} {F G : α → β → Prop} : ∀ {l₁ : List α} {l₂ : List β}, Paired F l₁ l₂ → (∀ a b, F a b → G a b) → Paired G l₁ l₂
  | _, _, .nil, _ => .nil
  | _, _, .cons r t, f => .cons (f _ _ r) (Paired.mapP t f)
/-- what an object's description leans on: its own object, its own dict, the tuples -/
theorem ObjOk.stay (x : ObjOk P w H h a o) (k : ∀ b u, (b = a ∨ H b = some (.own a)) → h.get? b = some u → h'.get? b = some u)
    (ho : ∀ b, H b = some (.own a) → H' b = some (.own a)) (ht : ∀ b xs, H b = some (.tup xs) → H' b = some (.tup xs)) : ObjOk P w H' h' a o := by
  induction o with
  | lst xs => obtain ⟨z, its, n, r, e⟩ := x; exact ⟨z, its, n, r, k _ _ (.inl rfl) e⟩
  | tup xs => obtain ⟨z, its, r, ob, e, c⟩ := x; exact ⟨z, its, r, ob, k _ _ (.inl rfl) e, c⟩
  | dK kvs => obtain ⟨z, y, vs, r, ob, es, ep, e, c⟩ := x; exact ⟨z, y, vs, r, ob, es, ep, k _ _ (.inl rfl) e, c⟩
  | dT kvs =>
    obtain ⟨z, y, xs, r, ob, es, ep, e, c⟩ := x
    exact ⟨z, y, xs, Paired.mapP r fun p q z => ⟨z.1, ht _ _ z.2.1, z.2.2⟩, ob, es, ep, k _ _ (.inl rfl) e, c⟩
  | set S n => obtain ⟨ob, es, ep, t, e, c⟩ := x; exact ⟨ob, es, ep, t, k _ _ (.inl rfl) e, c⟩
  | ins C dx fs =>
    obtain ⟨d, z, ne, e, mA, ⟨od, es, ep, e2, c⟩, r⟩ := x
    exact ⟨ho _ d, z, ne, k _ _ (.inl rfl) e, mA, ⟨od, es, ep, k _ _ (.inr d) e2, c⟩, r⟩
  | own y => obtain ⟨ob, e⟩ := x; exact ⟨ob, k _ _ (.inl rfl) e⟩
  | xd fs => obtain ⟨mA, ⟨od, es, ep, e, c⟩, r⟩ := x; exact ⟨mA, ⟨od, es, ep, k _ _ (.inl rfl) e, c⟩, r⟩
  | rng lo hi => obtain ⟨t, u, v, e⟩ := x; exact ⟨t, u, v, k _ _ (.inl rfl) e⟩
  | frz ob u ih => obtain ⟨e, q⟩ := x; exact ⟨k _ _ (.inl rfl) e, ih q⟩
  | tbl ps =>
    have e : h.get? a = some { cls := .none, data := .fields ps } := x
    show h'.get? a = some { cls := .none, data := .fields ps }
    exact k a _ (.inl rfl) e
  | met f y =>
    have e : h.get? a = some (PySem.W.methodObj (.ref f) (.ref y)) := x
    show h'.get? a = some (PySem.W.methodObj (.ref f) (.ref y))
    exact k a _ (.inl rfl) e
  | ext φ => obtain ⟨p, ⟨o, e⟩, st⟩ := x; exact ⟨st _ _ p fun o q => k _ _ (.inl rfl) q, ⟨o, k _ _ (.inl rfl) e⟩, st⟩
theorem HOk.lt (x : HOk P w H h) (e : H a = some o) : a < h.objs.size := (x a o e).lt
theorem HOk.fresh (x : HOk P w H h) (e : h.objs.size ≤ a) : H a = none := by
  cases q : H a with
  | none => rfl
  | some u => exact absurd (Nat.lt_of_lt_of_le (x.lt q) e) (Nat.lt_irrefl _)
/-- every object of the heap is kept -/
theorem HOk.kept (x : HOk P w H h) (k : ∀ b u, h.get? b = some u → h'.get? b = some u) : HOk P w H h' := fun a o e =>
  (x a o e).stay (fun b u _ q => k b u q) (fun _ q => q) fun _ _ q => q
/-- a new object is laid and tracked -/
theorem HOk.laid (x : HOk P w H h) (k : ∀ b u, h.get? b = some u → h'.get? b = some u) (hp : h.objs.size ≤ a) (new : ObjOk P w (upd H a o) h' a o) : HOk P w (upd H a o) h' := fun b u e => by
  have hn := x.fresh hp
  by_cases hb : b = a
  · subst hb; rw [upd_same] at e; cases e; exact new
  · rw [upd_ne hb] at e
    exact (x b u e).stay (fun c v _ q => k c v q) (fun c q => by rw [upd_ne (ne_of_none q hn)]; exact q) fun c xs q => by rw [upd_ne (ne_of_none q hn)]; exact q
end

/-- what may be read as u: it is u, or a known u -/
def Rd (H : Hp) (a : Addr) (u : HO) : Prop := H a = some u ∨ ∃ o, H a = some (.frz o u)
theorem Rd.of {H : Hp} {a : Addr} {u : HO} (h : H a = some u) : Rd H a u := .inl h
theorem Rd.ok {P : Program} {w : World} {H : Hp} {h : Heap} {a : Addr} {u : HO} (r : Rd H a u) (x : HOk P w H h) : ObjOk P w H h a u := by
  rcases r with r | ⟨o, r⟩
  · exact x a u r
  · obtain ⟨_, q⟩ := x a _ r
    exact q
/-- what may be written -/
def Mut : Option HO → Prop
  | some (.lst _) => True
  | some (.dK _) => True
  | some (.dT _) => True
  | some (.set _ _) => True
  | some (.ins _ _ _) => True
  | some (.ext _) => True
  | _ => False
section
variable {P : Program} {w : World} {H : Hp} {h h' : Heap} {x e : Addr} {o' : HO}
/-- the object at e is changed: x itself, or the dict of the instance x -/
theorem HOk.write (ok : HOk P w H h) (mu : Mut (H x)) (he : e = x ∨ H e = some (.own x)) (k : ∀ b u, b ≠ e → h.get? b = some u → h'.get? b = some u) (heo : ∃ u, h'.get? e = some u)
    (new : ObjOk P w (upd H x o') h' x o') : HOk P w (upd H x o') h' := fun b u q => by
  have nown : ∀ c y, H c = some (.own y) → c ≠ x := fun c y r z => by subst z; rw [r] at mu; exact mu
  have ntup : ∀ c xs, H c = some (.tup xs) → c ≠ x := fun c xs r z => by subst z; rw [r] at mu; exact mu
  by_cases hb : b = x
  · subst hb; rw [upd_same] at q; cases q; exact new
  · rw [upd_ne hb] at q
    by_cases hbe : b = e
    · have q' : H b = some (.own x) := by
        rcases he with z | z
        · exact absurd (hbe.trans z) hb
        · rw [hbe]; exact z
      rw [q] at q'; cases q'
      obtain ⟨v, hv⟩ := heo
      exact ⟨v, by rw [hbe]; exact hv⟩
    · refine (ok b u q).stay (fun c v hc r => k c v ?_ r) (fun c r => by rw [upd_ne (nown c b r)]; exact r) fun c xs r => by rw [upd_ne (ntup c xs r)]; exact r
      rcases hc with rfl | hc
      · exact hbe
      · rintro rfl
        rcases he with z | z
        · exact nown c b hc z
        · rw [hc] at z; cases z; exact hb rfl
end

/-! ### kept unless tracked; of the frames at fs (the callers') the slots may change (an exception that passes writes there); of the records at ex (iterators) nothing is said -/
structure Un (fs ex : List Addr) (H H' : Hp) (h h' : Heap) : Prop where
  keep : ∀ b o, h.get? b = some o → H b = none → b ∉ fs → b ∉ ex → h'.get? b = some o
  slot : ∀ b o, h.get? b = some o → H b = none → b ∈ fs → b ∉ ex → ∃ sl, h'.get? b = some { o with slots := sl }
  free : ∀ b o, h.get? b = some o → H b = none → b ∉ ex → H' b = none
  there : ∀ b o, h.get? b = some o → b ∉ ex → ∃ o', h'.get? b = some o'
  tups : ∀ b xs, H b = some (.tup xs) → H' b = some (.tup xs)
  frzs : ∀ b o u, H b = some (.frz o u) → H' b = some (.frz o u)
  tbls : ∀ b ps, H b = some (.tbl ps) → ∃ more, H' b = some (.tbl (ps ++ more))
section
variable {fs fs' ex ex' : List Addr} {H H1 H2 : Hp} {h h1 h2 h' : Heap} {a x e : Addr} {o : HO}
theorem Un.any (u : Un fs ex H H1 h h1) {b : Addr} {ob : Obj} (q : h.get? b = some ob) (n : H b = none) (hx : b ∉ ex) : ∃ sl, h1.get? b = some { ob with slots := sl } := by
  by_cases hb : b ∈ fs
  · exact u.slot b ob q n hb hx
  · exact ⟨ob.slots, u.keep b ob q n hb hx⟩
theorem Un.trans (a : Un fs ex H H1 h h1) (b : Un fs ex H1 H2 h1 h2) : Un fs ex H H2 h h2 where
  keep := fun c ob q n hc hx => b.keep c ob (a.keep c ob q n hc hx) (a.free c ob q n hx) hc hx
  slot := fun c ob q n hc hx => by
    obtain ⟨sl, e1⟩ := a.slot c ob q n hc hx
    obtain ⟨sl', e2⟩ := b.slot c _ e1 (a.free c ob q n hx) hc hx
    exact ⟨sl', e2⟩
  free := fun c ob q n hx => by
    obtain ⟨o', e1⟩ := a.there c ob q hx
    exact b.free c o' e1 (a.free c ob q n hx) hx
  there := fun c ob q hx => by
    obtain ⟨o', e1⟩ := a.there c ob q hx
    exact b.there c o' e1 hx
  tups := fun c xs q => b.tups c xs (a.tups c xs q)
  frzs := fun c ob xs q => b.frzs c ob xs (a.frzs c ob xs q)
  tbls := fun c ps q => by
    obtain ⟨m1, e1⟩ := a.tbls c ps q
    obtain ⟨m2, e2⟩ := b.tbls c _ e1
    exact ⟨m1 ++ m2, by rw [e2, Array.append_assoc]⟩
theorem Un.kept (k : ∀ b u, h.get? b = some u → h'.get? b = some u) : Un fs ex H H h h' :=
  ⟨fun b ob q _ _ _ => k b ob q, fun b ob q _ _ _ => ⟨ob.slots, k b ob q⟩, fun _ _ _ n _ => n, fun b ob q _ => ⟨ob, k b ob q⟩, fun _ _ q => q, fun _ _ _ q => q, fun _ ps q => ⟨#[], by rw [q]; simp⟩⟩
theorem Un.refl : Un fs ex H H h h := Un.kept fun _ _ q => q
theorem Un.laid (k : ∀ b u, h.get? b = some u → h'.get? b = some u) (hp : h.objs.size ≤ a) (hn : H a = none) : Un fs ex H (upd H a o) h h' where
  keep := fun b u q _ _ _ => k b u q
  slot := fun b u q _ _ _ => ⟨u.slots, k b u q⟩
  free := fun b u q n _ => by rw [upd_ne (Nat.ne_of_lt (Nat.lt_of_lt_of_le (Heap.lt_size q) hp))]; exact n
  there := fun b u q _ => ⟨u, k b u q⟩
  tups := fun b xs q => by rw [upd_ne (ne_of_none q hn)]; exact q
  frzs := fun b u xs q => by rw [upd_ne (ne_of_none q hn)]; exact q
  tbls := fun b ps q => ⟨#[], by rw [upd_ne (ne_of_none q hn), q]; simp⟩
theorem Un.write (mu : Mut (H x)) (he : e = x ∨ H e = some (.own x)) (k : ∀ b u, b ≠ e → h.get? b = some u → h'.get? b = some u) (heo : ∃ u, h'.get? e = some u) : Un fs ex H (upd H x o) h h' := by
  have hx : ∀ b, H b = none → b ≠ x := fun b n z => by subst z; rw [n] at mu; exact mu
  have hb : ∀ b, H b = none → b ≠ e := fun b n z => by
    subst z
    rcases he with r | r
    · exact hx b n r
    · rw [n] at r; cases r
  have hm : ∀ b u, H b = some u → ¬ Mut (some u) → b ≠ x := fun b u q nm z => by subst z; rw [q] at mu; exact nm mu
  refine ⟨fun b u q n _ _ => k b u (hb b n) q, fun b u q n _ _ => ⟨u.slots, k b u (hb b n) q⟩, fun b u q n _ => by rw [upd_ne (hx b n)]; exact n, fun b u q _ => ?_,
    fun b xs q => by rw [upd_ne (hm b _ q fun z => z)]; exact q, fun b u xs q => by rw [upd_ne (hm b _ q fun z => z)]; exact q, fun b ps q => ⟨#[], by rw [upd_ne (hm b _ q fun z => z), q]; simp⟩⟩
  by_cases hbe : b = e
  · subst hbe; exact heo
  · exact ⟨u, k b u hbe q⟩
theorem Un.mono (u : Un fs ex H H1 h h1) (hs : ∀ b ∈ fs, b ∈ fs') (hx : ∀ b ∈ ex, b ∈ ex') : Un fs' ex' H H1 h h1 :=
  ⟨fun b ob q n hb he => u.keep b ob q n (fun z => hb (hs b z)) fun z => he (hx b z), fun _ _ q n _ he => u.any q n fun z => he (hx _ z), fun b ob q n he => u.free b ob q n fun z => he (hx b z), fun b ob q he => u.there b ob q fun z => he (hx b z), u.tups, u.frzs, u.tbls⟩
end

/-! ### the heap without what is tracked -/
def trk (h : Heap) (H : Hp) : List Addr := (List.range h.objs.size).filter fun a => (H a).isSome
def hidT (h : Heap) (H : Hp) : Heap := PySem.W.hideAll h (trk h H)
theorem hidT_size (h : Heap) (H : Hp) : (hidT h H).objs.size = h.objs.size := PySem.W.hideAll_size _ _
theorem hidT_get {h : Heap} {H : Hp} {b : Addr} {o : Obj} (e : h.get? b = some o) (n : H b = none) : (hidT h H).get? b = some o :=
  PySem.W.hideAll_get _ e fun hm => by
    have q : (H b).isSome = true := (List.mem_filter.mp hm).2
    rw [n] at q; simp at q
theorem of_hidT {h : Heap} {H : Hp} {b : Addr} {o : Obj} (e : (hidT h H).get? b = some o) : h.get? b = some o ∧ H b = none := by
  have e' : h.get? b = some o := PySem.W.of_hideAll (trk h H) e
  refine ⟨e', ?_⟩
  cases q : H b with
  | none => rfl
  | some x =>
    have hm : b ∈ trk h H := List.mem_filter.mpr ⟨List.mem_range.mpr (Heap.lt_size e'), by simp [q]⟩
    have z : (hidT h H).get? b = none := PySem.W.hideAll_none (trk h H) hm
    rw [z] at e; cases e

/-! ### OpenK's ledger, filled with every new object but one -/
def allNews (g h : Heap) (L : Addr) : List (Addr × Obj) := (List.range h.objs.size).filterMap fun a => if a = L ∨ (g.get? a).isSome = true then none else (h.get? a).map fun o => (a, o)
def rest (g h : Heap) (L d : Addr) : List (Addr × Obj) := (allNews g h L).filter fun p => decide (p.1 ≠ d)
end L2

namespace L2
open PySem PySem.Spec PyProof.Rows

/-- the module's facts, over the base: the heap at the law's entry without what is tracked there -/
structure Mod (K : PySem.W.Frag) (mg : Str → Option Value) (base : Heap) : Prop where
  kin : K.In base
  glob : base.Ns mainGlobals mg
  blt : ∃ mb, base.Ns builtinsNs mb ∧ ∀ x : Str, x ≠ "__name__" → mb x = bootBuiltins x
  nolimit : base.NoLimit

/-- the context: a def's body (or a comprehension's block) running. base: fixed through the whole law; s₀, H₀: the entry; outer: the frames whose slots others may change (a def's callers); stack: all frames that run;
   ex: iterators that were made ahead of the entry and are walked here (a comprehension's); fn: the names whose cells were made at the entry (a def: all; a comprehension's block: its own); calm: not within an except suite; pn: pins that every state bears; xe: what is wanted of an exception that leaves the code -/
structure Cx where
  prog : Program
  w : World
  K : PySem.W.Frag
  mg : Str → Option Value
  base : Heap
  A : Around
  N : List Str
  s₀ : Shared
  H₀ : Hp
  env : Env
  outer : List Env
  stack : List Env
  ex : List Addr
  fn : Str → Bool
  calm : Bool
  pn : List (Addr × Obj)
  xe : Value → Shared → Prop
/-- the callers' frames -/
def frs (l : List Env) : List Addr := l.filterMap (·.frame)
abbrev Cx.fs (X : Cx) : List Addr := frs X.outer

def Vis (sc : Scope) (x : Str) : Prop := sc.names.lookup x = some .local ∨ sc.names.lookup x = some .cell ∨ sc.names.lookup x = some .free
def Loc (sc : Scope) (x : Str) : Prop := sc.names.lookup x = some .local ∨ sc.names.lookup x = some .cell
def Look (env : Env) (h : Heap) (m : Str → Option Value) (x : Str) (u : Value) : Prop :=
  (env.kindOf x = some .local ∧ m x = some u) ∨ ((env.kindOf x = some .cell ∨ env.kindOf x = some .free) ∧ ∃ c, env.cells.lookup x = some c ∧ h.IsCell c (some u))

structure Cx.Ok (X : Cx) : Prop where
  mod : Mod X.K X.mg X.base
  kind : X.env.scope.kind = .function
  glob : X.env.globals = mainGlobals
  blt : X.env.builtins = builtinsNs
  above : X.s₀.heap.objs.size ≤ X.env.locals
  inj : ∀ x y c, X.env.cells.lookup x = some c → X.env.cells.lookup y = some c → x = y
  has : ∀ x, (X.env.kindOf x = some .cell ∨ X.env.kindOf x = some .free) → ∃ c, X.env.cells.lookup x = some c
  cab : ∀ x c, X.fn x = true → X.env.cells.lookup x = some c → X.s₀.heap.objs.size ≤ c
  hd : X.calm = true → X.A.handled = none
  frames : X.A.frames = some X.stack
  stk : X.stack = X.outer ∨ (X.stack = X.env :: X.outer ∧ X.env.frame = some X.env.locals)
  exf : ∀ b ∈ X.ex, b ≠ X.env.locals ∧ ∀ x c, X.env.cells.lookup x = some c → c ≠ b
  bs : ∀ b o, X.base.get? b = some o → X.s₀.heap.get? b = some o ∧ X.H₀ b = none
  bsz : X.base.objs.size ≤ X.s₀.heap.objs.size
  noex : ∀ b o, X.base.get? b = some o → b ∉ X.ex
  exfs : ∀ b ∈ X.ex, b ∉ X.fs
  funs : X.s₀.heap.FunFrames X.base X.outer
  frf : ∀ b ∈ X.fs, X.H₀ b = none

structure Inv (X : Cx) (pins : List (Addr × Obj)) (σ : List (Option V)) (H : Hp) (s : Shared) : Prop where
  ok : X.Ok
  os : s.os = X.s₀.os
  bare : AllBare s.gens
  base : Un X.fs X.ex X.H₀ H X.s₀.heap s.heap
  loc : ∃ m, s.heap.Ns X.env.locals m ∧ ∀ (i : Nat) (x : Str) (v : V), X.N[i]? = some x → σ[i]? = some (some v) → Vis X.env.scope x → ∃ u, RelV v u ∧ Look X.env s.heap m x u
  cell : ∀ x c, X.env.cells.lookup x = some c → ∃ v, s.heap.IsCell c v
  free : H X.env.locals = none
  freeC : ∀ x c, X.env.cells.lookup x = some c → H c = none
  pin : ∀ p ∈ X.pn ++ pins, s.heap.get? p.1 = some p.2 ∧ H p.1 = none ∧ p.1 ≠ X.env.locals ∧ p.1 ∉ X.fs ∧ ∀ v, p.2.data ≠ .cell v
  hok : HOk X.prog X.w H s.heap
  len : σ.length = X.N.length

section
variable {X : Cx} {pins : List (Addr × Obj)} {σ : List (Option V)} {H H' : Hp} {s : Shared} {h' : Heap}

theorem Cx.Ok.nofr (ok : X.Ok) {b : Addr} {o : Obj} (e : X.base.get? b = some o) : b ∉ X.fs := fun hb => by
  have := (ok.funs.mem hb).1
  rw [e] at this; cases this
theorem Inv.bs (I : Inv X pins σ H s) : ∀ b o, X.base.get? b = some o → s.heap.get? b = some o ∧ H b = none := fun b o e =>
  ⟨I.base.keep b o (I.ok.bs b o e).1 (I.ok.bs b o e).2 (I.ok.nofr e) (I.ok.noex b o e), I.base.free b o (I.ok.bs b o e).1 (I.ok.bs b o e).2 (I.ok.noex b o e)⟩
theorem Inv.bk (I : Inv X pins σ H s) : ∀ b o, X.base.get? b = some o → s.heap.get? b = some o := fun b o e => (I.bs b o e).1
theorem Inv.mod (I : Inv X pins σ H s) : Mod X.K X.mg X.base := I.ok.mod
theorem Inv.kIn (I : Inv X pins σ H s) : X.K.In s.heap := I.ok.mod.kin.keeps I.bk
theorem Inv.nolimit (I : Inv X pins σ H s) : s.heap.NoLimit := I.ok.mod.nolimit.keeps I.bk
/-- the frame over the base: for OpenK's rules (K.In X.base is I.mod.kin) -/
theorem Inv.fr (I : Inv X pins σ H s) : ∃ m, Fr X.base X.env.locals s.heap m :=
  let ⟨m, hn, _⟩ := I.loc
  ⟨m, hn, I.bk, Nat.le_trans I.ok.bsz I.ok.above⟩
theorem Inv.lt (I : Inv X pins σ H s) : X.env.locals < s.heap.objs.size := let ⟨_, hn, _⟩ := I.loc; hn.lt
theorem Inv.sz (I : Inv X pins σ H s) : X.s₀.heap.objs.size ≤ s.heap.objs.size := Nat.le_trans I.ok.above (Nat.le_of_lt I.lt)
theorem Inv.nofs (I : Inv X pins σ H s) {a : Addr} (h : s.heap.objs.size ≤ a) : a ∉ X.fs := fun hb => by
  obtain ⟨_, o, ho, _⟩ := I.ok.funs.mem hb
  exact absurd (Nat.lt_of_lt_of_le (Heap.lt_size ho) (Nat.le_trans I.sz h)) (Nat.lt_irrefl _)
theorem Inv.cne (I : Inv X pins σ H s) : ∀ x c, X.env.cells.lookup x = some c → c ≠ X.env.locals := fun x c e z => by
  obtain ⟨v, o, ho, hd⟩ := I.cell x c e
  obtain ⟨m, ⟨o', es, ep, ho', hd', _⟩, _⟩ := I.loc
  rw [z, ho'] at ho; cases ho; rw [hd'] at hd; cases hd
theorem Inv.funs (I : Inv X pins σ H s) : s.heap.FunFrames X.base X.outer := by
  have all : ∀ (l : List Env), (∀ b ∈ frs l, b ∈ X.fs) → X.s₀.heap.FunFrames X.base l → s.heap.FunFrames X.base l := by
    intro l
    induction l with
    | nil => intro _ _; trivial
    | cons env r ih =>
      intro hs hl
      obtain ⟨hk, ⟨L, o, hf, hn, ho, hd⟩, hr⟩ := hl
      have hL : L ∈ X.fs := hs L (by unfold frs; rw [List.filterMap_cons, hf]; exact List.mem_cons_self)
      obtain ⟨sl, e⟩ := I.base.slot L o ho (I.ok.frf L hL) hL fun z => I.ok.exfs L z hL
      exact ⟨hk, ⟨L, _, hf, hn, e, hd⟩, ih (fun b hb => hs b (by unfold frs; rw [List.filterMap_cons, hf]; exact List.mem_cons_of_mem _ hb)) hr⟩
  exact all X.outer (fun _ hb => hb) I.ok.funs

/-- the frames that run, for a call -/
theorem Inv.stack (I : Inv X pins σ H s) : s.heap.FunFrames X.base X.stack := by
  rcases I.ok.stk with e | ⟨e, hf⟩
  · rw [e]; exact I.funs
  · rw [e]
    obtain ⟨m, hn, _⟩ := I.loc
    refine .cons (by rw [I.ok.kind]; decide) hf hn ?_ I.funs
    exact Heap.get?_none_of_le (Nat.le_trans I.ok.bsz I.ok.above)
theorem Inv.stkSub (I : Inv X pins σ H s) : ∀ b ∈ frs X.stack, b ∈ X.env.locals :: X.fs := fun b hb => by
  rcases I.ok.stk with e | ⟨e, hf⟩
  · rw [e] at hb; exact List.mem_cons_of_mem _ hb
  · rw [e] at hb
    unfold frs at hb
    rw [List.filterMap_cons, hf] at hb
    exact hb
theorem Inv.stkFree (I : Inv X pins σ H s) : ∀ b ∈ frs X.stack, H b = none := fun b hb => by
  rcases List.mem_cons.mp (I.stkSub b hb) with e | hb
  · rw [e]; exact I.free
  · obtain ⟨_, o, ho, _⟩ := I.ok.funs.mem hb
    exact I.base.free b o ho (I.ok.frf b hb) fun z => I.ok.exfs b z hb

/-- THE STEP: the untracked objects but the frame and the records at ch are kept (the callers' frames up to slots), the frame's map is kept, the new abstract heap is held -/
theorem Inv.step {g' : Array GenState} {t' : Nat} {d' : Drawn} {ch : List Addr} (I : Inv X pins σ H s)
    (hch : ∀ b ∈ ch, (b ∈ X.ex ∨ X.s₀.heap.objs.size ≤ b) ∧ b ≠ X.env.locals ∧ (∀ x c, X.env.cells.lookup x = some c → c ≠ b) ∧ ∀ p ∈ X.pn ++ pins, p.1 ≠ b)
    (keep : ∀ b o, b ≠ X.env.locals → b ∉ X.fs → b ∉ ch → s.heap.get? b = some o → H b = none → h'.get? b = some o)
    (slot : ∀ b o, b ≠ X.env.locals → b ∈ X.fs → b ∉ ch → s.heap.get? b = some o → H b = none → ∃ sl, h'.get? b = some { o with slots := sl }) (free : ∀ b o, b ∉ ch → s.heap.get? b = some o → H b = none → H' b = none)
    (there : ∀ b o, b ∉ ch → s.heap.get? b = some o → ∃ o', h'.get? b = some o')
    (tups : ∀ b xs, H b = some (.tup xs) → H' b = some (.tup xs)) (frzs : ∀ b o u, H b = some (.frz o u) → H' b = some (.frz o u)) (tbls : ∀ b ps, H b = some (.tbl ps) → ∃ more, H' b = some (.tbl (ps ++ more)))
    (ns : ∀ m, s.heap.Ns X.env.locals m → h'.Ns X.env.locals m) (hok : HOk X.prog X.w H' h') (hg : AllBare g') :
    Inv X pins σ H' { s with heap := h', gens := g', drawn := d', toks := t' } := by
  have neL : ∀ b o, X.s₀.heap.get? b = some o → b ≠ X.env.locals := fun b o e => Nat.ne_of_lt (Nat.lt_of_lt_of_le (Heap.lt_size e) I.ok.above)
  have neC : ∀ b o, X.s₀.heap.get? b = some o → b ∉ X.ex → b ∉ ch := fun b o e hx hb => by
    rcases (hch b hb).1 with z | z
    · exact hx z
    · exact absurd (Nat.lt_of_lt_of_le (Heap.lt_size e) z) (Nat.lt_irrefl _)
  have cellK : ∀ x c, X.env.cells.lookup x = some c → ∀ v, s.heap.IsCell c v → h'.IsCell c v := fun x c e v ⟨o, ho, hd⟩ => by
    have nch : c ∉ ch := fun z => (hch c z).2.2.1 x c e rfl
    by_cases hc : c ∈ X.fs
    · obtain ⟨sl, q⟩ := slot c o (I.cne x c e) hc nch ho (I.freeC x c e)
      exact ⟨_, q, hd⟩
    · exact ⟨o, keep c o (I.cne x c e) hc nch ho (I.freeC x c e), hd⟩
  refine ⟨I.ok, I.os, hg, ⟨fun b o e n hb hx => ?_, fun b o e n hb hx => ?_, fun b o e n hx => ?_, fun b o e hx => ?_, fun b xs e => tups b xs (I.base.tups b xs e), fun b o xs e => frzs b o xs (I.base.frzs b o xs e), fun b ps e => ?_⟩, ?_, fun x c e => ?_, ?_, fun x c e => ?_, fun p hp => ?_, hok, I.len⟩
  · exact keep b o (neL b o e) hb (neC b o e hx) (I.base.keep b o e n hb hx) (I.base.free b o e n hx)
  · obtain ⟨sl, e1⟩ := I.base.slot b o e n hb hx
    obtain ⟨sl', e2⟩ := slot b _ (neL b o e) hb (neC b o e hx) e1 (I.base.free b o e n hx)
    exact ⟨sl', e2⟩
  · obtain ⟨o', e1⟩ := I.base.there b o e hx
    exact free b o' (neC b o e hx) e1 (I.base.free b o e n hx)
  · obtain ⟨o', e1⟩ := I.base.there b o e hx
    exact there b o' (neC b o e hx) e1
  · obtain ⟨m1, e1⟩ := I.base.tbls b ps e
    obtain ⟨m2, e2⟩ := tbls b _ e1
    exact ⟨m1 ++ m2, by rw [e2, Array.append_assoc]⟩
  · obtain ⟨m, hn, hl⟩ := I.loc
    refine ⟨m, ns m hn, fun i x v e1 e2 e3 => ?_⟩
    obtain ⟨u, r, l⟩ := hl i x v e1 e2 e3
    refine ⟨u, r, ?_⟩
    rcases l with l | ⟨k, c, e, z⟩
    · exact .inl l
    · exact .inr ⟨k, c, e, cellK x c e _ z⟩
  · obtain ⟨v, z⟩ := I.cell x c e
    exact ⟨v, cellK x c e v z⟩
  · obtain ⟨m, ⟨o, _, _, ho, _⟩, _⟩ := I.loc
    exact free _ o (fun z => (hch _ z).2.1 rfl) ho I.free
  · obtain ⟨v, o, ho, hd⟩ := I.cell x c e
    exact free c o (fun z => (hch c z).2.2.1 x c e rfl) ho (I.freeC x c e)
  · obtain ⟨e, n, ne, nf, d⟩ := I.pin p hp
    have nch : p.1 ∉ ch := fun z => (hch p.1 z).2.2.2 p hp rfl
    exact ⟨keep p.1 p.2 ne nf nch e n, free p.1 p.2 nch e n, ne, nf, d⟩
/-- .. where the frame's own object is kept too -/
theorem Inv.un {t' : Nat} (I : Inv X pins σ H s) (u : Un X.fs [] H H' s.heap h') (hok : HOk X.prog X.w H' h') : Inv X pins σ H' { s with heap := h', toks := t' } := by
  obtain ⟨m, ⟨o, es, ep, ho, r⟩, _⟩ := id I.loc
  obtain ⟨sl, hL⟩ := u.any ho I.free (by simp)
  exact I.step (g' := s.gens) (d' := s.drawn) (ch := []) (fun _ z => nomatch z) (fun b o _ hb _ e n => u.keep b o e n hb (by simp)) (fun b o _ hb _ e n => u.slot b o e n hb (by simp)) (fun b o _ e n => u.free b o e n (by simp)) (fun b o _ e => u.there b o e (by simp)) u.tups u.frzs u.tbls (fun m' hm => by
    obtain ⟨o', es', ep', ho', r'⟩ := hm
    rw [ho] at ho'; cases ho'
    exact ⟨_, es', ep', hL, r'⟩) hok I.bare
/-- behind a call (or a comprehension's block): the slots of this frame may have changed too, the records at ch may have turned -/
theorem Inv.call {g' : Array GenState} {t' : Nat} {d' : Drawn} {ch : List Addr} (I : Inv X pins σ H s) (u : Un (frs X.stack) ch H H' s.heap h') (hok : HOk X.prog X.w H' h') (hg : AllBare g')
    (hch : ∀ b ∈ ch, (b ∈ X.ex ∨ X.s₀.heap.objs.size ≤ b) ∧ b ≠ X.env.locals ∧ (∀ x c, X.env.cells.lookup x = some c → c ≠ b) ∧ ∀ p ∈ X.pn ++ pins, p.1 ≠ b) :
    Inv X pins σ H' { s with heap := h', gens := g', drawn := d', toks := t' } := by
  obtain ⟨m, ⟨o, es, ep, ho, r⟩, _⟩ := id I.loc
  obtain ⟨sl, hL⟩ := u.any ho I.free fun z => (hch _ z).2.1 rfl
  exact I.step (ch := ch) hch (fun b o hL hb hc e n => u.keep b o e n (fun z => (List.mem_cons.mp (I.stkSub b z)).elim hL hb) hc) (fun b o _ _ hc e n => u.any e n hc) (fun b o hc e n => u.free b o e n hc) (fun b o hc e => u.there b o e hc) u.tups u.frzs u.tbls (fun m' hm => by
    obtain ⟨o', es', ep', ho', r'⟩ := hm
    rw [ho] at ho'; cases ho'
    exact ⟨_, es', ep', hL, r'⟩) hok hg
/-- an untracked record of ours (an iterator) has turned -/
theorem Inv.turned {t' : Nat} {it : Addr} (I : Inv X pins σ H s) (k : ∀ b o, b ≠ it → s.heap.get? b = some o → h'.get? b = some o) (hn : H it = none) (hL : it ≠ X.env.locals)
    (h1 : it ∈ X.ex ∨ X.s₀.heap.objs.size ≤ it) (h2 : ∀ x c, X.env.cells.lookup x = some c → c ≠ it) (h3 : ∀ p ∈ X.pn ++ pins, p.1 ≠ it) : Inv X pins σ H { s with heap := h', toks := t' } := by
  have nit : ∀ b u, H b = some u → b ≠ it := fun b u e z => by rw [z, hn] at e; cases e
  refine I.step (g' := s.gens) (d' := s.drawn) (ch := [it]) (fun b hb => ?_) (fun b o _ _ hc e _ => k b o (fun z => hc (by simp [z])) e) (fun b o _ _ hc e _ => ⟨o.slots, k b o (fun z => hc (by simp [z])) e⟩) (fun _ _ _ _ n => n)
    (fun b o hc e => ⟨o, k b o (fun z => hc (by simp [z])) e⟩) (fun _ _ e => e) (fun _ _ _ e => e) (fun b ps e => ⟨#[], by rw [e]; simp⟩) (fun m hm => ?_) (fun b u e => ?_) I.bare
  · have e : b = it := by simpa using hb
    subst e
    exact ⟨h1, hL, h2, h3⟩
  · obtain ⟨o, es, ep, ho, r⟩ := hm
    exact ⟨o, es, ep, k _ o (Ne.symm hL) ho, r⟩
  · refine (I.hok b u e).stay (fun c v hc q => k c v ?_ q) (fun _ q => q) fun _ _ q => q
    rcases hc with z | z
    · rw [z]; exact nit b u e
    · exact nit c _ z
theorem Inv.tok (I : Inv X pins σ H s) (t : Nat) : Inv X pins σ H { s with toks := t } := I.un (h' := s.heap) (t' := t) Un.refl I.hok
/-- all objects kept -/
theorem Inv.kept {t' : Nat} (I : Inv X pins σ H s) (k : ∀ b u, s.heap.get? b = some u → h'.get? b = some u) : Inv X pins σ H { s with heap := h', toks := t' } := I.un (Un.kept k) (I.hok.kept k)
/-- a new object laid and tracked -/
theorem Inv.laid {a : Addr} {o : HO} {t' : Nat} (I : Inv X pins σ H s) (k : ∀ b u, s.heap.get? b = some u → h'.get? b = some u) (hp : s.heap.objs.size ≤ a) (new : ObjOk X.prog X.w (upd H a o) h' a o) :
    Inv X pins σ (upd H a o) { s with heap := h', toks := t' } := I.un (Un.laid k hp (I.hok.fresh hp)) (I.hok.laid k hp new)
/-- an object written -/
theorem Inv.write {x e : Addr} {o : HO} {t' : Nat} (I : Inv X pins σ H s) (mu : Mut (H x)) (he : e = x ∨ H e = some (.own x)) (k : ∀ b u, b ≠ e → s.heap.get? b = some u → h'.get? b = some u) (heo : ∃ u, h'.get? e = some u)
    (new : ObjOk X.prog X.w (upd H x o) h' x o) : Inv X pins σ (upd H x o) { s with heap := h', toks := t' } := I.un (Un.write mu he k heo) (I.hok.write mu he k heo new)
theorem Inv.pins_of {pins' : List (Addr × Obj)} (I : Inv X pins σ H s) (h : ∀ p ∈ pins', s.heap.get? p.1 = some p.2 ∧ H p.1 = none ∧ p.1 ≠ X.env.locals ∧ p.1 ∉ X.fs ∧ ∀ v, p.2.data ≠ .cell v) : Inv X pins' σ H s :=
  ⟨I.ok, I.os, I.bare, I.base, I.loc, I.cell, I.free, I.freeC, fun p hp => (List.mem_append.mp hp).elim (fun z => I.pin p (List.mem_append_left _ z)) (h p), I.hok, I.len⟩

theorem nodup_ix {N : List Str} (hN : N.Nodup) {i j : Nat} {x : Str} (a : N[i]? = some x) (b : N[j]? = some x) : i = j := by
  obtain ⟨h1, e1⟩ := List.getElem?_eq_some_iff.mp a
  obtain ⟨h2, e2⟩ := List.getElem?_eq_some_iff.mp b
  exact (List.getElem_inj hN).mp (e1.trans e2.symm)

/-- a name is stored; what changed -/
theorem store_ok2 {M : Model} {A : Around} {E : Value → Shared → Prop} {i : Nat} {x : Str} {v : V} {u : Value} {Q : Unit → Shared → Prop} (I : Inv X pins σ H s) (hN : X.N.Nodup) (hi : X.N[i]? = some x) (hx : Loc X.env.scope x) (r : RelV v u)
    (h : ∀ s', Inv X pins (σ.set i (some v)) H s' → (∃ a, Heap.SameBut a s.heap s'.heap ∧ (a = X.env.locals ∨ X.env.cells.lookup x = some a)) → Q () s') (hf : X.fn x = true ∨ X.env.scope.names.lookup x = some .local := by first | exact .inl rfl | exact .inr rfl | assumption) : wpAny M A (storeName X.env x u) Q E s := by
  obtain ⟨m, hn, hl⟩ := id I.loc
  have hcls : (X.env.scope.kind == .class || (X.env.scope.kind == .module && X.env.locals != X.env.globals)) = false := by rw [I.ok.kind]; rfl
  have hiσ : i < σ.length := by rw [I.len]; exact (List.getElem?_eq_some_iff.mp hi).1
  have cne := I.cne
  have tracked : ∀ {a : Addr} {h' : Heap}, (∃ o, s.heap.get? a = some o ∧ H a = none) → Heap.SameBut a s.heap h' → HOk X.prog X.w H h' := fun {a h'} ha hs b ob e => by
    obtain ⟨_, _, hfree⟩ := ha
    refine (I.hok b ob e).stay (fun c w' hc q => (hs.2 c ?_).trans q) (fun _ q => q) fun _ _ q => q
    rintro rfl
    rcases hc with rfl | hc
    · rw [hfree] at e; cases e
    · rw [hfree] at hc; cases hc
  rcases hx with hk | hk
  · refine wpAny_storeName_local hk hn (fun h' hn' hs => ?_) hcls
    obtain ⟨oL, _, _, hoL, _⟩ := id hn
    refine h _ ⟨I.ok, I.os, I.bare, ⟨fun b o e n hb hx => ?_, fun b o e n hb hx => ?_, I.base.free, fun b o e hx => ?_, I.base.tups, I.base.frzs, I.base.tbls⟩, ⟨_, hn', fun j y v' e1 e2 e3 => ?_⟩, fun y c e => ?_, I.free, I.freeC, fun p hp => ?_, tracked ⟨oL, hoL, I.free⟩ hs, by simpa using I.len⟩ ⟨_, hs, .inl rfl⟩
    · exact (hs.2 b (Nat.ne_of_lt (Nat.lt_of_lt_of_le (Heap.lt_size e) I.ok.above))).trans (I.base.keep b o e n hb hx)
    · obtain ⟨sl, e1⟩ := I.base.slot b o e n hb hx
      exact ⟨sl, (hs.2 b (Nat.ne_of_lt (Nat.lt_of_lt_of_le (Heap.lt_size e) I.ok.above))).trans e1⟩
    · obtain ⟨o', e1⟩ := I.base.there b o e hx
      exact ⟨o', (hs.2 b (Nat.ne_of_lt (Nat.lt_of_lt_of_le (Heap.lt_size e) I.ok.above))).trans e1⟩
    · by_cases hj : j = i
      · subst hj
        rw [hi] at e1; cases e1
        rw [List.getElem?_set_self hiσ] at e2
        cases e2
        exact ⟨u, r, .inl ⟨hk, by simp⟩⟩
      · rw [List.getElem?_set_ne (Ne.symm hj)] at e2
        obtain ⟨u', r', q⟩ := hl j y v' e1 e2 e3
        refine ⟨u', r', ?_⟩
        rcases q with ⟨k, e⟩ | ⟨k, c, e, z⟩
        · refine .inl ⟨k, ?_⟩
          have : y ≠ x := fun e => hj (nodup_ix hN e1 (e ▸ hi))
          simp [this, e]
        · exact .inr ⟨k, c, e, z.sameBut hs (cne y c e)⟩
    · obtain ⟨w', z⟩ := I.cell y c e
      exact ⟨w', z.sameBut hs (cne y c e)⟩
    · obtain ⟨e, n, ne, nf, d⟩ := I.pin p hp
      exact ⟨(hs.2 p.1 ne).trans e, n, ne, nf, d⟩
  · have hfn : X.fn x = true := by
      rcases hf with z | z
      · exact z
      · rw [z] at hk; cases hk
    obtain ⟨c, hc⟩ := I.ok.has x (.inl hk)
    obtain ⟨w', z⟩ := I.cell x c hc
    refine wpAny_storeName_cell I.ok.kind hk hc z (fun h' hc' hs => ?_)
    obtain ⟨oc, hoc, hocd⟩ := id z
    refine h { s with heap := h' } ⟨I.ok, I.os, I.bare, ⟨fun b o e n hb hx => ?_, fun b o e n hb hx => ?_, I.base.free, fun b o e hx => ?_, I.base.tups, I.base.frzs, I.base.tbls⟩, ⟨m, hn.sameBut hs (Ne.symm (cne x c hc)), fun j y v' e1 e2 e3 => ?_⟩, fun y c' e => ?_, I.free, I.freeC, fun p hp => ?_, tracked ⟨oc, hoc, I.freeC x c hc⟩ hs, by simpa using I.len⟩ ⟨c, hs, .inr hc⟩
    · exact (hs.2 b (Nat.ne_of_lt (Nat.lt_of_lt_of_le (Heap.lt_size e) (I.ok.cab x c hfn hc)))).trans (I.base.keep b o e n hb hx)
    · obtain ⟨sl, e1⟩ := I.base.slot b o e n hb hx
      exact ⟨sl, (hs.2 b (Nat.ne_of_lt (Nat.lt_of_lt_of_le (Heap.lt_size e) (I.ok.cab x c hfn hc)))).trans e1⟩
    · obtain ⟨o', e1⟩ := I.base.there b o e hx
      exact ⟨o', (hs.2 b (Nat.ne_of_lt (Nat.lt_of_lt_of_le (Heap.lt_size e) (I.ok.cab x c hfn hc)))).trans e1⟩
    · by_cases hj : j = i
      · subst hj
        rw [hi] at e1; cases e1
        rw [List.getElem?_set_self hiσ] at e2
        cases e2
        exact ⟨u, r, .inr ⟨.inl hk, c, hc, hc'⟩⟩
      · rw [List.getElem?_set_ne (Ne.symm hj)] at e2
        obtain ⟨u', r', q⟩ := hl j y v' e1 e2 e3
        refine ⟨u', r', ?_⟩
        rcases q with q | ⟨k, c', e, z'⟩
        · exact .inl q
        · refine .inr ⟨k, c', e, z'.sameBut hs ?_⟩
          rintro rfl
          exact hj (nodup_ix hN e1 (I.ok.inj _ _ _ e hc ▸ hi))
    · by_cases hcc : c' = c
      · subst hcc; exact ⟨_, hc'⟩
      · obtain ⟨w2, z2⟩ := I.cell y c' e
        exact ⟨w2, z2.sameBut hs hcc⟩
    · obtain ⟨e, n, ne, nf, d⟩ := I.pin p hp
      refine ⟨(hs.2 p.1 ?_).trans e, n, ne, nf, d⟩
      intro q
      rw [q, hoc] at e
      have q' : oc = p.2 := Option.some.inj e
      exact d w' (by rw [← q']; exact hocd)
theorem store_ok {M : Model} {A : Around} {E : Value → Shared → Prop} {i : Nat} {x : Str} {v : V} {u : Value} {Q : Unit → Shared → Prop} (I : Inv X pins σ H s) (hN : X.N.Nodup) (hi : X.N[i]? = some x) (hx : Loc X.env.scope x) (r : RelV v u)
    (h : ∀ s', Inv X pins (σ.set i (some v)) H s' → Q () s') (hf : X.fn x = true ∨ X.env.scope.names.lookup x = some .local := by first | exact .inl rfl | exact .inr rfl | assumption) : wpAny M A (storeName X.env x u) Q E s :=
  store_ok2 I hN hi hx r (fun s' I' _ => h s' I') hf
/-- behind a call or a block, the state as it is -/
theorem Inv.call' {s' : Shared} {ch : List Addr} (I : Inv X pins σ H s) (ho : s'.os = s.os) (u : Un (frs X.stack) ch H H' s.heap s'.heap) (hok : HOk X.prog X.w H' s'.heap) (hg : AllBare s'.gens)
    (hch : ∀ b ∈ ch, (b ∈ X.ex ∨ X.s₀.heap.objs.size ≤ b) ∧ b ≠ X.env.locals ∧ (∀ x c, X.env.cells.lookup x = some c → c ≠ b) ∧ ∀ p ∈ X.pn ++ pins, p.1 ≠ b) : Inv X pins σ H' s' := by
  obtain ⟨h', g', d', t', o'⟩ := s'
  have e : o' = s.os := ho
  subst e
  exact I.call (g' := g') (t' := t') (d' := d') u hok hg hch
end

/-! ### the judgements -/
/-- an exception: its class, its own dict's address (where it has one), the abstract heap behind it -/
abbrev XK := Value → Option Addr → Hp → Prop
abbrev St := List (Option V)
abbrev VK := V → Hp → Prop
/-- an expression's reading; a test's; an argument list's -/
abbrev TE := St → Hp → VK → Prop
abbrev TT := St → Hp → (Bool → Hp → Prop) → Prop
abbrev TA := St → Hp → (List V → Hp → Prop) → Prop
/-- what is wanted behind a statement -/
structure Ends where
  nx : St → Hp → Prop
  rt : VK
  bk : St → Hp → Prop := fun _ _ => False
  ct : St → Hp → Prop := fun _ _ => False
abbrev TS := Ends → St → Hp → Prop

def EP (X : Cx) (pins : List (Addr × Obj)) (σ : St) (Q : VK) (u : Value) (s' : Shared) : Prop := ∃ v H', Inv X pins σ H' s' ∧ RelV v u ∧ Q v H'
def TP (X : Cx) (pins : List (Addr × Obj)) (σ : St) (Q : Bool → Hp → Prop) (b : Bool) (s' : Shared) : Prop := ∃ H', Inv X pins σ H' s' ∧ Q b H'
def AP (X : Cx) (pins : List (Addr × Obj)) (σ : St) (Q : List V → Hp → Prop) (us : List Value) (s' : Shared) : Prop := ∃ vs H', Inv X pins σ H' s' ∧ Vals vs us ∧ Q vs H'
def SP (X : Cx) (pins : List (Addr × Obj)) (D : Ends) (f : Flow) (s' : Shared) : Prop :=
  match f with
  | .next => ∃ σ' H', Inv X pins σ' H' s' ∧ D.nx σ' H'
  | .brk => ∃ σ' H', Inv X pins σ' H' s' ∧ D.bk σ' H'
  | .cont => ∃ σ' H', Inv X pins σ' H' s' ∧ D.ct σ' H'
  | .ret u => ∃ v σ' H', Inv X pins σ' H' s' ∧ RelV v u ∧ D.rt v H'

def PE (X : Cx) (e : Expr) (t : TE) : Prop :=
  ∀ (pins : List (Addr × Obj)) (s : Shared) (σ : St) (H : Hp) (Q : VK), Inv X pins σ H s → t σ H Q → wpAny (model X.prog X.w) X.A (eval e X.env) (EP X pins σ Q) X.xe s
def PT (X : Cx) (e : Expr) (t : TT) : Prop :=
  ∀ (pins : List (Addr × Obj)) (s : Shared) (σ : St) (H : Hp) (Q : Bool → Hp → Prop), Inv X pins σ H s → t σ H Q → wpAny (model X.prog X.w) X.A (isTrue e X.env (eval e X.env)) (TP X pins σ Q) X.xe s
/-- a test whatever its 'whole' is (and, or) -/
def PW (X : Cx) (e : Expr) (t : TT) : Prop :=
  ∀ (whole : Sem Value) (pins : List (Addr × Obj)) (s : Shared) (σ : St) (H : Hp) (Q : Bool → Hp → Prop), Inv X pins σ H s → t σ H Q → wpAny (model X.prog X.w) X.A (isTrue e X.env whole) (TP X pins σ Q) X.xe s
theorem PW.pt {X : Cx} {e : Expr} {t : TT} (h : PW X e t) : PT X e t := h _
/-- an argument list (no star), from the left -/
def PA (X : Cx) (es : List Expr) (t : TA) : Prop :=
  ∀ (pos : Pos) (pins : List (Addr × Obj)) (s : Shared) (σ : St) (H : Hp) (Q : List V → Hp → Prop), Inv X pins σ H s → t σ H Q → wpAny (model X.prog X.w) X.A (spliced (backTo pos (starEach es X.env))) (AP X pins σ Q) X.xe s
def PS (X : Cx) (st : Stmt) (t : TS) : Prop :=
  ∀ (pins : List (Addr × Obj)) (s : Shared) (σ : St) (H : Hp) (D : Ends), Inv X pins σ H s → t D σ H → wpAny (model X.prog X.w) X.A (exec st X.env) (SP X pins D) X.xe s
def PSs (X : Cx) (st : List Stmt) (t : TS) : Prop :=
  ∀ (pins : List (Addr × Obj)) (s : Shared) (σ : St) (H : Hp) (D : Ends), Inv X pins σ H s → t D σ H → wpAny (model X.prog X.w) X.A (execs st X.env) (SP X pins D) X.xe s
/-- weaken the end -/
theorem thn {α : Type} {t : Sem α} {Q Q' : α → Shared → Prop} {M : Model} {A : Around} {E : Value → Shared → Prop} {s : Shared} (h : wpAny M A t Q E s) (hQ : ∀ a s, Q a s → Q' a s) : wpAny M A t Q' E s := wpAny_mono h hQ fun _ _ x => x
end L2

namespace L2
open PySem PySem.Spec PyProof.Rows
section
variable {X : Cx}

/-! ### names and constants -/
def tVar (i : Nat) : TE := fun σ H Q => ∃ v, σ[i]? = some (some v) ∧ Q v H
def tC (v : V) : TE := fun _ H Q => Q v H
theorem pe_var {i : Nat} {x : Str} {pos : Pos} (hN : X.N[i]? = some x) (hv : Vis X.env.scope x) (hd : (x == ("__debug__" : Str)) = false := by decide) (hcd : (x == ("__classdict__" : Str)) = false := by decide) : PE X (.Name x pos) (tVar i) := by
  intro pins s σ H Q I h
  obtain ⟨v, e, h⟩ := h
  obtain ⟨m, hn, hl⟩ := I.loc
  obtain ⟨u, r, l⟩ := hl i x v hN e hv
  have fin : EP X pins σ Q u s := ⟨v, H, I, r, h⟩
  rcases l with ⟨hk, hm⟩ | ⟨hk, c, hc, hcell⟩
  · exact wpAny_Name (wpAny_loadName_local I.ok.kind hk hn hm fin) hd
  · rcases hk with hk | hk
    · exact wpAny_Name (wpAny_loadName_cell I.ok.kind hk hc hcell fin) hd
    · exact wpAny_Name (wpAny_loadName_free I.ok.kind hk hc hcell fin hcd) hd
theorem pe_int {i j pos} : PE X (.Constant (.int i) j pos) (tC (.int i)) := fun _ _ _ H _ I h => wpAny_Constant_int ⟨.int i, H, I.tok _, ⟨_, rfl⟩, h⟩
theorem pe_bl {b j pos} : PE X (.Constant (.bool b) j pos) (tC (.bl b)) := fun _ _ _ H _ I h => Constant_bool ⟨.bl b, H, I, rfl, h⟩
theorem pe_non {j pos} : PE X (.Constant .none j pos) (tC .non) := fun _ _ _ H _ I h => Constant_none ⟨.non, H, I, rfl, h⟩
theorem pe_str {x j pos} : PE X (.Constant (.str x) j pos) (tC (.str x)) := fun _ _ _ H _ I h => Calls.Constant_str ⟨.str x, H, I.tok _, ⟨_, rfl⟩, h⟩

/-- a global name of the def -/
def Gl (X : Cx) (x : Str) : Prop := X.env.kindOf x = some .globalImplicit
theorem ld_glob {E : Value → Shared → Prop} {pins : List (Addr × Obj)} {s : Shared} {σ : St} {H : Hp} {x : Str} {u : Value} {pos : Pos} {Q : Value → Shared → Prop} (I : Inv X pins σ H s) (hg : Gl X x) (hm : X.mg x = some u) (h : Q u s)
    (hd : (x == ("__debug__" : Str)) = false := by decide) : wpAny (model X.prog X.w) X.A (eval (.Name x pos) X.env) Q E s :=
  Calls.Name_function_global I.ok.kind hg (Calls.loadGlobal_global (by rw [I.ok.glob]; exact I.mod.glob.keeps I.bk) hm h) hd
theorem ld_blt {E : Value → Shared → Prop} {pins : List (Addr × Obj)} {s : Shared} {σ : St} {H : Hp} {x : Str} {u : Value} {pos : Pos} {Q : Value → Shared → Prop} (I : Inv X pins σ H s) (hg : Gl X x) (hm : X.mg x = none) (hv : bootBuiltins x = some u) (h : Q u s)
    (hn : x ≠ "__name__" := by decide) (hd : (x == ("__debug__" : Str)) = false := by decide) : wpAny (model X.prog X.w) X.A (eval (.Name x pos) X.env) Q E s := by
  obtain ⟨mb, h1, h2⟩ := I.mod.blt
  exact Calls.Name_function_global I.ok.kind hg (Calls.loadGlobal_builtin (by rw [I.ok.glob]; exact I.mod.glob.keeps I.bk) hm (by rw [I.ok.blt]; exact h1.keeps I.bk) ((h2 x hn).trans hv) h) hd
theorem pe_bltn {x : Str} {v : V} {u : Value} {pos : Pos} (hg : Gl X x) (hm : X.mg x = none) (hv : bootBuiltins x = some u) (r : RelV v u) (hn : x ≠ "__name__" := by decide) (hd : (x == ("__debug__" : Str)) = false := by decide) : PE X (.Name x pos) (tC v) :=
  fun _ _ _ H _ I h => ld_blt I hg hm hv ⟨v, H, I, r, h⟩ hn hd

/-! ### arithmetic -/
variable {a b : Expr} {ta tb : TE} {pos : Pos}
/-! ### comparisons -/
/-- a comparison as a value, as a test -/
def tB (t : TE) : TT := fun σ H Q => t σ H fun x H1 => ∃ c, x = .bl c ∧ Q c H1
/-- an expression whose value is a bool, as a test -/
theorem pt_val {e : Expr} {t : TE} (h : PE X e t) (he : ∀ whole, isTrue e X.env whole = (do let v ← whole; standAt e.pos; holding [v] (truthy v)) := by intro _; rfl) : PT X e (tB t) := by
  intro pins s σ H Q I hw
  refine isTrue_plain (thn (h pins s σ H _ I hw) fun v s1 ⟨x, H1, I1, r1, q1⟩ => ?_) (he _)
  obtain ⟨d, rfl, q⟩ := q1
  cases r1
  exact wpAny_truthy_bool ⟨H1, I1, q⟩

/-! ### and, or, not -/
variable {tA tB' : TT} {rest : List Expr}
def tAnd (t u : TT) : TT := fun σ H Q => t σ H fun c H1 => if c = true then u σ H1 Q else Q false H1
def tOr (t u : TT) : TT := fun σ H Q => t σ H fun c H1 => if c = true then Q true H1 else u σ H1 Q
def tNot (t : TT) : TT := fun σ H Q => t σ H fun c H1 => Q (!c) H1
theorem pw_and1 (ha : PT X a tA) : PW X (.BoolOp .And [a] pos) tA := by
  intro wh pins s σ H Q I h
  refine isTrue_and (thn (ha pins s σ H Q I h) fun c s1 e => ?_)
  cases c with
  | true => exact isTrue_and_nil e
  | false => exact e
theorem pw_or1 (ha : PT X a tA) : PW X (.BoolOp .Or [a] pos) tA := by
  intro wh pins s σ H Q I h
  refine isTrue_or (thn (ha pins s σ H Q I h) fun c s1 e => ?_)
  cases c with
  | false => exact isTrue_or_nil e
  | true => exact e
theorem pw_and (ha : PT X a tA) (hb : PW X (.BoolOp .And (b :: rest) pos) tB') : PW X (.BoolOp .And (a :: b :: rest) pos) (tAnd tA tB') := by
  intro wh pins s σ H Q I h
  refine isTrue_and (thn (ha pins s σ H _ I h) fun c s1 ⟨H1, I1, q1⟩ => ?_)
  cases c with
  | true => exact hb wh pins s1 σ H1 Q I1 q1
  | false => exact ⟨H1, I1, q1⟩
theorem pw_or (ha : PT X a tA) (hb : PW X (.BoolOp .Or (b :: rest) pos) tB') : PW X (.BoolOp .Or (a :: b :: rest) pos) (tOr tA tB') := by
  intro wh pins s σ H Q I h
  refine isTrue_or (thn (ha pins s σ H _ I h) fun c s1 ⟨H1, I1, q1⟩ => ?_)
  cases c with
  | true => exact ⟨H1, I1, q1⟩
  | false => exact hb wh pins s1 σ H1 Q I1 q1
theorem pt_not (ha : PT X a tA) : PT X (.UnaryOp .Not a pos) (tNot tA) := by
  intro pins s σ H Q I h
  exact isTrue_not (ha pins s σ H (fun c H1 => Q (!c) H1) I h)
/-- .. as values (bools) -/
def tAndV (ta tb : TE) : TE := fun σ H Q => ta σ H fun x H1 => ∃ c, x = .bl c ∧ if c = true then tb σ H1 Q else Q (.bl false) H1
def tOrV (ta tb : TE) : TE := fun σ H Q => ta σ H fun x H1 => ∃ c, x = .bl c ∧ if c = true then Q (.bl true) H1 else tb σ H1 Q
def tNotV (ta : TE) : TE := fun σ H Q => ta σ H fun x H1 => ∃ c, x = .bl c ∧ Q (.bl (!c)) H1
theorem pe_one {op} {t : TE} (h : PE X a t) : PE X (.BoolOp op [a] pos) t := fun pins s σ H Q I hw => BoolOp_one (h pins s σ H Q I hw)
theorem pe_and (ha : PE X a ta) (hb : PE X (.BoolOp .And (b :: rest) pos) tb) : PE X (.BoolOp .And (a :: b :: rest) pos) (tAndV ta tb) := by
  intro pins s σ H Q I h
  refine BoolOp_and (thn (ha pins s σ H _ I h) fun v s1 ⟨x, H1, I1, r1, q1⟩ => ?_)
  obtain ⟨c, rfl, q1⟩ := q1
  cases r1
  refine wpAny_truthy_bool ?_
  cases c with
  | true => exact hb pins s1 σ H1 Q I1 q1
  | false => exact ⟨.bl false, H1, I1, rfl, q1⟩
/-- a if t else b -/
def tIf (t : TT) (ta tb : TE) : TE := fun σ H Q => t σ H fun c H1 => if c = true then ta σ H1 Q else tb σ H1 Q
theorem pe_ifExp {c : Expr} (hc : PT X c tA) (ha : PE X a ta) (hb : PE X b tb) : PE X (.IfExp c a b pos) (tIf tA ta tb) := by
  intro pins s σ H Q I h
  refine wpAny_IfExp (thn (hc pins s σ H _ I h) fun d s1 ⟨H1, I1, q1⟩ => ?_)
  cases d with
  | true => exact ha pins s1 σ H1 Q I1 q1
  | false => exact hb pins s1 σ H1 Q I1 q1
end
end L2

namespace L2
open PySem PySem.Spec PyProof.Rows

/-! ### a list, a tuple that is read: tracked, frozen, or an object of the module -/
def SqL (K : PySem.W.Frag) (H : Hp) (a : Addr) (xs : List V) : Prop :=
  Rd H a (.lst xs) ∨
    ∃ (o : Obj) (its : Array Value) (n : Nat), K.lookup a = some o ∧ o.cls = .type "list" ∧ o.dict = none ∧ o.data = .seq its n ∧ its.size ≤ sizeLine ∧ Vals xs its.toList
def SqT (K : PySem.W.Frag) (H : Hp) (a : Addr) (xs : List V) : Prop :=
  Rd H a (.tup xs) ∨
    ∃ (o : Obj) (its : Array Value) (n : Nat), K.lookup a = some o ∧ o.cls = .type "tuple" ∧ o.data = .seq its n ∧ its.size ≤ sizeLine ∧ Vals xs its.toList
def absV : Value → Option V
  | .none => some .non
  | .bool b => some (.bl b)
  | .int i _ => some (.int i)
  | .str x _ => some (.str x)
  | .bytes b _ => some (.byt b)
  | .float b _ => some (.flt b)
  | .ref a => some (.ref a)
  | .type n => some (.ty n)
  | _ => none
theorem RelV.abs {x : V} {u : Value} (r : RelV x u) : absV u = some x := by
  cases x with
  | non => cases r; rfl
  | bl _ => cases r; rfl
  | int _ => obtain ⟨t, rfl⟩ := r; rfl
  | str _ => obtain ⟨t, rfl⟩ := r; rfl
  | byt _ => obtain ⟨t, rfl⟩ := r; rfl
  | flt _ => obtain ⟨t, rfl⟩ := r; rfl
  | ref _ => cases r; rfl
  | ty _ => cases r; rfl
theorem RelV.inj {x y : V} {u : Value} (r : RelV x u) (q : RelV y u) : x = y := Option.some.inj (r.abs.symm.trans q.abs)
theorem Vals.inj : ∀ {xs ys : List V} {us : List Value}, Vals xs us → Vals ys us → xs = ys
  | _, _, _, .nil, .nil => rfl
  | _, _, _, .cons r t, .cons r' t' => by rw [r.inj r', Vals.inj t t']
section
variable {X : Cx} {pins : List (Addr × Obj)} {σ : St} {H : Hp} {s : Shared} {a : Addr} {xs ys : List V}
theorem SqL.of {K : PySem.W.Frag} (h : H a = some (.lst xs)) : SqL K H a xs := .inl (.inl h)
theorem SqT.of {K : PySem.W.Frag} (h : H a = some (.tup xs)) : SqT K H a xs := .inl (.inl h)
theorem Inv.list (I : Inv X pins σ H s) (h : SqL X.K H a xs) : ∃ its : List Value, Vals xs its ∧ PlainL s.heap a its.toArray ∧ xs.length ≤ sizeLine := by
  rcases h with h | ⟨o, its, n, hk, hc, hd, hs, hz, r⟩
  · obtain ⟨z, its, n, r, e⟩ := h.ok I.hok
    exact ⟨its, r, ⟨_, n, e, rfl, rfl, rfl⟩, z⟩
  · refine ⟨its.toList, r, ⟨o, n, I.kIn a o hk, hc, hd, by simpa using hs⟩, ?_⟩
    have e := r.length
    simp only [Array.length_toList] at e
    omega
theorem Inv.tuple (I : Inv X pins σ H s) (h : SqT X.K H a xs) : ∃ its : List Value, Vals xs its ∧ IsTup s.heap a its.toArray ∧ xs.length ≤ sizeLine := by
  rcases h with h | ⟨o, its, n, hk, hc, hs, hz, r⟩
  · obtain ⟨z, its, r, p⟩ := h.ok I.hok
    exact ⟨its, r, p, z⟩
  · refine ⟨its.toList, r, ⟨o, I.kIn a o hk, hc, n, by simpa using hs⟩, ?_⟩
    have e := r.length
    simp only [Array.length_toList] at e
    omega
theorem Inv.list_inj (I : Inv X pins σ H s) (h : SqL X.K H a xs) (h' : SqL X.K H a ys) : xs = ys := by
  obtain ⟨its, r, ⟨o, n, e, _, _, d⟩, _⟩ := I.list h
  obtain ⟨its', r', ⟨o', n', e', _, _, d'⟩, _⟩ := I.list h'
  rw [e] at e'; cases e'
  rw [d] at d'
  injection d' with d1 _
  have : its = its' := by simpa using congrArg Array.toList d1
  subst this
  exact r.inj r'
theorem Inv.tuple_inj (I : Inv X pins σ H s) (h : SqT X.K H a xs) (h' : SqT X.K H a ys) : xs = ys := by
  obtain ⟨its, r, ⟨o, e, _, n, d⟩, _⟩ := I.tuple h
  obtain ⟨its', r', ⟨o', e', _, n', d'⟩, _⟩ := I.tuple h'
  rw [e] at e'; cases e'
  rw [d] at d'
  injection d' with d1 _
  have : its = its' := by simpa using congrArg Array.toList d1
  subst this
  exact r.inj r'
end

/-! ### another wish about exceptions -/
abbrev Cx.wish (X : Cx) (E : Value → Shared → Prop) : Cx := { X with xe := E }
/-- no exception leaves -/
abbrev Cx.nox (X : Cx) : Cx := X.wish fun _ _ => False
theorem Cx.Ok.wish {X : Cx} (ok : X.Ok) (E : Value → Shared → Prop) : (X.wish E).Ok :=
  ⟨ok.mod, ok.kind, ok.glob, ok.blt, ok.above, ok.inj, ok.has, ok.cab, ok.hd, ok.frames, ok.stk, ok.exf, ok.bs, ok.bsz, ok.noex, ok.exfs, ok.funs, ok.frf⟩
theorem Cx.Ok.unwish {X : Cx} {E : Value → Shared → Prop} (ok : (X.wish E).Ok) : X.Ok :=
  ⟨ok.mod, ok.kind, ok.glob, ok.blt, ok.above, ok.inj, ok.has, ok.cab, ok.hd, ok.frames, ok.stk, ok.exf, ok.bs, ok.bsz, ok.noex, ok.exfs, ok.funs, ok.frf⟩
section
variable {X : Cx} {pins : List (Addr × Obj)} {σ : St} {H : Hp} {s : Shared} {E : Value → Shared → Prop}
theorem Inv.wish (I : Inv X pins σ H s) (E : Value → Shared → Prop) : Inv (X.wish E) pins σ H s := ⟨I.ok.wish E, I.os, I.bare, I.base, I.loc, I.cell, I.free, I.freeC, I.pin, I.hok, I.len⟩
theorem Inv.unwish (I : Inv (X.wish E) pins σ H s) : Inv X pins σ H s := ⟨I.ok.unwish, I.os, I.bare, I.base, I.loc, I.cell, I.free, I.freeC, I.pin, I.hok, I.len⟩
theorem SP.unwish {D : Ends} {f : Flow} {s' : Shared} (h : SP (X.wish E) pins D f s') : SP X pins D f s' := by
  cases f with
  | next => obtain ⟨σ', H', I, q⟩ := h; exact ⟨σ', H', I.unwish, q⟩
  | brk => obtain ⟨σ', H', I, q⟩ := h; exact ⟨σ', H', I.unwish, q⟩
  | cont => obtain ⟨σ', H', I, q⟩ := h; exact ⟨σ', H', I.unwish, q⟩
  | ret u => obtain ⟨v, σ', H', I, r, q⟩ := h; exact ⟨v, σ', H', I.unwish, r, q⟩
theorem PE.nox {e : Expr} {t : TE} (h : PE X.nox e t) : PE X e t := fun pins s σ H Q I hw =>
  wpAny_mono (h pins s σ H Q (I.wish _) hw) (fun _ _ ⟨v, H', I', r, q⟩ => ⟨v, H', I'.unwish, r, q⟩) fun _ _ z => False.elim z
theorem PT.nox {e : Expr} {t : TT} (h : PT X.nox e t) : PT X e t := fun pins s σ H Q I hw =>
  wpAny_mono (h pins s σ H Q (I.wish _) hw) (fun _ _ ⟨H', I', q⟩ => ⟨H', I'.unwish, q⟩) fun _ _ z => False.elim z
theorem PSs.nox {st : List Stmt} {t : TS} (h : PSs X.nox st t) : PSs X st t := fun pins s σ H D I hw =>
  wpAny_mono (h pins s σ H D (I.wish _) hw) (fun _ _ q => q.unwish) fun _ _ z => False.elim z
end

/-! ### blocks and small statements -/
section
variable {X : Cx} {st : Stmt} {rest : List Stmt} {t u : TS} {e : Expr} {te : TE} {pos : Pos}
def tNext : TS := fun D σ H => D.nx σ H
def tSeq (t u : TS) : TS := fun D σ H => t { D with nx := u D } σ H
theorem pss_nil : PSs X [] tNext := fun _ _ σ H _ I h => wpAny_execs_nil ⟨σ, H, I, h⟩
theorem pss_cons (h1 : PS X st t) (h2 : PSs X rest u) : PSs X (st :: rest) (tSeq t u) := by
  intro pins s σ H D I h
  refine wpAny_execs_cons (thn (h1 pins s σ H { D with nx := u D } I h) fun f s1 q => ?_)
  cases f with
  | next =>
    obtain ⟨σ', H', I', q⟩ := q
    exact h2 pins s1 σ' H' D I' q
  | ret v => exact q
  | brk => exact q
  | cont => exact q
theorem pss_one (h1 : PS X st t) : PSs X [st] t := by
  intro pins s σ H D I h
  refine wpAny_execs_cons (thn (h1 pins s σ H D I h) fun f s1 q => ?_)
  cases f with
  | next => exact wpAny_execs_nil q
  | ret v => exact q
  | brk => exact q
  | cont => exact q
/-- in a def's body nothing is shown -/
theorem Inv.quiet {pins : List (Addr × Obj)} {σ : St} {H : Hp} {s : Shared} (I : Inv X pins σ H s) : interactive X.env = false := by simp [interactive, I.ok.kind]
/-- an expression whose value is dropped -/
def tDrop (te : TE) : TS := fun D σ H => te σ H fun _ H1 => D.nx σ H1
theorem ps_expr (he : PE X e te) (hs : swapsWith e none pos.line X.env = pure false := by rfl) : PS X (.Expr e pos) (tDrop te) := by
  intro pins s σ H D I h
  exact wpAny_Expr_any (thn (he pins s σ H _ I h) fun v s1 ⟨x, H1, I1, r1, q1⟩ => ⟨σ, H1, I1, q1⟩) I.quiet hs
def tRet (te : TE) : TS := fun D σ H => te σ H D.rt
theorem ps_ret (he : PE X e te) : PS X (.Return (some e) pos) (tRet te) := by
  intro pins s σ H D I h
  exact wpAny_Return_some (thn (he pins s σ H _ I h) fun v s1 ⟨x, H1, I1, r1, q1⟩ => ⟨x, σ, H1, I1, r1, q1⟩)
def tRetN : TS := fun D _ H => D.rt .non H
def tIfS (c : TT) (t u : TS) : TS := fun D σ H => c σ H fun b H1 => if b = true then t D σ H1 else u D σ H1
theorem ps_if {c : Expr} {a b : List Stmt} {tc : TT} (hc : PT X c tc) (ha : PSs X a t) (hb : PSs X b u) : PS X (.If c a b pos) (tIfS tc t u) := by
  intro pins s σ H D I h
  refine wpAny_If (thn (hc pins s σ H _ I h) fun d s1 ⟨H1, I1, q1⟩ => ?_)
  cases d with
  | true => exact ha pins s1 σ H1 D I1 q1
  | false => exact hb pins s1 σ H1 D I1 q1
/-- code that the proof never comes to -/
def tNever : TS := fun _ _ _ => False
theorem ps_never : PS X st tNever := fun _ _ _ _ _ _ h => h.elim
end

/-! ### targets -/
abbrev TG := V → St → Hp → (St → Hp → Prop) → Prop
abbrev TGs := List V → St → Hp → (St → Hp → Prop) → Prop
def PG (X : Cx) (target : Expr) (t : TG) : Prop :=
  ∀ (pins : List (Addr × Obj)) (s : Shared) (σ : St) (H : Hp) (v : V) (u : Value) (Q : St → Hp → Prop), Inv X pins σ H s → RelV v u → t v σ H Q →
    wpAny (model X.prog X.w) X.A (assign target X.env u) (fun _ s' => ∃ σ' H', Inv X pins σ' H' s' ∧ Q σ' H') X.xe s
/-- several targets, one after another -/
def PGs (X : Cx) (ts : List Expr) (t : TGs) : Prop :=
  ∀ (pins : List (Addr × Obj)) (s : Shared) (σ : St) (H : Hp) (vs : List V) (us : List Value) (Q : St → Hp → Prop), Inv X pins σ H s → Vals vs us → t vs σ H Q →
    wpAny (model X.prog X.w) X.A (assignInOrder ((assignEach ts X.env).map (·.2)) us) (fun _ s' => ∃ σ' H', Inv X pins σ' H' s' ∧ Q σ' H') X.xe s
/-- o[i] = v, by values -/
abbrev TSet := V → V → V → Hp → (Hp → Prop) → Prop
def PSet (X : Cx) (t : TSet) : Prop :=
  ∀ (pins : List (Addr × Obj)) (s : Shared) (σ : St) (H : Hp) (o i v : V) (ov iv u : Value) (Q : Hp → Prop), Inv X pins σ H s → RelV o ov → RelV i iv → RelV v u → t o i v H Q →
    wpAny (model X.prog X.w) X.A (setItem ov iv u) (fun _ s' => ∃ H', Inv X pins σ H' s' ∧ Q H') X.xe s
/-- a op= b, by values -/
abbrev TIp := V → V → Hp → VK → Prop
def PIp (X : Cx) (op : Operator) (t : TIp) : Prop :=
  ∀ (pins : List (Addr × Obj)) (s : Shared) (σ : St) (H : Hp) (x y : V) (v u : Value) (Q : VK), Inv X pins σ H s → RelV x v → RelV y u → t x y H Q →
    wpAny (model X.prog X.w) X.A (inplaceOp op v u) (EP X pins σ Q) X.xe s
section
variable {X : Cx} {pos : Pos}
def gName (i : Nat) : TG := fun v σ H Q => Q (σ.set i (some v)) H
theorem pg_name {i : Nat} {x : Str} (hN : X.N.Nodup) (hi : X.N[i]? = some x) (hx : Loc X.env.scope x) (hf : X.fn x = true ∨ X.env.scope.names.lookup x = some .local := by first | exact .inl rfl | exact .inr rfl | assumption) : PG X (.Name x pos) (gName i) := by
  intro pins s σ H v u Q I r h
  exact wpAny_assign_Name (store_ok I hN hi hx r (fun s' I' => ⟨_, H, I', h⟩) hf)
def gNil : TGs := fun vs σ H Q => vs = [] ∧ Q σ H
def gCons (t : TG) (u : TGs) : TGs := fun vs σ H Q => ∃ v r, vs = v :: r ∧ t v σ H fun σ' H' => u r σ' H' Q
theorem pgs_nil : PGs X [] gNil := by
  intro pins s σ H vs us Q I r h
  obtain ⟨e, h⟩ := h
  subst e
  cases r
  exact assignInOrder_nil ⟨σ, H, I, h⟩
theorem pgs_cons {e : Expr} {es : List Expr} {t : TG} {u : TGs} (h1 : PG X e t) (h2 : PGs X es u)
    (hs : (assignEach (e :: es) X.env).map (·.2) = assign e X.env :: (assignEach es X.env).map (·.2) := by rfl) : PGs X (e :: es) (gCons t u) := by
  intro pins s σ H vs us Q I r h
  obtain ⟨v, vr, e1, h⟩ := h
  subst e1
  cases r with
  | cons r rr =>
    rw [hs]
    refine assignInOrder_cons (thn (h1 pins s σ H _ _ _ I r h) fun _ s1 ⟨σ1, H1, I1, q1⟩ => ?_)
    exact h2 pins s1 σ1 H1 _ _ Q I1 rr q1
/-- (a, b, ..) = a tuple of that length -/
def gTup (K : PySem.W.Frag) (n : Nat) (t : TGs) : TG := fun v σ H Q => ∃ a xs, v = .ref a ∧ SqT K H a xs ∧ xs.length = n ∧ t xs σ H Q
theorem pg_tup {es : List Expr} {k : Nat} {t : TGs} {n : Nat} (hc : X.calm = true) (h : PGs X es t)
    (hn : (assignEach es X.env).length = n := by rfl) (hst : (assignEach es X.env).findIdx? (·.1) = none := by rfl) : PG X (.Tuple es k pos) (gTup X.K n t) := by
  intro pins s σ H v u Q I r hw
  obtain ⟨a, xs, e1, hq, hl, hw⟩ := hw
  subst e1
  cases r
  obtain ⟨its, rv, ht, hz⟩ := I.tuple hq
  refine assign_Tuple_tuple (I.ok.hd hc) ht (by simp [hn, ← hl, rv.length]) hst fun h' hx => ?_
  have I1 : Inv X pins σ H { s with heap := h' } := I.kept (t' := s.toks) fun b o e => hx b o (Nat.ne_of_lt (Heap.lt_size e)) e
  exact h pins _ σ H xs _ Q I1 (by simpa using rv) hw
/-- o[i] = .. -/
def gSub (to ti : TE) (t : TSet) : TG := fun v σ H Q => to σ H fun o H1 => ti σ H1 fun i H2 => t o i v H2 fun H3 => Q σ H3
theorem pg_sub {o i : Expr} {to ti : TE} {t : TSet} (ho : PE X o to) (hi : PE X i ti) (hs : PSet X t)
    (ha : ∀ v, assign (.Subscript o i pos) X.env v = (do
      let ov ← holding [v] (eval o X.env)
      let iv ← holding [v, ov] (eval i X.env)
      standAt pos
      holding [v, ov, iv] (setItem ov iv v)
      release [v, ov, iv] []) := by intro _; rfl) : PG X (.Subscript o i pos) (gSub to ti t) := by
  intro pins s σ H v u Q I r h
  rw [ha]
  refine wpAny_bind (wpAny_holding (thn (ho pins s σ H _ I h) fun ov s1 ⟨x, H1, I1, r1, q1⟩ => ?_))
  refine wpAny_bind (wpAny_holding (thn (hi pins s1 σ H1 _ I1 q1) fun iv s2 ⟨y, H2, I2, r2, q2⟩ => ?_))
  refine wpAny_bind (wpAny_standAt (wpAny_bind (wpAny_holding (thn (hs pins s2 σ H2 x y v ov iv u _ I2 r1 r2 r q2) fun _ s3 ⟨H3, I3, q3⟩ => ?_))))
  exact wpAny_release ⟨σ, H3, I3, q3⟩
/-- target = value -/
def tAsg (te : TE) (g : TG) : TS := fun D σ H => te σ H fun x H1 => g x σ H1 D.nx
theorem ps_asg {tg e : Expr} {te : TE} {g : TG} (he : PE X e te) (hg : PG X tg g) (hs : swapsWithSole [tg] e pos.line X.env = pure false := by rfl) (hw : swappedStores [tg] e X.env = pure none := by rfl)
    (h1 : (assignEach [tg] X.env).map (·.2) = [assign tg X.env] := by rfl) : PS X (.Assign [tg] e pos) (tAsg te g) := by
  intro pins s σ H D I h
  refine wpAny_Assign_stores (thn (he pins s σ H _ I h) fun v s1 ⟨x, H1, I1, r1, q1⟩ => ?_) hs hw
  rw [h1]
  exact thn (hg pins s1 σ H1 x v _ I1 r1 q1) fun _ s2 q => q
/-- name = value -/
theorem ps_set {i : Nat} {x : Str} {e : Expr} {te : TE} {pos' : Pos} (hN : X.N.Nodup) (hi : X.N[i]? = some x) (hx : Loc X.env.scope x) (he : PE X e te) (hs : swapsWith e (some (.Name x pos')) pos.line X.env = pure false := by rfl) (hf : X.fn x = true ∨ X.env.scope.names.lookup x = some .local := by first | exact .inl rfl | exact .inr rfl | assumption) :
    PS X (.Assign [.Name x pos'] e pos) (tAsg te (gName i)) := by
  intro pins s σ H D I h
  refine wpAny_Assign_Name (thn (he pins s σ H _ I h) fun v s1 ⟨y, H1, I1, r1, q1⟩ => ?_) hs
  exact store_ok I1 hN hi hx r1 (fun s2 I2 => ⟨_, H1, I2, q1⟩) hf
/-- a, b = x, y with plain local names: stored from the right; the pair itself is not tracked (the opening rows as in PyProof/Rows/TupAssign.lean:23) -/
def tPar (i j : Nat) (ta : TA) : TS := fun D σ H => ta σ H fun vs H1 => ∃ v w, vs = [v, w] ∧ D.nx ((σ.set i (some v)).set j (some w)) H1
theorem ps_par {i j : Nat} {x y : Str} {a b : Expr} {ta : TA} {px py pt : Pos} {kt k2 pt2} (hc : X.calm = true) (hN : X.N.Nodup) (hi : X.N[i]? = some x) (hj : X.N[j]? = some y) (hij : i ≠ j)
    (hx : X.env.scope.names.lookup x = some .local) (hy : X.env.scope.names.lookup y = some .local) (ha : PA X [a, b] ta)
    (hw : swappedStores [.Tuple [.Name x px, .Name y py] kt pt] (.Tuple [a, b] k2 pt2) X.env = pure (some [x, y]))
    (hs : swapsWithSole [.Tuple [.Name x px, .Name y py] kt pt] (.Tuple [a, b] k2 pt2) pos.line X.env = pure false := by rfl) :
    PS X (.Assign [.Tuple [.Name x px, .Name y py] kt pt] (.Tuple [a, b] k2 pt2) pos) (tPar i j ta) := by
  intro pins s σ H D I h
  rw [exec_Assign_arm]
  refine wpAny_bind (wpAny_standAt ?_)
  rw [hs]
  refine wpAny_bind (wpAny_pure ?_)
  rw [if_neg (by decide)]
  refine wpAny_bind (Tuple_ (thn (ha _ pins s σ H _ I h) fun us s1 ⟨vs, H1, I1, r1, q1⟩ => ?_))
  obtain ⟨v, w, e1, q1⟩ := q1
  subst e1
  obtain ⟨u1, u2, rfl, rv, rw'⟩ : ∃ u1 u2, us = [u1, u2] ∧ RelV v u1 ∧ RelV w u2 := by
    cases r1 with
    | cons p q =>
      cases q with
      | cons p' q' =>
        cases q'
        exact ⟨_, _, rfl, p, p'⟩
  refine wpAny_newObj_type ?_ (by show 2 ≤ sizeLine; decide)
  have I2 : Inv X pins σ H1 { s1 with heap := s1.heap.push { cls := .type "tuple", data := .seq [u1, u2].toArray } } := I1.kept (t' := s1.toks) fun b o e => Heap.get?_push_of_some _ e
  rw [hw]
  refine wpAny_bind (wpAny_pure ?_)
  show wpAny (model X.prog X.w) X.A (do rule "assign.swapped-stores"; let items ← unpackItems (.ref s1.heap.objs.size) 2 none; assignInOrder [fun v => bindName X.env y v, fun v => bindName X.env x v] items.reverse; pure Flow.next) _ _ _
  refine wpAny_bind (wpAny_rule (wpAny_bind (unpackItems_tuple (items := #[u1, u2]) (I.ok.hd hc) (IsTup.new s1.heap _) fun h' hx' => ?_)))
  have I3 := I2.kept (h' := h') (t' := s1.toks) fun b o e => hx' b o (Nat.ne_of_lt (Heap.lt_size e)) e
  show wpAny _ _ (assignInOrder [fun v => bindName X.env y v, fun v => bindName X.env x v] [u2, u1] >>= fun _ => pure Flow.next) _ _ _
  refine wpAny_bind (assignInOrder_cons (wpAny_bindName (store_ok I3 hN hj (.inl hy) rw' (fun s2 I4 => ?_) (.inr hy))))
  refine assignInOrder_cons (wpAny_bindName (store_ok I4 hN hi (.inl hx) rv (fun s3 I5 => assignInOrder_nil (wpAny_pure ?_)) (.inr hx)))
  rw [List.set_comm _ _ (Ne.symm hij)] at I5
  exact ⟨_, H1, I5, q1⟩
/-- name op= e -/
def tAug (i : Nat) (te : TE) (ti : TIp) : TS := fun D σ H => ∃ x, σ[i]? = some (some x) ∧ te σ H fun y H1 => ti x y H1 fun z H2 => D.nx (σ.set i (some z)) H2
/-- o[i] op= e -/
def tAugS (to ti te : TE) (tget : V → V → Hp → VK → Prop) (tip : TIp) (tset : TSet) : TS := fun D σ H => to σ H fun o H1 => ti σ H1 fun i H2 => tget o i H2 fun x H3 => te σ H3 fun y H4 => tip x y H4 fun z H5 => tset o i z H5 fun H6 => D.nx σ H6
/-- o[i], by values -/
def PGet (X : Cx) (t : V → V → Hp → VK → Prop) : Prop :=
  ∀ (pins : List (Addr × Obj)) (s : Shared) (σ : St) (H : Hp) (o i : V) (ov iv : Value) (Q : VK), Inv X pins σ H s → RelV o ov → RelV i iv → t o i H Q →
    wpAny (model X.prog X.w) X.A (getItem ov iv) (EP X pins σ Q) X.xe s
theorem ps_augS {o i e : Expr} {to ti te : TE} {tget : V → V → Hp → VK → Prop} {tip : TIp} {tset : TSet} {op : Operator} {tpos : Pos} (ho : PE X o to) (hi : PE X i ti) (hg : PGet X tget) (he : PE X e te) (hp : PIp X op tip) (hs : PSet X tset)
    (ha : ∀ ov iv new, augStore i ov iv new = (do holding [new, ov, iv] (setItem ov iv new); release [new, ov, iv] []; pure .next) := by intros; rfl) : PS X (.AugAssign (.Subscript o i tpos) op e pos) (tAugS to ti te tget tip tset) := by
  intro pins s σ H D I h
  refine wpAny_AugAssign_SubscriptAny (thn (ho pins s σ H _ I h) fun ov s1 ⟨x1, H1, I1, r1, q1⟩ => ?_) ha
  refine thn (hi pins s1 σ H1 _ I1 q1) fun iv s2 ⟨x2, H2, I2, r2, q2⟩ => ?_
  refine thn (hg pins s2 σ H2 x1 x2 ov iv _ I2 r1 r2 q2) fun old s3 ⟨x3, H3, I3, r3, q3⟩ => ?_
  refine thn (he pins s3 σ H3 _ I3 q3) fun v s4 ⟨x4, H4, I4, r4, q4⟩ => ?_
  refine thn (hp pins s4 σ H4 x3 x4 old v _ I4 r3 r4 q4) fun new s5 ⟨x5, H5, I5, r5, q5⟩ => ?_
  exact thn (hs pins s5 σ H5 x1 x2 x5 ov iv new _ I5 r1 r2 r5 q5) fun _ s6 ⟨H6, I6, q6⟩ => ⟨σ, H6, I6, q6⟩
/-- ints -/
def ipI (f : Int → Int → Int) : TIp := fun x y H Q => ∃ i j, x = .int i ∧ y = .int j ∧ Q (.int (f i j)) H
theorem ip_add : PIp X .Add (ipI fun i j => i + j) := by
  intro pins s σ H x y v u Q I r1 r2 h
  obtain ⟨i, j, e1, e2, q⟩ := h
  subst e1; subst e2
  obtain ⟨t, rfl⟩ := r1
  obtain ⟨t', rfl⟩ := r2
  exact iadd_int ⟨.int _, H, I.tok _, ⟨_, rfl⟩, q⟩
end

/-! ### while -/
section
variable {X : Cx} {pos : Pos}
end

/-! ### what a loop or a comprehension walks -/
/-- at turn i: it yields x (the heap may grow), or it stops -/
structure It where
  go : Nat → Hp → Prop
  yld : Nat → Hp → V → Hp → Prop
  stop : Nat → Hp → Prop
/-- the iterator's own objects may turn: they are not the frame's, not pinned, younger than the entry (or a comprehension's own) -/
def FpOk (X : Cx) (pins : List (Addr × Obj)) (H : Hp) (b : Addr) : Prop :=
  H b = none ∧ b ≠ X.env.locals ∧ b ∉ X.fs ∧ (b ∈ X.ex ∨ X.s₀.heap.objs.size ≤ b) ∧ (∀ x c, X.env.cells.lookup x = some c → c ≠ b) ∧ ∀ p ∈ X.pn ++ pins, p.1 ≠ b
theorem Inv.fpOk {X : Cx} {pins : List (Addr × Obj)} {σ : St} {H H' : Hp} {s : Shared} {b : Addr} (I : Inv X pins σ H s) (hb : s.heap.objs.size ≤ b) (hn : H' b = none) : FpOk X pins H' b := by
  refine ⟨hn, Nat.ne_of_gt (Nat.lt_of_lt_of_le I.lt hb), I.nofs hb, .inr (Nat.le_trans I.sz hb), fun x c e z => ?_, fun p hp z => ?_⟩
  · obtain ⟨v, q⟩ := I.cell x c e
    exact absurd (Nat.lt_of_lt_of_le q.lt (by rw [z]; exact hb)) (Nat.lt_irrefl _)
  · exact absurd (Nat.lt_of_lt_of_le (Heap.lt_size (I.pin p hp).1) (by rw [z]; exact hb)) (Nat.lt_irrefl _)
structure Turn (P : Program) (w : World) (K : PySem.W.Frag) (tg : Expr) (J : It) (fp : List Addr) (it : Addr) (tn : Nat → Heap → Prop) : Prop where
  mem : it ∈ fp
  obj : ∀ i h, tn i h → ∀ b ∈ fp, ∃ o, h.get? b = some o ∧ ∀ v, o.data ≠ .cell v
  keep : ∀ i h h', tn i h → (∀ b ∈ fp, ∀ o, h.get? b = some o → h'.get? b = some o) → tn i h'
  item : ∀ (X : Cx), X.prog = P → X.w = w → X.K = K → X.calm = true → ∀ (i : Nat) (pins : List (Addr × Obj)) (s : Shared) (σ : St) (H : Hp) (E : Value → Shared → Prop), Inv X pins σ H s → (∀ b ∈ fp, FpOk X pins H b) → tn i s.heap → J.go i H →
    wpAny (model P w) X.A (pyNext (.ref it)) (fun r s1 => ∃ u, r = some u ∧
      wpAny (model P w) X.A (letOwnedTupleGo tg (.ref it) u) (fun _ s2 => ∃ x H', Inv X pins σ H' s2 ∧ RelV x u ∧ J.yld i H x H' ∧ tn (i + 1) s2.heap ∧ ∀ b ∈ fp, H' b = none) E s1) E s
  done : ∀ (X : Cx), X.prog = P → X.w = w → X.K = K → X.calm = true → ∀ (i : Nat) (pins : List (Addr × Obj)) (s : Shared) (σ : St) (H : Hp) (E : Value → Shared → Prop), Inv X pins σ H s → (∀ b ∈ fp, FpOk X pins H b) → tn i s.heap → J.stop i H →
    wpAny (model P w) X.A (pyNext (.ref it)) (fun r s1 => r = none ∧ Inv X pins σ H s1) E s
  self : ∀ (A : Around) (i : Nat) (s : Shared) (Q : Value → Shared → Prop) (E : Value → Shared → Prop), tn i s.heap → Q (.ref it) s → wpAny (model P w) A (pyIter (.ref it)) Q E s
abbrev TI := St → Hp → (It → Hp → Prop) → Prop
/-- an iterator has come -/
def PIE (X : Cx) (pins : List (Addr × Obj)) (σ : St) (tg : Expr) (R : It → Hp → Prop) (itv : Value) (s2 : Shared) : Prop :=
  ∃ (it : Addr) (fp : List Addr) (tn : Nat → Heap → Prop) (J : It) (H' : Hp), itv = .ref it ∧ Inv X pins σ H' s2 ∧ Turn X.prog X.w X.K tg J fp it tn ∧ tn 0 s2.heap ∧ (∀ b ∈ fp, FpOk X pins H' b) ∧ R J H'
def PI (X : Cx) (tg iter : Expr) (wi : TI) : Prop :=
  ∀ (pins : List (Addr × Obj)) (s : Shared) (σ : St) (H : Hp) (R : It → Hp → Prop), Inv X pins σ H s → wi σ H R →
    wpAny (model X.prog X.w) X.A (eval iter X.env) (fun v s1 => wpAny (model X.prog X.w) X.A (pyIter v) (PIE X pins σ tg R) X.xe s1) X.xe s

/-- the step ahead of the store is nothing for an iterator that keeps no tuple -/
theorem go_of {M : Model} {A : Around} {E : Value → Shared → Prop} {s : Shared} {tg : Expr} {it : Addr} {u : Value} {o : Obj} {n : String} {vs : Array Value} {Q : Unit → Shared → Prop} (ho : s.heap.get? it = some o) (hc : o.cls = .type n) (hd : o.data = .fields vs)
    (hn : ["enumerate", "zip", "dict_itemiterator", "dict_reverseitemiterator", "odict_iterator", "itertools.zip_longest", "itertools.pairwise"].contains n = false) (hQ : Q () s) : wpAny M A (letOwnedTupleGo tg (.ref it) u) Q E s := by
  unfold letOwnedTupleGo
  cases tg <;> first
    | exact wpAny_pure hQ
    | (cases u <;> first
        | exact wpAny_pure hQ
        | (refine wpAny_bind (wpAny_load ho ?_)
           rw [hc, hd]
           show wpAny M A (if (["enumerate", "zip", "dict_itemiterator", "dict_reverseitemiterator", "odict_iterator", "itertools.zip_longest", "itertools.pairwise"].contains n && vs[0]? == some (rawInt _)) = true then _ else _) Q E s
           rw [if_neg (by intro h; rw [hn, Bool.false_and] at h; cases h)]
           exact wpAny_pure hQ))

/-- the list at a, as it stands at each turn (a loop may append to it) -/
def Itl (K : PySem.W.Frag) (a : Addr) : It :=
  ⟨fun i H => ∃ xs x, SqL K H a xs ∧ xs[i]? = some x, fun i H x H' => H' = H ∧ ∀ xs, SqL K H a xs → xs[i]? = some x, fun i H => ∃ xs, SqL K H a xs ∧ xs.length ≤ i⟩
def Itt (K : PySem.W.Frag) (a : Addr) : It :=
  ⟨fun i H => ∃ xs x, SqT K H a xs ∧ xs[i]? = some x, fun i H x H' => H' = H ∧ ∀ xs, SqT K H a xs → xs[i]? = some x, fun i H => ∃ xs, SqT K H a xs ∧ xs.length ≤ i⟩
/-- lo, lo + 1, .. (n of them) -/
def Itr (lo : Int) (n : Nat) : It := ⟨fun i _ => i < n, fun i H x H' => H' = H ∧ x = .int (lo + i), fun i _ => n ≤ i⟩
theorem turn_list {P : Program} {w : World} {K : PySem.W.Frag} {tg : Expr} (a it : Addr) : Turn P w K tg (Itl K a) [it] it (fun i h => h.IsListIter it a i) where
  mem := by simp
  obj := fun i h st b hb => by
    have e : b = it := by simpa using hb
    subst e
    obtain ⟨o, e, c, d⟩ := st
    exact ⟨o, e, fun v z => by rw [d] at z; cases z⟩
  keep := fun i h h' st k => st.at fun o e => k it (by simp) o e
  item := by
    intro X hP hw hK hc i pins s σ H E I hf st hg
    subst hP hw hK
    obtain ⟨xs, x, hq, hx⟩ := hg
    obtain ⟨its, rv, p, hz⟩ := I.list hq
    obtain ⟨u, hu, ru⟩ := rv.get hx
    obtain ⟨f0, f1, f2, f3, f4, f5⟩ := hf it (by simp)
    refine wpAny_pyNext_list_item st p.isList (x := u) (by simpa using hu) fun h' st' sb => ?_
    have I1 : Inv X pins σ H { s with heap := h' } := I.turned (t' := s.toks) (fun b o hb e => (sb.2 b hb).trans e) f0 f1 f3 f4 f5
    obtain ⟨o, e, c, d⟩ := id st'
    exact ⟨u, rfl, go_of (s := { s with heap := h' }) e c d (by decide) ⟨x, H, I1, ru, ⟨rfl, fun ys hy => by rw [I.list_inj hy hq]; exact hx⟩, st', fun b hb => (hf b hb).1⟩⟩
  done := by
    intro X hP hw hK hc i pins s σ H E I hf st hg
    subst hP hw hK
    obtain ⟨xs, hq, hx⟩ := hg
    obtain ⟨its, rv, p, hz⟩ := I.list hq
    obtain ⟨f0, f1, f2, f3, f4, f5⟩ := hf it (by simp)
    have hl := rv.length
    exact wpAny_pyNext_list_end (I.ok.hd hc) st p.isList (by simp; omega) fun h' eb => ⟨rfl, I.turned (t' := s.toks) (fun b o hb e => eb b o hb e) f0 f1 f3 f4 f5⟩
  self := fun _ _ _ _ _ st h => wpAny_pyIter_listiter st h
theorem turn_tuple {P : Program} {w : World} {K : PySem.W.Frag} {tg : Expr} (a it : Addr) : Turn P w K tg (Itt K a) [it] it (fun i h => h.IsTupleIter it a i) where
  mem := by simp
  obj := fun i h st b hb => by
    have e : b = it := by simpa using hb
    subst e
    obtain ⟨o, e, c, d⟩ := st
    exact ⟨o, e, fun v z => by rw [d] at z; cases z⟩
  keep := fun i h h' st k => st.at fun o e => k it (by simp) o e
  item := by
    intro X hP hw hK hc i pins s σ H E I hf st hg
    subst hP hw hK
    obtain ⟨xs, x, hq, hx⟩ := hg
    obtain ⟨its, rv, p, hz⟩ := I.tuple hq
    obtain ⟨u, hu, ru⟩ := rv.get hx
    obtain ⟨f0, f1, f2, f3, f4, f5⟩ := hf it (by simp)
    refine wpAny_pyNext_tuple_item st (show s.heap.IsTuple a its.toArray from p) (x := u) (by simpa using hu) fun h' st' sb => ?_
    have I1 : Inv X pins σ H { s with heap := h' } := I.turned (t' := s.toks) (fun b o hb e => (sb.2 b hb).trans e) f0 f1 f3 f4 f5
    obtain ⟨o, e, c, d⟩ := id st'
    exact ⟨u, rfl, go_of (s := { s with heap := h' }) e c d (by decide) ⟨x, H, I1, ru, ⟨rfl, fun ys hy => by rw [I.tuple_inj hy hq]; exact hx⟩, st', fun b hb => (hf b hb).1⟩⟩
  done := by
    intro X hP hw hK hc i pins s σ H E I hf st hg
    subst hP hw hK
    obtain ⟨xs, hq, hx⟩ := hg
    obtain ⟨its, rv, p, hz⟩ := I.tuple hq
    obtain ⟨f0, f1, f2, f3, f4, f5⟩ := hf it (by simp)
    have hl := rv.length
    exact wpAny_pyNext_tuple_end (I.ok.hd hc) st (show s.heap.IsTuple a its.toArray from p) (by simp; omega) fun h' eb => ⟨rfl, I.turned (t' := s.toks) (fun b o hb e => eb b o hb e) f0 f1 f3 f4 f5⟩
  self := fun _ _ _ _ _ st h => wpAny_pyIter_tupleiter st h
theorem turn_range {P : Program} {w : World} {K : PySem.W.Frag} {tg : Expr} (it : Addr) (lo : Int) (n : Nat) : Turn P w K tg (Itr lo n) [it] it (fun i h => IsRangeIter h it (lo + (i : Nat) * 1) ((n : Int) - (i : Nat)) 1) where
  mem := by simp
  obj := fun i h st b hb => by
    have e : b = it := by simpa using hb
    subst e
    exact ⟨_, st, fun v z => by
      have z' : Data.fields _ = Data.cell v := z
      cases z'⟩
  keep := fun i h h' st k => k it (by simp) _ st
  item := by
    intro X hP hw hK hc i pins s σ H E I hf st hg
    subst hP hw hK
    obtain ⟨f0, f1, f2, f3, f4, f5⟩ := hf it (by simp)
    have W := Walks.range (prog := X.prog) (w := X.w) (I.ok.hd hc) it lo 1 n
    refine W.item i s _ _ hg st fun v h' tk hv st' kk => ?_
    obtain ⟨t, rfl⟩ := hv
    have I1 : Inv X pins σ H { s with heap := h', toks := tk } := I.turned (fun b o hb e => kk b o (by simpa using hb) e) f0 f1 f3 f4 f5
    refine ⟨_, rfl, go_of (s := { s with heap := h', toks := tk }) (n := "range_iterator") st' rfl rfl (by decide) ⟨.int (lo + i), H, I1, ⟨t, ?_⟩, ⟨rfl, rfl⟩, st', fun b hb => (hf b hb).1⟩⟩
    rw [Int.mul_one]
  done := by
    intro X hP hw hK hc i pins s σ H E I hf st hg
    subst hP hw hK
    obtain ⟨f0, f1, f2, f3, f4, f5⟩ := hf it (by simp)
    exact wpAny_pyNext_range_end (I.ok.hd hc) st (by have : n ≤ i := hg; omega) fun h' eb => ⟨rfl, I.turned (t' := s.toks) (fun b o hb e => eb b o hb e) f0 f1 f3 f4 f5⟩
  self := fun _ _ _ _ _ st h => wpAny_pyIter_rangeiter st h
end L2

namespace L2
open PySem PySem.Spec PyProof.Rows
section
variable {X : Cx} {tg : Expr}
def iList (K : PySem.W.Frag) (tl : TE) : TI := fun σ H R => tl σ H fun x H1 => ∃ a, x = .ref a ∧ (∃ xs, SqL K H1 a xs) ∧ R (Itl K a) H1
def iTup (K : PySem.W.Frag) (tl : TE) : TI := fun σ H R => tl σ H fun x H1 => ∃ a, x = .ref a ∧ (∃ xs, SqT K H1 a xs) ∧ R (Itt K a) H1
theorem pi_list {l : Expr} {tl : TE} (hl : PE X l tl) : PI X tg l (iList X.K tl) := by
  intro pins s σ H R I h
  refine thn (hl pins s σ H _ I h) fun v s1 ⟨x, H1, I1, r1, q1⟩ => ?_
  obtain ⟨a, e, ⟨xs, hq⟩, q⟩ := q1
  subst e
  cases r1
  obtain ⟨its, rv, p, hz⟩ := I1.list hq
  refine wpAny_pyIter_list p.isList ?_
  refine ⟨s1.heap.objs.size, [s1.heap.objs.size], _, _, H1, rfl, I1.kept (t' := s1.toks) fun b o e => Heap.get?_push_of_some _ e, turn_list a _, ⟨_, Heap.get?_push_size _ rfl, rfl, rfl⟩, fun b hb => ?_, q⟩
  have e : b = s1.heap.objs.size := by simpa using hb
  subst e
  exact I1.fpOk (Nat.le_refl _) (I1.hok.fresh (Nat.le_refl _))
theorem pi_tup {l : Expr} {tl : TE} (hl : PE X l tl) : PI X tg l (iTup X.K tl) := by
  intro pins s σ H R I h
  refine thn (hl pins s σ H _ I h) fun v s1 ⟨x, H1, I1, r1, q1⟩ => ?_
  obtain ⟨a, e, ⟨xs, hq⟩, q⟩ := q1
  subst e
  cases r1
  obtain ⟨its, rv, p, hz⟩ := I1.tuple hq
  refine wpAny_pyIter_tuple (show s1.heap.IsTuple a its.toArray from p) ?_
  refine ⟨s1.heap.objs.size, [s1.heap.objs.size], _, _, H1, rfl, I1.kept (t' := s1.toks) fun b o e => Heap.get?_push_of_some _ e, turn_tuple a _, ⟨_, Heap.get?_push_size _ rfl, rfl, rfl⟩, fun b hb => ?_, q⟩
  have e : b = s1.heap.objs.size := by simpa using hb
  subst e
  exact I1.fpOk (Nat.le_refl _) (I1.hok.fresh (Nat.le_refl _))
/-- a range object just made, walked -/
theorem range_it {pins : List (Addr × Obj)} {σ : St} {H : Hp} {s : Shared} {R : It → Hp → Prop} {E : Value → Shared → Prop} {lo hi : Int} {t u v : Tok} {tk : Nat} (I : Inv X pins σ H s) (h1 : -(2 ^ 62) ≤ lo) (h2 : lo < 2 ^ 62) (h3 : -(2 ^ 62) ≤ hi) (h4 : hi < 2 ^ 62)
    (q : R (Itr lo (hi - lo).toNat) H) : wpAny (model X.prog X.w) X.A (pyIter (.ref s.heap.objs.size)) (PIE X pins σ tg R) E { s with heap := s.heap.push { cls := .type "range", data := .fields #[.int lo t, .int hi u, .int 1 v] }, toks := tk } := by
  refine wpAny_pyIter_range (IsRange.new ..) (small_one h1 h2 h3 h4) ?_
  have I1 : Inv X pins σ H { s with heap := s.heap.push { cls := .type "range", data := .fields #[.int lo t, .int hi u, .int 1 v] }, toks := tk } := I.kept fun b o e => Heap.get?_push_of_some _ e
  refine ⟨(s.heap.push { cls := .type "range", data := .fields #[.int lo t, .int hi u, .int 1 v] }).objs.size, [(s.heap.push { cls := .type "range", data := .fields #[.int lo t, .int hi u, .int 1 v] }).objs.size], _, _, H, rfl,
    I1.kept (t' := tk) fun b o e => Heap.get?_push_of_some _ e, turn_range _ lo (hi - lo).toNat, ?_, fun b hb => ?_, q⟩
  · have e1 : lo + ((0 : Nat) : Int) * 1 = lo := by simp
    have e2 : (((hi - lo).toNat : Nat) : Int) - ((0 : Nat) : Int) = Builtin.Range.rangeSize lo hi 1 := by rw [rangeSize_one]; split <;> omega
    show IsRangeIter _ _ (lo + ((0 : Nat) : Int) * 1) ((((hi - lo).toNat : Nat) : Int) - ((0 : Nat) : Int)) 1
    rw [e1, e2]
    exact Heap.get?_push_size _ rfl
  · have e : b = (s.heap.push { cls := .type "range", data := .fields #[.int lo t, .int hi u, .int 1 v] }).objs.size := by simpa using hb
    subst e
    exact I1.fpOk (Nat.le_refl _) (I1.hok.fresh (Nat.le_refl _))
def iRng1 (ta : TA) : TI := fun σ H R => ta σ H fun vs H1 => ∃ j : Int, vs = [.int j] ∧ -(2 ^ 62) ≤ j ∧ j < 2 ^ 62 ∧ R (Itr 0 j.toNat) H1
def iRng2 (ta : TA) : TI := fun σ H R => ta σ H fun vs H1 => ∃ i j : Int, vs = [.int i, .int j] ∧ (-(2 ^ 62) ≤ i ∧ i < 2 ^ 62 ∧ -(2 ^ 62) ≤ j ∧ j < 2 ^ 62) ∧ R (Itr i (j - i).toNat) H1
theorem pi_range1 {a : Expr} {ta : TA} {p pos : Pos} (hg : Gl X "range") (hm : X.mg "range" = none) (ha : PA X [a] ta) (hs : starEach [a] X.env = [(false, eval a X.env)] := by rfl) : PI X tg (.Call (.Name "range" p) [a] [] pos) (iRng1 ta) := by
  intro pins s σ H R I h
  refine Call_ (ld_blt I hg hm boot_range (PyProof.Rows.callWith_type1 (thn (ha pos pins s σ H _ I h) fun us s1 ⟨vs, H1, I1, r1, q1⟩ => ?_) hs rfl))
  obtain ⟨j, e, q1, q2, q⟩ := q1
  subst e
  cases r1 with
  | cons r rr =>
    cases rr
    obtain ⟨t, rfl⟩ := r
    exact call_range_1 (range_it I1 (by omega) (by omega) q1 q2 (by simpa using q))
/-! ### for -/
/-- W: the invariant by the turn and a measure; N: what the body is to reach -/
def tFor (wi : TI) (g : TG) (tb : TS) : TS := fun D σ H => wi σ H fun J H1 => ∃ W : Nat → Nat → St → Hp → Prop, (∃ m, W 0 m σ H1) ∧ ∀ i m σ H, W i m σ H →
  (J.stop i H ∧ D.nx σ H) ∨ (J.go i H ∧ ∃ N : St → Hp → Prop, (∀ σ' H', N σ' H' → ∃ m', m' < m ∧ W (i + 1) m' σ' H') ∧ ∀ x H', J.yld i H x H' → g x σ H' fun σ2 H2 => tb { D with nx := N, ct := N, bk := D.nx } σ2 H2)
/-- the records at fp as they stand -/
def pinsAt (fp : List Addr) (h : Heap) : List (Addr × Obj) := fp.filterMap fun b => (h.get? b).map fun o => (b, o)
theorem mem_pinsAt {fp : List Addr} {h : Heap} {b : Addr} {o : Obj} (hb : b ∈ fp) (e : h.get? b = some o) : (b, o) ∈ pinsAt fp h := List.mem_filterMap.mpr ⟨b, hb, by rw [e]; rfl⟩
theorem of_pinsAt {fp : List Addr} {h : Heap} {p : Addr × Obj} (hp : p ∈ pinsAt fp h) : p.1 ∈ fp ∧ h.get? p.1 = some p.2 := by
  obtain ⟨b, hb, e⟩ := List.mem_filterMap.mp hp
  cases q : h.get? b with
  | none => rw [q] at e; cases e
  | some o =>
    rw [q] at e
    have e' : (b, o) = p := Option.some.inj e
    subst e'
    exact ⟨hb, q⟩
theorem Inv.pinned {pins : List (Addr × Obj)} {σ : St} {H : Hp} {s : Shared} {fp : List Addr} (I : Inv X pins σ H s) (hf : ∀ b ∈ fp, FpOk X pins H b) (ho : ∀ b ∈ fp, ∃ o, s.heap.get? b = some o ∧ ∀ v, o.data ≠ .cell v) : Inv X (pins ++ pinsAt fp s.heap) σ H s :=
  I.pins_of fun p hp => (List.mem_append.mp hp).elim (fun z => I.pin p (List.mem_append_right _ z)) fun z => by
    obtain ⟨hb, e⟩ := of_pinsAt z
    obtain ⟨f0, f1, f2, _⟩ := hf p.1 hb
    obtain ⟨o, e', d⟩ := ho p.1 hb
    rw [e] at e'; cases e'
    exact ⟨e, f0, f1, f2, d⟩
theorem Inv.unpinned {pins pl : List (Addr × Obj)} {σ : St} {H : Hp} {s : Shared} (I : Inv X (pins ++ pl) σ H s) : Inv X pins σ H s := I.pins_of fun p hp => I.pin p (List.mem_append_right _ (List.mem_append_left _ hp))
theorem ps_for {iter : Expr} {body : List Stmt} {wi : TI} {g : TG} {tb : TS} {pos : Pos} (hp : PassesOwn (model X.prog X.w) X.A X.env X.xe) (hc : X.calm = true) (hi : PI X tg iter wi) (hg : PG X tg g) (hb : PSs X body tb)
    (hs : ∀ x, foldedSetIterable iter X.env x = pure x := by intro _; rfl) : PS X (.For tg iter body [] pos) (tFor wi g tb) := by
  intro pins s σ H D I h
  refine wpAny_For (thn (hi pins s σ H _ I h) fun v s1 h1 => thn h1 fun itv s2 h2 => ?_) hs
  obtain ⟨it, fp, tn, J, H2, e, I2, T, st2, f2, W, ⟨m0, w0⟩, turn⟩ := h2
  subst e
  -- what stays true of the iterator's objects through the loop
  have stat : ∀ {H' : Hp}, (∀ b ∈ fp, H' b = none) → ∀ b ∈ fp, FpOk X pins H' b := fun hn b hb => ⟨hn b hb, (f2 b hb).2⟩
  refine codeAny_forLoop_any (fun n s' => ∃ i σ' H', Inv X pins σ' H' s' ∧ tn i s'.heap ∧ (∀ b ∈ fp, H' b = none) ∧ W i n σ' H') ?_ m0 ⟨0, σ, H2, I2, st2, fun b hb => (f2 b hb).1, w0⟩
  rintro n s3 ⟨i, σ3, H3, I3, st3, fr3, w3⟩
  rcases turn i n σ3 H3 w3 with ⟨stop, qn⟩ | ⟨go, N, hN, step⟩
  · refine wpAny_passesOwn hp (thn (T.done X rfl rfl rfl hc i pins s3 σ3 H3 X.xe I3 (stat fr3) st3 stop) fun r s4 ⟨hr, I4⟩ => ?_)
    subst hr
    exact wpAny_execs_nil ⟨σ3, H3, I4, qn⟩
  · refine wpAny_passesOwn hp (thn (T.item X rfl rfl rfl hc i pins s3 σ3 H3 X.xe I3 (stat fr3) st3 go) fun r s4 ⟨u, hr, h4⟩ => ?_)
    subst hr
    refine wpAny_passesOwn hp (thn h4 fun _ s5 ⟨x, H5, I5, r5, y5, st5, fr5⟩ => ?_)
    have I5' := I5.pinned (stat fr5) (T.obj _ _ st5)
    refine wpAny_passesOwn hp (thn (hg _ s5 σ3 H5 x u _ I5' r5 (step x H5 y5)) fun _ s6 ⟨σ6, H6, I6, q6⟩ => ?_)
    refine wpAny_passesOwn hp (thn (hb _ s6 σ6 H6 _ I6 q6) fun f s7 q7 => ?_)
    have again : ∀ {σ7 : St} {H7 : Hp}, Inv X (pins ++ pinsAt fp s5.heap) σ7 H7 s7 → N σ7 H7 → ∃ m, m < n ∧ ∃ i σ' H', Inv X pins σ' H' s7 ∧ tn i s7.heap ∧ (∀ b ∈ fp, H' b = none) ∧ W i m σ' H' := fun {σ7 H7} I7 n7 => by
      obtain ⟨m', hm, w7⟩ := hN σ7 H7 n7
      refine ⟨m', hm, i + 1, σ7, H7, I7.unpinned, T.keep _ _ _ st5 fun b hb o e => (I7.pin (b, o) (List.mem_append_right _ (List.mem_append_right _ (mem_pinsAt hb e)))).1, fun b hb => ?_, w7⟩
      obtain ⟨o, e, d⟩ := T.obj _ _ st5 b hb
      exact (I7.pin (b, o) (List.mem_append_right _ (List.mem_append_right _ (mem_pinsAt hb e)))).2.1
    cases f with
    | next => obtain ⟨σ7, H7, I7, n7⟩ := q7; exact again I7 n7
    | cont => obtain ⟨σ7, H7, I7, n7⟩ := q7; exact again I7 n7
    | brk => obtain ⟨σ7, H7, I7, q7⟩ := q7; exact ⟨σ7, H7, I7.unpinned, q7⟩
    | ret v => obtain ⟨x7, σ7, H7, I7, r7, q7⟩ := q7; exact ⟨x7, σ7, H7, I7.unpinned, r7, q7⟩
end

/-! ### the forms one uses -/
theorem for_tup {K : PySem.W.Frag} {a : Addr} {xs : List V} {g : TG} {tb : TS} {D : Ends} {σ : St} {H : Hp} (Pv : Nat → St → Hp → Prop) (h0 : Pv 0 σ H) (hl : ∀ i σ H, i ≤ xs.length → Pv i σ H → SqT K H a xs)
    (hs : ∀ i x σ H, xs[i]? = some x → Pv i σ H → g x σ H fun σ2 H2 => tb { D with nx := Pv (i + 1), ct := Pv (i + 1), bk := D.nx } σ2 H2) (hd : ∀ σ H, Pv xs.length σ H → D.nx σ H) :
    ∃ W : Nat → Nat → St → Hp → Prop, (∃ m, W 0 m σ H) ∧ ∀ i m σ H, W i m σ H →
      ((Itt K a).stop i H ∧ D.nx σ H) ∨ ((Itt K a).go i H ∧ ∃ N : St → Hp → Prop, (∀ σ' H', N σ' H' → ∃ m', m' < m ∧ W (i + 1) m' σ' H') ∧ ∀ x H', (Itt K a).yld i H x H' → g x σ H' fun σ2 H2 => tb { D with nx := N, ct := N, bk := D.nx } σ2 H2) := by
  refine ⟨fun i m σ H => m = xs.length - i ∧ i ≤ xs.length ∧ Pv i σ H, ⟨xs.length, by simp, Nat.zero_le _, h0⟩, ?_⟩
  rintro i m σ H ⟨rfl, hi, p⟩
  have q := hl i σ H hi p
  by_cases hlt : i < xs.length
  · refine .inr ⟨⟨xs, xs[i], q, by simp [hlt]⟩, Pv (i + 1), fun σ' H' p' => ⟨xs.length - (i + 1), by omega, rfl, hlt, p'⟩, fun x H' y => ?_⟩
    obtain ⟨e, y⟩ := y
    subst e
    exact hs i x σ _ (y xs q) p
  · have e : i = xs.length := by omega
    subst e
    exact .inl ⟨⟨xs, q, Nat.le_refl _⟩, hd σ H p⟩
theorem for_range {lo : Int} {n : Nat} {g : TG} {tb : TS} {D : Ends} {σ : St} {H : Hp} (Pv : Nat → St → Hp → Prop) (h0 : Pv 0 σ H)
    (hs : ∀ i σ H, i < n → Pv i σ H → g (.int (lo + i)) σ H fun σ2 H2 => tb { D with nx := Pv (i + 1), ct := Pv (i + 1), bk := D.nx } σ2 H2) (hd : ∀ σ H, Pv n σ H → D.nx σ H) :
    ∃ W : Nat → Nat → St → Hp → Prop, (∃ m, W 0 m σ H) ∧ ∀ i m σ H, W i m σ H →
      ((Itr lo n).stop i H ∧ D.nx σ H) ∨ ((Itr lo n).go i H ∧ ∃ N : St → Hp → Prop, (∀ σ' H', N σ' H' → ∃ m', m' < m ∧ W (i + 1) m' σ' H') ∧ ∀ x H', (Itr lo n).yld i H x H' → g x σ H' fun σ2 H2 => tb { D with nx := N, ct := N, bk := D.nx } σ2 H2) := by
  refine ⟨fun i m σ H => m = n - i ∧ i ≤ n ∧ Pv i σ H, ⟨n, by simp, Nat.zero_le _, h0⟩, ?_⟩
  rintro i m σ H ⟨rfl, hi, p⟩
  by_cases hlt : i < n
  · refine .inr ⟨hlt, Pv (i + 1), fun σ' H' p' => ⟨n - (i + 1), by omega, rfl, hlt, p'⟩, fun x H' y => ?_⟩
    obtain ⟨e, y⟩ := y
    subst e y
    exact hs i σ _ hlt p
  · have e : i = n := by omega
    subst e
    exact .inl ⟨Nat.le_refl _, hd σ H p⟩
end L2

namespace L2
open PySem PySem.Spec PyProof.Rows

abbrev R2 := V → V → Hp → VK → Prop
/-- a two-place operation on values: f is binaryOp op, inplaceOp op or compareOp op -/
def OpR (X : Cx) (f : Value → Value → Sem Value) (r : R2) : Prop :=
  ∀ (pins : List (Addr × Obj)) (s : Shared) (σ : St) (H : Hp) (x y : V) (v u : Value) (Q : VK), Inv X pins σ H s → RelV x v → RelV y u → r x y H Q →
    wpAny (model X.prog X.w) X.A (f v u) (EP X pins σ Q) X.xe s
/-- a one-place operation -/
def UnR (X : Cx) (f : Value → Sem Value) (r : V → Hp → VK → Prop) : Prop :=
  ∀ (pins : List (Addr × Obj)) (s : Shared) (σ : St) (H : Hp) (x : V) (v : Value) (Q : VK), Inv X pins σ H s → RelV x v → r x H Q →
    wpAny (model X.prog X.w) X.A (f v) (EP X pins σ Q) X.xe s
/-- a call of a value that is known (a builtin, a type) with values -/
def CallR (X : Cx) (f : Value) (r : List V → Hp → VK → Prop) : Prop :=
  ∀ (pins : List (Addr × Obj)) (s : Shared) (σ : St) (H : Hp) (xs : List V) (us : List Value) (Q : VK), Inv X pins σ H s → Vals xs us → r xs H Q →
    wpAny (model X.prog X.w) X.A (call f us) (EP X pins σ Q) X.xe s
def tOp (r : R2) (ta tb : TE) : TE := fun σ H Q => ta σ H fun x H1 => tb σ H1 fun y H2 => r x y H2 Q
def tUn (r : V → Hp → VK → Prop) (ta : TE) : TE := fun σ H Q => ta σ H fun x H1 => r x H1 Q
/-- ints in, under C, and a value out -/
def rI (C : Int → Int → Prop) (g : Int → Int → V) : R2 := fun x y H Q => ∃ i j, x = .int i ∧ y = .int j ∧ C i j ∧ Q (g i j) H
def rI0 (g : Int → Int → V) : R2 := fun x y H Q => ∃ i j, x = .int i ∧ y = .int j ∧ Q (g i j) H
def rU (g : Int → V) : V → Hp → VK → Prop := fun x H Q => ∃ i, x = .int i ∧ Q (g i) H

section
variable {X : Cx} {a b c : Expr} {ta tb tc : TE} {pos : Pos}

theorem binT (ha : PE X a ta) (hb : PE X b tb) {pins : List (Addr × Obj)} {s : Shared} {σ : St} {H : Hp} {R : V → V → Hp → Prop} (I : Inv X pins σ H s)
    (h : ta σ H fun x H1 => tb σ H1 fun y H2 => R x y H2) {Q : Value → Shared → Prop} {f : Value → Value → Sem Value}
    (hf : ∀ v u s2 x y H2, Inv X pins σ H2 s2 → RelV x v → RelV y u → R x y H2 → wpAny (model X.prog X.w) X.A (f v u) Q X.xe s2) :
    wpAny (model X.prog X.w) X.A (eval a X.env) (fun v s₁ => wpAny (model X.prog X.w) X.A (eval b X.env) (fun u s₂ => wpAny (model X.prog X.w) X.A (f v u) Q X.xe s₂) X.xe s₁) X.xe s := by
  refine thn (ha pins s σ H _ I h) fun v s1 ⟨x, H1, I1, r1, q1⟩ => ?_
  refine thn (hb pins s1 σ H1 _ I1 q1) fun u s2 ⟨y, H2, I2, r2, q2⟩ => ?_
  exact hf v u s2 x y H2 I2 r1 r2 q2

theorem pe_op {op : Operator} {r : R2} (ho : OpR X (binaryOp op) r) (ha : PE X a ta) (hb : PE X b tb) : PE X (.BinOp a op b pos) (tOp r ta tb) := by
  intro pins s σ H Q I h
  exact wpAny_BinOp (binT ha hb I h fun v u s2 x y H2 I2 rx ry q => ho pins s2 σ H2 x y v u Q I2 rx ry q)
theorem pe_un {op : UnaryOp} {r : V → Hp → VK → Prop} (ho : UnR X (unaryOp op) r) (ha : PE X a ta) : PE X (.UnaryOp op a pos) (tUn r ta) := by
  intro pins s σ H Q I h
  exact UnaryOp_ (thn (ha pins s σ H _ I h) fun v s1 ⟨x, H1, I1, r1, q1⟩ => ho pins s1 σ H1 x v Q I1 r1 q1)
/-! ### ints -/
theorem opI {f : Value → Value → Sem Value} {C : Int → Int → Prop} {g : Int → Int → Int}
    (rule : ∀ (i j : Int) (t u : Tok) (s : Shared) (Q : Value → Shared → Prop) (E : Value → Shared → Prop), C i j → Q (.int (g i j) s.toks) { s with toks := s.toks + 1 } → wpAny (model X.prog X.w) X.A (f (.int i t) (.int j u)) Q E s) :
    OpR X f (rI C fun i j => .int (g i j)) := by
  intro pins s σ H x y v u Q I rx ry h
  obtain ⟨i, j, rfl, rfl, hc, q⟩ := h
  obtain ⟨t, rfl⟩ := rx
  obtain ⟨t', rfl⟩ := ry
  exact rule i j t t' s _ _ hc ⟨.int (g i j), H, I.tok _, ⟨_, rfl⟩, q⟩
theorem opI0 {f : Value → Value → Sem Value} {g : Int → Int → Int}
    (rule : ∀ (i j : Int) (t u : Tok) (s : Shared) (Q : Value → Shared → Prop) (E : Value → Shared → Prop), Q (.int (g i j) s.toks) { s with toks := s.toks + 1 } → wpAny (model X.prog X.w) X.A (f (.int i t) (.int j u)) Q E s) :
    OpR X f (rI0 fun i j => .int (g i j)) := by
  intro pins s σ H x y v u Q I rx ry h
  obtain ⟨i, j, rfl, rfl, q⟩ := h
  obtain ⟨t, rfl⟩ := rx
  obtain ⟨t', rfl⟩ := ry
  exact rule i j t t' s _ _ ⟨.int (g i j), H, I.tok _, ⟨_, rfl⟩, q⟩
theorem opB0 {f : Value → Value → Sem Value} {g : Int → Int → Bool}
    (rule : ∀ (i j : Int) (t u : Tok) (s : Shared) (Q : Value → Shared → Prop) (E : Value → Shared → Prop), Q (.bool (g i j)) s → wpAny (model X.prog X.w) X.A (f (.int i t) (.int j u)) Q E s) :
    OpR X f (rI0 fun i j => .bl (g i j)) := by
  intro pins s σ H x y v u Q I rx ry h
  obtain ⟨i, j, rfl, rfl, q⟩ := h
  obtain ⟨t, rfl⟩ := rx
  obtain ⟨t', rfl⟩ := ry
  exact rule i j t t' s _ _ ⟨.bl (g i j), H, I, rfl, q⟩

def CDiv (i j : Int) : Prop := 0 < j ∧ j < 1073741824
def CPow (i j : Int) : Prop := 0 ≤ j ∧ j ≤ 1000000 ∧ i.natAbs < 2 ^ 64
def CMul (i j : Int) : Prop := (-(2 ^ 64) < i ∧ i < 2 ^ 64) ∨ (-(2 ^ 64) < j ∧ j < 2 ^ 64)
theorem CMul.ok {i j : Int} (h : CMul i j) : IntMulOk i j := by
  rcases h with ⟨h1, h2⟩ | ⟨h1, h2⟩
  · exact .of_left (intBits_le_64 h1 h2)
  · exact .of_right (intBits_le_64 h1 h2)
theorem op_add : OpR X (binaryOp .Add) (rI0 fun i j => .int (i + j)) := opI0 fun _ _ _ _ _ _ _ q => add_int q
theorem op_sub : OpR X (binaryOp .Sub) (rI0 fun i j => .int (i - j)) := opI0 fun _ _ _ _ _ _ _ q => sub_int q
theorem op_mul : OpR X (binaryOp .Mult) (rI CMul fun i j => .int (i * j)) := opI fun _ _ _ _ _ _ _ hc q => mul_int q hc.ok
/-- // by a positive divisor -/
theorem op_fdiv : OpR X (binaryOp .FloorDiv) (rI CDiv fun i j => .int (i / j)) := opI fun i j _ _ _ _ _ hc q => by
  have h1 : (0 : Int) < j := hc.1
  have h2 : j < 1073741824 := hc.2
  exact floordiv_int (by omega) (by rw [Int.fdiv_eq_ediv_of_nonneg i (by omega)]; exact q) (.inl (PyProof.noPylong_small (by omega)))
/-- % by a positive divisor of any size -/
theorem op_mod : OpR X (binaryOp .Mod) (rI (fun _ j => 0 < j) fun i j => .int (i % j)) := opI fun i j _ _ _ _ _ hc q => by
  have h1 : (0 : Int) < j := hc
  exact mod_int' (by omega) (by rw [Int.fmod_eq_emod_of_nonneg i (by omega)]; exact q)
theorem op_pow : OpR X (binaryOp .Pow) (rI CPow fun i j => .int (i ^ j.toNat)) := opI fun _ _ _ _ _ _ _ hc q => pow_int_small hc.1 hc.2.1 hc.2.2 q
theorem unI {f : Value → Sem Value} {g : Int → Int}
    (rule : ∀ (i : Int) (t : Tok) (s : Shared) (Q : Value → Shared → Prop) (E : Value → Shared → Prop), Q (.int (g i) s.toks) { s with toks := s.toks + 1 } → wpAny (model X.prog X.w) X.A (f (.int i t)) Q E s) :
    UnR X f (rU fun i => .int (g i)) := by
  intro pins s σ H x v Q I rx h
  obtain ⟨i, rfl, q⟩ := h
  obtain ⟨t, rfl⟩ := rx
  exact rule i t s _ _ ⟨.int (g i), H, I.tok _, ⟨_, rfl⟩, q⟩
theorem un_neg : UnR X (unaryOp .USub) (rU fun i => .int (-i)) := unI fun _ _ _ _ _ q => neg_int q
/-! ### bools among ints: n += (a < b) -/
end

/-! ### comparisons -/
/-- the scalars that == tells apart as data does -/
def scal : V → V → Bool
  | .non, .non => true | .non, .int _ => true | .int _, .non => true | .non, .bl _ => true | .bl _, .non => true | .non, .str _ => true | .str _, .non => true
  | .int _, .int _ => true | .bl _, .bl _ => true | .str _, .str _ => true | .byt _, .byt _ => true
  | .int _, .str _ => true | .str _, .int _ => true | .bl _, .str _ => true | .str _, .bl _ => true
  | _, _ => false
def rEq : R2 := fun x y H Q => scal x y = true ∧ Q (.bl (decide (x = y))) H
def rNe : R2 := fun x y H Q => scal x y = true ∧ Q (.bl (!decide (x = y))) H

theorem dec_int {i j : Int} : decide (V.int i = V.int j) = (i == j) := by
  rw [Bool.eq_iff_iff]
  simp
theorem dec_bl {i j : Bool} : decide (V.bl i = V.bl j) = (i == j) := by
  rw [Bool.eq_iff_iff]
  simp
theorem dec_str {i j : Str} : decide (V.str i = V.str j) = (i == j) := by
  rw [Bool.eq_iff_iff]
  simp
theorem dec_byt {i j : Array UInt8} : decide (V.byt i = V.byt j) = (i.toList == j.toList) := by
  rw [Bool.eq_iff_iff]
  cases i
  cases j
  simp

section
variable {X : Cx} {a b c : Expr} {ta tb tc : TE} {pos : Pos}
theorem fin_bl {pins : List (Addr × Obj)} {σ : St} {H : Hp} {s : Shared} {Q : VK} {k k' : Bool} (I : Inv X pins σ H s) (q : Q (.bl k) H) (e : k = k') : EP X pins σ Q (.bool k') s := by
  subst e
  exact ⟨.bl k, H, I, rfl, q⟩
theorem op_eq : OpR X (compareOp .Eq) rEq := by
  intro pins s σ H x y v u Q I rx ry h
  obtain ⟨hs, q⟩ := h
  cases x with
  | non =>
    cases rx
    cases y with
    | non => cases ry; exact PySem.EqNone.eq_none_none (fin_bl I q (by simp))
    | bl j => cases ry; exact PySem.EqNone.eq_none_bool (fin_bl I q (by simp))
    | int j => obtain ⟨t', rfl⟩ := ry; exact PySem.EqNone.eq_none_int (fin_bl I q (by simp))
    | str j => obtain ⟨t', rfl⟩ := ry; exact PySem.EqNone.eq_none_str (fin_bl I q (by simp))
    | _ => exact absurd (show false = true from hs) Bool.false_ne_true
  | bl i =>
    cases rx
    cases y with
    | non => cases ry; exact PySem.EqNone.eq_bool_none (fin_bl I q (by simp))
    | bl j => cases ry; exact eq_bool (fin_bl I q dec_bl)
    | str j => obtain ⟨t', rfl⟩ := ry; exact PySem.EqMixed.eq_bool_str (fin_bl I q (by simp))
    | _ => exact absurd (show false = true from hs) Bool.false_ne_true
  | int i =>
    obtain ⟨t, rfl⟩ := rx
    cases y with
    | non => cases ry; exact PySem.EqNone.eq_int_none (fin_bl I q (by simp))
    | int j => obtain ⟨t', rfl⟩ := ry; exact eq_int (fin_bl I q dec_int)
    | str j => obtain ⟨t', rfl⟩ := ry; exact PySem.EqMixed.eq_int_str (fin_bl I q (by simp))
    | _ => exact absurd (show false = true from hs) Bool.false_ne_true
  | str i =>
    obtain ⟨t, rfl⟩ := rx
    cases y with
    | non => cases ry; exact PySem.EqNone.eq_str_none (fin_bl I q (by simp))
    | bl j => cases ry; exact PySem.EqMixed.eq_str_bool (fin_bl I q (by simp))
    | int j => obtain ⟨t', rfl⟩ := ry; exact PySem.EqMixed.eq_str_int (fin_bl I q (by simp))
    | str j => obtain ⟨t', rfl⟩ := ry; exact eq_str (fin_bl I q dec_str)
    | _ => exact absurd (show false = true from hs) Bool.false_ne_true
  | byt i =>
    obtain ⟨t, rfl⟩ := rx
    cases y with
    | byt j => obtain ⟨t', rfl⟩ := ry; exact PySem.W.eq_bytes (fin_bl I q dec_byt)
    | _ => exact absurd (show false = true from hs) Bool.false_ne_true
  | _ => cases y <;> exact absurd (show false = true from hs) Bool.false_ne_true
theorem op_ne : OpR X (compareOp .NotEq) rNe := by
  intro pins s σ H x y v u Q I rx ry h
  obtain ⟨hs, q⟩ := h
  cases x with
  | non =>
    cases rx
    cases y with
    | non => cases ry; exact PySem.EqNone.ne_none_none (fin_bl I q (by simp))
    | bl j => cases ry; exact PySem.EqNone.ne_none_bool (fin_bl I q (by simp))
    | int j => obtain ⟨t', rfl⟩ := ry; exact PySem.EqNone.ne_none_int (fin_bl I q (by simp))
    | str j => obtain ⟨t', rfl⟩ := ry; exact PySem.EqNone.ne_none_str (fin_bl I q (by simp))
    | _ => exact absurd (show false = true from hs) Bool.false_ne_true
  | bl i =>
    cases rx
    cases y with
    | non => cases ry; exact PySem.EqNone.ne_bool_none (fin_bl I q (by simp))
    | bl j => cases ry; exact ne_bool (fin_bl I q (congrArg not dec_bl))
    | str j => obtain ⟨t', rfl⟩ := ry; exact PySem.EqMixed.ne_bool_str (fin_bl I q (by simp))
    | _ => exact absurd (show false = true from hs) Bool.false_ne_true
  | int i =>
    obtain ⟨t, rfl⟩ := rx
    cases y with
    | non => cases ry; exact PySem.EqNone.ne_int_none (fin_bl I q (by simp))
    | int j => obtain ⟨t', rfl⟩ := ry; exact ne_int (fin_bl I q (congrArg not dec_int))
    | str j => obtain ⟨t', rfl⟩ := ry; exact PySem.EqMixed.ne_int_str (fin_bl I q (by simp))
    | _ => exact absurd (show false = true from hs) Bool.false_ne_true
  | str i =>
    obtain ⟨t, rfl⟩ := rx
    cases y with
    | non => cases ry; exact PySem.EqNone.ne_str_none (fin_bl I q (by simp))
    | bl j => cases ry; exact PySem.EqMixed.ne_str_bool (fin_bl I q (by simp))
    | int j => obtain ⟨t', rfl⟩ := ry; exact PySem.EqMixed.ne_str_int (fin_bl I q (by simp))
    | str j => obtain ⟨t', rfl⟩ := ry; exact ne_str (fin_bl I q (congrArg not dec_str))
    | _ => exact absurd (show false = true from hs) Bool.false_ne_true
  | byt i =>
    obtain ⟨t, rfl⟩ := rx
    cases y with
    | byt j => obtain ⟨t', rfl⟩ := ry; exact PySem.W.ne_bytes (fin_bl I q (congrArg not dec_byt))
    | _ => exact absurd (show false = true from hs) Bool.false_ne_true
  | _ => cases y <;> exact absurd (show false = true from hs) Bool.false_ne_true

theorem op_lt : OpR X (compareOp .Lt) (rI0 fun i j => .bl (decide (i < j))) := opB0 fun _ _ _ _ _ _ _ q => lt_int q
theorem op_le : OpR X (compareOp .LtE) (rI0 fun i j => .bl (decide (i ≤ j))) := opB0 fun _ _ _ _ _ _ _ q => le_int q
theorem op_gt : OpR X (compareOp .Gt) (rI0 fun i j => .bl (decide (j < i))) := opB0 fun _ _ _ _ _ _ _ q => gt_int q
theorem op_ge : OpR X (compareOp .GtE) (rI0 fun i j => .bl (decide (j ≤ i))) := opB0 fun _ _ _ _ _ _ _ q => ge_int q
/-- is None, is not None: the right side a value none -/
theorem op_isN : OpR X (compareOp .Is) (fun x y H Q => y = .non ∧ Q (.bl (decide (x = .non))) H) := by
  intro pins s σ H x y v u Q I rx ry h
  obtain ⟨rfl, q⟩ := h
  cases ry
  refine is_none_gen (fin_bl I q ?_)
  cases x <;> first
    | (cases rx; rfl)
    | (obtain ⟨t, rfl⟩ := rx; rfl)
theorem op_notN : OpR X (compareOp .IsNot) (fun x y H Q => y = .non ∧ Q (.bl (!decide (x = .non))) H) := by
  intro pins s σ H x y v u Q I rx ry h
  obtain ⟨rfl, q⟩ := h
  cases ry
  refine isnot_none_gen (fin_bl I q ?_)
  cases x <;> first
    | (cases rx; rfl)
    | (obtain ⟨t, rfl⟩ := rx; rfl)

/-- two rules for one operation: by cases -/
theorem OpR.or {f : Value → Value → Sem Value} {r r' : R2} (h : OpR X f r) (h' : OpR X f r') : OpR X f (fun x y H Q => r x y H Q ∨ r' x y H Q) := by
  intro pins s σ H x y v u Q I rx ry q
  rcases q with q | q
  · exact h pins s σ H x y v u Q I rx ry q
  · exact h' pins s σ H x y v u Q I rx ry q

theorem nomark (b : Expr) {op : CmpOp} (h : op ≠ .In := by decide) (h2 : op ≠ .NotIn := by decide) : behindInMarks op b = false := by
  have e1 : (op == CmpOp.In) = false := by cases op <;> first | rfl | exact absurd rfl h
  have e2 : (op == CmpOp.NotIn) = false := by cases op <;> first | rfl | exact absurd rfl h2
  cases b <;> simp [behindInMarks, e1, e2]
/-- a comparison as a value; hm: nomark b, or (for in, not in) by with_unfolding_all rfl -/
theorem pe_cmpR {op : CmpOp} {r : R2} (ho : OpR X (compareOp op) r) (ha : PE X a ta) (hb : PE X b tb) (hm : behindInMarks op b = false) : PE X (.Compare a [op] [b] pos) (tOp r ta tb) := by
  intro pins s σ H Q I h
  exact wpAny_Compare1 (binT ha hb I h fun v u s2 x y H2 I2 rx ry q => ho pins s2 σ H2 x y v u Q I2 rx ry q) hm
/-- a reading of a value as a test -/
def tTest (t : TE) : TT := fun σ H Q => t σ H fun x H' => ∃ k, x = .bl k ∧ Q k H'
theorem pt_cmpR {op : CmpOp} {r : R2} (ho : OpR X (compareOp op) r) (ha : PE X a ta) (hb : PE X b tb) (hm : behindInMarks op b = false) : PT X (.Compare a [op] [b] pos) (tTest (tOp r ta tb)) := by
  intro pins s σ H Q I h
  refine wpAny_isTrue_Compare1 (thn (ha pins s σ H _ I h) fun v s1 ⟨x, H1, I1, r1, q1⟩ => thn (hb pins s1 σ H1 _ I1 q1) fun u s2 ⟨y, H2, I2, r2, q2⟩ =>
    thn (ho pins s2 σ H2 x y v u _ I2 r1 r2 q2) fun c s3 ⟨z, H3, I3, r3, k, e, q3⟩ => ?_) hm
  subst e
  cases r3
  exact wpAny_truthy_bool ⟨H3, I3, q3⟩
/-- a op1 b op2 c -/
def tChain (r r' : R2) (ta tb tc : TE) : TE := fun σ H Q => ta σ H fun x H1 => tb σ H1 fun y H2 => r x y H2 fun z H3 => ∃ k, z = .bl k ∧
  (if k = true then tc σ H3 fun w' H4 => r' y w' H4 Q else Q (.bl false) H3)
theorem pe_chain {op op' : CmpOp} {r r' : R2} (ho : OpR X (compareOp op) r) (ho' : OpR X (compareOp op') r') (ha : PE X a ta) (hb : PE X b tb) (hc : PE X c tc)
    (hm : lastMarks [op, op'] [b, c] = false := by with_unfolding_all rfl) : PE X (.Compare a [op, op'] [b, c] pos) (tChain r r' ta tb tc) := by
  intro pins s σ H Q I h
  refine Compare_chain (thn (ha pins s σ H _ I h) fun v s1 ⟨x, H1, I1, r1, q1⟩ => chain_link (thn (hb pins s1 σ H1 _ I1 q1) fun u s2 ⟨y, H2, I2, r2, q2⟩ =>
    thn (ho pins s2 σ H2 x y v u _ I2 r1 r2 q2) fun d s3 ⟨z, H3, I3, r3, k, e, q3⟩ => ?_)) hm
  subst e
  cases r3
  refine wpAny_truthy_bool ?_
  cases k with
  | false => exact ite_ff ⟨.bl false, H3, I3, rfl, q3⟩
  | true => exact ite_tt (chain_last (thn (hc pins s3 σ H3 _ I3 q3) fun w' s4 ⟨z', H4, I4, r4, q4⟩ => ho' pins s4 σ H4 y z' u w' Q I4 r2 r4 q4))
/-! ### truth -/
theorem line63 : (sizeLine : Nat) < 2 ^ 63 := by rw [sizeLine_eq]; decide
/-! ### strs and bytes -/
/-! ### scalar builtins, by CallR -/
theorem vals1 {x : V} {us : List Value} (r : Vals [x] us) : ∃ u, us = [u] ∧ RelV x u := by
  cases r with
  | cons r1 r2 => cases r2; exact ⟨_, rfl, r1⟩
theorem vals2 {x y : V} {us : List Value} (r : Vals [x, y] us) : ∃ u w', us = [u, w'] ∧ RelV x u ∧ RelV y w' := by
  cases r with
  | cons r1 r2 =>
    cases r2 with
    | cons r3 r4 => cases r4; exact ⟨_, _, rfl, r1, r3⟩
theorem call_abs : CallR X (.builtin "abs") (fun xs H Q => ∃ i, xs = [.int i] ∧ Q (.int (if i < 0 then -i else i)) H) := by
  intro pins s σ H xs us Q I r h
  obtain ⟨i, rfl, q⟩ := h
  obtain ⟨u, rfl, t, rfl⟩ := vals1 r
  exact call_abs_int fun u tk => ⟨.int (if i < 0 then -i else i), H, I.tok _, ⟨_, rfl⟩, q⟩
theorem call_max2 (hc : X.calm = true) : CallR X (.builtin "max") (fun xs H Q => ∃ i j, xs = [.int i, .int j] ∧ Q (.int (if j > i then j else i)) H) := by
  intro pins s σ H xs us Q I r h
  obtain ⟨i, j, rfl, q⟩ := h
  obtain ⟨u, w', rfl, ⟨t, rfl⟩, ⟨t', rfl⟩⟩ := vals2 r
  refine max_two_ints (I.ok.hd hc) fun h' tk k => ⟨_, H, I.kept k, ?_, q⟩
  by_cases hj : j > i
  · rw [if_pos hj, if_pos hj]; exact ⟨_, rfl⟩
  · rw [if_neg hj, if_neg hj]; exact ⟨_, rfl⟩
theorem call_int1 : CallR X (.type "int") (fun xs H Q => (∃ i, xs = [.int i] ∧ Q (.int i) H) ∨ ∃ k, xs = [.bl k] ∧ Q (.int (if k then 1 else 0)) H) := by
  intro pins s σ H xs us Q I r h
  rcases h with ⟨i, rfl, q⟩ | ⟨k, rfl, q⟩
  · obtain ⟨u, rfl, t, rfl⟩ := vals1 r
    exact call_int_int ⟨.int i, H, I, ⟨_, rfl⟩, q⟩
  · obtain ⟨u, rfl, r1⟩ := vals1 r
    cases r1
    exact call_int_bool ⟨.int (if k then 1 else 0), H, I.tok _, ⟨_, rfl⟩, q⟩
/-- divmod: a new tuple -/
theorem call_divmod : CallR X (.builtin "divmod") (fun xs H Q => ∃ i j, xs = [.int i, .int j] ∧ CDiv i j ∧ ∀ p, H p = none → Q (.ref p) (upd H p (.tup [.int (i / j), .int (i % j)]))) := by
  intro pins s σ H xs us Q I r h
  obtain ⟨i, j, rfl, ⟨h1, h2⟩, q⟩ := h
  obtain ⟨u, w', rfl, ⟨t, rfl⟩, ⟨t', rfl⟩⟩ := vals2 r
  refine divmod_int (by omega) ?_ (.inl (PyProof.noPylong_small (by omega)))
  rw [Int.fdiv_eq_ediv_of_nonneg i (by omega), Int.fmod_eq_emod_of_nonneg i (by omega)]
  have hn : H s.heap.objs.size = none := I.hok.fresh (Nat.le_refl _)
  refine ⟨.ref s.heap.objs.size, _, ?_, rfl, q _ hn⟩
  refine I.laid (fun b o e => Heap.get?_push_of_some _ e) (Nat.le_refl _) ⟨by simp only [List.length_cons, List.length_nil]; rw [sizeLine_eq]; decide, [.int (i / j) s.toks, .int (i % j) (s.toks + 1)], .cons ⟨_, rfl⟩ (.cons ⟨_, rfl⟩ .nil), ?_⟩
  exact ⟨_, Heap.get?_push_size s.heap rfl, rfl, 0, rfl⟩
end
end L2

namespace L2
open PySem PySem.Spec PyProof.Rows

/-! ### an instance, its attributes a map -/
structure ObjM (h : Heap) (x dx C : Addr) (mA : Str → Option Value) : Prop where
  obj : h.get? x = some (PySem.W.instObj C dx)
  ns : h.Ns1 dx mA
  ne : dx ≠ x

theorem lookIn_ns {h : Heap} {dx : Addr} {mA : Str → Option Value} (n : h.Ns1 dx mA) : ∃ od, h.get? dx = some od ∧ ∀ name, PySem.W.lookIn name od = some (mA name) := by
  obtain ⟨o, es, ep, ho, hd, hk, _, hm⟩ := n
  refine ⟨o, ho, fun name => ?_⟩
  have e := hm name
  unfold nsFind findBy at e
  rw [← Array.find?_toList] at e
  unfold PySem.W.lookIn
  rw [hd]
  dsimp only
  split
  · rename_i y q
    rw [q] at e
    exact congrArg some e
  · rename_i q
    rw [q] at e
    have a : es.toList.any (·.refKey) = false := by
      rw [List.any_eq_false]
      intro y hy
      obtain ⟨z, t, hkey⟩ := hk y (Array.mem_toList_iff.mp hy)
      simp [DictEntry.refKey, hkey]
    have a' : ¬ es.toList.any (·.refKey) = true := by rw [a]; exact Bool.false_ne_true
    rw [if_neg a']
    exact congrArg some e

theorem ObjM.look {h : Heap} {x dx C : Addr} {mA : Str → Option Value} (I : ObjM h x dx C mA) : ∃ od, PySem.W.InstAt h x (PySem.W.instObj C dx) C (some od) ∧ ∀ name, PySem.W.lookIn name od = some (mA name) :=
  let ⟨od, ho, hl⟩ := lookIn_ns I.ns
  ⟨od, ⟨I.obj, rfl, rfl, ho⟩, hl⟩

section
variable {prog : Program} {w : World} {A : Around} {E : Value → Shared → Prop} {s : Shared} {K : PySem.W.Frag} {x dx C f : Addr} {mA : Str → Option Value} {name : Str} {v : Value}

theorem get_map {expr : Bool} {Q : Value → Shared → Prop} (X : K.In s.heap) (I : ObjM s.heap x dx C mA) (hg : PySem.W.plainGet K C name = true) (hh : PySem.W.hasDictIn K C = true)
    (ha : PySem.W.findIn K (.ref C) name = some none) (hv : mA name = some v) (hv' : PySem.W.handedIn v = true) (h : Q v { s with toks := s.toks + 1 }) :
    wpAny (model prog w) A (getAttr (.ref x) name expr) Q E s := by
  obtain ⟨od, J, hl⟩ := I.look
  exact PySem.W.get_value X J (PySem.W.plainGet_of hg).1 (PySem.W.findObj_own hh ha rfl (by rw [hl, hv])) hv' h

theorem get_meth {pl : Sem Bool} {Q : Value × List Value → Shared → Prop} (X : K.In s.heap) (I : ObjM s.heap x dx C mA) (hg : PySem.W.plainGet K C name = true)
    (hf : PySem.W.findIn K (.ref C) name = some (some (.ref f))) (ht : PySem.W.isFn K (.ref f) = true) (hv : mA name = none) (h : Q (.ref f, [.ref x]) s) :
    wpAny (model prog w) A (getMethod (.ref x) name pl) Q E s := by
  obtain ⟨od, J, hl⟩ := I.look
  exact PySem.W.method_fn X J (PySem.W.plainGet_of hg).1 (PySem.W.plainGet_of hg).2 hf (beq_iff_eq.mp ht) (by show (PySem.W.lookIn name od).map (·.isSome) = some false; rw [hl, hv]; rfl) h

theorem set_map {ns : List Str} {Q : Unit → Shared → Prop} (X : K.In s.heap) (I : ObjM s.heap x dx C mA)
    (hs : PySem.W.findIn K (.ref C) "__setattr__" = some (some (.builtin "object.__setattr__"))) (hp : PySem.W.plainOver K C = true) (ht : PySem.W.takerIn K C name = some none) (hh : PySem.W.hasDictIn K C = true)
    (hw : PySem.Within mA ns) (hsz : ns.length ≤ sizeLine)
    (h : ∀ h', ObjM h' x dx C (fun y => if y = name then some v else mA y) → Heap.SameBut dx s.heap h' → Q () { s with heap := h', toks := s.toks + 2 }) :
    wpAny (model prog w) A (setAttr (.ref x) name v) Q E s := by
  obtain ⟨od, J, hl⟩ := I.look
  refine PySem.W.set_plain X J hs (PySem.W.osa_open (s := { s with toks := s.toks + 1 }) (r := none) X J hp ht fun b => ?_)
  obtain ⟨cd, hc, hd'⟩ := PySem.W.any_some hh
  have hx : s.heap.get? x = some ⟨.ref C, some dx, .plain, #[]⟩ := I.obj
  refine wpAny_bind (wpAny_pure (wpAny_bind (wpAny_bind (wpAny_loadPart hx (wpAny_bind (PySem.W.Looks.here (s := { s with toks := s.toks + 1 }) (PySem.W.looks_clsIn X hc) ?_))))))
  rw [hd']
  refine wpAny_pure (a := some dx) (wpAny_bind (wpAny_pure (wpAny_bind ?_)))
  refine wpAny_nsSet1 (s := { s with toks := s.toks + 1 }) I.ns fun h' hn2 hs2 => ?_
  obtain ⟨oD, esD, epD, hoD, hdD, hcD⟩ := hn2.count (PySem.Within.cons name v hw)
  refine wpAny_bind (wpAny_lookBehind hoD (by rw [hdD]; exact pastItsLine_dict (Nat.le_trans hcD (by rw [List.length_cons]; omega))) ?_)
  exact wpAny_pure (h _ ⟨(hs2.2 _ (Ne.symm I.ne)).trans I.obj, hn2, I.ne⟩ hs2)

/-- C(..): the dict at the heap's end, the instance behind it; then its __init__ -/
theorem make_map {R : Result → Shared → Prop} {vs : List Value} {kw : List (Str × Value)} (X : K.In s.heap) (hm : PySem.W.makesIn K C = true)
    (hi : PySem.W.findIn K (.ref C) "__init__" = some (some (.ref f))) (hf : PySem.W.typeIn K (.ref f) = some (.type "function"))
    (h : codeAny (model prog w) (A.under (.builtin "type.__call__" ⟨.ref C :: vs, kw⟩)) (.call (.ref f) ⟨.ref (s.heap.objs.size + 1) :: vs, kw⟩) (PySem.W.InitBack (s.heap.objs.size + 1) R)
      { s with heap := (s.heap.push PySem.W.emptyDict).push (PySem.W.instObj C s.heap.objs.size) }) :
    codeAny (model prog w) A (.call (.ref C) ⟨vs, kw⟩) R s := by
  obtain ⟨hh, g, d, t, os⟩ := s
  exact PySem.W.make_core (PySem.W.makes_of X hm) (PySem.W.looks_findIn X hi) (fun self => PySem.W.bind_fn X self hf) (.inl rfl) h
end

/-! ### the attributes as a list of pairs -/
def putF (f : Str) (v : V) : List (Str × V) → List (Str × V)
  | [] => [(f, v)]
  | (g, x) :: r => if g = f then (g, v) :: r else (g, x) :: putF f v r
theorem lookup_putF (f g : Str) (v : V) : ∀ fs : List (Str × V), (putF f v fs).lookup g = if g = f then some v else fs.lookup g
  | [] => by
    show List.lookup g [(f, v)] = _
    by_cases h : g = f
    · have hb : (g == f) = true := beq_iff_eq.mpr h
      simp only [List.lookup, hb, if_pos h]
    · have hb : (g == f) = false := beq_eq_false_iff_ne.mpr h
      simp only [List.lookup, hb, if_neg h]
  | (k, x) :: r => by
    have ih := lookup_putF f g v r
    rw [show putF f v ((k, x) :: r) = (if k = f then (k, v) :: r else (k, x) :: putF f v r) from rfl]
    by_cases hk : k = f
    · rw [if_pos hk]
      by_cases h : g = k
      · have hb : (g == k) = true := beq_iff_eq.mpr h
        simp only [List.lookup, hb, if_pos (h.trans hk)]
      · have hb : (g == k) = false := beq_eq_false_iff_ne.mpr h
        simp only [List.lookup, hb, if_neg (fun e : g = f => h (e.trans hk.symm))]
    · rw [if_neg hk]
      by_cases h : g = k
      · have hb : (g == k) = true := beq_iff_eq.mpr h
        simp only [List.lookup, hb, if_neg (fun e : g = f => hk (h.symm.trans e))]
      · have hb : (g == k) = false := beq_eq_false_iff_ne.mpr h
        simp only [List.lookup, hb]
        exact ih
theorem keys_putF (f : Str) (v : V) : ∀ fs : List (Str × V), f ∈ (putF f v fs).map (·.1) ∧ ∀ g, g ∈ fs.map (·.1) → g ∈ (putF f v fs).map (·.1)
  | [] => ⟨by simp [putF], fun g h => by simp at h⟩
  | (k, x) :: r => by
    obtain ⟨i1, i2⟩ := keys_putF f v r
    rw [show putF f v ((k, x) :: r) = (if k = f then (k, v) :: r else (k, x) :: putF f v r) from rfl]
    by_cases hk : k = f
    · rw [if_pos hk]
      subst hk
      exact ⟨by simp, fun g h => by simpa using h⟩
    · rw [if_neg hk]
      refine ⟨?_, fun g h => ?_⟩
      · rw [List.map_cons]
        exact List.mem_cons_of_mem _ i1
      · rw [List.map_cons] at h ⊢
        rcases List.mem_cons.mp h with e | e
        · exact List.mem_cons.mpr (.inl e)
        · exact List.mem_cons_of_mem _ (i2 g e)
theorem length_putF (f : Str) (v : V) : ∀ fs : List (Str × V), (putF f v fs).length ≤ fs.length + 1
  | [] => by simp [putF]
  | (k, x) :: r => by
    have ih := length_putF f v r
    rw [show putF f v ((k, x) :: r) = (if k = f then (k, v) :: r else (k, x) :: putF f v r) from rfl]
    by_cases hk : k = f
    · rw [if_pos hk, List.length_cons, List.length_cons]; omega
    · rw [if_neg hk, List.length_cons, List.length_cons]; omega

theorem RelO.some_of {v : V} {o : Option Value} (r : RelO (some v) o) : ∃ u, o = some u ∧ RelV v u := by
  cases o with
  | none => exact (show False from r).elim
  | some u => exact ⟨u, rfl, r⟩
theorem RelO.none_of {o : Option Value} (r : RelO none o) : o = none := by
  cases o with
  | none => rfl
  | some u => exact (show False from r).elim
theorem handed_of {v : V} {u : Value} (r : RelV v u) : PySem.W.handedIn u = true := by
  cases v with
  | non => cases (show u = Value.none from r); rfl
  | bl b => cases (show u = Value.bool b from r); rfl
  | int i => obtain ⟨t, e⟩ := (show ∃ t, u = Value.int i t from r); cases e; rfl
  | str x => obtain ⟨t, e⟩ := (show ∃ t, u = Value.str x t from r); cases e; rfl
  | byt b => obtain ⟨t, e⟩ := (show ∃ t, u = Value.bytes b t from r); cases e; rfl
  | flt b => obtain ⟨t, e⟩ := (show ∃ t, u = Value.float b t from r); cases e; rfl
  | ref a => cases (show u = Value.ref a from r); rfl
  | ty n => cases (show u = Value.type n from r); rfl

section
variable {P : Program} {w : World} {H H' : Hp} {h h' : Heap} {a C dx : Addr} {fs fs' : List (Str × V)}
theorem ins_get (hok : HOk P w H h) (e : H a = some (.ins C dx fs)) : ∃ mA, ObjM h a dx C mA ∧ (∀ f, RelO (fs.lookup f) (mA f)) ∧ PySem.Within mA (fs.map (·.1)) ∧ fs.length ≤ 1000 ∧ H dx = some (.own a) := by
  obtain ⟨d, z, ne, ob, mA, n, r, q⟩ := (show ObjOk P w H h a (.ins C dx fs) from hok a _ e)
  exact ⟨mA, ⟨ob, n, ne⟩, r, q, z, d⟩
end

/-! ### what of the text a class must have -/
structure Cls (K : PySem.W.Frag) (C : Addr) : Prop where
  pg : PySem.W.plainGet K C Str.empty = true
  hd : PySem.W.hasDictIn K C = true
  po : PySem.W.plainOver K C = true
  sa : PySem.W.findIn K (.ref C) "__setattr__" = some (some (.builtin "object.__setattr__"))
theorem Cls.get {K : PySem.W.Frag} {C : Addr} (c : Cls K C) (f : Str) : PySem.W.plainGet K C f = true := c.pg
/-- no class of it has the name -/
def NoAttr (K : PySem.W.Frag) (C : Addr) (f : Str) : Prop := PySem.W.findIn K (.ref C) f = some none
theorem NoAttr.taker {K : PySem.W.Frag} {C : Addr} {f : Str} (n : NoAttr K C f) : PySem.W.takerIn K C f = some none := by
  unfold PySem.W.takerIn
  rw [show PySem.W.findIn K (.ref C) f = some none from n]
  rfl
/-- a constant of the class -/
structure Con (K : PySem.W.Frag) (C : Addr) (f : Str) (v : V) (u : Value) : Prop where
  at_ : PySem.W.findIn K (.ref C) f = some (some u)
  rel : RelV v u
  get : PySem.W.specialIn K u "__get__" = some none
  cp : PySem.W.copiedNames.contains f = false
/-- a method: a plain def of the class or of one above it -/
structure Meth (K : PySem.W.Frag) (C : Addr) (m : Str) (f : Addr) : Prop where
  at_ : PySem.W.findIn K (.ref C) m = some (some (.ref f))
  fn : PySem.W.isFn K (.ref f) = true
  kp : PySem.W.keepIn K (.ref f) = true

section
variable {X : Cx} {pins : List (Addr × Obj)} {σ : St} {H : Hp} {s : Shared} {a C dx : Addr} {fs : List (Str × V)} {f : Str} {v : V} {A : Around} {E : Value → Shared → Prop}

theorem getattr_ok {b : Bool} {Q : Value → Shared → Prop} (I : Inv X pins σ H s) (e : H a = some (.ins C dx fs)) (c : Cls X.K C) (n : NoAttr X.K C f) (l : fs.lookup f = some v)
    (h : ∀ u s', Inv X pins σ H s' → RelV v u → Q u s') : wpAny (model X.prog X.w) A (getAttr (.ref a) f b) Q E s := by
  obtain ⟨mA, O, r, _, _, _⟩ := ins_get I.hok e
  obtain ⟨u, hu, ru⟩ := RelO.some_of (v := v) (o := mA f) (by rw [← l]; exact r f)
  exact get_map I.kIn O (c.get f) c.hd n hu (handed_of ru) (h u _ (I.tok _) ru)

theorem getmeth_ok {m : Str} {g : Addr} {pl : Sem Bool} {Q : Value × List Value → Shared → Prop} (I : Inv X pins σ H s) (e : H a = some (.ins C dx fs)) (c : Cls X.K C) (k : Meth X.K C m g) (l : fs.lookup m = none)
    (h : Q (.ref g, [.ref a]) s) : wpAny (model X.prog X.w) A (getMethod (.ref a) m pl) Q E s := by
  obtain ⟨mA, O, r, _, _, _⟩ := ins_get I.hok e
  have hn : mA m = none := RelO.none_of (by rw [← l]; exact r m)
  exact get_meth I.kIn O (c.get m) k.at_ k.fn hn h

theorem setattr_ok {y : V} {u : Value} {Q : Unit → Shared → Prop} (I : Inv X pins σ H s) (e : H a = some (.ins C dx fs)) (c : Cls X.K C) (n : NoAttr X.K C f) (hl : fs.length < 1000) (ry : RelV y u)
    (h : ∀ s', Inv X pins σ (upd H a (.ins C dx (putF f y fs))) s' → Q () s') : wpAny (model X.prog X.w) A (setAttr (.ref a) f u) Q E s := by
  obtain ⟨mA, O, r, wi, _, ho⟩ := ins_get I.hok e
  have hz : (fs.map (·.1)).length ≤ sizeLine := by rw [List.length_map, sizeLine_eq]; omega
  refine set_map I.kIn O c.sa c.po n.taker c.hd wi hz fun h' O' sb => h _ ?_
  have hd : ∃ o, h'.get? dx = some o := let ⟨o, _, _, e', _⟩ := O'.ns; ⟨o, e'⟩
  refine I.write (x := a) (e := dx) (by rw [e]; exact True.intro) (.inr ho) (fun b q hb z => (sb.2 b hb).trans z) hd ?_
  refine ⟨by rw [upd_ne O.ne]; exact ho, ?_, O.ne, O'.obj, _, O'.ns, fun g => ?_, fun g hg => ?_⟩
  · have := length_putF f y fs; omega
  · show RelO ((putF f y fs).lookup g) (if g = f then some u else mA g)
    rw [lookup_putF]
    by_cases q : g = f
    · rw [if_pos q, if_pos q]; exact ry
    · rw [if_neg q, if_neg q]; exact r g
  · by_cases q : g = f
    · rw [q]; exact (keys_putF f y fs).1
    · refine (keys_putF f y fs).2 g (wi g fun z => hg ?_)
      show (if g = f then some u else mA g) = none
      rw [if_neg q]; exact z

/-- a new instance, tracked, without attributes -/
theorem Inv.made (I : Inv X pins σ H s) : Inv X pins σ (upd (upd H s.heap.objs.size (.own (s.heap.objs.size + 1))) (s.heap.objs.size + 1) (.ins C s.heap.objs.size []))
    { s with heap := (s.heap.push PySem.W.emptyDict).push (PySem.W.instObj C s.heap.objs.size) } := by
  have e1 : (s.heap.push PySem.W.emptyDict).get? s.heap.objs.size = some PySem.W.emptyDict := Heap.get?_push_size s.heap rfl
  have e2 : ((s.heap.push PySem.W.emptyDict).push (PySem.W.instObj C s.heap.objs.size)).get? (s.heap.objs.size + 1) = some (PySem.W.instObj C s.heap.objs.size) := by
    have := Heap.get?_push_size (s.heap.push PySem.W.emptyDict) (o := PySem.W.instObj C s.heap.objs.size) rfl
    rwa [Heap.size_push] at this
  have e3 : (s.heap.push PySem.W.emptyDict).Ns s.heap.objs.size (fun _ => none) := ⟨PySem.W.emptyDict, #[], _, e1, rfl, (fun e he => absurd he (by simp)), fun _ => rfl⟩
  have I1 := I.laid (a := s.heap.objs.size) (o := .own (s.heap.objs.size + 1)) (h' := s.heap.push PySem.W.emptyDict) (t' := s.toks) (fun b u q => Heap.get?_push_of_some _ q) (Nat.le_refl _) ⟨_, e1⟩
  refine I1.laid (a := s.heap.objs.size + 1) (o := .ins C s.heap.objs.size []) (t' := s.toks) (fun b u q => Heap.get?_push_of_some _ q) (Nat.le_of_eq (Heap.size_push _ _)) ?_
  have ne : s.heap.objs.size ≠ s.heap.objs.size + 1 := Nat.ne_of_lt (Nat.lt_succ_self _)
  refine ⟨by rw [upd_ne ne, upd_same], Nat.zero_le _, ne, e2, fun _ => none, (Heap.Ns1.of_empty e3).at fun o q => Heap.get?_push_of_some _ q, fun _ => True.intro, fun y hy => absurd rfl hy⟩

/-- e.f where nothing but the object is asked: through attributeBase (super) and the last hold -/
theorem attr_of {prog : Program} {w : World} {env : Env} {e : Expr} {f : Str} {pos : Pos} {s : Shared} {Q : Value → Shared → Prop} (hb : attributeBase e f env (eval e env) = eval e env)
    (h : wpAny (model prog w) A (eval e env) (fun o s₁ => wpAny (model prog w) A (getAttr o f true) Q E s₁) E s) : wpAny (model prog w) A (eval (.Attribute e f pos) env) Q E s :=
  Attribute_any_ h (by rw [arm_eval_Attribute, hb])
end

/-! ### readings and rules -/
/-- e.f, an attribute of the instance -/
def tFld (K : PySem.W.Frag) (ta : TE) (f : Str) : TE := fun σ H Q => ta σ H fun x H1 => ∃ a C dx fs v, x = .ref a ∧ H1 a = some (.ins C dx fs) ∧ Cls K C ∧ NoAttr K C f ∧ fs.lookup f = some v ∧ Q v H1
/-- e.f = value -/
def sFld (K : PySem.W.Frag) (ta tv : TE) (f : Str) : TS := fun D σ H => tv σ H fun y H1 => ta σ H1 fun x H2 => ∃ a C dx fs, x = .ref a ∧ H2 a = some (.ins C dx fs) ∧ Cls K C ∧ NoAttr K C f ∧ fs.length < 1000 ∧
  D.nx σ (upd H2 a (.ins C dx (putF f y fs)))
section
variable {X : Cx} {o e value : Expr} {f : Str} {pos pos' tpos : Pos} {ta tv : TE}
theorem pe_fld (he : PE X e ta) (hb : attributeBase e f X.env (eval e X.env) = eval e X.env) : PE X (.Attribute e f pos) (tFld X.K ta f) := by
  intro pins s σ H Q I h
  refine attr_of hb (thn (he pins s σ H _ I h) fun u s1 ⟨x, H1, I1, rx, a, C, dx, fs, v, ex, ea, c, n, l, q⟩ => ?_)
  subst ex
  obtain rfl : u = Value.ref a := rx
  exact getattr_ok I1 ea c n l fun u' s2 I2 ru => ⟨v, H1, I2, ru, q⟩
theorem ps_fld (ha : PE X o ta) (hv : PE X value tv) (hs : swapsWith value (some (.Attribute o f pos')) pos.line X.env = pure false) : PS X (.Assign [.Attribute o f pos'] value pos) (sFld X.K ta tv f) := by
  intro pins s σ H D I h
  refine plainObj_wpAny_Assign_Attribute (thn (hv pins s σ H _ I h) fun u s1 ⟨y, H1, I1, ry, q⟩ => thn (ha pins s1 σ H1 _ I1 q) fun ov s2 ⟨x, H2, I2, rx, a, C, dx, fs, ex, ea, c, n, l, q2⟩ => ?_) hs
  subst ex
  obtain rfl : ov = Value.ref a := rx
  exact setattr_ok I2 ea c n l ry fun s3 I3 => ⟨σ, _, I3, q2⟩
end

/-! ### isinstance -/
section
variable {X : Cx} {pins : List (Addr × Obj)} {σ : St} {H : Hp} {s : Shared} {A : Around} {E : Value → Shared → Prop} {Q : Value → Shared → Prop} {c : Value} {b : Bool}
/-- the type of a value, as the fragment's deciders take it; for an instance its class -/
inductive TyOf (K : PySem.W.Frag) (H : Hp) : V → Value → Prop where
  | non : TyOf K H .non (.type "NoneType")
  | bl (x : Bool) : TyOf K H (.bl x) (.type "bool")
  | int (i : Int) : TyOf K H (.int i) (.type "int")
  | str (x : Str) : TyOf K H (.str x) (.type "str")
  | flt (x : UInt64) : TyOf K H (.flt x) (.type "float")
  | lst {a : Addr} {xs : List V} (e : H a = some (.lst xs)) : TyOf K H (.ref a) (.type "list")
  | frz {a : Addr} {o : Obj} {xs : List V} (e : H a = some (.frz o (.lst xs))) : TyOf K H (.ref a) (.type "list")
  | tup {a : Addr} {xs : List V} (e : H a = some (.tup xs)) : TyOf K H (.ref a) (.type "tuple")
  | dK {a : Addr} {kvs : List (Key × V)} (e : H a = some (.dK kvs)) : TyOf K H (.ref a) (.type "dict")
  | dT {a : Addr} {kvs : List (List Key × V)} (e : H a = some (.dT kvs)) : TyOf K H (.ref a) (.type "dict")
  | ins {a C dx : Addr} {fs : List (Str × V)} (e : H a = some (.ins C dx fs)) (cl : Cls K C) (ha : PySem.W.findIn K (.ref C) "__class__" = some (some (.builtin "object.__class__")))
      (hn : PySem.W.specialIn K (.builtin "object.__class__") "__get__" = some (some (.builtin "getset_descriptor.__get__"))) (htk : PySem.W.takesIn K (.builtin "object.__class__") = some true)
      (hm : PySem.W.mroIn K C (.type "object") = some true) : TyOf K H (.ref a) (.ref C)
/-- isinstance(x, c) for one class c, a built-in or an own one: kitOne's answer -/
theorem isinst_ok {x : V} {u t : Value} (I : Inv X pins σ H s) (rx : RelV x u) (ty : TyOf X.K H x t) (e : PySem.W.kitOne X.K t c = some b) (h : ∀ tk, Q (.bool b) { s with toks := tk }) :
    wpAny (model X.prog X.w) A (call (.builtin "isinstance") [u, c]) Q E s := by
  cases ty with
  | non => cases (show u = Value.none from rx); exact PySem.W.kia_one PySem.W.kitx_none I.kIn True.intro e (fun z => nomatch z) h
  | bl y => cases (show u = Value.bool y from rx); exact PySem.W.kia_one PySem.W.kitx_bool I.kIn True.intro e (fun z => nomatch z) h
  | int i => obtain ⟨t, q⟩ := (show ∃ t, u = Value.int i t from rx); cases q; exact PySem.W.kia_one PySem.W.kitx_int I.kIn True.intro e (fun z => nomatch z) h
  | str y => obtain ⟨t, q⟩ := (show ∃ t, u = Value.str y t from rx); cases q; exact PySem.W.kia_one PySem.W.kitx_str I.kIn True.intro e (fun z => nomatch z) h
  | flt y => obtain ⟨t, q⟩ := (show ∃ t, u = Value.float y t from rx); cases q; exact PySem.W.kia_one PySem.W.kitx_float I.kIn True.intro e (fun z => nomatch z) h
  | @lst a xs ea =>
    cases (show u = Value.ref a from rx)
    obtain ⟨_, _, n, _, h1⟩ := (show ObjOk X.prog X.w H s.heap a (.lst xs) from I.hok a _ ea)
    exact PySem.W.kia_one PySem.W.kitx_list I.kIn ⟨_, h1, rfl⟩ e (fun z => nomatch z) h
  | @frz a ob xs ea =>
    cases (show u = Value.ref a from rx)
    obtain ⟨_, _, _, n, _, h1⟩ := (show ObjOk X.prog X.w H s.heap a (.frz ob (.lst xs)) from I.hok a _ ea)
    exact PySem.W.kia_one PySem.W.kitx_list I.kIn ⟨_, h1, rfl⟩ e (fun z => nomatch z) h
  | @tup a xs ea =>
    cases (show u = Value.ref a from rx)
    obtain ⟨_, _, _, p⟩ := (show ObjOk X.prog X.w H s.heap a (.tup xs) from I.hok a _ ea)
    obtain ⟨o, h1, h2, _⟩ := p
    exact PySem.W.kia_one PySem.W.kitx_tuple I.kIn ⟨o, h1, h2⟩ e (fun z => nomatch z) h
  | @dK a kvs ea =>
    cases (show u = Value.ref a from rx)
    obtain ⟨_, _, vs, _, p⟩ := (show ObjOk X.prog X.w H s.heap a (.dK kvs) from I.hok a _ ea)
    obtain ⟨o, es, ep, h1, h2, _⟩ := p
    exact PySem.W.kia_one PySem.W.kitx_dict I.kIn ⟨o, h1, h2.1⟩ e (fun z => nomatch z) h
  | @dT a kvs ea =>
    cases (show u = Value.ref a from rx)
    obtain ⟨_, _, xs, _, o, es, ep, h1, h2, _⟩ := (show ObjOk X.prog X.w H s.heap a (.dT kvs) from I.hok a _ ea)
    exact PySem.W.kia_one PySem.W.kitx_dict I.kIn ⟨o, h1, h2.1⟩ e (fun z => nomatch z) h
  | @ins a C dx fs ea cl ha hn htk hm =>
    cases (show u = Value.ref a from rx)
    obtain ⟨mA, O, _⟩ := ins_get I.hok ea
    obtain ⟨od, J, _⟩ := O.look
    exact PySem.W.kia_one (PySem.W.kitx_own (cl.get _) cl.hd ha hn htk hm) I.kIn J e (fun z => nomatch z) h
end
end L2

namespace L2
open PySem PySem.Spec PyProof.Rows

/-! ### room -/
structure Room (k : Nat) (A : Around) : Prop where
  hd : A.handled = none
  dp : A.depth + 3 * k + 5 < recursionLimit
  un : A.units + 16 * k + 200 < cLine
theorem Room.mono {j k : Nat} {A : Around} (r : Room k A) (h : j ≤ k) : Room j A := ⟨r.hd, by have := r.dp; omega, by have := r.un; omega⟩
theorem Room.deeper {k : Nat} {A : Around} (r : Room (k + 1) A) (env : Env) : Room k (A.deeper env) :=
  ⟨r.hd, by have := r.dp; show A.depth + 1 + 3 * k + 5 < _; omega, by have := r.un; show A.units + 3 + 16 * k + 200 < _; omega⟩
theorem Room.in1 {k : Nat} {A : Around} (r : Room (k + 1) A) : Room k A.in1 :=
  ⟨r.hd, by have := r.dp; show A.depth + 3 * k + 5 < _; omega, by have := r.un; show A.units + 1 + 16 * k + 200 < _; omega⟩
theorem make_depth {A : Around} {C : Addr} {us : List Value} {kw : List (Str × Value)} : (A.under (.builtin "type.__call__" ⟨.ref C :: us, kw⟩)).depth = A.depth + 1 := by
  first | rfl | simp [Around.under, Code.weight, Code.isCreation, Code.isGuard, Code.isCaller, Code.frames, Code.isFrame, guardIds]
theorem make_units {A : Around} {C : Addr} {us : List Value} {kw : List (Str × Value)} : (A.under (.builtin "type.__call__" ⟨.ref C :: us, kw⟩)).units = A.units + 1 := by
  first | rfl | simp [Around.under, Code.cUnits, Code.frames, Code.isFrame]
theorem Room.make {k : Nat} {A : Around} (r : Room (k + 1) A) (C : Addr) (us : List Value) (kw : List (Str × Value)) : Room k (A.under (.builtin "type.__call__" ⟨.ref C :: us, kw⟩)) :=
  ⟨r.hd, by have := r.dp; rw [make_depth]; omega, by have := r.un; rw [make_units]; omega⟩
theorem Room.depth {k : Nat} {A : Around} (r : Room k A) : A.depth < recursionLimit := by have := r.dp; omega
theorem Room.units {k : Nat} {A : Around} (r : Room k A) : A.units + 64 < cLine := by have := r.un; omega
/-! ### argument lists and displays -/
def tNil : TA := fun _ H Q => Q [] H
def tCons (ta : TE) (tr : TA) : TA := fun σ H Q => ta σ H fun x H1 => tr σ H1 fun xs H2 => Q (x :: xs) H2
section
variable {X : Cx} {e : Expr} {es : List Expr} {te : TE} {t : TA} {pos : Pos}
theorem pa_nil : PA X [] tNil := fun _ _ _ _ H Q I h => Calls.spliced_nil ⟨[], H, I, .nil, h⟩
theorem pa_cons (ha : PE X e te) (hr : PA X es t) (hs : starEach (e :: es) X.env = (false, eval e X.env) :: starEach es X.env := by rfl) : PA X (e :: es) (tCons te t) := by
  intro pos pins s σ H Q I h
  rw [hs]
  show wpAny _ _ (spliced ((false, eval e X.env) :: backTo pos (starEach es X.env))) _ _ s
  refine Calls.spliced_cons (thn (ha pins s σ H _ I h) fun u s1 ⟨x, H1, I1, r1, q1⟩ => ?_)
  exact thn (hr pos pins s1 σ H1 _ I1 q1) fun us s2 ⟨xs, H2, I2, r2, q2⟩ => ⟨x :: xs, H2, I2, .cons r1 r2, q2⟩

/-- a tuple, a list of written items -/
def tTup (t : TA) : TE := fun σ H Q => t σ H fun xs H1 => xs.length ≤ sizeLine ∧ ∀ p, H1 p = none → Q (.ref p) (upd H1 p (.tup xs))
def tLst (t : TA) : TE := fun σ H Q => t σ H fun xs H1 => xs.length ≤ sizeLine ∧ ∀ p, H1 p = none → Q (.ref p) (upd H1 p (.lst xs))
theorem pe_tup {x1} (h : PA X es t) : PE X (.Tuple es x1 pos) (tTup t) := by
  intro pins s σ H Q I hq
  refine wpAny_Tuple_spliced (thn (h pos pins s σ H _ I hq) fun us s1 ⟨xs, H1, I1, r, z, q⟩ => ⟨by rw [← r.length]; exact z, ?_⟩)
  have hf : H1 s1.heap.objs.size = none := I1.hok.fresh (Nat.le_refl _)
  refine ⟨.ref s1.heap.objs.size, upd H1 s1.heap.objs.size (.tup xs), I1.laid (t' := s1.toks) (fun b u e => Heap.get?_push_of_some _ e) (Nat.le_refl _) ?_, rfl, q _ hf⟩
  exact ⟨z, us, r, ⟨_, Heap.get?_push_size _ rfl, rfl, _, rfl⟩⟩
theorem pe_lst (h : PA X es t) : PE X (.List es pos) (tLst t) := by
  intro pins s σ H Q I hq
  refine wpAny_List_spliced (thn (h pos pins s σ H _ I hq) fun us s1 ⟨xs, H1, I1, r, z, q⟩ => ⟨by rw [← r.length]; exact z, ?_⟩)
  have hf : H1 s1.heap.objs.size = none := I1.hok.fresh (Nat.le_refl _)
  refine ⟨.ref s1.heap.objs.size, upd H1 s1.heap.objs.size (.lst xs), I1.laid (t' := s1.toks) (fun b u e => Heap.get?_push_of_some _ e) (Nat.le_refl _) ?_, rfl, q _ hf⟩
  exact ⟨z, us, 0, r, Heap.get?_push_size _ rfl⟩
end

/-! ### what a def promises -/
/-- a def's promise: the bound arguments in the parameters' order, the heap, the wanted end, the wanted exception -/
abbrev Sp := List V → Hp → VK → XK → Prop
/-- how an exception lies behind a call (file 08 gives it): the callers' frames, abstract heap and state ahead of the call, the wish, the exception, the state -/
abbrev CXT := List Env → Hp → Shared → XK → Value → Shared → Prop

/-- the state at a call -/
structure Env0 (P : Program) (w : World) (K : PySem.W.Frag) (mg : Str → Option Value) (base : Heap) (A : Around) (outer : List Env) (s : Shared) (H : Hp) : Prop where
  frames : A.frames = some outer
  mod : Mod K mg base
  bs : ∀ b o, base.get? b = some o → s.heap.get? b = some o ∧ H b = none
  bsz : base.objs.size ≤ s.heap.objs.size
  funs : s.heap.FunFrames base outer
  frf : ∀ b ∈ frs outer, H b = none
  hok : HOk P w H s.heap
  bare : AllBare s.gens
/-- a call's end -/
def CE (outer : List Env) (P : Program) (w : World) (H : Hp) (s : Shared) (Q : VK) (u : Value) (s' : Shared) : Prop :=
  ∃ v H', s'.os = s.os ∧ AllBare s'.gens ∧ Un (frs outer) [] H H' s.heap s'.heap ∧ HOk P w H' s'.heap ∧ RelV v u ∧ Q v H'
def CR (CX : CXT) (outer : List Env) (P : Program) (w : World) (H : Hp) (s : Shared) (Q : VK) (E : XK) (r : Result) (s' : Shared) : Prop :=
  match r with
  | .ok (.ret u) => CE outer P w H s Q u s'
  | .ok _ => False
  | .error e => CX outer H s E e s'
structure FnOk (P : Program) (w : World) (K : PySem.W.Frag) (mg : Str → Option Value) (base : Heap) (CX : CXT) (k : Nat) (f : Addr) (fd : FuncData) (ps : List Str) (sp : Sp) : Prop where
  len : ∀ vs H Q E, sp vs H Q E → vs.length = ps.length
  run : ∀ (A : Around) (outer : List Env) (s : Shared) (H : Hp) (args : Args) (us : List Value) (vs : List V) (Q : VK) (E : XK), Room k A → Env0 P w K mg base A outer s H → BindsTo s fd args (ps.zip us) → Vals vs us → sp vs H Q E →
    codeAny (model P w) A (.call (.ref f) args) (CR CX outer P w H s Q E) s
theorem FnOk.mono {P : Program} {w : World} {K : PySem.W.Frag} {mg : Str → Option Value} {base : Heap} {CX : CXT} {j k : Nat} {f : Addr} {fd : FuncData} {ps : List Str} {sp : Sp} (F : FnOk P w K mg base CX j f fd ps sp) (h : j ≤ k) :
    FnOk P w K mg base CX k f fd ps sp := ⟨F.len, fun A outer s H args us vs Q E hr => F.run A outer s H args us vs Q E (hr.mono h)⟩
/-- a weaker promise -/
theorem FnOk.imp {P : Program} {w : World} {K : PySem.W.Frag} {mg : Str → Option Value} {base : Heap} {CX : CXT} {k : Nat} {f : Addr} {fd : FuncData} {ps : List Str} {sp sp' : Sp} (F : FnOk P w K mg base CX k f fd ps sp)
    (h : ∀ vs H Q E, sp' vs H Q E → sp vs H Q E) : FnOk P w K mg base CX k f fd ps sp' :=
  ⟨fun vs H Q E q => F.len vs H Q E (h _ _ _ _ q), fun A outer s H args us vs Q E hr he hb hv hs => F.run A outer s H args us vs Q E hr he hb hv (h _ _ _ _ hs)⟩

theorem Env0.make {P : Program} {w : World} {K : PySem.W.Frag} {mg : Str → Option Value} {base : Heap} {A : Around} {outer : List Env} {s : Shared} {H : Hp} (e : Env0 P w K mg base A outer s H) (C : Addr) (us : List Value) (kw : List (Str × Value)) :
    Env0 P w K mg base (A.under (.builtin "type.__call__" ⟨.ref C :: us, kw⟩)) outer s H := ⟨by first | exact e.frames | (simpa [Around.under, Code.envs, Code.isFrame, pushEnvs] using e.frames), e.mod, e.bs, e.bsz, e.funs, e.frf, e.hok, e.bare⟩
theorem Env0.in1 {P : Program} {w : World} {K : PySem.W.Frag} {mg : Str → Option Value} {base : Heap} {A : Around} {outer : List Env} {s : Shared} {H : Hp} (e : Env0 P w K mg base A outer s H) :
    Env0 P w K mg base A.in1 outer s H := ⟨e.frames, e.mod, e.bs, e.bsz, e.funs, e.frf, e.hok, e.bare⟩

section
variable {X : Cx} {pins : List (Addr × Obj)} {σ : St} {H : Hp} {s s' : Shared}
/-- from a body: what a callee wants -/
theorem Inv.env0 (I : Inv X pins σ H s) : Env0 X.prog X.w X.K X.mg X.base X.A X.stack s H :=
  ⟨I.ok.frames, I.ok.mod, I.bs, Nat.le_trans I.ok.bsz I.sz, I.stack, I.stkFree, I.hok, I.bare⟩
/-- behind a call -/
theorem Inv.after {Q : VK} {u : Value} (I : Inv X pins σ H s) (h : CE X.stack X.prog X.w H s Q u s') : EP X pins σ Q u s' := by
  obtain ⟨v, H', os, bare, un, hok, r, q⟩ := h
  obtain ⟨hh, g, d, t, os'⟩ := s'
  obtain rfl : os' = s.os := os
  exact ⟨v, H', I.call (h' := hh) (g' := g) (d' := d) (t' := t) (ch := []) un hok bare (fun b z => absurd z (by simp)), r, q⟩
end

/-! ### calls -/
/-- f(..): the written arguments, then the defaults dvs; E: what is wanted of an exception -/
def tCall (sp : Sp) (dvs : List V) (E : XK) (t : TA) : TE := fun σ H Q => t σ H fun vs H1 => sp (vs ++ dvs) H1 Q E
/-- o.m(..) of an instance of the class at C -/
def tMeth (C : Addr) (m : Str) (sp : Sp) (dvs : List V) (E : XK) (ta : TE) (t : TA) : TE := fun σ H Q => ta σ H fun x H1 => ∃ a dx fs, x = .ref a ∧ H1 a = some (.ins C dx fs) ∧ fs.lookup m = none ∧
  t σ H1 fun vs H2 => sp (x :: (vs ++ dvs)) H2 Q E
/-- C(..): a new instance and its dict, then __init__ -/
def tMake (C : Addr) (sp : Sp) (dvs : List V) (E : XK) (t : TA) : TE := fun σ H Q => t σ H fun vs H1 => ∀ x dx, H1 x = none → H1 dx = none → dx ≠ x →
  sp (.ref x :: (vs ++ dvs)) (upd (upd H1 dx (.own x)) x (.ins C dx [])) (fun v H2 => v = .non ∧ Q (.ref x) H2) E

/-- how the parameters are bound: us the positional arguments, kw the keywords' values by name, ds the defaults that fill up -/
def Binds (K : PySem.W.Frag) (fd : FuncData) (ps : List Str) (ds : List Value) : Prop :=
  ∀ (s : Shared) (us : List Value), K.In s.heap → (us ++ ds).length = ps.length → BindsTo s fd ⟨us, []⟩ (ps.zip (us ++ ds))
/-- every parameter is given -/
theorem Binds.all {K : PySem.W.Frag} {fd : FuncData} {ps : List Str} (h : ∀ us : List Value, us.length = ps.length → bindArgs fd ⟨us, []⟩ = pure (ps.zip us)) : Binds K fd ps [] := fun s us _ hl => by
  rw [List.append_nil] at hl ⊢
  exact .of_eq (h us hl)

/-- an exception of a callee reaches what this body wants of exceptions -/
def Passes (CX : CXT) (X : Cx) (E : XK) : Prop := ∀ (pins : List (Addr × Obj)) (σ : St) (H : Hp) (s : Shared) (e : Value) (s' : Shared), Inv X pins σ H s → CX X.stack H s E e s' → X.xe e s'

section
variable {X : Cx} {CX : CXT} {k : Nat} {f C : Addr} {fd : FuncData} {ps : List Str} {sp : Sp} {dvs : List V} {ds : List Value} {E : XK} {x m : Str} {p pos apos : Pos} {e o : Expr} {es : List Expr} {ta : TE} {t : TA}

/-- the callee runs -/
theorem run_fn {pins : List (Addr × Obj)} {σ : St} {H : Hp} {s : Shared} {Q : VK} {us : List Value} {vs : List V} (F : FnOk X.prog X.w X.K X.mg X.base CX k f fd ps sp) (hr : Room k X.A) (hb : Binds X.K fd ps ds) (hd : Vals dvs ds) (hx : Passes CX X E)
    (I : Inv X pins σ H s) (r : Vals vs us) (h : sp (vs ++ dvs) H Q E) : wpAny (model X.prog X.w) X.A (call (.ref f) us) (EP X pins σ Q) X.xe s := by
  have r2 : Vals (vs ++ dvs) (us ++ ds) := r.append hd
  have hl : (us ++ ds).length = ps.length := by rw [← r2.length]; exact F.len _ _ _ _ h
  refine wpAny_call (codeAny_mono (F.run X.A X.stack s H ⟨us, []⟩ (us ++ ds) (vs ++ dvs) Q E hr I.env0 (hb s us I.kIn hl) r2 h) fun r s' hq => ?_)
  cases r with
  | error e => exact hx pins σ H s e s' I hq
  | ok fl =>
    cases fl with
    | ret u => exact I.after hq
    | next => exact False.elim hq
    | brk => exact False.elim hq
    | cont => exact False.elim hq

theorem pe_call (F : FnOk X.prog X.w X.K X.mg X.base CX k f fd ps sp) (hr : Room k X.A) (hg : Gl X x) (hm : X.mg x = some (.ref f)) (hk : PySem.W.keepIn X.K (.ref f) = true) (hb : Binds X.K fd ps ds) (hd : Vals dvs ds) (hx : Passes CX X E)
    (ha : PA X (e :: es) t) (hdb : (x == ("__debug__" : Str)) = false := by decide) (he : starEach (e :: es) X.env = (false, eval e X.env) :: starEach es X.env := by rfl) (hpl : (backTo pos (starEach es X.env)).any (·.1) = false := by rfl) :
    PE X (.Call (.Name x p) (e :: es) [] pos) (tCall sp dvs E t) := by
  intro pins s σ H Q I h
  refine wpAny_Call_Name_kw (ld_glob I hg hm ?_ hdb)
  refine PySem.W.callWith_K (h₀ := X.base) I.ok.mod.kin hk (thn (ha pos pins s σ H _ I h) fun us s1 ⟨vs, H1, I1, r, q⟩ => ⟨I1.kIn, ?_⟩) he hpl
  exact run_fn F hr hb hd hx I1 r q
/-- o.m(e, ..) -/
theorem pe_meth {pl : Sem Bool} (he : PE X o ta) (c : Cls X.K C) (hm : Meth X.K C m f) (F : FnOk X.prog X.w X.K X.mg X.base CX k f fd ps sp) (hr : Room k X.A) (hb : Binds X.K fd ps ds) (hd : Vals dvs ds) (hx : Passes CX X E) (ha : PA X (e :: es) t)
    (hst : starEach (e :: es) X.env = (false, eval e X.env) :: starEach es X.env := by rfl) (hpl : (backTo pos (starEach es X.env)).any (·.1) = false := by rfl)
    (ht : eval (.Call (.Attribute o m apos) (e :: es) [] pos) X.env = (do
      let ov ← eval o X.env
      standAt apos.atName
      let (f, first) ← holding [ov] (getMethod ov m pl)
      callWith pos f first (backTo pos (starEach (e :: es) X.env)) (backToKw pos (keywordEach [] X.env))) := by rfl) :
    PE X (.Call (.Attribute o m apos) (e :: es) [] pos) (tMeth C m sp dvs E ta t) := by
  intro pins s σ H Q I h
  refine PySem.W.methodCall_KW (pl := pl) (thn (he pins s σ H _ I h) fun u s1 ⟨x, H1, I1, rx, a, dx, fs, ex, ea, l, q⟩ => ?_) ht
  subst ex
  obtain rfl : u = Value.ref a := rx
  refine getmeth_ok I1 ea c hm l ?_
  refine PySem.W.callWith_K (first := [.ref a]) (h₀ := X.base) I.ok.mod.kin hm.kp (thn (ha pos pins s1 σ H1 _ I1 q) fun us s2 ⟨vs, H2, I2, r, q2⟩ => ⟨I2.kIn, ?_⟩) hst hpl
  exact run_fn (us := .ref a :: us) (vs := .ref a :: vs) F hr hb hd hx I2 (.cons rfl r) q2
/-- o.m() -/
theorem pe_meth0 {pl : Sem Bool} (he : PE X o ta) (c : Cls X.K C) (hm : Meth X.K C m f) (F : FnOk X.prog X.w X.K X.mg X.base CX k f fd ps sp) (hr : Room k X.A) (hb : Binds X.K fd ps ds) (hd : Vals dvs ds) (hx : Passes CX X E)
    (ht : eval (.Call (.Attribute o m apos) [] [] pos) X.env = (do
      let ov ← eval o X.env
      standAt apos.atName
      let (f, first) ← holding [ov] (getMethod ov m pl)
      callWith pos f first (backTo pos (starEach [] X.env)) (backToKw pos (keywordEach [] X.env))) := by rfl) :
    PE X (.Call (.Attribute o m apos) [] [] pos) (tMeth C m sp dvs E ta tNil) := by
  intro pins s σ H Q I h
  refine PySem.W.methodCall_KW (pl := pl) (thn (he pins s σ H _ I h) fun u s1 ⟨x, H1, I1, rx, a, dx, fs, ex, ea, l, q⟩ => ?_) ht
  subst ex
  obtain rfl : u = Value.ref a := rx
  refine getmeth_ok I1 ea c hm l ?_
  exact PySem.W.callWith_K0 (first := [.ref a]) I1.kIn hm.kp (run_fn (us := [.ref a]) (vs := [.ref a]) F hr hb hd hx I1 (.cons rfl .nil) q)

/-- what a class must have to be made -/
structure Mk (K : PySem.W.Frag) (C f : Addr) : Prop where
  makes : PySem.W.makesIn K C = true
  init : PySem.W.findIn K (.ref C) "__init__" = some (some (.ref f))
  fn : PySem.W.isFn K (.ref f) = true
  kp : PySem.W.keepIn K (.ref C) = true

theorem run_make {pins : List (Addr × Obj)} {σ : St} {H : Hp} {s : Shared} {Q : VK} {us : List Value} {vs : List V} (M : Mk X.K C f) (F : FnOk X.prog X.w X.K X.mg X.base CX k f fd ps sp) (hr : Room (k + 1) X.A) (hb : Binds X.K fd ps ds) (hd : Vals dvs ds)
    (hx : Passes CX X E) (I : Inv X pins σ H s) (r : Vals vs us)
    (h : ∀ x dx, H x = none → H dx = none → dx ≠ x → sp (.ref x :: (vs ++ dvs)) (upd (upd H dx (.own x)) x (.ins C dx [])) (fun v H2 => v = .non ∧ Q (.ref x) H2) E) :
    wpAny (model X.prog X.w) X.A (call (.ref C) us) (EP X pins σ Q) X.xe s := by
  have hq := h (s.heap.objs.size + 1) s.heap.objs.size (I.hok.fresh (Nat.le_succ _)) (I.hok.fresh (Nat.le_refl _)) (Nat.ne_of_lt (Nat.lt_succ_self _))
  have I2 := Inv.made (C := C) I
  have r2 : Vals (V.ref (s.heap.objs.size + 1) :: (vs ++ dvs)) (Value.ref (s.heap.objs.size + 1) :: (us ++ ds)) := .cons rfl (r.append hd)
  have hl : (Value.ref (s.heap.objs.size + 1) :: us ++ ds).length = ps.length := by
    have e := r2.length
    rw [F.len _ _ _ _ hq] at e
    exact e.symm
  refine wpAny_call (make_map (f := f) I.kIn M.makes M.init (beq_iff_eq.mp M.fn) (codeAny_mono (F.run _ X.stack _ _ ⟨Value.ref (s.heap.objs.size + 1) :: us, []⟩ (Value.ref (s.heap.objs.size + 1) :: (us ++ ds)) _ _ E (hr.make C us [])
    (I2.env0.make C us []) (hb _ (Value.ref (s.heap.objs.size + 1) :: us) I2.kIn hl) r2 hq) fun r s' hq' => ?_))
  cases r with
  | error e => exact hx pins σ _ _ e s' I2 hq'
  | ok fl =>
    cases fl with
    | ret u =>
      obtain ⟨v, H', I3, rv, ev, q3⟩ := I2.after hq'
      subst ev
      exact ⟨rv, ⟨V.ref (s.heap.objs.size + 1), H', I3, rfl, q3⟩⟩
    | next => exact False.elim hq'
    | brk => exact False.elim hq'
    | cont => exact False.elim hq'
theorem pe_make (M : Mk X.K C f) (F : FnOk X.prog X.w X.K X.mg X.base CX k f fd ps sp) (hr : Room (k + 1) X.A) (hg : Gl X x) (hm : X.mg x = some (.ref C)) (hb : Binds X.K fd ps ds) (hd : Vals dvs ds) (hx : Passes CX X E)
    (ha : PA X (e :: es) t) (hdb : (x == ("__debug__" : Str)) = false := by decide) (he : starEach (e :: es) X.env = (false, eval e X.env) :: starEach es X.env := by rfl) (hpl : (backTo pos (starEach es X.env)).any (·.1) = false := by rfl) :
    PE X (.Call (.Name x p) (e :: es) [] pos) (tMake C sp dvs E t) := by
  intro pins s σ H Q I h
  refine wpAny_Call_Name_kw (ld_glob I hg hm ?_ hdb)
  refine PySem.W.callWith_K (h₀ := X.base) I.ok.mod.kin M.kp (thn (ha pos pins s σ H _ I h) fun us s1 ⟨vs, H1, I1, r, q⟩ => ⟨I1.kIn, ?_⟩) he hpl
  exact run_make M F hr hb hd hx I1 r q
end

/-! ### keywords -/
section
variable {X : Cx} {CX : CXT} {k : Nat} {f C : Addr} {fd : FuncData} {ps ks : List Str} {sp : Sp} {E : XK} {x m : Str} {p pos apos kpos : Pos} {e o : Expr} {es : List Expr} {kws : List Keyword} {te ta : TE} {t tk : TA} {nm : Option Str}
/-- how a call with keywords binds: g puts the positional values us and the keywords' values ws (names ks) in the parameters' order, defaults among them -/
structure KBinds (K : PySem.W.Frag) (fd : FuncData) (ps ks : List Str) (g : List Value → List Value → List Value) (gV : List V → List V → List V) : Prop where
  to : ∀ (s : Shared) (us ws : List Value), K.In s.heap → (g us ws).length = ps.length → BindsTo s fd ⟨us, ks.zip ws⟩ (ps.zip (g us ws))
  rel : ∀ {vs : List V} {us : List Value} {zs : List V} {ws : List Value}, Vals vs us → Vals zs ws → Vals (gV vs zs) (g us ws)
variable {g : List Value → List Value → List Value} {gV : List V → List V → List V}
end

/-! ### a def's body keeps its promise -/
/-- names: the parameters first -/
structure FnScope (N P : List Str) (sc : Scope) : Prop where
  kind : sc.kind = .function
  co : sc.isCoroutine = false
  gen : sc.isGenerator = false
  nd : N.Nodup
  pre : N.take P.length = P
  par : ∀ x ∈ P, sc.names.lookup x = some .local ∨ sc.names.lookup x = some .cell
  nofree : ∀ y ∈ sc.names, y.2 ≠ .free

theorem bindL_out {kindOf : Str → Option NameKind} {x : Str} : ∀ {binds : List (Str × Value)} {m : Str → Option Value}, (∀ v, (x, v) ∉ binds) → bindL kindOf binds m x = m x
  | [], _, _ => rfl
  | (n, v) :: r, m, h => by
    unfold bindL
    rw [bindL_out fun w hw => h w (List.mem_cons_of_mem _ hw)]
    split
    · have : x ≠ n := by rintro rfl; exact h v List.mem_cons_self
      simp [this]
    · rfl
theorem bindC_out {kindOf : Str → Option NameKind} {x : Str} : ∀ {binds : List (Str × Value)} {m : Str → Option Value}, (∀ v, (x, v) ∉ binds) → bindC kindOf binds m x = m x
  | [], _, _ => rfl
  | (n, v) :: r, m, h => by
    unfold bindC
    rw [bindC_out fun w hw => h w (List.mem_cons_of_mem _ hw)]
    split
    · rfl
    · have : x ≠ n := by rintro rfl; exact h v List.mem_cons_self
      simp [this]
theorem bindL_get {kindOf : Str → Option NameKind} {x : Str} {v : Value} : ∀ {P : List Str} {vs : List Value} {i : Nat} {m : Str → Option Value}, P.Nodup → P[i]? = some x → vs[i]? = some v → kindOf x = some .local →
    bindL kindOf (P.zip vs) m x = some v
  | [], _, _, _, _, h, _, _ => by simp at h
  | _ :: _, [], _, _, _, _, h, _ => by simp at h
  | p :: P, w :: vs, 0, m, nd, h1, h2, hk => by
    simp at h1 h2; subst h1; subst h2
    show bindL kindOf ((p, w) :: P.zip vs) m p = _
    unfold bindL
    rw [bindL_out fun v hv => (List.nodup_cons.mp nd).1 (List.of_mem_zip hv).1, if_pos hk]
    simp
  | p :: P, w :: vs, i + 1, m, nd, h1, h2, hk => by
    show bindL kindOf ((p, w) :: P.zip vs) m x = _
    unfold bindL
    exact bindL_get (i := i) (List.nodup_cons.mp nd).2 (by simpa using h1) (by simpa using h2) hk
theorem bindC_get {kindOf : Str → Option NameKind} {x : Str} {v : Value} : ∀ {P : List Str} {vs : List Value} {i : Nat} {m : Str → Option Value}, P.Nodup → P[i]? = some x → vs[i]? = some v → kindOf x ≠ some .local →
    bindC kindOf (P.zip vs) m x = some v
  | [], _, _, _, _, h, _, _ => by simp at h
  | _ :: _, [], _, _, _, _, h, _ => by simp at h
  | p :: P, w :: vs, 0, m, nd, h1, h2, hk => by
    simp at h1 h2; subst h1; subst h2
    show bindC kindOf ((p, w) :: P.zip vs) m p = _
    unfold bindC
    rw [bindC_out fun v hv => (List.nodup_cons.mp nd).1 (List.of_mem_zip hv).1, if_neg hk]
    simp
  | p :: P, w :: vs, i + 1, m, nd, h1, h2, hk => by
    show bindC kindOf ((p, w) :: P.zip vs) m x = _
    unfold bindC
    exact bindC_get (i := i) (List.nodup_cons.mp nd).2 (by simpa using h1) (by simpa using h2) hk

/-- the names' values at the entry -/
def start (N : List Str) (vs : List V) : St := vs.map some ++ List.replicate (N.length - vs.length) none

/-- the context of a def's body, at its entry; an exception leaves the frame, then lies as CX says -/
def cxOf (CX : CXT) (P : Program) (w : World) (K : PySem.W.Frag) (mg : Str → Option Value) (base : Heap) (N : List Str) (qual : Str) (scope : Scope) (f : Addr) (cd : Value) (A : Around) (outer : List Env) (s : Shared) (H : Hp) (E : XK) : Cx where
  prog := P
  w := w
  K := K
  mg := mg
  base := base
  A := A.deeper (envOfC qual scope s.heap.objs.size f cd)
  N := N
  s₀ := s
  H₀ := H
  env := envOfC qual scope s.heap.objs.size f cd
  outer := outer
  stack := envOfC qual scope s.heap.objs.size f cd :: outer
  ex := []
  calm := true
  fn := fun _ => true
  pn := []
  xe := fun e s' => wpAny (model P w) (A.deeper (envOfC qual scope s.heap.objs.size f cd)) (leaving (envOfC qual scope s.heap.objs.size f cd) e) (fun _ s'' => CX outer H s E e s'') (fun e' s'' => CX outer H s E e' s'') s'

theorem cell_has {sc : Scope} {n : Nat} {x : Str} (h : sc.names.lookup x = some .cell) : ∃ c, (cellsFrom n sc.names []).lookup x = some c := by
  have q := PySem.W.cellsFrom_some sc.names n [] (.inl h)
  exact Option.isSome_iff_exists.mp q

theorem inv_start {CX : CXT} {P : Program} {w : World} {K : PySem.W.Frag} {mg : Str → Option Value} {base : Heap} {N ps : List Str} {qual : Str} {scope : Scope} {f : Addr} {cd : Value} {A : Around} {outer : List Env} {s s1 : Shared} {H : Hp} {E : XK} {us : List Value} {vs : List V}
    (S : FnScope N ps scope) (hd : A.handled = none) (e0 : Env0 P w K mg base A outer s H) (hl : vs.length = ps.length) (r : Vals vs us)
    (x : InCallC s s.heap.objs.size (bindL (envOfC qual scope s.heap.objs.size f cd).kindOf (ps.zip us) fun _ => none) (cellsFrom (s.heap.objs.size + 1) scope.names []) (bindC (envOfC qual scope s.heap.objs.size f cd).kindOf (ps.zip us) fun _ => none) s1) :
    Inv (cxOf CX P w K mg base N qual scope f cd A outer s H E) [] (start N vs) H s1 := by
  have hpl : ps.length ≤ N.length := by have := congrArg List.length S.pre; rw [List.length_take] at this; omega
  obtain ⟨h1, tk, rfl, hk⟩ := x.done
  have noA : ∀ b : Addr, b ∉ (cxOf CX P w K mg base N qual scope f cd A outer s H E).ex := fun b z => absurd (show b ∈ ([] : List Addr) from z) (by simp)
  refine ⟨⟨e0.mod, S.kind, rfl, rfl, Nat.le_refl _, fun y z c h1 h2 => ?_, fun y hy => ?_, fun y c _ h => ?_, fun _ => hd, Around.frames_deeper e0.frames, .inr ⟨rfl, rfl⟩, fun b z => absurd z (noA b), e0.bs, e0.bsz, fun b _ _ => noA b, fun b z => absurd z (noA b), e0.funs, e0.frf⟩,
    rfl, e0.bare, Un.kept hk, ⟨_, x.toInCall.ns, fun i y v h1 h2 h3 => ?_⟩, fun y c h => ⟨_, x.cell y c h⟩, e0.hok.fresh (Nat.le_refl _), fun y c h => ?_, fun p hp => absurd (show p ∈ ([] : List (Addr × Obj)) from hp) (by simp), e0.hok.kept hk, ?_⟩
  · exact name_of_addr x.apart (PySem.mem_of_lookup h1) (PySem.mem_of_lookup h2)
  · have hy : scope.names.lookup y = some .cell ∨ scope.names.lookup y = some .free := hy
    rcases hy with hy | hy
    · exact cell_has hy
    · exact absurd rfl (S.nofree _ (PySem.mem_of_lookup hy))
  · exact Nat.le_of_lt (x.above y c (PySem.mem_of_lookup h))
  · have hi : i < vs.length := by
      unfold start at h2
      by_cases hi : i < vs.length
      · exact hi
      · rw [List.getElem?_append_right (by simpa using hi)] at h2
        rw [List.getElem?_replicate] at h2
        split at h2 <;> cases h2
    have ha : vs[i]? = some v := by
      unfold start at h2
      rw [List.getElem?_append_left (by simpa using hi), List.getElem?_map] at h2
      cases e : vs[i]? with
      | none => rw [e] at h2; cases h2
      | some a => rw [e] at h2; cases h2; rfl
    obtain ⟨u, hu, rv⟩ := r.get ha
    have hp : ps[i]? = some y := by
      rw [← S.pre, List.getElem?_take_of_lt (by omega)]; exact h1
    have ndP : ps.Nodup := by rw [← S.pre]; exact S.nd.sublist (List.take_sublist _ _)
    refine ⟨u, rv, ?_⟩
    rcases S.par y (List.mem_of_getElem? hp) with k | k
    · exact .inl ⟨k, bindL_get ndP hp hu k⟩
    · obtain ⟨c, e⟩ := cell_has (n := s.heap.objs.size + 1) k
      refine .inr ⟨.inl k, c, e, ?_⟩
      have q := x.cell y c e
      rw [bindC_get ndP hp hu (by show scope.names.lookup y ≠ _; rw [k]; decide)] at q
      exact q
  · exact e0.hok.fresh (Nat.le_of_lt (x.above y c (PySem.mem_of_lookup h)))
  · unfold start
    show _ = N.length
    rw [List.length_append, List.length_map, List.length_replicate]
    omega

/-- THE RULE: a def (or a method) of the text, by its body. The body's reading t is chosen for each entry; it is run at the parameters' values -/
theorem fn_of {CX : CXT} {P : Program} {w : World} {K : PySem.W.Frag} {mg : Str → Option Value} {base : Heap} {k : Nat} {f : Addr} {name qual : Str} {params : Arguments} {body : List Stmt} {scope : Scope} {dV kV doc pm cdv ct oc : Value} {an od : Option Addr}
    {osl : Array (Option Value)} {N ps : List Str} {sp : Sp} (lk : K.lookup f = some ⟨oc, od, .func (PySem.W.fnOf name qual params body scope dV kV doc pm an cdv ct), osl⟩) (hcd : PySem.W.codeIn K cdv qual = true) (S : FnScope N ps scope)
    (len : ∀ vs H Q E, sp vs H Q E → vs.length = ps.length)
    (hbody : ∀ (A : Around) (outer : List Env) (s : Shared) (H : Hp) (vs : List V) (Q : VK) (E : XK), Room k (A.deeper (envOfC qual scope s.heap.objs.size f cdv)) → sp vs H Q E →
      ∃ t, PSs (cxOf CX P w K mg base N qual scope f cdv A outer s H E) body t ∧ t { nx := fun _ H' => Q .non H', rt := Q } (start N vs) H) :
    FnOk P w K mg base CX (k + 1) f (PySem.W.fnOf name qual params body scope dV kV doc pm an cdv ct) ps sp := by
  refine ⟨len, fun A outer s H args us vs Q E hr e0 hb r hsp => ?_⟩
  have hl := len _ _ _ _ hsp
  have KX : K.In s.heap := e0.mod.kin.keeps fun b o e => (e0.bs b o e).1
  have lim : s.heap.NoLimit := e0.mod.nolimit.keeps fun b o e => (e0.bs b o e).1
  have hkind : ∀ y ∈ ps.zip us, scope.names.lookup y.1 = some .local ∨ (scope.names.lookup y.1 = some .cell ∧ ((cellsFrom (s.heap.objs.size + 1) scope.names []).lookup y.1).isSome = true) := fun ⟨n, v⟩ hy => by
    rcases S.par n (List.of_mem_zip hy).1 with q | q
    · exact .inl q
    · exact .inr ⟨q, PySem.W.cellsFrom_some _ _ _ (.inl q)⟩
  refine codeAny_call_function hr.depth (KX _ _ lk) rfl S.co S.gen rfl (PySem.W.codeRec_of KX hcd) (hb _ _ _ _ ?_)
  refine wpAny_newFunctionEnv_cells S.kind hkind fun env he s1 x => ?_
  subst he
  refine ⟨lim.keeps x.toInCall.keep, codeAny_func ?_⟩
  obtain ⟨t, ht, hq⟩ := hbody A outer s H vs Q E (hr.deeper _) hsp
  have I : Inv (cxOf CX P w K mg base N qual scope f cdv A outer s H E) [] (start N vs) H s1 := inv_start S hr.hd e0 hl r x
  refine wpAny_mono (ht [] s1 (start N vs) H _ I hq) (fun fl s' hs => ?_) fun e s' hs => hs
  have fin : ∀ {σ' : St} {H' : Hp} {v : V} {u : Value}, Inv (cxOf CX P w K mg base N qual scope f cdv A outer s H E) [] σ' H' s' → RelV v u → Q v H' → CE outer P w H s Q u s' :=
    fun {σ' H' v u} J rv q => ⟨v, H', J.os, J.bare, J.base, J.hok, rv, q⟩
  cases fl with
  | ret u =>
    obtain ⟨v, σ', H', J, rv, q⟩ := hs
    exact fin J rv q
  | next =>
    obtain ⟨σ', H', J, q⟩ := hs
    exact fin (v := V.non) (u := Value.none) J rfl q
  | brk =>
    obtain ⟨_, _, _, q⟩ := hs
    exact False.elim q
  | cont =>
    obtain ⟨_, _, _, q⟩ := hs
    exact False.elim q
end L2

namespace L2
open PySem PySem.Spec PyProof.Rows
section
variable {X : Cx} {x : Str} {p pos : Pos} {e : Expr} {es : List Expr} {t : TA} {id T : String} {r : List V → Hp → VK → Prop}

def tCB (r : List V → Hp → VK → Prop) (t : TA) : TE := fun σ H Q => t σ H fun vs H1 => r vs H1 Q
/-- f(e, ..), f a built-in function -/
theorem pe_callB (hc : CallR X (.builtin id) r) (hg : Gl X x) (hm : X.mg x = none) (hv : bootBuiltins x = some (.builtin id)) (ha : PA X (e :: es) t) (hn : x ≠ "__name__" := by decide) (hdb : (x == ("__debug__" : Str)) = false := by decide)
    (he : starEach (e :: es) X.env = (false, eval e X.env) :: starEach es X.env := by rfl) (hpl : (backTo pos (starEach es X.env)).any (·.1) = false := by rfl) : PE X (.Call (.Name x p) (e :: es) [] pos) (tCB r t) := by
  intro pins s σ H Q I h
  refine wpAny_Call_Name_kw (ld_blt I hg hm hv ?_ hn hdb)
  exact PyProof.Rows.callWith_builtin1 (thn (ha pos pins s σ H _ I h) fun us s1 ⟨vs, H1, I1, r1, q1⟩ => hc pins s1 σ H1 vs us Q I1 r1 q1) he hpl
/-- T(e, ..), T a built-in type -/
theorem pe_callTy (hc : CallR X (.type T) r) (hg : Gl X x) (hm : X.mg x = none) (hv : bootBuiltins x = some (.type T)) (ha : PA X (e :: es) t) (hn : x ≠ "__name__" := by decide) (hdb : (x == ("__debug__" : Str)) = false := by decide)
    (he : starEach (e :: es) X.env = (false, eval e X.env) :: starEach es X.env := by rfl) (hpl : (backTo pos (starEach es X.env)).any (·.1) = false := by rfl) : PE X (.Call (.Name x p) (e :: es) [] pos) (tCB r t) := by
  intro pins s σ H Q I h
  refine wpAny_Call_Name_kw (ld_blt I hg hm hv ?_ hn hdb)
  exact PyProof.Rows.callWith_type1 (thn (ha pos pins s σ H _ I h) fun us s1 ⟨vs, H1, I1, r1, q1⟩ => hc pins s1 σ H1 vs us Q I1 r1 q1) he hpl
end
end L2

namespace HT
open PySem PyProof.Rows

section
open PySem.SeqAt
open PySem.AutoSeq1 (wpAny_loadPart')
open PySem.MeetsSeq PySem.MeetsSeq2 PySem.MeetsSeq3

end

section
variable {prog : Program} {w : World} {A : Around} {E : Value → Shared → Prop} {s : Shared}

/-! ### t[a:b], not the whole -/
/-- a slice's bound as a place among n (d where it is left out) -/
def sIx (n d : Nat) : Option Int → Nat
  | none => d
  | some v => if v < 0 then (v + (n : Int)).toNat else min v.toNat n
theorem sIx_none (n d : Nat) : sIx n d none = d := rfl
theorem sIx_nat (n d k : Nat) : sIx n d (some (k : Int)) = min k n := by
  show (if (k : Int) < 0 then ((k : Int) + (n : Int)).toNat else min (k : Int).toNat n) = min k n
  rw [if_neg (by omega), Int.toNat_natCast]
theorem sIx_le (n d : Nat) (hd : d ≤ n) (o : Option Int) : sIx n d o ≤ n := by
  cases o with
  | none => exact hd
  | some v =>
    show (if v < 0 then (v + (n : Int)).toNat else min v.toNat n) ≤ n
    by_cases hv : v < 0
    · rw [if_pos hv]; omega
    · rw [if_neg hv]; exact Nat.min_le_right _ _
theorem clip_eq (v : Int) (n d : Nat) : (if v < 0 then max (v + (n : Int)) 0 else min v (n : Int)) = ((sIx n d (some v) : Nat) : Int) := by
  show (if v < 0 then max (v + (n : Int)) 0 else min v (n : Int)) = (((if v < 0 then (v + (n : Int)).toNat else min v.toNat n) : Nat) : Int)
  by_cases hv : v < 0
  · simp only [if_pos hv]; omega
  · simp only [if_neg hv]; omega
theorem adjust_gen (lo hi : Option Int) (n : Nat) : Builtin.Slice.sliceAdjust lo hi 1 (n : Int) = (((sIx n 0 lo : Nat) : Int), ((sIx n n hi : Nat) : Int)) := by
  have h1 : ¬ ((1 : Int) < 0) := by omega
  unfold Builtin.Slice.sliceAdjust
  simp only [h1, if_false]
  refine Prod.ext ?_ ?_
  · cases lo with
    | none => rfl
    | some v => exact clip_eq v n 0
  · cases hi with
    | none => rfl
    | some v => exact clip_eq v n n
theorem places_gen (i j : Nat) : Builtin.Slice.slicePlaces (i : Int) (j : Int) 1 = j - i := by
  unfold Builtin.Slice.slicePlaces
  have h1 : (1 : Int) > 0 := by omega
  simp only [h1, if_true, Int.ediv_one]
  split <;> omega
theorem slicePart_ {v : Value} {o : Option Int} {Q : Option Int → Shared → Prop} (p : IsPart v o) (h : Q o s) : wpAny (model prog w) A (Builtin.Slice.slicePartIndex v) Q E s := by
  cases p with
  | none => exact slicePart_none h
  | int i t => exact slicePart_int h
theorem sliceApplied_gen {sl : Addr} {vl vu : Value} {lo hi : Option Int} {n : Nat} {Q : Int × Int × Nat → Shared → Prop} (hs : s.heap.IsSliceOf sl vl vu .none) (pl : IsPart vl lo) (pu : IsPart vu hi)
    (h : Q (((sIx n 0 lo : Nat) : Int), 1, sIx n n hi - sIx n 0 lo) s) : wpAny (model prog w) A (Builtin.Slice.sliceApplied (.ref sl) (pure (n : Int))) Q E s := by
  obtain ⟨os, hos, hcs, hds⟩ := id hs
  unfold Builtin.Slice.sliceApplied Builtin.Slice.sliceFields
  refine wpAny_bind (wpAny_bind (wpAny_field hos hds (x := vl) rfl (wpAny_bind (wpAny_field hos hds (x := vu) rfl (wpAny_bind (wpAny_field hos hds (x := .none) rfl (wpAny_pure ?_)))))))
  refine wpAny_bind (slicePart_none ?_)
  show wpAny _ _ (if ((1 : Int) == 0) = true then _ else _) _ _ s
  rw [if_neg (by decide)]
  refine wpAny_bind (slicePart_ pl (wpAny_bind (slicePart_ pu (wpAny_bind (wpAny_pure ?_)))))
  show wpAny _ _ (match Builtin.Slice.sliceAdjust lo hi 1 (n : Int) with | (lo, hi) => pure (lo, (1 : Int), Builtin.Slice.slicePlaces lo hi 1)) _ _ s
  rw [adjust_gen lo hi n]
  show wpAny _ _ (pure (((sIx n 0 lo : Nat) : Int), (1 : Int), Builtin.Slice.slicePlaces ((sIx n 0 lo : Nat) : Int) ((sIx n n hi : Nat) : Int) 1)) _ _ s
  rw [places_gen]
  exact wpAny_pure h
theorem pick_gen (xs : Array Value) (i k : Nat) : ((List.range k).filterMap fun (m : Nat) => xs[((i : Int) + (m : Int) * 1).toNat]?).toArray = ((xs.toList.drop i).take k).toArray := by
  have e : (fun (m : Nat) => xs[((i : Int) + (m : Int) * 1).toNat]?) = fun m => xs[i + m]? := by
    funext m
    have : ((i : Int) + (m : Int) * 1).toNat = i + m := by omega
    rw [this]
  rw [e]
  have := pick_run xs i k
  rw [List.filterMap_map] at this
  have e2 : ((fun x => xs[x]?) ∘ fun x => i + x) = fun m => xs[i + m]? := rfl
  rw [e2] at this
  rw [this]

theorem getItem_tuple_cut {t sl : Addr} {items : Array Value} {vl vu : Value} {lo hi : Option Int} {Q : Value → Shared → Prop} (ht : IsTup s.heap t items) (hs : s.heap.IsSliceOf sl vl vu .none) (pl : IsPart vl lo) (pu : IsPart vu hi)
    (hw : ¬ (sIx items.size 0 lo = 0 ∧ sIx items.size items.size hi = items.size))
    (h : Q (.ref s.heap.objs.size) { s with heap := s.heap.push { cls := .type "tuple", data := .seq ((items.toList.drop (sIx items.size 0 lo)).take (sIx items.size items.size hi - sIx items.size 0 lo)).toArray } })
    (hsz : items.size ≤ sizeLine) : wpAny (model prog w) A (getItem (.ref t) (.ref sl)) Q E s := by
  have htake : sizeOk (.seq ((items.toList.drop (sIx items.size 0 lo)).take (sIx items.size items.size hi - sIx items.size 0 lo)).toArray) := by
    show ((items.toList.drop (sIx items.size 0 lo)).take (sIx items.size items.size hi - sIx items.size 0 lo)).toArray.size ≤ sizeLine
    rw [List.size_toArray, List.length_take, List.length_drop, Array.length_toList]
    omega
  have hj : sIx items.size items.size hi ≤ items.size := sIx_le _ _ (Nat.le_refl _) hi
  obtain ⟨os, hos, hcs, hds⟩ := id hs
  have hTs : s.TypeIs (.ref sl) "slice" := ⟨os, hos, hcs⟩
  unfold getItem
  try with_reducible refine wpAny_holding ?_
  first | refine wpAny_bind (wpAny_pure ?_) | skip
  refine wpAny_bind (wpAny_sequenceKey ht.typeIs (by decide) ?_)
  refine wpAny_bind (wpAny_callSpecial?_slot (name := Str.ofString "__getitem__") ht.typeIs PyProof.Rows.slot_tuple_getitem
    (wpAny_call_entry PyProof.Rows.slot_tuple_getitem ht.typeIs entry_tuple_getitem ?_ (args_tuple_getitem _ _)))
  show wpAny _ _ (Builtin.Tuple.tupleItemsOf (.ref t) >>= _) _ _ s
  refine wpAny_bind (tupleItemsOf_ ht ?_)
  refine wpAny_bind (wpAny_typeOf hTs ?_)
  rw [if_pos (by decide)]
  refine wpAny_bind (sliceApplied_gen hs pl pu ?_)
  have hno : ¬ ((((sIx items.size 0 lo : Nat) : Int) == 0 && (1 : Int) == 1 && (sIx items.size items.size hi - sIx items.size 0 lo) == items.size) = true) := by
    intro q
    rw [Bool.and_eq_true, Bool.and_eq_true] at q
    have q1 : ((sIx items.size 0 lo : Nat) : Int) = 0 := eq_of_beq q.1.1
    have q2 : sIx items.size items.size hi - sIx items.size 0 lo = items.size := eq_of_beq q.2
    exact hw ⟨by omega, by omega⟩
  show wpAny _ _ (if (((sIx items.size 0 lo : Nat) : Int) == 0 && (1 : Int) == 1 && (sIx items.size items.size hi - sIx items.size 0 lo) == items.size) = true then _ else _) _ _ s
  rw [if_neg hno, pick_gen]
  first
    | exact wpAny_bind (m := Builtin.Tuple.tupleExact _) (wpAny_newObj_type (wpAny_pure ⟨_, rfl, wpAny_pure h⟩) htake)
    | exact wpAny_bind (m := Builtin.Tuple.tupleExact _) (wpAny_newObj_type (wpAny_bind (wpAny_pure (wpAny_pure ⟨_, rfl, wpAny_pure h⟩))) htake)
    | exact wpAny_bind (wpAny_bind (m := Builtin.Tuple.tupleExact _) (wpAny_newObj_type (wpAny_pure (wpAny_pure ⟨_, rfl, wpAny_pure h⟩)) htake))
    | exact wpAny_bind (wpAny_bind (m := Builtin.Tuple.tupleExact _) (wpAny_newObj_type (wpAny_pure ⟨_, rfl, wpAny_pure h⟩) htake))
end
end HT

namespace L2
open PySem PySem.Spec PyProof.Rows

/-! ### the parts of a slice -/
abbrev TO := St → Hp → (Option Int → Hp → Prop) → Prop
/-- a slice's part (left out, or an int) -/
def PO (X : Cx) (e : Option Expr) (t : TO) : Prop :=
  ∀ (pins : List (Addr × Obj)) (s : Shared) (σ : St) (H : Hp) (Q : Option Int → Hp → Prop), Inv X pins σ H s → t σ H Q →
    wpAny (model X.prog X.w) X.A (evalPart e X.env) (fun u s' => ∃ o H', Inv X pins σ H' s' ∧ IsPart u o ∧ Q o H') X.xe s
def tNoPart : TO := fun _ H Q => Q none H
def tPart (t : TE) : TO := fun σ H Q => t σ H fun x H1 => ∃ i, x = .int i ∧ Q (some i) H1

theorem intsAre_of {ns : List Int} : ∀ {us : List Value}, Vals (ns.map V.int) us → IntsAre us ns := by
  induction ns with
  | nil => intro us r; rw [List.map_nil] at r; cases r; exact .nil
  | cons n ns ih =>
    intro us r
    rw [List.map_cons] at r
    cases r with
    | cons r1 r2 =>
      obtain ⟨t, e⟩ := r1
      subst e
      exact .cons n t (ih r2)

section
variable {X : Cx} {e : Expr} {te : TE} {lo hi : Option Expr} {tl th : TO} {pos p2 : Pos}

theorem po_none : PO X none tNoPart := by
  intro pins s σ H Q I h
  rw [evalPart_none]
  exact wpAny_pure ⟨none, H, I, .none, h⟩
theorem po_some (h : PE X e te) : PO X (some e) (tPart te) := by
  intro pins s σ H Q I hw
  rw [evalPart_some]
  refine thn (h pins s σ H _ I hw) fun u s1 ⟨x, H1, I1, r1, q1⟩ => ?_
  obtain ⟨i, rfl, q⟩ := q1
  obtain ⟨t, rfl⟩ := r1
  exact ⟨some i, H1, I1, .int i t, q⟩

/-- what a slice of a value is, by values: the slice object stands at sl -/
def SlR (X : Cx) (r : V → Option Int → Option Int → Hp → VK → Prop) : Prop :=
  ∀ (pins : List (Addr × Obj)) (s : Shared) (σ : St) (H : Hp) (x : V) (v vl vu : Value) (lo hi : Option Int) (sl : Addr) (Q : VK), Inv X pins σ H s → RelV x v → s.heap.IsSliceOf sl vl vu .none → IsPart vl lo → IsPart vu hi → r x lo hi H Q →
    ∃ T id, typeLookup (.type T) "__getitem__" = pure (some (.builtin id)) ∧ s.TypeIs v T ∧ wpAny (model X.prog X.w) X.A (getItem v (.ref sl)) (EP X pins σ Q) X.xe s
theorem SlR.or {r r' : V → Option Int → Option Int → Hp → VK → Prop} (h : SlR X r) (h' : SlR X r') : SlR X (fun x lo hi H Q => r x lo hi H Q ∨ r' x lo hi H Q) := by
  intro pins s σ H x v vl vu lo hi sl Q I rx hs pl pu q
  rcases q with q | q
  · exact h pins s σ H x v vl vu lo hi sl Q I rx hs pl pu q
  · exact h' pins s σ H x v vl vu lo hi sl Q I rx hs pl pu q
def tSl (r : V → Option Int → Option Int → Hp → VK → Prop) (te : TE) (tl th : TO) : TE := fun σ H Q => te σ H fun x H1 => tl σ H1 fun l H2 => th σ H2 fun u H3 => r x l u H3 Q
/-- a[lo:hi], any a -/
theorem pe_slice {r : V → Option Int → Option Int → Hp → VK → Prop} (hr : SlR X r) (he : PE X e te) (hl : PO X lo tl) (hu : PO X hi th) : PE X (.Subscript e (.Slice lo hi none p2) pos) (tSl r te tl th) := by
  intro pins s σ H Q I h
  refine Subscript_ (thn (he pins s σ H _ I h) fun v s1 ⟨x, H1, I1, r1, q1⟩ => ?_)
  refine wpAny_Slice (thn (hl pins s1 σ H1 _ I1 q1) fun vl s2 ⟨l, H2, I2, pl, q2⟩ => thn (hu pins s2 σ H2 _ I2 q2) fun vu s3 ⟨u, H3, I3, pu, q3⟩ => ?_)
  rw [evalPart_none]
  refine wpAny_pure ?_
  have I4 : Inv X pins σ H3 { s3 with heap := s3.heap.push { cls := .type "slice", data := .fields #[vl, vu, .none] } } := I3.kept (t' := s3.toks) fun b ob q => Heap.get?_push_of_some _ q
  obtain ⟨T, id, hT, ht, hg⟩ := hr pins { s3 with heap := s3.heap.push { cls := .type "slice", data := .fields #[vl, vu, .none] } } σ H3 x v vl vu l u s3.heap.objs.size Q I4 r1 (Heap.IsSliceOf.new ..) pl pu q3
  show wpAny (model X.prog X.w) X.A (subscriptTail e (.Slice lo hi none p2) v (.ref s3.heap.objs.size)) (EP X pins σ Q) X.xe { s3 with heap := s3.heap.push { cls := .type "slice", data := .fields #[vl, vu, .none] } }
  exact tail_any (ops := [.ref s3.heap.objs.size, v]) ht hT hg (by with_unfolding_all rfl)

/-- the items of xs[lo:hi] -/
def cutV (xs : List V) (lo hi : Option Int) : List V := (xs.drop (HT.sIx xs.length 0 lo)).take (HT.sIx xs.length xs.length hi - HT.sIx xs.length 0 lo)
theorem cutV_length (xs : List V) (lo hi : Option Int) : (cutV xs lo hi).length ≤ xs.length := by
  unfold cutV
  rw [List.length_take, List.length_drop]
  omega
/-- t[lo:hi], not the whole of it (the whole would be t itself) -/
def rSlT (K : PySem.W.Frag) : V → Option Int → Option Int → Hp → VK → Prop := fun x lo hi H Q => ∃ a xs, x = .ref a ∧ SqT K H a xs ∧
  ¬ (HT.sIx xs.length 0 lo = 0 ∧ HT.sIx xs.length xs.length hi = xs.length) ∧ ∀ p, H p = none → Q (.ref p) (upd H p (.tup (cutV xs lo hi)))
theorem sl_tup : SlR X (rSlT X.K) := by
  intro pins s σ H x v vl vu lo hi sl Q I rx hs pl pu h
  obtain ⟨a, xs, rfl, hx, hw, q⟩ := h
  cases rx
  obtain ⟨its, r, ht, hz⟩ := I.tuple hx
  have hlen : its.toArray.size = xs.length := by rw [List.size_toArray]; exact r.length.symm
  refine ⟨"tuple", _, PyProof.Rows.slot_tuple_getitem.lookup, ht.typeIs, ?_⟩
  refine HT.getItem_tuple_cut ht hs pl pu (by rw [hlen]; exact hw) ?_ (by rw [hlen]; exact hz)
  rw [hlen]
  refine ⟨.ref s.heap.objs.size, _, I.laid (t' := s.toks) (o := .tup (cutV xs lo hi)) (fun b ob q => Heap.get?_push_of_some _ q) (Nat.le_refl _) ?_, rfl, q _ (I.hok.fresh (Nat.le_refl _))⟩
  exact ⟨Nat.le_trans (cutV_length xs lo hi) hz, _, (r.drop (HT.sIx xs.length 0 lo)).take (HT.sIx xs.length xs.length hi - HT.sIx xs.length 0 lo), IsTup.new _ _⟩

/-! ### t < u, t + u -/
/-- t + u, t not empty: u empty gives t itself -/
def rCatT (K : PySem.W.Frag) : R2 := fun x y H Q => ∃ a b xs ys, x = .ref a ∧ y = .ref b ∧ SqT K H a xs ∧ SqT K H b ys ∧ xs ≠ [] ∧ xs.length + ys.length ≤ sizeLine ∧
  (ys = [] → Q (.ref a) H) ∧ (ys ≠ [] → ∀ p, H p = none → Q (.ref p) (upd H p (.tup (xs ++ ys))))
end
end L2

namespace L2
open PySem PySem.Spec PyProof.Rows

/-! ### places -/
/-- the place that an index of any sign means -/
def ixN (n : Nat) (i : Int) : Option Nat := if 0 ≤ i then (if i < n then some i.toNat else none) else if -(n : Int) ≤ i then some (i + n).toNat else none
def atI {α : Type} (xs : List α) (i : Int) : Option α := (ixN xs.length i).bind fun j => xs[j]?
theorem ixN_seq {n : Nat} {i : Int} {j : Nat} (h : ixN n i = some j) : seqIndex? i n = some j ∧ j < n ∧ -(n : Int) ≤ i ∧ i < n := by
  unfold ixN at h
  by_cases h0 : 0 ≤ i
  · rw [if_pos h0] at h
    by_cases h1 : i < n
    · rw [if_pos h1] at h
      have e : i.toNat = j := Option.some.inj h
      exact ⟨by rw [seqIndex_of h0 h1, e], by omega, by omega, h1⟩
    · rw [if_neg h1] at h; cases h
  · rw [if_neg h0] at h
    by_cases h1 : -(n : Int) ≤ i
    · rw [if_pos h1] at h
      have e : (i + n).toNat = j := Option.some.inj h
      exact ⟨by rw [seqIndex_neg (by omega) h1, e], by omega, h1, by omega⟩
    · rw [if_neg h1] at h; cases h
theorem atI_get {α : Type} {xs : List α} {i : Int} {v : α} (h : atI xs i = some v) : ∃ j, seqIndex? i xs.length = some j ∧ xs[j]? = some v ∧ j < xs.length ∧ -(xs.length : Int) ≤ i ∧ i < xs.length := by
  unfold atI at h
  cases e : ixN xs.length i with
  | none => rw [e] at h; cases h
  | some j =>
    rw [e] at h
    obtain ⟨h1, h2, h3, h4⟩ := ixN_seq e
    exact ⟨j, h1, h, h2, h3, h4⟩
theorem atI_nat {α : Type} {xs : List α} {j : Nat} {v : α} (h : xs[j]? = some v) : atI xs (j : Int) = some v := by
  have hj : j < xs.length := (List.getElem?_eq_some_iff.mp h).1
  have e : ixN xs.length (j : Int) = some j := by
    unfold ixN
    rw [if_pos (by omega), if_pos (by omega)]; simp
  unfold atI; rw [e]; exact h
/-! ### what may be subscripted -/
/-- what stands as an index of a plain subscript -/
def PlainIx (b : Expr) : Prop := ∀ o i, subscripted b false o i = operate [o, i] (getItem o i)
/-- a subscript by values -/
def IxR (X : Cx) (r : R2) : Prop :=
  ∀ (value slice : Expr) (pins : List (Addr × Obj)) (s : Shared) (σ : St) (H : Hp) (x y : V) (v u : Value) (Q : VK), Inv X pins σ H s → RelV x v → RelV y u → r x y H Q →
    subscripted slice false v u = operate [v, u] (getItem v u) → wpAny (model X.prog X.w) X.A (subscriptTail value slice v u) (EP X pins σ Q) X.xe s
/-- a call of a builtin's method by values: the receiver, the arguments -/
def MtR (X : Cx) (id : String) (r : V → List V → Hp → VK → Prop) : Prop :=
  ∀ (pins : List (Addr × Obj)) (s : Shared) (σ : St) (H : Hp) (x : V) (xs : List V) (v : Value) (us : List Value) (Q : VK), Inv X pins σ H s → RelV x v → Vals xs us → r x xs H Q →
    wpAny (model X.prog X.w) X.A (call (.builtin id) (v :: us)) (EP X pins σ Q) X.xe s
section
variable {X : Cx} {a b : Expr} {ta tb : TE} {pos : Pos}
theorem IxR.or {r r' : R2} (h : IxR X r) (h' : IxR X r') : IxR X (fun x y H Q => r x y H Q ∨ r' x y H Q) := by
  intro value slice pins s σ H x y v u Q I rx ry q hs
  rcases q with q | q
  · exact h value slice pins s σ H x y v u Q I rx ry q hs
  · exact h' value slice pins s σ H x y v u Q I rx ry q hs
theorem MtR.or {id : String} {r r' : V → List V → Hp → VK → Prop} (h : MtR X id r) (h' : MtR X id r') : MtR X id (fun x xs H Q => r x xs H Q ∨ r' x xs H Q) := by
  intro pins s σ H x xs v us Q I rx rs q
  rcases q with q | q
  · exact h pins s σ H x xs v us Q I rx rs q
  · exact h' pins s σ H x xs v us Q I rx rs q
/-- a[b] -/
theorem pe_ix {r : R2} (hr : IxR X r) (ha : PE X a ta) (hb : PE X b tb) (hs : PlainIx b) : PE X (.Subscript a b pos) (tOp r ta tb) := by
  intro pins s σ H Q I h
  exact Subscript_ (binT ha hb I h fun v u s2 x y H2 I2 rx ry q => hr a b pins s2 σ H2 x y v u Q I2 rx ry q (hs _ _))

def rIxL (K : PySem.W.Frag) : R2 := fun x y H Q => ∃ p xs i v, x = .ref p ∧ y = .int i ∧ SqL K H p xs ∧ atI xs i = some v ∧ Q v H
def rIxT (K : PySem.W.Frag) : R2 := fun x y H Q => ∃ p xs i v, x = .ref p ∧ y = .int i ∧ SqT K H p xs ∧ atI xs i = some v ∧ Q v H
def rIxS : R2 := fun x y H Q => ∃ z i c, x = .str z ∧ y = .int i ∧ z.length ≤ sizeLine ∧ atI z.cps.toList i = some c ∧ Q (.str ⟨#[c]⟩) H
theorem ix_list : IxR X (rIxL X.K) := by
  intro value slice pins s σ H x y v u Q I rx ry h hs
  obtain ⟨p, xs, i, z, rfl, rfl, hq, he, q⟩ := h
  cases rx
  obtain ⟨t, rfl⟩ := ry
  obtain ⟨its, r, pl, hz⟩ := I.list hq
  obtain ⟨j, h1, h2, h3, h4, h5⟩ := atI_get he
  obtain ⟨w, ew, rw'⟩ := r.get h2
  have hl := r.length
  have hn := line63
  have fin : EP X pins σ Q w s := ⟨z, H, I, rw', q⟩
  by_cases h0 : 0 ≤ i
  · have hj : i.toNat = j := by
      rw [seqIndex_of h0 h5] at h1
      exact Option.some.inj h1
    exact item_listR pl.isList h0 (by omega) (by rw [hj]; simpa using ew) fin hs
  · have hj : (i + (its.toArray.size : Int)).toNat = j := by
      rw [seqIndex_neg (by omega) h4] at h1
      rw [List.size_toArray, ← hl]
      exact Option.some.inj h1
    exact subscriptTail_builtinR (x := w) pl.isList.typeIs slot_list_getitem.lookup
      (wpAny_getItem_list_neg (Q := fun r s' => r = w ∧ EP X pins σ Q r s') pl.isList (by omega) (by rw [List.size_toArray] <;> omega) (by omega) (by rw [hj]; simpa using ew) ⟨rfl, fin⟩) hs
theorem ix_tup : IxR X (rIxT X.K) := by
  intro value slice pins s σ H x y v u Q I rx ry h hs
  obtain ⟨p, xs, i, z, rfl, rfl, hq, he, q⟩ := h
  cases rx
  obtain ⟨t, rfl⟩ := ry
  obtain ⟨its, r, pl, hz⟩ := I.tuple hq
  obtain ⟨j, h1, h2, h3, h4, h5⟩ := atI_get he
  obtain ⟨w, ew, rw'⟩ := r.get h2
  have hl := r.length
  have hn := line63
  have fin : EP X pins σ Q w s := ⟨z, H, I, rw', q⟩
  exact subscriptTail_builtinR (x := w) pl.typeIs slot_tuple_getitem.lookup
    (getItem_tuple (j := j) (Q := fun r s' => r = w ∧ EP X pins σ Q r s') pl (by omega) (by omega) (by rw [List.size_toArray, ← hl]; exact h1) (by simpa using ew) ⟨rfl, fin⟩) hs
/-! ### xs[i] = v, any sign -/
/-- the list's object behind a store -/
theorem mapSeq_set (its : List Value) (n j : Nat) (u : Value) : Obj.mapSeq (·.setIfInBounds j u) { cls := .type "list", data := .seq its.toArray n } = { cls := .type "list", data := .seq (its.set j u).toArray n } := by
  simp [Obj.mapSeq]
theorem Inv.lst {pins : List (Addr × Obj)} {σ : St} {H : Hp} {s : Shared} {p : Addr} {xs : List V} (I : Inv X pins σ H s) (h : H p = some (.lst xs)) :
    ∃ (its : List Value) (n : Nat), Vals xs its ∧ s.heap.get? p = some { cls := .type "list", data := .seq its.toArray n } ∧ xs.length ≤ sizeLine := by
  obtain ⟨z, its, n, r, e⟩ := I.hok p _ h
  exact ⟨its, n, r, e, z⟩
/-- the list at p is written by an update of its object -/
theorem Inv.lstUpd {pins : List (Addr × Obj)} {σ : St} {H : Hp} {s : Shared} {p : Addr} {xs ys : List V} {its its' : List Value} {n n' : Nat} {f : Obj → Obj} (I : Inv X pins σ H s) (h : H p = some (.lst xs))
    (ho : s.heap.get? p = some { cls := .type "list", data := .seq its.toArray n }) (hf : f { cls := .type "list", data := .seq its.toArray n } = { cls := .type "list", data := .seq its'.toArray n' }) (r : Vals ys its') (hz : ys.length ≤ sizeLine) (t : Nat) :
    Inv X pins σ (upd H p (.lst ys)) { s with heap := s.heap.update p f, toks := t } := by
  have e : (s.heap.update p f).get? p = some { cls := .type "list", data := .seq its'.toArray n' } := by
    rw [Heap.get?_update_self f ho (by rw [hf] <;> rfl), hf]
  refine I.write (x := p) (e := p) (by rw [h]; trivial) (.inl rfl) (fun b u hb q => (Heap.get?_update_other _ _ (Ne.symm hb)).trans q) ⟨_, e⟩ ?_
  exact ⟨hz, its', n', r, e⟩
def rSetL : V → V → V → Hp → (Hp → Prop) → Prop := fun o i v H Q => ∃ p xs k j, o = .ref p ∧ i = .int k ∧ H p = some (.lst xs) ∧ ixN xs.length k = some j ∧ Q (upd H p (.lst (xs.set j v)))
theorem set_list : PSet X rSetL := by
  intro pins s σ H o i v ov iv u Q I ro ri rv h
  obtain ⟨p, xs, k, j, rfl, rfl, hp, hj, q⟩ := h
  cases ro
  obtain ⟨t, rfl⟩ := ri
  obtain ⟨its, n, r, ho, hz⟩ := I.lst hp
  obtain ⟨h1, h2, h3, h4⟩ := ixN_seq hj
  have hl := r.length
  have hn := line63
  have I' : Inv X pins σ (upd H p (.lst (xs.set j v))) { s with heap := s.heap.update p (Obj.mapSeq (·.setIfInBounds j u)) } :=
    I.lstUpd hp ho (mapSeq_set its n j u) (r.set rv j) (by rw [List.length_set]; exact hz) s.toks
  by_cases h0 : 0 ≤ k
  · have hk : k.toNat = j := by
      rw [seqIndex_of h0 h4] at h1
      exact Option.some.inj h1
    exact PySem.W.ki_setAt ho h0 (by omega) (by rw [List.size_toArray, ← hl]; exact h4) (by rw [hk]; exact ⟨_, I', q⟩)
  · have hk : (k + (its.toArray.size : Int)).toNat = j := by
      rw [seqIndex_neg (by omega) h3] at h1
      rw [List.size_toArray, ← hl]
      exact Option.some.inj h1
    exact PySem.W.ki_setBack ho (by omega) (by rw [List.size_toArray, ← hl]; exact h3) (by omega) (by rw [hk]; exact ⟨_, I', q⟩)

/-! ### slices -/
theorem slice_bounds (lo hi : Option Int) (n : Nat) : (sliceBounds lo hi none n).1 = ((HT.sIx n 0 lo : Nat) : Int) ∧ (sliceBounds lo hi none n).2.1 = ((HT.sIx n n hi : Nat) : Int) ∧ (sliceBounds lo hi none n).2.2 = 1 := by
  refine ⟨?_, ?_, rfl⟩
  · cases lo with
    | none => simp [sliceBounds, HT.sIx]
    | some i =>
      simp only [sliceBounds, HT.sIx, Option.getD_none, show (1 : Int) > 0 by decide, if_true]
      by_cases h : i < 0
      · simp only [h, if_true] <;> omega
      · simp only [h, if_false] <;> omega
  · cases hi with
    | none => simp [sliceBounds, HT.sIx]
    | some i =>
      simp only [sliceBounds, HT.sIx, Option.getD_none, show (1 : Int) > 0 by decide, if_true]
      by_cases h : i < 0
      · simp only [h, if_true] <;> omega
      · simp only [h, if_false] <;> omega
theorem slicePick_cut (its : List Value) (lo hi : Option Int) : slicePick its.toArray lo hi none = ((its.drop (HT.sIx its.length 0 lo)).take (HT.sIx its.length its.length hi - HT.sIx its.length 0 lo)).toArray := by
  obtain ⟨h1, h2, h3⟩ := slice_bounds lo hi its.toArray.size
  unfold slicePick
  rw [h1, h2, h3]
  simp only [sliceRange_one, pick_run, List.size_toArray] <;> rfl
/-- xs[lo:hi] of a list: a new list -/
def rSlL (K : PySem.W.Frag) : V → Option Int → Option Int → Hp → VK → Prop := fun x lo hi H Q => ∃ a xs, x = .ref a ∧ SqL K H a xs ∧ ∀ p, H p = none → Q (.ref p) (upd H p (.lst (cutV xs lo hi)))
theorem sl_list : SlR X (rSlL X.K) := by
  intro pins s σ H x v vl vu lo hi sl Q I rx hs pl pu h
  obtain ⟨a, xs, rfl, hx, q⟩ := h
  cases rx
  obtain ⟨its, r, ht, hz⟩ := I.list hx
  have hlen := r.length
  refine ⟨"list", _, slot_list_getitem.lookup, ht.isList.typeIs, ?_⟩
  refine wpAny_getItem_list_slice ht.isList hs pl pu .none (by simp) ?_ (by rw [List.size_toArray] <;> omega)
  rw [slicePick_cut, ← hlen]
  refine ⟨.ref s.heap.objs.size, _, I.laid (t' := s.toks) (o := .lst (cutV xs lo hi)) (fun b ob q => Heap.get?_push_of_some _ q) (Nat.le_refl _) ?_, rfl, q _ (I.hok.fresh (Nat.le_refl _))⟩
  exact ⟨Nat.le_trans (cutV_length xs lo hi) hz, _, 0, (r.drop (HT.sIx xs.length 0 lo)).take (HT.sIx xs.length xs.length hi - HT.sIx xs.length 0 lo), Heap.get?_push_size _ rfl⟩

/-! ### in, not in: flat items -/
def flatV : V → Bool
  | .non => true
  | .bl _ => true
  | .int _ => true
  | .str _ => true
  | _ => false
/-- == of flat values -/
def eqV : V → V → Bool
  | .non, .non => true
  | .bl a, .bl b => a == b
  | .bl a, .int b => (if a then 1 else 0) == b
  | .int a, .bl b => a == (if b then 1 else 0)
  | .int a, .int b => a == b
  | .str a, .str b => a == b
  | _, _ => false
theorem eqAt_V {A : Around} {s : Shared} {y x : V} {u v : Value} (ry : RelV y u) (rx : RelV x v) (fy : flatV y = true) (fx : flatV x = true) : SeqAt.EqAt A s u v (eqV y x) := by
  cases y with
  | non =>
    cases ry
    cases x with
    | non => cases rx; exact SeqAt.EqAt.same _
    | bl b => cases rx; exact SeqAt.EqAt.none_bool b
    | int b => obtain ⟨t, rfl⟩ := rx; exact SeqAt.EqAt.none_int b t
    | str b => obtain ⟨t, rfl⟩ := rx; exact SeqAt.EqAt.none_str b t
    | _ => exact absurd (show false = true from fx) Bool.false_ne_true
  | bl a =>
    cases ry
    cases x with
    | non => cases rx; exact SeqAt.EqAt.bool_none a
    | bl b => cases rx; exact SeqAt.EqAt.bool_bool a b
    | int b => obtain ⟨t, rfl⟩ := rx; exact SeqAt.EqAt.bool_int a b t
    | str b => obtain ⟨t, rfl⟩ := rx; exact SeqAt.EqAt.bool_str a b t
    | _ => exact absurd (show false = true from fx) Bool.false_ne_true
  | int a =>
    obtain ⟨t', rfl⟩ := ry
    cases x with
    | non => cases rx; exact SeqAt.EqAt.int_none a t'
    | bl b => cases rx; exact SeqAt.EqAt.int_bool a t' b
    | int b => obtain ⟨t, rfl⟩ := rx; exact SeqAt.EqAt.int_int a t' b t
    | str b => obtain ⟨t, rfl⟩ := rx; exact SeqAt.EqAt.int_str a t' b t
    | _ => exact absurd (show false = true from fx) Bool.false_ne_true
  | str a =>
    obtain ⟨t', rfl⟩ := ry
    cases x with
    | non => cases rx; exact SeqAt.EqAt.str_none a t'
    | bl b => cases rx; exact SeqAt.EqAt.str_bool a t' b
    | int b => obtain ⟨t, rfl⟩ := rx; exact SeqAt.EqAt.str_int a t' b t
    | str b => obtain ⟨t, rfl⟩ := rx; exact SeqAt.EqAt.str_str a t' b t
    | _ => exact absurd (show false = true from fx) Bool.false_ne_true
  | _ => exact absurd (show false = true from fy) Bool.false_ne_true
/-- the items' answers, read off the values (a value's own answer does not lean on its token) -/
def eqU (x : V) (u : Value) : Bool := match u with
  | .none => eqV .non x
  | .bool b => eqV (.bl b) x
  | .int i _ => eqV (.int i) x
  | .str z _ => eqV (.str z) x
  | _ => false
theorem eqU_of {x y : V} {u : Value} (r : RelV y u) (f : flatV y = true) : eqU x u = eqV y x := by
  cases y with
  | non => cases r; rfl
  | bl b => cases r; rfl
  | int i => obtain ⟨t, rfl⟩ := r; rfl
  | str z => obtain ⟨t, rfl⟩ := r; rfl
  | _ => exact absurd (show false = true from f) Bool.false_ne_true
theorem mem_eqAt {A : Around} {s : Shared} {x : V} {v : Value} (rx : RelV x v) (fx : flatV x = true) : ∀ {xs : List V} {us : List Value}, Vals xs us → xs.all flatV = true → ∀ u ∈ us, SeqAt.EqAt A s u v (eqU x u)
  | _, _, .nil, _ => fun u hu => by cases hu
  | y :: xs, u :: us, .cons r t, f => fun u' hu => by
    rw [List.all_cons, Bool.and_eq_true] at f
    rcases List.mem_cons.mp hu with rfl | hu
    · rw [eqU_of r f.1]; exact eqAt_V r rx f.1 fx
    · exact mem_eqAt rx fx t f.2 u' hu
/-! ### len, list(x), tuple(x) of any list or tuple that is read -/
theorem call_len_seq : CallR X (.builtin "len") (fun xs H Q => ∃ p ys, xs = [.ref p] ∧ (SqL X.K H p ys ∨ SqT X.K H p ys) ∧ Q (.int ys.length) H) := by
  intro pins s σ H xs us Q I r h
  obtain ⟨p, ys, rfl, hq, q⟩ := h
  obtain ⟨u, rfl, rx⟩ := vals1 r
  cases rx
  have hn := line63
  rcases hq with hq | hq
  · obtain ⟨its, r', pl, hz⟩ := I.list hq
    have hlen := r'.length
    exact Calls.call_len_list pl.isList (by simp only [List.size_toArray] <;> omega) ⟨.int ys.length, H, I.tok _, ⟨s.toks + 1, by rw [List.size_toArray, hlen]⟩, q⟩
  · obtain ⟨its, r', pl, hz⟩ := I.tuple hq
    have hlen := r'.length
    exact len_tuple pl (by simp only [List.size_toArray] <;> omega) ⟨.int ys.length, H, I.tok _, ⟨s.toks + 1, by rw [List.size_toArray, hlen]⟩, q⟩
theorem CallR.or {f : Value} {r r' : List V → Hp → VK → Prop} (h : CallR X f r) (h' : CallR X f r') : CallR X f (fun xs H Q => r xs H Q ∨ r' xs H Q) := by
  intro pins s σ H xs us Q I rs q
  rcases q with q | q
  · exact h pins s σ H xs us Q I rs q
  · exact h' pins s σ H xs us Q I rs q
theorem call_list_of : CallR X (.type "list") (fun xs H Q => ∃ p ys, xs = [.ref p] ∧ (SqL X.K H p ys ∨ SqT X.K H p ys) ∧ ∀ l, H l = none → Q (.ref l) (upd H l (.lst ys))) := by
  intro pins s σ H xs us Q I r h
  obtain ⟨p, ys, rfl, hq, q⟩ := h
  obtain ⟨u, rfl, rx⟩ := vals1 r
  cases rx
  have fin : ∀ (its : List Value), Vals ys its → ys.length ≤ sizeLine → ∀ (h' : Heap) (c' : Nat), (∀ b o', s.heap.get? b = some o' → h'.get? b = some o') →
      h'.get? s.heap.objs.size = some { cls := .type "list", dict := none, data := .seq its.toArray c', slots := #[] } → EP X pins σ Q (.ref s.heap.objs.size) { s with heap := h' } := fun its r' hz h' c' kp e =>
    ⟨.ref s.heap.objs.size, _, I.laid (t' := s.toks) kp (Nat.le_refl _) (show ObjOk X.prog X.w _ h' _ (.lst ys) from ⟨hz, its, c', r', e⟩), rfl, q _ (I.hok.fresh (Nat.le_refl _))⟩
  rcases hq with hq | hq
  · obtain ⟨its, r', pl, hz⟩ := I.list hq
    have hlen := r'.length
    obtain ⟨o, ho, hc, n, hd⟩ := pl.isList
    exact call_list_seq p (.inl rfl) ho hc hd (fun h' c' kp e => fin its r' hz h' c' kp e) (by simp only [List.size_toArray] <;> omega)
  · obtain ⟨its, r', pl, hz⟩ := I.tuple hq
    have hlen := r'.length
    obtain ⟨o, ho, hc, n, hd⟩ := pl
    exact call_list_seq p (.inr rfl) ho hc hd (fun h' c' kp e => fin its r' hz h' c' kp e) (by simp only [List.size_toArray] <;> omega)
theorem call_tuple_of : CallR X (.type "tuple") (fun xs H Q => ∃ p ys, xs = [.ref p] ∧ ((SqL X.K H p ys ∧ ∀ l, H l = none → Q (.ref l) (upd H l (.tup ys))) ∨ (SqT X.K H p ys ∧ Q (.ref p) H))) := by
  intro pins s σ H xs us Q I r h
  obtain ⟨p, ys, rfl, h⟩ := h
  obtain ⟨u, rfl, rx⟩ := vals1 r
  cases rx
  rcases h with ⟨hq, q⟩ | ⟨hq, q⟩
  · obtain ⟨its, r', pl, hz⟩ := I.list hq
    have hlen := r'.length
    refine call_tuple_list pl.isList (fun h' kp => ?_) (by simp only [List.size_toArray] <;> omega)
    have I1 : Inv X pins σ H { s with heap := h' } := I.kept (t' := s.toks) kp
    have I2 : Inv X pins σ (upd H h'.objs.size (.tup ys)) { s with heap := h'.push { cls := .type "tuple", data := .seq its.toArray } } :=
      I1.laid (t' := s.toks) (fun b o e => Heap.get?_push_of_some _ e) (Nat.le_refl _) (show ObjOk X.prog X.w _ _ _ (.tup ys) from ⟨hz, its, r', IsTup.new _ _⟩)
    exact ⟨.ref h'.objs.size, _, I2, rfl, q _ (I1.hok.fresh (Nat.le_refl _))⟩
  · obtain ⟨its, r', pl, hz⟩ := I.tuple hq
    exact call_tuple_same pl ⟨.ref p, H, I, rfl, q⟩

/-! ### the call of a builtin's method: o.m(..) -/
/-- the value is of that builtin type -/
def tyV (K : PySem.W.Frag) (T : String) (x : V) (H : Hp) : Prop := match x with
  | .str _ => T = "str"
  | .int _ => T = "int"
  | .ref p => (T = "list" ∧ ∃ xs, SqL K H p xs) ∨ (T = "tuple" ∧ ∃ o, K.lookup p = some o ∧ o.cls = .type "tuple" ∧ o.dict = none) ∨
      (T = "dict" ∧ ((∃ kvs, H p = some (.dK kvs)) ∨ ∃ kvs, H p = some (.dT kvs))) ∨ (T = "set" ∧ ∃ S n, H p = some (.set S n))
  | _ => False
theorem tyV_is {pins : List (Addr × Obj)} {σ : St} {H : Hp} {s : Shared} {T : String} {x : V} {v : Value} (I : Inv X pins σ H s) (r : RelV x v) (ty : tyV X.K T x H) :
    s.TypeIs v T ∧ ∀ a, v = .ref a → ∃ ob, s.heap.get? a = some ob ∧ ob.dict = none := by
  cases x with
  | str z =>
    obtain ⟨t, rfl⟩ := r
    cases (show T = "str" from ty)
    exact ⟨typeIs_str s z t, fun _ e => nomatch e⟩
  | int i =>
    obtain ⟨t, rfl⟩ := r
    cases (show T = "int" from ty)
    exact ⟨typeIs_int s i t, fun _ e => nomatch e⟩
  | ref p =>
    cases r
    rcases ty with ⟨rfl, xs, hq⟩ | ⟨rfl, o, hk, hc, hd⟩ | ⟨rfl, hk⟩ | ⟨rfl, S, n, hk⟩
    · obtain ⟨its, _, pl, _⟩ := I.list hq
      refine ⟨pl.isList.typeIs, fun a e => ?_⟩
      cases e
      obtain ⟨o, n, e, c, hd, _⟩ := pl
      exact ⟨o, e, hd⟩
    · refine ⟨⟨o, I.kIn p o hk, hc⟩, fun a e => ?_⟩
      cases e
      exact ⟨o, I.kIn _ o hk, hd⟩
    · have z : ∃ o, s.heap.get? p = some o ∧ o.ExactDict := by
        rcases hk with ⟨kvs, hk⟩ | ⟨kvs, hk⟩
        · obtain ⟨_, _, _, _, o, _, _, e, ex, _⟩ := I.hok p _ hk
          exact ⟨o, e, ex⟩
        · obtain ⟨_, _, _, _, o, _, _, e, ex, _⟩ := I.hok p _ hk
          exact ⟨o, e, ex⟩
      obtain ⟨o, e, ex⟩ := z
      refine ⟨⟨o, e, ex.1⟩, fun a e2 => ?_⟩
      cases e2
      exact ⟨o, e, ex.2.1⟩
    · obtain ⟨o, _, _, _, e, ex, _⟩ := I.hok p _ hk
      refine ⟨⟨o, e, ex.1⟩, fun a e2 => ?_⟩
      cases e2
      exact ⟨o, e, ex.2.1⟩
  | _ => exact False.elim ty
def tBM0 (K : PySem.W.Frag) (T : String) (r : V → List V → Hp → VK → Prop) (to : TE) : TE := fun σ H Q => to σ H fun x H1 => tyV K T x H1 ∧ r x [] H1 Q
def tBM (K : PySem.W.Frag) (T : String) (r : V → List V → Hp → VK → Prop) (to : TE) (t : TA) : TE := fun σ H Q => to σ H fun x H1 => tyV K T x H1 ∧ t σ H1 fun xs H2 => r x xs H2 Q
variable {o e : Expr} {es : List Expr} {to : TE} {t : TA} {name : Str} {apos cpos : Pos} {T id : String} {r : V → List V → Hp → VK → Prop}
theorem pe_bm (pa : PlainAttrs T) (slot : Slot T name id) (hty : typeOf (.builtin id) = pure (.type "method_descriptor")) (hm : MtR X id r) (ho : PE X o to) (ha : PA X (e :: es) t)
    (hbase : attributeBase o name X.env (eval o X.env) = eval o X.env := by rfl)
    (hfew : ((backTo cpos (starEach (e :: es) X.env)).all (fun x => !x.1) && (backToKw cpos (keywordEach [] X.env)).all (fun x => x.1.isSome)
      && decide ((e :: es).length + ([] : List Keyword).length + (if ([] : List Keyword).isEmpty then 0 else 1) < 30)) = true := by rfl)
    (hline : (apos.endLine == cpos.line) = true := by rfl) (hs : starEach (e :: es) X.env = (false, eval e X.env) :: starEach es X.env := by rfl) (hplain : (backTo cpos (starEach es X.env)).any (·.1) = false := by rfl) :
    PE X (.Call (.Attribute o name apos) (e :: es) [] cpos) (tBM X.K T r to t) := by
  intro pins s σ H Q I h
  refine wpAny_Call_method_late hbase hfew hline rfl (thn (ho pins s σ H _ I h) fun v s1 ⟨x, H1, I1, r1, ty, q1⟩ => ?_)
  obtain ⟨h1, h2⟩ := tyV_is I1 r1 ty
  refine ⟨T, id, pa, slot, hty, h1, h2, ?_⟩
  have hA := ha cpos pins s1 σ H1 _ I1 q1
  rw [hs] at hA ⊢
  refine Calls.callWith_builtin (by show (false || (backTo cpos (starEach es X.env)).any (·.1)) = false; rw [hplain] <;> rfl) (Calls.evalArgs_plain ?_)
  exact thn hA fun us s2 ⟨vs, H2, I2, r2, q2⟩ => hm pins s2 σ H2 x vs v us Q I2 r1 r2 q2
/- xs.append(e), list.index on a module's tuple .. are MtR facts of 06m -/
end
end L2

namespace L2
open PySem PySem.Spec PyProof.Rows

def MtM (X : Cx) (id : String) (r : V → List V → Hp → VK → Prop) : Prop :=
  ∀ (pins : List (Addr × Obj)) (s : Shared) (σ : St) (H : Hp) (x : V) (xs : List V) (v : Value) (us : List Value) (Q : VK), Inv X pins σ H s → RelV x v → Vals xs us → r x xs H Q →
    wpAny (model X.prog X.w) X.A (call (.builtin id) (v :: us)) (EP X pins σ Q) X.xe s

/-! ### lists of values -/
theorem Vals.one : ∀ {x : V} {us : List Value}, Vals [x] us → ∃ u, us = [u] ∧ RelV x u
  | _, _, .cons r .nil => ⟨_, rfl, r⟩
theorem Vals.two : ∀ {x y : V} {us : List Value}, Vals [x, y] us → ∃ u v, us = [u, v] ∧ RelV x u ∧ RelV y v
  | _, _, _, .cons r (.cons q .nil) => ⟨_, _, rfl, r, q⟩
theorem Vals.zero : ∀ {us : List Value}, Vals [] us → us = []
  | _, .nil => rfl
theorem Vals.dropLast {xs : List V} {us : List Value} (h : Vals xs us) : Vals xs.dropLast us.dropLast := by
  induction h with
  | nil => exact .nil
  | cons r t ih =>
    cases t with
    | nil => exact .nil
    | cons q t' => exact .cons r ih
theorem Vals.reverse {xs : List V} {us : List Value} (h : Vals xs us) : Vals xs.reverse us.reverse := by
  induction h with
  | nil => exact .nil
  | cons r t ih => rw [List.reverse_cons, List.reverse_cons]; exact Vals.append ih (.cons r .nil)
theorem Vals.rep {xs : List V} {us : List Value} (h : Vals xs us) : ∀ k : Nat, Vals (List.replicate k xs).flatten (List.replicate k us).flatten
  | 0 => .nil
  | k + 1 => by
    rw [List.replicate_succ, List.replicate_succ, List.flatten_cons, List.flatten_cons]
    exact Vals.append h (Vals.rep h k)
theorem foldl_rep (its : List Value) : ∀ (k : Nat) (acc : List Value),
    List.foldl (fun x1 x2 => x1 ++ x2) acc.toArray (List.replicate k its.toArray) = (acc ++ (List.replicate k its).flatten).toArray
  | 0, acc => by simp
  | k + 1, acc => by
    have e : acc.toArray ++ its.toArray = (acc ++ its).toArray := by simp
    have e2 : (acc ++ its) ++ (List.replicate k its).flatten = acc ++ (List.replicate (k + 1) its).flatten := by
      rw [List.replicate_succ, List.flatten_cons, List.append_assoc]
    rw [← e2, ← foldl_rep its k (acc ++ its), ← e, List.replicate_succ, List.foldl_cons]

section
variable {X : Cx} {pins : List (Addr × Obj)} {σ : St} {H : Hp} {s : Shared} {l b : Addr} {xs ys zs : List V}

/-! ### the two steps: a tracked list is rewritten, a new list is laid -/
theorem Inv.lset {its its' : List Value} {n : Nat} {f : Array Value → Array Value} {t' : Nat} (I : Inv X pins σ H s) (hH : H l = some (.lst xs))
    (e : s.heap.get? l = some { cls := .type "list", data := .seq its.toArray n }) (hf : f its.toArray = its'.toArray) (hv : Vals ys its') (hz : ys.length ≤ sizeLine) :
    Inv X pins σ (upd H l (.lst ys)) { s with heap := s.heap.update l (Obj.mapSeq f), toks := t' } := by
  have q := PySem.IsL.update e f
  rw [hf] at q
  refine I.write (x := l) (e := l) (by rw [hH]; exact trivial) (.inl rfl) (fun b' u hb hu => (Heap.get?_update_other s.heap (Obj.mapSeq f) (Ne.symm hb)).trans hu) ⟨_, q⟩ ?_
  exact ⟨hz, its', _, hv, q⟩
theorem Inv.lnew {its : List Value} {t' : Nat} (I : Inv X pins σ H s) (hv : Vals ys its) (hz : ys.length ≤ sizeLine) :
    Inv X pins σ (upd H s.heap.objs.size (.lst ys)) { s with heap := s.heap.push { cls := .type "list", data := .seq its.toArray }, toks := t' } :=
  I.laid (fun _ _ q => Heap.get?_push_of_some _ q) (Nat.le_refl _) ⟨hz, its, 0, hv, Heap.get?_push_size _ rfl⟩
theorem Inv.fresh (I : Inv X pins σ H s) : H s.heap.objs.size = none := I.hok.fresh (Nat.le_refl _)
theorem Inv.lstM (I : Inv X pins σ H s) (hH : H l = some (.lst xs)) : xs.length ≤ sizeLine ∧ ∃ (its : List Value) (n : Nat), Vals xs its ∧ xs.length = its.length ∧ s.heap.get? l = some { cls := .type "list", data := .seq its.toArray n } := by
  obtain ⟨z, its, n, r, e⟩ := I.hok l _ hH
  exact ⟨z, its, n, r, r.length, e⟩

theorem notLongL {n : Nat} (h : n ≤ sizeLine) : Builtin.List.listTooLong n = false := by
  unfold Builtin.List.listTooLong
  exact decide_eq_false (by omega)
end

section
variable {X : Cx}

/-! ### methods -/
def rAppend : V → List V → Hp → VK → Prop := fun x vs H Q => ∃ l xs y, x = .ref l ∧ vs = [y] ∧ H l = some (.lst xs) ∧ xs.length < sizeLine ∧ Q .non (upd H l (.lst (xs ++ [y])))
theorem mt_append : MtM X "list.append" rAppend := by
  intro pins s σ H x vs v us Q I rx rv h
  obtain ⟨l, xs, y, rfl, rfl, hH, hz, q⟩ := h
  cases rx
  obtain ⟨u, rfl, ru⟩ := rv.one
  obtain ⟨z, its, n, r, hl, e⟩ := I.lstM hH
  refine call_meets F.slot_list_append ⟨_, e, rfl⟩ F.entry_list_append (F.args_list_append_2 _ _) (PySem.list_append l its.toArray n u (by rw [List.size_toArray]; omega)) ⟨e, ?_⟩
  refine ⟨.non, _, I.lset (its' := its ++ [u]) hH e (by simp) (r.append (.cons ru .nil)) ?_, rfl, q⟩
  rw [List.length_append, List.length_singleton]
  omega

def rExtend : V → List V → Hp → VK → Prop := fun x vs H Q => ∃ l b xs zs, x = .ref l ∧ vs = [.ref b] ∧ H l = some (.lst xs) ∧ H b = some (.lst zs) ∧ xs.length + zs.length ≤ sizeLine ∧ Q .non (upd H l (.lst (xs ++ zs)))
def rReverse : V → List V → Hp → VK → Prop := fun x vs H Q => ∃ l xs, x = .ref l ∧ vs = [] ∧ H l = some (.lst xs) ∧ Q .non (upd H l (.lst xs.reverse))
def rClear : V → List V → Hp → VK → Prop := fun x vs H Q => ∃ l xs, x = .ref l ∧ vs = [] ∧ H l = some (.lst xs) ∧ Q .non (upd H l (.lst []))
/-! ### list + list, list += list, list * int -/
def rCat : R2 := fun x y H Q => ∃ l b xs zs, x = .ref l ∧ y = .ref b ∧ H l = some (.lst xs) ∧ H b = some (.lst zs) ∧ xs.length + zs.length ≤ sizeLine ∧ ∀ p, H p = none → Q (.ref p) (upd H p (.lst (xs ++ zs)))
theorem op_cat : OpR X (binaryOp .Add) rCat := by
  intro pins s σ H x y v u Q I rx ry h
  obtain ⟨l, b, xs, zs, rfl, rfl, hH, hB, hz, q⟩ := h
  cases rx
  cases ry
  obtain ⟨z, its, n, r, hl, e⟩ := I.lstM hH
  obtain ⟨z2, its2, n2, r2, hl2, e2⟩ := I.lstM hB
  refine PySem.P.add_list e e2 ?_ (by rw [List.size_toArray, List.size_toArray]; omega)
  have ea : its.toArray ++ its2.toArray = (its ++ its2).toArray := by simp
  rw [ea]
  exact ⟨.ref _, _, I.lnew (t' := s.toks) (r.append r2) (by rw [List.length_append]; omega), rfl, q _ I.fresh⟩
/-- a list times an int (a negative one is nothing) -/
def rRep : R2 := fun x y H Q => ∃ l k xs, x = .ref l ∧ y = .int k ∧ H l = some (.lst xs) ∧ -(2 ^ 63) ≤ k ∧ k < 2 ^ 63 ∧ xs.length * k.toNat ≤ sizeLine ∧
  ∀ p, H p = none → Q (.ref p) (upd H p (.lst (List.replicate k.toNat xs).flatten))
theorem len_rep {α : Type} (xs : List α) (k : Nat) : (List.replicate k xs).flatten.length = k * xs.length := by
  induction k with
  | zero => simp
  | succ k ih => rw [List.replicate_succ, List.flatten_cons, List.length_append, ih, Nat.succ_mul, Nat.add_comm]
theorem op_rep : OpR X (binaryOp .Mult) rRep := by
  intro pins s σ H x y v u Q I rx ry h
  obtain ⟨l, k, xs, rfl, rfl, hH, h1, h2, hz, q⟩ := h
  cases rx
  obtain ⟨t, rfl⟩ := ry
  obtain ⟨z, its, n, r, hl, e⟩ := I.lstM hH
  have hlen : its.toArray.size * k.toNat ≤ sizeLine := by rw [List.size_toArray, ← hl]; exact hz
  have hcap : ¬ its.toArray.size * k.toNat > (2 ^ 63 - 1) / 8 := by
    have : (sizeLine : Nat) ≤ (2 ^ 63 - 1) / 8 := by decide
    omega
  have hfit : ¬ (!Builtin.List.listFitsIndex k) = true := by
    rw [fitsIndex_both h1 h2]
    exact Bool.false_ne_true
  have hlong : ¬ Builtin.List.listTooLong (its.toArray.size * k.toNat) = true := by
    rw [notLongL hlen]
    exact Bool.false_ne_true
  have hnew : List.foldl (fun x1 x2 => x1 ++ x2) #[] (List.replicate (if its.toArray.isEmpty = true then 0 else k.toNat) its.toArray) = (List.replicate k.toNat its).flatten.toArray := by
    have f0 : ∀ m : Nat, List.foldl (fun x1 x2 => x1 ++ x2) #[] (List.replicate m its.toArray) = (List.replicate m its).flatten.toArray := fun m => by
      have := foldl_rep its m []
      rw [List.nil_append] at this
      exact this
    rw [f0]
    cases its with
    | nil => simp
    | cons a r' => rw [if_neg (by simp)]
  refine wpAny_binaryOp_repeat_ref (T := "list") (U := "int") (by decide) ⟨_, e, rfl⟩ (fun s' => typeIs_int s' k t) noFill_list_mul F.fills_int_mul F.slot_int_rmul repeat_list F.slot_int_index.lookup
    (call_meets F.slot_int_rmul (typeIs_int s k t) F.entry_int_rmul (F.args_int_rmul_2 _ _) (int___rmul___int_list k t l its.toArray n)
      ⟨e, rfl, ⟨_, e, rfl⟩, call_meets F.slot_list_mul ⟨_, e, rfl⟩ F.entry_list_mul (F.args_list_mul_2 _ _) (AutoListH.list___mul___list_int_3 l its.toArray n k t hfit hcap hlong) ⟨e, ?_⟩⟩)
  rw [hnew]
  exact ⟨.ref _, _, I.lnew (t' := s.toks) (r.rep k.toNat) (by rw [len_rep, Nat.mul_comm]; exact hz), rfl, q _ I.fresh⟩

/-! ### del xs[i] -/
end

/-! ### xs[a:b] = ys -/
section
variable {prog : Program} {w : World} {A : Around} {E : Value → Shared → Prop} {s : Shared}
end

section
variable {X : Cx}
end
end L2

namespace Att
open PySem PySem.W PySem.Calls PyProof.Rows

/-! ### the script -/
theorem ints_of_wellAll {P : Params} {h : Heap} : ∀ (ns : List Int) (vs : List Value), WellAll P h vs (ns.map WData.int) → IntsAre vs ns := by
  intro ns
  induction ns with
  | nil =>
    intro vs w
    rw [List.map_nil] at w
    cases w
    exact .nil
  | cons n ns ih =>
    intro vs w
    rw [List.map_cons] at w
    cases w with
    | cons a b =>
      cases a
      exact .cons _ _ (ih _ b)

theorem script_of {l : OpenLaw} {n : Nat} (hn : l.most = some n) {P : Params} {h : Heap} {args : List WData} {vals : List Value}
    (hpre : l.row.toRowW.claim.pre args = true) (hwl : WellAll P h vals args) :
    ∃ a vs ns, vals = [Value.ref a] ∧ args = [WData.list (ns.map WData.int)] ∧ h.get? a = some { cls := .type "list", data := .seq vs.toArray } ∧ IntsAre vs ns ∧ ns.length ≤ n := by
  have hsh : WShape.hasAll [] args [.list .int] = true := (pre_splitW hpre).1
  have hc : l.pre.holds [] { args := args } = true := (pre_splitW hpre).2
  obtain ⟨d, r, rfl, h1, h2⟩ := hasAllW_cons hsh
  obtain rfl := hasAllW_nil h2
  obtain ⟨xs, rfl, h3⟩ := hasW_list h1
  obtain ⟨ns, rfl⟩ := items_int h3
  have hlen : ns.length ≤ n := by
    unfold OpenLaw.pre at hc
    have h4 : (WTm.not (.lt (.lit (.int (n : Int))) (.len (.arg 0)))).holds [] { args := [.list (ns.map .int)] } = true := by
      have h4 := (holds_andW hc).1
      rw [hn] at h4
      exact h4
    have h5 := condW_of h4 (w_not (w_lt w_lit (w_len_list (w_arg rfl))))
    rw [List.length_map] at h5
    refine Nat.le_of_not_lt fun q => ?_
    have q' : (n : Int) < ((ns.length : Nat) : Int) := by omega
    first
      | (rw [decide_eq_true q'] at h5; exact absurd h5 (by decide))
      | (simp at h5; omega)
  cases hwl with
  | cons w1 w2 =>
    cases w2
    cases w1 with
    | list ho hall => exact ⟨_, _, ns, rfl, rfl, ho, ints_of_wellAll ns _ hall, hlen⟩

theorem post_true (l : OpenLaw) (args : List WData) : l.row.toRowW.claim.post args (.bool true) args = true :=
  postW_of (r := l.row.toRowW) (X := (true == true))
    (show WShape.has [] (.bool true) .bool = true by first | rfl | decide | simp [WShape.has, WShape.arms, WShape.armsAll])
    (show (WTm.eq .res (.lit (.bool true))).value [] { args := args, res := some (.bool true), after := args } = some (.bool (true == true)) from w_eq_bool (w_res rfl) w_lit) rfl

/-! ### the attachment: holds_open's last premise (the goal 'hc' behind k_head) from a wpAny of the law's body -/
/-- the same from a codeAny of the CALL (for a layer whose function contracts speak of calls) -/
theorem attach_call {l : OpenLaw} {n : Nat} {q : Program} {loose : List Str} {XP : (Str → Option Value) → Heap → Prop} {YP : World → Heap → Prop} {d : DefRec}
    (hn : l.most = some n) (hdf : d.params.defaults = [])
    (call : ∀ (w : World) (s₀ s₁ : Shared) (mg mb : Str → Option Value) (fa : Addr) (o : Obj) (pm cd doc : Value) (a : Addr) (vs : List Value) (ns : List Int),
      Ground q loose [] XP w s₀ mg mb s₁.heap → YP w s₁.heap →
      s₁.heap.get? fa = some o → o.data = .func (docDef d.name d.params d.body d.scope pm cd doc) → s₁.heap.CodeRec cd d.name → mg d.name = some (.ref fa) →
      s₁.heap.get? a = some { cls := .type "list", data := .seq vs.toArray } → IntsAre vs ns → ns.length ≤ n → s₁.gens = #[] →
      codeAny (model l.prog w) callerA (.call (.ref fa) ⟨[.ref a], []⟩) (fun r s' => r = .ok (.ret (.bool true)) ∧ OldK s₁.heap s'.heap ∧ s'.os = s₁.os ∧ AllBare s'.gens) s₁) :
    WalkO q loose XP YP l.row.toRowW d [] (fun f vs => PySem.call f vs) := by
  intro w s₀ s₁ mg mb G Y fa o pm cd doc dV kV ho hd hcd hD hmg hg args vals as hpre hlay hrd hwl hlo
  obtain rfl : dV = .none := Dflts.none hD hdf
  obtain rfl : kV = .none := Dflts.noKw hD
  obtain ⟨a, vs, ns, rfl, rfl, hobj, hints, hlen⟩ := script_of hn hpre hwl
  refine enter_call (codeAny_mono (call w s₀ s₁ mg mb fa o pm cd doc a vs ns G Y ho (fd_plain hd) hcd hmg hobj hints hlen hg) fun r s' hq => ?_)
  obtain ⟨rfl, h2, h3, h4⟩ := hq
  exact ⟨.inl ⟨.bool true, .bool true, [], rfl, fun _ => rfl, .bool true, post_true l _, fun _ => ⟨List.Pairwise.nil, fun _ hm => (nomatch hm)⟩⟩, h2, h3, h4⟩

/-! ### rules over ANY heap (no ledger) from facts about the written part K: the library's own take a ledger (News) for what they write -/
section
variable {prog : Program} {w : World} {A : Around} {E : Value → Shared → Prop} {s : Shared} {K : Frag}

/-! the whole heap as the ledger: makes every rule that writes through a ledger a rule over any heap -/
def ledger (h : Heap) (L d : Addr) : List (Addr × Obj) := (List.range h.objs.size).filterMap fun a => if a = L ∨ a = d then none else (h.get? a).map fun o => (a, o)
end
end Att

namespace L2
open PySem PySem.Spec PyProof.Rows

theorem vals_ints : ∀ {vs : List Value} {ns : List Int}, IntsAre vs ns → Vals (ns.map V.int) vs
  | _, _, .nil => .nil
  | _, _, .cons n t h => .cons ⟨t, rfl⟩ (vals_ints h)

/-- nothing is tracked but the script, known to the object (or it is an object of the module) -/
def Only (H : Hp) : Prop := ∀ b, H b = none ∨ ∃ o xs, H b = some (.frz o (.lst xs))

/-- THE HEAD: the law's promise, at the heap behind the top. F, the promise of the law's def, may use that base is part of the heap (so K.In base, base.Ns mainGlobals mg stand in Mod) -/
theorem law_call {P : Program} {w : World} {K : PySem.W.Frag} {mg mb : Str → Option Value} {CX : CXT} {k : Nat} {fa a : Addr} {fd : FuncData} {x : Str} {sp : Sp} {s₁ : Shared} {vs : List Value} {ns : List Int}
    (KX : K.In s₁.heap) (hns : s₁.heap.Ns mainGlobals mg) (hb : s₁.heap.Ns builtinsNs mb) (hbb : ∀ x : Str, x ≠ "__name__" → mb x = bootBuiltins x) (hlim : s₁.heap.NoLimit) (hg : s₁.gens = #[])
    (ha : s₁.heap.get? a = some { cls := .type "list", data := .seq vs.toArray }) (hi : IntsAre vs ns) (hl : ns.length ≤ sizeLine) (hr : Room k callerA)
    (F : ∀ base : Heap, K.In base → base.Ns mainGlobals mg → FnOk P w K mg base CX k fa fd [x] sp) (hbind : ∀ (s : Shared) (u : Value), BindsTo s fd ⟨[u], []⟩ [(x, u)])
    (hsp : ∀ H : Hp, Only H → SqL K H a (ns.map V.int) → sp [.ref a] H (fun v _ => v = .bl true) fun _ _ _ => False)
    (hCX : ∀ H e s', CX [] H s₁ (fun _ _ _ => False) e s' → False) :
    codeAny (model P w) callerA (.call (.ref fa) ⟨[.ref a], []⟩) (fun r s' => r = .ok (.ret (.bool true)) ∧ OldK s₁.heap s'.heap ∧ s'.os = s₁.os ∧ AllBare s'.gens) s₁ := by
  have rv := vals_ints hi
  have lenV := hi.length
  -- from an abstract heap in which nothing but the script may be tracked
  have core : ∀ H : Hp, Only H → SqL K H a (ns.map V.int) → HOk P w H s₁.heap → (∀ b, H b ≠ none → b = a) → (H a ≠ none → K.lookup a = none) →
      codeAny (model P w) callerA (.call (.ref fa) ⟨[.ref a], []⟩) (fun r s' => r = .ok (.ret (.bool true)) ∧ OldK s₁.heap s'.heap ∧ s'.os = s₁.os ∧ AllBare s'.gens) s₁ := by
    intro H hO hS hok hA hK
    have base_of : ∀ {b : Addr} {o : Obj}, s₁.heap.get? b = some o → H b = none → (hidT s₁.heap H).get? b = some o := fun e n => hidT_get e n
    have noA : ∀ {b : Addr} {o : Obj} {es : Array DictEntry} {ep : Nat}, s₁.heap.get? b = some o → o.data = .dict es ep → H b = none := fun {b o es ep} e d => by
      cases q : H b with
      | none => rfl
      | some u =>
        have e' : b = a := hA b (by rw [q]; simp)
        subst e'
        rw [ha] at e; cases e
        have d' : Data.seq vs.toArray _ = Data.dict es ep := d
        cases d'
    have nsK : ∀ {b : Addr} {m : Str → Option Value}, s₁.heap.Ns b m → (hidT s₁.heap H).Ns b m := fun {b m} ⟨o, es, ep, e, d, r⟩ => ⟨o, es, ep, base_of e (noA e d), d, r⟩
    have hKb : K.In (hidT s₁.heap H) := fun b o e => base_of (KX b o e) (by
      cases q : H b with
      | none => rfl
      | some u =>
        have e' : b = a := hA b (by rw [q]; simp)
        subst e'
        rw [hK (by rw [q]; simp)] at e; cases e)
    have hM : Mod K mg (hidT s₁.heap H) := ⟨hKb, nsK hns, ⟨mb, nsK hb, hbb⟩, let ⟨mc, h1, h2⟩ := hlim; ⟨mc, nsK h1, h2⟩⟩
    have e0 : Env0 P w K mg (hidT s₁.heap H) callerA [] s₁ H := ⟨rfl, hM, fun b o e => of_hidT e, Nat.le_of_eq (hidT_size _ _), trivial, fun b hb => absurd (show b ∈ ([] : List Addr) from hb) (by simp), hok, .of_eq hg⟩
    refine codeAny_mono ((F _ hKb (nsK hns)).run callerA [] s₁ H ⟨[.ref a], []⟩ [.ref a] [.ref a] _ _ hr e0 (hbind s₁ (.ref a)) (.cons rfl .nil) (hsp H hO hS)) fun r s' h => ?_
    cases r with
    | error e => exact (hCX H e s' h).elim
    | ok fl =>
      cases fl with
      | next => exact False.elim h
      | brk => exact False.elim h
      | cont => exact False.elim h
      | ret u =>
        obtain ⟨v, H', os, bare, un, hok', r', q⟩ := h
        have q' : v = .bl true := q
        subst q'
        obtain rfl : u = Value.bool true := r'
        refine ⟨rfl, OldK.of_keep fun b o e => ?_, os, bare⟩
        cases q : H b with
        | none => exact un.keep b o e q (by intro z; exact absurd (show b ∈ ([] : List Addr) from z) (by simp)) (by simp)
        | some u =>
          rcases hO b with z | ⟨ob, xs, z⟩
          · rw [q] at z; cases z
          · have z2 := un.frzs b ob _ z
            obtain ⟨e1, _⟩ := hok b _ z
            obtain ⟨e2, _⟩ := hok' b _ z2
            rw [e] at e1; cases e1
            exact e2
  cases hk : K.lookup a with
  | some o =>
    -- the script is one of the module's own objects
    have e := KX a o hk
    rw [ha] at e
    cases e
    refine core (fun _ => none) (fun _ => .inl rfl) (.inr ⟨_, vs.toArray, _, hk, rfl, rfl, rfl, by rw [List.size_toArray, lenV]; exact hl, by simpa using rv⟩) (fun b u z => by have z' : (none : Option HO) = some u := z; cases z') (fun b z => absurd rfl z) fun z => absurd rfl z
  | none =>
    refine core (fun b => if b = a then some (.frz { cls := .type "list", data := .seq vs.toArray } (.lst (ns.map V.int))) else none) (fun b => ?_) (.inl (.inr ⟨{ cls := .type "list", data := .seq vs.toArray }, if_pos rfl⟩)) (fun b u z => ?_) (fun b z => ?_) fun _ => hk
    · by_cases hb : b = a
      · exact .inr ⟨_, _, if_pos hb⟩
      · exact .inl (if_neg hb)
    · by_cases hb : b = a
      · have z' := (if_pos hb).symm.trans z
        cases z'
        subst hb
        exact ⟨ha, by rw [List.length_map]; exact hl, vs, _, rv, ha⟩
      · have z' := (if_neg hb).symm.trans z
        cases z'
    · by_cases hb : b = a
      · exact hb
      · exact absurd (if_neg hb) z
end L2

namespace L2
open PySem PySem.Spec PyProof.Rows

abbrev KOf {K : PySem.W.Frag} {h : Heap} (_ : K.In h) : PySem.W.Frag := K

/-- the goal that k_head leaves (case hc), from the law's promise. F gives the function object fd (K's own) once, then the promise over every base -/
theorem walk_of {l : PySem.W.OpenLaw} {n k : Nat} {q : Program} {loose : List Str} {XP : (Str → Option Value) → Heap → Prop} {YP : World → Heap → Prop} {d : DefRec} {K : Params → PySem.W.Frag} {CX : World → CXT} {sp : World → Sp} {x : Str}
    (hn : l.most = some n) (hn2 : n ≤ sizeLine) (hdf : d.params.defaults = []) (hr : Room k callerA)
    (hY : ∀ (w : World) (h : Heap), YP w h → (K w.params).In h)
    (F : ∀ (w : World) (mg : Str → Option Value) (fa : Addr) (h : Heap), (K w.params).In h → h.Ns mainGlobals mg → mg d.name = some (.ref fa) →
      ∃ fd : FuncData, (∀ (s : Shared) (u : Value), BindsTo s fd ⟨[u], []⟩ [(x, u)]) ∧
        ∀ base : Heap, (K w.params).In base → base.Ns mainGlobals mg → FnOk l.prog w (K w.params) mg base (CX w) k fa fd [x] (sp w))
    (hsp : ∀ (w : World) (H : Hp) (a : Addr) (ns : List Int), ns.length ≤ n → Only H → SqL (K w.params) H a (ns.map V.int) → sp w [.ref a] H (fun v _ => v = .bl true) fun _ _ _ => False)
    (hCX : ∀ (w : World) (H : Hp) (s : Shared) (e : Value) (s' : Shared), CX w [] H s (fun _ _ _ => False) e s' → False) :
    PySem.W.WalkO q loose XP YP l.row.toRowW d [] (fun f vs => PySem.call f vs) := by
  refine Att.attach_call hn hdf fun w s₀ s₁ mg mb fa o pm cd doc a vs ns G Y ho hd hcd hmg hobj hints hlen hg => ?_
  have KX := hY w _ Y
  obtain ⟨fd, hb, hF⟩ := F w mg fa _ KX G.T.g hmg
  exact law_call KX G.T.g G.T.b G.T.builtins G.T.nolimit hg hobj hints (Nat.le_trans hlen hn2) hr hF hb (fun H hO hS => hsp w H a ns hlen hO hS) fun H e s' => hCX w H s₁ e s'
end L2

/- THE LAST THEOREM (shape; LID, My.* are yours):
   My.Adr: a structure of the addresses that your layer names (classes, functions); My.Txt K t: a structure (Prop) of the equations over K;
   My.txt_mk : {K} {implicit addresses ..} (e1 : nsIn K mainGlobals "law" = some (some (.ref f))) (e2 : K.lookup f = some ⟨oc, od, .func (fnOf "law" "law" params body scope dV kV doc pm an cdv ct), sl⟩) (e3 : codeIn K cdv "law" = true) .. : ∃ t, My.Txt K t

set_option maxRecDepth 100000 in
set_option maxHeartbeats 0 in
theorem PySem.Challenge.cw_LID_holds : PySem.Challenge.rw_LID.Holds := by
  w_on; o_law; k_head; (case hw => w_witness2)
  k_fill
  refine L2.walk_of (l := PySem.Challenge.rw_LID) (n := 63) (k := 40) (x := "script") (CX := fun w => ..) (sp := fun _ => My.sp_law) rfl (by decide) rfl ⟨rfl, by decide, by decide⟩ (fun w h Y => PySem.W.kIn_of Y) ?F ?S ?C
  case F =>
    intro w mg fa h KX G hmg
    have T : ∃ t, My.Txt (L2.KOf KX) t := by
      dsimp only [L2.KOf]                          -- K must stand as «<heap const> w.params» for k_is
      refine' My.txt_mk ?e1 ?e2 ?e3 ..
      (case e1 => PySem.W.k_is)                    -- in the order: a name -> its address -> its object -> its parts
      (case e2 => PySem.W.k_is)
      ..
    obtain ⟨t, T⟩ := T
    have e0 := hmg.symm.trans (PySem.W.mg_of KX G T.law)
    cases e0                                       -- fa is the law's own address
    exact ⟨_, fun s u => .of_eq rfl, fun base kb nb => My.law_fn T kb nb⟩     -- if «.of_eq rfl» comes too early: refine' ⟨_, ?b, fun base kb nb => My.law_fn T kb nb⟩; exact fun s u => .of_eq rfl
  case S => exact fun w H a ns hl hO hS => ..
  case C => exact ..
(the tactic k_is has no namespace: write k_is) -/

/-! SHORT WORDS over the layer: a def of the text, its body, what a loop and a test want. -/
namespace L2
open PySem PySem.Spec PyProof.Rows

/-! ### the text by places -/
/-- the j-th statement of a class's body -/
def inClass (s : Stmt) (j : Nat) : Stmt := match s with
  | .ClassDef _ _ _ body _ _ _ _ _ _ _ => body.getD j (.Pass ⟨0, 0, 0, 0⟩)
  | _ => .Pass ⟨0, 0, 0, 0⟩
def defArgs (s : Stmt) : Arguments := match s with
  | .FunctionDef _ a _ _ _ _ _ _ _ _ => a
  | _ => { posonlyargs := [], args := [], vararg := none, kwonlyargs := [], kw_defaults := [], kwarg := none, defaults := [] }
def defBody (s : Stmt) : List Stmt := match s with
  | .FunctionDef _ _ b _ _ _ _ _ _ _ => b
  | _ => []
def defScope (s : Stmt) : Scope := match s with
  | .FunctionDef _ _ _ _ _ _ sc _ _ _ => sc
  | _ => { kind := .function, names := [], isGenerator := false, isCoroutine := false }

/-! ### no exception leaves a def -/
abbrev CX0 : CXT := fun _ _ _ _ _ _ => False
abbrev E0 : XK := fun _ _ _ => False
theorem pass0 {X : Cx} : Passes CX0 X E0 := fun _ _ _ _ _ _ _ h => h.elim

/-! ### a def (or method) of the text as it stands behind the top -/
structure Fun (K : PySem.W.Frag) (x qual : Str) (st : Stmt) (f : Addr) (fd : FuncData) : Prop where
  ex : ∃ (oc : Value) (od : Option Addr) (kV doc pm : Value) (an : Option Addr) (cdv ct : Value) (osl : Array (Option Value)),
    fd = PySem.W.fnOf x qual (defArgs st) (defBody st) (defScope st) .none kV doc pm an cdv ct ∧ K.lookup f = some ⟨oc, od, .func fd, osl⟩ ∧ PySem.W.codeIn K cdv qual = true
  kp : PySem.W.keepIn K (.ref f) = true
section
variable {P : Program} {w : World} {K : PySem.W.Frag} {mg : Str → Option Value} {base : Heap}
/-- THE RULE for a def: its body as a term of rules, and the reading of that term -/
theorem Fun.ok {x qual : Str} {st : Stmt} {f : Addr} {fd : FuncData} {N ps : List Str} {k : Nat} {sp : Sp} (F : Fun K x qual st f fd) (S : FnScope N ps (defScope st)) (len : ∀ vs H Q E, sp vs H Q E → vs.length = ps.length)
    (hbody : ∀ (cdv : Value) (A : Around) (outer : List Env) (s : Shared) (H : Hp) (vs : List V) (Q : VK) (E : XK), Room k (A.deeper (envOfC qual (defScope st) s.heap.objs.size f cdv)) → sp vs H Q E →
      ∃ t, PSs (cxOf CX0 P w K mg base N qual (defScope st) f cdv A outer s H E).nox (defBody st) t ∧ t { nx := fun _ H' => Q .non H', rt := Q } (start N vs) H) : FnOk P w K mg base CX0 (k + 1) f fd ps sp := by
  obtain ⟨oc, od, kV, doc, pm, an, cdv, ct, osl, rfl, lk, hcd⟩ := F.ex
  refine fn_of lk hcd S len fun A outer s H vs Q E hr hsp => ?_
  obtain ⟨t, h, q⟩ := hbody cdv A outer s H vs Q E hr hsp
  exact ⟨t, h.nox, q⟩
/-- how its arguments bind (no defaults): h is «fun _ _ _ _ _ _ us hl => match us, hl with | [_, _], _ => rfl», one _ a parameter -/
theorem Fun.binds {x qual : Str} {st : Stmt} {f : Addr} {fd : FuncData} {ps : List Str} (F : Fun K x qual st f fd)
    (h : ∀ (kV doc pm : Value) (an : Option Addr) (cdv ct : Value) (us : List Value), us.length = ps.length → bindArgs (PySem.W.fnOf x qual (defArgs st) (defBody st) (defScope st) .none kV doc pm an cdv ct) ⟨us, []⟩ = pure (ps.zip us)) : Binds K fd ps [] := by
  obtain ⟨oc, od, kV, doc, pm, an, cdv, ct, osl, rfl, lk, hcd⟩ := F.ex
  exact .all (h kV doc pm an cdv ct)
theorem fun_mk {x qual : Str} {st : Stmt} {f : Addr} {oc : Value} {od an : Option Addr} {osl : Array (Option Value)} {kV doc pm cdv ct : Value} (l : K.lookup f = some ⟨oc, od, .func (PySem.W.fnOf x qual (defArgs st) (defBody st) (defScope st) .none kV doc pm an cdv ct), osl⟩)
    (c : PySem.W.codeIn K cdv qual = true) (k : PySem.W.keepIn K (.ref f) = true) : Fun K x qual st f (PySem.W.fnOf x qual (defArgs st) (defBody st) (defScope st) .none kV doc pm an cdv ct) := ⟨⟨oc, od, kV, doc, pm, an, cdv, ct, osl, rfl, l, c⟩, k⟩
end
/-! ### expressions in short: the name that stands in the i-th slot -/
section
variable {X : Cx}
theorem pv (i : Nat) {x : Str} {pos : Pos} (hN : X.N[i]? = some x := by rfl) (hv : Vis X.env.scope x := by first | exact Or.inl rfl | exact Or.inr (Or.inl rfl) | exact Or.inr (Or.inr rfl)) (hd : (x == ("__debug__" : Str)) = false := by decide)
    (hcd : (x == ("__classdict__" : Str)) = false := by decide) : PE X (.Name x pos) (tVar i) := pe_var hN hv hd hcd
end

/-! ### tests -/
theorem ite2 {c A B : Prop} [Decidable c] (h1 : c → A) (h2 : ¬ c → B) : if c then A else B := by
  by_cases h : c
  · rw [if_pos h]
    exact h1 h
  · rw [if_neg h]
    exact h2 h
/-! ### heaps -/
/-- all that was tracked is as it was -/
def Same (H H' : Hp) : Prop := ∀ b o, H b = some o → H' b = some o
theorem Same.refl (H : Hp) : Same H H := fun _ _ h => h
theorem Same.trans {H H1 H2 : Hp} (a : Same H H1) (b : Same H1 H2) : Same H H2 := fun c o h => b c o (a c o h)
theorem Same.free {H H' : Hp} (e : Same H H') {l : Addr} (h : H' l = Option.none) : H l = Option.none := by
  cases q : H l with
  | none => rfl
  | some o =>
    rw [e l o q] at h
    cases h
theorem Same.seq {K : PySem.W.Frag} {H H' : Hp} {a : Addr} {xs : List V} (e : Same H H') (h : SqL K H a xs) : SqL K H' a xs := by
  rcases h with (h | ⟨o, h⟩) | h
  · exact .inl (.inl (e _ _ h))
  · exact .inl (.inr ⟨o, e _ _ h⟩)
  · exact .inr h

end L2

namespace L2
open PySem PySem.Spec PyProof.Rows

/-! ### lists of pairs as tables -/
section
variable {κ : Type} [DecidableEq κ]
def valV (kvs : List (κ × V)) (k : κ) : Option V := (kvs.find? fun kv => decide (kv.1 = k)).map (·.2)
/-- in its place, or at the end -/
def putK (kvs : List (κ × V)) (k : κ) (v : V) : List (κ × V) :=
  if (kvs.any fun kv => decide (kv.1 = k)) = true then kvs.map (fun kv => if kv.1 = k then (kv.1, v) else kv) else kvs ++ [(k, v)]
def dropK (kvs : List (κ × V)) (k : κ) : List (κ × V) := kvs.filter fun kv => decide (kv.1 ≠ k)

theorem valV_pos {p : κ × V} {r : List (κ × V)} {k : κ} (e : p.1 = k) : valV (p :: r) k = some p.2 := by simp [valV, List.find?_cons, e]
theorem valV_neg {p : κ × V} {r : List (κ × V)} {k : κ} (e : ¬ p.1 = k) : valV (p :: r) k = valV r k := by simp [valV, List.find?_cons, e]
theorem valV_any (k : κ) : ∀ kvs : List (κ × V), (kvs.any fun kv => decide (kv.1 = k)) = (valV kvs k).isSome
  | [] => rfl
  | p :: r => by
    rw [List.any_cons]
    by_cases e : p.1 = k
    · simp only [valV_pos e, decide_eq_true e, Bool.true_or, Option.isSome_some]
    · rw [valV_neg e, decide_eq_false e, Bool.false_or]; exact valV_any k r
theorem RelO.isSome_eq {o : Option V} {u : Option Value} (r : RelO o u) : o.isSome = u.isSome := by
  cases o with
  | none => cases u with
    | none => rfl
    | some _ => exact (show False from r).elim
  | some _ => cases u with
    | none => exact (show False from r).elim
    | some _ => rfl
theorem RelO.getD {o : Option V} {u : Option Value} {d : V} {d' : Value} (r : RelO o u) (rd : RelV d d') : RelV (o.getD d) (u.getD d') := by
  cases o with
  | none => cases u with
    | none => exact rd
    | some _ => exact (show False from r).elim
  | some _ => cases u with
    | none => exact (show False from r).elim
    | some _ => exact r

/-- raw tables of the same keys -/
theorem KV.val {kvs : List (κ × V)} {vs : List (κ × Value)} (r : KV kvs vs) (k : κ) : RelO (valV kvs k) (valueAt vs k) := by
  unfold KV at r
  induction r with
  | nil => exact True.intro
  | @cons p q ps qs h t ih =>
    obtain ⟨h1, h2⟩ := h
    by_cases e : p.1 = k
    · have e' : q.1 = k := h1.symm.trans e
      have b : valueAt (q :: qs) k = some q.2 := by simp [valueAt, List.find?_cons, e']
      rw [valV_pos e, b]; exact h2
    · have e' : ¬ q.1 = k := fun z => e (h1.trans z)
      have b : valueAt (q :: qs) k = valueAt qs k := by simp [valueAt, List.find?_cons, e']
      rw [valV_neg e, b]; exact ih
theorem KV.any {kvs : List (κ × V)} {vs : List (κ × Value)} (r : KV kvs vs) (k : κ) : (kvs.any fun kv => decide (kv.1 = k)) = vs.any fun kv => decide (kv.1 = k) := by
  unfold KV at r
  induction r with
  | nil => rfl
  | cons h t ih => rw [List.any_cons, List.any_cons, ih, h.1]
theorem KV.repl {kvs : List (κ × V)} {vs : List (κ × Value)} (r : KV kvs vs) (k : κ) {y : V} {u : Value} (ry : RelV y u) :
    KV (kvs.map fun kv => if kv.1 = k then (kv.1, y) else kv) (vs.map fun kv => if kv.1 = k then (kv.1, u) else kv) := by
  unfold KV at r ⊢
  induction r with
  | nil => exact .nil
  | @cons p q ps qs h t ih =>
    rw [List.map_cons, List.map_cons]
    refine .cons ?_ ih
    obtain ⟨h1, h2⟩ := h
    by_cases e : p.1 = k
    · rw [if_pos e, if_pos (h1.symm.trans e)]; exact ⟨h1, ry⟩
    · rw [if_neg e, if_neg (fun z => e (h1.trans z))]; exact ⟨h1, h2⟩
theorem KV.put {kvs : List (κ × V)} {vs : List (κ × Value)} (r : KV kvs vs) (k : κ) {y : V} {u : Value} (ry : RelV y u) : KV (putK kvs k y) (stored vs k u) := by
  unfold putK stored
  rw [r.any k]
  by_cases e : (vs.any fun kv => decide (kv.1 = k)) = true
  · rw [if_pos e, if_pos e]; exact r.repl k ry
  · rw [if_neg e, if_neg e]; exact Paired.snoc r ⟨rfl, ry⟩
theorem KV.drop {kvs : List (κ × V)} {vs : List (κ × Value)} (r : KV kvs vs) (k : κ) : KV (dropK kvs k) (without vs k) := by
  unfold KV at r ⊢
  unfold dropK without
  induction r with
  | nil => exact .nil
  | @cons p q ps qs h t ih =>
    obtain ⟨h1, h2⟩ := h
    rw [List.filter_cons, List.filter_cons]
    by_cases e : p.1 = k
    · have a : ¬ decide (p.1 ≠ k) = true := by simp [e]
      have b : ¬ decide (q.1 ≠ k) = true := by simp [h1.symm.trans e]
      rw [if_neg a, if_neg b]; exact ih
    · have e' : ¬ q.1 = k := fun z => e (h1.trans z)
      have a : decide (p.1 ≠ k) = true := by simp [e]
      have b : decide (q.1 ≠ k) = true := by simp [e']
      rw [if_pos a, if_pos b]; exact .cons ⟨h1, h2⟩ ih
theorem KV.keys {kvs : List (κ × V)} {vs : List (κ × Value)} (r : KV kvs vs) : kvs.map (·.1) = vs.map (·.1) := by
  unfold KV at r
  induction r with
  | nil => rfl
  | cons h t ih => rw [List.map_cons, List.map_cons, ih, h.1]
theorem KV.length {kvs : List (κ × V)} {vs : List (κ × Value)} (r : KV kvs vs) : kvs.length = vs.length := Paired.length r
end


/-! ### a tracked dict, its keys ints and texts or tuples of these -/
theorem kV_is {P : Program} {w : World} {k : Key} {u : Value} (r : RelV (kV k) u) : (mixKind P w).is k u = true := by
  cases k with
  | inl i => obtain ⟨t, e⟩ := (show ∃ t, u = Value.int i t from r); subst e; exact mixKind_int P w i t
  | inr x => obtain ⟨t, e⟩ := (show ∃ t, u = Value.str x t from r); subst e; exact mixKind_str P w x t
/-- raw entries of a dict with tuple keys -/
abbrev KT (H : Hp) : List (List Key × V) → List (List Key × Addr × Value) → Prop := Paired fun p q => p.1 = q.1 ∧ H q.2.1 = some (.tup (p.1.map kV)) ∧ RelV p.2 q.2.2
theorem KT.val {H : Hp} {kvs : List (List Key × V)} {xs : List (List Key × Addr × Value)} (r : KT H kvs xs) (k : List Key) : RelO (valV kvs k) ((atKey xs k).map (·.2)) := by
  induction r with
  | nil => exact True.intro
  | @cons p q ps qs h t ih =>
    obtain ⟨h1, _, h2⟩ := h
    by_cases e : p.1 = k
    · have e' : q.1 = k := h1.symm.trans e
      have b : atKey (q :: qs) k = some q.2 := by simp [atKey, List.find?_cons, e']
      rw [valV_pos e, b]; exact h2
    · have e' : ¬ q.1 = k := fun z => e (h1.trans z)
      have b : atKey (q :: qs) k = atKey qs k := by simp [atKey, List.find?_cons, e']
      rw [valV_neg e, b]; exact ih
theorem KT.repl {H : Hp} {kvs : List (List Key × V)} {xs : List (List Key × Addr × Value)} (r : KT H kvs xs) (k : List Key) {y : V} {u : Value} (ry : RelV y u) :
    KT H (kvs.map fun kv => if kv.1 = k then (kv.1, y) else kv) (xs.map (putAt k u)) := by
  induction r with
  | nil => exact .nil
  | @cons p q ps qs h t ih =>
    rw [List.map_cons, List.map_cons]
    refine .cons ?_ ih
    obtain ⟨h1, h2, h3⟩ := h
    unfold putAt
    by_cases e : p.1 = k
    · rw [if_pos e, if_pos (h1.symm.trans e)]; exact ⟨h1, h2, ry⟩
    · rw [if_neg e, if_neg (fun z => e (h1.trans z))]; exact ⟨h1, h2, h3⟩
theorem KT.put {H : Hp} {kvs : List (List Key × V)} {xs : List (List Key × Addr × Value)} (r : KT H kvs xs) (k : List Key) {b : Addr} {y : V} {u : Value} (hb : H b = some (.tup (k.map kV))) (ry : RelV y u) :
    KT H (putK kvs k y) (storedH xs k b u) := by
  have e : (kvs.any fun kv => decide (kv.1 = k)) = (atKey xs k).isSome := by
    rw [valV_any, (r.val k).isSome_eq, Option.isSome_map]
  unfold putK storedH
  rw [e]
  by_cases q : (atKey xs k).isSome = true
  · rw [if_pos q, if_pos q]; exact r.repl k ry
  · rw [if_neg q, if_neg q]; exact Paired.snoc r ⟨rfl, hb, ry⟩
theorem KT.keeps {H H' : Hp} {kvs : List (List Key × V)} {xs : List (List Key × Addr × Value)} (r : KT H kvs xs) (ht : ∀ b ys, H b = some (.tup ys) → H' b = some (.tup ys)) : KT H' kvs xs :=
  Paired.mapP r fun _ _ z => ⟨z.1, ht _ _ z.2.1, z.2.2⟩

section
variable {P : Program} {w : World} {H : Hp} {h : Heap} {a : Addr}
end

/-- what the dict at a holds at the key y -/
def DGet (H : Hp) (a : Addr) (y : V) (r : Option V) : Prop :=
  (∃ kvs k, Rd H a (.dK kvs) ∧ y = kV k ∧ r = valV kvs k) ∨ ∃ kvs k b, Rd H a (.dT kvs) ∧ y = .ref b ∧ H b = some (.tup (k.map kV)) ∧ r = valV kvs k
/-- the heap behind a[y] = v -/
def DPut (H : Hp) (a : Addr) (y v : V) (H' : Hp) : Prop :=
  (∃ kvs k, H a = some (.dK kvs) ∧ y = kV k ∧ kvs.length < sizeLine ∧ H' = upd H a (.dK (putK kvs k v))) ∨
  ∃ kvs k b, H a = some (.dT kvs) ∧ y = .ref b ∧ H b = some (.tup (k.map kV)) ∧ kvs.length < sizeLine ∧ H' = upd H a (.dT (putK kvs k v))
theorem DGet.k {H : Hp} {a : Addr} {kvs : List (Key × V)} {k : Key} (e : H a = some (.dK kvs)) : DGet H a (kV k) (valV kvs k) := .inl ⟨kvs, k, .inl e, rfl, rfl⟩
theorem DGet.t {H : Hp} {a b : Addr} {kvs : List (List Key × V)} {k : List Key} (e : H a = some (.dT kvs)) (eb : H b = some (.tup (k.map kV))) : DGet H a (.ref b) (valV kvs k) := .inr ⟨kvs, k, b, .inl e, rfl, eb, rfl⟩
theorem DPut.k {H : Hp} {a : Addr} {kvs : List (Key × V)} {k : Key} {v : V} (e : H a = some (.dK kvs)) (hl : kvs.length < sizeLine) : DPut H a (kV k) v (upd H a (.dK (putK kvs k v))) := .inl ⟨kvs, k, e, rfl, hl, rfl⟩
theorem DPut.t {H : Hp} {a b : Addr} {kvs : List (List Key × V)} {k : List Key} {v : V} (e : H a = some (.dT kvs)) (eb : H b = some (.tup (k.map kV))) (hl : kvs.length < sizeLine) :
    DPut H a (.ref b) v (upd H a (.dT (putK kvs k v))) := .inr ⟨kvs, k, b, e, rfl, eb, hl, rfl⟩


section
variable {X : Cx} {pins : List (Addr × Obj)} {σ : St} {H : Hp} {s : Shared} {a : Addr} {y v : V} {u r : Value} {o : Option V} {A : Around} {E : Value → Shared → Prop}

end

section
variable {X : Cx} {pins : List (Addr × Obj)} {σ : St} {H : Hp} {s : Shared} {a : Addr} {kvs : List (Key × V)} {k : Key} {u : Value} {A : Around} {E : Value → Shared → Prop}
end


/-! ### readings and rules -/
/-- d[y] -/
def tDGet (td ty : TE) : TE := fun σ H Q => td σ H fun x H1 => ty σ H1 fun y H2 => ∃ a v, x = .ref a ∧ DGet H2 a y (some v) ∧ Q v H2
/-- y in d, y not in d -/
def tDIn (ty td : TE) : TE := fun σ H Q => ty σ H fun y H1 => td σ H1 fun x H2 => ∃ a o, x = .ref a ∧ DGet H2 a y o ∧ Q (.bl o.isSome) H2
def tDNotIn (ty td : TE) : TE := fun σ H Q => ty σ H fun y H1 => td σ H1 fun x H2 => ∃ a o, x = .ref a ∧ DGet H2 a y o ∧ Q (.bl (!o.isSome)) H2
/-- d[y] = v -/
def sDPut (td ty tv : TE) : TS := fun D σ H => tv σ H fun v H1 => td σ H1 fun x H2 => ty σ H2 fun y H3 => ∃ a H4, x = .ref a ∧ DPut H3 a y v H4 ∧ D.nx σ H4
section
variable {X : Cx} {o i e value : Expr} {pos pos' tpos : Pos} {td ty tv : TE}
end


/-! ### displays -/
/-- {}, to be a dict of the kind that is wanted -/
def tDNewK : TE := fun _ H Q => ∀ p, H p = none → Q (.ref p) (upd H p (.dK []))
section
variable {X : Cx} {pos : Pos}
end

/-- the pairs of a display, from the left -/
def tPairs : List (TE × TE) → St → Hp → (List (V × V) → Hp → Prop) → Prop
  | [], _, H, Q => Q [] H
  | (tk, tv) :: r, σ, H, Q => tk σ H fun x H1 => tv σ H1 fun y H2 => tPairs r σ H2 fun ps H3 => Q ((x, y) :: ps) H3
def mergeK (kvs more : List (Key × V)) : List (Key × V) := more.foldl (fun acc kv => putK acc kv.1 kv.2) kvs
/-- {k: v, ..} with keys ints and texts; the new dict stands empty while the pairs are made -/
def tDisp (trs : List (TE × TE)) : TE := fun σ H Q => ∀ p, H p = none → tPairs trs σ (upd H p (.dK [])) fun ps H2 => H2 p = some (.dK []) ∧ ∃ kvs : List (Key × V), ps = kvs.map (fun kv => (kV kv.1, kv.2)) ∧ kvs.length ≤ 15 ∧ Q (.ref p) (upd H2 p (.dK (mergeK [] kvs)))
/-! ### methods -/
/-- a method call o.m(e) of a built-in, with one argument: what must be seen of the text -/
structure M1 (X : Cx) (o : Expr) (m : Str) (apos : Pos) (e : Expr) (cpos : Pos) : Prop where
  base : attributeBase o m X.env (eval o X.env) = eval o X.env
  few : ((backTo cpos (starEach [e] X.env)).all (fun x => !x.1) && (backToKw cpos (keywordEach [] X.env)).all (fun x => x.1.isSome)
    && decide (([e] : List Expr).length + ([] : List Keyword).length + (if ([] : List Keyword).isEmpty then 0 else 1) < 30)) = true
  line : (apos.endLine == cpos.line) = true
  trees : backTo cpos (starEach [e] X.env) = [(false, eval e X.env)]
structure M2 (X : Cx) (o : Expr) (m : Str) (apos : Pos) (e f : Expr) (cpos : Pos) : Prop where
  base : attributeBase o m X.env (eval o X.env) = eval o X.env
  few : ((backTo cpos (starEach [e, f] X.env)).all (fun x => !x.1) && (backToKw cpos (keywordEach [] X.env)).all (fun x => x.1.isSome)
    && decide (([e, f] : List Expr).length + ([] : List Keyword).length + (if ([] : List Keyword).isEmpty then 0 else 1) < 30)) = true
  line : (apos.endLine == cpos.line) = true
  trees : backTo cpos (starEach [e, f] X.env) = [(false, eval e X.env), (false, eval f X.env)]

section
variable {X : Cx} {pins : List (Addr × Obj)} {σ : St} {H : Hp} {s : Shared} {a : Addr} {y d : V} {u r : Value} {o : Option V} {A : Around} {E : Value → Shared → Prop}
end

section
variable {X : Cx} {o e f : Expr} {apos cpos : Pos} {td ty tx : TE}
end

/-! ### dict(d): a copy -/
section
variable {X : Cx} {pins : List (Addr × Obj)} {σ : St} {H : Hp} {s : Shared} {a : Addr} {kvs : List (Key × V)} {A : Around} {E : Value → Shared → Prop}
end


section
variable {X : Cx} {pins : List (Addr × Obj)} {σ : St} {H : Hp} {s : Shared} {a : Addr} {y : V} {u : Value} {A : Around} {E : Value → Shared → Prop}
end
end L2
namespace L2
open PySem PySem.Spec PyProof.Rows
/-! ### a dict's pairs: keys that differ -/
section
variable {κ : Type} [DecidableEq κ]
end
end L2
set_option Elab.async false
set_option linter.all false
set_option maxRecDepth 100000
set_option maxHeartbeats 4000000
namespace L2
open PySem PySem.Spec PyProof.Rows
/-! ### a list comprehension of one clause -/
def scOk (N : List Str) (ts : List Nat) (sc : Scope) (kind : Str → Option NameKind) : Bool :=
  sc.kind == .function && sc.names.all (fun y => y.2 != .cell && (y.2 != .local || sc.names.lookup y.1 == some .local) && (y.2 != .free || kind y.1 == some .cell || kind y.1 == some .free)) &&
    N.zipIdx.all (fun p => sc.names.lookup p.1 != some .local || ts.contains p.2)
def closOf (cells : List (Str × Addr)) : List (Str × NameKind) → List (Str × Addr) → List (Str × Addr)
  | [], acc => acc
  | (n, k) :: r, acc => closOf cells r (if k = .free then (n, (cells.lookup n).getD 0) :: acc else acc)
theorem clos_eq {env : Env} : ∀ (names : List (Str × NameKind)) (acc : List (Str × Addr)), (∀ y ∈ names, y.2 = .free → ∃ c, env.cells.lookup y.1 = some c) →
    (forIn names acc fun (x : Str × NameKind) (cs : List (Str × Addr)) => (match x with | (name, kind) => if (kind == NameKind.free) = true then (do let c ← cellOf env name; pure (ForInStep.yield ((name, c) :: cs))) else pure (ForInStep.yield cs) : Sem (ForInStep (List (Str × Addr))))) = pure (closOf env.cells names acc)
  | [], acc, _ => rfl
  | (n, k) :: r, acc, h => by
    rw [List.forIn_cons]
    by_cases hk : k = .free
    · subst hk
      obtain ⟨c, hc⟩ := h (n, .free) List.mem_cons_self rfl
      have e1 : cellOf env n = pure c := by unfold cellOf; rw [hc]
      simp only [beq_self_eq_true, if_true, e1, pure_bind]
      rw [clos_eq r _ fun y hy => h y (List.mem_cons_of_mem _ hy)]
      show _ = pure (closOf env.cells r (if NameKind.free = .free then _ else _))
      rw [if_pos rfl, hc]; rfl
    · have hb : (k == NameKind.free) = false := by simpa using hk
      simp only [hb, Bool.false_eq_true, if_false, pure_bind]
      rw [clos_eq r _ fun y hy => h y (List.mem_cons_of_mem _ hy)]
      show _ = pure (closOf env.cells r (if k = .free then _ else _))
      rw [if_neg hk]
theorem clos_look {cells : List (Str × Addr)} : ∀ (names : List (Str × NameKind)) (acc : List (Str × Addr)), (∀ y ∈ names, y.2 = .free → ∃ c, cells.lookup y.1 = some c) → (∀ x c, acc.lookup x = some c → cells.lookup x = some c) →
    (∀ x c, (closOf cells names acc).lookup x = some c → cells.lookup x = some c) ∧ (∀ x c, acc.lookup x = some c → ∃ c', (closOf cells names acc).lookup x = some c') ∧ ∀ y ∈ names, y.2 = .free → ∃ c, (closOf cells names acc).lookup y.1 = some c
  | [], acc, _, h2 => ⟨h2, fun x c e => ⟨c, e⟩, fun y hy => nomatch hy⟩
  | (n, k) :: r, acc, h1, h2 => by
    by_cases hk : k = .free
    · subst hk
      obtain ⟨c, hc⟩ := h1 (n, .free) List.mem_cons_self rfl
      have hc : cells.lookup n = some c := hc
      have e : closOf cells ((n, .free) :: r) acc = closOf cells r ((n, c) :: acc) := by
        show closOf cells r (if NameKind.free = .free then _ else _) = _
        rw [if_pos rfl, hc]; rfl
      rw [e]
      obtain ⟨q1, q2, q3⟩ := clos_look (cells := cells) r ((n, c) :: acc) (fun y hy => h1 y (List.mem_cons_of_mem _ hy)) (fun x c' e' => by
        rw [List.lookup_cons] at e'
        cases hx : x == n with
        | true => rw [hx] at e'; have : x = n := by simpa using hx
                  subst this; cases e'; exact hc
        | false => rw [hx] at e'; exact h2 x c' e')
      refine ⟨q1, fun x c' e' => ?_, fun y hy hf => ?_⟩
      · cases hx : x == n with
        | true => exact q2 x c (by rw [List.lookup_cons, hx])
        | false => exact q2 x c' (by rw [List.lookup_cons, hx]; exact e')
      · rcases List.mem_cons.mp hy with rfl | hy
        · exact q2 n c (by rw [List.lookup_cons, beq_self_eq_true])
        · exact q3 y hy hf
    · have e : closOf cells ((n, k) :: r) acc = closOf cells r acc := by
        show closOf cells r (if k = .free then _ else _) = _
        rw [if_neg hk]
      rw [e]
      obtain ⟨q1, q2, q3⟩ := clos_look (cells := cells) r acc (fun y hy => h1 y (List.mem_cons_of_mem _ hy)) h2
      refine ⟨q1, q2, fun y hy hf => ?_⟩
      rcases List.mem_cons.mp hy with rfl | hy
      · exact absurd hf hk
      · exact q3 y hy hf
theorem closure_ok {scope : Scope} {env : Env} (h : ∀ y ∈ scope.names, y.2 = .free → ∃ c, env.cells.lookup y.1 = some c) :
    ∃ cl, closureFor scope env = pure cl ∧ (∀ x c, cl.lookup x = some c → env.cells.lookup x = some c) ∧ ∀ y ∈ scope.names, y.2 = .free → ∃ c, cl.lookup y.1 = some c := by
  obtain ⟨q1, _, q3⟩ := clos_look (cells := env.cells) scope.names [] h (fun x c e => nomatch e)
  refine ⟨closOf env.cells scope.names [], ?_, q1, q3⟩
  unfold closureFor
  have := clos_eq (env := env) scope.names [] h
  first
    | exact this
    | (simp only [bind_pure]; exact this)
    | (refine Eq.trans ?_ this; simp)
theorem lookup_relab {env : Env} : ∀ {names : List (Str × NameKind)} {x : Str}, (names.map fun (n, k) => if (k == NameKind.free && env.scope.kind == .function && env.kindOf n == some .cell) then (n, NameKind.cell) else (n, k)).lookup x =
    (names.lookup x).map fun k => if (k == NameKind.free && env.scope.kind == .function && env.kindOf x == some .cell) then NameKind.cell else k
  | [], _ => rfl
  | (n, k) :: r, x => by
    have ih := @lookup_relab env r x
    rw [List.map_cons]
    cases hx : x == n with
    | true =>
      have e : x = n := by simpa using hx
      subst e
      rw [List.lookup_cons (as := r), beq_self_eq_true]
      show List.lookup x ((if (k == NameKind.free && env.scope.kind == .function && env.kindOf x == some .cell) = true then (x, NameKind.cell) else (x, k)) :: _) = some _
      by_cases hc : (k == NameKind.free && env.scope.kind == .function && env.kindOf x == some .cell) = true
      · rw [if_pos hc, List.lookup_cons, beq_self_eq_true]; dsimp only; rw [if_pos hc]
      · rw [if_neg hc, List.lookup_cons, beq_self_eq_true]; dsimp only; rw [if_neg hc]
    | false =>
      rw [List.lookup_cons (as := r), hx]
      show List.lookup x ((if (k == NameKind.free && env.scope.kind == .function && env.kindOf n == some .cell) = true then (n, NameKind.cell) else (n, k)) :: _) = _
      by_cases hc : (k == NameKind.free && env.scope.kind == .function && env.kindOf n == some .cell) = true
      · rw [if_pos hc, List.lookup_cons, hx]; exact ih
      · rw [if_neg hc, List.lookup_cons, hx]; exact ih
/-- the context of the block -/
abbrev cxC (X : Cx) (scope : Scope) (cl : List (Str × Addr)) (s : Shared) (H : Hp) (fp : List Addr) : Cx :=
  { X with s₀ := s, H₀ := H, env := compEnvC scope cl s.heap.objs.size X.env, outer := X.stack, ex := fp, fn := fun _ => false, pn := [], xe := fun _ _ => False }
def clr : List Nat → St → St
  | [], σ => σ
  | j :: r, σ => clr r (σ.set j none)
theorem clr_len : ∀ (ts : List Nat) (σ : St), (clr ts σ).length = σ.length
  | [], _ => rfl
  | j :: r, σ => by show (clr r (σ.set j none)).length = _; rw [clr_len r]; simp
theorem clr_some : ∀ (ts : List Nat) (σ : St) (i : Nat) (v : V), (clr ts σ)[i]? = some (some v) → i ∉ ts ∧ σ[i]? = some (some v)
  | [], _, _, _, h => ⟨by simp, h⟩
  | j :: r, σ, i, v, h => by
    obtain ⟨h1, h2⟩ := clr_some r (σ.set j none) i v h
    by_cases e : j = i
    · subst e
      rw [List.getElem?_set] at h2
      simp at h2
    · rw [List.getElem?_set_ne e] at h2
      exact ⟨by simp [h1, Ne.symm e], h2⟩
structure ScF (X : Cx) (ts : List Nat) (scope : Scope) : Prop where
  kind : scope.kind = .function
  cell : ∀ y ∈ scope.names, y.2 ≠ .cell
  loc : ∀ y ∈ scope.names, y.2 = .local → scope.names.lookup y.1 = some .local
  free : ∀ y ∈ scope.names, y.2 = .free → X.env.kindOf y.1 = some .cell ∨ X.env.kindOf y.1 = some .free
  ts : ∀ (i : Nat) x, X.N[i]? = some x → scope.names.lookup x = some .local → i ∈ ts
theorem scF_of {X : Cx} {ts : List Nat} {scope : Scope} (h : scOk X.N ts scope X.env.kindOf = true) : ScF X ts scope := by
  unfold scOk at h
  simp only [Bool.and_eq_true, List.all_eq_true, bne_iff_ne, ne_eq, Bool.or_eq_true, beq_iff_eq] at h
  obtain ⟨⟨h1, h2⟩, h3⟩ := h
  refine ⟨h1, fun y hy => (h2 y hy).1.1, fun y hy e => ?_, fun y hy e => ?_, fun i x e1 e2 => ?_⟩
  · rcases (h2 y hy).1.2 with z | z
    · exact absurd e z
    · exact z
  · rcases (h2 y hy).2 with (z | z) | z
    · exact absurd e z
    · exact .inl z
    · exact .inr z
  · have hm : (x, i) ∈ X.N.zipIdx := by
      rw [List.mem_zipIdx_iff_getElem?]; exact e1
    rcases h3 _ hm with z | z
    · exact absurd e2 z
    · simpa using z
section
variable {X : Cx} {ts : List Nat} {scope : Scope} {pins : List (Addr × Obj)} {σ : St} {H : Hp} {s : Shared} {fp : List Addr}
/-- the block's start -/
theorem comp_start (I : Inv X pins σ H s) (S : ScF X ts scope) (hf : ∀ b ∈ fp, FpOk X pins H b) (hfl : ∀ b ∈ fp, b < s.heap.objs.size) {cl : List (Str × Addr)} (c1 : ∀ x c, cl.lookup x = some c → X.env.cells.lookup x = some c)
    (c2 : ∀ y ∈ scope.names, y.2 = .free → ∃ c, cl.lookup y.1 = some c) {h1 : Heap} {t1 : Nat} (hns : h1.Ns s.heap.objs.size (fun x => ([] : List (Str × Value)).reverse.lookup x))
    (hk : ∀ b o, s.heap.get? b = some o → h1.get? b = some o) : Inv (cxC X scope cl s H fp) [] (clr ts σ) H { s with heap := h1, toks := t1 } := by
  have hlk : ∀ x, (relabel scope X.env).names.lookup x = (scope.names.lookup x).map fun k => if (k == NameKind.free && X.env.scope.kind == .function && X.env.kindOf x == some .cell) then NameKind.cell else k := fun x => lookup_relab
  have cfree : ∀ x, ((relabel scope X.env).names.lookup x = some .cell ∨ (relabel scope X.env).names.lookup x = some .free) → (x, NameKind.free) ∈ scope.names := fun x hx => by
    rw [hlk] at hx
    cases e : scope.names.lookup x with
    | none => rw [e] at hx; rcases hx with hx | hx <;> cases hx
    | some k =>
      have hm := mem_of_lookup_some e
      cases k with
      | free => exact hm
      | cell => exact absurd rfl (S.cell _ hm)
      | «local» => rw [e] at hx; rcases hx with hx | hx <;> cases hx
      | globalExplicit => rw [e] at hx; rcases hx with hx | hx <;> cases hx
      | globalImplicit => rw [e] at hx; rcases hx with hx | hx <;> cases hx
  have ccell : ∀ x c, cl.lookup x = some c → ∃ v, s.heap.IsCell c v := fun x c e => I.cell x c (c1 x c e)
  have fpne : ∀ b ∈ fp, b ∉ frs X.stack := fun b hb z => by
    obtain ⟨_, f1, f2, _⟩ := hf b hb
    rcases List.mem_cons.mp (I.stkSub b z) with e | e
    · exact f1 e
    · exact f2 e
  refine ⟨⟨I.ok.mod, S.kind, I.ok.glob, I.ok.blt, Nat.le_refl _, fun x y c e1 e2 => I.ok.inj x y c (c1 x c e1) (c1 y c e2), fun x hx => c2 (x, .free) (cfree x hx) rfl, (fun x c hx => nomatch hx), I.ok.hd, I.ok.frames, .inl rfl, fun b hb => ⟨Nat.ne_of_lt (hfl b hb), fun x c e => (hf b hb).2.2.2.2.1 x c (c1 x c e)⟩,
    I.bs, Nat.le_trans I.ok.bsz I.sz, fun b o e hb => ?_, fpne, I.stack, I.stkFree⟩, rfl, I.bare, Un.kept hk, ⟨_, hns, fun i x v e1 e2 e3 => ?_⟩, fun x c e => ?_, I.hok.fresh (Nat.le_refl _), fun x c e => I.freeC x c (c1 x c e), fun p hp => absurd hp (by simp), I.hok.kept hk, by rw [clr_len]; exact I.len⟩
  · rcases (hf b hb).2.2.2.1 with z | z
    · exact I.ok.noex b o e z
    · exact absurd (Nat.lt_of_lt_of_le (Heap.lt_size e) (Nat.le_trans I.ok.bsz z)) (Nat.lt_irrefl _)
  · obtain ⟨nt, e2⟩ := clr_some ts σ i v e2
    have e3' : (relabel scope X.env).names.lookup x = some .local ∨ (relabel scope X.env).names.lookup x = some .cell ∨ (relabel scope X.env).names.lookup x = some .free := e3
    rcases e3' with z | z
    · rw [hlk] at z
      cases e : scope.names.lookup x with
      | none => rw [e] at z; cases z
      | some k =>
        rw [e] at z
        have z' : (if (k == NameKind.free && X.env.scope.kind == .function && X.env.kindOf x == some .cell) = true then NameKind.cell else k) = .local := Option.some.inj z
        split at z'
        · cases z'
        · subst z'
          exact absurd (S.ts i x e1 e) nt
    · have hm := cfree x z
      obtain ⟨c, hc⟩ := c2 _ hm rfl
      obtain ⟨m, hn, hl⟩ := I.loc
      have vis : Vis X.env.scope x := by
        rcases S.free _ hm rfl with q | q
        · exact .inr (.inl q)
        · exact .inr (.inr q)
      obtain ⟨u, r, l⟩ := hl i x v e1 e2 vis
      refine ⟨u, r, .inr ⟨z, c, hc, ?_⟩⟩
      rcases l with ⟨q, _⟩ | ⟨_, c', hc', hcell⟩
      · rcases S.free _ hm rfl with q' | q'
        · rw [q'] at q; cases q
        · rw [q'] at q; cases q
      · rw [c1 x c hc] at hc'
        cases hc'
        obtain ⟨o, ho, hd⟩ := hcell
        exact ⟨o, hk _ _ ho, hd⟩
  · obtain ⟨v, o, ho, hd⟩ := ccell x c e
    exact ⟨v, o, hk _ _ ho, hd⟩
end
section
variable {prog : Program} {w : World} {A : Around} {R : Result → Shared → Prop} {s : Shared}
theorem codeAny_compLoop_go {elt target iter : Expr} {ifs : List Expr} {scope : Scope} {pos : Pos} {it acc : Value} {env : Env} (I : Nat → Shared → Prop)
    (turn : ∀ n s, I n s → wpAny (model prog w) A (pyNext it) (fun r s₁ => match r with
      | none => R (.ok .next) s₁
      | some v => wpAny (model prog w) A (letOwnedTupleGo target it v) (fun _ s₀ => wpAny (model prog w) A (assign target env v) (fun _ s₂ =>
          wpAny (model prog w) A (forIn ifs true fun c r => if r = true then do let ok ← isTrue c env (eval c env); pure (ForInStep.yield ok) else pure (ForInStep.yield r)) (fun ok s₃ =>
            if ok = true then wpAny (model prog w) A (eval elt env) (fun x s₄ =>
              wpAny (model prog w) A (call (.builtin "list.append") [acc, x]) (fun _ s₅ => ∃ m, m < n ∧ I m s₅) (fun _ _ => False) s₄) (fun _ _ => False) s₃
            else ∃ m, m < n ∧ I m s₃) (fun _ _ => False) s₂) (fun _ _ => False) s₀) (fun _ _ => False) s₁) (fun _ _ => False) s)
    (n : Nat) (h : I n s) :
    codeAny (model prog w) A (.compLoop (.ListComp elt [⟨target, iter, ifs, 0⟩] scope pos) 0 it acc env) R s := by
  refine codeAny_loop rfl I (fun n s hI => ?_) n h
  show wpAny _ A ((compTurn (.ListComp elt [⟨target, iter, ifs, 0⟩] scope pos) 0 it acc env).onRaise (fun x => do noteFrame x env; theTreesLotGoes x)) _ _ s
  refine wpAny_noted ?_
  rw [compTurn_list]
  refine wpAny_bind (wpAny_standAt (wpAny_bind (wpAny_mono (turn n s hI) (fun r s₁ h₁ => ?_) fun _ _ h' => h'.elim)))
  cases r with
  | none => exact wpAny_pure h₁
  | some v =>
    refine wpAny_bind (wpAny_mono h₁ (fun _ s₀ h₀ => ?_) fun _ _ h' => h'.elim)
    refine wpAny_bind (wpAny_mono h₀ (fun _ s₂ h₂ => wpAny_bind (wpAny_mono h₂ (fun ok s₃ h₃ => ?_) fun _ _ h' => h'.elim)) fun _ _ h' => h'.elim)
    cases ok with
    | false => exact wpAny_pure ⟨rfl, h₃⟩
    | true =>
      exact wpAny_bind (wpAny_bind (wpAny_mono h₃ (fun x s₄ h₄ => wpAny_bind (wpAny_mono h₄ (fun _ s₅ h₅ => wpAny_pure (wpAny_pure ⟨rfl, h₅⟩)) fun _ _ h' => h'.elim)) fun _ _ h' => h'.elim))
end
/-- the tests of a clause: none, or one -/
def tTrue : TT := fun _ H Q => Q true H
def PIf (X : Cx) (ifs : List Expr) (t : TT) : Prop :=
  ∀ (pins : List (Addr × Obj)) (s : Shared) (σ : St) (H : Hp) (Q : Bool → Hp → Prop), Inv X pins σ H s → t σ H Q →
    wpAny (model X.prog X.w) X.A (forIn ifs true fun c r => if r = true then do let ok ← isTrue c X.env (eval c X.env); pure (ForInStep.yield ok) else pure (ForInStep.yield r)) (TP X pins σ Q) X.xe s
theorem pif_nil {X : Cx} : PIf X [] tTrue := fun _ _ _ H _ I h => wpAny_tests_nil ⟨H, I, h⟩
theorem pif_one {X : Cx} {c : Expr} {t : TT} (h : PT X c t) : PIf X [c] t := fun pins s σ H Q I hq => wpAny_tests_one (h pins s σ H Q I hq)
/-- what a comprehension wants: D the new list; W the word by the turn and a measure, over the block's names and the heap -/
def tComp (ts : List Nat) (wi : TI) (g : TG) (tt : TT) (te : TE) : TE := fun σ H Q => wi σ H fun J H1 => ∀ D, H1 D = none → ∃ W : Nat → Nat → St → Hp → Prop, (∃ m, W 0 m (clr ts σ) (upd H1 D (.lst []))) ∧ ∀ i m τ H2, W i m τ H2 →
  (J.stop i H2 ∧ Q (.ref D) H2) ∨ (J.go i H2 ∧ ∃ N : St → Hp → Prop, (∀ τ' H', N τ' H' → ∃ m', m' < m ∧ W (i + 1) m' τ' H') ∧ ∀ x H', J.yld i H2 x H' → g x τ H' fun τ2 H3 => tt τ2 H3 fun b H4 =>
    if b = true then te τ2 H4 fun v H5 => ∃ ys, H5 D = some (.lst ys) ∧ ys.length < sizeLine ∧ N τ2 (upd H5 D (.lst (ys ++ [v]))) else N τ2 H4)
section
variable {X : Cx} {ts : List Nat} {scope : Scope} {tg iter elt : Expr} {ifs : List Expr} {wi : TI} {g : TG} {tt : TT} {te : TE} {pos : Pos}
/-- the block runs; behind it the outer state and the new list -/
theorem comp_run (hc : X.calm = true) (hsc : scOk X.N ts scope X.env.kindOf = true) (hi : PI X tg iter wi) (hg : ∀ cl s H fp, PG (cxC X scope cl s H fp) tg g) (ht : ∀ cl s H fp, PIf (cxC X scope cl s H fp) ifs tt) (he : ∀ cl s H fp, PE (cxC X scope cl s H fp) elt te)
    {pins : List (Addr × Obj)} {s : Shared} {σ : St} {H : Hp} {Q : VK} (I : Inv X pins σ H s) (h : tComp ts wi g tt te σ H Q) {use : Option (Value → Sem Unit)} {Q' : Value → Shared → Prop}
    (fin : ∀ (D C : Addr) (H' : Hp) (s' : Shared), Inv X pins σ H' s' → (∃ m, s'.heap.Ns C m) → H' C = none → C ≠ X.env.locals → (∀ x c, X.env.cells.lookup x = some c → c ≠ C) → X.s₀.heap.objs.size ≤ C → (∀ p ∈ X.pn ++ pins, p.1 ≠ C) → C ∉ X.fs → Q (.ref D) H' →
      compPost (model X.prog X.w) X.A X.xe use Q' (.ref D) C (.ok .next) s')
    (hs : ∀ x, foldedSetIterable iter X.env x = pure x) :
    wpAny (model X.prog X.w) X.A (comprehension (.ListComp elt [⟨tg, iter, ifs, 0⟩] scope pos) scope X.env (firstIterPos [⟨tg, iter, ifs, 0⟩] pos) (newList []) false (eval iter X.env) use) Q' X.xe s := by
  have S := scF_of hsc
  obtain ⟨cl, hcl, c1, c2⟩ := closure_ok (scope := scope) (env := X.env) fun y hy e => I.ok.has y.1 (S.free y hy e)
  refine wpAny_comprehension_free (use := use) rfl hs hcl S.kind S.loc ?_
  refine wpAny_mono (hi pins s σ H _ I h) (fun v s1 h1 => wpAny_mono h1 (fun itv s2 h2 => ?_) fun _ _ e => e) fun _ _ e => e
  obtain ⟨it, fp, tn, J, H2, e, I2, T, st2, f2, q2⟩ := h2
  subst e
  have hD : H2 s2.heap.objs.size = none := I2.hok.fresh (Nat.le_refl _)
  obtain ⟨W, ⟨m0, w0⟩, turn⟩ := q2 _ hD
  refine wpAny_newObj_type (wpAny_newFunctionEnv S.cell (by intro y hy; simp at hy) (fun h₁ hns₁ hsb₁ => ?_) S.kind)
  dsimp only at hns₁ hsb₁ ⊢
  generalize hh3 : s2.heap.push { cls := .type "list", dict := none, data := .seq ([] : List Value).toArray } = g3 at hns₁ hsb₁ ⊢
  have I3 : Inv X pins σ (upd H2 s2.heap.objs.size (.lst [])) { s2 with heap := g3 } := by
    rw [← hh3]
    exact I2.laid (t' := s2.toks) (fun b u e => Heap.get?_push_of_some _ e) (Nat.le_refl _) ⟨Nat.zero_le _, [], _, .nil, Heap.get?_push_size _ rfl⟩
  have st3 : tn 0 g3 := T.keep _ _ _ st2 fun b _ o e => by rw [← hh3]; exact Heap.get?_push_of_some _ e
  have lt2 : ∀ b ∈ fp, b < s2.heap.objs.size := fun b hb => by obtain ⟨o, e, _⟩ := T.obj _ _ st2 b hb; exact Heap.lt_size e
  have hsz3 : g3.objs.size = s2.heap.objs.size + 1 := by rw [← hh3, Heap.size_push]
  have f3 : ∀ b ∈ fp, FpOk X pins (upd H2 s2.heap.objs.size (.lst [])) b := fun b hb => ⟨by rw [upd_ne (Nat.ne_of_lt (lt2 b hb))]; exact (f2 b hb).1, (f2 b hb).2⟩
  have lt3 : ∀ b ∈ fp, b < g3.objs.size := fun b hb => by rw [hsz3]; exact Nat.lt_succ_of_lt (lt2 b hb)
  have old : ∀ b o, g3.get? b = some o → h₁.get? b = some o := fun b o e => hsb₁.extBut b o (Nat.ne_of_lt (Heap.lt_size e)) (Heap.get?_push_of_some _ e)
  have hns : h₁.Ns g3.objs.size (fun x => ([] : List (Str × Value)).reverse.lookup x) := hns₁
  have I4 : ∀ t, Inv (cxC X scope cl { s2 with heap := g3 } (upd H2 s2.heap.objs.size (.lst [])) fp) [] (clr ts σ) (upd H2 s2.heap.objs.size (.lst [])) { s2 with heap := h₁, toks := t } := fun t => comp_start I3 S f3 lt3 c1 c2 hns old
  have fpne : ∀ b ∈ fp, b ∉ frs X.stack := fun b hb z => by
    obtain ⟨_, f1, f2, _⟩ := f3 b hb
    rcases List.mem_cons.mp (I3.stkSub b z) with e | e
    · exact f1 e
    · exact f2 e
  have stat : ∀ {H' : Hp}, (∀ b ∈ fp, H' b = none) → ∀ b ∈ fp, FpOk (cxC X scope cl { s2 with heap := g3 } (upd H2 s2.heap.objs.size (.lst [])) fp) [] H' b := fun hn b hb =>
    ⟨hn b hb, Nat.ne_of_lt (lt3 b hb), fpne b hb, .inl hb, fun x c e => (f2 b hb).2.2.2.2.1 x c (c1 x c e), fun p hp => absurd hp (by simp)⟩
  have loop : ∀ t, codeAny (model X.prog X.w) X.A (.compLoop (.ListComp elt [⟨tg, iter, ifs, 0⟩] scope pos) 0 (.ref it) (.ref s2.heap.objs.size) (compEnvC scope cl g3.objs.size X.env))
      (compPost (model X.prog X.w) X.A X.xe use Q' (.ref s2.heap.objs.size) g3.objs.size) { s2 with heap := h₁, toks := t } := by
    intro t
    refine codeAny_compLoop_go (fun n s' => ∃ i τ H', Inv (cxC X scope cl { s2 with heap := g3 } (upd H2 s2.heap.objs.size (.lst [])) fp) [] τ H' s' ∧ tn i s'.heap ∧ (∀ b ∈ fp, H' b = none) ∧ W i n τ H') ?_ m0
      ⟨0, clr ts σ, _, I4 t, T.keep _ _ _ st3 fun b _ o e => old b o e, fun b hb => (f3 b hb).1, w0⟩
    rintro n s5 ⟨i, τ, H5, I5, st5, fr5, w5⟩
    rcases turn i n τ H5 w5 with ⟨stop, qn⟩ | ⟨go, N, hN, step⟩
    · refine thn (T.done (cxC X scope cl { s2 with heap := g3 } (upd H2 s2.heap.objs.size (.lst [])) fp) rfl rfl rfl hc i [] s5 τ H5 _ I5 (stat fr5) st5 stop) fun r s6 ⟨hr, I6⟩ => ?_
      subst hr
      have base : Un (frs X.stack) fp (upd H2 s2.heap.objs.size (.lst [])) H5 g3 s6.heap := I6.base
      have J6 : Inv X pins σ H5 s6 := I3.call' (ch := fp) I6.os base I6.hok I6.bare fun b hb => ⟨(f3 b hb).2.2.2.1, (f3 b hb).2.1, (f3 b hb).2.2.2.2.1, (f3 b hb).2.2.2.2.2⟩
      obtain ⟨m6, n6, _⟩ := I6.loc
      have hC : g3.get? g3.objs.size = none := Heap.get?_none_of_le (Nat.le_refl _)
      refine fin _ g3.objs.size H5 s6 J6 ⟨m6, n6⟩ I6.free (Nat.ne_of_gt I3.lt) (fun x c e z => ?_) I3.sz (fun p hp z => ?_) (I3.nofs (Nat.le_refl _)) qn
      · obtain ⟨v, q⟩ := I3.cell x c e
        exact absurd q.lt (by rw [z]; exact Nat.lt_irrefl _)
      · exact absurd (Heap.lt_size (I3.pin p hp).1) (by rw [z]; exact Nat.lt_irrefl _)
    · refine thn (T.item (cxC X scope cl { s2 with heap := g3 } (upd H2 s2.heap.objs.size (.lst [])) fp) rfl rfl rfl hc i [] s5 τ H5 _ I5 (stat fr5) st5 go) fun r s6 ⟨u, hr, h6⟩ => ?_
      subst hr
      refine thn h6 fun _ s7 ⟨x, H7, I7, r7, y7, st7, fr7⟩ => ?_
      have I7' := I7.pinned (stat fr7) (T.obj _ _ st7)
      refine thn (hg cl { s2 with heap := g3 } _ fp _ s7 τ H7 x u _ I7' r7 (step x H7 y7)) fun _ s8 ⟨τ8, H8, I8, q8⟩ => ?_
      refine thn (ht cl { s2 with heap := g3 } _ fp _ s8 τ8 H8 _ I8 q8) fun b s9 ⟨H9, I9, q9⟩ => ?_
      have again : ∀ {τ9 : St} {H9 : Hp} {s9 : Shared}, Inv (cxC X scope cl { s2 with heap := g3 } (upd H2 s2.heap.objs.size (.lst [])) fp) ([] ++ pinsAt fp s7.heap) τ9 H9 s9 → N τ9 H9 →
          ∃ m, m < n ∧ ∃ i τ H', Inv (cxC X scope cl { s2 with heap := g3 } (upd H2 s2.heap.objs.size (.lst [])) fp) [] τ H' s9 ∧ tn i s9.heap ∧ (∀ b ∈ fp, H' b = none) ∧ W i m τ H' := fun {τ9 H9 s9} I9 n9 => by
        obtain ⟨m', hm, w9⟩ := hN _ _ n9
        refine ⟨m', hm, i + 1, τ9, H9, I9.unpinned, T.keep _ _ _ st7 fun b hb o e => (I9.pin (b, o) (List.mem_append_right _ (List.mem_append_right _ (mem_pinsAt hb e)))).1, fun b hb => ?_, w9⟩
        obtain ⟨o, e, d⟩ := T.obj _ _ st7 b hb
        exact (I9.pin (b, o) (List.mem_append_right _ (List.mem_append_right _ (mem_pinsAt hb e)))).2.1
      cases b with
      | false =>
        rw [if_neg Bool.false_ne_true] at q9 ⊢
        exact again I9 q9
      | true =>
        rw [if_pos rfl] at q9 ⊢
        refine thn (he cl { s2 with heap := g3 } _ fp _ s9 τ8 H9 _ I9 q9) fun y s10 ⟨v, H10, I10, r10, ys, hys, hlen, n10⟩ => ?_
        exact thn (mt_append (X := cxC X scope cl { s2 with heap := g3 } (upd H2 s2.heap.objs.size (.lst [])) fp) _ s10 τ8 H10 (.ref s2.heap.objs.size) [v] (.ref s2.heap.objs.size) [y] (fun _ H11 => N τ8 H11) I10 rfl (.cons r10 .nil) ⟨_, ys, v, rfl, rfl, hys, hlen, n10⟩) fun _ s11 ⟨_, H11, I11, _, n11⟩ => again I11 n11
  have LW := loop (s2.toks + ([] : List (Str × Value)).length)
  exact codeAny_compStart_list LW (T.self _ 0 _ _ _ (T.keep _ _ _ st3 fun b _ o e => old b o e) LW)
end
end L2

set_option Elab.async false
set_option linter.all false
set_option maxRecDepth 100000
set_option maxHeartbeats 4000000
namespace L2
open PySem PySem.Spec PyProof.Rows
section
variable {X : Cx} {ts : List Nat} {scope : Scope} {tg iter elt : Expr} {ifs : List Expr} {wi : TI} {g : TG} {tt : TT} {te : TE} {pos : Pos}
theorem pe_comp (hc : X.calm = true) (hsc : scOk X.N ts scope X.env.kindOf = true) (hi : PI X tg iter wi) (hg : ∀ cl s H fp, PG (cxC X scope cl s H fp) tg g) (ht : ∀ cl s H fp, PIf (cxC X scope cl s H fp) ifs tt) (he : ∀ cl s H fp, PE (cxC X scope cl s H fp) elt te)
    (hs : ∀ x, foldedSetIterable iter X.env x = pure x := by intro _; rfl) : PE X (.ListComp elt [⟨tg, iter, ifs, 0⟩] scope pos) (tComp ts wi g tt te) := by
  intro pins s σ H Q I h
  rw [eval_ListComp]
  refine comp_run hc hsc hi hg ht he I h (use := none) (fun D C H' s' I' ⟨m, hn⟩ hC hL hce hsz hp hfs q => ⟨m, hn, fun h' hs' => ?_⟩) hs
  exact ⟨.ref D, H', I'.turned (t' := s'.toks) (it := C) (fun b o hb e => (hs'.2 b hb).trans e) hC hL (.inr hsz) hce hp, rfl, q⟩
theorem ps_comp {j : Nat} {y : Str} {py spos : Pos} (hc : X.calm = true) (hN : X.N.Nodup) (hj : X.N[j]? = some y) (hy : Loc X.env.scope y) (hsc : scOk X.N ts scope X.env.kindOf = true) (hi : PI X tg iter wi) (hg : ∀ cl s H fp, PG (cxC X scope cl s H fp) tg g) (ht : ∀ cl s H fp, PIf (cxC X scope cl s H fp) ifs tt) (he : ∀ cl s H fp, PE (cxC X scope cl s H fp) elt te)
    (hsw : swapsWith (.ListComp elt [⟨tg, iter, ifs, 0⟩] scope pos) (some (.Name y py)) spos.line X.env = pure true := by rfl)
    (hs : ∀ x, foldedSetIterable iter X.env x = pure x := by intro _; rfl) (hf : X.fn y = true ∨ X.env.scope.names.lookup y = some .local := by first | exact .inl rfl | exact .inr rfl | assumption) :
    PS X (.Assign [.Name y py] (.ListComp elt [⟨tg, iter, ifs, 0⟩] scope pos) spos) (tAsg (tComp ts wi g tt te) (gName j)) := by
  intro pins s σ H D I h
  rw [exec_Assign_Name_used _ _ _ _ hsw]
  refine wpAny_bind (wpAny_standAt (wpAny_bind ?_))
  show wpAny _ _ (do let _ ← comprehension (.ListComp elt [⟨tg, iter, ifs, 0⟩] scope pos) scope X.env _ (newList []) false (eval iter X.env) (some (assign (.Name y py) X.env))) _ _ s
  refine wpAny_bind (wpAny_mono (comp_run hc hsc hi hg ht he I h (use := some (assign (.Name y py) X.env)) (Q' := fun _ s' => SP X pins D .next s') (fun D' C H' s' I' ⟨m, hn⟩ hC hL hce hsz hp hfs q => ?_) hs) (fun _ s' hq => wpAny_pure (wpAny_pure hq)) fun _ _ e => e)
  show wpAny _ _ (assign (.Name y py) X.env (.ref D')) _ _ _
  refine wpAny_assign_Name (store_ok2 (v := .ref D') I' hN hj hy rfl (fun s2 I2 ⟨a, hsb, ha⟩ => ?_) hf)
  have hCa : C ≠ a := by
    rcases ha with rfl | ha
    · exact hL
    · exact Ne.symm (hce y a ha)
  refine ⟨m, hn.sameBut hsb hCa, fun h' hs' => ?_⟩
  exact ⟨_, H', I2.turned (t' := s2.toks) (it := C) (fun b o hb e => (hs'.2 b hb).trans e) hC hL (.inr hsz) hce hp, q⟩
end
/-! ### enumerate(list) -/
/-- (0, x0), (1, x1), ..: a new tuple each -/
def Ite (K : PySem.W.Frag) (a : Addr) : It :=
  ⟨fun i H => ∃ xs x, SqL K H a xs ∧ xs[i]? = some x, fun i H y H' => ∃ p x, H p = none ∧ y = .ref p ∧ (∀ xs, SqL K H a xs → xs[i]? = some x) ∧ H' = upd H p (.tup [.int i, x]), fun i H => ∃ xs, SqL K H a xs ∧ xs.length ≤ i⟩
theorem turn_enum {P : Program} {w : World} {K : PySem.W.Frag} {es : List Expr} {kt : Nat} {tp : Pos} (a e it : Addr) (hei : e ≠ it) : Turn P w K (.Tuple es kt tp) (Ite K a) [e, it] e (fun i h => (∃ old, IsEnum h e it (i : Nat) old) ∧ h.IsListIter it a i) where
  mem := by simp
  obj := fun i h st b hb => by
    obtain ⟨⟨old, he⟩, ⟨o, e1, c, d⟩⟩ := st
    rcases List.mem_cons.mp hb with rfl | hb
    · exact ⟨_, he, fun v z => by have z' : Data.fields _ = Data.cell v := z; cases z'⟩
    · have e2 : b = it := by simpa using hb
      subst e2
      exact ⟨o, e1, fun v z => by rw [d] at z; cases z⟩
  keep := fun i h h' st k => by
    obtain ⟨⟨old, he⟩, st⟩ := st
    exact ⟨⟨old, k e (by simp) _ he⟩, st.at fun o e => k it (by simp) o e⟩
  item := by
    intro X hP hw hK hc i pins s σ H E I hf st hg
    subst hP hw hK
    obtain ⟨⟨old, he⟩, st⟩ := st
    obtain ⟨xs, x, hq, hx⟩ := hg
    obtain ⟨its, rv, p, hz⟩ := I.list hq
    obtain ⟨u, hu, ru⟩ := rv.get hx
    have fe := hf e (by simp)
    have fi := hf it (by simp)
    refine wpAny_pyNext_enum_item he st p.isList (x := u) (by simpa using hu) hei fun h1 heo hit1 ht1 hz1 hk1 => ?_
    refine ⟨.ref s.heap.objs.size, rfl, wpAny_letOwnedTupleGo_enum heo fun h2 he2 hs2 => ?_⟩
    replace hs2 : Heap.SameBut e h1 h2 := hs2
    have elt : e < s.heap.objs.size := Heap.lt_size he
    have hfr : H s.heap.objs.size = none := I.hok.fresh (Nat.le_refl _)
    have ht2 : h2.get? s.heap.objs.size = some { cls := .type "tuple", data := .seq #[.int i s.toks, u] } := (hs2.2 _ (Nat.ne_of_gt elt)).trans ht1
    have kk : ∀ b o, b ∉ [e, it] → s.heap.get? b = some o → h2.get? b = some o := fun b o hc q => by
      have n1 : b ≠ e := fun z => hc (by simp [z])
      have n2 : b ≠ it := fun z => hc (by simp [z])
      exact (hs2.2 b n1).trans (hk1 b o n1 n2 q)
    have nb : ∀ c v, H c = some v → c ∉ [e, it] := fun c v z hm => by
      rcases List.mem_cons.mp hm with z' | z'
      · rw [z', fe.1] at z; cases z
      · have e2 : c = it := by simpa using z'
        rw [e2, fi.1] at z; cases z
    have I2 : Inv X pins σ (upd H s.heap.objs.size (.tup [.int i, x])) { s with heap := h2, toks := s.toks + 1 } := by
      refine I.step (g' := s.gens) (d' := s.drawn) (ch := [e, it]) (fun b hb => ?_) (fun b o _ _ hc q _ => kk b o hc q) (fun b o _ _ hc q _ => ⟨o.slots, kk b o hc q⟩) (fun b o _ q n => by rw [upd_ne (Nat.ne_of_lt (Heap.lt_size q))]; exact n) (fun b o hc q => ⟨o, kk b o hc q⟩)
        (fun b xs q => by rw [upd_ne (ne_of_none q hfr)]; exact q) (fun b o u q => by rw [upd_ne (ne_of_none q hfr)]; exact q) (fun b ps q => ⟨#[], by rw [upd_ne (ne_of_none q hfr), q]; simp⟩) (fun m hm => ?_) (fun b v q => ?_) I.bare
      · rcases List.mem_cons.mp hb with z | hb
        · rw [z]; exact ⟨fe.2.2.2.1, fe.2.1, fe.2.2.2.2.1, fe.2.2.2.2.2⟩
        · have e2 : b = it := by simpa using hb
          rw [e2]; exact ⟨fi.2.2.2.1, fi.2.1, fi.2.2.2.2.1, fi.2.2.2.2.2⟩
      · obtain ⟨o, es, ep, ho, r⟩ := hm
        exact ⟨o, es, ep, kk _ o (by simp [Ne.symm fe.2.1, Ne.symm fi.2.1]) ho, r⟩
      · by_cases hb : b = s.heap.objs.size
        · subst hb
          rw [upd_same] at q
          cases q
          exact ⟨by show 2 ≤ sizeLine; decide, [.int i s.toks, u], .cons ⟨_, rfl⟩ (.cons ru .nil), _, ht2, rfl, _, rfl⟩
        · rw [upd_ne hb] at q
          refine (I.hok b v q).stay (fun c o hc q' => kk c o ?_ q') (fun c z => by rw [upd_ne (ne_of_none z hfr)]; exact z) fun c xs z => by rw [upd_ne (ne_of_none z hfr)]; exact z
          rcases hc with z | z
          · rw [z]; exact nb b v q
          · exact nb c _ z
    refine ⟨.ref s.heap.objs.size, _, I2, rfl, ⟨s.heap.objs.size, x, hfr, rfl, fun ys hy => by rw [I.list_inj hy hq]; exact hx, rfl⟩, ⟨⟨_, by simpa using he2⟩, hit1.extBut hs2.extBut (Ne.symm hei)⟩, fun b hb => ?_⟩
    have hlt : b < s.heap.objs.size := by
      rcases List.mem_cons.mp hb with rfl | hb
      · exact elt
      · have e2 : b = it := by simpa using hb
        subst e2
        obtain ⟨o, e1, _⟩ := st
        exact Heap.lt_size e1
    rw [upd_ne (Nat.ne_of_lt hlt)]
    exact (hf b hb).1
  done := by
    intro X hP hw hK hc i pins s σ H E I hf st hg
    subst hP hw hK
    obtain ⟨⟨old, he⟩, st⟩ := st
    obtain ⟨xs, hq, hx⟩ := hg
    obtain ⟨its, rv, p, hz⟩ := I.list hq
    obtain ⟨f0, f1, f2, f3, f4, f5⟩ := hf it (by simp)
    have hl := rv.length
    exact wpAny_pyNext_enum_end (I.ok.hd hc) he st p.isList (by simp; omega) fun h' eb => ⟨rfl, I.turned (t' := s.toks) (fun b o hb e => eb b o hb e) f0 f1 f3 f4 f5⟩
  self := fun _ _ _ _ _ st h => by
    obtain ⟨⟨old, he⟩, _⟩ := st
    exact wpAny_pyIter_enum he h
end L2

set_option Elab.async false
set_option linter.all false
set_option maxRecDepth 100000
set_option maxHeartbeats 4000000
namespace L2
open PySem PySem.Spec PyProof.Rows
section
variable {X : Cx} {pins : List (Addr × Obj)} {σ : St} {H : Hp} {s : Shared}
/-- iterators at ch turn, a tuple is laid at T -/
theorem Inv.yieldTup {ch : List Addr} {h2 : Heap} {tk : Nat} {T : Addr} {xs : List V} {us : List Value} (I : Inv X pins σ H s) (hf : ∀ b ∈ ch, FpOk X pins H b) (kk : ∀ b o, b ∉ ch → s.heap.get? b = some o → h2.get? b = some o) (hT : s.heap.objs.size ≤ T)
    (ht2 : h2.get? T = some { cls := .type "tuple", data := .seq us.toArray }) (rv : Vals xs us) (hz : xs.length ≤ sizeLine) : Inv X pins σ (upd H T (.tup xs)) { s with heap := h2, toks := tk } := by
  have hfr : H T = none := I.hok.fresh hT
  have nb : ∀ c v, H c = some v → c ∉ ch := fun c v z hm => by rw [(hf c hm).1] at z; cases z
  refine I.step (g' := s.gens) (d' := s.drawn) (ch := ch) (fun b hb => ⟨(hf b hb).2.2.2.1, (hf b hb).2.1, (hf b hb).2.2.2.2.1, (hf b hb).2.2.2.2.2⟩) (fun b o _ _ hc q _ => kk b o hc q) (fun b o _ _ hc q _ => ⟨o.slots, kk b o hc q⟩)
    (fun b o _ q n => by rw [upd_ne (Nat.ne_of_lt (Nat.lt_of_lt_of_le (Heap.lt_size q) hT))]; exact n) (fun b o hc q => ⟨o, kk b o hc q⟩)
    (fun b xs q => by rw [upd_ne (ne_of_none q hfr)]; exact q) (fun b o u q => by rw [upd_ne (ne_of_none q hfr)]; exact q) (fun b ps q => ⟨#[], by rw [upd_ne (ne_of_none q hfr), q]; simp⟩) (fun m hm => ?_) (fun b v q => ?_) I.bare
  · obtain ⟨o, es, ep, ho, r⟩ := hm
    exact ⟨o, es, ep, kk _ o (fun z => (hf _ z).2.1 rfl) ho, r⟩
  · by_cases hb : b = T
    · subst hb
      rw [upd_same] at q
      cases q
      exact ⟨hz, us, rv, _, ht2, rfl, _, rfl⟩
    · rw [upd_ne hb] at q
      refine (I.hok b v q).stay (fun c o hc q' => kk c o ?_ q') (fun c z => by rw [upd_ne (ne_of_none z hfr)]; exact z) fun c xs z => by rw [upd_ne (ne_of_none z hfr)]; exact z
      rcases hc with z | z
      · rw [z]; exact nb b v q
      · exact nb c _ z
/-- records at ch turn, nothing else -/
theorem Inv.turnedL {ch : List Addr} {h2 : Heap} {tk : Nat} (I : Inv X pins σ H s) (hf : ∀ b ∈ ch, FpOk X pins H b) (kk : ∀ b o, b ∉ ch → s.heap.get? b = some o → h2.get? b = some o) : Inv X pins σ H { s with heap := h2, toks := tk } := by
  have nb : ∀ c v, H c = some v → c ∉ ch := fun c v z hm => by rw [(hf c hm).1] at z; cases z
  refine I.step (g' := s.gens) (d' := s.drawn) (ch := ch) (fun b hb => ⟨(hf b hb).2.2.2.1, (hf b hb).2.1, (hf b hb).2.2.2.2.1, (hf b hb).2.2.2.2.2⟩) (fun b o _ _ hc q _ => kk b o hc q) (fun b o _ _ hc q _ => ⟨o.slots, kk b o hc q⟩)
    (fun b o _ q n => n) (fun b o hc q => ⟨o, kk b o hc q⟩) (fun b xs q => q) (fun b o u q => q) (fun b ps q => ⟨#[], by rw [q]; simp⟩) (fun m hm => ?_) (fun b v q => ?_) I.bare
  · obtain ⟨o, es, ep, ho, r⟩ := hm
    exact ⟨o, es, ep, kk _ o (fun z => (hf _ z).2.1 rfl) ho, r⟩
  · refine (I.hok b v q).stay (fun c o hc q' => kk c o ?_ q') (fun c z => z) fun c xs z => z
    rcases hc with z | z
    · rw [z]; exact nb b v q
    · exact nb c _ z
end
/-! ### zip(list, list) -/
def Itz (K : PySem.W.Frag) (a b : Addr) : It :=
  ⟨fun i H => ∃ xs ys x y, SqL K H a xs ∧ SqL K H b ys ∧ xs[i]? = some x ∧ ys[i]? = some y, fun i H z H' => ∃ p x y, H p = none ∧ z = .ref p ∧ (∀ xs, SqL K H a xs → xs[i]? = some x) ∧ (∀ ys, SqL K H b ys → ys[i]? = some y) ∧ H' = upd H p (.tup [x, y]),
    fun i H => ∃ xs ys, SqL K H a xs ∧ SqL K H b ys ∧ (xs.length ≤ i ∨ ys.length ≤ i)⟩
theorem turn_zip {P : Program} {w : World} {K : PySem.W.Frag} {es : List Expr} {kt : Nat} {tp : Pos} (l1 l2 z TI TO i1 i2 : Addr) (D : ZipApart z TI TO i1 i2 l1 l2) :
    Turn P w K (.Tuple es kt tp) (Itz K l1 l2) [z, TI, TO, i1, i2] z (fun i h => IsZip h z TI TO .none ∧ IsPair h TI (.ref i1) (.ref i2) ∧ (∃ a b, IsPair h TO a b) ∧ h.IsListIter i1 l1 i ∧ h.IsListIter i2 l2 i) where
  mem := by simp
  obj := fun i h st b hb => by
    obtain ⟨hz, hTI, ⟨a, c, hTO⟩, ⟨o1, e1, c1, d1⟩, ⟨o2, e2, c2, d2⟩⟩ := st
    simp only [List.mem_cons, List.not_mem_nil, or_false] at hb
    rcases hb with rfl | rfl | rfl | rfl | rfl
    · exact ⟨_, hz, fun v q => by have q' : Data.fields _ = Data.cell v := q; cases q'⟩
    · exact ⟨_, hTI, fun v q => by have q' : Data.seq _ _ = Data.cell v := q; cases q'⟩
    · exact ⟨_, hTO, fun v q => by have q' : Data.seq _ _ = Data.cell v := q; cases q'⟩
    · exact ⟨o1, e1, fun v q => by rw [d1] at q; cases q⟩
    · exact ⟨o2, e2, fun v q => by rw [d2] at q; cases q⟩
  keep := fun i h h' st k => by
    obtain ⟨hz, hTI, ⟨a, c, hTO⟩, h1, h2⟩ := st
    exact ⟨k _ (by simp) _ hz, k _ (by simp) _ hTI, ⟨a, c, k _ (by simp) _ hTO⟩, h1.at fun o e => k _ (by simp) o e, h2.at fun o e => k _ (by simp) o e⟩
  item := by
    intro X hP hw hK hc i pins s σ H E I hf st hg
    subst hP hw hK
    obtain ⟨hz, hTI, ⟨a, c, hTO⟩, h1, h2⟩ := st
    obtain ⟨xs, ys, x, y, hq1, hq2, hx, hy⟩ := hg
    obtain ⟨its1, rv1, p1, hz1⟩ := I.list hq1
    obtain ⟨its2, rv2, p2, hz2⟩ := I.list hq2
    obtain ⟨u, hu, ru⟩ := rv1.get hx
    obtain ⟨v, hv, rvv⟩ := rv2.get hy
    refine wpAny_pyNext_zip_item D hz hTI hTO h1 h2 p1.isList p2.isList (x := u) (y := v) (by simpa using hu) (by simpa using hv) fun g1 b1 b2 b3 b4 b5 b6 hk => ?_
    refine ⟨.ref s.heap.objs.size, rfl, wpAny_letOwnedTupleGo_zip b1 fun g2 hz2' hs2 => ?_⟩
    replace hs2 : Heap.SameBut z g1 g2 := hs2
    have zlt : z < s.heap.objs.size := Heap.lt_size hz
    have I2 : Inv X pins σ (upd H s.heap.objs.size (.tup [x, y])) { s with heap := g2, toks := s.toks } := by
      refine I.yieldTup (us := [u, v]) hf (fun b o hb e => ?_) (Nat.le_refl _) ((hs2.2 _ (Nat.ne_of_gt zlt)).trans b5) (.cons ru (.cons rvv .nil)) (by show 2 ≤ sizeLine; decide)
      simp only [List.mem_cons, List.not_mem_nil, or_false, not_or] at hb
      exact (hs2.2 b hb.1).trans (hk b o hb.1 hb.2.2.1 hb.2.2.2.1 hb.2.2.2.2 e)
    refine ⟨.ref s.heap.objs.size, _, I2, rfl, ⟨s.heap.objs.size, x, y, I.hok.fresh (Nat.le_refl _), rfl, fun xs' h' => by rw [I.list_inj h' hq1]; exact hx, fun ys' h' => by rw [I.list_inj h' hq2]; exact hy, rfl⟩,
      ⟨hz2', (hs2.2 _ D.TIz).trans (hk _ _ D.TIz D.TITO D.TIi1 D.TIi2 hTI), ⟨_, _, (hs2.2 _ D.TOz).trans b2⟩, b3.extBut hs2.extBut D.i1z, b4.extBut hs2.extBut D.i2z⟩, fun b hb => ?_⟩
    have hlt : b < s.heap.objs.size := by
      simp only [List.mem_cons, List.not_mem_nil, or_false] at hb
      rcases hb with rfl | rfl | rfl | rfl | rfl
      · exact zlt
      · exact Heap.lt_size hTI
      · exact Heap.lt_size hTO
      · obtain ⟨o, e, _⟩ := h1; exact Heap.lt_size e
      · obtain ⟨o, e, _⟩ := h2; exact Heap.lt_size e
    rw [upd_ne (Nat.ne_of_lt hlt)]
    exact (hf b hb).1
  done := by
    intro X hP hw hK hc i pins s σ H E I hf st hg
    subst hP hw hK
    obtain ⟨hz, hTI, ⟨a, c, hTO⟩, h1, h2⟩ := st
    obtain ⟨xs, ys, hq1, hq2, hend⟩ := hg
    obtain ⟨its1, rv1, p1, hz1⟩ := I.list hq1
    obtain ⟨its2, rv2, p2, hz2⟩ := I.list hq2
    have l1 := rv1.length
    have l2 := rv2.length
    refine wpAny_pyNext_zip_end (I.ok.hd hc) D hz hTI hTO h1 h2 p1.isList p2.isList (by simp; omega) fun h' hk => ⟨rfl, I.turnedL (tk := s.toks) hf fun b o hb e => ?_⟩
    simp only [List.mem_cons, List.not_mem_nil, or_false, not_or] at hb
    exact hk b o hb.1 hb.2.2.1 hb.2.2.2.1 hb.2.2.2.2 e
  self := fun _ _ _ _ _ st h => wpAny_pyIter_zip st.1 h
theorem boot_enumT : bootBuiltins "enumerate" = some (.type "enumerate") := by decide +kernel
theorem boot_zipT : bootBuiltins "zip" = some (.type "zip") := by decide +kernel
section
variable {X : Cx} {es : List Expr} {kt : Nat} {tp : Pos}
def iEnum (K : PySem.W.Frag) (ta : TA) : TI := fun σ H R => ta σ H fun vs H1 => ∃ a, vs = [.ref a] ∧ (∃ xs, SqL K H1 a xs) ∧ R (Ite K a) H1
theorem pi_enum {e : Expr} {ta : TA} {p pos : Pos} (hg : Gl X "enumerate") (hm : X.mg "enumerate" = none) (ha : PA X [e] ta) (hs : starEach [e] X.env = [(false, eval e X.env)] := by rfl) :
    PI X (.Tuple es kt tp) (.Call (.Name "enumerate" p) [e] [] pos) (iEnum X.K ta) := by
  intro pins s σ H R I h
  refine Call_ (ld_blt I hg hm (boot_enumT) (PyProof.Rows.callWith_type1 (thn (ha pos pins s σ H _ I h) fun us s1 ⟨vs, H1, I1, r1, q1⟩ => ?_) hs rfl))
  obtain ⟨a, e, ⟨xs, hq⟩, q⟩ := q1
  subst e
  obtain ⟨u, rfl, ru⟩ := vals1 r1
  cases ru
  obtain ⟨its, rv, pl, hz⟩ := I1.list hq
  refine call_enumerate_list pl.isList fun h' he hit hsz hk => wpAny_pyIter_enum he ?_
  have I2 : Inv X pins σ H1 { s1 with heap := h' } := I1.kept (t' := s1.toks) hk
  refine ⟨s1.heap.objs.size + 1, [s1.heap.objs.size + 1, s1.heap.objs.size], _, _, H1, rfl, I2, turn_enum a _ _ (Nat.succ_ne_self _), ⟨⟨_, he⟩, hit⟩, fun b hb => ?_, q⟩
  have hb' : s1.heap.objs.size ≤ b := by
    simp only [List.mem_cons, List.not_mem_nil, or_false] at hb
    rcases hb with rfl | rfl
    · exact Nat.le_succ _
    · exact Nat.le_refl _
  exact I1.fpOk hb' (I1.hok.fresh hb')
def iZip (K : PySem.W.Frag) (ta : TA) : TI := fun σ H R => ta σ H fun vs H1 => ∃ a b, vs = [.ref a, .ref b] ∧ (∃ xs, SqL K H1 a xs) ∧ (∃ ys, SqL K H1 b ys) ∧ R (Itz K a b) H1
end
/-- over enumerate(list), the list left as it is -/
theorem for_enum {K : PySem.W.Frag} {a : Addr} {xs : List V} {g : TG} {tb : TS} {D : Ends} {σ : St} {H : Hp} (Pv : Nat → St → Hp → Prop) (h0 : Pv 0 σ H) (hl : ∀ i σ H, i ≤ xs.length → Pv i σ H → SqL K H a xs)
    (hs : ∀ i x p σ H, xs[i]? = some x → H p = none → Pv i σ H → g (.ref p) σ (upd H p (.tup [.int i, x])) fun σ2 H2 => tb { D with nx := Pv (i + 1), ct := Pv (i + 1), bk := D.nx } σ2 H2) (hd : ∀ σ H, Pv xs.length σ H → D.nx σ H) :
    ∃ W : Nat → Nat → St → Hp → Prop, (∃ m, W 0 m σ H) ∧ ∀ i m σ H, W i m σ H →
      ((Ite K a).stop i H ∧ D.nx σ H) ∨ ((Ite K a).go i H ∧ ∃ N : St → Hp → Prop, (∀ σ' H', N σ' H' → ∃ m', m' < m ∧ W (i + 1) m' σ' H') ∧ ∀ x H', (Ite K a).yld i H x H' → g x σ H' fun σ2 H2 => tb { D with nx := N, ct := N, bk := D.nx } σ2 H2) := by
  refine ⟨fun i m σ H => m = xs.length - i ∧ i ≤ xs.length ∧ Pv i σ H, ⟨xs.length, by simp, Nat.zero_le _, h0⟩, ?_⟩
  rintro i m σ H ⟨rfl, hi, p⟩
  have q := hl i σ H hi p
  by_cases hlt : i < xs.length
  · refine .inr ⟨⟨xs, xs[i], q, by simp [hlt]⟩, Pv (i + 1), fun σ' H' p' => ⟨xs.length - (i + 1), by omega, rfl, hlt, p'⟩, fun x H' y => ?_⟩
    obtain ⟨pp, x', hp, rfl, y, rfl⟩ := y
    exact hs i x' pp σ _ (y xs q) hp p
  · have e : i = xs.length := by omega
    subst e
    exact .inl ⟨⟨xs, q, Nat.le_refl _⟩, hd σ H p⟩
end L2

set_option Elab.async false
set_option linter.all false
set_option maxRecDepth 100000
set_option maxHeartbeats 4000000
namespace L2
open PySem PySem.Spec PyProof.Rows
/-! ### range objects, list(range) -/
def RngO (p : Addr) (a b c : Int) : HO := .ext fun h => ∃ t u v, h.get? p = some { cls := .type "range", data := .fields #[.int a t, .int b u, .int c v] }
theorem rng_ok {P : Program} {w : World} {H : Hp} {h : Heap} {p : Addr} {a b c : Int} {t u v : Tok} (e : h.get? p = some { cls := .type "range", data := .fields #[.int a t, .int b u, .int c v] }) : ObjOk P w H h p (RngO p a b c) :=
  ⟨⟨t, u, v, e⟩, ⟨_, e⟩, fun h1 h2 ⟨t, u, v, q⟩ k => ⟨t, u, v, k _ q⟩⟩
def rngL (a c : Int) (n : Nat) : List Int := (List.range n).map fun (i : Nat) => a + (i : Int) * c
theorem rngL_length (a c : Int) (n : Nat) : (rngL a c n).length = n := by simp [rngL]
theorem items_vals {a c : Int} : ∀ {n : Nat} {acc : Array Value}, ItemsOf (fun (i : Nat) (v : Value) => ∃ t, v = Value.int (a + (i : Int) * c) t) acc n → Vals ((rngL a c n).map V.int) acc.toList := by
  intro n acc ⟨hs, hi⟩
  have key : ∀ (k : Nat) (l : List Value), l.length = k → (∀ (j : Nat) v, l[j]? = some v → ∃ t, v = Value.int (a + (j : Int) * c) t) → Vals ((rngL a c k).map V.int) l := by
    intro k
    induction k with
    | zero => intro l hl _; cases l with
      | nil => exact .nil
      | cons => simp at hl
    | succ k ih =>
      intro l hl hv
      obtain ⟨l', x, rfl⟩ : ∃ l' x, l = l' ++ [x] := ⟨l.dropLast, l.getLast (by intro e; rw [e] at hl; simp at hl), (List.dropLast_concat_getLast _).symm⟩
      have hl' : l'.length = k := by simpa using hl
      have e : (rngL a c (k + 1)).map V.int = (rngL a c k).map V.int ++ [.int (a + (k : Int) * c)] := by simp [rngL, List.range_succ]
      rw [e]
      refine (ih l' hl' fun j v hj => hv j v ?_).append (.cons ?_ .nil)
      · rw [List.getElem?_append_left (List.getElem?_eq_some_iff.mp hj).1]; exact hj
      · obtain ⟨t, rfl⟩ := hv k x (by rw [List.getElem?_append_right (by omega), hl']; simp)
        exact ⟨t, rfl⟩
  exact key n acc.toList (by simpa using hs) fun j v hj => hi j v (by simpa using hj)
section
variable {X : Cx}
theorem call_range1 : CallR X (.type "range") (fun xs H Q => ∃ b : Int, xs = [.int b] ∧ ∀ p, H p = none → Q (.ref p) (upd H p (RngO p 0 b 1))) := by
  intro pins s σ H xs us Q I r h
  obtain ⟨b, rfl, q⟩ := h
  obtain ⟨u, rfl, t, rfl⟩ := vals1 r
  refine call_range_1 ⟨.ref s.heap.objs.size, _, I.laid (fun b o e => Heap.get?_push_of_some _ e) (Nat.le_refl _) ?_, rfl, q _ (I.hok.fresh (Nat.le_refl _))⟩
  exact rng_ok (Heap.get?_push_size _ rfl)
theorem call_list_rng (hc : X.calm = true) : CallR X (.type "list") (fun xs H Q => ∃ p a b c n, xs = [.ref p] ∧ H p = some (RngO p a b c) ∧ Builtin.Range.small a b c = true ∧ Builtin.Range.rangeSize a b c = ((n : Nat) : Int) ∧ n ≤ 100000 ∧ ∀ l, H l = none → Q (.ref l) (upd H l (.lst ((rngL a c n).map V.int)))) := by
  intro pins s σ H xs us Q I r h
  obtain ⟨p, a, b, c, n, rfl, hp, hs, hn, hz, q⟩ := h
  obtain ⟨u, rfl, rx⟩ := vals1 r
  cases rx
  obtain ⟨⟨t, u, v, e⟩, _⟩ := (show ObjOk X.prog X.w H s.heap p (RngO p a b c) from I.hok _ _ hp)
  refine call_list_range (I.ok.hd hc) e hs hn (Nat.le_trans hz (by decide)) fun h' tk acc c' hk he hi => ?_
  refine ⟨.ref s.heap.objs.size, _, I.laid hk (Nat.le_refl _) (show ObjOk X.prog X.w _ h' _ (.lst ((rngL a c n).map V.int)) from ⟨?_, acc.toList, c', items_vals hi, by simpa using he⟩), rfl, q _ (I.hok.fresh (Nat.le_refl _))⟩
  rw [List.length_map, rngL_length]
  exact Nat.le_trans hz (by decide)
/-! ### list.insert -/
def rInsert : V → List V → Hp → VK → Prop := fun x vs H Q => ∃ l xs i y, x = .ref l ∧ vs = [.int i, y] ∧ H l = some (.lst xs) ∧ 0 ≤ i ∧ i ≤ xs.length ∧ xs.length < sizeLine ∧ Q .non (upd H l (.lst (xs.take i.toNat ++ y :: xs.drop i.toNat)))
theorem Vals.insert {xs : List V} {us : List Value} {y : V} {u : Value} (r : Vals xs us) (ry : RelV y u) (k : Nat) : Vals (xs.take k ++ y :: xs.drop k) (us.take k ++ u :: us.drop k) := (r.take k).append (.cons ry (r.drop k))
/-! ### sorted of ints -/
/-! ### == of lists with flat items -/
def eqVs : List V → List V → Bool
  | [], [] => true
  | x :: xs, y :: ys => eqV x y && eqVs xs ys
  | _, _ => false
theorem eqVs_all : ∀ {xs ys : List V}, xs.length = ys.length → eqVs xs ys = (List.range xs.length).all fun j => eqV (xs.getD j .non) (ys.getD j .non)
  | [], [], _ => rfl
  | x :: xs, y :: ys, h => by
    have h' : xs.length = ys.length := by simpa using h
    show (eqV x y && eqVs xs ys) = _
    rw [eqVs_all h', List.length_cons, List.range_succ_eq_map, List.all_cons, List.all_map]
    rfl
  | [], _ :: _, h => by simp at h
  | _ :: _, [], h => by simp at h
theorem eqL_items {A : Around} {s : Shared} {xs ys : List V} {us ws : List Value} (r1 : Vals xs us) (r2 : Vals ys ws) (f1 : xs.all flatV = true) (f2 : ys.all flatV = true) (j : Nat) (h1 : j < us.toArray.size) (h2 : j < ws.toArray.size) :
    SeqAt.EqAt A s us.toArray[j] ws.toArray[j] (eqV (xs.getD j .non) (ys.getD j .non)) := by
  have l1 := r1.length
  have l2 := r2.length
  rw [List.size_toArray] at h1 h2
  have e1 : xs[j]? = some (xs.getD j .non) := by rw [List.getD_eq_getElem?_getD, List.getElem?_eq_getElem (by omega)]; rfl
  have e2 : ys[j]? = some (ys.getD j .non) := by rw [List.getD_eq_getElem?_getD, List.getElem?_eq_getElem (by omega)]; rfl
  obtain ⟨u, hu, ru⟩ := r1.get e1
  obtain ⟨v, hv, rv⟩ := r2.get e2
  have hu' : us.toArray[j] = u := by
    have := (List.getElem?_eq_some_iff.mp hu).2
    simpa using this
  have hv' : ws.toArray[j] = v := by
    have := (List.getElem?_eq_some_iff.mp hv).2
    simpa using this
  rw [hu', hv']
  exact eqAt_V ru rv (List.all_eq_true.mp f1 _ (List.mem_of_getElem? e1)) (List.all_eq_true.mp f2 _ (List.mem_of_getElem? e2))
end
end L2

set_option Elab.async false
set_option linter.all false
set_option maxRecDepth 100000
set_option maxHeartbeats 4000000
namespace L2
open PySem PySem.Spec PyProof.Rows
section
variable {X : Cx}
/-! ### == and != of lists of ints -/
def rEqI (K : PySem.W.Frag) (f : Bool → Bool) : R2 := fun x y H Q => ∃ p q ns ms, x = .ref p ∧ y = .ref q ∧ SqL K H p (List.map V.int ns) ∧ SqL K H q (List.map V.int ms) ∧ Q (.bl (f (decide (ns = ms)))) H
theorem op_neI (hu : X.A.units + 64 < cLine) : OpR X (compareOp .NotEq) (rEqI X.K not) := by
  intro pins s σ H x y v u Q I rx ry h
  obtain ⟨p, q, ns, ms, rfl, rfl, h1, h2, k⟩ := h
  cases rx
  cases ry
  obtain ⟨us, r1, p1, z1⟩ := I.list h1
  obtain ⟨ws, r2, p2, z2⟩ := I.list h2
  exact PySem.W.ke_ne_ints p1.isList p2.isList (intsAre_of r1) (intsAre_of r2) hu ⟨.bl _, H, I, rfl, k⟩
/-! ### isinstance against built-in classes -/
def isT (t c : String) : Option Bool := if (Value.type t == Value.type c) = true then some true else if PySem.W.kitMeta c = true then (fastBuiltinMro t).map (·.contains (Value.type c)) else none
theorem isT_kit (K : PySem.W.Frag) (t c : String) : PySem.W.kitOne K (.type t) (.type c) = isT t c := rfl
def isTs (t : String) : List String → Option Bool
  | [] => some false
  | c :: r => match isT t c with
    | some true => some true
    | some false => isTs t r
    | none => none
theorem isTs_kit (K : PySem.W.Frag) (t : String) : ∀ cs : List String, PySem.W.kitAny K (.type t) (cs.map Value.type) = isTs t cs
  | [] => rfl
  | c :: r => by
    show (match PySem.W.kitOne K (.type t) (.type c) with | some true => some true | some false => PySem.W.kitAny K (.type t) (r.map Value.type) | none => none) = _
    rw [isT_kit, isTs_kit K t r]; rfl
theorem call_isi : CallR X (.builtin "isinstance") (fun xs H Q => ∃ x t c b, xs = [x, .ty c] ∧ TyOf X.K H x (.type t) ∧ isT t c = some b ∧ Q (.bl b) H) := by
  intro pins s σ H xs us Q I r h
  obtain ⟨x, t, c, b, rfl, ty, e, q⟩ := h
  obtain ⟨u, v, rfl, ru, rv⟩ := vals2 r
  cases rv
  exact isinst_ok I ru ty (by rw [isT_kit]; exact e) fun tk => ⟨.bl b, H, I.tok _, rfl, q⟩
theorem vals_tys : ∀ {cs : List String} {us : List Value}, Vals (cs.map V.ty) us → us = cs.map Value.type
  | [], _, .nil => rfl
  | c :: cs, _, .cons r t => by rw [vals_tys t]; cases r; rfl
theorem call_isis : CallR X (.builtin "isinstance") (fun xs H Q => ∃ x t p cs b, xs = [x, .ref p] ∧ H p = some (.tup (List.map V.ty cs)) ∧ TyOf X.K H x (.type t) ∧ isTs t cs = some b ∧ Q (.bl b) H) := by
  intro pins s σ H xs us Q I r h
  obtain ⟨x, t, p, cs, b, rfl, hp, ty, e, q⟩ := h
  obtain ⟨u, v, rfl, rx, rv⟩ := vals2 r
  cases rv
  obtain ⟨_, its, rt, o, ho, hc, n, hd⟩ := (show ObjOk X.prog X.w H s.heap p (.tup (List.map V.ty cs)) from I.hok _ _ hp)
  obtain ⟨oc, od, odt, osl⟩ := o
  simp only at hc hd
  subst hc hd
  have e' : PySem.W.kitAny X.K (.type t) its = some b := by rw [vals_tys rt, isTs_kit]; exact e
  have fin : ∀ tk, EP X pins σ Q (.bool b) { s with toks := tk } := fun tk => ⟨.bl b, H, I.tok _, rfl, q⟩
  cases ty with
  | non => cases (show u = Value.none from rx); exact PySem.W.kia_tup PySem.W.kitx_none I.kIn True.intro ho e' (fun z => nomatch z) fin
  | bl y => cases (show u = Value.bool y from rx); exact PySem.W.kia_tup PySem.W.kitx_bool I.kIn True.intro ho e' (fun z => nomatch z) fin
  | int i => obtain ⟨t, q⟩ := (show ∃ t, u = Value.int i t from rx); cases q; exact PySem.W.kia_tup PySem.W.kitx_int I.kIn True.intro ho e' (fun z => nomatch z) fin
  | str y => obtain ⟨t, q⟩ := (show ∃ t, u = Value.str y t from rx); cases q; exact PySem.W.kia_tup PySem.W.kitx_str I.kIn True.intro ho e' (fun z => nomatch z) fin
  | flt y => obtain ⟨t, q⟩ := (show ∃ t, u = Value.float y t from rx); cases q; exact PySem.W.kia_tup PySem.W.kitx_float I.kIn True.intro ho e' (fun z => nomatch z) fin
  | @lst a xs ea =>
    cases (show u = Value.ref a from rx)
    obtain ⟨_, _, n, _, h1⟩ := (show ObjOk X.prog X.w H s.heap a (.lst xs) from I.hok a _ ea)
    exact PySem.W.kia_tup PySem.W.kitx_list I.kIn ⟨_, h1, rfl⟩ ho e' (fun z => nomatch z) fin
  | @frz a ob xs ea =>
    cases (show u = Value.ref a from rx)
    obtain ⟨_, _, _, n, _, h1⟩ := (show ObjOk X.prog X.w H s.heap a (.frz ob (.lst xs)) from I.hok a _ ea)
    exact PySem.W.kia_tup PySem.W.kitx_list I.kIn ⟨_, h1, rfl⟩ ho e' (fun z => nomatch z) fin
  | @tup a xs ea =>
    cases (show u = Value.ref a from rx)
    obtain ⟨_, _, _, p⟩ := (show ObjOk X.prog X.w H s.heap a (.tup xs) from I.hok a _ ea)
    obtain ⟨o, h1, h2, _⟩ := p
    exact PySem.W.kia_tup PySem.W.kitx_tuple I.kIn ⟨o, h1, h2⟩ ho e' (fun z => nomatch z) fin
  | @dK a kvs ea =>
    cases (show u = Value.ref a from rx)
    obtain ⟨_, _, vs, _, p⟩ := (show ObjOk X.prog X.w H s.heap a (.dK kvs) from I.hok a _ ea)
    obtain ⟨o, es, ep, h1, h2, _⟩ := p
    exact PySem.W.kia_tup PySem.W.kitx_dict I.kIn ⟨o, h1, h2.1⟩ ho e' (fun z => nomatch z) fin
  | @dT a kvs ea =>
    cases (show u = Value.ref a from rx)
    obtain ⟨_, _, xs, _, o, es, ep, h1, h2, _⟩ := (show ObjOk X.prog X.w H s.heap a (.dT kvs) from I.hok a _ ea)
    exact PySem.W.kia_tup PySem.W.kitx_dict I.kIn ⟨o, h1, h2.1⟩ ho e' (fun z => nomatch z) fin
/-! ### a comprehension, by its turns -/
theorem comp_range {lo : Int} {n : Nat} {g : TG} {tt : TT} {te : TE} {Q : VK} {τ : St} {H1 : Hp} {D : Addr} (Pv : Nat → St → Hp → Prop) (h0 : Pv 0 τ (upd H1 D (.lst [])))
    (hs : ∀ i τ H, i < n → Pv i τ H → g (.int (lo + i)) τ H fun τ2 H3 => tt τ2 H3 fun b H4 => if b = true then te τ2 H4 fun v H5 => ∃ ys, H5 D = some (.lst ys) ∧ ys.length < sizeLine ∧ Pv (i + 1) τ2 (upd H5 D (.lst (ys ++ [v]))) else Pv (i + 1) τ2 H4)
    (hd : ∀ τ H, Pv n τ H → Q (.ref D) H) :
    ∃ W : Nat → Nat → St → Hp → Prop, (∃ m, W 0 m τ (upd H1 D (.lst []))) ∧ ∀ i m τ H2, W i m τ H2 →
      ((Itr lo n).stop i H2 ∧ Q (.ref D) H2) ∨ ((Itr lo n).go i H2 ∧ ∃ N : St → Hp → Prop, (∀ τ' H', N τ' H' → ∃ m', m' < m ∧ W (i + 1) m' τ' H') ∧ ∀ x H', (Itr lo n).yld i H2 x H' → g x τ H' fun τ2 H3 => tt τ2 H3 fun b H4 =>
        if b = true then te τ2 H4 fun v H5 => ∃ ys, H5 D = some (.lst ys) ∧ ys.length < sizeLine ∧ N τ2 (upd H5 D (.lst (ys ++ [v]))) else N τ2 H4) := by
  refine ⟨fun i m τ H => m = n - i ∧ i ≤ n ∧ Pv i τ H, ⟨n, by simp, Nat.zero_le _, h0⟩, ?_⟩
  rintro i m τ H ⟨rfl, hi, p⟩
  by_cases hlt : i < n
  · refine .inr ⟨hlt, Pv (i + 1), fun σ' H' p' => ⟨n - (i + 1), by omega, rfl, hlt, p'⟩, fun x H' y => ?_⟩
    obtain ⟨e, y⟩ := y
    subst e y
    exact hs i τ _ hlt p
  · have e : i = n := by omega
    subst e
    exact .inl ⟨Nat.le_refl _, hd τ H p⟩
theorem comp_list {K : PySem.W.Frag} {a : Addr} {xs : List V} {g : TG} {tt : TT} {te : TE} {Q : VK} {τ : St} {H1 : Hp} {D : Addr} (Pv : Nat → St → Hp → Prop) (h0 : Pv 0 τ (upd H1 D (.lst []))) (hl : ∀ i τ H, i ≤ xs.length → Pv i τ H → SqL K H a xs)
    (hs : ∀ i x τ H, xs[i]? = some x → Pv i τ H → g x τ H fun τ2 H3 => tt τ2 H3 fun b H4 => if b = true then te τ2 H4 fun v H5 => ∃ ys, H5 D = some (.lst ys) ∧ ys.length < sizeLine ∧ Pv (i + 1) τ2 (upd H5 D (.lst (ys ++ [v]))) else Pv (i + 1) τ2 H4)
    (hd : ∀ τ H, Pv xs.length τ H → Q (.ref D) H) :
    ∃ W : Nat → Nat → St → Hp → Prop, (∃ m, W 0 m τ (upd H1 D (.lst []))) ∧ ∀ i m τ H2, W i m τ H2 →
      ((Itl K a).stop i H2 ∧ Q (.ref D) H2) ∨ ((Itl K a).go i H2 ∧ ∃ N : St → Hp → Prop, (∀ τ' H', N τ' H' → ∃ m', m' < m ∧ W (i + 1) m' τ' H') ∧ ∀ x H', (Itl K a).yld i H2 x H' → g x τ H' fun τ2 H3 => tt τ2 H3 fun b H4 =>
        if b = true then te τ2 H4 fun v H5 => ∃ ys, H5 D = some (.lst ys) ∧ ys.length < sizeLine ∧ N τ2 (upd H5 D (.lst (ys ++ [v]))) else N τ2 H4) := by
  refine ⟨fun i m τ H => m = xs.length - i ∧ i ≤ xs.length ∧ Pv i τ H, ⟨xs.length, by simp, Nat.zero_le _, h0⟩, ?_⟩
  rintro i m τ H ⟨rfl, hi, p⟩
  have q := hl i τ H hi p
  by_cases hlt : i < xs.length
  · refine .inr ⟨⟨xs, xs[i], q, by simp [hlt]⟩, Pv (i + 1), fun σ' H' p' => ⟨xs.length - (i + 1), by omega, rfl, hlt, p'⟩, fun x H' y => ?_⟩
    obtain ⟨e, y⟩ := y
    subst e
    exact hs i x τ _ (y xs q) p
  · have e : i = xs.length := by omega
    subst e
    exact .inl ⟨⟨xs, q, Nat.le_refl _⟩, hd τ H p⟩
end
end L2

set_option Elab.async false
set_option linter.all false
set_option maxRecDepth 100000
set_option maxHeartbeats 4000000
namespace L2
open PySem PySem.Spec PyProof.Rows
/-! ### defs of the text in one bundle -/
def At (K : PySem.W.Frag) (mg : Str → Option Value) (x : Str) (st : Stmt) : Prop := ∃ f fd, Fun K x x st f fd ∧ mg x = some (.ref f)
def Df (P : Program) (w : World) (K : PySem.W.Frag) (mg : Str → Option Value) (base : Heap) (x : Str) (ps : List Str) (k : Nat) (sp : Sp) : Prop :=
  ∃ f fd, FnOk P w K mg base CX0 k f fd ps sp ∧ Binds K fd ps [] ∧ PySem.W.keepIn K (.ref f) = true ∧ mg x = some (.ref f) ∧ ∃ oc od osl, K.lookup f = some ⟨oc, od, .func fd, osl⟩
theorem Df.mono {P : Program} {w : World} {K : PySem.W.Frag} {mg : Str → Option Value} {base : Heap} {x : Str} {ps : List Str} {j k : Nat} {sp : Sp} (D : Df P w K mg base x ps j sp) (h : j ≤ k) : Df P w K mg base x ps k sp :=
  let ⟨f, fd, F, r⟩ := D
  ⟨f, fd, F.mono h, r⟩
section
variable {X : Cx} {k : Nat} {x : Str} {ps : List Str} {sp : Sp} {p pos : Pos} {e : Expr} {es : List Expr} {t : TA}
theorem pe_cd (D : Df X.prog X.w X.K X.mg X.base x ps k sp) (hr : Room k X.A) (hg : Gl X x) (ha : PA X (e :: es) t) (hdb : (x == ("__debug__" : Str)) = false := by decide)
    (he : starEach (e :: es) X.env = (false, eval e X.env) :: starEach es X.env := by rfl) (hpl : (backTo pos (starEach es X.env)).any (·.1) = false := by rfl) : PE X (.Call (.Name x p) (e :: es) [] pos) (tCall sp [] E0 t) := by
  obtain ⟨f, fd, F, b, kp, m, _⟩ := D
  exact pe_call F hr hg m kp b .nil pass0 ha hdb he hpl
end
/-- a def of the text, by its body: its scope, how its arguments bind, its promise, its body's term and reading -/
theorem df_of {P : Program} {w : World} {K : PySem.W.Frag} {mg : Str → Option Value} {base : Heap} {x : Str} {st : Stmt} {N ps : List Str} {k : Nat} {sp : Sp} (a : At K mg x st) (S : FnScope N ps (defScope st))
    (hb : ∀ (kV doc pm : Value) (an : Option Addr) (cdv ct : Value) (us : List Value), us.length = ps.length → bindArgs (PySem.W.fnOf x x (defArgs st) (defBody st) (defScope st) .none kV doc pm an cdv ct) ⟨us, []⟩ = pure (ps.zip us))
    (len : ∀ vs H Q E, sp vs H Q E → vs.length = ps.length)
    (hbody : ∀ (f : Addr) (cdv : Value) (A : Around) (outer : List Env) (s : Shared) (H : Hp) (vs : List V) (Q : VK) (E : XK), Room k (A.deeper (envOfC x (defScope st) s.heap.objs.size f cdv)) → sp vs H Q E →
      ∃ t, PSs (cxOf CX0 P w K mg base N x (defScope st) f cdv A outer s H E).nox (defBody st) t ∧ t { nx := fun _ H' => Q .non H', rt := Q } (start N vs) H) : Df P w K mg base x ps (k + 1) sp := by
  obtain ⟨f, fd, F, m⟩ := a
  obtain ⟨oc, od, kV, doc, pm, an, cdv, ct, osl, _, lk, _⟩ := id F.ex
  exact ⟨f, fd, F.ok S len fun cdv A outer s H vs Q E => hbody f cdv A outer s H vs Q E, F.binds hb, F.kp, m, oc, od, osl, lk⟩
theorem at_mk {K : PySem.W.Frag} {mg : Str → Option Value} {h : Heap} {x : Str} {st : Stmt} {f : Addr} {oc : Value} {od an : Option Addr} {osl : Array (Option Value)} {kV doc pm cdv ct : Value} (X : K.In h) (G : h.Ns mainGlobals mg) (a : PySem.W.nsIn K mainGlobals x = some (some (.ref f)))
    (l : K.lookup f = some ⟨oc, od, .func (PySem.W.fnOf x x (defArgs st) (defBody st) (defScope st) .none kV doc pm an cdv ct), osl⟩) (c : PySem.W.codeIn K cdv x = true) (k : PySem.W.keepIn K (.ref f) = true) : At K mg x st := ⟨f, _, fun_mk l c k, PySem.W.mg_of X G a⟩
/-- the same def, by its object -/
theorem Df.fn {P : Program} {w : World} {K : PySem.W.Frag} {mg : Str → Option Value} {base : Heap} {x : Str} {ps : List Str} {k : Nat} {sp : Sp} {f : Addr} {fd : FuncData} {oc : Value} {od : Option Addr} {osl : Array (Option Value)} (D : Df P w K mg base x ps k sp) (m : mg x = some (.ref f)) (l : K.lookup f = some ⟨oc, od, .func fd, osl⟩) : FnOk P w K mg base CX0 k f fd ps sp := by
  obtain ⟨f', fd', F, _, _, m', oc', od', osl', l'⟩ := D
  rw [m] at m'
  cases m'
  rw [l] at l'
  cases l'
  exact F
/-- names of Python's own that no def of the text hides -/
structure Blt (mg : Str → Option Value) : Prop where
  len : mg "len" = none
  range : mg "range" = none
  list : mg "list" = none
  tuple : mg "tuple" = none
  int : mg "int" = none
  bool : mg "bool" = none
  str : mg "str" = none
  abs : mg "abs" = none
  divmod : mg "divmod" = none
  enumerate : mg "enumerate" = none
  zip : mg "zip" = none
  sorted : mg "sorted" = none
  max : mg "max" = none
  min : mg "min" = none
  isinstance : mg "isinstance" = none
  all : mg "all" = none
theorem blt_mk {K : PySem.W.Frag} {mg : Str → Option Value} {h : Heap} (X : K.In h) (G : h.Ns mainGlobals mg) (z1 : PySem.W.nsIn K mainGlobals "len" = some none) (z2 : PySem.W.nsIn K mainGlobals "range" = some none) (z3 : PySem.W.nsIn K mainGlobals "list" = some none) (z4 : PySem.W.nsIn K mainGlobals "tuple" = some none) (z5 : PySem.W.nsIn K mainGlobals "int" = some none) (z6 : PySem.W.nsIn K mainGlobals "bool" = some none) (z7 : PySem.W.nsIn K mainGlobals "str" = some none) (z8 : PySem.W.nsIn K mainGlobals "abs" = some none)
    (z9 : PySem.W.nsIn K mainGlobals "divmod" = some none) (z10 : PySem.W.nsIn K mainGlobals "enumerate" = some none) (z11 : PySem.W.nsIn K mainGlobals "zip" = some none) (z12 : PySem.W.nsIn K mainGlobals "sorted" = some none) (z13 : PySem.W.nsIn K mainGlobals "max" = some none) (z14 : PySem.W.nsIn K mainGlobals "min" = some none) (z15 : PySem.W.nsIn K mainGlobals "isinstance" = some none) (z16 : PySem.W.nsIn K mainGlobals "all" = some none) : Blt mg :=
  ⟨PySem.W.mg_none_of X G z1, PySem.W.mg_none_of X G z2, PySem.W.mg_none_of X G z3, PySem.W.mg_none_of X G z4, PySem.W.mg_none_of X G z5, PySem.W.mg_none_of X G z6, PySem.W.mg_none_of X G z7, PySem.W.mg_none_of X G z8, PySem.W.mg_none_of X G z9, PySem.W.mg_none_of X G z10, PySem.W.mg_none_of X G z11, PySem.W.mg_none_of X G z12, PySem.W.mg_none_of X G z13, PySem.W.mg_none_of X G z14, PySem.W.mg_none_of X G z15, PySem.W.mg_none_of X G z16⟩
theorem bt_isinstance : bootBuiltins "isinstance" = some (.builtin "isinstance") := by decide +kernel
theorem bt_abs : bootBuiltins "abs" = some (.builtin "abs") := by decide +kernel
theorem bt_divmod : bootBuiltins "divmod" = some (.builtin "divmod") := by decide +kernel
theorem bt_max : bootBuiltins "max" = some (.builtin "max") := by decide +kernel
theorem bt_len : bootBuiltins "len" = some (.builtin "len") := by decide +kernel
theorem bt_list : bootBuiltins "list" = some (.type "list") := by decide +kernel
theorem bt_tuple : bootBuiltins "tuple" = some (.type "tuple") := by decide +kernel
theorem bt_int : bootBuiltins "int" = some (.type "int") := by decide +kernel
theorem bt_bool : bootBuiltins "bool" = some (.type "bool") := by decide +kernel
theorem bt_str : bootBuiltins "str" = some (.type "str") := by decide +kernel
theorem bt_range : bootBuiltins "range" = some (.type "range") := by decide +kernel
/-! ### heaps -/
/-- what was tracked is as it was, but for the things at bs -/
def Kp (bs : List Addr) (H H' : Hp) : Prop := ∀ c o, c ∉ bs → H c = some o → H' c = some o
theorem Kp.refl {bs : List Addr} {H : Hp} : Kp bs H H := fun _ _ _ h => h
theorem Kp.trans {bs : List Addr} {H H1 H2 : Hp} (a : Kp bs H H1) (b : Kp bs H1 H2) : Kp bs H H2 := fun c o n h => b c o n (a c o n h)
theorem Kp.new {bs : List Addr} {H : Hp} {p : Addr} (o : HO) (h : H p = none) : Kp bs H (upd H p o) := fun c u _ q => by rw [upd_ne (ne_of_none q h)]; exact q
theorem Kp.set {bs : List Addr} {H : Hp} {p : Addr} (o : HO) (h : p ∈ bs) : Kp bs H (upd H p o) := fun c u n q => by have hne : c ≠ p := (fun e => n (by rw [e]; exact h)); rw [upd_ne hne]; exact q
theorem Kp.mono {bs bs' : List Addr} {H H' : Hp} (a : Kp bs H H') (h : ∀ b ∈ bs, b ∈ bs') : Kp bs' H H' := fun c o n q => a c o (fun z => n (h c z)) q
theorem Kp.free {H H' : Hp} (e : Kp [] H H') {l : Addr} (h : H' l = Option.none) : H l = Option.none := by
  cases q : H l with
  | none => rfl
  | some o => rw [e l o (by simp) q] at h; cases h
/-- the box: three numbers -/
def Bx (H : Hp) (b : Addr) (N : Nat) : Prop := ∃ x y z : Int, H b = some (.lst [.int x, .int y, .int z]) ∧ 0 ≤ x ∧ 0 ≤ y ∧ y < 2147483648 ∧ 0 ≤ z ∧ z ≤ N
abbrev il (ns : List Int) : HO := .lst (ns.map V.int)
end L2

set_option Elab.async false
set_option linter.all false
set_option maxRecDepth 100000
set_option maxHeartbeats 4000000
namespace L2
open PySem PySem.Spec PyProof.Rows
theorem cxK {CX : CXT} {P : Program} {w : World} {K : PySem.W.Frag} {mg : Str → Option Value} {base : Heap} {N : List Str} {qual : Str} {scope : Scope} {f : Addr} {cd : Value} {A : Around} {outer : List Env} {s : Shared} {H : Hp} {E : XK} :
    (cxOf CX P w K mg base N qual scope f cd A outer s H E).K = K := rfl
def Loop (J : It) (g : TG) (tb : TS) (D : Ends) (σ : St) (H : Hp) : Prop := ∃ W : Nat → Nat → St → Hp → Prop, (∃ m, W 0 m σ H) ∧ ∀ i m σ H, W i m σ H →
  (J.stop i H ∧ D.nx σ H) ∨ (J.go i H ∧ ∃ N : St → Hp → Prop, (∀ σ' H', N σ' H' → ∃ m', m' < m ∧ W (i + 1) m' σ' H') ∧ ∀ x H', J.yld i H x H' → g x σ H' fun σ2 H2 => tb { D with nx := N, ct := N, bk := D.nx } σ2 H2)
theorem tFor_eq {wi : TI} {g : TG} {tb : TS} {D : Ends} {σ : St} {H : Hp} : tFor wi g tb D σ H = wi σ H (fun J H1 => Loop J g tb D σ H1) := rfl
def CLoop (J : It) (g : TG) (tt : TT) (te : TE) (D : Addr) (Q : VK) (τ : St) (H : Hp) : Prop := ∃ W : Nat → Nat → St → Hp → Prop, (∃ m, W 0 m τ H) ∧ ∀ i m τ H2, W i m τ H2 →
  (J.stop i H2 ∧ Q (.ref D) H2) ∨ (J.go i H2 ∧ ∃ N : St → Hp → Prop, (∀ τ' H', N τ' H' → ∃ m', m' < m ∧ W (i + 1) m' τ' H') ∧ ∀ x H', J.yld i H2 x H' → g x τ H' fun τ2 H3 => tt τ2 H3 fun b H4 =>
    if b = true then te τ2 H4 fun v H5 => ∃ ys, H5 D = some (.lst ys) ∧ ys.length < sizeLine ∧ N τ2 (upd H5 D (.lst (ys ++ [v]))) else N τ2 H4)
theorem tComp_eq {ts : List Nat} {wi : TI} {g : TG} {tt : TT} {te : TE} {σ : St} {H : Hp} {Q : VK} :
    tComp ts wi g tt te σ H Q = wi σ H (fun J H1 => ∀ D, H1 D = none → CLoop J g tt te D Q (clr ts σ) (upd H1 D (.lst []))) := rfl
theorem lp_range {lo : Int} {n : Nat} {g : TG} {tb : TS} {D : Ends} {σ : St} {H : Hp} (Pv : Nat → St → Hp → Prop) (h0 : Pv 0 σ H)
    (hs : ∀ i σ H, i < n → Pv i σ H → g (.int (lo + i)) σ H fun σ2 H2 => tb { D with nx := Pv (i + 1), ct := Pv (i + 1), bk := D.nx } σ2 H2) (hd : ∀ σ H, Pv n σ H → D.nx σ H) : Loop (Itr lo n) g tb D σ H := for_range Pv h0 hs hd
theorem lp_tup {K : PySem.W.Frag} {a : Addr} {xs : List V} {g : TG} {tb : TS} {D : Ends} {σ : St} {H : Hp} (Pv : Nat → St → Hp → Prop) (h0 : Pv 0 σ H) (hl : ∀ i σ H, i ≤ xs.length → Pv i σ H → SqT K H a xs)
    (hs : ∀ i x σ H, xs[i]? = some x → Pv i σ H → g x σ H fun σ2 H2 => tb { D with nx := Pv (i + 1), ct := Pv (i + 1), bk := D.nx } σ2 H2) (hd : ∀ σ H, Pv xs.length σ H → D.nx σ H) : Loop (Itt K a) g tb D σ H := for_tup Pv h0 hl hs hd
theorem lp_enum {K : PySem.W.Frag} {a : Addr} {xs : List V} {g : TG} {tb : TS} {D : Ends} {σ : St} {H : Hp} (Pv : Nat → St → Hp → Prop) (h0 : Pv 0 σ H) (hl : ∀ i σ H, i ≤ xs.length → Pv i σ H → SqL K H a xs)
    (hs : ∀ i x p σ H, xs[i]? = some x → H p = none → Pv i σ H → g (.ref p) σ (upd H p (.tup [.int i, x])) fun σ2 H2 => tb { D with nx := Pv (i + 1), ct := Pv (i + 1), bk := D.nx } σ2 H2) (hd : ∀ σ H, Pv xs.length σ H → D.nx σ H) : Loop (Ite K a) g tb D σ H := for_enum Pv h0 hl hs hd
theorem cl_range {lo : Int} {n : Nat} {g : TG} {tt : TT} {te : TE} {Q : VK} {τ : St} {H1 : Hp} {D : Addr} (Pv : Nat → St → Hp → Prop) (h0 : Pv 0 τ (upd H1 D (.lst [])))
    (hs : ∀ i τ H, i < n → Pv i τ H → g (.int (lo + i)) τ H fun τ2 H3 => tt τ2 H3 fun b H4 => if b = true then te τ2 H4 fun v H5 => ∃ ys, H5 D = some (.lst ys) ∧ ys.length < sizeLine ∧ Pv (i + 1) τ2 (upd H5 D (.lst (ys ++ [v]))) else Pv (i + 1) τ2 H4)
    (hd : ∀ τ H, Pv n τ H → Q (.ref D) H) : CLoop (Itr lo n) g tt te D Q τ (upd H1 D (.lst [])) := comp_range Pv h0 hs hd
theorem cl_list {K : PySem.W.Frag} {a : Addr} {xs : List V} {g : TG} {tt : TT} {te : TE} {Q : VK} {τ : St} {H1 : Hp} {D : Addr} (Pv : Nat → St → Hp → Prop) (h0 : Pv 0 τ (upd H1 D (.lst []))) (hl : ∀ i τ H, i ≤ xs.length → Pv i τ H → SqL K H a xs)
    (hs : ∀ i x τ H, xs[i]? = some x → Pv i τ H → g x τ H fun τ2 H3 => tt τ2 H3 fun b H4 => if b = true then te τ2 H4 fun v H5 => ∃ ys, H5 D = some (.lst ys) ∧ ys.length < sizeLine ∧ Pv (i + 1) τ2 (upd H5 D (.lst (ys ++ [v]))) else Pv (i + 1) τ2 H4)
    (hd : ∀ τ H, Pv xs.length τ H → Q (.ref D) H) : CLoop (Itl K a) g tt te D Q τ (upd H1 D (.lst [])) := comp_list Pv h0 hl hs hd
/-! ### three names at once -/
def tPar3 (i j k : Nat) (ta : TA) : TS := fun D σ H => ta σ H fun vs H1 => ∃ v w x, vs = [v, w, x] ∧ D.nx (((σ.set i (some v)).set j (some w)).set k (some x)) H1
theorem ps_par3 {X : Cx} {pos : Pos} {i j k : Nat} {x y z : Str} {a b c : Expr} {ta : TA} {px py pz pt : Pos} {kt k2 pt2} (hc : X.calm = true) (hN : X.N.Nodup) (hi : X.N[i]? = some x) (hj : X.N[j]? = some y) (hk : X.N[k]? = some z) (hij : i ≠ j) (hik : i ≠ k) (hjk : j ≠ k)
    (hx : X.env.scope.names.lookup x = some .local) (hy : X.env.scope.names.lookup y = some .local) (hz : X.env.scope.names.lookup z = some .local) (ha : PA X [a, b, c] ta)
    (hw : swappedStores [.Tuple [.Name x px, .Name y py, .Name z pz] kt pt] (.Tuple [a, b, c] k2 pt2) X.env = pure (some [x, y, z]))
    (hs : swapsWithSole [.Tuple [.Name x px, .Name y py, .Name z pz] kt pt] (.Tuple [a, b, c] k2 pt2) pos.line X.env = pure false := by rfl) :
    PS X (.Assign [.Tuple [.Name x px, .Name y py, .Name z pz] kt pt] (.Tuple [a, b, c] k2 pt2) pos) (tPar3 i j k ta) := by
  intro pins s σ H D I h
  rw [exec_Assign_arm]
  refine wpAny_bind (wpAny_standAt ?_)
  rw [hs]
  refine wpAny_bind (wpAny_pure ?_)
  rw [if_neg (by decide)]
  refine wpAny_bind (Tuple_ (thn (ha _ pins s σ H _ I h) fun us s1 ⟨vs, H1, I1, r1, q1⟩ => ?_))
  obtain ⟨v, w, v3, e1, q1⟩ := q1
  subst e1
  obtain ⟨u1, u2, u3, rfl, rv, rw', r3⟩ : ∃ u1 u2 u3, us = [u1, u2, u3] ∧ RelV v u1 ∧ RelV w u2 ∧ RelV v3 u3 := by
    cases r1 with
    | cons p q =>
      cases q with
      | cons p' q' =>
        cases q' with
        | cons p'' q'' =>
          cases q''
          exact ⟨_, _, _, rfl, p, p', p''⟩
  refine wpAny_newObj_type ?_ (by show 3 ≤ sizeLine; decide)
  have I2 : Inv X pins σ H1 { s1 with heap := s1.heap.push { cls := .type "tuple", data := .seq [u1, u2, u3].toArray } } := I1.kept (t' := s1.toks) fun b o e => Heap.get?_push_of_some _ e
  rw [hw]
  refine wpAny_bind (wpAny_pure ?_)
  show wpAny (model X.prog X.w) X.A (do rule "assign.swapped-stores"; let items ← unpackItems (.ref s1.heap.objs.size) 3 none; assignInOrder [fun v => bindName X.env z v, fun v => bindName X.env y v, fun v => bindName X.env x v] items.reverse; pure Flow.next) _ _ _
  refine wpAny_bind (wpAny_rule (wpAny_bind (unpackItems_tuple (items := #[u1, u2, u3]) (I.ok.hd hc) (IsTup.new s1.heap _) fun h' hx' => ?_)))
  have I3 := I2.kept (h' := h') (t' := s1.toks) fun b o e => hx' b o (Nat.ne_of_lt (Heap.lt_size e)) e
  show wpAny _ _ (assignInOrder [fun v => bindName X.env z v, fun v => bindName X.env y v, fun v => bindName X.env x v] [u3, u2, u1] >>= fun _ => pure Flow.next) _ _ _
  refine wpAny_bind (assignInOrder_cons (wpAny_bindName (store_ok I3 hN hk (.inl hz) r3 (fun s2 I4 => ?_) (.inr hz))))
  refine assignInOrder_cons (wpAny_bindName (store_ok I4 hN hj (.inl hy) rw' (fun s3 I5 => ?_) (.inr hy)))
  refine assignInOrder_cons (wpAny_bindName (store_ok I5 hN hi (.inl hx) rv (fun s4 I6 => assignInOrder_nil (wpAny_pure ?_)) (.inr hx)))
  rw [List.set_comm _ _ (Ne.symm hij), List.set_comm _ _ (Ne.symm hik), List.set_comm _ _ (Ne.symm hjk)] at I6
  refine ⟨_, H1, ?_, q1⟩
  first | exact I6 | (rw [List.set_comm _ _ hij] at I6; exact I6) | (have e : ∀ τ : St, ((τ.set k (some v3)).set j (some w)).set i (some v) = ((τ.set i (some v)).set j (some w)).set k (some v3) := fun τ => by rw [List.set_comm _ _ (Ne.symm hij), List.set_comm _ _ (Ne.symm hik), List.set_comm _ _ (Ne.symm hjk)]; exact I6)
end L2

set_option Elab.async false
set_option linter.all false
set_option maxRecDepth 100000
set_option maxHeartbeats 4000000
namespace L2
open PySem PySem.Spec PyProof.Rows
/-! ### a list of written numbers -/
def intsOf : List Expr → Option (List Int)
  | [] => some []
  | .Constant (.int i) _ _ :: r => (intsOf r).map (i :: ·)
  | _ => none
def tInts (is : List Int) : TA := fun _ H Q => Q (is.map V.int) H
theorem pa_ints {X : Cx} : ∀ {es : List Expr} {is : List Int}, intsOf es = some is → PA X es (tInts is)
  | [], is, h => by
    cases (show some [] = some is from h)
    exact pa_nil
  | .Constant (.int i) k p :: r, is, h => by
    obtain ⟨js, e, rfl⟩ := Option.map_eq_some_iff.mp (show (intsOf r).map (i :: ·) = some is from h)
    exact pa_cons (te := tC (.int i)) pe_int (pa_ints e)
theorem call_intB {X : Cx} : CallR X (.type "int") (fun xs H Q => ∃ k, xs = [.bl k] ∧ Q (.int (if k then 1 else 0)) H) := by
  intro pins s σ H xs us Q I r h
  exact call_int1 pins s σ H xs us Q I r (.inr h)
theorem Bx.mono {H : Hp} {b : Addr} {N M : Nat} (h : Bx H b N) (le : N ≤ M) : Bx H b M := let ⟨x, y, z, h1, h2, h3, h4, h5, h6⟩ := h; ⟨x, y, z, h1, h2, h3, h4, h5, by omega⟩
theorem Bx.new {H : Hp} {b p : Addr} {N : Nat} {o : HO} (h : Bx H b N) (hp : H p = none) : Bx (upd H p o) b N := let ⟨x, y, z, h1, r⟩ := h; ⟨x, y, z, (upd_ne (ne_of_none h1 hp)).trans h1, r⟩
theorem Bx.kp {H H' : Hp} {b : Addr} {N : Nat} (h : Bx H b N) (k : Kp [] H H') : Bx H' b N := let ⟨x, y, z, h1, r⟩ := h; ⟨x, y, z, k _ _ (by simp) h1, r⟩
theorem Bx.kps {H H' : Hp} {b p : Addr} {N : Nat} (h : Bx H b N) (k : Kp [p] H H') (hne : b ≠ p) : Bx H' b N := let ⟨x, y, z, h1, r⟩ := h; ⟨x, y, z, k _ _ (by simpa using hne) h1, r⟩
end L2

set_option Elab.async false
set_option linter.all false
set_option maxRecDepth 100000
set_option maxHeartbeats 4000000
namespace L2
open PySem PySem.Spec PyProof.Rows
/-! ### orders as lists of numbers -/
def IsOrd (n : Nat) (ns : List Int) : Prop := ns.length = n ∧ ns.Nodup ∧ ∀ x ∈ ns, 0 ≤ x ∧ x < (n : Int)
theorem IsOrd.nil : IsOrd 0 [] := ⟨rfl, List.nodup_nil, fun x h => nomatch h⟩
theorem insert_perm {α : Type} (xs : List α) (i : Nat) (y : α) : (xs.take i ++ y :: xs.drop i).Perm (y :: xs) := by
  refine (List.perm_middle).trans ?_
  rw [List.take_append_drop]
theorem IsOrd.insert {k : Nat} {ns : List Int} (h : IsOrd k ns) (i : Nat) : IsOrd (k + 1) (ns.take i ++ (k : Int) :: ns.drop i) := by
  obtain ⟨h1, h2, h3⟩ := h
  have pm := insert_perm ns i (k : Int)
  refine ⟨by rw [pm.length_eq, List.length_cons, h1], ?_, fun x hx => ?_⟩
  · refine pm.nodup_iff.mpr (List.nodup_cons.mpr ⟨fun hm => ?_, h2⟩)
    have := (h3 _ hm).2
    omega
  · rcases List.mem_cons.mp (pm.mem_iff.mp hx) with rfl | hx
    · omega
    · have := h3 x hx; omega
theorem nodup_le : ∀ (n : Nat) (l : List Int), l.Nodup → (∀ x ∈ l, 0 ≤ x ∧ x < (n : Int)) → l.length ≤ n
  | 0, l, _, h => by
    cases l with
    | nil => exact Nat.le_refl _
    | cons x r => have := h x List.mem_cons_self; omega
  | n + 1, l, hn, h => by
    have ih := nodup_le n (l.erase (n : Int)) (hn.erase _) (fun x hx => by
      have h1 := h x (List.mem_of_mem_erase hx)
      have h2 : x ≠ (n : Int) := fun e => by
        subst e
        exact (hn.not_mem_erase) hx
      omega)
    by_cases hm : (n : Int) ∈ l
    · rw [List.length_erase_of_mem hm] at ih; omega
    · rw [List.erase_of_not_mem hm] at ih; omega
theorem IsOrd.surj {n : Nat} {ns : List Int} (h : IsOrd n ns) {x : Int} (h0 : 0 ≤ x) (h1 : x < n) : x ∈ ns := by
  obtain ⟨l, d, b⟩ := h
  refine Classical.byContradiction fun hm => ?_
  have := nodup_le n (x :: ns) (List.nodup_cons.mpr ⟨hm, d⟩) (fun y hy => by
    rcases List.mem_cons.mp hy with rfl | hy
    · exact ⟨h0, h1⟩
    · exact b y hy)
  rw [List.length_cons, l] at this
  omega
theorem IsOrd.getD {n : Nat} {ns : List Int} (h : IsOrd n ns) {i : Nat} (hi : i < n) : 0 ≤ ns.getD i 0 ∧ ns.getD i 0 < n := by
  obtain ⟨l, d, b⟩ := h
  have hi' : i < ns.length := by omega
  have e : ns.getD i 0 = ns[i] := by rw [List.getD_eq_getElem?_getD, List.getElem?_eq_getElem hi']; rfl
  rw [e]
  exact b _ (List.getElem_mem hi')
theorem getD_eq {ns : List Int} {i : Nat} (h : i < ns.length) : ns.getD i 0 = ns[i] := by rw [List.getD_eq_getElem?_getD, List.getElem?_eq_getElem h]; rfl
theorem IsOrd.inj {n : Nat} {ns : List Int} (h : IsOrd n ns) {i j : Nat} (hi : i < n) (hj : j < n) (e : ns.getD i 0 = ns.getD j 0) : i = j := by
  obtain ⟨l, d, b⟩ := h
  rw [getD_eq (by omega), getD_eq (by omega)] at e
  exact (List.getElem_inj d).mp e
/-- an order by its places: bounded and no two alike -/
theorem isOrd_of {n : Nat} {ns : List Int} (l : ns.length = n) (b : ∀ i, i < n → 0 ≤ ns.getD i 0 ∧ ns.getD i 0 < n) (j : ∀ i k, i < n → k < n → ns.getD i 0 = ns.getD k 0 → i = k) : IsOrd n ns := by
  refine ⟨l, ?_, fun x hx => ?_⟩
  · rw [List.nodup_iff_pairwise_ne, List.pairwise_iff_getElem]
    intro i k hi hk hik e
    have := j i k (by omega) (by omega) (by rw [getD_eq hi, getD_eq hk]; exact e)
    omega
  · obtain ⟨i, hi, rfl⟩ := List.mem_iff_getElem.mp hx
    have := b i (by omega)
    rwa [getD_eq hi] at this
theorem IsOrd.ex {n : Nat} {ns : List Int} (h : IsOrd n ns) {j : Nat} (hj : j < n) : ∃ i, i < n ∧ ns.getD i 0 = (j : Int) := by
  have hm := h.surj (x := (j : Int)) (by omega) (by omega)
  obtain ⟨i, hi, e⟩ := List.mem_iff_getElem.mp hm
  exact ⟨i, by rw [← h.1]; exact hi, by rw [getD_eq hi]; exact e⟩
theorem rngL_getD (n : Nat) {i : Nat} (h : i < n) : (rngL 0 1 n).getD i 0 = (i : Int) := by
  rw [getD_eq (by rw [rngL_length]; exact h)]
  simp [rngL]
theorem IsOrd.rng (n : Nat) : IsOrd n (rngL 0 1 n) := by
  refine isOrd_of (rngL_length 0 1 n) (fun i hi => ?_) (fun i k hi hk e => ?_)
  · rw [rngL_getD n hi]; omega
  · rw [rngL_getD n hi, rngL_getD n hk] at e; omega
theorem Kp.drop1 {bs : List Addr} {H H' : Hp} {p : Addr} {o : HO} (hp : H p = none) (k : Kp (p :: bs) (upd H p o) H') : Kp bs H H' := fun c u n h => by
  have hne : c ≠ p := ne_of_none h hp
  refine k c u ?_ ((upd_ne hne).trans h)
  intro hm
  rcases List.mem_cons.mp hm with e | e
  · exact hne e
  · exact n e
theorem Bx.ne {H : Hp} {b p : Addr} {N : Nat} (h : Bx H b N) (hp : H p = none) : b ≠ p := let ⟨_, _, _, h1, _⟩ := h; ne_of_none h1 hp
theorem Bx.there {H : Hp} {b : Addr} {N : Nat} (h : Bx H b N) : ∃ o, H b = some o := let ⟨_, _, _, h1, _⟩ := h; ⟨_, h1⟩
theorem Bx.keep {H H' : Hp} {b : Addr} {N : Nat} {bs : List Addr} (h : Bx H b N) (k : Kp bs H H') (hb : b ∉ bs) : Bx H' b N := let ⟨x, y, z, h1, r⟩ := h; ⟨x, y, z, k _ _ hb h1, r⟩
theorem ext_getD {xs ys : List Int} (l : xs.length = ys.length) (h : ∀ i, i < xs.length → xs.getD i 0 = ys.getD i 0) : xs = ys := by
  refine List.ext_getElem l fun i h1 h2 => ?_
  have := h i h1
  rwa [getD_eq h1, getD_eq h2] at this
def rSetLO : V → V → V → Hp → (Hp → Prop) → Prop := fun o i v H Q => ∃ k, i = .int k ∧ ∃ p, o = .ref p ∧ ∃ xs, H p = some (.lst xs) ∧ ∃ j, ixN xs.length k = some j ∧ Q (upd H p (.lst (xs.set j v)))
section
variable {X : Cx}
theorem mr_append : MtR X "list.append" rAppend := mt_append
theorem pg_tupK {es : List Expr} {k : Nat} {t : TGs} {pos : Pos} {K : PySem.W.Frag} (n : Nat) (h : X.K = K) (hc : X.calm = true) (hs : PGs X es t) (hn : (assignEach es X.env).length = n := by rfl) (hst : (assignEach es X.env).findIdx? (·.1) = none := by rfl) : PG X (.Tuple es k pos) (gTup K n t) := h ▸ pg_tup hc hs hn hst
theorem set_listO : PSet X rSetLO := by
  intro pins s σ H o i v ov iv u Q I ro ri rv h
  obtain ⟨k, e1, p, e2, xs, h1, j, h2, q⟩ := h
  exact set_list pins s σ H o i v ov iv u Q I ro ri rv ⟨p, xs, k, j, e2, e1, h1, h2, q⟩
theorem ix_listK {K : PySem.W.Frag} (h : X.K = K) : IxR X (rIxL K) := h ▸ ix_list
theorem ix_tupK {K : PySem.W.Frag} (h : X.K = K) : IxR X (rIxT K) := h ▸ ix_tup
theorem sl_listK {K : PySem.W.Frag} (h : X.K = K) : SlR X (rSlL K) := h ▸ sl_list
theorem call_len_seqK {K : PySem.W.Frag} (h : X.K = K) : CallR X (.builtin "len") (fun xs H Q => ∃ p ys, xs = [.ref p] ∧ (SqL K H p ys ∨ SqT K H p ys) ∧ Q (.int ys.length) H) := h ▸ call_len_seq
end
end L2

set_option Elab.async false
set_option linter.all false
set_option maxRecDepth 100000
set_option maxHeartbeats 4000000
namespace L2
open PySem PySem.Spec PyProof.Rows
def aft (one other : List Int) : List Int := one.map fun x => other.getD x.toNat 0
theorem aft_length (a b : List Int) : (aft a b).length = a.length := List.length_map _
theorem aft_getD {a : List Int} (b : List Int) {i : Nat} (h : i < a.length) : (aft a b).getD i 0 = b.getD (a.getD i 0).toNat 0 := by
  rw [getD_eq (by rw [aft_length]; exact h), getD_eq h]
  exact List.getElem_map _
theorem IsOrd.aft {n : Nat} {a b : List Int} (ha : IsOrd n a) (hb : IsOrd n b) : IsOrd n (aft a b) := by
  refine isOrd_of (by rw [aft_length, ha.1]) (fun i hi => ?_) (fun i k hi hk e => ?_)
  · rw [aft_getD b (by rw [ha.1]; exact hi)]
    have := ha.getD hi
    exact hb.getD (by omega)
  · rw [aft_getD b (by rw [ha.1]; exact hi), aft_getD b (by rw [ha.1]; exact hk)] at e
    have h1 := ha.getD hi
    have h2 := ha.getD hk
    have := hb.inj (by omega) (by omega) e
    exact ha.inj hi hk (by omega)
/-- bs puts back what os does -/
def IsBack (os bs : List Int) : Prop := bs.length = os.length ∧ ∀ i, i < os.length → bs.getD (os.getD i 0).toNat 0 = (i : Int)
theorem IsBack.at {n : Nat} {os bs : List Int} (ho : IsOrd n os) (h : IsBack os bs) {j : Nat} (hj : j < n) : ∃ i : Nat, i < n ∧ os.getD i 0 = (j : Int) ∧ bs.getD j 0 = (i : Int) := by
  obtain ⟨i, hi, e⟩ := ho.ex hj
  refine ⟨i, hi, e, ?_⟩
  have := h.2 i (by rw [ho.1]; exact hi)
  rw [e, Int.toNat_natCast] at this
  exact this
theorem IsBack.ord {n : Nat} {os bs : List Int} (ho : IsOrd n os) (h : IsBack os bs) : IsOrd n bs := by
  refine isOrd_of (by rw [h.1, ho.1]) (fun j hj => ?_) (fun j k hj hk e => ?_)
  · obtain ⟨i, hi, _, e⟩ := h.at ho hj
    rw [e]; omega
  · obtain ⟨i, hi, e1, e2⟩ := h.at ho hj
    obtain ⟨i', hi', e1', e2'⟩ := h.at ho hk
    have : i = i' := by omega
    subst this
    omega
theorem IsBack.right {n : Nat} {os bs : List Int} (ho : IsOrd n os) (h : IsBack os bs) : aft os bs = rngL 0 1 n := by
  refine ext_getD (by rw [aft_length, rngL_length, ho.1]) fun i hi => ?_
  rw [aft_length] at hi
  rw [aft_getD bs hi, h.2 i hi, rngL_getD n (by rw [← ho.1]; exact hi)]
theorem IsBack.left {n : Nat} {os bs : List Int} (ho : IsOrd n os) (h : IsBack os bs) : aft bs os = rngL 0 1 n := by
  refine ext_getD (by rw [aft_length, rngL_length, h.1, ho.1]) fun j hj => ?_
  rw [aft_length, h.1, ho.1] at hj
  obtain ⟨i, hi, e1, e2⟩ := h.at ho hj
  rw [aft_getD os (by rw [h.1, ho.1]; exact hj), e2, Int.toNat_natCast, e1, rngL_getD n hj]
theorem IsBack.unique {n : Nat} {os bs cs : List Int} (ho : IsOrd n os) (h : IsBack os bs) (hc : cs.length = n) (e : aft os cs = rngL 0 1 n) : cs = bs := by
  refine ext_getD (by rw [hc, h.1, ho.1]) fun j hj => ?_
  obtain ⟨i, hi, e1, e2⟩ := h.at ho (by omega : j < n)
  have := congrArg (fun l => l.getD i 0) e
  rw [aft_getD cs (by rw [ho.1]; exact hi), e1, Int.toNat_natCast, rngL_getD n hi] at this
  rw [this, e2]
/-- rs has the things xs put by os -/
def IsPut (xs os rs : List Int) : Prop := rs.length = os.length ∧ ∀ i, i < os.length → rs.getD (os.getD i 0).toNat 0 = xs.getD i 0
theorem IsPut.unique {n : Nat} {xs os rs rs' : List Int} (ho : IsOrd n os) (h : IsPut xs os rs) (h' : IsPut xs os rs') : rs = rs' := by
  refine ext_getD (by rw [h.1, h'.1]) fun j hj => ?_
  obtain ⟨i, hi, e⟩ := ho.ex (j := j) (by rw [← ho.1, ← h.1]; exact hj)
  have a := h.2 i (by rw [ho.1]; exact hi)
  have b := h'.2 i (by rw [ho.1]; exact hi)
  rw [e, Int.toNat_natCast] at a b
  rw [a, b]
theorem IsPut.rng {n : Nat} {xs : List Int} (h : xs.length = n) : IsPut xs (rngL 0 1 n) xs := by
  refine ⟨by rw [rngL_length, h], fun i hi => ?_⟩
  rw [rngL_length] at hi
  rw [rngL_getD n hi, Int.toNat_natCast]
/-- so many times -/
def pwl (n : Nat) (b : List Int) : Nat → List Int
  | 0 => rngL 0 1 n
  | k + 1 => aft (pwl n b k) b
theorem pwl_ord {n : Nat} {b : List Int} (hb : IsOrd n b) : ∀ k, IsOrd n (pwl n b k)
  | 0 => IsOrd.rng n
  | k + 1 => (pwl_ord hb k).aft hb
end L2

set_option Elab.async false
set_option linter.all false
set_option maxRecDepth 100000
set_option maxHeartbeats 4000000
namespace L2
open PySem PySem.Spec PyProof.Rows
section
variable {X : Cx}
/-! ### a place of a list or a tuple -/
def rIxLT (K : PySem.W.Frag) : R2 := fun x y H Q => ∃ p xs i v, x = .ref p ∧ y = .int i ∧ (SqL K H p xs ∨ SqT K H p xs) ∧ atI xs i = some v ∧ Q v H
/-! ### all of a list of truths -/
theorem bt_all : bootBuiltins "all" = some (.builtin "all") := by decide +kernel
theorem vals_bools : ∀ {bs : List Bool} {us : List Value}, Vals (bs.map V.bl) us → us = bs.map Value.bool
  | [], _, h => by cases h; rfl
  | b :: bs, _, h => by
    cases h with
    | cons r rs => cases r; rw [vals_bools rs]; rfl
theorem range_allB (bs : List Bool) : ((List.range bs.length).all fun i => (bs[i]?).getD true) = bs.all id := by
  rw [Bool.eq_iff_iff, List.all_eq_true, List.all_eq_true]
  constructor
  · intro h x hx
    obtain ⟨i, hi, rfl⟩ := List.getElem_of_mem hx
    have := h i (by simpa using hi)
    simpa [List.getElem?_eq_getElem hi] using this
  · intro h i hi
    have hi' : i < bs.length := by simpa using hi
    simpa [List.getElem?_eq_getElem hi'] using h bs[i] (List.getElem_mem hi')
theorem call_allB (hc : X.calm = true) : CallR X (.builtin "all") (fun xs H Q => ∃ p bs, xs = [.ref p] ∧ SqL X.K H p (List.map V.bl bs) ∧ Q (.bl (bs.all id)) H) := by
  intro pins s σ H xs us Q I r h
  obtain ⟨p, bs, rfl, hq, q⟩ := h
  obtain ⟨u, rfl, rx⟩ := vals1 r
  cases rx
  obtain ⟨its, rv, pl, hz⟩ := I.list hq
  have hu := vals_bools rv
  subst hu
  have hlt : p < s.heap.objs.size := by obtain ⟨_, e, _⟩ := pl.isList; exact Heap.lt_size e
  refine call_all_walk (wpAny_pyIter_list pl.isList ?_)
  refine ⟨s.heap.objs.size, [s.heap.objs.size, p], [s.heap.objs.size], (bs.map Value.bool).toArray.size, _, _, fun i => (bs[i]?).getD true, rfl, Walks.list (A := X.A.in1) (I.ok.hd hc) _ p (Nat.ne_of_lt hlt) (bs.map Value.bool).toArray,
    ⟨⟨_, Heap.get?_push_size _ rfl, rfl, rfl⟩, pl.isList.push _⟩, fun i v s' Q' E' hP hQ => ?_, fun h' tk hk => ?_⟩
  · have hP' : (bs.map Value.bool)[i]? = some v := by simpa using hP
    rw [List.getElem?_map] at hP'
    cases e : bs[i]? with
    | none => rw [e] at hP'; cases hP'
    | some b =>
      rw [e] at hP'
      cases hP'
      simp only [e, Option.getD_some] at hQ
      exact wpAny_truthy_bool hQ
  · have e : ((List.range (bs.map Value.bool).toArray.size).all fun i => (bs[i]?).getD true) = bs.all id := by
      rw [List.size_toArray, List.length_map]; exact range_allB bs
    rw [e]
    refine ⟨.bl (bs.all id), H, I.turnedL (ch := []) (tk := tk) (fun b hb => nomatch hb) (fun b o _ eb => ?_), rfl, q⟩
    exact hk b o (fun hm => by rw [List.mem_singleton.mp hm] at eb; exact Nat.lt_irrefl _ (Heap.lt_size eb)) (Heap.get?_push_of_some _ eb)
end
/-! ### a comprehension over zip -/
end L2

set_option Elab.async false
set_option linter.all false
set_option maxRecDepth 100000
set_option maxHeartbeats 4000000
namespace L2
open PySem PySem.Spec PyProof.Rows
/-! ### going by an order, and walks -/
def nxt (os : List Int) (p : Int) : Int := os.getD p.toNat 0
def itn (os : List Int) : Nat → Int → Int
  | 0, p => p
  | k + 1, p => nxt os (itn os k p)
theorem itn_bd {n : Nat} {os : List Int} (h : IsOrd n os) {p : Int} (p0 : 0 ≤ p) (p1 : p < n) : ∀ k, 0 ≤ itn os k p ∧ itn os k p < n
  | 0 => ⟨p0, p1⟩
  | k + 1 => by
    have := itn_bd h p0 p1 k
    exact h.getD (by omega)
theorem itn_add (os : List Int) (p : Int) (b : Nat) : ∀ a, itn os (a + b) p = itn os a (itn os b p)
  | 0 => by rw [Nat.zero_add]; rfl
  | a + 1 => by
    rw [show a + 1 + b = (a + b) + 1 by omega]
    show nxt os (itn os (a + b) p) = nxt os (itn os a (itn os b p))
    rw [itn_add os p b a]
theorem nxt_inj {n : Nat} {os : List Int} (h : IsOrd n os) {x y : Int} (x0 : 0 ≤ x) (x1 : x < n) (y0 : 0 ≤ y) (y1 : y < n) (e : nxt os x = nxt os y) : x = y := by
  have := h.inj (i := x.toNat) (j := y.toNat) (by omega) (by omega) e
  omega
theorem itn_inj {n : Nat} {os : List Int} (h : IsOrd n os) {x y : Int} (x0 : 0 ≤ x) (x1 : x < n) (y0 : 0 ≤ y) (y1 : y < n) : ∀ k, itn os k x = itn os k y → x = y
  | 0, e => e
  | k + 1, e => by
    have bx := itn_bd h x0 x1 k
    have by' := itn_bd h y0 y1 k
    exact itn_inj h x0 x1 y0 y1 k (nxt_inj h bx.1 bx.2 by'.1 by'.2 e)
theorem itn_ret {n : Nat} {os : List Int} (h : IsOrd n os) {p : Int} (p0 : 0 ≤ p) (p1 : p < n) : ∃ M, 1 ≤ M ∧ M ≤ n ∧ itn os M p = p := by
  apply Classical.byContradiction
  intro hno
  have hp : ((List.range (n + 1)).map fun i => itn os i p).Nodup := by
    rw [List.Nodup, List.pairwise_map]
    refine List.Pairwise.imp_of_mem (R := fun a b => a < b) ?_ List.pairwise_lt_range
    intro a b ha hb hlt e
    have hb' : b < n + 1 := by simpa using hb
    refine hno ⟨b - a, by omega, by omega, ?_⟩
    have bb := itn_bd h p0 p1 (b - a)
    refine (itn_inj h p0 p1 bb.1 bb.2 a ?_).symm
    rw [← itn_add, show a + (b - a) = b by omega]
    exact e
  have := nodup_le n _ hp (fun x hx => by
    obtain ⟨i, _, rfl⟩ := List.mem_map.mp hx
    exact itn_bd h p0 p1 i)
  rw [List.length_map, List.length_range] at this
  omega
/-- a walk of m steps that ends at e -/
def IsWalk (os : List Int) (p : Int) (m : Nat) (e : Int) : Prop := 1 ≤ m ∧ e = itn os m p ∧ e ≤ p ∧ ∀ j, 1 ≤ j → j < m → p < itn os j p
theorem IsWalk.uniq {os : List Int} {p : Int} {m m' : Nat} {e e' : Int} (h : IsWalk os p m e) (h' : IsWalk os p m' e') : m = m' ∧ e = e' := by
  obtain ⟨a1, a2, a3, a4⟩ := h
  obtain ⟨b1, b2, b3, b4⟩ := h'
  have : m = m' := by
    rcases Nat.lt_trichotomy m m' with z | z | z
    · have := b4 m a1 z; omega
    · exact z
    · have := a4 m' b1 z; omega
  subst this
  exact ⟨rfl, a2.trans b2.symm⟩
open Classical in
noncomputable def wkM (os : List Int) (p : Int) : Nat := if h : ∃ m, ∃ e, IsWalk os p m e then Classical.choose h else 0
open Classical in
noncomputable def wkE (os : List Int) (p : Int) : Int := itn os (wkM os p) p
theorem IsWalk.wkM {os : List Int} {p : Int} {m : Nat} {e : Int} (h : IsWalk os p m e) : wkM os p = m := by
  have hx : ∃ m, ∃ e, IsWalk os p m e := ⟨m, e, h⟩
  obtain ⟨e', h'⟩ := Classical.choose_spec hx
  unfold L2.wkM
  rw [dif_pos hx]
  exact (h'.uniq h).1
theorem IsWalk.wkE {os : List Int} {p : Int} {m : Nat} {e : Int} (h : IsWalk os p m e) : wkE os p = e := by
  unfold L2.wkE
  rw [h.wkM]
  exact h.2.1.symm
end L2

set_option Elab.async false
set_option linter.all false
set_option maxRecDepth 100000
set_option maxHeartbeats 4000000
namespace L2
open PySem PySem.Spec PyProof.Rows
theorem Df.or {P : Program} {w : World} {K : PySem.W.Frag} {mg : Str → Option Value} {base : Heap} {x : Str} {ps : List Str} {k : Nat} {sp sp' : Sp} (D : Df P w K mg base x ps k sp) (D' : Df P w K mg base x ps k sp') : Df P w K mg base x ps k (fun vs H Q E => sp vs H Q E ∨ sp' vs H Q E) := by
  obtain ⟨f, fd, F, b, kp, m, oc, od, osl, lk⟩ := D
  obtain ⟨f', fd', F', b', kp', m', oc', od', osl', lk'⟩ := D'
  rw [m] at m'
  cases m'
  rw [lk] at lk'
  cases lk'
  exact ⟨f, fd, ⟨fun vs H Q E h => h.elim (F.len _ _ _ _) (F'.len _ _ _ _), fun A outer s H args us vs Q E hr he hb hv hs => hs.elim (F.run A outer s H args us vs Q E hr he hb hv) (F'.run A outer s H args us vs Q E hr he hb hv)⟩, b, kp, m, oc, od, osl, lk⟩
end L2

set_option Elab.async false
set_option linter.all false
set_option maxRecDepth 100000
set_option maxHeartbeats 4000000
namespace L2
open PySem PySem.Spec PyProof.Rows
/-! ### enumerate of a tuple -/
section
variable {P : Program} {w : World} {A : Around} {E : Value → Shared → Prop} {s : Shared} {j t : Addr} {i : Nat} {its : Array Value} {Q : Value → Shared → Prop}
theorem nextTup_item {x : Value} (hj : s.heap.IsTupleIter j t i) (ht : s.heap.IsTuple t its) (hx : its[i]? = some x) (hQ : ∀ h', h'.IsTupleIter j t (i + 1) → Heap.SameBut j s.heap h' → Q x { s with heap := h' }) : wpAny (model P w) A (Builtin.SmallTypes.nextOf (.ref j)) Q E s := by
  obtain ⟨o, ho, hc, hd⟩ := id hj
  obtain ⟨ot, hot, _, nt, hdt⟩ := ht
  unfold Builtin.SmallTypes.nextOf
  refine wpAny_bind (wpAny_callSpecial?_slot (name := Str.ofString "__next__") hj.typeIs F.slot_tuple_iterator_next (wpAny_call_entry F.slot_tuple_iterator_next hj.typeIs F.entry_tuple_iterator_next ?_ (F.args_tuple_iterator_next_1 _)))
  refine wpAny_bind (m := field (.ref j) 0) (wpAny_field ho hd (x := .ref t) rfl ?_); show wpAny _ _ (if (Value.ref t == Value.none) = true then _ else _) _ _ s; rw [if_neg (show ¬ ((Value.ref t == Value.none) = true) from Bool.false_ne_true)]
  refine wpAny_bind (m := field (.ref j) 1) (wpAny_field ho hd (x := .int i 0) rfl ?_); refine wpAny_bind (m := seqItems? (.ref t)) (wpAny_seqItems hot hdt ?_); simp only [Int.toNat_natCast, hx]
  refine wpAny_bind (wpAny_setField ho hd (by simp) (wpAny_pure ⟨x, rfl, wpAny_pure (hQ _ ⟨_, Heap.get?_update_self _ ho (Obj.isFreed_of_fields (Obj.data_mapFields hd _)), (Obj.cls_mapFields ..).trans hc, by rw [Obj.data_mapFields hd]; simp [rawInt]⟩ (Heap.SameBut.update ..))⟩))
theorem nextTup_end (hh : A.handled = none) (hj : s.heap.IsTupleIter j t i) (ht : s.heap.IsTuple t its) (hx : its[i]? = none) (hE : ∀ h' e, Heap.ExtBut j s.heap h' → (∃ o, h'.get? e = some o ∧ o.cls = .type "StopIteration") → E (.ref e) { s with heap := h' }) : wpAny (model P w) A (Builtin.SmallTypes.nextOf (.ref j)) Q E s := by
  obtain ⟨o, ho, hc, hd⟩ := id hj
  obtain ⟨ot, hot, _, nt, hdt⟩ := ht
  unfold Builtin.SmallTypes.nextOf
  refine wpAny_bind (wpAny_callSpecial?_slot (name := Str.ofString "__next__") hj.typeIs F.slot_tuple_iterator_next (wpAny_call_entry F.slot_tuple_iterator_next hj.typeIs F.entry_tuple_iterator_next ?_ (F.args_tuple_iterator_next_1 _)))
  refine wpAny_bind (m := field (.ref j) 0) (wpAny_field ho hd (x := .ref t) rfl ?_); show wpAny _ _ (if (Value.ref t == Value.none) = true then _ else _) _ _ s; rw [if_neg (show ¬ ((Value.ref t == Value.none) = true) from Bool.false_ne_true)]
  refine wpAny_bind (m := field (.ref j) 1) (wpAny_field ho hd (x := .int i 0) rfl ?_); refine wpAny_bind (m := seqItems? (.ref t)) (wpAny_seqItems hot hdt ?_); simp only [Int.toNat_natCast, hx]
  refine wpAny_bind (wpAny_rule (wpAny_bind (wpAny_setField ho hd (by simp) ?_))); refine wpAny_bind (m := newExc (.type "StopIteration") []) ?_; simp only [newExc, newTuple]; refine wpAny_bind (wpAny_newObj_type ?_ (by size_fits)); refine wpAny_bind (m := firstArgMember _ _) (wpAny_of_eq (a := Value.none) (by first | rfl | (simp only [firstArgMember]; rfl)) ?_); refine wpAny_newObj_type ?_ (by size_fits); simp only [raiseNew]; refine wpAny_bind (wpAny_handled ?_)
  (first | rw [show A.in1.handled = none from hh] | rw [hh]); refine wpAny_bind (wpAny_pure (wpAny_throw ?_)); exact hE _ _ (((Heap.SameBut.update ..).extBut.push _).push _) ⟨_, Heap.get?_push_size _ rfl, rfl⟩
end
theorem draws_tup {P : Program} {w : World} {A : Around} (hh : A.handled = none) (j t : Addr) (hne : t ≠ j) (its : Array Value) :
    Draws P w A j [j, t] its.size (fun i v => its[i]? = some v) (fun i h => h.IsTupleIter j t i ∧ h.IsTuple t its) where
  live := fun _ _ st => let ⟨o, ho, _⟩ := st.1; ⟨o, ho⟩
  frame := fun _ _ _ st hk => ⟨st.1.at fun o e => hk j (by simp) o e, let ⟨o, ho, r⟩ := st.2; ⟨o, hk t (by simp) o ho, r⟩⟩
  item := fun i s Q E hi st hQ => by
    refine nextTup_item st.1 st.2 (x := its[i]) (by simp [hi]) fun h' hit' hs' => ?_
    exact hQ _ h' s.toks (by simp [hi]) ⟨hit', let ⟨o, ho, r⟩ := st.2; ⟨o, (hs'.2 t hne).trans ho, r⟩⟩ hs'
  done := fun s Q E st hE => nextTup_end hh st.1 st.2 (by simp) hE
open AutoSeq1 (wpAny_loadPart') in
theorem enum_newT (l : Addr) (its : Array Value) (n : Nat) (dct : Option Addr) (sl : Array (Option Value)) :
    Meets (Builtin.«enumerate.__new__» ⟨[.type "enumerate", .ref l], []⟩) (fun _ R s => s.heap.get? l = some { cls := .type "tuple", dict := dct, data := .seq its n, slots := sl } ∧ R (.ok (.ret (.ref (s.heap.push { cls := .type "tuple_iterator", data := .fields #[.ref l, .int 0 0] }).objs.size))) { s with heap := (s.heap.push { cls := .type "tuple_iterator", data := .fields #[.ref l, .int 0 0] }).push { cls := .type "enumerate", data := .fields #[.none, .bool false, .ref s.heap.objs.size, rawInt 0, .none, .none] } }) :=
  .of_wp fun prog w A R s h => by
    obtain ⟨hp, g, d, tk, os⟩ := s
    obtain ⟨hl, h⟩ := h
    have hsub := sub_enumerate
    have hT : Heap.IsTuple (Shared.heap ⟨hp, g, d, tk, os⟩) l its := ⟨_, hl, rfl, n, rfl⟩
    wp_walk using wpAny_loadPart' hl
    refine wpAny_stack_any fun st => wpAny_pure ?_
    split
    · rename_i c _ _ _ _ _
      cases (c == Value.type "enumerate")
      · wp_walk using wpAny_loadPart' hl, wpAny_pyIter_tuple hT; exact ⟨_, rfl, h⟩
      · wp_walk using wpAny_loadPart' hl, wpAny_pyIter_tuple hT; exact ⟨_, rfl, h⟩
    · wp_walk using wpAny_loadPart' hl, wpAny_pyIter_tuple hT; exact ⟨_, rfl, h⟩
theorem call_enumT {P : Program} {w : World} {A : Around} {E : Value → Shared → Prop} {s : Shared} {l : Addr} {its : Array Value} {Q : Value → Shared → Prop} (hT : s.heap.IsTuple l its)
    (h : ∀ h', IsEnum h' (s.heap.objs.size + 1) s.heap.objs.size 0 .none → h'.IsTupleIter s.heap.objs.size l 0 → (∀ b o, s.heap.get? b = some o → h'.get? b = some o) → Q (.ref (s.heap.objs.size + 1)) { s with heap := h' }) :
    wpAny (model P w) A (call (.type "enumerate") [.ref l]) Q E s := by
  obtain ⟨⟨c, dct, dt, sl⟩, hl, hc, n, hd⟩ := hT
  replace hc : c = .type "tuple" := hc
  replace hd : dt = .seq its n := hd
  subst hc hd
  refine callType_new F.called_enumerate (by decide) (F.typeCall_enumerate_1 _) (F.newCall_enumerate_1 _) (fun obj => F.args_object_init_2 obj _) F.entry_enumerate_new (enum_newT l its n dct sl) ⟨hl, ?_⟩
  have hz : (s.heap.push { cls := .type "tuple_iterator", data := .fields #[.ref l, .int 0 0] }).objs.size = s.heap.objs.size + 1 := Heap.size_push ..
  show _ ∧ _
  rw [hz]
  have he : IsEnum ((s.heap.push { cls := .type "tuple_iterator", data := .fields #[.ref l, .int 0 0] }).push { cls := .type "enumerate", data := .fields #[.none, .bool false, .ref s.heap.objs.size, rawInt 0, .none, .none] }) (s.heap.objs.size + 1) s.heap.objs.size 0 .none := by
    have hg := Heap.get?_push_size (s.heap.push { cls := .type "tuple_iterator", data := .fields #[.ref l, .int 0 0] }) (o := { cls := .type "enumerate", data := .fields #[.none, .bool false, .ref s.heap.objs.size, rawInt 0, .none, .none] }) rfl
    rw [hz] at hg; exact hg
  exact ⟨⟨_, he, rfl⟩, h _ he ⟨_, Heap.get?_push_of_some _ (Heap.get?_push_size _ rfl), rfl, rfl⟩ fun b o x => Heap.get?_push_of_some _ (Heap.get?_push_of_some _ x)⟩
theorem enumT_end {P : Program} {w : World} {A : Around} {E : Value → Shared → Prop} {s : Shared} {e j t : Addr} {i : Nat} {its : Array Value} {old : Value} {Q : Option Value → Shared → Prop} (hh : A.handled = none)
    (he : IsEnum s.heap e j i old) (hj : s.heap.IsTupleIter j t i) (ht : s.heap.IsTuple t its) (hx : its[i]? = none) (hQ : ∀ h', Heap.ExtBut j s.heap h' → Q none { s with heap := h' }) : wpAny (model P w) A (pyNext (.ref e)) Q E s := by
  have hT : s.TypeIs (.ref e) "enumerate" := ⟨_, he, rfl⟩
  unfold pyNext
  refine wpAny_bind (wpAny_attempt (wpAny_callSpecial?_slot (name := Str.ofString "__next__") hT F.slot_enumerate_next (wpAny_call_entry F.slot_enumerate_next hT F.entry_enumerate_next ?_ (F.args_enumerate_next_1 _))))
  refine wpAny_bind (m := field (.ref e) 2) (wpAny_field he rfl (x := .ref j) rfl ?_); refine wpAny_bind (nextTup_end hh hj ht hx fun h' x he' hx' => ?_)
  obtain ⟨o, ho, hc⟩ := hx'
  refine wpAny_bind (wpAny_isInstance (T := "StopIteration") (b := true) ⟨o, ho, hc⟩ isSubtype_stop ?_); exact wpAny_pure (hQ _ he')
def IteT (K : PySem.W.Frag) (a : Addr) : It :=
  ⟨fun i H => ∃ xs x, SqT K H a xs ∧ xs[i]? = some x, fun i H y H' => ∃ p x, H p = none ∧ y = .ref p ∧ (∀ xs, SqT K H a xs → xs[i]? = some x) ∧ H' = upd H p (.tup [.int i, x]), fun i H => ∃ xs, SqT K H a xs ∧ xs.length ≤ i⟩
theorem turn_enumT {P : Program} {w : World} {K : PySem.W.Frag} {es : List Expr} {kt : Nat} {tp : Pos} (a e it : Addr) (hei : e ≠ it) (hea : e ≠ a) (hai : a ≠ it) : Turn P w K (.Tuple es kt tp) (IteT K a) [e, it] e (fun i h => (∃ old, IsEnum h e it (i : Nat) old) ∧ h.IsTupleIter it a i) where
  mem := by simp
  obj := fun i h st b hb => by
    obtain ⟨⟨old, he⟩, ⟨o, e1, c, d⟩⟩ := st
    rcases List.mem_cons.mp hb with rfl | hb
    · exact ⟨_, he, fun v z => by have z' : Data.fields _ = Data.cell v := z; cases z'⟩
    · have e2 : b = it := by simpa using hb
      subst e2
      exact ⟨o, e1, fun v z => by rw [d] at z; cases z⟩
  keep := fun i h h' st k => by
    obtain ⟨⟨old, he⟩, st⟩ := st
    exact ⟨⟨old, k e (by simp) _ he⟩, st.at fun o e => k it (by simp) o e⟩
  item := by
    intro X hP hw hK hc i pins s σ H E I hf st hg
    subst hP hw hK
    obtain ⟨⟨old, he⟩, st⟩ := st
    obtain ⟨xs, x, hq, hx⟩ := hg
    obtain ⟨its, rv, p, hz⟩ := I.tuple hq
    obtain ⟨u, hu, ru⟩ := rv.get hx
    have hlt : i < its.toArray.size := by
      have := (List.getElem?_eq_some_iff.mp hu).1
      simpa using this
    refine wpAny_pyNext_enum_itemD (draws_tup (A := X.A.in1) (I.ok.hd hc) it a hai its.toArray) he ⟨st, p⟩ hlt hei (by simp [hei, hea]) fun x' h1 tk hP heo hit1 ht1 hz1 hk1 => ?_
    have hxu : x' = u := by
      have h1' : its[i]? = some x' := by simpa using hP
      rw [hu] at h1'; cases h1'; rfl
    subst hxu
    refine ⟨.ref s.heap.objs.size, rfl, wpAny_letOwnedTupleGo_enum heo fun h2 he2 hs2 => ?_⟩
    replace hs2 : Heap.SameBut e h1 h2 := hs2
    have elt : e < s.heap.objs.size := Heap.lt_size he
    have ht2 := (hs2.2 _ (Nat.ne_of_gt elt)).trans ht1
    have I2 : Inv X pins σ (upd H s.heap.objs.size (.tup [.int i, x])) { s with heap := h2, toks := tk + 1 } := by
      refine I.yieldTup (us := [.int i tk, x']) hf (fun b o hb q => ?_) (Nat.le_refl _) ht2 (.cons ⟨_, rfl⟩ (.cons ru .nil)) (by show 2 ≤ sizeLine; decide)
      have n1 : b ≠ e := fun z => hb (by simp [z])
      have n2 : b ≠ it := fun z => hb (by simp [z])
      exact (hs2.2 b n1).trans (hk1 b o n1 n2 q)
    refine ⟨.ref s.heap.objs.size, _, I2, rfl, ⟨s.heap.objs.size, x, I.hok.fresh (Nat.le_refl _), rfl, fun ys hy => by rw [I.tuple_inj hy hq]; exact hx, rfl⟩, ⟨⟨_, by simpa using he2⟩, hit1.1.extBut hs2.extBut (Ne.symm hei)⟩, fun b hb => ?_⟩
    have hlt : b < s.heap.objs.size := by
      rcases List.mem_cons.mp hb with rfl | hb
      · exact elt
      · have e2 : b = it := by simpa using hb
        subst e2
        obtain ⟨o, e1, _⟩ := st
        exact Heap.lt_size e1
    rw [upd_ne (Nat.ne_of_lt hlt)]
    exact (hf b hb).1
  done := by
    intro X hP hw hK hc i pins s σ H E I hf st hg
    subst hP hw hK
    obtain ⟨⟨old, he⟩, st⟩ := st
    obtain ⟨xs, hq, hx⟩ := hg
    obtain ⟨its, rv, p, hz⟩ := I.tuple hq
    obtain ⟨f0, f1, f2, f3, f4, f5⟩ := hf it (by simp)
    have hl := rv.length
    exact enumT_end (I.ok.hd hc) he st p (by simp; omega) fun h' eb => ⟨rfl, I.turned (t' := s.toks) (fun b o hb e => eb b o hb e) f0 f1 f3 f4 f5⟩
  self := fun _ _ _ _ _ st h => by
    obtain ⟨⟨old, he⟩, _⟩ := st
    exact wpAny_pyIter_enum he h
section
variable {X : Cx} {es : List Expr} {kt : Nat} {tp : Pos}
/-- enumerate of a list or a tuple -/
def iEnumLT (K : PySem.W.Frag) (ta : TA) : TI := fun σ H R => ta σ H fun vs H1 => ∃ a, vs = [.ref a] ∧ (((∃ xs, SqL K H1 a xs) ∧ R (Ite K a) H1) ∨ ((∃ xs, SqT K H1 a xs) ∧ R (IteT K a) H1))
theorem pi_enumLT {e : Expr} {ta : TA} {p pos : Pos} (hg : Gl X "enumerate") (hm : X.mg "enumerate" = none) (ha : PA X [e] ta) (hs : starEach [e] X.env = [(false, eval e X.env)] := by rfl) :
    PI X (.Tuple es kt tp) (.Call (.Name "enumerate" p) [e] [] pos) (iEnumLT X.K ta) := by
  intro pins s σ H R I h
  refine Call_ (ld_blt I hg hm (boot_enumT) (PyProof.Rows.callWith_type1 (thn (ha pos pins s σ H _ I h) fun us s1 ⟨vs, H1, I1, r1, q1⟩ => ?_) hs rfl))
  obtain ⟨a, e, q⟩ := q1
  subst e
  obtain ⟨u, rfl, ru⟩ := vals1 r1
  cases ru
  have hb' : ∀ b ∈ [s1.heap.objs.size + 1, s1.heap.objs.size], s1.heap.objs.size ≤ b := by
    intro b hb
    simp only [List.mem_cons, List.not_mem_nil, or_false] at hb
    omega
  rcases q with ⟨⟨xs, hq⟩, q⟩ | ⟨⟨xs, hq⟩, q⟩
  · obtain ⟨its, rv, pl, hz⟩ := I1.list hq
    refine call_enumerate_list pl.isList fun h' he hit hsz hk => wpAny_pyIter_enum he ?_
    have I2 : Inv X pins σ H1 { s1 with heap := h' } := I1.kept (t' := s1.toks) hk
    exact ⟨s1.heap.objs.size + 1, [s1.heap.objs.size + 1, s1.heap.objs.size], _, _, H1, rfl, I2, turn_enum a _ _ (Nat.succ_ne_self _), ⟨⟨_, he⟩, hit⟩, fun b hb => I1.fpOk (hb' b hb) (I1.hok.fresh (hb' b hb)), q⟩
  · obtain ⟨its, rv, pl, hz⟩ := I1.tuple hq
    have alt : a < s1.heap.objs.size := by obtain ⟨o, e, _⟩ := pl; exact Heap.lt_size e
    refine call_enumT pl fun h' he hit hk => wpAny_pyIter_enum he ?_
    have I2 : Inv X pins σ H1 { s1 with heap := h' } := I1.kept (t' := s1.toks) hk
    exact ⟨s1.heap.objs.size + 1, [s1.heap.objs.size + 1, s1.heap.objs.size], _, _, H1, rfl, I2, turn_enumT a (s1.heap.objs.size + 1) s1.heap.objs.size (Nat.succ_ne_self _) (Nat.ne_of_gt (Nat.lt_succ_of_lt alt)) (Nat.ne_of_lt alt), ⟨⟨_, he⟩, hit⟩, fun b hb => I1.fpOk (hb' b hb) (I1.hok.fresh (hb' b hb)), q⟩
end
theorem sqT_kp {K : PySem.W.Frag} {H H' : Hp} {a : Addr} {xs : List V} (h : SqT K H a xs) (e : Kp [] H H') : SqT K H' a xs := by
  rcases h with (h | ⟨o, h⟩) | h
  · exact .inl (.inl (e _ _ (by simp) h))
  · exact .inl (.inr ⟨o, e _ _ (by simp) h⟩)
  · exact .inr h
theorem sqL_kp {K : PySem.W.Frag} {H H' : Hp} {a : Addr} {xs : List V} (h : SqL K H a xs) (e : Kp [] H H') : SqL K H' a xs := by
  rcases h with (h | ⟨o, h⟩) | h
  · exact .inl (.inl (e _ _ (by simp) h))
  · exact .inl (.inr ⟨o, e _ _ (by simp) h⟩)
  · exact .inr h
end L2

set_option Elab.async false
set_option linter.all false
set_option maxRecDepth 100000
set_option maxHeartbeats 4000000
namespace L2
open PySem PySem.Spec PyProof.Rows
/-! ### both ways by turns -/
def bval (os bs : List Int) (p : Int) (s : Nat) : Int := if s % 2 = 1 then itn os ((s + 1) / 2) p else itn bs (s / 2) p
def IsBoth (os bs : List Int) (p : Int) (s : Nat) : Prop := 1 ≤ s ∧ bval os bs p s ≤ p ∧ ∀ j, 1 ≤ j → j < s → p < bval os bs p j
theorem IsBoth.uniq {os bs : List Int} {p : Int} {m m' : Nat} (h : IsBoth os bs p m) (h' : IsBoth os bs p m') : m = m' := by
  obtain ⟨a1, a3, a4⟩ := h
  obtain ⟨b1, b3, b4⟩ := h'
  rcases Nat.lt_trichotomy m m' with z | z | z
  · have := b4 m a1 z; omega
  · exact z
  · have := a4 m' b1 z; omega
open Classical in
noncomputable def bth (os bs : List Int) (p : Int) : Nat := if h : ∃ m, IsBoth os bs p m then Classical.choose h else 0
theorem IsBoth.bth {os bs : List Int} {p : Int} {m : Nat} (h : IsBoth os bs p m) : bth os bs p = m := by
  have hx : ∃ m, IsBoth os bs p m := ⟨m, h⟩
  unfold L2.bth
  rw [dif_pos hx]
  exact (Classical.choose_spec hx).uniq h
theorem IsBack.same {n : Nat} {os bs cs : List Int} (ho : IsOrd n os) (h : IsBack os bs) (h' : IsBack os cs) : cs = bs := IsBack.unique ho h (h'.ord ho).1 (h'.right ho)
theorem lp_enumLT' {K : PySem.W.Frag} {a : Addr} {xs : List V} {g : TG} {tb : TS} {D : Ends} {σ : St} {H0 H : Hp} (hq : SqL K H0 a xs ∨ SqT K H0 a xs) (Pv : Nat → St → Hp → Prop) (h0 : Pv 0 σ H) (hl : ∀ i σ H', Pv i σ H' → Kp [] H0 H')
    (hs : ∀ i x p σ H, xs[i]? = some x → H p = none → Pv i σ H → g (.ref p) σ (upd H p (.tup [.int i, x])) fun σ2 H2 => tb { D with nx := Pv (i + 1), ct := Pv (i + 1), bk := D.nx } σ2 H2) (hd : ∀ σ H, Pv xs.length σ H → D.nx σ H) :
    ((∃ xs, SqL K H a xs) ∧ Loop (Ite K a) g tb D σ H) ∨ ((∃ xs, SqT K H a xs) ∧ Loop (IteT K a) g tb D σ H) := by
  rcases hq with hq | hq
  · exact .inl ⟨⟨_, sqL_kp hq (hl 0 σ H h0)⟩, lp_enum Pv h0 (fun i σ H' _ p => sqL_kp hq (hl i σ H' p)) hs hd⟩
  · refine .inr ⟨⟨_, sqT_kp hq (hl 0 σ H h0)⟩, fun i m σ H => m = xs.length - i ∧ i ≤ xs.length ∧ Pv i σ H, ⟨xs.length, by simp, Nat.zero_le _, h0⟩, ?_⟩
    rintro i m σ H' ⟨rfl, hi, p⟩
    have q := sqT_kp hq (hl i σ H' p)
    by_cases hlt : i < xs.length
    · refine .inr ⟨⟨xs, xs[i], q, by simp [hlt]⟩, Pv (i + 1), fun σ' H' p' => ⟨xs.length - (i + 1), by omega, rfl, hlt, p'⟩, fun x H' y => ?_⟩
      obtain ⟨pp, x', hp, rfl, y, rfl⟩ := y
      exact hs i x' pp σ _ (y xs q) hp p
    · have e : i = xs.length := by omega
      subst e
      exact .inl ⟨⟨xs, q, Nat.le_refl _⟩, hd σ H' p⟩
/-! ### tests that grow with what they ask -/
def MR (r : R2) : Prop := ∀ x y H Q Q', (∀ z H1, Q z H1 → Q' z H1) → r x y H Q → r x y H Q'
end L2

set_option Elab.async false
set_option linter.all false
set_option maxRecDepth 100000
set_option maxHeartbeats 4000000
namespace L2
open PySem PySem.Spec PyProof.Rows
/-! ### rings -/
def IsPer (os : List Int) (p : Int) (m : Nat) : Prop := 1 ≤ m ∧ itn os m p = p ∧ ∀ j, 1 ≤ j → j < m → itn os j p ≠ p
theorem IsPer.uniq {os : List Int} {p : Int} {m m' : Nat} (h : IsPer os p m) (h' : IsPer os p m') : m = m' := by
  obtain ⟨a1, a3, a4⟩ := h
  obtain ⟨b1, b3, b4⟩ := h'
  rcases Nat.lt_trichotomy m m' with z | z | z
  · exact absurd a3 (b4 m a1 z)
  · exact z
  · exact absurd b3 (a4 m' b1 z)
open Classical in
noncomputable def per (os : List Int) (p : Int) : Nat := if h : ∃ m, IsPer os p m then Classical.choose h else 0
theorem IsPer.per {os : List Int} {p : Int} {m : Nat} (h : IsPer os p m) : per os p = m := by
  have hx : ∃ m, IsPer os p m := ⟨m, h⟩
  unfold L2.per
  rw [dif_pos hx]
  exact (Classical.choose_spec hx).uniq h
/-- q comes to x -/
def Rch (os : List Int) (q x : Int) : Prop := ∃ k, itn os k q = x
theorem Rch.refl {os : List Int} {p : Int} : Rch os p p := ⟨0, rfl⟩
theorem Rch.trans {os : List Int} {p q r : Int} (a : Rch os p q) (b : Rch os q r) : Rch os p r := by
  obtain ⟨i, rfl⟩ := a
  obtain ⟨j, rfl⟩ := b
  exact ⟨j + i, itn_add os p i j⟩
theorem itn_mul {os : List Int} {p : Int} {m : Nat} (h : itn os m p = p) : ∀ k, itn os (k * m) p = p
  | 0 => by rw [Nat.zero_mul]; rfl
  | k + 1 => by rw [Nat.succ_mul, Nat.add_comm, itn_add, itn_mul h k, h]
theorem Rch.symm {n : Nat} {os : List Int} (h : IsOrd n os) {p q : Int} (p0 : 0 ≤ p) (p1 : p < n) (a : Rch os p q) : Rch os q p := by
  obtain ⟨k, rfl⟩ := a
  obtain ⟨M, h1, _, h3⟩ := itn_ret h p0 p1
  refine ⟨(k + 1) * M - k, ?_⟩
  have hle : k ≤ (k + 1) * M := Nat.le_trans (Nat.le_succ k) (Nat.le_mul_of_pos_right _ h1)
  rw [← itn_add, Nat.sub_add_cancel hle, itn_mul h3]
def Seen (os : List Int) (i : Nat) (x : Int) : Prop := ∃ q : Nat, q < i ∧ Rch os (q : Int) x
theorem Seen.succ {os : List Int} {i : Nat} {x : Int} : Seen os (i + 1) x ↔ Seen os i x ∨ Rch os (i : Int) x := by
  constructor
  · rintro ⟨q, hq, r⟩
    by_cases e : q = i
    · subst e; exact .inr r
    · exact .inl ⟨q, by omega, r⟩
  · rintro (⟨q, hq, r⟩ | r)
    · exact ⟨q, by omega, r⟩
    · exact ⟨i, by omega, r⟩
/-- where i was met, all that it comes to was met -/
theorem Seen.step {n : Nat} {os : List Int} (h : IsOrd n os) {i : Nat} (hi : i < n) (hs : Seen os i (i : Int)) {x : Int} : Seen os (i + 1) x ↔ Seen os i x := by
  rw [Seen.succ]
  constructor
  · rintro (z | z)
    · exact z
    · obtain ⟨q, hq, r⟩ := hs
      exact ⟨q, hq, r.trans z⟩
  · exact .inl
/-- where i was not met, nothing that it comes to was -/
theorem Seen.apart {n : Nat} {os : List Int} (h : IsOrd n os) {i : Nat} (hi : i < n) (hs : ¬ Seen os i (i : Int)) {x : Int} (r : Rch os (i : Int) x) : ¬ Seen os i x := by
  rintro ⟨q, hq, rq⟩
  exact hs ⟨q, hq, rq.trans (r.symm h (by omega) (by omega))⟩
end L2

set_option Elab.async false
set_option linter.all false
set_option maxRecDepth 100000
set_option maxHeartbeats 4000000
namespace L2
open PySem PySem.Spec PyProof.Rows
/-! ### marks -/
def Mkd (os : List Int) (mk : Nat) : Nat → Int → Prop
  | 0, _ => False
  | i + 1, x => Mkd os mk i x ∨ (¬ Mkd os mk i (i : Int) ∧ wkE os (i : Int) = (i : Int) ∧ Rch os (i : Int) x ∧ x < (mk : Int))
theorem Mkd.lt {os : List Int} {mk : Nat} {x : Int} : ∀ {i : Nat}, Mkd os mk i x → x < (mk : Int)
  | 0, h => h.elim
  | i + 1, h => by
    rcases h with h | h
    · exact Mkd.lt h
    · exact h.2.2.2
theorem IsWalk.per {os : List Int} {p : Int} {m : Nat} {e : Int} (h : IsWalk os p m e) (he : e = p) : IsPer os p m :=
  ⟨h.1, by rw [← h.2.1]; exact he, fun j j1 jm z => by have := h.2.2.2 j j1 jm; omega⟩
end L2

set_option Elab.async false
set_option linter.all false
set_option maxRecDepth 100000
set_option maxHeartbeats 4000000
namespace L2
open PySem PySem.Spec PyProof.Rows
/-! ### a list or a tuple, gone through -/
def iLT (K : PySem.W.Frag) (tl : TE) : TI := fun σ H R => tl σ H fun x H1 => ∃ a, x = .ref a ∧ (((∃ xs, SqL K H1 a xs) ∧ R (Itl K a) H1) ∨ ((∃ xs, SqT K H1 a xs) ∧ R (Itt K a) H1))
theorem pi_lt {X : Cx} {tg : Expr} {l : Expr} {tl : TE} (hl : PE X l tl) : PI X tg l (iLT X.K tl) := by
  intro pins s σ H R I h
  refine thn (hl pins s σ H _ I h) fun v s1 ⟨x, H1, I1, r1, q1⟩ => ?_
  obtain ⟨a, e, q⟩ := q1
  subst e
  cases r1
  have fo : ∀ b ∈ [s1.heap.objs.size], FpOk X pins H1 b := fun b hb => by
    have e : b = s1.heap.objs.size := by simpa using hb
    subst e
    exact I1.fpOk (Nat.le_refl _) (I1.hok.fresh (Nat.le_refl _))
  rcases q with ⟨⟨xs, hq⟩, q⟩ | ⟨⟨xs, hq⟩, q⟩
  · obtain ⟨its, rv, p, hz⟩ := I1.list hq
    refine wpAny_pyIter_list p.isList ?_
    exact ⟨s1.heap.objs.size, [s1.heap.objs.size], _, _, H1, rfl, I1.kept (t' := s1.toks) fun b o e => Heap.get?_push_of_some _ e, turn_list a _, ⟨_, Heap.get?_push_size _ rfl, rfl, rfl⟩, fo, q⟩
  · obtain ⟨its, rv, p, hz⟩ := I1.tuple hq
    refine wpAny_pyIter_tuple (show s1.heap.IsTuple a its.toArray from p) ?_
    exact ⟨s1.heap.objs.size, [s1.heap.objs.size], _, _, H1, rfl, I1.kept (t' := s1.toks) fun b o e => Heap.get?_push_of_some _ e, turn_tuple a _, ⟨_, Heap.get?_push_size _ rfl, rfl, rfl⟩, fo, q⟩
theorem cl_tup {K : PySem.W.Frag} {a : Addr} {xs : List V} {g : TG} {tt : TT} {te : TE} {Q : VK} {τ : St} {H1 : Hp} {D : Addr} (Pv : Nat → St → Hp → Prop) (h0 : Pv 0 τ (upd H1 D (.lst []))) (hl : ∀ i τ H, i ≤ xs.length → Pv i τ H → SqT K H a xs)
    (hs : ∀ i x τ H, xs[i]? = some x → Pv i τ H → g x τ H fun τ2 H3 => tt τ2 H3 fun b H4 => if b = true then te τ2 H4 fun v H5 => ∃ ys, H5 D = some (.lst ys) ∧ ys.length < sizeLine ∧ Pv (i + 1) τ2 (upd H5 D (.lst (ys ++ [v]))) else Pv (i + 1) τ2 H4)
    (hd : ∀ τ H, Pv xs.length τ H → Q (.ref D) H) : CLoop (Itt K a) g tt te D Q τ (upd H1 D (.lst [])) := by
  refine ⟨fun i m τ H => m = xs.length - i ∧ i ≤ xs.length ∧ Pv i τ H, ⟨xs.length, by simp, Nat.zero_le _, h0⟩, ?_⟩
  rintro i m τ H ⟨rfl, hi, p⟩
  have q := hl i τ H hi p
  by_cases hlt : i < xs.length
  · refine .inr ⟨⟨xs, xs[i], q, by simp [hlt]⟩, Pv (i + 1), fun σ' H' p' => ⟨xs.length - (i + 1), by omega, rfl, hlt, p'⟩, fun x H' y => ?_⟩
    obtain ⟨e, y⟩ := y
    subst e
    exact hs i x τ _ (y xs q) p
  · have e : i = xs.length := by omega
    subst e
    exact .inl ⟨⟨xs, q, Nat.le_refl _⟩, hd τ H p⟩
theorem lt_comp {K : PySem.W.Frag} {a : Addr} {xs : List V} {g : TG} {tt : TT} {te : TE} {Q : VK} {τ : St} {H1 : Hp} (hq : SqL K H1 a xs ∨ SqT K H1 a xs)
    (h : ∀ D, H1 D = none → ∃ Pv : Nat → St → Hp → Prop, Pv 0 τ (upd H1 D (.lst [])) ∧ (∀ i τ H', Pv i τ H' → Kp [] H1 H') ∧
      (∀ i x τ H, xs[i]? = some x → Pv i τ H → g x τ H fun τ2 H3 => tt τ2 H3 fun b H4 => if b = true then te τ2 H4 fun v H5 => ∃ ys, H5 D = some (.lst ys) ∧ ys.length < sizeLine ∧ Pv (i + 1) τ2 (upd H5 D (.lst (ys ++ [v]))) else Pv (i + 1) τ2 H4) ∧
      (∀ τ H, Pv xs.length τ H → Q (.ref D) H)) :
    ((∃ xs, SqL K H1 a xs) ∧ ∀ D, H1 D = none → CLoop (Itl K a) g tt te D Q τ (upd H1 D (.lst []))) ∨ ((∃ xs, SqT K H1 a xs) ∧ ∀ D, H1 D = none → CLoop (Itt K a) g tt te D Q τ (upd H1 D (.lst []))) := by
  rcases hq with hq | hq
  · refine .inl ⟨⟨_, hq⟩, fun D hD => ?_⟩
    obtain ⟨Pv, h0, hl, hs, hd⟩ := h D hD
    exact cl_list Pv h0 (fun i τ H' _ p => sqL_kp hq (hl i τ H' p)) hs hd
  · refine .inr ⟨⟨_, hq⟩, fun D hD => ?_⟩
    obtain ⟨Pv, h0, hl, hs, hd⟩ := h D hD
    exact cl_tup Pv h0 (fun i τ H' _ p => sqT_kp hq (hl i τ H' p)) hs hd
/-! ### so many times, place by place -/
def IsTms (n : Nat) (os : List Int) (many : Int) (rs : List Int) : Prop := ∃ bs, IsOrd n bs ∧ (0 ≤ many → bs = os) ∧ (many < 0 → IsBack os bs) ∧ rs = pwl n bs many.natAbs
theorem IsTms.uniq {n : Nat} {os : List Int} (ho : IsOrd n os) {many : Int} {rs rs' : List Int} (h : IsTms n os many rs) (h' : IsTms n os many rs') : rs = rs' := by
  obtain ⟨bs, b1, b2, b3, rfl⟩ := h
  obtain ⟨cs, c1, c2, c3, rfl⟩ := h'
  by_cases z : 0 ≤ many
  · rw [b2 z, c2 z]
  · rw [IsBack.same ho (b3 (by omega)) (c3 (by omega))]
theorem back_nxt {n : Nat} {os bs : List Int} (ho : IsOrd n os) (h : IsBack os bs) {x : Int} (x0 : 0 ≤ x) (x1 : x < n) : nxt os (nxt bs x) = x := by
  obtain ⟨i, hi, e1, e2⟩ := IsBack.at ho h (j := x.toNat) (by omega)
  show os.getD (bs.getD x.toNat 0).toNat 0 = x
  rw [e2, Int.toNat_natCast, e1]
  omega
end L2

set_option Elab.async false
set_option linter.all false
set_option maxRecDepth 100000
set_option maxHeartbeats 4000000
namespace L2
open PySem PySem.Spec PyProof.Rows
theorem IsTms.ord {n : Nat} {os : List Int} {many : Int} {rs : List Int} (h : IsTms n os many rs) : IsOrd n rs := by
  obtain ⟨bs, b1, _, _, rfl⟩ := h
  exact pwl_ord b1 _
end L2

set_option Elab.async false
set_option linter.all false
set_option maxRecDepth 100000
set_option maxHeartbeats 4000000
namespace L2
open PySem PySem.Spec PyProof.Rows
section
variable {X : Cx}
/-! ### sum of a list of numbers, not below nought and not too great -/
theorem bt_sum : bootBuiltins "sum" = some (.builtin "sum") := by decide +kernel
theorem vals_pairs : ∀ {ns : List Int} {us : List Value}, Vals (ns.map V.int) us → ∃ ps : List (Int × Tok), us = ps.map (fun p => Value.int p.1 p.2) ∧ ps.map (·.1) = ns
  | [], _, h => by cases h; exact ⟨[], rfl, rfl⟩
  | n :: ns, _, h => by
    cases h with
    | cons r rs =>
      obtain ⟨ps, e1, e2⟩ := vals_pairs rs
      obtain ⟨t, rfl⟩ := r
      exact ⟨(n, t) :: ps, by rw [e1]; rfl, by rw [← e2]; rfl⟩
theorem num_at {ps : List (Int × Tok)} {i : Nat} (h : i < ps.length) : numAt ps.toArray i = (ps.map (·.1)).getD i 0 := by
  unfold numAt
  rw [List.getD_eq_getElem?_getD, List.getElem?_map, List.getElem?_toArray]
theorem pre_sum {ps : List (Int × Tok)} : ∀ k, k ≤ ps.length → preSum (numAt ps.toArray) k = ((ps.map (·.1)).take k).sum
  | 0, _ => rfl
  | k + 1, h => by
    show preSum (numAt ps.toArray) k + numAt ps.toArray k = _
    rw [pre_sum k (by omega), num_at (by omega)]
    have hk : k < (ps.map (·.1)).length := by rw [List.length_map]; omega
    rw [getD_eq hk, ← List.take_append_getElem hk, List.sum_append]
    simp
/-! ### any of a list of truths -/
end
/-! ### a comprehension over enumerate of a list or a tuple -/
end L2

set_option Elab.async false
set_option linter.all false
set_option maxRecDepth 100000
set_option maxHeartbeats 4000000
namespace L2
open PySem PySem.Spec PyProof.Rows
/-! ### == of two lists of tuples with flat parts, where they are alike -/
def tfs (ps : List (Addr × List V)) : List V := ps.map fun r => V.ref r.1
def rEqP (K : PySem.W.Frag) (f : Bool → Bool) : R2 := fun x y H Q => ∃ p q ps qs, x = .ref p ∧ y = .ref q ∧ SqL K H p (tfs ps) ∧ SqL K H q (tfs qs) ∧ (∀ r ∈ ps, H r.1 = some (.tup r.2) ∧ r.2.all flatV = true ∧ eqVs r.2 r.2 = true) ∧ (∀ r ∈ qs, H r.1 = some (.tup r.2)) ∧ ps.map (·.2) = qs.map (·.2) ∧ Q (.bl (f true)) H
section
variable {X : Cx}
end
end L2

set_option Elab.async false
set_option linter.all false
set_option maxRecDepth 100000
set_option maxHeartbeats 4000000
namespace L2
open PySem PySem.Spec PyProof.Rows
/-! ### going through a list of boxes -/
/-! ### a table turned -/
end L2

set_option Elab.async false
set_option linter.all false
set_option maxRecDepth 100000
set_option maxHeartbeats 4000000
namespace L2
open PySem PySem.Spec PyProof.Rows
/-! ### a list comprehension of several clauses -/
section
variable {prog : Program} {w : World} {A : Around} {R : Result → Shared → Prop} {s : Shared}
end

/-! the word of a loop within a comprehension: turns of an iterator, a target, a test, and what is done with each -/
def CL (J : It) (g : TG) (tt : TT) (tr : St → Hp → (St → Hp → Prop) → Prop) (N : St → Hp → Prop) (σ : St) (H : Hp) : Prop := ∃ W : Nat → Nat → St → Hp → Prop, (∃ m, W 0 m σ H) ∧ ∀ i m τ H2, W i m τ H2 →
  (J.stop i H2 ∧ N τ H2) ∨ (J.go i H2 ∧ ∃ N1 : St → Hp → Prop, (∀ τ' H', N1 τ' H' → ∃ m', m' < m ∧ W (i + 1) m' τ' H') ∧ ∀ x H', J.yld i H2 x H' → g x τ H' fun τ2 H3 => tt τ2 H3 fun b H4 =>
    if b = true then tr τ2 H4 N1 else N1 τ2 H4)
abbrev TR := St → Hp → (St → Hp → Prop) → Prop
def trLast (te : TE) (D : Addr) : TR := fun σ H N => te σ H fun v H5 => ∃ ys, H5 D = some (.lst ys) ∧ ys.length < sizeLine ∧ N σ (upd H5 D (.lst (ys ++ [v])))
def trNext (wi : TI) (g : TG) (tt : TT) (tr : Addr → TR) (D : Addr) : TR := fun σ H N => wi σ H fun J H1 => CL J g tt (tr D) N σ H1
section
variable {C : Cx} {elt tg iter : Expr} {ifs : List Expr} {gens : List Comprehension} {scope : Scope} {pos : Pos} {d : Nat} {D : Addr} {g : TG} {tt : TT} {te : TE} {tr : TR}
end
def tCompN (ts : List Nat) (wi : TI) (g : TG) (tt : TT) (tr : Addr → TR) : TE := fun σ H Q => wi σ H fun J H1 => ∀ D, H1 D = none → CL J g tt (tr D) (fun _ H2 => Q (.ref D) H2) (clr ts σ) (upd H1 D (.lst []))
section
variable {X : Cx} {ts : List Nat} {scope : Scope} {tg iter elt : Expr} {ifs : List Expr} {rest : List Comprehension} {wi : TI} {g : TG} {tt : TT} {tr : Addr → TR} {pos : Pos}
end
/-! ### walking -/
theorem tCompN_eq {ts : List Nat} {wi : TI} {g : TG} {tt : TT} {tr : Addr → TR} {σ : St} {H : Hp} {Q : VK} :
    tCompN ts wi g tt tr σ H Q = wi σ H (fun J H1 => ∀ D, H1 D = none → CL J g tt (tr D) (fun _ H2 => Q (.ref D) H2) (clr ts σ) (upd H1 D (.lst []))) := rfl
theorem trNext_eq {wi : TI} {g : TG} {tt : TT} {tr : Addr → TR} {D : Addr} {σ : St} {H : Hp} {N : St → Hp → Prop} : trNext wi g tt tr D σ H N = wi σ H (fun J H1 => CL J g tt (tr D) N σ H1) := rfl
theorem trLast_eq {te : TE} {D : Addr} {σ : St} {H : Hp} {N : St → Hp → Prop} : trLast te D σ H N = te σ H (fun v H5 => ∃ ys, H5 D = some (.lst ys) ∧ ys.length < sizeLine ∧ N σ (upd H5 D (.lst (ys ++ [v])))) := rfl
end L2

set_option Elab.async false
set_option linter.all false
set_option maxRecDepth 100000
set_option maxHeartbeats 4000000
namespace L2
open PySem PySem.Spec PyProof.Rows
/-! ### names at once out of a list -/
section
variable {P : Program} {w : World} {A : Around} {E : Value → Shared → Prop} {it l : Addr} {items : Array Value}
end
section
variable {X : Cx} {pos : Pos}
/-- (a, b, ..) = a list of that length -/
def gLst (K : PySem.W.Frag) (n : Nat) (t : TGs) : TG := fun v σ H Q => ∃ a xs, v = .ref a ∧ SqL K H a xs ∧ xs.length = n ∧ t xs σ H Q
theorem pi_listK {tg e : Expr} {t : TE} {K : PySem.W.Frag} (h : X.K = K) (he : PE X e t) : PI X tg e (iList K t) := h ▸ pi_list he
end
end L2

set_option Elab.async false
set_option linter.all false
set_option maxRecDepth 100000
set_option maxHeartbeats 4000000
namespace L2
open PySem PySem.Spec PyProof.Rows
/-! ### orders put one behind the other, and spread over stretches -/
def rep (o : Nat) (G : List Int) : List Int := (List.range (o * G.length)).map fun (i : Nat) => ((i / G.length * G.length : Nat) : Int) + G.getD (i % G.length) 0
def spr (m : Nat) (C : List Int) : List Int := (List.range (C.length * m)).map fun (i : Nat) => C.getD (i / m) 0 * (m : Int) + ((i % m : Nat) : Int)
theorem rep_len (o : Nat) (G : List Int) : (rep o G).length = o * G.length := by simp [rep]
theorem spr_len (m : Nat) (C : List Int) : (spr m C).length = C.length * m := by simp [spr]
theorem rep_get {o i : Nat} {G : List Int} (h : i < o * G.length) : (rep o G).getD i 0 = ((i / G.length * G.length : Nat) : Int) + G.getD (i % G.length) 0 := by
  rw [getD_eq (by rw [rep_len]; exact h)]; simp [rep]
theorem spr_get {m i : Nat} {C : List Int} (h : i < C.length * m) : (spr m C).getD i 0 = C.getD (i / m) 0 * (m : Int) + ((i % m : Nat) : Int) := by
  rw [getD_eq (by rw [spr_len]; exact h)]; simp [spr]
theorem dm_lt {a b n : Nat} (h : a < b * n) : a / n < b ∧ a % n < n ∧ a / n * n + a % n = a ∧ 0 < n := by
  have hn : 0 < n := by rcases Nat.eq_zero_or_pos n with z | z; · subst z; simp at h
                        · exact z
  exact ⟨by rw [Nat.div_lt_iff_lt_mul hn]; exact h, Nat.mod_lt _ hn, by rw [Nat.mul_comm]; exact Nat.div_add_mod a n, hn⟩
theorem dm_of {q r n : Nat} (h : r < n) : (q * n + r) / n = q ∧ (q * n + r) % n = r := by
  have hn : 0 < n := by omega
  exact ⟨by rw [Nat.add_comm, Nat.add_mul_div_right _ _ hn, Nat.div_eq_of_lt h, Nat.zero_add], by rw [Nat.add_comm, Nat.add_mul_mod_self_right, Nat.mod_eq_of_lt h]⟩
theorem mul_lt {q b r n : Nat} (h1 : q < b) (h2 : r < n) : q * n + r < b * n := by
  have : (q + 1) * n ≤ b * n := Nat.mul_le_mul_right n h1
  rw [Nat.succ_mul] at this
  omega
theorem rep_at {o t k : Nat} {G : List Int} (ht : t < o) (hk : k < G.length) : (rep o G).getD (t * G.length + k) 0 = ((t * G.length : Nat) : Int) + G.getD k 0 := by
  rw [rep_get (mul_lt ht hk), (dm_of hk).1, (dm_of hk).2]
theorem spr_at {m i a : Nat} {C : List Int} (hi : i < C.length) (ha : a < m) : (spr m C).getD (i * m + a) 0 = C.getD i 0 * (m : Int) + (a : Int) := by
  rw [spr_get (mul_lt hi ha), (dm_of ha).1, (dm_of ha).2]
theorem IsOrd.rep {n o : Nat} {G : List Int} (h : IsOrd n G) : IsOrd (o * n) (rep o G) := by
  have hl := h.1
  refine isOrd_of (by rw [rep_len, hl]) (fun i hi => ?_) (fun i j hi hj e => ?_)
  · obtain ⟨d1, d2, d3, d4⟩ := dm_lt hi
    rw [rep_get (by rw [hl]; exact hi), hl]
    have b := h.getD d2
    have := mul_lt (r := (G.getD (i % n) 0).toNat) d1 (show _ < n by omega)
    omega
  · obtain ⟨d1, d2, d3, d4⟩ := dm_lt hi
    obtain ⟨e1, e2, e3, e4⟩ := dm_lt hj
    rw [rep_get (by rw [hl]; exact hi), rep_get (by rw [hl]; exact hj), hl] at e
    have b := h.getD d2
    have c := h.getD e2
    obtain ⟨x, hx⟩ : ∃ x : Nat, G.getD (i % n) 0 = x := ⟨_, (Int.toNat_of_nonneg b.1).symm⟩
    obtain ⟨y, hy⟩ : ∃ y : Nat, G.getD (j % n) 0 = y := ⟨_, (Int.toNat_of_nonneg c.1).symm⟩
    rw [hx, hy] at e
    have e' : i / n * n + x = j / n * n + y := by omega
    have q1 := dm_of (q := i / n) (r := x) (n := n) (by omega)
    have q2 := dm_of (q := j / n) (r := y) (n := n) (by omega)
    have r1 : i / n = j / n := by rw [← q1.1, ← q2.1, e']
    have r2 : x = y := by rw [← q1.2, ← q2.2, e']
    have r3 := h.inj d2 e2 (by rw [hx, hy, r2])
    rw [← d3, ← e3, r1, r3]
theorem IsBack.rep {n o : Nat} {G G' : List Int} (h : IsOrd n G) (hb : IsBack G G') : IsBack (rep o G) (rep o G') := by
  have hl := h.1
  have hl' : G'.length = n := by rw [hb.1, hl]
  refine ⟨by rw [rep_len, rep_len, hl, hl'], fun i hi => ?_⟩
  rw [rep_len, hl] at hi
  obtain ⟨d1, d2, d3, d4⟩ := dm_lt hi
  have b := h.getD d2
  rw [rep_get (G := G) (i := i) (by rw [hl]; exact hi), hl]
  obtain ⟨x, hx⟩ : ∃ x : Nat, G.getD (i % n) 0 = x := ⟨_, (Int.toNat_of_nonneg b.1).symm⟩
  rw [hx]
  have ht : ((i / n * n : Nat) : Int) + (x : Int) = ((i / n * n + x : Nat) : Int) := by omega
  rw [ht, Int.toNat_natCast]
  have := rep_at (o := o) (t := i / n) (k := x) (G := G') d1 (by omega)
  rw [hl'] at this
  rw [this]
  have q := hb.2 (i % n) (by omega)
  rw [hx, Int.toNat_natCast] at q
  rw [q]
  omega
theorem IsOrd.spr {n m : Nat} {C : List Int} (h : IsOrd n C) : IsOrd (n * m) (spr m C) := by
  have hl := h.1
  have key : ∀ i : Nat, i < n * m → ∃ x : Nat, x < n ∧ C.getD (i / m) 0 = x ∧ (L2.spr m C).getD i 0 = ((x * m + i % m : Nat) : Int) := fun i hi => by
    obtain ⟨d1, d2, d3, d4⟩ := dm_lt hi
    have b := h.getD d1
    obtain ⟨x, hx⟩ : ∃ x : Nat, C.getD (i / m) 0 = x := ⟨_, (Int.toNat_of_nonneg b.1).symm⟩
    refine ⟨x, by omega, hx, ?_⟩
    rw [spr_get (by rw [hl]; exact hi), hx]
    push_cast
    rfl
  refine isOrd_of (by rw [spr_len, hl]) (fun i hi => ?_) (fun i j hi hj e => ?_)
  · obtain ⟨d1, d2, d3, d4⟩ := dm_lt hi
    obtain ⟨x, hx, _, e⟩ := key i hi
    rw [e]
    have := mul_lt hx d2
    omega
  · obtain ⟨d1, d2, d3, d4⟩ := dm_lt hi
    obtain ⟨e1, e2, e3, e4⟩ := dm_lt hj
    obtain ⟨x, hx, hx', ex⟩ := key i hi
    obtain ⟨y, hy, hy', ey⟩ := key j hj
    rw [ex, ey] at e
    have e' : x * m + i % m = y * m + j % m := by omega
    have q1 := dm_of (q := x) d2
    have q2 := dm_of (q := y) e2
    have r1 : x = y := by rw [← q1.1, ← q2.1, e']
    have r2 : i % m = j % m := by rw [← q1.2, ← q2.2, e']
    have r3 := h.inj d1 e1 (by rw [hx', hy', r1])
    rw [← d3, ← e3, r2, r3]
theorem IsBack.spr {n m : Nat} {C C' : List Int} (h : IsOrd n C) (hb : IsBack C C') : IsBack (spr m C) (spr m C') := by
  have hl := h.1
  have hl' : C'.length = n := by rw [hb.1, hl]
  refine ⟨by rw [spr_len, spr_len, hl, hl'], fun i hi => ?_⟩
  rw [spr_len, hl] at hi
  obtain ⟨d1, d2, d3, d4⟩ := dm_lt hi
  have b := h.getD d1
  rw [spr_get (C := C) (i := i) (by rw [hl]; exact hi)]
  obtain ⟨x, hx⟩ : ∃ x : Nat, C.getD (i / m) 0 = x := ⟨_, (Int.toNat_of_nonneg b.1).symm⟩
  rw [hx]
  have ht : (x : Int) * (m : Int) + ((i % m : Nat) : Int) = ((x * m + i % m : Nat) : Int) := by push_cast; rfl
  rw [ht, Int.toNat_natCast, spr_at (by omega) d2]
  have q := hb.2 (i / m) (by omega)
  rw [hx, Int.toNat_natCast] at q
  rw [q]
  have : ((i / m : Nat) : Int) * (m : Int) + ((i % m : Nat) : Int) = ((i / m * m + i % m : Nat) : Int) := by push_cast; rfl
  rw [this, d3]
end L2

set_option Elab.async false
set_option linter.all false
set_option maxRecDepth 100000
set_option maxHeartbeats 4000000
namespace L2
open PySem PySem.Spec PyProof.Rows
/-! ### zip of two tuples -/
section
variable {P : Program} {w : World} {A : Around} {E : Value → Shared → Prop} {s : Shared} {z TI TO i1 i2 l1 l2 : Addr} {k : Nat} {xs ys : Array Value} {x y a b : Value} {Q : Option Value → Shared → Prop}
theorem zipT_item (D : ZipApart z TI TO i1 i2 l1 l2) (hz : IsZip s.heap z TI TO .none) (hTI : IsPair s.heap TI (.ref i1) (.ref i2)) (hTO : IsPair s.heap TO a b) (h1 : s.heap.IsTupleIter i1 l1 k) (h2 : s.heap.IsTupleIter i2 l2 k) (p1 : s.heap.IsTuple l1 xs) (p2 : s.heap.IsTuple l2 ys) (hx : xs[k]? = some x) (hy : ys[k]? = some y)
    (hQ : ∀ h', IsZip h' z TI TO (rawInt s.heap.objs.size) → IsPair h' TO x y → h'.IsTupleIter i1 l1 (k + 1) → h'.IsTupleIter i2 l2 (k + 1) → IsPair h' s.heap.objs.size x y → h'.objs.size = s.heap.objs.size + 1 → (∀ c o, c ≠ z → c ≠ TO → c ≠ i1 → c ≠ i2 → s.heap.get? c = some o → h'.get? c = some o) → Q (some (.ref s.heap.objs.size)) { s with heap := h' }) :
    wpAny (model P w) A (pyNext (.ref z)) Q E s := by
  have hT : s.TypeIs (.ref z) "zip" := ⟨_, hz, rfl⟩
  unfold pyNext
  refine wpAny_bind (wpAny_attempt (wpAny_callSpecial?_slot (name := Str.ofString "__next__") hT F.slot_zip_next (wpAny_call_entry F.slot_zip_next hT F.entry_zip_next ?_ (F.args_zip_next_1 _))))
  refine wpAny_bind (m := field (.ref z) 2) (wpAny_field hz rfl (x := .bool false) rfl ?_)
  refine wpAny_bind (m := field (.ref z) 3) (wpAny_field hz rfl (x := .ref TI) rfl ?_)
  refine wpAny_bind (m := seqItems? (.ref TI)) (wpAny_seqItems hTI rfl ?_)
  refine wpAny_bind (m := Builtin.SmallTypes.ownedTupleIsFree (.ref z)) ?_
  unfold Builtin.SmallTypes.ownedTupleIsFree
  refine wpAny_bind (wpAny_field hz rfl (x := .none) rfl (wpAny_pure ?_))
  refine wpAny_bind (m := rule "zip.__next__.owned-tuple-again") (wpAny_rule ?_)
  refine wpAny_bind (m := field (.ref z) 4) (wpAny_field hz rfl (x := .ref TO) rfl ?_)
  refine wpAny_bind (m := setField (.ref z) 0 .ellipsis) (wpAny_setField hz rfl (by simp) ?_)
  have sb1 := Heap.SameBut.update s.heap z (Obj.mapFields fun x_1 => x_1.setIfInBounds 0 Value.ellipsis)
  have g1 : (s.heap.update z (Obj.mapFields fun x_1 => x_1.setIfInBounds 0 Value.ellipsis)).get? z = some { cls := Value.type "zip", data := Data.fields #[.ellipsis, Value.bool false, Value.bool false, Value.ref TI, Value.ref TO] } := Heap.get?_update_self _ hz (Obj.isFreed_of_fields (Obj.data_mapFields rfl _))
  generalize s.heap.update z (Obj.mapFields fun x_1 => x_1.setIfInBounds 0 Value.ellipsis) = h1' at *
  refine wpAny_bind ?_
  rw [show (#[Value.ref i1, Value.ref i2].toList.zipIdx : List (Value × Nat)) = [(.ref i1, 0), (.ref i2, 1)] from rfl, List.forIn_cons]
  dsimp only
  have it1 : h1'.IsTupleIter i1 l1 k := by obtain ⟨o, ho, r⟩ := h1; exact ⟨o, (sb1.2 i1 D.i1z).trans ho, r⟩
  have tp1 : h1'.IsTuple l1 xs := by obtain ⟨o, ho, r⟩ := p1; exact ⟨o, (sb1.2 l1 D.l1z).trans ho, r⟩
  refine wpAny_bind (wpAny_bind (wpAny_onRaise ?_))
  show wpAny _ _ (Builtin.SmallTypes.nextOf (.ref i1) >>= fun v => pure (some v)) _ _ _
  refine wpAny_bind (nextTup_item it1 tp1 hx fun h2' it2 sb2 => wpAny_pure ?_)
  dsimp only
  have gTO2 : IsPair h2' TO a b := ((sb2.2 TO D.TOi1).trans (sb1.2 TO D.TOz)).trans hTO
  refine wpAny_bind (wpAny_seqItems gTO2 rfl ?_)
  dsimp only
  refine wpAny_bind (wpAny_updateSeq_pair gTO2 fun h3' g3 sb3 => ?_)
  refine wpAny_bind (wpAny_letGo (wpAny_pure ?_))
  dsimp only
  have g3' : IsPair h3' TO x b := g3
  have it3 : h3'.IsTupleIter i2 l2 k := by obtain ⟨o, ho, r⟩ := h2; exact ⟨o, (((sb3.2 i2 (Ne.symm D.TOi2)).trans (sb2.2 i2 (Ne.symm D.i12))).trans (sb1.2 i2 D.i2z)).trans ho, r⟩
  have tp3 : h3'.IsTuple l2 ys := by obtain ⟨o, ho, r⟩ := p2; exact ⟨o, (((sb3.2 l2 D.l2TO).trans (sb2.2 l2 D.l2i1)).trans (sb1.2 l2 D.l2z)).trans ho, r⟩
  rw [List.forIn_cons]
  refine wpAny_bind (wpAny_bind (wpAny_onRaise ?_))
  show wpAny _ _ (Builtin.SmallTypes.nextOf (.ref i2) >>= fun v => pure (some v)) _ _ _
  refine wpAny_bind (nextTup_item it3 tp3 hy fun h4' it4 sb4 => wpAny_pure ?_)
  dsimp only
  have gTO4 : IsPair h4' TO x b := (sb4.2 TO D.TOi2).trans g3'
  refine wpAny_bind (wpAny_seqItems gTO4 rfl ?_)
  dsimp only
  refine wpAny_bind (wpAny_updateSeq_pair gTO4 fun h5' g5 sb5 => ?_)
  refine wpAny_bind (wpAny_letGo (wpAny_pure ?_))
  dsimp only
  have g5' : IsPair h5' TO x y := g5
  rw [List.forIn_nil]
  refine wpAny_pure ?_
  dsimp only
  refine wpAny_bind (wpAny_seqItems g5' rfl ?_)
  dsimp only
  have sz5 : h5'.objs.size = s.heap.objs.size := ((((sb5.1).trans sb4.1).trans sb3.1).trans sb2.1).trans sb1.1
  refine wpAny_bind (wpAny_newTuple ?_ (by show 2 ≤ sizeLine; decide))
  have gz5 : h5'.get? z = some { cls := Value.type "zip", data := Data.fields #[.ellipsis, Value.bool false, Value.bool false, Value.ref TI, Value.ref TO] } := ((((sb5.2 z (Ne.symm D.TOz)).trans (sb4.2 z (Ne.symm D.i2z))).trans (sb3.2 z (Ne.symm D.TOz))).trans (sb2.2 z (Ne.symm D.i1z))).trans g1
  have zlt : z < h5'.objs.size := Heap.lt_size gz5
  have g6 : (h5'.push { cls := Value.type "tuple", data := Data.seq #[x, y] }).get? z = _ := Heap.get?_push_of_some _ gz5
  have n6 : (h5'.push { cls := Value.type "tuple", data := Data.seq #[x, y] }).get? h5'.objs.size = some { cls := Value.type "tuple", data := Data.seq #[x, y] } := Heap.get?_push_size _ rfl
  have ex6 : ∀ c o, h5'.get? c = some o → (h5'.push { cls := Value.type "tuple", data := Data.seq #[x, y] }).get? c = some o := fun c o e => Heap.get?_push_of_some _ e
  have sz6 : (h5'.push { cls := Value.type "tuple", data := Data.seq #[x, y] }).objs.size = h5'.objs.size + 1 := Heap.size_push ..
  show wpAny _ _ (Builtin.SmallTypes.ownedTupleHandOut (.ref z) (.ref h5'.objs.size) >>= _) _ _ { s with heap := h5'.push { cls := Value.type "tuple", data := Data.seq #[x, y] } }
  generalize h5'.push { cls := Value.type "tuple", data := Data.seq #[x, y] } = h6' at *
  unfold Builtin.SmallTypes.ownedTupleHandOut
  refine wpAny_bind (wpAny_bind (wpAny_setField g6 rfl (by simp) (wpAny_setField (Heap.get?_update_self _ g6 (Obj.isFreed_of_fields (Obj.data_mapFields rfl _))) rfl (by simp) ?_)))
  have sb7 := Heap.SameBut.update h6' z (Obj.mapFields fun x_1 => x_1.setIfInBounds 0 (rawInt h5'.objs.size))
  have g7 : (h6'.update z (Obj.mapFields fun x_1 => x_1.setIfInBounds 0 (rawInt h5'.objs.size))).get? z = some { cls := Value.type "zip", data := Data.fields #[rawInt h5'.objs.size, Value.bool false, Value.bool false, Value.ref TI, Value.ref TO] } := Heap.get?_update_self _ g6 (Obj.isFreed_of_fields (Obj.data_mapFields rfl _))
  dsimp only
  generalize h6'.update z (Obj.mapFields fun x_1 => x_1.setIfInBounds 0 (rawInt h5'.objs.size)) = h7' at *
  have sb8 := Heap.SameBut.update h7' z (Obj.mapFields fun x_1 => x_1.setIfInBounds 1 (Value.bool false))
  have g8 : (h7'.update z (Obj.mapFields fun x_1 => x_1.setIfInBounds 1 (Value.bool false))).get? z = some { cls := Value.type "zip", data := Data.fields #[rawInt h5'.objs.size, Value.bool false, Value.bool false, Value.ref TI, Value.ref TO] } := Heap.get?_update_self _ g7 (Obj.isFreed_of_fields (Obj.data_mapFields rfl _))
  generalize h7'.update z (Obj.mapFields fun x_1 => x_1.setIfInBounds 1 (Value.bool false)) = h8' at *
  have far : ∀ c o, c ≠ z → h6'.get? c = some o → h8'.get? c = some o := fun c o hc e => ((sb8.2 c hc).trans (sb7.2 c hc)).trans e
  refine wpAny_pure ⟨_, rfl, wpAny_pure ?_⟩
  rw [sz5] at g8 n6 sz6 zlt ⊢
  refine hQ h8' g8 (far _ _ D.TOz (ex6 _ _ g5')) ?_ ?_ (far _ _ (Nat.ne_of_gt zlt) n6) (by rw [sb8.1, sb7.1, sz6]) fun c o c1 c2 c3 c4 e => ?_
  · obtain ⟨o, ho, r⟩ := it2
    exact ⟨o, far _ _ D.i1z (ex6 _ _ (((sb5.2 i1 (Ne.symm D.TOi1)).trans (sb4.2 i1 D.i12)).trans ((sb3.2 i1 (Ne.symm D.TOi1)).trans ho))), r⟩
  · obtain ⟨o, ho, r⟩ := it4
    exact ⟨o, far _ _ D.i2z (ex6 _ _ ((sb5.2 i2 (Ne.symm D.TOi2)).trans ho)), r⟩
  · exact far _ _ c1 (ex6 _ _ ((sb5.2 c c2).trans ((sb4.2 c c4).trans ((sb3.2 c c2).trans ((sb2.2 c c3).trans ((sb1.2 c c1).trans e))))))
theorem zipT_end (hh : A.handled = none) (D : ZipApart z TI TO i1 i2 l1 l2) (hz : IsZip s.heap z TI TO .none) (hTI : IsPair s.heap TI (.ref i1) (.ref i2)) (h1 : s.heap.IsTupleIter i1 l1 k) (p1 : s.heap.IsTuple l1 xs) (hx : xs[k]? = none)
    (hQ : ∀ h', (∀ c o, c ≠ z → c ≠ TO → c ≠ i1 → c ≠ i2 → s.heap.get? c = some o → h'.get? c = some o) → Q none { s with heap := h' }) : wpAny (model P w) A (pyNext (.ref z)) Q E s := by
  have hT : s.TypeIs (.ref z) "zip" := ⟨_, hz, rfl⟩
  unfold pyNext
  refine wpAny_bind (wpAny_attempt (wpAny_callSpecial?_slot (name := Str.ofString "__next__") hT F.slot_zip_next (wpAny_call_entry F.slot_zip_next hT F.entry_zip_next ?_ (F.args_zip_next_1 _))))
  refine wpAny_bind (m := field (.ref z) 2) (wpAny_field hz rfl (x := .bool false) rfl ?_)
  refine wpAny_bind (m := field (.ref z) 3) (wpAny_field hz rfl (x := .ref TI) rfl ?_)
  refine wpAny_bind (m := seqItems? (.ref TI)) (wpAny_seqItems hTI rfl ?_)
  refine wpAny_bind (m := Builtin.SmallTypes.ownedTupleIsFree (.ref z)) ?_
  unfold Builtin.SmallTypes.ownedTupleIsFree
  refine wpAny_bind (wpAny_field hz rfl (x := .none) rfl (wpAny_pure ?_))
  refine wpAny_bind (m := rule "zip.__next__.owned-tuple-again") (wpAny_rule ?_)
  refine wpAny_bind (m := field (.ref z) 4) (wpAny_field hz rfl (x := .ref TO) rfl ?_)
  refine wpAny_bind (m := setField (.ref z) 0 .ellipsis) (wpAny_setField hz rfl (by simp) ?_)
  have sb1 := Heap.SameBut.update s.heap z (Obj.mapFields fun x_1 => x_1.setIfInBounds 0 Value.ellipsis)
  have g1 : (s.heap.update z (Obj.mapFields fun x_1 => x_1.setIfInBounds 0 Value.ellipsis)).get? z = some { cls := Value.type "zip", data := Data.fields #[.ellipsis, Value.bool false, Value.bool false, Value.ref TI, Value.ref TO] } := Heap.get?_update_self _ hz (Obj.isFreed_of_fields (Obj.data_mapFields rfl _))
  generalize s.heap.update z (Obj.mapFields fun x_1 => x_1.setIfInBounds 0 Value.ellipsis) = h1' at *
  refine wpAny_bind ?_
  rw [show (#[Value.ref i1, Value.ref i2].toList.zipIdx : List (Value × Nat)) = [(.ref i1, 0), (.ref i2, 1)] from rfl, List.forIn_cons]
  dsimp only
  have it1 : h1'.IsTupleIter i1 l1 k := by obtain ⟨o, ho, r⟩ := h1; exact ⟨o, (sb1.2 i1 D.i1z).trans ho, r⟩
  have tp1 : h1'.IsTuple l1 xs := by obtain ⟨o, ho, r⟩ := p1; exact ⟨o, (sb1.2 l1 D.l1z).trans ho, r⟩
  refine wpAny_bind (wpAny_bind (wpAny_onRaise ?_))
  show wpAny _ _ (Builtin.SmallTypes.nextOf (.ref i1) >>= fun v => pure (some v)) _ _ _
  refine wpAny_bind (nextTup_end (by first | exact hh | (show A.in1.handled = none; exact hh)) it1 tp1 hx fun h2' e ex2 ⟨oe, hoe, hce⟩ => ?_)
  have gz2 : h2'.get? z = some { cls := Value.type "zip", data := Data.fields #[.ellipsis, Value.bool false, Value.bool false, Value.ref TI, Value.ref TO] } := ex2 z _ (Ne.symm D.i1z) g1
  have hez : e ≠ z := by
    intro h
    subst h
    have hoe' : h2'.get? e = some oe := hoe
    rw [gz2] at hoe'
    cases hoe'
    exact absurd (show Value.type "zip" = Value.type "StopIteration" from hce) (by decide)
  refine wpAny_setField gz2 rfl (by simp) ?_
  have sb3 := Heap.SameBut.update h2' z (Obj.mapFields fun x_1 => x_1.setIfInBounds 0 Value.none)
  dsimp only
  generalize h2'.update z (Obj.mapFields fun x_1 => x_1.setIfInBounds 0 Value.none) = h3' at *
  refine wpAny_bind (wpAny_isInstance (T := "StopIteration") (b := true) ⟨oe, (sb3.2 e hez).trans hoe, hce⟩ isSubtype_stop ?_)
  refine wpAny_pure (hQ h3' fun c o c1 c2 c3 c4 ec => ?_)
  exact (sb3.2 c c1).trans (ex2 c o c3 ((sb1.2 c c1).trans ec))
end
open AutoSeq1 (wpAny_loadPart') in
theorem zip_newT (l1 l2 : Addr) (xs ys : Array Value) (n1 n2 : Nat) (d1 d2 : Option Addr) (s1 s2 : Array (Option Value)) :
    Meets (Builtin.«zip.__new__» ⟨[.type "zip", .ref l1, .ref l2], []⟩) (fun _ R s => s.heap.get? l1 = some { cls := .type "tuple", dict := d1, data := .seq xs n1, slots := s1 } ∧ s.heap.get? l2 = some { cls := .type "tuple", dict := d2, data := .seq ys n2, slots := s2 } ∧
      ∀ g1 g2 g3 g4 g5, g1 = s.heap.push { cls := .type "tuple_iterator", data := .fields #[.ref l1, .int 0 0] } → g2 = g1.push { cls := .type "tuple_iterator", data := .fields #[.ref l2, .int 0 0] } → g3 = g2.push { cls := .type "tuple", data := .seq #[.ref s.heap.objs.size, .ref g1.objs.size] } → g4 = g3.push { cls := .type "tuple", data := .seq #[.none, .none] } → g5 = g4.push { cls := .type "zip", data := .fields #[.none, .bool false, .bool false, .ref g2.objs.size, .ref g3.objs.size] } → R (.ok (.ret (.ref g4.objs.size))) { s with heap := g5 }) :=
  .of_wp fun prog w A R s h => by
    obtain ⟨hp, g, d, tk, os⟩ := s
    obtain ⟨hl1, hl2, h⟩ := h
    have hT1 : Heap.IsTuple (Shared.heap ⟨hp, g, d, tk, os⟩) l1 xs := ⟨_, hl1, rfl, n1, rfl⟩
    have hT2 : Heap.IsTuple (hp.push { cls := .type "tuple_iterator", data := .fields #[.ref l1, .int 0 0] }) l2 ys := ⟨_, Heap.get?_push_of_some _ hl2, rfl, n2, rfl⟩
    have hsub : isSubtype (Value.type "zip") (Value.type "zip") = pure true := by first | exact sub_zip | rfl
    wp_walk using wpAny_loadPart' hl1, wpAny_pyIter_tuple hT1, wpAny_pyIter_tuple hT2
    exact ⟨_, rfl, h _ _ _ _ _ rfl rfl rfl rfl rfl⟩
theorem call_zipT {P : Program} {w : World} {A : Around} {E : Value → Shared → Prop} {s : Shared} {l1 l2 : Addr} {xs ys : Array Value} {Q : Value → Shared → Prop} (hT1 : s.heap.IsTuple l1 xs) (hT2 : s.heap.IsTuple l2 ys)
    (h : ∀ h', IsZip h' (s.heap.objs.size + 4) (s.heap.objs.size + 2) (s.heap.objs.size + 3) .none → IsPair h' (s.heap.objs.size + 2) (.ref s.heap.objs.size) (.ref (s.heap.objs.size + 1)) → IsPair h' (s.heap.objs.size + 3) .none .none → h'.IsTupleIter s.heap.objs.size l1 0 → h'.IsTupleIter (s.heap.objs.size + 1) l2 0 → (∀ b o, s.heap.get? b = some o → h'.get? b = some o) → Q (.ref (s.heap.objs.size + 4)) { s with heap := h' }) :
    wpAny (model P w) A (call (.type "zip") [.ref l1, .ref l2]) Q E s := by
  obtain ⟨⟨c1, d1, dt1, sl1⟩, hl1, hc1, n1, hd1⟩ := hT1
  replace hc1 : c1 = .type "tuple" := hc1
  replace hd1 : dt1 = .seq xs n1 := hd1
  subst hc1 hd1
  obtain ⟨⟨c2, d2, dt2, sl2⟩, hl2, hc2, n2, hd2⟩ := hT2
  replace hc2 : c2 = .type "tuple" := hc2
  replace hd2 : dt2 = .seq ys n2 := hd2
  subst hc2 hd2
  refine callType_new F.called_zip (by decide) (F.typeCall_zip_2 _ _) (F.newCall_zip_2 _ _) (fun obj => F.args_object_init_3 obj _ _) F.entry_zip_new (zip_newT l1 l2 xs ys n1 n2 d1 d2 sl1 sl2) ⟨hl1, hl2, ?_⟩
  intro g1 g2 g3 g4 g5 e1 e2 e3 e4 e5
  have z1 : g1.objs.size = s.heap.objs.size + 1 := by rw [e1, Heap.size_push]
  have z2 : g2.objs.size = s.heap.objs.size + 2 := by rw [e2, Heap.size_push, z1]
  have z3 : g3.objs.size = s.heap.objs.size + 3 := by rw [e3, Heap.size_push, z2]
  have z4 : g4.objs.size = s.heap.objs.size + 4 := by rw [e4, Heap.size_push, z3]
  have k1 : ∀ b o, s.heap.get? b = some o → g1.get? b = some o := fun b o x => by rw [e1]; exact Heap.get?_push_of_some _ x
  have k2 : ∀ b o, g1.get? b = some o → g2.get? b = some o := fun b o x => by rw [e2]; exact Heap.get?_push_of_some _ x
  have k3 : ∀ b o, g2.get? b = some o → g3.get? b = some o := fun b o x => by rw [e3]; exact Heap.get?_push_of_some _ x
  have k4 : ∀ b o, g3.get? b = some o → g4.get? b = some o := fun b o x => by rw [e4]; exact Heap.get?_push_of_some _ x
  have k5 : ∀ b o, g4.get? b = some o → g5.get? b = some o := fun b o x => by rw [e5]; exact Heap.get?_push_of_some _ x
  have p1 : g1.get? s.heap.objs.size = some { cls := .type "tuple_iterator", data := .fields #[.ref l1, .int 0 0] } := by rw [e1]; exact Heap.get?_push_size _ rfl
  have p2 : g2.get? (s.heap.objs.size + 1) = some { cls := .type "tuple_iterator", data := .fields #[.ref l2, .int 0 0] } := by
    have := Heap.get?_push_size g1 (o := { cls := .type "tuple_iterator", data := .fields #[.ref l2, .int 0 0] }) rfl
    rw [z1] at this; rw [e2]; exact this
  have p3 : g3.get? (s.heap.objs.size + 2) = some { cls := .type "tuple", data := .seq #[.ref s.heap.objs.size, .ref (s.heap.objs.size + 1)] } := by
    have := Heap.get?_push_size g2 (o := { cls := .type "tuple", data := .seq #[.ref s.heap.objs.size, .ref g1.objs.size] }) rfl
    rw [z2] at this; rw [e3, this, z1]
  have p4 : g4.get? (s.heap.objs.size + 3) = some { cls := .type "tuple", data := .seq #[.none, .none] } := by
    have := Heap.get?_push_size g3 (o := { cls := .type "tuple", data := .seq #[.none, .none] }) rfl
    rw [z3] at this; rw [e4, this]
  have p5 : g5.get? (s.heap.objs.size + 4) = some { cls := .type "zip", data := .fields #[.none, .bool false, .bool false, .ref (s.heap.objs.size + 2), .ref (s.heap.objs.size + 3)] } := by
    have := Heap.get?_push_size g4 (o := { cls := .type "zip", data := .fields #[.none, .bool false, .bool false, .ref g2.objs.size, .ref g3.objs.size] }) rfl
    rw [z4] at this; rw [e5, this, z2, z3]
  show _ ∧ _
  rw [z4]
  exact ⟨⟨_, p5, rfl⟩, h _ p5 (k5 _ _ (k4 _ _ p3)) (k5 _ _ p4) ⟨_, k5 _ _ (k4 _ _ (k3 _ _ (k2 _ _ p1))), rfl, rfl⟩ ⟨_, k5 _ _ (k4 _ _ (k3 _ _ p2)), rfl, rfl⟩ fun b o x => k5 _ _ (k4 _ _ (k3 _ _ (k2 _ _ (k1 _ _ x))))⟩
def ItzT (K : PySem.W.Frag) (a b : Addr) : It :=
  ⟨fun i H => ∃ xs ys x y, SqT K H a xs ∧ SqT K H b ys ∧ xs[i]? = some x ∧ ys[i]? = some y, fun i H z H' => ∃ p x y, H p = none ∧ z = .ref p ∧ (∀ xs, SqT K H a xs → xs[i]? = some x) ∧ (∀ ys, SqT K H b ys → ys[i]? = some y) ∧ H' = upd H p (.tup [x, y]),
    fun i H => ∃ xs, SqT K H a xs ∧ xs.length ≤ i⟩
theorem turn_zipT {P : Program} {w : World} {K : PySem.W.Frag} {es : List Expr} {kt : Nat} {tp : Pos} (l1 l2 z TI TO i1 i2 : Addr) (D : ZipApart z TI TO i1 i2 l1 l2) :
    Turn P w K (.Tuple es kt tp) (ItzT K l1 l2) [z, TI, TO, i1, i2] z (fun i h => IsZip h z TI TO .none ∧ IsPair h TI (.ref i1) (.ref i2) ∧ (∃ a b, IsPair h TO a b) ∧ h.IsTupleIter i1 l1 i ∧ h.IsTupleIter i2 l2 i) where
  mem := by simp
  obj := fun i h st b hb => by
    obtain ⟨hz, hTI, ⟨a, c, hTO⟩, ⟨o1, e1, c1, d1⟩, ⟨o2, e2, c2, d2⟩⟩ := st
    simp only [List.mem_cons, List.not_mem_nil, or_false] at hb
    rcases hb with rfl | rfl | rfl | rfl | rfl
    · exact ⟨_, hz, fun v q => by have q' : Data.fields _ = Data.cell v := q; cases q'⟩
    · exact ⟨_, hTI, fun v q => by have q' : Data.seq _ _ = Data.cell v := q; cases q'⟩
    · exact ⟨_, hTO, fun v q => by have q' : Data.seq _ _ = Data.cell v := q; cases q'⟩
    · exact ⟨o1, e1, fun v q => by rw [d1] at q; cases q⟩
    · exact ⟨o2, e2, fun v q => by rw [d2] at q; cases q⟩
  keep := fun i h h' st k => by
    obtain ⟨hz, hTI, ⟨a, c, hTO⟩, h1, h2⟩ := st
    exact ⟨k _ (by simp) _ hz, k _ (by simp) _ hTI, ⟨a, c, k _ (by simp) _ hTO⟩, h1.at fun o e => k _ (by simp) o e, h2.at fun o e => k _ (by simp) o e⟩
  item := by
    intro X hP hw hK hc i pins s σ H E I hf st hg
    subst hP hw hK
    obtain ⟨hz, hTI, ⟨a, c, hTO⟩, h1, h2⟩ := st
    obtain ⟨xs, ys, x, y, hq1, hq2, hx, hy⟩ := hg
    obtain ⟨its1, rv1, p1, hz1⟩ := I.tuple hq1
    obtain ⟨its2, rv2, p2, hz2⟩ := I.tuple hq2
    obtain ⟨u, hu, ru⟩ := rv1.get hx
    obtain ⟨v, hv, rvv⟩ := rv2.get hy
    refine zipT_item D hz hTI hTO h1 h2 p1 p2 (x := u) (y := v) (by simpa using hu) (by simpa using hv) fun g1 b1 b2 b3 b4 b5 b6 hk => ?_
    refine ⟨.ref s.heap.objs.size, rfl, wpAny_letOwnedTupleGo_zip b1 fun g2 hz2' hs2 => ?_⟩
    replace hs2 : Heap.SameBut z g1 g2 := hs2
    have zlt : z < s.heap.objs.size := Heap.lt_size hz
    have I2 : Inv X pins σ (upd H s.heap.objs.size (.tup [x, y])) { s with heap := g2, toks := s.toks } := by
      refine I.yieldTup (us := [u, v]) hf (fun b o hb e => ?_) (Nat.le_refl _) ((hs2.2 _ (Nat.ne_of_gt zlt)).trans b5) (.cons ru (.cons rvv .nil)) (by show 2 ≤ sizeLine; decide)
      simp only [List.mem_cons, List.not_mem_nil, or_false, not_or] at hb
      exact (hs2.2 b hb.1).trans (hk b o hb.1 hb.2.2.1 hb.2.2.2.1 hb.2.2.2.2 e)
    refine ⟨.ref s.heap.objs.size, _, I2, rfl, ⟨s.heap.objs.size, x, y, I.hok.fresh (Nat.le_refl _), rfl, fun xs' h' => by rw [I.tuple_inj h' hq1]; exact hx, fun ys' h' => by rw [I.tuple_inj h' hq2]; exact hy, rfl⟩,
      ⟨hz2', (hs2.2 _ D.TIz).trans (hk _ _ D.TIz D.TITO D.TIi1 D.TIi2 hTI), ⟨_, _, (hs2.2 _ D.TOz).trans b2⟩, b3.extBut hs2.extBut D.i1z, b4.extBut hs2.extBut D.i2z⟩, fun b hb => ?_⟩
    have hlt : b < s.heap.objs.size := by
      simp only [List.mem_cons, List.not_mem_nil, or_false] at hb
      rcases hb with rfl | rfl | rfl | rfl | rfl
      · exact zlt
      · exact Heap.lt_size hTI
      · exact Heap.lt_size hTO
      · obtain ⟨o, e, _⟩ := h1; exact Heap.lt_size e
      · obtain ⟨o, e, _⟩ := h2; exact Heap.lt_size e
    rw [upd_ne (Nat.ne_of_lt hlt)]
    exact (hf b hb).1
  done := by
    intro X hP hw hK hc i pins s σ H E I hf st hg
    subst hP hw hK
    obtain ⟨hz, hTI, ⟨a, c, hTO⟩, h1, h2⟩ := st
    obtain ⟨xs, hq1, hend⟩ := hg
    obtain ⟨its1, rv1, p1, hz1⟩ := I.tuple hq1
    have l1 := rv1.length
    refine zipT_end (I.ok.hd hc) D hz hTI h1 p1 (by simp; omega) fun h' hk => ⟨rfl, I.turnedL (tk := s.toks) hf fun b o hb e => ?_⟩
    simp only [List.mem_cons, List.not_mem_nil, or_false, not_or] at hb
    exact hk b o hb.1 hb.2.2.1 hb.2.2.2.1 hb.2.2.2.2 e
  self := fun _ _ _ _ _ st h => wpAny_pyIter_zip st.1 h
section
variable {X : Cx} {es : List Expr} {kt : Nat} {tp : Pos}
/-- zip of two lists or of two tuples -/
def iZipLT (K : PySem.W.Frag) (ta : TA) : TI := fun σ H R => ta σ H fun vs H1 => ∃ a b, vs = [.ref a, .ref b] ∧ (((∃ xs, SqL K H1 a xs) ∧ (∃ ys, SqL K H1 b ys) ∧ R (Itz K a b) H1) ∨ ((∃ xs, SqT K H1 a xs) ∧ (∃ ys, SqT K H1 b ys) ∧ R (ItzT K a b) H1))
theorem pi_zipLT {e1 e2 : Expr} {ta : TA} {p pos : Pos} (hg : Gl X "zip") (hm : X.mg "zip" = none) (ha : PA X [e1, e2] ta) (hs : starEach [e1, e2] X.env = [(false, eval e1 X.env), (false, eval e2 X.env)] := by rfl) (hs2 : starEach [e2] X.env = [(false, eval e2 X.env)] := by rfl) :
    PI X (.Tuple es kt tp) (.Call (.Name "zip" p) [e1, e2] [] pos) (iZipLT X.K ta) := by
  intro pins s σ H R I h
  refine Call_ (ld_blt I hg hm boot_zipT (PyProof.Rows.callWith_type1 (thn (ha pos pins s σ H _ I h) fun us s1 ⟨vs, H1, I1, r1, q1⟩ => ?_) (by rw [hs, hs2]) (by rw [hs2]; rfl)))
  obtain ⟨a, b, e, q1⟩ := q1
  subst e
  obtain ⟨u, v, rfl, ru, rv⟩ := vals2 r1
  cases ru
  cases rv
  rcases q1 with ⟨⟨xs, hq1⟩, ⟨ys, hq2⟩, q⟩ | ⟨⟨xs, hq1⟩, ⟨ys, hq2⟩, q⟩
  · obtain ⟨its1, rv1, p1, hz1⟩ := I1.list hq1
    obtain ⟨its2, rv2, p2, hz2⟩ := I1.list hq2
    have la : a < s1.heap.objs.size := by obtain ⟨o, e, _⟩ := p1.isList; exact Heap.lt_size e
    have lb : b < s1.heap.objs.size := by obtain ⟨o, e, _⟩ := p2.isList; exact Heap.lt_size e
    refine call_zip_2 p1.isList p2.isList fun h' b1 b2 b3 b4 b5 hsz hk => wpAny_pyIter_zip b1 ?_
    have I2 : Inv X pins σ H1 { s1 with heap := h' } := I1.kept (t' := s1.toks) hk
    refine ⟨s1.heap.objs.size + 4, [s1.heap.objs.size + 4, s1.heap.objs.size + 2, s1.heap.objs.size + 3, s1.heap.objs.size, s1.heap.objs.size + 1], _, _, H1, rfl, I2, turn_zip a b _ _ _ _ _ (zipApart_new la lb), ⟨b1, b2, ⟨_, _, b3⟩, b4, b5⟩, fun c hb => ?_, q⟩
    have hb' : s1.heap.objs.size ≤ c := by
      simp only [List.mem_cons, List.not_mem_nil, or_false] at hb
      rcases hb with rfl | rfl | rfl | rfl | rfl <;> first | exact Nat.le_refl _ | exact Nat.le_add_right _ _
    exact I1.fpOk hb' (I1.hok.fresh hb')
  · obtain ⟨its1, rv1, p1, hz1⟩ := I1.tuple hq1
    obtain ⟨its2, rv2, p2, hz2⟩ := I1.tuple hq2
    have la : a < s1.heap.objs.size := by obtain ⟨o, e, _⟩ := p1; exact Heap.lt_size e
    have lb : b < s1.heap.objs.size := by obtain ⟨o, e, _⟩ := p2; exact Heap.lt_size e
    refine call_zipT p1 p2 fun h' b1 b2 b3 b4 b5 hk => wpAny_pyIter_zip b1 ?_
    have I2 : Inv X pins σ H1 { s1 with heap := h' } := I1.kept (t' := s1.toks) hk
    refine ⟨s1.heap.objs.size + 4, [s1.heap.objs.size + 4, s1.heap.objs.size + 2, s1.heap.objs.size + 3, s1.heap.objs.size, s1.heap.objs.size + 1], _, _, H1, rfl, I2, turn_zipT a b _ _ _ _ _ (zipApart_new la lb), ⟨b1, b2, ⟨_, _, b3⟩, b4, b5⟩, fun c hb => ?_, q⟩
    have hb' : s1.heap.objs.size ≤ c := by
      simp only [List.mem_cons, List.not_mem_nil, or_false] at hb
      rcases hb with rfl | rfl | rfl | rfl | rfl <;> first | exact Nat.le_refl _ | exact Nat.le_add_right _ _
    exact I1.fpOk hb' (I1.hok.fresh hb')
end
theorem cl_zipT {K : PySem.W.Frag} {a b : Addr} {xs ys : List V} {g : TG} {tt : TT} {te : TE} {Q : VK} {τ : St} {H1 : Hp} {D : Addr} (Pv : Nat → St → Hp → Prop) (hlen : xs.length ≤ ys.length) (h0 : Pv 0 τ (upd H1 D (.lst [])))
    (hl : ∀ i τ H, i ≤ xs.length → Pv i τ H → SqT K H a xs ∧ SqT K H b ys)
    (hs : ∀ i x y p τ H, xs[i]? = some x → ys[i]? = some y → H p = none → Pv i τ H → g (.ref p) τ (upd H p (.tup [x, y])) fun τ2 H3 => tt τ2 H3 fun b H4 => if b = true then te τ2 H4 fun v H5 => ∃ ys, H5 D = some (.lst ys) ∧ ys.length < sizeLine ∧ Pv (i + 1) τ2 (upd H5 D (.lst (ys ++ [v]))) else Pv (i + 1) τ2 H4)
    (hd : ∀ τ H, Pv xs.length τ H → Q (.ref D) H) : CLoop (ItzT K a b) g tt te D Q τ (upd H1 D (.lst [])) := by
  refine ⟨fun i m τ H => m = xs.length - i ∧ i ≤ xs.length ∧ Pv i τ H, ⟨xs.length, by simp, Nat.zero_le _, h0⟩, ?_⟩
  rintro i m τ H ⟨rfl, hi, p⟩
  obtain ⟨q, q'⟩ := hl i τ H hi p
  by_cases hlt : i < xs.length
  · refine .inr ⟨⟨xs, ys, xs[i], ys[i]'(by omega), q, q', by simp [hlt], by first | (simp; done) | (simp; omega)⟩, Pv (i + 1), fun σ' H' p' => ⟨xs.length - (i + 1), by omega, rfl, hlt, p'⟩, fun x H' y => ?_⟩
    obtain ⟨pp, x', y', hp, rfl, y1, y2, rfl⟩ := y
    exact hs i x' y' pp τ _ (y1 xs q) (y2 ys q') hp p
  · have e : i = xs.length := by omega
    subst e
    exact .inl ⟨⟨xs, q, Nat.le_refl _⟩, hd τ H p⟩
end L2

set_option Elab.async false
set_option linter.all false
set_option maxRecDepth 100000
set_option maxHeartbeats 4000000
namespace L2
open PySem PySem.Spec PyProof.Rows
/-! ### slices of a list with a step -/
def slV (xs : List V) (lo hi st : Option Int) : List V := (sliceRange (sliceBounds lo hi st xs.length).1 (sliceBounds lo hi st xs.length).2.1 (sliceBounds lo hi st xs.length).2.2).filterMap fun k => xs[k]?
def rSl3 (K : PySem.W.Frag) : V → Option Int → Option Int → Option Int → Hp → VK → Prop := fun x lo hi st H Q => ∃ a xs, x = .ref a ∧ SqL K H a xs ∧ st ≠ some 0 ∧ ∀ p, H p = none → Q (.ref p) (upd H p (.lst (slV xs lo hi st)))
def tSl3 (K : PySem.W.Frag) (te : TE) (tl th ts : TO) : TE := fun σ H Q => te σ H fun x H1 => tl σ H1 fun l H2 => th σ H2 fun u H3 => ts σ H3 fun z H4 => rSl3 K x l u z H4 Q
section
variable {X : Cx} {e st : Expr} {te : TE} {lo hi : Option Expr} {tl th ts : TO} {p2 pos : Pos}
end
end L2

set_option Elab.async false
set_option linter.all false
set_option maxRecDepth 100000
set_option maxHeartbeats 4000000
namespace L2
open PySem PySem.Spec PyProof.Rows
/-! ### how many places rings have together -/
/-! ### the rings of what puts back -/
theorem IsBack.symm {n : Nat} {os bs : List Int} (ho : IsOrd n os) (h : IsBack os bs) : IsBack bs os := by
  refine ⟨h.1.symm, fun j hj => ?_⟩
  rw [h.1, ho.1] at hj
  have := back_nxt ho h (x := (j : Int)) (by omega) (by omega)
  have e : nxt os (nxt bs (j : Int)) = os.getD (bs.getD ((j : Int)).toNat 0).toNat 0 := rfl
  rw [e, Int.toNat_natCast] at this
  exact this
end L2

set_option Elab.async false
set_option linter.all false
set_option maxRecDepth 100000
set_option maxHeartbeats 4000000
namespace L2
open PySem PySem.Spec PyProof.Rows
/-! ### swaps done in a row -/
end L2

set_option Elab.async false
set_option linter.all false
set_option maxRecDepth 100000
set_option maxHeartbeats 4000000
namespace L2
open PySem PySem.Spec PyProof.Rows
/-! ### stretches turned about by swaps -/
theorem Room.u1 {k : Nat} {A : Around} (r : Room k A) : A.in1.units < cLine := by have := r.un; show A.units + 1 < _; omega
end L2

set_option Elab.async false
set_option linter.all false
set_option maxRecDepth 100000
set_option maxHeartbeats 4000000
namespace L2
open PySem PySem.Spec PyProof.Rows
/-! ### where a number stands in a list of numbers -/
def rIndex : V → List V → Hp → VK → Prop := fun x vs H Q => ∃ l ns i j, x = .ref l ∧ vs = [.int i] ∧ H l = some (il ns) ∧ j < ns.length ∧ ns.getD j 0 = i ∧ (∀ m, m < j → ns.getD m 0 ≠ i) ∧ Q (.int (j : Nat)) H
section
variable {X : Cx}
variable {o e : Expr} {es : List Expr} {to : TE} {t : TA} {name : Str} {apos cpos : Pos} {T id : String} {r : V → List V → Hp → VK → Prop} {K : PySem.W.Frag}
theorem pe_bmK (hK : X.K = K) (pa : PlainAttrs T) (slot : Slot T name id) (hty : typeOf (.builtin id) = pure (.type "method_descriptor")) (hm : MtR X id r) (ho : PE X o to) (ha : PA X (e :: es) t)
    (h1 : attributeBase o name X.env (eval o X.env) = eval o X.env := by rfl)
    (h2 : ((backTo cpos (starEach (e :: es) X.env)).all (fun x => !x.1) && (backToKw cpos (keywordEach [] X.env)).all (fun x => x.1.isSome) && decide ((e :: es).length + ([] : List Keyword).length + (if ([] : List Keyword).isEmpty then 0 else 1) < 30)) = true := by rfl)
    (h3 : (apos.endLine == cpos.line) = true := by rfl) (h4 : starEach (e :: es) X.env = (false, eval e X.env) :: starEach es X.env := by rfl) (h5 : (backTo cpos (starEach es X.env)).any (·.1) = false := by rfl) :
    PE X (.Call (.Attribute o name apos) (e :: es) [] cpos) (tBM K T r to t) := by
  subst hK
  exact pe_bm pa slot hty hm ho ha h1 h2 h3 h4 h5
end
end L2

set_option Elab.async false
set_option linter.all false
set_option maxRecDepth 100000
set_option maxHeartbeats 4000000
namespace L2
open PySem PySem.Spec PyProof.Rows
/-! ### for over a range with a step -/
def Its (lo c : Int) (n : Nat) : It := ⟨fun i _ => i < n, fun i H x H' => H' = H ∧ x = .int (lo + i * c), fun i _ => n ≤ i⟩
section
variable {X : Cx} {tg : Expr}
def iRng3 (ta : TA) : TI := fun σ H R => ta σ H fun vs H1 => ∃ i j c : Int, vs = [.int i, .int j, .int c] ∧ c ≠ 0 ∧ c.natAbs < 1073741824 ∧ Builtin.Range.small i j c = true ∧ ∃ n : Nat, Builtin.Range.rangeSize i j c = (n : Int) ∧ R (Its i c n) H1
end
/-! ### deeds done in a row -/
inductive Dd where
  | take (p : Nat) | move (p g : Nat) | lay (g : Nat)
abbrev RS := List (Option Int) × Option Int × List Int
def inc (mv : List Int) (x : Int) : List Int := mv.set x.toNat (mv.getD x.toNat 0 + 1)
/-- a deed can be done and comes to -/
inductive Do : Dd → RS → RS → Prop
  | take {p : Nat} {row : List (Option Int)} {mv : List Int} {x : Int} : row[p]? = some (some x) → Do (.take p) (row, none, mv) (row.set p none, some x, inc mv x)
  | move {p g : Nat} {row : List (Option Int)} {h : Option Int} {mv : List Int} {x : Int} : row[p]? = some (some x) → row[g]? = some none → Do (.move p g) (row, h, mv) ((row.set p none).set g (some x), h, inc mv x)
  | lay {g : Nat} {row : List (Option Int)} {mv : List Int} {x : Int} : row[g]? = some none → Do (.lay g) (row, some x, mv) (row.set g (some x), none, inc mv x)
inductive Dos : List Dd → RS → RS → Prop
  | nil {s : RS} : Dos [] s s
  | cons {d : Dd} {l : List Dd} {s t u : RS} : Do d s t → Dos l t u → Dos (d :: l) s u
theorem Dos.append {a b : List Dd} {s t u : RS} (h1 : Dos a s t) (h2 : Dos b t u) : Dos (a ++ b) s u := by
  induction h1 with
  | nil => exact h2
  | cons d _ ih => exact .cons d (ih h2)
end L2

set_option Elab.async false
set_option linter.all false
set_option maxRecDepth 100000
set_option maxHeartbeats 4000000
namespace L2
open PySem PySem.Spec PyProof.Rows
/-! ### how many unlike numbers -/
section
variable {X : Cx} {K : PySem.W.Frag}
end
end L2

set_option Elab.async false
set_option linter.all false
set_option maxRecDepth 100000
set_option maxHeartbeats 4000000
namespace L2
open PySem PySem.Spec PyProof.Rows
/-! ### plans that differ not -/
section
variable {X : Cx}
end
end L2

set_option Elab.async false
set_option linter.all false
set_option maxRecDepth 100000
set_option maxHeartbeats 4000000
namespace L2
open PySem PySem.Spec PyProof.Rows
/-! ### a list and the empty one -/
def rNil (K : PySem.W.Frag) (f : Bool → Bool) : R2 := fun x y H Q => ∃ p q xs, x = .ref p ∧ y = .ref q ∧ SqL K H p xs ∧ SqL K H q [] ∧ Q (.bl (f xs.isEmpty)) H
section
variable {X : Cx}
theorem op_neN (hu : X.A.units + 64 < cLine) : OpR X (compareOp .NotEq) (rNil X.K not) := by
  intro pins s σ H x y v u Q I rx ry h
  obtain ⟨p, q, xs, rfl, rfl, h1, h2, k⟩ := h
  cases rx
  cases ry
  obtain ⟨us, r1, p1, z1⟩ := I.list h1
  obtain ⟨ws, r2, p2, z2⟩ := I.list h2
  have l1 := r1.length
  have l2 := r2.length
  have hw : ws = [] := List.length_eq_zero_iff.mp l2.symm
  subst hw
  cases xs with
  | nil =>
    have hus : us = [] := List.length_eq_zero_iff.mp l1.symm
    subst hus
    refine EqBoolInt.of_rcne (SeqAt.RcNeAt.lists (e := fun _ => true) p1.isList p2.isList rfl (by omega) (fun j h1' h2' => ?_)) ⟨.bl false, H, I, rfl, k⟩
    simp at h1'
  | cons a r =>
    refine EqBoolInt.of_rcne (SeqAt.RcNeAt.lists_lengths p1.isList p2.isList ?_ (by omega)) ⟨.bl true, H, I, rfl, k⟩
    rw [List.size_toArray, List.size_toArray, ← l1]
    rfl
end
/-! ### a list or tuple turned about -/
/-- x[::-1] of a list or a tuple -/
def rRev (K : PySem.W.Frag) : V → Hp → VK → Prop := fun x H Q => ∃ a xs, x = .ref a ∧ ((SqL K H a xs ∧ ∀ p, H p = none → Q (.ref p) (upd H p (.lst xs.reverse))) ∨ (SqT K H a xs ∧ ∀ p, H p = none → Q (.ref p) (upd H p (.tup xs.reverse))))
def tRev (K : PySem.W.Frag) (te : TE) (ts : TO) : TE := fun σ H Q => te σ H fun x H1 => ts σ H1 fun z H2 => z = some (-1) ∧ rRev K x H2 Q
section
variable {X : Cx} {e st : Expr} {te : TE} {ts : TO} {p2 pos : Pos}
end
end L2

set_option Elab.async false
set_option linter.all false
set_option maxRecDepth 100000
set_option maxHeartbeats 4000000
namespace L2
open PySem PySem.Spec PyProof.Rows
/-! ### two lists of flat things that are alike -/
def rNeF (K : PySem.W.Frag) : R2 := fun x y H Q => ∃ p q xs, x = .ref p ∧ y = .ref q ∧ SqL K H p xs ∧ SqL K H q xs ∧ xs.all flatV = true ∧ eqVs xs xs = true ∧ Q (.bl false) H
section
variable {X : Cx}
end
end L2

set_option Elab.async false
set_option linter.all false
set_option maxRecDepth 100000
set_option maxHeartbeats 4000000
namespace L2
open PySem PySem.Spec PyProof.Rows
/-! ### methods of one class in one bundle -/
def AtM (K : PySem.W.Frag) (C : Addr) (m qual : Str) (st : Stmt) : Prop := ∃ f fd, Fun K m qual st f fd ∧ Meth K C m f
def Dm (P : Program) (w : World) (K : PySem.W.Frag) (mg : Str → Option Value) (base : Heap) (C : Addr) (m : Str) (ps : List Str) (k : Nat) (sp : Sp) : Prop :=
  ∃ f fd, FnOk P w K mg base CX0 k f fd ps sp ∧ Binds K fd ps [] ∧ Meth K C m f
theorem Dm.mono {P : Program} {w : World} {K : PySem.W.Frag} {mg : Str → Option Value} {base : Heap} {C : Addr} {m : Str} {ps : List Str} {j k : Nat} {sp : Sp} (D : Dm P w K mg base C m ps j sp) (h : j ≤ k) : Dm P w K mg base C m ps k sp :=
  let ⟨f, fd, F, r⟩ := D
  ⟨f, fd, F.mono h, r⟩
theorem dme_of {P : Program} {w : World} {K : PySem.W.Frag} {mg : Str → Option Value} {base : Heap} {C : Addr} {m qual : Str} {st : Stmt} {N ps : List Str} {k : Nat} {sp : Sp} (a : AtM K C m qual st) (S : FnScope N ps (defScope st))
    (hb : ∀ (kV doc pm : Value) (an : Option Addr) (cdv ct : Value) (us : List Value), us.length = ps.length → bindArgs (PySem.W.fnOf m qual (defArgs st) (defBody st) (defScope st) .none kV doc pm an cdv ct) ⟨us, []⟩ = pure (ps.zip us))
    (len : ∀ vs H Q E, sp vs H Q E → vs.length = ps.length)
    (hbody : ∀ (f : Addr) (cdv : Value) (A : Around) (outer : List Env) (s : Shared) (H : Hp) (vs : List V) (Q : VK) (E : XK), Room k (A.deeper (envOfC qual (defScope st) s.heap.objs.size f cdv)) → sp vs H Q E →
      ∃ t, PSs (cxOf CX0 P w K mg base N qual (defScope st) f cdv A outer s H E).nox (defBody st) t ∧ t { nx := fun _ H' => Q .non H', rt := Q } (start N vs) H) : Dm P w K mg base C m ps (k + 1) sp := by
  obtain ⟨f, fd, F, mt⟩ := a
  exact ⟨f, fd, F.ok S len fun cdv A outer s H vs Q E => hbody f cdv A outer s H vs Q E, F.binds hb, mt⟩
section
variable {X : Cx} {k : Nat} {C : Addr} {m x : Str} {ps : List Str} {sp : Sp} {p pos apos : Pos} {o e : Expr} {es : List Expr} {t : TA} {to : TE}
theorem pe_md {pl : Sem Bool} (c : Cls X.K C) (D : Dm X.prog X.w X.K X.mg X.base C m ps k sp) (hr : Room k X.A) (ho : PE X o to) (ha : PA X (e :: es) t)
    (hst : starEach (e :: es) X.env = (false, eval e X.env) :: starEach es X.env := by rfl) (hpl : (backTo pos (starEach es X.env)).any (·.1) = false := by rfl)
    (ht : eval (.Call (.Attribute o m apos) (e :: es) [] pos) X.env = (do
      let ov ← eval o X.env
      standAt apos.atName
      let (f, first) ← holding [ov] (getMethod ov m pl)
      callWith pos f first (backTo pos (starEach (e :: es) X.env)) (backToKw pos (keywordEach [] X.env))) := by rfl) :
    PE X (.Call (.Attribute o m apos) (e :: es) [] pos) (tMeth C m sp [] E0 to t) := by
  obtain ⟨f, fd, F, b, mt⟩ := D
  exact pe_meth ho c mt F hr b .nil pass0 ha hst hpl ht
theorem pe_md0 {pl : Sem Bool} (c : Cls X.K C) (D : Dm X.prog X.w X.K X.mg X.base C m ps k sp) (hr : Room k X.A) (ho : PE X o to)
    (ht : eval (.Call (.Attribute o m apos) [] [] pos) X.env = (do
      let ov ← eval o X.env
      standAt apos.atName
      let (f, first) ← holding [ov] (getMethod ov m pl)
      callWith pos f first (backTo pos (starEach [] X.env)) (backToKw pos (keywordEach [] X.env))) := by rfl) :
    PE X (.Call (.Attribute o m apos) [] [] pos) (tMeth C m sp [] E0 to tNil) := by
  obtain ⟨f, fd, F, b, mt⟩ := D
  exact pe_meth0 ho c mt F hr b .nil pass0 ht
/-- what a class must have to be made, by its own __init__ -/
def Mkr (P : Program) (w : World) (K : PySem.W.Frag) (mg : Str → Option Value) (base : Heap) (x : Str) (C : Addr) (ps : List Str) (k : Nat) (sp : Sp) : Prop :=
  ∃ f fd, FnOk P w K mg base CX0 k f fd ps sp ∧ Binds K fd ps [] ∧ Mk K C f ∧ mg x = some (.ref C)
theorem pe_mk (D : Mkr X.prog X.w X.K X.mg X.base x C ps k sp) (hr : Room (k + 1) X.A) (hg : Gl X x) (ha : PA X (e :: es) t) (hdb : (x == ("__debug__" : Str)) = false := by decide)
    (he : starEach (e :: es) X.env = (false, eval e X.env) :: starEach es X.env := by rfl) (hpl : (backTo pos (starEach es X.env)).any (·.1) = false := by rfl) : PE X (.Call (.Name x p) (e :: es) [] pos) (tMake C sp [] E0 t) := by
  obtain ⟨f, fd, F, b, M, hm⟩ := D
  exact pe_make M F hr hg hm b .nil pass0 ha hdb he hpl
end
/-! ### a dict of the top, that nothing changes -/
structure KD (K : PySem.W.Frag) (w : World) (a : Addr) (kvs : List (Key × V)) : Prop where
  ex : ∃ es ep, K.lookup a = some ⟨.type "dict", none, .dict es ep, #[]⟩ ∧ ∀ P : Program, PySem.KeysOf (mixKind P w) es ∧ ∃ vs, KV kvs vs ∧ Pairs (mixKind P w) es.toList vs ∧ (vs.map (·.1)).Nodup
  ns : (a == sysModules) = false
theorem KD.at {X : Cx} {pins : List (Addr × Obj)} {σ : St} {H : Hp} {s : Shared} {a : Addr} {kvs : List (Key × V)} (d : KD X.K X.w a kvs) (I : Inv X pins σ H s) : ∃ vs, KV kvs vs ∧ s.heap.DictOf (mixKind X.prog X.w) a vs := by
  obtain ⟨es, ep, hl, h⟩ := d.ex
  obtain ⟨h1, vs, r, h2, h3⟩ := h X.prog
  exact ⟨vs, r, _, es, ep, I.kIn a _ hl, ⟨rfl, rfl, rfl⟩, rfl, h1, h2, h3⟩
def tKGet (kvs : List (Key × V)) (ty : TE) : TE := fun σ H Q => ty σ H fun y H2 => ∃ k, y = kV k ∧ Q ((valV kvs k).getD .non) H2
section
variable {X : Cx} {e : Expr} {ty : TE} {p apos cpos : Pos} {x : Str} {a : Addr} {kvs : List (Key × V)}
theorem pe_kget (d : KD X.K X.w a kvs) (hg : Gl X x) (hm : X.mg x = some (.ref a)) (he : PE X e ty) (m : M1 X (.Name x p) "get" apos e cpos) (hdb : (x == ("__debug__" : Str)) = false := by decide) : PE X (.Call (.Attribute (.Name x p) "get" apos) [e] [] cpos) (tKGet kvs ty) := by
  intro pins s σ H Q I h
  refine wpAny_Call_method m.base m.few m.line PySem.F.plainAttrs_dict PySem.F.slot_dict_get PySem.F.type_dict_get (ld_glob I hg hm ?_ hdb)
  obtain ⟨vs0, _, dd0⟩ := d.at I
  refine ⟨dd0.typeIs, fun b q => ?_, ?_⟩
  · cases q
    obtain ⟨ob, _, _, h1, h2, _⟩ := dd0
    exact ⟨ob, h1, h2.2.1⟩
  rw [m.trees]
  refine Calls.callWith_builtin rfl (Calls.evalArgs_plain (Calls.spliced_cons (thn (he pins s σ H _ I h) fun iv s2 ⟨y, H2, I2, ry, k, ey, q2⟩ => Calls.spliced_nil ?_)))
  subst ey
  obtain ⟨vs, rel, dd⟩ := d.at I2
  refine call_meetsIn PySem.F.slot_dict_get dd.typeIs PySem.F.entry_dict_get (PySem.F.args_dict_get_2 _ _) (meets_dict_get (mixKind X.prog X.w) a (kV_is ry) d.ns) ⟨_, dd.mapOf, ?_⟩
  refine ⟨(valV kvs k).getD .non, H2, I2.tok _, ?_, q2⟩
  exact (rel.val k).getD rfl
end
end L2

set_option Elab.async false
set_option linter.all false
set_option maxRecDepth 100000
set_option maxHeartbeats 4000000
namespace L2
open PySem PySem.Spec PyProof.Rows
section
variable {X : Cx}
theorem get_listN : PGet X (rIxL X.K) := by
  intro pins s σ H x y v u Q I rx ry h
  obtain ⟨p, xs, i, z, rfl, rfl, hq, he, q⟩ := h
  cases rx
  obtain ⟨t, rfl⟩ := ry
  obtain ⟨its, r, pl, hz⟩ := I.list hq
  obtain ⟨j, h1, h2, h3, h4, h5⟩ := atI_get he
  obtain ⟨w, ew, rw'⟩ := r.get h2
  have hl := r.length
  have hn := line63
  have fin : EP X pins σ Q w s := ⟨z, H, I, rw', q⟩
  by_cases h0 : 0 ≤ i
  · have hj : i.toNat = j := by
      rw [seqIndex_of h0 h5] at h1
      exact Option.some.inj h1
    exact wpAny_getItem_list pl.isList h0 (by omega) (by rw [hj]; simpa using ew) fin
  · have hj : (i + (its.toArray.size : Int)).toNat = j := by
      rw [seqIndex_neg (by omega) h4] at h1
      rw [List.size_toArray, ← hl]
      exact Option.some.inj h1
    exact wpAny_getItem_list_neg pl.isList (by omega) (by rw [List.size_toArray] <;> omega) (by omega) (by rw [hj]; simpa using ew) fin
end
theorem atm_mk {K : PySem.W.Frag} {C f : Addr} {m qual : Str} {st : Stmt} {oc kV dc pm cd ct : Value} {od an : Option Addr} {sl : Array (Option Value)} (a1 : PySem.W.findIn K (.ref C) m = some (some (.ref f))) (i1 : PySem.W.isFn K (.ref f) = true)
    (l1 : K.lookup f = some ⟨oc, od, .func (PySem.W.fnOf m qual (defArgs st) (defBody st) (defScope st) .none kV dc pm an cd ct), sl⟩) (c1 : PySem.W.codeIn K cd qual = true) (k1 : PySem.W.keepIn K (.ref f) = true) : AtM K C m qual st := ⟨f, _, fun_mk l1 c1 k1, ⟨a1, i1, k1⟩⟩
end L2

set_option Elab.async false
set_option linter.all false
set_option maxRecDepth 100000
set_option maxHeartbeats 4000000
namespace L2
open PySem PySem.Spec PyProof.Rows
/-! ### try: whose body never raises -/
section
variable {X : Cx}
theorem ps_try0 {body : List Stmt} {h₀ : ExceptHandler} {hs : List ExceptHandler} {pos : Pos} {t : TS} (hx : ∀ e s, X.xe e s → False) (hb : PSs X body t) : PS X (.Try body (h₀ :: hs) [] [] pos) t := by
  intro pins s σ H D I h
  refine wpAny_Try_except (wpAny_mono (hb pins s σ H D I h) (fun f s1 q => ?_) fun e s1 q => (hx _ _ q).elim)
  cases f with
  | next => exact wpAny_execs_nil q
  | brk => exact q
  | cont => exact q
  | ret u => exact q
/-! ### sum of a tuple -/
theorem sum_intTup {prog : Program} {w : World} {A : Around} {E : Value → Shared → Prop} {s : Shared} {l : Addr} {xs : Array (Int × Tok)} {Q : Value → Shared → Prop} (hh : A.handled = none) (hl : s.heap.IsTuple l (intItems xs))
    (h : ∀ h' tk t', (∀ b o, s.heap.get? b = some o → h'.get? b = some o) → Q (.int (preSum (numAt xs) xs.size) t') { s with heap := h', toks := tk }) :
    wpAny (model prog w) A (call (.builtin "sum") [.ref l]) Q E s := by
  have hlt : l < s.heap.objs.size := by obtain ⟨_, e, _⟩ := hl; exact Heap.lt_size e
  refine call_sum_walkG (wpAny_pyIter_tuple hl ?_)
  refine ⟨_, [_, l], [_], _, _, _, numAt xs, rfl, Walks.tuple (A := A.in1) hh _ l (Nat.ne_of_lt hlt) (intItems xs), ⟨⟨_, Heap.get?_push_size _ rfl, rfl, rfl⟩, hl.push _⟩, fun c hc => ?_, (fun _ _ => intItems_at), fun h' tk t' hk => ?_⟩
  · show c < (s.heap.push _).objs.size
    rw [Heap.size_push]
    rcases List.mem_cons.mp hc with rfl | hc
    · exact Nat.lt_succ_self _
    · rw [List.mem_singleton.mp hc]
      exact Nat.lt_succ_of_lt hlt
  · have := h h' tk t' fun c o e => hk c o (fun hm => by rw [List.mem_singleton.mp hm] at e; exact absurd (Heap.lt_size e) (Nat.lt_irrefl _)) (Heap.get?_push_of_some _ e)
    simpa [intItems] using this
theorem call_sumT (hc : X.calm = true) : CallR X (.builtin "sum") (fun xs H Q => ∃ p ns, xs = [.ref p] ∧ SqT X.K H p (List.map V.int ns) ∧ Q (.int ns.sum) H) := by
  intro pins s σ H xs us Q I r h
  obtain ⟨p, ns, rfl, hq, q⟩ := h
  obtain ⟨u, rfl, rx⟩ := vals1 r
  cases rx
  obtain ⟨its, rv, pl, hz⟩ := I.tuple hq
  obtain ⟨ps, rfl, rfl⟩ := vals_pairs rv
  have hL : s.heap.IsTuple p (intItems ps.toArray) := by
    have : s.heap.IsTuple p _ := pl
    unfold intItems
    simpa using this
  refine sum_intTup (I.ok.hd hc) hL fun h' tk t' hk => ?_
  have es : preSum (numAt ps.toArray) ps.toArray.size = (ps.map (·.1)).sum := by
    rw [List.size_toArray, pre_sum _ (Nat.le_refl _), List.take_of_length_le (by rw [List.length_map]; exact Nat.le_refl _)]
  rw [es]
  exact ⟨.int (ps.map (·.1)).sum, H, I.turnedL (ch := []) (tk := tk) (fun b hb => nomatch hb) (fun b o _ eb => hk b o eb), ⟨t', rfl⟩, q⟩
/-! ### two tuples of flat things -/
def rNeT (K : PySem.W.Frag) : R2 := fun x y H Q => ∃ p q xs ys, x = .ref p ∧ y = .ref q ∧ SqT K H p xs ∧ SqT K H q ys ∧ xs.length = ys.length ∧ xs.all flatV = true ∧ ys.all flatV = true ∧ Q (.bl (!eqVs xs ys)) H
theorem op_neT (hu : X.A.units + 64 < cLine) : OpR X (compareOp .NotEq) (rNeT X.K) := by
  intro pins s σ H x y v u Q I rx ry h
  obtain ⟨p, q, xs, ys, rfl, rfl, h1, h2, hl, hf, hg, k⟩ := h
  cases rx
  cases ry
  obtain ⟨us, r1, p1, z1⟩ := I.tuple h1
  obtain ⟨ws, r2, p2, z2⟩ := I.tuple h2
  have l1 := r1.length
  have l2 := r2.length
  refine EqBoolInt.of_rcne (SeqAt.RcNeAt.tuples (e := fun j => eqV (xs.getD j .non) (ys.getD j .non)) p1 p2 (by omega) (fun j h1' h2' => eqL_items r1 r2 hf hg j h1' h2')) ⟨.bl (!eqVs xs ys), H, I, ?_, k⟩
  show (Value.bool _) = Value.bool (!eqVs xs ys)
  congr 2
  rw [List.size_toArray, List.size_toArray, ← l1, ← l2, hl, Nat.min_self, eqVs_all hl, hl]
  simp
/-! ### how often a flat thing is in a list of flat things -/
def rCount : V → List V → Hp → VK → Prop := fun x vs H Q => ∃ l xs v, x = .ref l ∧ vs = [v] ∧ H l = some (.lst xs) ∧ xs.all flatV = true ∧ flatV v = true ∧ Q (.int ((xs.countP fun y => eqV y v : Nat))) H
theorem count_eqU {x : V} : ∀ {xs : List V} {us : List Value}, Vals xs us → xs.all flatV = true → us.countP (eqU x) = xs.countP fun y => eqV y x
  | _, _, .nil, _ => rfl
  | y :: xs, u :: us, .cons r t, f => by
    rw [List.all_cons, Bool.and_eq_true] at f
    rw [List.countP_cons, List.countP_cons, count_eqU t f.2, eqU_of r f.1]
theorem mr_count : MtR X "list.count" rCount := by
  intro pins s σ H x vs v us Q I rx rv h
  obtain ⟨l, xs, i, rfl, rfl, hH, hf, hi, q⟩ := h
  cases rx
  obtain ⟨u, rfl, ru⟩ := rv.one
  obtain ⟨z, its, n, r, hl, e⟩ := I.lstM hH
  refine call_meets F.slot_list_count ⟨_, e, rfl⟩ F.entry_list_count (F.args_list_count_2 _ _) (SeqAt.list_countAt l its.toArray n none _ u (eqU i)) ⟨e, ?_, ?_⟩
  · intro y hy
    exact mem_eqAt ru hi r hf y (by simpa using hy)
  · refine ⟨.int ((xs.countP fun y => eqV y i : Nat)), H, I.kept (t' := s.toks + 1) fun b o e => e, ⟨s.toks, ?_⟩, q⟩
    show Value.int ((its.countP (eqU i) : Nat) : Int) s.toks = _
    rw [count_eqU r hf]
end
end L2

set_option Elab.async false
set_option linter.all false
set_option maxRecDepth 100000
set_option maxHeartbeats 4000000
namespace L2
open PySem PySem.Spec PyProof.Rows
/-! ### a comprehension whose own name an inner one reads -/
def scOkC (N : List Str) (ts : List Nat) (sc : Scope) (kind : Str → Option NameKind) : Bool :=
  sc.kind == .function && sc.names.all (fun y => (y.2 != .cell || sc.names.lookup y.1 == some .cell) && (y.2 != .local || sc.names.lookup y.1 == some .local) && (y.2 != .free || kind y.1 == some .cell || kind y.1 == some .free)) &&
    N.zipIdx.all (fun p => (sc.names.lookup p.1 != some .local && sc.names.lookup p.1 != some .cell) || ts.contains p.2)
abbrev cxD (X : Cx) (scope : Scope) (cl : List (Str × Addr)) (s : Shared) (H : Hp) (fp : List Addr) : Cx :=
  { X with s₀ := s, H₀ := H, env := compEnvC scope cl s.heap.objs.size X.env, outer := X.stack, ex := fp, fn := fun x => scope.names.lookup x == some .cell, pn := [], xe := fun _ _ => False }
structure ScG (X : Cx) (ts : List Nat) (scope : Scope) : Prop where
  kind : scope.kind = .function
  cell : ∀ y ∈ scope.names, y.2 = .cell → scope.names.lookup y.1 = some .cell
  loc : ∀ y ∈ scope.names, y.2 = .local → scope.names.lookup y.1 = some .local
  free : ∀ y ∈ scope.names, y.2 = .free → X.env.kindOf y.1 = some .cell ∨ X.env.kindOf y.1 = some .free
  ts : ∀ (i : Nat) x, X.N[i]? = some x → scope.names.lookup x = some .local ∨ scope.names.lookup x = some .cell → i ∈ ts
theorem scG_of {X : Cx} {ts : List Nat} {scope : Scope} (h : scOkC X.N ts scope X.env.kindOf = true) : ScG X ts scope := by
  unfold scOkC at h
  simp only [Bool.and_eq_true, List.all_eq_true, bne_iff_ne, ne_eq, Bool.or_eq_true, beq_iff_eq] at h
  obtain ⟨⟨h1, h2⟩, h3⟩ := h
  refine ⟨h1, fun y hy e => ?_, fun y hy e => ?_, fun y hy e => ?_, fun i x e1 e2 => ?_⟩
  · rcases (h2 y hy).1.1 with z | z
    · exact absurd e z
    · exact z
  · rcases (h2 y hy).1.2 with z | z
    · exact absurd e z
    · exact z
  · rcases (h2 y hy).2 with (z | z) | z
    · exact absurd e z
    · exact .inl z
    · exact .inr z
  · have hm : (x, i) ∈ X.N.zipIdx := by
      rw [List.mem_zipIdx_iff_getElem?]; exact e1
    rcases h3 _ hm with z | z
    · rcases e2 with e2 | e2
      · exact absurd e2 z.1
      · exact absurd e2 z.2
    · simpa using z
theorem cells_app : ∀ (names : List (Str × NameKind)) (n : Nat) (acc : List (Str × Addr)), cellsFrom n names acc = cellsFrom n names [] ++ acc
  | [], _, _ => rfl
  | (x, k) :: r, n, acc => by
    unfold cellsFrom
    split
    · rw [cells_app r (n + 1) ((x, n) :: acc), cells_app r (n + 1) [(x, n)], List.append_assoc]; rfl
    · exact cells_app r n acc
theorem cells_mem : ∀ (names : List (Str × NameKind)) (n : Nat) (x : Str) (c : Addr), (x, c) ∈ cellsFrom n names [] → (x, NameKind.cell) ∈ names ∧ n ≤ c
  | [], _, _, _, h => nomatch h
  | (y, k) :: r, n, x, c, h => by
    unfold cellsFrom at h
    split at h
    · rename_i hk
      rw [cells_app] at h
      rcases List.mem_append.mp h with z | z
      · obtain ⟨h1, h2⟩ := cells_mem r (n + 1) x c z
        exact ⟨List.mem_cons_of_mem _ h1, by omega⟩
      · have := List.mem_singleton.mp z
        cases this
        have : k = .cell := by simpa using hk
        subst this
        exact ⟨List.mem_cons_self, Nat.le_refl _⟩
    · obtain ⟨h1, h2⟩ := cells_mem r n x c h
      exact ⟨List.mem_cons_of_mem _ h1, h2⟩
theorem look_mem {α : Type} : ∀ {l : List (Str × α)} {x : Str} {c : α}, (x, c) ∈ l → ∃ c', l.lookup x = some c'
  | (y, d) :: r, x, c, h => by
    rw [List.lookup_cons]
    cases hb : x == y with
    | true => exact ⟨d, rfl⟩
    | false =>
      rcases List.mem_cons.mp h with e | e
      · cases e; simp at hb
      · exact look_mem e
theorem cells_has : ∀ (names : List (Str × NameKind)) (n : Nat) (x : Str), (x, NameKind.cell) ∈ names → ∃ c, (x, c) ∈ cellsFrom n names []
  | (y, k) :: r, n, x, h => by
    unfold cellsFrom
    rcases List.mem_cons.mp h with e | e
    · cases e
      rw [if_pos (by rfl), cells_app]
      exact ⟨n, List.mem_append_right _ (by simp)⟩
    · split
      · rw [cells_app]
        obtain ⟨c, hc⟩ := cells_has r (n + 1) x e
        exact ⟨c, List.mem_append_left _ hc⟩
      · exact cells_has r n x e
/-- a cell of the block: its own and new, or one of the closure -/
theorem cells_look {names : List (Str × NameKind)} {n : Nat} {cl : List (Str × Addr)} {x : Str} {c : Addr} (h : (cellsFrom n names cl).lookup x = some c) : ((x, c) ∈ cellsFrom n names [] ∧ n ≤ c ∧ (x, NameKind.cell) ∈ names) ∨ ((cellsFrom n names []).lookup x = none ∧ cl.lookup x = some c) := by
  rw [cells_app, List.lookup_append] at h
  cases e : (cellsFrom n names []).lookup x with
  | none => rw [e] at h; exact .inr ⟨rfl, h⟩
  | some c' =>
    rw [e] at h
    cases h
    have := mem_of_lookup e
    exact .inl ⟨this, (cells_mem _ _ _ _ this).2, (cells_mem _ _ _ _ this).1⟩
theorem newFnEnvC {M : Model} {A : Around} {E : Value → Shared → Prop} {s : Shared} {scope : Scope} {globals : Addr} {cl : List (Str × Addr)} {qual : Str} {env : Env} {Q : Env → Shared → Prop}
    (hQ : Q (newEnv scope s.heap.objs.size globals (cellsFrom (s.heap.objs.size + 1) scope.names cl) qual none .none (some env) builtinsNs) { s with heap := pushCells (s.heap.push { cls := .type "dict", data := .dict #[] }) scope.names }) :
    wpAny M A (newFunctionEnv scope globals cl [] qual none .none (some env)) Q E s := by
  simp only [newFunctionEnv, Option.isSome_some, if_true]
  refine wpAny_bind (wpAny_alloc ?_)
  refine wpAny_bind (wpAny_layCells _ (fun name kind cells => by cases hkc : kind == NameKind.cell <;> simp [hkc]) _ _ _ _ ?_)
  rw [show ({ s with heap := s.heap.push { cls := .type "dict", data := .dict #[] } } : Shared).heap.objs.size = s.heap.objs.size + 1 from Heap.size_push ..]
  refine wpAny_bind ?_
  rw [List.forIn_nil]
  exact wpAny_pure (wpAny_pure hQ)
section
variable {X : Cx} {ts : List Nat} {scope : Scope} {pins : List (Addr × Obj)} {σ : St} {H : Hp} {s : Shared} {fp : List Addr}
theorem comp_startC (I : Inv X pins σ H s) (S : ScG X ts scope) (hf : ∀ b ∈ fp, FpOk X pins H b) (hfl : ∀ b ∈ fp, b < s.heap.objs.size) {clo : List (Str × Addr)} (c1 : ∀ x c, clo.lookup x = some c → X.env.cells.lookup x = some c)
    (c2 : ∀ y ∈ scope.names, y.2 = .free → ∃ c, clo.lookup y.1 = some c) {t1 : Nat} : Inv (cxD X scope (cellsFrom (s.heap.objs.size + 1) scope.names clo) s H fp) [] (clr ts σ) H { s with heap := pushCells (s.heap.push { cls := .type "dict", data := .dict #[] }) scope.names, toks := t1 } := by
  have hk : ∀ b o, s.heap.get? b = some o → (pushCells (s.heap.push { cls := .type "dict", data := .dict #[] }) scope.names).get? b = some o := fun b o e => pushCells_keeps _ _ b o (Heap.get?_push_of_some _ e)
  have CO := cellsFrom_ok scope.names (s.heap.push { cls := .type "dict", data := .dict #[] }) (s.heap.objs.size + 1) [] ⟨fun _ _ hm => (nomatch hm), List.Pairwise.nil⟩ (by rw [Heap.size_push]; exact Nat.le_refl _)
  rw [Heap.size_push] at CO
  have hlk : ∀ x, (relabel scope X.env).names.lookup x = (scope.names.lookup x).map fun k => if (k == NameKind.free && X.env.scope.kind == .function && X.env.kindOf x == some .cell) then NameKind.cell else k := fun x => lookup_relab
  have ccell : ∀ x c, clo.lookup x = some c → ∃ v, s.heap.IsCell c v := fun x c e => I.cell x c (c1 x c e)
  have clt : ∀ x c, clo.lookup x = some c → c < s.heap.objs.size := fun x c e => by obtain ⟨v, h⟩ := ccell x c e; exact h.lt
  have chas : ∀ x, (x, NameKind.cell) ∈ scope.names ∨ (x, NameKind.free) ∈ scope.names → ∃ c, (cellsFrom (s.heap.objs.size + 1) scope.names clo).lookup x = some c := fun x hx => by
    rw [cells_app, List.lookup_append]
    rcases hx with hx | hx
    · obtain ⟨c, hc⟩ := cells_has scope.names (s.heap.objs.size + 1) x hx
      obtain ⟨c', hc'⟩ := look_mem hc
      exact ⟨c', by rw [hc']; rfl⟩
    · obtain ⟨c, hc⟩ := c2 _ hx rfl
      cases e : (cellsFrom (s.heap.objs.size + 1) scope.names []).lookup x with
      | none => exact ⟨c, hc⟩
      | some c' => exact ⟨c', rfl⟩
  have cof : ∀ x, ((relabel scope X.env).names.lookup x = some .cell ∨ (relabel scope X.env).names.lookup x = some .free) → ((x, NameKind.cell) ∈ scope.names ∧ scope.names.lookup x = some .cell) ∨ ((x, NameKind.free) ∈ scope.names ∧ scope.names.lookup x = some .free) := fun x hx => by
    rw [hlk] at hx
    cases e : scope.names.lookup x with
    | none => rw [e] at hx; rcases hx with hx | hx <;> cases hx
    | some k =>
      have hm := mem_of_lookup_some e
      cases k with
      | free => exact .inr ⟨hm, rfl⟩
      | cell => exact .inl ⟨hm, rfl⟩
      | «local» => rw [e] at hx; rcases hx with hx | hx <;> cases hx
      | globalExplicit => rw [e] at hx; rcases hx with hx | hx <;> cases hx
      | globalImplicit => rw [e] at hx; rcases hx with hx | hx <;> cases hx
  have fpne : ∀ b ∈ fp, b ∉ frs X.stack := fun b hb z => by
    obtain ⟨_, f1, f2, _⟩ := hf b hb
    rcases List.mem_cons.mp (I.stkSub b z) with e | e
    · exact f1 e
    · exact f2 e
  have inj : ∀ x y c, (cellsFrom (s.heap.objs.size + 1) scope.names clo).lookup x = some c → (cellsFrom (s.heap.objs.size + 1) scope.names clo).lookup y = some c → x = y := fun x y c e1 e2 => by
    rcases cells_look e1 with ⟨m1, l1, _⟩ | ⟨_, o1⟩ <;> rcases cells_look e2 with ⟨m2, l2, _⟩ | ⟨_, o2⟩
    · exact name_of_addr CO.apart m1 m2
    · exact absurd (clt y c o2) (Nat.not_lt.mpr (Nat.le_of_succ_le l1))
    · exact absurd (clt x c o1) (Nat.not_lt.mpr (Nat.le_of_succ_le l2))
    · exact I.ok.inj x y c (c1 x c o1) (c1 y c o2)
  have hns : (pushCells (s.heap.push { cls := .type "dict", data := .dict #[] }) scope.names).Ns s.heap.objs.size (fun _ => none) := by
    obtain ⟨o, es, ep, e, r⟩ := (⟨_, #[], _, Heap.get?_push_size _ rfl, rfl, (fun e he => absurd he (by simp)), fun _ => rfl⟩ : (s.heap.push { cls := .type "dict", data := .dict #[] }).Ns s.heap.objs.size (fun _ => none))
    exact ⟨o, es, ep, pushCells_keeps _ _ _ _ e, r⟩
  refine ⟨⟨I.ok.mod, S.kind, I.ok.glob, I.ok.blt, Nat.le_refl _, inj, fun x hx => ?_, fun x c hx e => ?_, I.ok.hd, I.ok.frames, .inl rfl, fun b hb => ⟨Nat.ne_of_lt (hfl b hb), fun x c e => ?_⟩,
    I.bs, Nat.le_trans I.ok.bsz I.sz, fun b o e hb => ?_, fpne, I.stack, I.stkFree⟩, rfl, I.bare, Un.kept hk, ⟨_, hns, fun i x v e1 e2 e3 => ?_⟩, fun x c e => ?_, I.hok.fresh (Nat.le_refl _), fun x c e => ?_, fun p hp => absurd hp (by simp), I.hok.kept hk, by rw [clr_len]; exact I.len⟩
  · rcases cof x hx with h | h
    · exact chas x (.inl h.1)
    · exact chas x (.inr h.1)
  · have hx : scope.names.lookup x = some .cell := by simpa using hx
    rcases cells_look e with ⟨_, l1, _⟩ | ⟨o1, _⟩
    · show s.heap.objs.size ≤ c; omega
    · obtain ⟨c', hc⟩ := cells_has scope.names (s.heap.objs.size + 1) x (mem_of_lookup_some hx)
      obtain ⟨c'', hc''⟩ := look_mem hc
      rw [o1] at hc''; cases hc''
  · rcases cells_look e with ⟨_, l1, _⟩ | ⟨_, o1⟩
    · exact Nat.ne_of_gt (Nat.lt_of_lt_of_le (hfl b hb) (Nat.le_of_succ_le l1))
    · exact (hf b hb).2.2.2.2.1 x c (c1 x c o1)
  · rcases (hf b hb).2.2.2.1 with z | z
    · exact I.ok.noex b o e z
    · exact absurd (Nat.lt_of_lt_of_le (Heap.lt_size e) (Nat.le_trans I.ok.bsz z)) (Nat.lt_irrefl _)
  · obtain ⟨nt, e2⟩ := clr_some ts σ i v e2
    have e3' : (relabel scope X.env).names.lookup x = some .local ∨ (relabel scope X.env).names.lookup x = some .cell ∨ (relabel scope X.env).names.lookup x = some .free := e3
    rcases e3' with z | z
    · rw [hlk] at z
      cases e : scope.names.lookup x with
      | none => rw [e] at z; cases z
      | some k =>
        rw [e] at z
        have z' : (if (k == NameKind.free && X.env.scope.kind == .function && X.env.kindOf x == some .cell) = true then NameKind.cell else k) = .local := Option.some.inj z
        split at z'
        · cases z'
        · subst z'
          exact absurd (S.ts i x e1 (.inl e)) nt
    · rcases cof x z with ⟨_, hm⟩ | ⟨hm, hf0⟩
      · exact absurd (S.ts i x e1 (.inr hm)) nt
      obtain ⟨c, hc⟩ := c2 _ hm rfl
      obtain ⟨m, hn, hl⟩ := I.loc
      have vis : Vis X.env.scope x := by
        rcases S.free _ hm rfl with q | q
        · exact .inr (.inl q)
        · exact .inr (.inr q)
      obtain ⟨u, r, l⟩ := hl i x v e1 e2 vis
      have hcl : (cellsFrom (s.heap.objs.size + 1) scope.names clo).lookup x = some c := by
        rw [cells_app, List.lookup_append]
        cases e : (cellsFrom (s.heap.objs.size + 1) scope.names []).lookup x with
        | none => exact hc
        | some c' =>
          have := S.cell _ (cells_mem _ _ _ _ (mem_of_lookup e)).1 rfl
          have hf0 : scope.names.lookup x = some .free := hf0
          rw [hf0] at this; cases this
      refine ⟨u, r, .inr ⟨z, c, hcl, ?_⟩⟩
      rcases l with ⟨q, _⟩ | ⟨_, c', hc', hcell⟩
      · rcases S.free _ hm rfl with q' | q'
        · rw [q'] at q; cases q
        · rw [q'] at q; cases q
      · rw [c1 x c hc] at hc'
        cases hc'
        obtain ⟨o, ho, hd⟩ := hcell
        exact ⟨o, hk _ _ ho, hd⟩
  · rcases cells_look e with ⟨m1, _, _⟩ | ⟨_, o1⟩
    · exact ⟨none, (CO.empty x c m1).1⟩
    · obtain ⟨v, o, ho, hd⟩ := ccell x c o1
      exact ⟨v, o, hk _ _ ho, hd⟩
  · rcases cells_look e with ⟨_, l1, _⟩ | ⟨_, o1⟩
    · exact I.hok.fresh (by omega)
    · exact I.freeC x c (c1 x c o1)
end
section
variable {X : Cx} {ts : List Nat} {scope : Scope} {tg iter elt : Expr} {ifs : List Expr} {wi : TI} {g : TG} {tt : TT} {te : TE} {pos : Pos}
theorem comp_runC (hc : X.calm = true) (hsc : scOkC X.N ts scope X.env.kindOf = true) (hi : PI X tg iter wi) (hg : ∀ cl s H fp, PG (cxD X scope cl s H fp) tg g) (ht : ∀ cl s H fp, PIf (cxD X scope cl s H fp) ifs tt) (he : ∀ cl s H fp, PE (cxD X scope cl s H fp) elt te)
    {pins : List (Addr × Obj)} {s : Shared} {σ : St} {H : Hp} {Q : VK} (I : Inv X pins σ H s) (h : tComp ts wi g tt te σ H Q) {use : Option (Value → Sem Unit)} {Q' : Value → Shared → Prop}
    (fin : ∀ (D C : Addr) (H' : Hp) (s' : Shared), Inv X pins σ H' s' → (∃ m, s'.heap.Ns C m) → H' C = none → C ≠ X.env.locals → (∀ x c, X.env.cells.lookup x = some c → c ≠ C) → X.s₀.heap.objs.size ≤ C → (∀ p ∈ X.pn ++ pins, p.1 ≠ C) → C ∉ X.fs → Q (.ref D) H' →
      compPost (model X.prog X.w) X.A X.xe use Q' (.ref D) C (.ok .next) s')
    (hs : ∀ x, foldedSetIterable iter X.env x = pure x) :
    wpAny (model X.prog X.w) X.A (comprehension (.ListComp elt [⟨tg, iter, ifs, 0⟩] scope pos) scope X.env (firstIterPos [⟨tg, iter, ifs, 0⟩] pos) (newList []) false (eval iter X.env) use) Q' X.xe s := by
  have S := scG_of hsc
  obtain ⟨cl, hcl, c1, c2⟩ := closure_ok (scope := scope) (env := X.env) fun y hy e => I.ok.has y.1 (S.free y hy e)
  refine wpAny_comprehension_free (use := use) rfl hs hcl S.kind S.loc ?_
  refine wpAny_mono (hi pins s σ H _ I h) (fun v s1 h1 => wpAny_mono h1 (fun itv s2 h2 => ?_) fun _ _ e => e) fun _ _ e => e
  obtain ⟨it, fp, tn, J, H2, e, I2, T, st2, f2, q2⟩ := h2
  subst e
  have hD : H2 s2.heap.objs.size = none := I2.hok.fresh (Nat.le_refl _)
  obtain ⟨W, ⟨m0, w0⟩, turn⟩ := q2 _ hD
  refine wpAny_newObj_type (newFnEnvC ?_)
  dsimp only
  generalize hh3 : s2.heap.push { cls := .type "list", dict := none, data := .seq ([] : List Value).toArray } = g3
  have I3 : Inv X pins σ (upd H2 s2.heap.objs.size (.lst [])) { s2 with heap := g3 } := by
    rw [← hh3]
    exact I2.laid (t' := s2.toks) (fun b u e => Heap.get?_push_of_some _ e) (Nat.le_refl _) ⟨Nat.zero_le _, [], _, .nil, Heap.get?_push_size _ rfl⟩
  have st3 : tn 0 g3 := T.keep _ _ _ st2 fun b _ o e => by rw [← hh3]; exact Heap.get?_push_of_some _ e
  have lt2 : ∀ b ∈ fp, b < s2.heap.objs.size := fun b hb => by obtain ⟨o, e, _⟩ := T.obj _ _ st2 b hb; exact Heap.lt_size e
  have hsz3 : g3.objs.size = s2.heap.objs.size + 1 := by rw [← hh3, Heap.size_push]
  have f3 : ∀ b ∈ fp, FpOk X pins (upd H2 s2.heap.objs.size (.lst [])) b := fun b hb => ⟨by rw [upd_ne (Nat.ne_of_lt (lt2 b hb))]; exact (f2 b hb).1, (f2 b hb).2⟩
  have lt3 : ∀ b ∈ fp, b < g3.objs.size := fun b hb => by rw [hsz3]; exact Nat.lt_succ_of_lt (lt2 b hb)
  generalize hcl2 : cellsFrom (g3.objs.size + 1) scope.names cl = cl2
  generalize hh1 : pushCells (g3.push { cls := .type "dict", data := .dict #[] }) scope.names = h₁
  have old : ∀ b o, g3.get? b = some o → h₁.get? b = some o := fun b o e => by rw [← hh1]; exact pushCells_keeps _ _ b o (Heap.get?_push_of_some _ e)
  have cnew : ∀ x c, cl2.lookup x = some c → X.env.cells.lookup x = some c ∨ g3.objs.size < c := fun x c e => by
    rw [← hcl2] at e
    rcases cells_look e with ⟨_, hlo, _⟩ | ⟨_, e⟩
    · exact .inr hlo
    · exact .inl (c1 x c e)
  have I4 : ∀ t, Inv (cxD X scope cl2 { s2 with heap := g3 } (upd H2 s2.heap.objs.size (.lst [])) fp) [] (clr ts σ) (upd H2 s2.heap.objs.size (.lst [])) { s2 with heap := h₁, toks := t } := fun t => by rw [← hcl2, ← hh1]; exact comp_startC I3 S f3 lt3 c1 c2
  have fpne : ∀ b ∈ fp, b ∉ frs X.stack := fun b hb z => by
    obtain ⟨_, f1, f2, _⟩ := f3 b hb
    rcases List.mem_cons.mp (I3.stkSub b z) with e | e
    · exact f1 e
    · exact f2 e
  have stat : ∀ {H' : Hp}, (∀ b ∈ fp, H' b = none) → ∀ b ∈ fp, FpOk (cxD X scope cl2 { s2 with heap := g3 } (upd H2 s2.heap.objs.size (.lst [])) fp) [] H' b := fun hn b hb =>
    ⟨hn b hb, Nat.ne_of_lt (lt3 b hb), fpne b hb, .inl hb, fun x c e => (by rcases cnew x c e with z | z; exact (f2 b hb).2.2.2.2.1 x c z; exact Nat.ne_of_gt (Nat.lt_trans (lt3 b hb) z)), fun p hp => absurd hp (by simp)⟩
  have loop : ∀ t, codeAny (model X.prog X.w) X.A (.compLoop (.ListComp elt [⟨tg, iter, ifs, 0⟩] scope pos) 0 (.ref it) (.ref s2.heap.objs.size) (compEnvC scope cl2 g3.objs.size X.env))
      (compPost (model X.prog X.w) X.A X.xe use Q' (.ref s2.heap.objs.size) g3.objs.size) { s2 with heap := h₁, toks := t } := by
    intro t
    refine codeAny_compLoop_go (fun n s' => ∃ i τ H', Inv (cxD X scope cl2 { s2 with heap := g3 } (upd H2 s2.heap.objs.size (.lst [])) fp) [] τ H' s' ∧ tn i s'.heap ∧ (∀ b ∈ fp, H' b = none) ∧ W i n τ H') ?_ m0
      ⟨0, clr ts σ, _, I4 t, T.keep _ _ _ st3 fun b _ o e => old b o e, fun b hb => (f3 b hb).1, w0⟩
    rintro n s5 ⟨i, τ, H5, I5, st5, fr5, w5⟩
    rcases turn i n τ H5 w5 with ⟨stop, qn⟩ | ⟨go, N, hN, step⟩
    · refine thn (T.done (cxD X scope cl2 { s2 with heap := g3 } (upd H2 s2.heap.objs.size (.lst [])) fp) rfl rfl rfl hc i [] s5 τ H5 _ I5 (stat fr5) st5 stop) fun r s6 ⟨hr, I6⟩ => ?_
      subst hr
      have base : Un (frs X.stack) fp (upd H2 s2.heap.objs.size (.lst [])) H5 g3 s6.heap := I6.base
      have J6 : Inv X pins σ H5 s6 := I3.call' (ch := fp) I6.os base I6.hok I6.bare fun b hb => ⟨(f3 b hb).2.2.2.1, (f3 b hb).2.1, (f3 b hb).2.2.2.2.1, (f3 b hb).2.2.2.2.2⟩
      obtain ⟨m6, n6, _⟩ := I6.loc
      have hC : g3.get? g3.objs.size = none := Heap.get?_none_of_le (Nat.le_refl _)
      refine fin _ g3.objs.size H5 s6 J6 ⟨m6, n6⟩ I6.free (Nat.ne_of_gt I3.lt) (fun x c e z => ?_) I3.sz (fun p hp z => ?_) (I3.nofs (Nat.le_refl _)) qn
      · obtain ⟨v, q⟩ := I3.cell x c e
        exact absurd q.lt (by rw [z]; exact Nat.lt_irrefl _)
      · exact absurd (Heap.lt_size (I3.pin p hp).1) (by rw [z]; exact Nat.lt_irrefl _)
    · refine thn (T.item (cxD X scope cl2 { s2 with heap := g3 } (upd H2 s2.heap.objs.size (.lst [])) fp) rfl rfl rfl hc i [] s5 τ H5 _ I5 (stat fr5) st5 go) fun r s6 ⟨u, hr, h6⟩ => ?_
      subst hr
      refine thn h6 fun _ s7 ⟨x, H7, I7, r7, y7, st7, fr7⟩ => ?_
      have I7' := I7.pinned (stat fr7) (T.obj _ _ st7)
      refine thn (hg cl2 { s2 with heap := g3 } _ fp _ s7 τ H7 x u _ I7' r7 (step x H7 y7)) fun _ s8 ⟨τ8, H8, I8, q8⟩ => ?_
      refine thn (ht cl2 { s2 with heap := g3 } _ fp _ s8 τ8 H8 _ I8 q8) fun b s9 ⟨H9, I9, q9⟩ => ?_
      have again : ∀ {τ9 : St} {H9 : Hp} {s9 : Shared}, Inv (cxD X scope cl2 { s2 with heap := g3 } (upd H2 s2.heap.objs.size (.lst [])) fp) ([] ++ pinsAt fp s7.heap) τ9 H9 s9 → N τ9 H9 →
          ∃ m, m < n ∧ ∃ i τ H', Inv (cxD X scope cl2 { s2 with heap := g3 } (upd H2 s2.heap.objs.size (.lst [])) fp) [] τ H' s9 ∧ tn i s9.heap ∧ (∀ b ∈ fp, H' b = none) ∧ W i m τ H' := fun {τ9 H9 s9} I9 n9 => by
        obtain ⟨m', hm, w9⟩ := hN _ _ n9
        refine ⟨m', hm, i + 1, τ9, H9, I9.unpinned, T.keep _ _ _ st7 fun b hb o e => (I9.pin (b, o) (List.mem_append_right _ (List.mem_append_right _ (mem_pinsAt hb e)))).1, fun b hb => ?_, w9⟩
        obtain ⟨o, e, d⟩ := T.obj _ _ st7 b hb
        exact (I9.pin (b, o) (List.mem_append_right _ (List.mem_append_right _ (mem_pinsAt hb e)))).2.1
      cases b with
      | false =>
        rw [if_neg Bool.false_ne_true] at q9 ⊢
        exact again I9 q9
      | true =>
        rw [if_pos rfl] at q9 ⊢
        refine thn (he cl2 { s2 with heap := g3 } _ fp _ s9 τ8 H9 _ I9 q9) fun y s10 ⟨v, H10, I10, r10, ys, hys, hlen, n10⟩ => ?_
        exact thn (mt_append (X := cxD X scope cl2 { s2 with heap := g3 } (upd H2 s2.heap.objs.size (.lst [])) fp) _ s10 τ8 H10 (.ref s2.heap.objs.size) [v] (.ref s2.heap.objs.size) [y] (fun _ H11 => N τ8 H11) I10 rfl (.cons r10 .nil) ⟨_, ys, v, rfl, rfl, hys, hlen, n10⟩) fun _ s11 ⟨_, H11, I11, _, n11⟩ => again I11 n11
  have LW := loop s2.toks
  exact codeAny_compStart_list LW (T.self _ 0 _ _ _ (T.keep _ _ _ st3 fun b _ o e => old b o e) LW)
theorem pe_compC (hc : X.calm = true) (hsc : scOkC X.N ts scope X.env.kindOf = true) (hi : PI X tg iter wi) (hg : ∀ cl s H fp, PG (cxD X scope cl s H fp) tg g) (ht : ∀ cl s H fp, PIf (cxD X scope cl s H fp) ifs tt) (he : ∀ cl s H fp, PE (cxD X scope cl s H fp) elt te)
    (hs : ∀ x, foldedSetIterable iter X.env x = pure x := by intro _; rfl) : PE X (.ListComp elt [⟨tg, iter, ifs, 0⟩] scope pos) (tComp ts wi g tt te) := by
  intro pins s σ H Q I h
  rw [eval_ListComp]
  refine comp_runC hc hsc hi hg ht he I h (use := none) (fun D C H' s' I' ⟨m, hn⟩ hC hL hce hsz hp hfs q => ⟨m, hn, fun h' hs' => ?_⟩) hs
  exact ⟨.ref D, H', I'.turned (t' := s'.toks) (it := C) (fun b o hb e => (hs'.2 b hb).trans e) hC hL (.inr hsz) hce hp, rfl, q⟩
theorem ps_compC {j : Nat} {y : Str} {py spos : Pos} (hc : X.calm = true) (hN : X.N.Nodup) (hj : X.N[j]? = some y) (hy : Loc X.env.scope y) (hsc : scOkC X.N ts scope X.env.kindOf = true) (hi : PI X tg iter wi) (hg : ∀ cl s H fp, PG (cxD X scope cl s H fp) tg g) (ht : ∀ cl s H fp, PIf (cxD X scope cl s H fp) ifs tt) (he : ∀ cl s H fp, PE (cxD X scope cl s H fp) elt te)
    (hsw : swapsWith (.ListComp elt [⟨tg, iter, ifs, 0⟩] scope pos) (some (.Name y py)) spos.line X.env = pure true := by rfl)
    (hs : ∀ x, foldedSetIterable iter X.env x = pure x := by intro _; rfl) (hf : X.fn y = true ∨ X.env.scope.names.lookup y = some .local := by first | exact .inl rfl | exact .inr rfl | assumption) :
    PS X (.Assign [.Name y py] (.ListComp elt [⟨tg, iter, ifs, 0⟩] scope pos) spos) (tAsg (tComp ts wi g tt te) (gName j)) := by
  intro pins s σ H D I h
  rw [exec_Assign_Name_used _ _ _ _ hsw]
  refine wpAny_bind (wpAny_standAt (wpAny_bind ?_))
  show wpAny _ _ (do let _ ← comprehension (.ListComp elt [⟨tg, iter, ifs, 0⟩] scope pos) scope X.env _ (newList []) false (eval iter X.env) (some (assign (.Name y py) X.env))) _ _ s
  refine wpAny_bind (wpAny_mono (comp_runC hc hsc hi hg ht he I h (use := some (assign (.Name y py) X.env)) (Q' := fun _ s' => SP X pins D .next s') (fun D' C H' s' I' ⟨m, hn⟩ hC hL hce hsz hp hfs q => ?_) hs) (fun _ s' hq => wpAny_pure (wpAny_pure hq)) fun _ _ e => e)
  show wpAny _ _ (assign (.Name y py) X.env (.ref D')) _ _ _
  refine wpAny_assign_Name (store_ok2 (v := .ref D') I' hN hj hy rfl (fun s2 I2 ⟨a, hsb, ha⟩ => ?_) hf)
  have hCa : C ≠ a := by
    rcases ha with rfl | ha
    · exact hL
    · exact Ne.symm (hce y a ha)
  refine ⟨m, hn.sameBut hsb hCa, fun h' hs' => ?_⟩
  exact ⟨_, H', I2.turned (t' := s2.toks) (it := C) (fun b o hb e => (hs'.2 b hb).trans e) hC hL (.inr hsz) hce hp, q⟩
end
end L2

set_option Elab.async false
set_option linter.all false
set_option maxRecDepth 100000
set_option maxHeartbeats 4000000
namespace Ot
open PySem PySem.Spec PyProof.Rows L2

def top (i : Nat) : Stmt := PySem.Challenge.pw_ownturn_k11_deeds_counted.main.body.getD i (.Pass ⟨0, 0, 0, 0⟩)
section
variable {P : Program} {w : World} {K : PySem.W.Frag} {mg : Str → Option Value} {base : Heap} {k : Nat}
local macro_rules | `(tactic| walk_at "rd") => `(tactic| try simp only [tTrue, tSeq, tIfS, tTest, tOp, tUn, rU, tVar, tC, tB, rIxL, rIxT, rIxLT, rI0, rI, tAsg, gName, tRet, tRetN, tDrop, tNext, gTup, gCons, gNil, gSub, tCB, tCons, tNil, tInts, tCall, rSetL, rSetLO, rCat, rRep, rEq, rNe, rEqI, tLst, tTup, tBM, rAppend, rInsert, rExtend, rReverse, rClear, tBM0, gLst, tCompN_eq, iZipLT, tSl3, rSl3, rEqP, rIndex, rNil, rNeF, rIxS, tRev, rRev, tDGet, tMeth, tMake, tFld, sFld, tKGet, tAugS, ipI, tNever, rNeT, rCount, tDisp, tPairs, rCatT, trNext_eq, trLast_eq, tIf, tOr, tAnd, tNot, tOrV, tAndV, tNotV, tPar, tPar3, tAug, tFor_eq, tComp_eq, cxK, iRng1, iRng2, iRng3, iList, iTup, iLT, iEnum, iEnumLT, iZip, tDNewK, tDNotIn, tDIn, sDPut, tSl, tPart, tNoPart, rSlL, List.append_nil,
  List.getElem?_cons_zero, List.getElem?_cons_succ, Option.some.injEq, exists_eq_left', exists_eq_left, V.int.injEq, V.ref.injEq, V.bl.injEq, List.cons.injEq, and_true, true_and, and_assoc, decide_eq_true_eq, Bool.not_eq_true', decide_eq_false_iff_not, Bool.false_eq_true, if_false, if_true, reduceIte, exists_and_left, exists_and_right, List.set_cons_zero, List.set_cons_succ, List.nil_append, List.cons_append])
theorem ne_of_none' {H : Hp} {a b : Addr} {o : HO} (h' : H b = none) (h : H a = some o) : a ≠ b := ne_of_none h h'
theorem Kp_free' {H H' : Hp} {l : Addr} (h : H' l = none) (e : Kp [] H H') : H l = none := e.free h
theorem Kp_sq' {K : PySem.W.Frag} {H H' : Hp} {a : Addr} {xs : List V} (h : SqL K H a xs) (e : Kp [] H H') : SqL K H' a xs := by
  rcases h with (h | ⟨o, h⟩) | h
  · exact .inl (.inl (e _ _ (by simp) h))
  · exact .inl (.inr ⟨o, e _ _ (by simp) h⟩)
  · exact .inr h
theorem hsl : 100000 < sizeLine := by rw [sizeLine_eq]; decide
theorem rep1 {α : Type} (k : Nat) (v : α) : (List.replicate k [v]).flatten = List.replicate k v := by simp
theorem mod_bd (i : Int) {j : Int} (h : 0 < j) : 0 ≤ i % j ∧ i % j < j := ⟨Int.emod_nonneg _ (by omega), Int.emod_lt_of_pos _ h⟩
theorem cmul_l {i j : Int} (h1 : 0 ≤ i) (h2 : i < 18446744073709551616) : CMul i j := .inl ⟨by omega, by omega⟩
theorem cmul_r {i j : Int} (h1 : 0 ≤ j) (h2 : j < 18446744073709551616) : CMul i j := .inr ⟨by omega, by omega⟩
theorem b01 (c : Prop) [Decidable c] : 0 ≤ (if c then (1 : Int) else 0) := by split <;> decide
theorem b01' (c : Prop) [Decidable c] : (if c then (1 : Int) else 0) < 18446744073709551616 := by split <;> decide
theorem cdiv_of {i j : Int} (h1 : 0 < j) (h2 : j < 1073741824) : CDiv i j := ⟨h1, h2⟩
local macro_rules | `(tactic| walk_at "ne") => `(tactic| first | (with_reducible assumption) | exact Ne.symm (by with_reducible assumption) | exact ne_of_none' (by with_reducible assumption) (by walk_at "hp") | exact Ne.symm (ne_of_none' (by with_reducible assumption) (by walk_at "hp")))
local macro_rules | `(tactic| walk_at "hp") => `(tactic| first | (with_reducible assumption) | (with_reducible exact upd_same) | ((with_reducible refine Eq.trans (upd_ne ?ne) ?_); (case ne => walk_at "ne"); walk_at "hp"))
local macro_rules | `(tactic| walk_at "kp") => `(tactic| first | (with_reducible assumption) | (with_reducible exact Kp.refl) | ((with_reducible refine Kp.trans ?_ (Kp.new _ ?h)); (case h => with_reducible assumption); walk_at "kp") | ((with_reducible refine Kp.trans ?_ (Kp.set _ ?h)); (case h => (simp; done)); walk_at "kp"))
local macro_rules | `(tactic| walk_at "fr") => `(tactic| first | (with_reducible assumption) | exact Kp_free' (by with_reducible assumption) (by walk_at "kp"))
local macro_rules | `(tactic| walk_at "sz") => `(tactic| (simp only [List.length_cons, List.length_nil, List.length_map, List.length_append, List.length_replicate, List.length_take, List.length_drop, rngL_length, rep1, Nat.zero_add, Nat.one_mul]; omega))
local macro_rules | `(tactic| walk_at "fact") => `(tactic| first | (with_reducible assumption) | exact rfl | exact SqL.of (by walk_at "hp") | exact SqT.of (by walk_at "hp") | exact Or.inl (SqL.of (by walk_at "hp")) | exact Or.inr (SqT.of (by walk_at "hp")) | exact Or.inl (by with_reducible assumption) | exact Kp_sq' (by with_reducible assumption) (by walk_at "kp") | exact Or.inl (Kp_sq' (by with_reducible assumption) (by walk_at "kp")) | exact Exists.intro _ (SqL.of (by walk_at "hp")) | exact Exists.intro _ (Kp_sq' (by with_reducible assumption) (by walk_at "kp")) | (walk_at "hp") | decide | omega | exact cmul_l (by omega) (by omega) | exact cmul_r (by omega) (by omega) | exact cdiv_of (by omega) (by omega) | exact ⟨by omega, by omega⟩ | (walk_at "sz") | exact ⟨by decide, by decide, by decide⟩ | exact cmul_r (b01 _) (b01' _) | (walk_at "fr"))
local macro_rules | `(tactic| walk_at "x1") => `(tactic| first
  | ((with_reducible refine Exists.intro ?w (And.intro ?h ?_)); (case h => walk_at "fact"))
  | ((with_reducible refine And.intro ?h ?_); (case h => walk_at "fact"))
  | ((with_reducible refine Exists.intro ?w (Exists.intro ?w2 (And.intro ?h ?_))); (case h => walk_at "fact")))
local macro_rules | `(tactic| walk_at "xs") => `(tactic| repeat walk_at "x1")
theorem cutV_map (ns : List Int) (lo hi : Option Int) : cutV (ns.map V.int) lo hi = List.map V.int ((ns.drop (HT.sIx ns.length 0 lo)).take (HT.sIx ns.length ns.length hi - HT.sIx ns.length 0 lo)) := by
  unfold cutV
  rw [List.length_map, ← List.map_drop, ← List.map_take]
theorem set_map (cs : List Int) (j : Nat) (v : Int) : (cs.map V.int).set j (.int v) = (cs.set j v).map V.int := by rw [List.map_set]
theorem get_map_int {cs : List Int} {k : Int} (h0 : 0 ≤ k) (h1 : k < cs.length) : ixN (cs.map V.int).length k = some k.toNat ∧ atI (cs.map V.int) k = some (.int (cs.getD k.toNat 0)) := by
  have hk : k.toNat < cs.length := by omega
  have e1 : ixN (cs.map V.int).length k = some k.toNat := by unfold ixN; rw [List.length_map, if_pos h0, if_pos h1]
  refine ⟨e1, ?_⟩
  unfold atI
  rw [e1]
  show (cs.map V.int)[k.toNat]? = _
  rw [List.getElem?_map, List.getD_eq_getElem?_getD, List.getElem?_eq_getElem hk]; rfl
theorem get_map_elim {ns : List Int} {i : Nat} {x : V} (h : (ns.map V.int)[i]? = some x) : x = .int (ns.getD i 0) ∧ i < ns.length := by
  rw [List.getElem?_map] at h
  cases e : ns[i]? with
  | none => rw [e] at h; cases h
  | some v =>
    rw [e] at h
    cases h
    exact ⟨by rw [List.getD_eq_getElem?_getD, e]; rfl, (List.getElem?_eq_some_iff.mp e).1⟩
theorem Kp.un {bs : List Addr} {p : Addr} {H H' : Hp} (h : Kp (p :: bs) H H') (hp : H p = none) : Kp bs H H' := fun c o n e => h c o (by
  intro z
  rcases List.mem_cons.mp z with z | z
  · subst z; rw [hp] at e; cases e
  · exact n z) e
abbrev s_take : Stmt := top 18
theorem sc_take : FnScope ["_law_box_here", "_law_many", "_law_once", "_law_found"] ["_law_box_here", "_law_many"] (defScope s_take) := ⟨rfl, rfl, rfl, by decide +kernel, rfl, by decide +kernel, by decide +kernel⟩
def spTake : Sp := fun vs H Q _ => ∃ (b : Addr) (many : Int) (N : Nat), vs = [.ref b, .int many] ∧ Bx H b N ∧ N < 1000000000 ∧ 0 < many ∧ many < 1073741824 ∧ ∀ r H', Kp [b] H H' → Bx H' b (N + 1) → 0 ≤ r → r < many → Q (.int r) H'
theorem df_take (a : At K mg "_law_take" s_take) (B : Blt mg) : Df P w K mg base "_law_take" ["_law_box_here", "_law_many"] 1 spTake := by
  refine df_of (k := 0) a sc_take (fun _ _ _ _ _ _ us hl => match us, hl with | [_, _], _ => rfl) (fun vs H Q E h => ?_) (fun f cdv A outer s H vs Q E hr h => ?_)
  · obtain ⟨b, m, N, rfl, _⟩ := h; rfl
  obtain ⟨b, m, N, rfl, ⟨x, y, z, hb, hx, hy, hy', hz, hz'⟩, hN, hm, hm', q⟩ := h
  have sc := sc_take
  refine ⟨_, (pss_cons (ps_if (pt_cmpR op_gt (pe_ix ix_list (pv 0) pe_int (fun _ _ => rfl)) pe_int (nomark _)) (pss_cons (ps_asg (pe_callB call_divmod rfl B.divmod bt_divmod (pa_cons (pe_ix ix_list (pv 0) pe_int (fun _ _ => rfl)) (pa_cons (pv 1) pa_nil))) (pg_tupK (K := K) 2 rfl rfl (pgs_cons (pg_sub (pv 0) pe_int set_listO) (pgs_cons (pg_name (i := 3) sc.nd rfl (by first | exact Or.inl rfl | exact Or.inr rfl)) pgs_nil))))
    (pss_one (ps_ret (pv 3)))) pss_nil)
    (pss_cons (ps_asg (pe_op op_add (pe_ix ix_list (pv 0) pe_int (fun _ _ => rfl)) pe_int) (pg_sub (pv 0) pe_int set_listO))
    (pss_cons (ps_set (i := 2) sc.nd rfl (by first | exact Or.inl rfl | exact Or.inr rfl) (pe_op op_mod (pe_op op_mul (pe_op op_add (pe_ix ix_list (pv 0) pe_int (fun _ _ => rfl)) (pe_op op_mul pe_int (pe_ix ix_list (pv 0) pe_int (fun _ _ => rfl)))) (pe_op op_add pe_int (pe_ix ix_list (pv 0) pe_int (fun _ _ => rfl)))) pe_int))
    (pss_cons (ps_asg (pe_op op_mod (pe_op op_add (pe_op op_mul (pv 2) (pe_op op_add (pe_op op_mod (pv 2) pe_int) pe_int)) (pe_ix ix_list (pv 0) pe_int (fun _ _ => rfl))) pe_int) (pg_sub (pv 0) pe_int set_listO))
    (pss_one (ps_ret (pe_op op_mod (pe_op op_fdiv (pe_op op_mod (pe_op op_mul (pe_ix ix_list (pv 0) pe_int (fun _ _ => rfl)) (pe_op op_add (pe_op op_mod (pe_ix ix_list (pv 0) pe_int (fun _ _ => rfl)) pe_int) pe_int)) pe_int) pe_int) (pv 1)))))))), ?_⟩
  rw [show start ["_law_box_here", "_law_many", "_law_once", "_law_found"] [V.ref b, V.int m] = [some (.ref b), some (.int m), none, none] from rfl]
  walk_at "rd"
  walk_at "xs"
  refine ite2 (fun c => ?_) (fun c => ?_)
  · walk_at "xs"
    refine fun p hp => ?_
    walk_at "xs"
    refine q _ _ ((Kp.new _ hp).trans (Kp.set _ (by simp))) ⟨_, _, _, upd_same, Int.ediv_nonneg hx (by omega), hy, hy', hz, by omega⟩ (mod_bd x hm).1 (mod_bd x hm).2
  · walk_at "xs"
    refine q _ _ ((Kp.set _ (by simp)).trans (Kp.set _ (by simp))) ⟨_, _, _, upd_same, hx, ?_, ?_, ?_, ?_⟩ (mod_bd _ hm).1 (mod_bd _ hm).2
    · exact (mod_bd _ (by decide)).1
    · exact Int.lt_trans (mod_bd _ (by decide)).2 (by decide)
    · omega
    · omega
abbrev s_box : Stmt := top 17
theorem sc_box : FnScope ["_law_script", "_law_k", "_law_cell"] ["_law_script", "_law_k"] (defScope s_box) := ⟨rfl, rfl, rfl, by decide +kernel, rfl, by decide +kernel, by decide +kernel⟩
def spBox : Sp := fun vs H Q _ => ∃ (a : Addr) (k : Int) (cs : List Int), vs = [.ref a, .int k] ∧ H a = some (il cs) ∧ 0 ≤ k ∧ k ≤ 1000 ∧ cs.length ≤ 1000 ∧ ∀ p H', Kp [] H H' → H p = none → Bx H' p 0 → Q (.ref p) H'
theorem cell_at {cs : List Int} {k : Int} (h0 : 0 ≤ k) : ∃ c : Int, atI (cs.map V.int ++ List.replicate (k + 1).toNat (V.int 0)) k = some (.int c) := by
  have e : cs.map V.int ++ List.replicate (k + 1).toNat (V.int 0) = (cs ++ List.replicate (k + 1).toNat 0).map V.int := by simp
  have ek : k = ((k.toNat : Nat) : Int) := by omega
  have hk : k.toNat < (cs ++ List.replicate (k + 1).toNat (0 : Int)).length := by rw [List.length_append, List.length_replicate]; omega
  refine ⟨(cs ++ List.replicate (k + 1).toNat 0)[k.toNat], ?_⟩
  rw [e]
  have q : atI ((cs ++ List.replicate (k + 1).toNat (0 : Int)).map V.int) ((k.toNat : Nat) : Int) = some (.int (cs ++ List.replicate (k + 1).toNat 0)[k.toNat]) := atI_nat (by rw [List.getElem?_map, List.getElem?_eq_getElem hk] <;> rfl)
  rw [← ek] at q
  exact q
theorem df_box (a : At K mg "_law_box" s_box) (B : Blt mg) : Df P w K mg base "_law_box" ["_law_script", "_law_k"] 1 spBox := by
  refine df_of (k := 0) a sc_box (fun _ _ _ _ _ _ us hl => match us, hl with | [_, _], _ => rfl) (fun vs H Q E h => ?_) (fun f cdv A outer s H vs Q E hr h => ?_)
  · obtain ⟨a, k, cs, rfl, _⟩ := h; rfl
  obtain ⟨a, k, cs, rfl, ha, hk, hk', hcs, q⟩ := h
  have sc := sc_box
  have hsl := hsl
  refine ⟨_, (pss_cons (ps_set (i := 2) sc.nd rfl (by first | exact Or.inl rfl | exact Or.inr rfl) (pe_ix ix_list (pe_op op_cat (pv 0) (pe_op op_rep (pe_lst (pa_cons pe_int pa_nil)) (pe_op op_add (pv 1) pe_int))) (pv 1) (fun _ _ => rfl)))
    (pss_one (ps_ret (pe_lst (pa_cons (pe_op op_mul (pe_callB call_abs rfl B.abs bt_abs (pa_cons (pv 2) pa_nil)) (pe_callTy call_intB rfl B.int bt_int (pa_cons (pe_cmpR op_ge (pe_callB call_abs rfl B.abs bt_abs (pa_cons (pv 2) pa_nil)) (pe_op op_pow pe_int pe_int) (nomark _)) pa_nil))) (pa_cons (pe_op op_mod (pe_op op_mul (pe_op op_add (pe_op op_add (pe_op op_mod (pv 2) pe_int) (pe_op op_mul pe_int (pv 1))) pe_int) pe_int) pe_int) (pa_cons pe_int pa_nil))))))), ?_⟩
  rw [show start ["_law_script", "_law_k", "_law_cell"] [V.ref a, V.int k] = [some (.ref a), some (.int k), none] from rfl]
  walk_at "rd"
  walk_at "xs"
  intro p1 hp1
  walk_at "xs"
  intro p2 hp2
  walk_at "xs"
  intro p3 hp3
  simp only [rep1] at hp3 ⊢
  obtain ⟨c, hc⟩ := cell_at (cs := cs) hk
  walk_at "xs"
  intro p4 hp4
  refine q _ _ (by walk_at "kp") (by walk_at "fr") ⟨_, _, _, upd_same, ?_, ?_, ?_, ?_, ?_⟩
  · exact Int.mul_nonneg (by split <;> omega) (b01 _)
  · exact (mod_bd _ (by decide)).1
  · exact Int.lt_trans (mod_bd _ (by decide)).2 (by decide)
  · decide
  · decide
abbrev s_folded : Stmt := top 19
theorem sc_folded : FnScope ["_law_script", "_law_many", "_law_cells", "_law_k", "_law_cell"] ["_law_script", "_law_many"] (defScope s_folded) := ⟨rfl, rfl, rfl, by decide +kernel, rfl, by decide +kernel, by decide +kernel⟩
def spFolded (K : PySem.W.Frag) : Sp := fun vs H Q _ => ∃ (a : Addr) (m : Int) (ns : List Int), vs = [.ref a, .int m] ∧ SqL K H a (ns.map V.int) ∧ 0 < m ∧ m ≤ 60 ∧ ns.length ≤ 63 ∧ ∀ p H' cs, Kp [] H H' → H p = none → H' p = some (il cs) → cs.length ≤ 1000 → Q (.ref p) H'
theorem df_folded (a : At K mg "_law_folded" s_folded) (B : Blt mg) : Df P w K mg base "_law_folded" ["_law_script", "_law_many"] 1 (spFolded K) := by
  refine df_of (k := 0) a sc_folded (fun _ _ _ _ _ _ us hl => match us, hl with | [_, _], _ => rfl) (fun vs H Q E h => ?_) (fun f cdv A outer s H vs Q E hr h => ?_)
  · obtain ⟨a, k, cs, rfl, _⟩ := h; rfl
  obtain ⟨a, m, ns, rfl, ha, hm, hm', hns, q⟩ := h
  obtain ⟨M, rfl⟩ : ∃ M : Nat, m = M := ⟨m.toNat, by omega⟩
  have sc := sc_folded
  have hsl := hsl
  refine ⟨_, (pss_cons (ps_set (i := 2) sc.nd rfl (by first | exact Or.inl rfl | exact Or.inr rfl) (pe_callTy call_list_of rfl B.list bt_list (pa_cons (pe_slice sl_list (pv 0) po_none (po_some (pv 1))) pa_nil)))
    (pss_cons (ps_for PassesOwn.never rfl (pi_enum rfl B.enumerate (pa_cons (pe_slice sl_list (pv 0) (po_some (pv 1)) (po_some pe_int)) pa_nil)) (pg_tupK (K := K) 2 rfl rfl (pgs_cons (pg_name (i := 3) sc.nd rfl (by first | exact Or.inl rfl | exact Or.inr rfl)) (pgs_cons (pg_name (i := 4) sc.nd rfl (by first | exact Or.inl rfl | exact Or.inr rfl)) pgs_nil))) (pss_one (ps_asg (pe_op op_add (pe_ix ix_list (pv 2) (pe_op op_mod (pv 3) (pv 1)) (fun _ _ => rfl)) (pe_op op_mul (pv 4) (pe_op op_add (pv 3) pe_int))) (pg_sub (pv 2) (pe_op op_mod (pv 3) (pv 1)) set_listO))))
    (pss_one (ps_ret (pv 2))))), ?_⟩
  rw [show start ["_law_script", "_law_many", "_law_cells", "_law_k", "_law_cell"] [V.ref a, V.int M] = [some (.ref a), some (.int M), none, none, none] from rfl]
  walk_at "rd"
  walk_at "xs"
  intro p1 hp1
  rw [cutV_map]
  walk_at "xs"
  intro p2 hp2
  walk_at "xs"
  intro p3 hp3
  rw [cutV_map]
  have e63 : (63 : Int) = ((63 : Nat) : Int) := rfl
  simp only [HT.sIx_none, HT.sIx_nat, e63, List.drop_zero, Nat.sub_zero] at hp2 hp3 ⊢
  walk_at "xs"
  generalize hc0 : ns.take (min M ns.length) = c0 at hp2 hp3 ⊢
  generalize hd0 : (ns.drop (min M ns.length)).take (min 63 ns.length - min M ns.length) = d0 at hp2 hp3 ⊢
  have lc : c0.length = min M ns.length := by rw [← hc0, List.length_take]; omega
  have ld : d0.length ≤ ns.length - M := by rw [← hd0, List.length_take, List.length_drop]; omega
  have n23 : p2 ≠ p3 := by walk_at "ne"
  refine lp_enum (xs := d0.map V.int) (fun i τ H' => ∃ u v cs, τ = [some (.ref a), some (.int M), some (.ref p2), u, v] ∧ Kp [p2] (upd (upd (upd H p1 (HO.lst (List.map V.int c0))) p2 (HO.lst (List.map V.int c0))) p3 (HO.lst (List.map V.int d0))) H' ∧ H' p2 = some (il cs) ∧ cs.length = c0.length) ?_ ?_ ?_ ?_
  · exact ⟨none, none, c0, rfl, Kp.refl, by walk_at "hp", rfl⟩
  · rintro i τ H' _ ⟨u, v, cs, rfl, kp, _⟩
    exact SqL.of (kp _ _ (by simp [Ne.symm n23]) (by walk_at "hp"))
  · rintro i x pp τ H' hx hpp ⟨u, v, cs, rfl, kp, hcs, hl⟩
    obtain ⟨rfl, hi⟩ := get_map_elim hx
    have b1 := mod_bd (i : Int) hm
    obtain ⟨g1, g2⟩ := get_map_int (cs := cs) (k := (i : Int) % (M : Int)) b1.1 (by omega)
    have hcs' : upd H' pp (HO.tup [V.int i, V.int (d0.getD i 0)]) p2 = some (il cs) := by walk_at "hp"
    walk_at "rd"
    walk_at "xs"
    refine ⟨(kp.trans (Kp.new _ hpp)).trans (Kp.set _ (by simp)), _, upd_same.trans (congrArg some (congrArg HO.lst (set_map _ _ _))), by rw [List.length_set]; exact hl⟩
  · rintro τ H' ⟨u, v, cs, rfl, kp, hcs, hl⟩
    walk_at "rd"
    refine q _ _ cs (fun c o hc hh => kp c o ?_ ((((Kp.new _ hp1).trans (Kp.new _ hp2)).trans (Kp.new _ hp3)) c o hc hh)) (by walk_at "fr") hcs (by omega)
    have : c ≠ p2 := ne_of_none' (Kp_free' hp2 (Kp.new _ hp1)) hh
    simpa using this
abbrev fewL : List Int := [0, 1, 2, 3, 4, 5, 6, 7, 4, 5, 6, 7]
abbrev s_length : Stmt := top 20
theorem sc_length : FnScope ["_law_box_here", "_law_most", "_law_few"] ["_law_box_here", "_law_most"] (defScope s_length) := ⟨rfl, rfl, rfl, by decide +kernel, rfl, by decide +kernel, by decide +kernel⟩
def spLength : Sp := fun vs H Q _ => ∃ (b : Addr) (m : Int) (N : Nat), vs = [.ref b, .int m] ∧ Bx H b N ∧ N < 100000000 ∧ 24 ≤ m ∧ m ≤ 1000 ∧ ∀ r H', Kp [b] H H' → Bx H' b (N + 10) → 0 ≤ r → r ≤ m → Q (.int r) H'
theorem df_length (a : At K mg "_law_length" s_length) (B : Blt mg) (D_law_take : Df P w K mg base "_law_take" ["_law_box_here", "_law_many"] 1 spTake) : Df P w K mg base "_law_length" ["_law_box_here", "_law_most"] 2 spLength := by
  refine df_of (k := 1) a sc_length (fun _ _ _ _ _ _ us hl => match us, hl with | [_, _], _ => rfl) (fun vs H Q E h => ?_) (fun f cdv A outer s H vs Q E hr h => ?_)
  · obtain ⟨a, k, cs, rfl, _⟩ := h; rfl
  obtain ⟨b, m, N, rfl, hb, hN, hm, hm', q⟩ := h
  have sc := sc_length
  have hsl := hsl
  refine' ⟨_, pss_cons (ps_if (pt_cmpR op_eq (pe_cd D_law_take hr rfl (pa_cons (pv 0) (pa_cons pe_int pa_nil))) pe_int (nomark _)) (pss_one (ps_ret (pe_op op_sub (pv 1) (pe_cd D_law_take hr rfl (pa_cons (pv 0) (pa_cons (pe_callB (call_max2 rfl) rfl B.max bt_max (pa_cons pe_int (pa_cons (pe_op op_fdiv (pv 1) pe_int) pa_nil))) pa_nil)))))) pss_nil) (pss_cons _ _), ?_⟩
  rotate_left 2
  · refine' ps_set (i := 2) _ _ _ _ _ _
    rotate_left 1
    · exact sc.nd
    · rfl
    · first | exact Or.inl rfl | exact Or.inr rfl
    · refine' pe_ix _ _ _ _
      rotate_left 3
      · exact ix_list
      · refine' pe_lst _
        rotate_left 1
        refine' pa_ints (is := [0, 1, 2, 3, 4, 5, 6, 7, 4, 5, 6, 7]) _
        rfl
      · exact (pe_cd D_law_take hr rfl (pa_cons (pv 0) (pa_cons pe_int pa_nil)))
      · exact (fun _ _ => rfl)
    · rfl
    · first | exact .inl rfl | exact .inr rfl | assumption
  · refine' pss_one _
    rotate_left 1
    refine' ps_ret _
    rotate_left 1
    refine' pe_ix _ _ _ _
    rotate_left 3
    · exact ix_list
    · refine' pe_lst _
      rotate_left 1
      refine' pa_cons _ _ _
      rotate_left 2
      · exact pv 2
      · exact (pa_cons (pe_op op_add pe_int (pe_cd D_law_take hr rfl (pa_cons (pv 0) (pa_cons pe_int pa_nil)))) pa_nil)
      · rfl
    · exact (pe_callTy call_intB rfl B.int bt_int (pa_cons (pe_cmpR op_eq (pe_cd D_law_take hr rfl (pa_cons (pv 0) (pa_cons pe_int pa_nil))) pe_int (nomark _)) pa_nil))
    · exact (fun _ _ => rfl)
  rw [show start ["_law_box_here", "_law_most", "_law_few"] [V.ref b, V.int m] = [some (.ref b), some (.int m), none] from rfl]
  walk_at "rd"
  refine ⟨b, 16, N, rfl, hb, by omega, by decide, by decide, fun r1 H1 k1 b1 l1 u1 => ⟨rfl, ?_⟩⟩
  walk_at "rd"
  refine ite2 (fun c => ?_) (fun c => ?_)
  · walk_at "xs"
    refine ⟨b, _, _, rfl, b1, by omega, by split <;> omega, by split <;> omega, fun r2 H2 k2 b2 l2 u2 => ⟨_, rfl, ?_⟩⟩
    refine q _ _ (k1.trans k2) (b2.mono (by omega)) ?_ ?_
    · split at u2 <;> omega
    · omega
  · walk_at "xs"
    intro p1 hp1
    refine ⟨b, 12, _, rfl, b1.new hp1, by omega, by decide, by decide, fun r2 H2 k2 b2 l2 u2 => ?_⟩
    have hne : p1 ≠ b := by obtain ⟨_, _, _, h, _⟩ := b1; exact Ne.symm (ne_of_none h hp1)
    have h2 := k2 p1 _ (by simpa using hne) upd_same
    obtain ⟨e1, e2⟩ := get_map_int (cs := fewL) (k := r2) l2 (by simpa using u2)
    refine ⟨_, _, rfl, SqL.of h2, _, e2, b, 17, _, rfl, b2, by omega, by decide, by decide, fun r3 H3 k3 b3 l3 u3 => ?_⟩
    have hv : 0 ≤ fewL.getD r2.toNat 0 ∧ fewL.getD r2.toNat 0 ≤ (24 : Int) := by
      have : ∀ j : Nat, 0 ≤ fewL.getD j 0 ∧ fewL.getD j 0 ≤ (24 : Int) := by
        intro j
        by_cases hj : j < 12
        · have hd : ∀ j : Nat, j < 12 → 0 ≤ fewL.getD j 0 ∧ fewL.getD j 0 ≤ (24 : Int) := by decide
          exact hd j hj
        · have e : fewL.getD j (0 : Int) = 0 := by rw [List.getD_eq_getElem?_getD, List.getElem?_eq_none (by simpa using hj)]; rfl
          rw [e]; decide
      exact this _
    refine ⟨_, rfl, by show 2 ≤ sizeLine; decide, fun p2 hp2 => ?_⟩
    refine ⟨b, 6, _, rfl, b3.new hp2, by omega, by decide, by decide, fun r4 H4 k4 b4 l4 u4 => ⟨rfl, ?_⟩⟩
    have hne2 : p2 ≠ b := by obtain ⟨_, _, _, h, _⟩ := b3; exact Ne.symm (ne_of_none h hp2)
    have h4 := k4 p2 _ (by simpa using hne2) upd_same
    have fin : ∀ r, 0 ≤ r → r ≤ 24 → Q (.int r) H4 := fun r g1 g2 => by
      refine q r H4 ?_ (b4.mono (by omega)) g1 (by omega)
      exact (((k1.trans (Kp.new _ hp1)).trans k2).trans k3).trans ((Kp.new _ hp2).trans k4)
    by_cases c4 : r4 = 0
    · subst c4
      exact ⟨_, SqL.of h4, _, rfl, fin _ (by omega) (by omega)⟩
    · rw [if_neg (fun z => c4 (V.int.inj z))]
      exact ⟨_, SqL.of h4, _, rfl, fin _ hv.1 hv.2⟩
def cE : Option Int → V
  | none => .non
  | some x => .int x
inductive De where
  | swap (a b : Nat) | take (p : Nat) | move (p g : Nat) | lay (g : Nat)
abbrev dSwap : V := .str (Str.ofString "swap")
abbrev dTake : V := .str (Str.ofString "take")
abbrev dMove : V := .str (Str.ofString "move")
abbrev dLay : V := .str (Str.ofString "lay")
def deV : De → List V
  | .swap a b => [dSwap, .int (a : Int), .int (b : Int)]
  | .take p => [dTake, .int (p : Int)]
  | .move p g => [dMove, .int (p : Int), .int (g : Int)]
  | .lay g => [dLay, .int (g : Int)]
abbrev ES := List (Option Int) × Option Int
inductive DoE : De → ES → ES → Prop
  | swap {a b : Nat} {row : List (Option Int)} {h : Option Int} {x y : Int} : a ≠ b → row[a]? = some (some x) → row[b]? = some (some y) → DoE (.swap a b) (row, h) ((row.set a (some y)).set b (some x), h)
  | take {p : Nat} {row : List (Option Int)} {x : Int} : row[p]? = some (some x) → DoE (.take p) (row, none) (row.set p none, some x)
  | move {p g : Nat} {row : List (Option Int)} {h : Option Int} {x : Int} : row[p]? = some (some x) → row[g]? = some none → DoE (.move p g) (row, h) ((row.set p none).set g (some x), h)
  | lay {g : Nat} {row : List (Option Int)} {x : Int} : row[g]? = some none → DoE (.lay g) (row, some x) (row.set g (some x), none)
inductive DosE : List De → ES → ES → Prop
  | nil {s : ES} : DosE [] s s
  | cons {d : De} {l : List De} {s t u : ES} : DoE d s t → DosE l t u → DosE (d :: l) s u
theorem DosE.append {a b : List De} {s t u : ES} (h1 : DosE a s t) (h2 : DosE b t u) : DosE (a ++ b) s u := by
  induction h1 with
  | nil => exact h2
  | cons d _ ih => exact .cons d (ih h2)
theorem DosE.one {d : De} {s t : ES} (h : DoE d s t) : DosE [d] s t := .cons h .nil
theorem DoE.len {d : De} {s t : ES} (h : DoE d s t) : t.1.length = s.1.length := by
  cases h <;> simp
theorem DosE.len {l : List De} {s t : ES} (h : DosE l s t) : t.1.length = s.1.length := by
  induction h with
  | nil => rfl
  | cons d _ ih => rw [ih, d.len]
def De.back : De → De
  | .swap a b => .swap a b
  | .take p => .lay p
  | .move p g => .move g p
  | .lay g => .take g
theorem set_get {row : List (Option Int)} {p : Nat} {v : Option Int} (h : row[p]? = some v) (w : Option Int) : (row.set p w).set p v = row := by
  rw [List.set_set]
  refine List.ext_getElem? fun i => ?_
  rw [List.getElem?_set]
  by_cases e : p = i
  · subst e
    rw [if_pos rfl, if_pos (List.getElem?_eq_some_iff.mp h).1, h]
  · rw [if_neg e]
theorem DoE.back {d : De} {s t : ES} (h : DoE d s t) : DoE d.back t s := by
  cases h with
  | @swap a b row hh x y ne h1 h2 =>
    have la := (List.getElem?_eq_some_iff.mp h1).1
    have lb := (List.getElem?_eq_some_iff.mp h2).1
    have e1 : ((row.set a (some y)).set b (some x))[a]? = some (some y) := by rw [List.getElem?_set, if_neg (fun z => ne z.symm), List.getElem?_set, if_pos rfl, if_pos la]
    have e2 : ((row.set a (some y)).set b (some x))[b]? = some (some x) := by rw [List.getElem?_set, if_pos rfl, List.length_set, if_pos lb]
    have := DoE.swap (h := hh) ne e1 e2
    have er : (((row.set a (some y)).set b (some x)).set a (some x)).set b (some y) = row := by
      refine List.ext_getElem? fun i => ?_
      simp only [List.getElem?_set, List.length_set]
      by_cases ib : b = i
      · subst ib
        rw [if_pos rfl, if_pos lb, h2]
      · rw [if_neg ib]
        by_cases ia : a = i
        · subst ia
          rw [if_pos rfl, if_pos la, h1]
        · rw [if_neg ia, if_neg ib, if_neg ia]
    rw [er] at this
    exact this
  | @take p row x h1 =>
    have l := (List.getElem?_eq_some_iff.mp h1).1
    have := DoE.lay (g := p) (row := row.set p none) (x := x) (by rw [List.getElem?_set, if_pos rfl, if_pos l])
    rw [set_get h1] at this
    exact this
  | @move p g row hh x h1 h2 =>
    have lp := (List.getElem?_eq_some_iff.mp h1).1
    have lg := (List.getElem?_eq_some_iff.mp h2).1
    have ne : p ≠ g := fun z => by rw [z, h2] at h1; cases h1
    have e1 : ((row.set p none).set g (some x))[g]? = some (some x) := by rw [List.getElem?_set, if_pos rfl, List.length_set, if_pos lg]
    have e2 : ((row.set p none).set g (some x))[p]? = some none := by rw [List.getElem?_set, if_neg (fun z => ne z.symm), List.getElem?_set, if_pos rfl, if_pos lp]
    have := DoE.move (h := hh) e1 e2
    have er : (((row.set p none).set g (some x)).set g none).set p (some x) = row := by
      refine List.ext_getElem? fun i => ?_
      simp only [List.getElem?_set, List.length_set]
      by_cases ip : p = i
      · subst ip
        rw [if_pos rfl, if_pos lp, h1]
      · rw [if_neg ip]
        by_cases ig : g = i
        · subst ig
          rw [if_pos rfl, if_pos lg, h2]
        · rw [if_neg ig, if_neg ig, if_neg ip]
    rw [er] at this
    exact this
  | @lay g row x h1 =>
    have l := (List.getElem?_eq_some_iff.mp h1).1
    have := DoE.take (p := g) (row := row.set g (some x)) (x := x) (by rw [List.getElem?_set, if_pos rfl, if_pos l])
    rw [set_get h1] at this
    exact this
theorem DosE.back {l : List De} {s t : ES} (h : DosE l s t) : DosE (l.reverse.map De.back) t s := by
  induction h with
  | nil => exact .nil
  | cons d _ ih =>
    rw [List.reverse_cons, List.map_append]
    exact ih.append (.one d.back)
theorem at_cellE {row : List (Option Int)} {p : Nat} {c : Option Int} (h : row[p]? = some c) : ixN (row.map cE).length (p : Int) = some p ∧ atI (row.map cE) (p : Int) = some (cE c) := by
  have hp := (List.getElem?_eq_some_iff.mp h).1
  have e : ixN (row.map cE).length (p : Int) = some p := by rw [List.length_map]; unfold ixN; rw [if_pos (by omega), if_pos (by omega), Int.toNat_natCast]
  refine ⟨e, ?_⟩
  unfold atI
  rw [e]
  show (row.map cE)[p]? = _
  rw [List.getElem?_map, h]; rfl
theorem kb_free {H W : Hp} {bx p : Addr} {N : Nat} (k : Kp [bx] H W) (b : Bx W bx N) (h : W p = none) : H p = none := by
  cases e : H p with
  | none => rfl
  | some o =>
    by_cases c : p ∈ [bx]
    · have : p = bx := by simpa using c
      subst this
      obtain ⟨_, _, _, e2, _⟩ := b
      rw [h] at e2; cases e2
    · have := k _ _ c e
      rw [h] at this; cases this
theorem seq_cut {X rest : TS} {D : Ends} {σ : L2.St} {H : Hp} (h : ∀ r, r = rest → tSeq X r D σ H) : tSeq X rest D σ H := h rest rfl
abbrev s_done : Stmt := top 22
theorem sc_done : FnScope ["_law_row", "_law_hand", "_law_deed_here", "_law_one", "_law_other"] ["_law_row", "_law_hand", "_law_deed_here"] (defScope s_done) := ⟨rfl, rfl, rfl, by decide +kernel, rfl, by decide +kernel, by decide +kernel⟩
def spDone : Sp := fun vs H Q _ => ∃ (a b : Addr) (d : De) (st st' : ES), vs = [.ref a, cE st.2, .ref b] ∧ H a = some (.lst (st.1.map cE)) ∧ H b = some (.tup (deV d)) ∧ DoE d st st' ∧ st.1.length ≤ 1000 ∧
  ∀ t p H', Kp [] H H' → H t = none → H p = none → H' t = some (.tup [.ref p, cE st'.2]) → H' p = some (.lst (st'.1.map cE)) → Q (.ref t) H'
theorem df_done (a : At K mg "_law_done" s_done) (B : Blt mg) : Df P w K mg base "_law_done" ["_law_row", "_law_hand", "_law_deed_here"] 1 spDone := by
  refine df_of (k := 0) a sc_done (fun _ _ _ _ _ _ us hl => match us, hl with | [_, _, _], _ => rfl) (fun vs H Q E h => ?_) (fun f cdv A outer s H vs Q E hr h => ?_)
  · obtain ⟨a, b, d, st, st', rfl, _⟩ := h; rfl
  obtain ⟨a, b, d, st, st', rfl, ha, hb, hdo, hl, q⟩ := h
  have sc := sc_done
  have hsl := hsl
  refine ⟨_, (pss_cons (ps_set (i := 0) sc.nd rfl (by first | exact Or.inl rfl | exact Or.inr rfl) (pe_callTy call_list_of rfl B.list bt_list (pa_cons (pv 0) pa_nil)))
    (pss_cons (ps_if (pt_cmpR op_eq (pe_ix ix_tup (pv 2) pe_int (fun _ _ => rfl)) pe_str (nomark _)) (pss_cons (ps_par (i := 3) (j := 4) rfl sc.nd rfl rfl (by decide) rfl rfl (pa_cons (pe_ix ix_list (pv 0) (pe_ix ix_tup (pv 2) pe_int (fun _ _ => rfl)) (fun _ _ => rfl)) (pa_cons (pe_ix ix_list (pv 0) (pe_ix ix_tup (pv 2) pe_int (fun _ _ => rfl)) (fun _ _ => rfl)) pa_nil)) rfl)
    (pss_one (ps_asg (pe_tup (pa_cons (pv 4) (pa_cons (pv 3) pa_nil))) (pg_tupK (K := K) 2 rfl rfl (pgs_cons (pg_sub (pv 0) (pe_ix ix_tup (pv 2) pe_int (fun _ _ => rfl)) set_listO) (pgs_cons (pg_sub (pv 0) (pe_ix ix_tup (pv 2) pe_int (fun _ _ => rfl)) set_listO) pgs_nil)))))) pss_nil)
    (pss_cons (ps_if (pt_cmpR op_eq (pe_ix ix_tup (pv 2) pe_int (fun _ _ => rfl)) pe_str (nomark _)) (pss_one (ps_asg (pe_tup (pa_cons pe_non (pa_cons (pe_ix ix_list (pv 0) (pe_ix ix_tup (pv 2) pe_int (fun _ _ => rfl)) (fun _ _ => rfl)) pa_nil))) (pg_tupK (K := K) 2 rfl rfl (pgs_cons (pg_sub (pv 0) (pe_ix ix_tup (pv 2) pe_int (fun _ _ => rfl)) set_listO) (pgs_cons (pg_name (i := 1) sc.nd rfl (by first | exact Or.inl rfl | exact Or.inr rfl)) pgs_nil))))) pss_nil)
    (pss_cons (ps_if (pt_cmpR op_eq (pe_ix ix_tup (pv 2) pe_int (fun _ _ => rfl)) pe_str (nomark _)) (pss_one (ps_asg (pe_tup (pa_cons pe_non (pa_cons (pe_ix ix_list (pv 0) (pe_ix ix_tup (pv 2) pe_int (fun _ _ => rfl)) (fun _ _ => rfl)) pa_nil))) (pg_tupK (K := K) 2 rfl rfl (pgs_cons (pg_sub (pv 0) (pe_ix ix_tup (pv 2) pe_int (fun _ _ => rfl)) set_listO) (pgs_cons (pg_sub (pv 0) (pe_ix ix_tup (pv 2) pe_int (fun _ _ => rfl)) set_listO) pgs_nil))))) pss_nil)
    (pss_cons (ps_if (pt_cmpR op_eq (pe_ix ix_tup (pv 2) pe_int (fun _ _ => rfl)) pe_str (nomark _)) (pss_one (ps_asg (pe_tup (pa_cons (pv 1) (pa_cons pe_non pa_nil))) (pg_tupK (K := K) 2 rfl rfl (pgs_cons (pg_sub (pv 0) (pe_ix ix_tup (pv 2) pe_int (fun _ _ => rfl)) set_listO) (pgs_cons (pg_name (i := 1) sc.nd rfl (by first | exact Or.inl rfl | exact Or.inr rfl)) pgs_nil))))) pss_nil)
    (pss_one (ps_ret (pe_tup (pa_cons (pv 0) (pa_cons (pv 1) pa_nil)))))))))), ?_⟩
  rw [show start ["_law_row", "_law_hand", "_law_deed_here", "_law_one", "_law_other"] [V.ref a, cE st.2, V.ref b] = [some (.ref a), some (cE st.2), some (.ref b), none, none] from rfl]
  refine seq_cut fun r hr0 => ?_
  walk_at "rd"
  refine ⟨_, .inl (SqL.of ha), fun l hl0 => ?_⟩
  subst hr0
  have kl := Kp.new (bs := []) (HO.lst (st.1.map cE)) hl0
  have hl1 := upd_same (H := H) (a := l) (o := HO.lst (st.1.map cE))
  have hb1 := kl _ _ (by simp) hb
  have nbl : b ≠ l := ne_of_none hb hl0
  generalize upd H l (HO.lst (st.1.map cE)) = H1 at *
  have hnl := hl0
  cases hdo with
  | @swap sa sb row h x y ne hp hg =>
    obtain ⟨c1, c2⟩ := at_cellE hp
    obtain ⟨g1, g2⟩ := at_cellE hg
    refine seq_cut fun r hr0 => ?_
    walk_at "rd"
    refine ⟨_, SqT.of hb1, _, rfl, rfl, ?_⟩
    rw [if_pos rfl]
    refine ⟨_, SqT.of hb1, _, rfl, _, _, rfl, SqL.of hl1, _, c2, _, SqT.of hb1, _, rfl, _, _, rfl, SqL.of hl1, _, g2, by show 2 ≤ sizeLine; omega, fun pt hpt => ?_⟩
    have kt := Kp.new (bs := []) (HO.tup [cE (some y), cE (some x)]) hpt
    have hbt := kt _ _ (by simp) hb1
    have ib2 : ixN ((row.map cE).set sa (cE (some y))).length (sb : Int) = some sb := by rw [List.length_set]; exact g1
    refine ⟨_, SqT.of upd_same, rfl, _, _, rfl, _, SqT.of hbt, _, rfl, _, rfl, _, kt _ _ (by simp) hl1, _, c1, _, _, rfl, _, SqT.of ((upd_ne nbl).trans hbt), _, rfl, _, rfl, _, upd_same, _, ib2, rfl, ?_⟩
    subst hr0
    have hl2 := upd_same (H := upd (upd H1 pt (HO.tup [cE (some y), cE (some x)])) l (HO.lst ((row.map cE).set sa (cE (some y))))) (a := l) (o := HO.lst (((row.map cE).set sa (cE (some y))).set sb (cE (some x))))
    have hb2 : upd (upd (upd H1 pt (HO.tup [cE (some y), cE (some x)])) l (HO.lst ((row.map cE).set sa (cE (some y))))) l (HO.lst (((row.map cE).set sa (cE (some y))).set sb (cE (some x)))) b = some (.tup (deV (.swap sa sb))) := (upd_ne nbl).trans ((upd_ne nbl).trans hbt)
    have kn := ((kt.mono (bs' := [l]) (by simp)).trans (Kp.set (HO.lst ((row.map cE).set sa (cE (some y)))) (by simp : l ∈ [l]))).trans (Kp.set (HO.lst (((row.map cE).set sa (cE (some y))).set sb (cE (some x)))) (by simp : l ∈ [l]))
    have hl2 := hl2.trans (show _ = some (HO.lst (((row.set sa (some y)).set sb (some x)).map cE)) by rw [List.map_set, List.map_set])
    show tSeq _ _ _ _ (upd (upd (upd H1 pt (HO.tup [cE (some y), cE (some x)])) l (HO.lst ((row.map cE).set sa (cE (some y))))) l (HO.lst (((row.map cE).set sa (cE (some y))).set sb (cE (some x)))))
    generalize upd (upd (upd H1 pt (HO.tup [cE (some y), cE (some x)])) l (HO.lst ((row.map cE).set sa (cE (some y))))) l (HO.lst (((row.map cE).set sa (cE (some y))).set sb (cE (some x)))) = H2 at *
    refine seq_cut fun r hr0 => ?_
    walk_at "rd"
    refine ⟨_, SqT.of hb2, _, rfl, rfl, ?_⟩
    rw [if_neg (by show ¬ (V.str (Str.ofString "swap") = V.str (Str.ofString "take")); decide)]
    subst hr0
    refine seq_cut fun r hr0 => ?_
    walk_at "rd"
    refine ⟨_, SqT.of hb2, _, rfl, rfl, ?_⟩
    rw [if_neg (by show ¬ (V.str (Str.ofString "swap") = V.str (Str.ofString "move")); decide)]
    subst hr0
    refine seq_cut fun r hr0 => ?_
    walk_at "rd"
    refine ⟨_, SqT.of hb2, _, rfl, rfl, ?_⟩
    rw [if_neg (by show ¬ (V.str (Str.ofString "swap") = V.str (Str.ofString "lay")); decide)]
    subst hr0
    walk_at "rd"
    refine ⟨by show 2 ≤ sizeLine; omega, fun t ht => ?_⟩
    have kt2 := Kp.new (bs := []) (HO.tup [V.ref l, cE h]) ht
    have kx : Kp [] H H2 := Kp.un (bs := []) ((kl.mono (bs' := [l]) (by simp)).trans kn) hnl
    exact q t l _ (kx.trans kt2) (kx.free ht) hnl upd_same (kt2 _ _ (by simp) hl2)
  | @take p row x hp =>
    obtain ⟨c1, c2⟩ := at_cellE hp
    refine seq_cut fun r hr0 => ?_
    walk_at "rd"
    refine ⟨_, SqT.of hb1, _, rfl, rfl, ?_⟩
    rw [if_neg (by show ¬ (V.str (Str.ofString "take") = V.str (Str.ofString "swap")); decide)]
    subst hr0
    refine seq_cut fun r hr0 => ?_
    walk_at "rd"
    refine ⟨_, SqT.of hb1, _, rfl, rfl, ?_⟩
    rw [if_pos rfl]
    refine ⟨_, SqT.of hb1, _, rfl, _, _, rfl, SqL.of hl1, _, c2, by show 2 ≤ sizeLine; omega, fun pt hpt => ?_⟩
    have kt := Kp.new (bs := []) (HO.tup [V.non, cE (some x)]) hpt
    refine ⟨_, SqT.of upd_same, rfl, _, _, rfl, _, SqT.of (kt _ _ (by simp) hb1), _, rfl, _, rfl, _, kt _ _ (by simp) hl1, _, c1, _, _, rfl, rfl, ?_⟩
    subst hr0
    have hl2 := upd_same (H := upd H1 pt (HO.tup [V.non, cE (some x)])) (a := l) (o := HO.lst ((row.map cE).set p V.non))
    have hb2 : upd (upd H1 pt (HO.tup [V.non, cE (some x)])) l (HO.lst ((row.map cE).set p V.non)) b = some (.tup (deV (.take p))) := (upd_ne nbl).trans (kt _ _ (by simp) hb1)
    have kn := (kt.mono (bs' := [l]) (by simp)).trans (Kp.set (HO.lst ((row.map cE).set p V.non)) (by simp : l ∈ [l]))
    have hl2 := hl2.trans (show _ = some (HO.lst ((row.set p none).map cE)) by rw [List.map_set]; rfl)
    show tSeq _ _ _ _ (upd (upd H1 pt (HO.tup [V.non, cE (some x)])) l (HO.lst ((row.map cE).set p V.non)))
    generalize upd (upd H1 pt (HO.tup [V.non, cE (some x)])) l (HO.lst ((row.map cE).set p V.non)) = H2 at *
    refine seq_cut fun r hr0 => ?_
    walk_at "rd"
    refine ⟨_, SqT.of hb2, _, rfl, rfl, ?_⟩
    rw [if_neg (by show ¬ (V.str (Str.ofString "take") = V.str (Str.ofString "move")); decide)]
    subst hr0
    refine seq_cut fun r hr0 => ?_
    walk_at "rd"
    refine ⟨_, SqT.of hb2, _, rfl, rfl, ?_⟩
    rw [if_neg (by show ¬ (V.str (Str.ofString "take") = V.str (Str.ofString "lay")); decide)]
    subst hr0
    walk_at "rd"
    refine ⟨by show 2 ≤ sizeLine; omega, fun t ht => ?_⟩
    have kt2 := Kp.new (bs := []) (HO.tup [V.ref l, cE (some x)]) ht
    have kx : Kp [] H H2 := Kp.un (bs := []) ((kl.mono (bs' := [l]) (by simp)).trans kn) hnl
    exact q t l _ (kx.trans kt2) (kx.free ht) hnl upd_same (kt2 _ _ (by simp) hl2)
  | @move p g row h x hp hg =>
    obtain ⟨c1, c2⟩ := at_cellE hp
    obtain ⟨g1, g2⟩ := at_cellE hg
    refine seq_cut fun r hr0 => ?_
    walk_at "rd"
    refine ⟨_, SqT.of hb1, _, rfl, rfl, ?_⟩
    rw [if_neg (by show ¬ (V.str (Str.ofString "move") = V.str (Str.ofString "swap")); decide)]
    subst hr0
    refine seq_cut fun r hr0 => ?_
    walk_at "rd"
    refine ⟨_, SqT.of hb1, _, rfl, rfl, ?_⟩
    rw [if_neg (by show ¬ (V.str (Str.ofString "move") = V.str (Str.ofString "take")); decide)]
    subst hr0
    refine seq_cut fun r hr0 => ?_
    walk_at "rd"
    refine ⟨_, SqT.of hb1, _, rfl, rfl, ?_⟩
    rw [if_pos rfl]
    refine ⟨_, SqT.of hb1, _, rfl, _, _, rfl, SqL.of hl1, _, c2, by show 2 ≤ sizeLine; omega, fun pt hpt => ?_⟩
    have kt := Kp.new (bs := []) (HO.tup [V.non, cE (some x)]) hpt
    have ig : ixN ((row.map cE).set p V.non).length (g : Int) = some g := by rw [List.length_set]; exact g1
    have hbt := kt _ _ (by simp) hb1
    refine ⟨_, SqT.of upd_same, rfl, _, _, rfl, _, SqT.of hbt, _, rfl, _, rfl, _, kt _ _ (by simp) hl1, _, c1, _, _, rfl, _, SqT.of ((upd_ne nbl).trans hbt), _, rfl, _, rfl, _, upd_same, _, ig, rfl, ?_⟩
    subst hr0
    have hl2 := upd_same (H := upd (upd H1 pt (HO.tup [V.non, cE (some x)])) l (HO.lst ((row.map cE).set p V.non))) (a := l) (o := HO.lst (((row.map cE).set p V.non).set g (cE (some x))))
    have hb2 : upd (upd (upd H1 pt (HO.tup [V.non, cE (some x)])) l (HO.lst ((row.map cE).set p V.non))) l (HO.lst (((row.map cE).set p V.non).set g (cE (some x)))) b = some (.tup (deV (.move p g))) := (upd_ne nbl).trans ((upd_ne nbl).trans hbt)
    have kn := ((kt.mono (bs' := [l]) (by simp)).trans (Kp.set (HO.lst ((row.map cE).set p V.non)) (by simp : l ∈ [l]))).trans (Kp.set (HO.lst (((row.map cE).set p V.non).set g (cE (some x)))) (by simp : l ∈ [l]))
    have hl2 := hl2.trans (show _ = some (HO.lst (((row.set p none).set g (some x)).map cE)) by rw [List.map_set, List.map_set]; rfl)
    show tSeq _ _ _ _ (upd (upd (upd H1 pt (HO.tup [V.non, cE (some x)])) l (HO.lst ((row.map cE).set p V.non))) l (HO.lst (((row.map cE).set p V.non).set g (cE (some x)))))
    generalize upd (upd (upd H1 pt (HO.tup [V.non, cE (some x)])) l (HO.lst ((row.map cE).set p V.non))) l (HO.lst (((row.map cE).set p V.non).set g (cE (some x)))) = H2 at *
    refine seq_cut fun r hr0 => ?_
    walk_at "rd"
    refine ⟨_, SqT.of hb2, _, rfl, rfl, ?_⟩
    rw [if_neg (by show ¬ (V.str (Str.ofString "move") = V.str (Str.ofString "lay")); decide)]
    subst hr0
    walk_at "rd"
    refine ⟨by show 2 ≤ sizeLine; omega, fun t ht => ?_⟩
    have kt2 := Kp.new (bs := []) (HO.tup [V.ref l, cE h]) ht
    have kx : Kp [] H H2 := Kp.un (bs := []) ((kl.mono (bs' := [l]) (by simp)).trans kn) hnl
    exact q t l _ (kx.trans kt2) (kx.free ht) hnl upd_same (kt2 _ _ (by simp) hl2)
  | @lay g row x hg =>
    obtain ⟨g1, g2⟩ := at_cellE hg
    refine seq_cut fun r hr0 => ?_
    walk_at "rd"
    refine ⟨_, SqT.of hb1, _, rfl, rfl, ?_⟩
    rw [if_neg (by show ¬ (V.str (Str.ofString "lay") = V.str (Str.ofString "swap")); decide)]
    subst hr0
    refine seq_cut fun r hr0 => ?_
    walk_at "rd"
    refine ⟨_, SqT.of hb1, _, rfl, rfl, ?_⟩
    rw [if_neg (by show ¬ (V.str (Str.ofString "lay") = V.str (Str.ofString "take")); decide)]
    subst hr0
    refine seq_cut fun r hr0 => ?_
    walk_at "rd"
    refine ⟨_, SqT.of hb1, _, rfl, rfl, ?_⟩
    rw [if_neg (by show ¬ (V.str (Str.ofString "lay") = V.str (Str.ofString "move")); decide)]
    subst hr0
    refine seq_cut fun r hr0 => ?_
    walk_at "rd"
    refine ⟨_, SqT.of hb1, _, rfl, rfl, ?_⟩
    rw [if_pos rfl]
    refine ⟨by show 2 ≤ sizeLine; omega, fun pt hpt => ?_⟩
    have kt := Kp.new (bs := []) (HO.tup [cE (some x), V.non]) hpt
    have hbt := kt _ _ (by simp) hb1
    refine ⟨_, SqT.of upd_same, rfl, _, _, rfl, _, SqT.of hbt, _, rfl, _, rfl, _, kt _ _ (by simp) hl1, _, g1, _, _, rfl, rfl, ?_⟩
    subst hr0
    have hl2 := upd_same (H := upd H1 pt (HO.tup [cE (some x), V.non])) (a := l) (o := HO.lst ((row.map cE).set g (cE (some x))))
    have kn := (kt.mono (bs' := [l]) (by simp)).trans (Kp.set (HO.lst ((row.map cE).set g (cE (some x)))) (by simp : l ∈ [l]))
    have hl2 := hl2.trans (show _ = some (HO.lst ((row.set g (some x)).map cE)) by rw [List.map_set])
    show tRet _ _ _ (upd (upd H1 pt (HO.tup [cE (some x), V.non])) l (HO.lst ((row.map cE).set g (cE (some x)))))
    generalize upd (upd H1 pt (HO.tup [cE (some x), V.non])) l (HO.lst ((row.map cE).set g (cE (some x)))) = H2 at *
    walk_at "rd"
    refine ⟨by show 2 ≤ sizeLine; omega, fun t ht => ?_⟩
    have kt2 := Kp.new (bs := []) (HO.tup [V.ref l, cE none]) ht
    have kx : Kp [] H H2 := Kp.un (bs := []) ((kl.mono (bs' := [l]) (by simp)).trans kn) hnl
    exact q t l _ (kx.trans kt2) (kx.free ht) hnl upd_same (kt2 _ _ (by simp) hl2)
def thN (row : List (Option Int)) : List Nat := (List.range row.length).filter fun k => (row.getD k none).isSome
def frN (row : List (Option Int)) : List Nat := (List.range row.length).filter fun k => (row.getD k none).isNone
def nI (xs : List Nat) : List Int := xs.map fun (k : Nat) => (k : Int)
theorem thN_at {row : List (Option Int)} {p : Nat} (h : p ∈ thN row) : ∃ v, row[p]? = some (some v) := by
  unfold thN at h
  obtain ⟨h1, h2⟩ := List.mem_filter.mp h
  rw [List.mem_range] at h1
  rw [List.getD_eq_getElem?_getD, List.getElem?_eq_getElem h1] at h2
  obtain ⟨v, hv⟩ := Option.isSome_iff_exists.mp h2
  exact ⟨v, by rw [List.getElem?_eq_getElem h1]; exact congrArg some hv⟩
theorem frN_at {row : List (Option Int)} {p : Nat} (h : p ∈ frN row) : row[p]? = some none := by
  unfold frN at h
  obtain ⟨h1, h2⟩ := List.mem_filter.mp h
  rw [List.mem_range] at h1
  rw [List.getD_eq_getElem?_getD, List.getElem?_eq_getElem h1] at h2
  have hv := Option.isNone_iff_eq_none.mp h2
  rw [List.getElem?_eq_getElem h1]; exact congrArg some hv
theorem thN_len (row : List (Option Int)) : (thN row).length ≤ row.length := by
  have := List.length_filter_le (fun k => (row.getD k none).isSome) (List.range row.length)
  rw [List.length_range] at this; exact this
theorem frN_len (row : List (Option Int)) : (frN row).length ≤ row.length := by
  have := List.length_filter_le (fun k => (row.getD k none).isNone) (List.range row.length)
  rw [List.length_range] at this; exact this
theorem thN_nodup (row : List (Option Int)) : (thN row).Nodup := List.nodup_range.sublist List.filter_sublist
theorem nI_len (xs : List Nat) : (nI xs).length = xs.length := by unfold nI; rw [List.length_map]
theorem nI_at {xs : List Nat} {r : Int} (h0 : 0 ≤ r) (h1 : r < xs.length) : ∃ p, p ∈ xs ∧ xs[r.toNat]? = some p ∧ atI ((nI xs).map V.int) r = some (.int (p : Int)) := by
  have hr : r.toNat < xs.length := by omega
  refine ⟨xs[r.toNat], List.getElem_mem hr, List.getElem?_eq_getElem hr, ?_⟩
  have e : atI ((nI xs).map V.int) (r.toNat : Int) = some (.int ((xs[r.toNat] : Nat) : Int)) := by
    refine atI_nat ?_
    unfold nI
    rw [List.getElem?_map, List.getElem?_map, List.getElem?_eq_getElem hr]; rfl
  rwa [show (r.toNat : Int) = r by omega] at e
/-- one place, and another one that is not the same -/
theorem nI_other {xs : List Nat} {r t : Int} (h0 : 0 ≤ r) (h1 : r < xs.length) (t0 : 0 ≤ t) (t1 : t < (xs.length : Int) - 1) : ∃ j : Nat, j ≠ r.toNat ∧ ∃ p, p ∈ xs ∧ xs[j]? = some p ∧ atI ((nI xs).map V.int) (r - 1 - t) = some (.int (p : Int)) := by
  by_cases c : 0 ≤ r - 1 - t
  · obtain ⟨p, hp, e1, e2⟩ := nI_at (xs := xs) c (by omega)
    exact ⟨(r - 1 - t).toNat, by omega, p, hp, e1, e2⟩
  · have hj : (r - 1 - t + xs.length).toNat < xs.length := by omega
    refine ⟨(r - 1 - t + xs.length).toNat, by omega, xs[(r - 1 - t + xs.length).toNat], List.getElem_mem hj, List.getElem?_eq_getElem hj, ?_⟩
    unfold atI ixN
    rw [List.length_map, nI_len, if_neg c, if_pos (by omega)]
    show ((nI xs).map V.int)[(r - 1 - t + (xs.length : Int)).toNat]? = _
    unfold nI
    rw [List.getElem?_map, List.getElem?_map, List.getElem?_eq_getElem hj]; rfl
abbrev deP (qs : List (Addr × De)) : List (Addr × List V) := qs.map fun q => (q.1, deV q.2)
def DInv (H0 : Hp) (bx rw_ : Addr) (row : List (Option Int)) (h : Option Int) (N k : Nat) (pt pf : Addr) (σ : L2.St) (H : Hp) : Prop :=
  ∃ (ps : Addr) (qs : List (Addr × De)) (u6 u7 : Option V), σ = [some (.ref bx), some (.ref rw_), some (cE h), some (.ref pt), some (.ref pf), some (.ref ps), u6, u7] ∧ Kp [bx] H0 H ∧ H ps = some (.lst (tfs (deP qs))) ∧ H0 ps = none ∧ (pt ≠ ps ∧ pf ≠ ps) ∧
    (∀ q ∈ qs, H0 q.1 = none ∧ H q.1 = some (.tup (deV q.2)) ∧ ∃ t, DoE q.2 (row, h) t) ∧ qs.length ≤ 2 * k ∧ Bx H bx (N + 2 * k) ∧ H pt = some (il (nI (thN row))) ∧ H pf = some (il (nI (frN row)))
theorem tfs_lenE (a : List (Addr × List V)) : (tfs a).length = a.length := by unfold tfs; rw [List.length_map]
theorem DInv.kp {H0 H H' : Hp} {bx rw_ pt pf : Addr} {row : List (Option Int)} {h : Option Int} {N k : Nat} {σ : L2.St} (I : DInv H0 bx rw_ row h N k pt pf σ H) (k2 : Kp [] H H') : DInv H0 bx rw_ row h N k pt pf σ H' := by
  obtain ⟨ps, qs, u6, u7, e, k1, hps, nps, ne, hqs, lqs, b1, ht1, hf1⟩ := I
  exact ⟨ps, qs, u6, u7, e, k1.trans (k2.mono (by simp)), k2 _ _ (by simp) hps, nps, ne, fun q hq => ⟨(hqs q hq).1, k2 _ _ (by simp) (hqs q hq).2.1, (hqs q hq).2.2⟩, lqs, b1.kp k2, k2 _ _ (by simp) ht1, k2 _ _ (by simp) hf1⟩
theorem DInv.up {H0 H : Hp} {bx rw_ pt pf : Addr} {row : List (Option Int)} {h : Option Int} {N k : Nat} {σ : L2.St} (I : DInv H0 bx rw_ row h N k pt pf σ H) : DInv H0 bx rw_ row h N (k + 1) pt pf σ H := by
  obtain ⟨ps, qs, u6, u7, e, k1, hps, nps, ne, hqs, lqs, b1, ht1, hf1⟩ := I
  exact ⟨ps, qs, u6, u7, e, k1, hps, nps, ne, hqs, by omega, b1.mono (by omega), ht1, hf1⟩
theorem dinv_add {H0 H1 H2 : Hp} {bx rw_ pt pf ps p : Addr} {row : List (Option Int)} {h : Option Int} {N k : Nat} {qs : List (Addr × De)} {u6 u7 : Option V} {d : De} {t : ES} (hb : Bx H0 bx N) (hpt : H0 pt = none) (hpf : H0 pf = none)
    (k1 : Kp [bx] H0 H1) (hps : H1 ps = some (.lst (tfs (deP qs)))) (nps : H0 ps = none) (ne : pt ≠ ps ∧ pf ≠ ps) (hqs : ∀ q ∈ qs, H0 q.1 = none ∧ H1 q.1 = some (.tup (deV q.2)) ∧ ∃ t, DoE q.2 (row, h) t) (lqs : qs.length ≤ 2 * k)
    (ht1 : H1 pt = some (il (nI (thN row)))) (hf1 : H1 pf = some (il (nI (frN row)))) (k2 : Kp [bx] H1 H2) (b2 : Bx H2 bx (N + 2 * (k + 1))) (hp : H2 p = none) (hd : DoE d (row, h) t) :
    H2 ps = some (.lst (tfs (deP qs))) ∧ DInv H0 bx rw_ row h N (k + 1) pt pf [some (.ref bx), some (.ref rw_), some (cE h), some (.ref pt), some (.ref pf), some (.ref ps), u6, u7] (upd (upd H2 p (.tup (deV d))) ps (.lst (tfs (deP qs) ++ [V.ref p]))) := by
  have nb : ∀ c, H0 c = none → c ∉ [bx] := fun c hc => by simpa using Ne.symm (hb.ne hc)
  have hps2 := k2 _ _ (nb _ nps) hps
  have n1 : Kp [] H2 (upd H2 p (.tup (deV d))) := Kp.new _ hp
  have npd : ∀ c o, c ≠ ps → H2 c = some o → upd (upd H2 p (.tup (deV d))) ps (.lst (tfs (deP qs) ++ [V.ref p])) c = some o := fun c o hc hh => (upd_ne hc).trans (n1 _ _ (by simp) hh)
  have hp0 : H0 p = none := by
    cases e : H0 p with
    | none => rfl
    | some o =>
      by_cases c : p ∈ [bx]
      · have : p = bx := by simpa using c
        subst this
        obtain ⟨_, _, _, e2, _⟩ := b2
        rw [hp] at e2; cases e2
      · have := k2 _ _ c (k1 _ _ c e)
        rw [hp] at this; cases this
  refine ⟨hps2, ps, qs ++ [(p, d)], u6, u7, rfl, ?_, upd_same.trans (by unfold deP tfs; rw [List.map_append, List.map_append]; rfl), nps, ne, fun q hq => ?_, by rw [List.length_append]; show qs.length + 1 ≤ _; omega, ?_, npd _ _ ne.1 (k2 _ _ (nb _ hpt) ht1), npd _ _ ne.2 (k2 _ _ (nb _ hpf) hf1)⟩
  · intro c o hc hh
    have cs : c ≠ ps := fun z => by rw [z, nps] at hh; cases hh
    exact npd _ _ cs (k2 _ _ hc (k1 _ _ hc hh))
  · rcases List.mem_append.mp hq with z | z
    · obtain ⟨z1, z2, z3⟩ := hqs q z
      refine ⟨z1, npd _ _ (fun e => ?_) (k2 _ _ (nb _ z1) z2), z3⟩
      rw [e, hps] at z2; cases z2
    · rw [List.mem_singleton.mp z]
      refine ⟨hp0, (upd_ne (fun e => ?_)).trans upd_same, t, hd⟩
      have e : p = ps := e
      rw [e, hps2] at hp; cases hp
  · obtain ⟨x, y, z, e, r⟩ := b2
    have cs : bx ≠ ps := fun w => by have := nb _ nps; rw [w] at this; simp at this
    exact ⟨x, y, z, npd _ _ cs e, r⟩
theorem fil_succ (p : Nat → Bool) (k : Nat) : (List.range (k + 1)).filter p = (List.range k).filter p ++ if p k = true then [k] else [] := by
  rw [List.range_succ, List.filter_append]
  congr 1
  rw [List.filter_cons]
  rfl
theorem fil_le (p : Nat → Bool) (k : Nat) : ((List.range k).filter p).length ≤ k := by
  have := List.length_filter_le p (List.range k)
  rwa [List.length_range] at this
abbrev s_deed : Stmt := top 21
theorem sc_deed : FnScope ["_law_box_here", "_law_row", "_law_hand", "_law_there", "_law_free", "_law_some", "_law_one", "_law_k"] ["_law_box_here", "_law_row", "_law_hand"] (defScope s_deed) := ⟨rfl, rfl, rfl, by decide +kernel, rfl, by decide +kernel, by decide +kernel⟩
def spDeed : Sp := fun vs H Q _ => ∃ (bx rw_ : Addr) (row : List (Option Int)) (h : Option Int) (N : Nat), vs = [.ref bx, .ref rw_, cE h] ∧ Bx H bx N ∧ N < 100000000 ∧ H rw_ = some (.lst (row.map cE)) ∧ row.length ≤ 1000 ∧
  ∀ H', Kp [bx] H H' → Bx H' bx (N + 10) → Q .non H' ∧ ∀ p d t, H p = none → H' p = some (.tup (deV d)) → DoE d (row, h) t → Q (.ref p) H'
theorem df_deed (a : At K mg "_law_deed" s_deed) (B : Blt mg) (D_law_take : Df P w K mg base "_law_take" ["_law_box_here", "_law_many"] 1 spTake) : Df P w K mg base "_law_deed" ["_law_box_here", "_law_row", "_law_hand"] 2 spDeed := by
  refine df_of (k := 1) a sc_deed (fun _ _ _ _ _ _ us hl => match us, hl with | [_, _, _], _ => rfl) (fun vs H Q E h => ?_) (fun f cdv A outer s H vs Q E hr h => ?_)
  · obtain ⟨bx, rw_, row, h, N, rfl, _⟩ := h; rfl
  obtain ⟨bx, rw_, row, h, N, rfl, hb, hN, hrw, hrl, q⟩ := h
  have sc := sc_deed
  have hsl := hsl
  refine ⟨_, (pss_cons (ps_comp (j := 3) rfl sc.nd rfl (by first | exact Or.inl rfl | exact Or.inr rfl) (ts := [7]) rfl (pi_range1 rfl B.range (pa_cons (pe_callB call_len_seq rfl B.len bt_len (pa_cons (pv 1) pa_nil)) pa_nil)) (fun _ _ _ _ => (pg_name (i := 7) sc.nd rfl (by first | exact Or.inl rfl | exact Or.inr rfl))) (fun _ _ _ _ => pif_one (pt_cmpR op_notN (pe_ix (ix_listK (K := K) rfl) (pv 1) (pv 7) (fun _ _ => rfl)) pe_non (nomark _))) (fun _ _ _ _ => (pv 7)))
    (pss_cons (ps_comp (j := 4) rfl sc.nd rfl (by first | exact Or.inl rfl | exact Or.inr rfl) (ts := [7]) rfl (pi_range1 rfl B.range (pa_cons (pe_callB call_len_seq rfl B.len bt_len (pa_cons (pv 1) pa_nil)) pa_nil)) (fun _ _ _ _ => (pg_name (i := 7) sc.nd rfl (by first | exact Or.inl rfl | exact Or.inr rfl))) (fun _ _ _ _ => pif_one (pt_cmpR op_isN (pe_ix (ix_listK (K := K) rfl) (pv 1) (pv 7) (fun _ _ => rfl)) pe_non (nomark _))) (fun _ _ _ _ => (pv 7)))
    (pss_cons (ps_set (i := 5) sc.nd rfl (by first | exact Or.inl rfl | exact Or.inr rfl) (pe_lst pa_nil))
    (pss_cons (ps_if (pt_cmpR op_gt (pe_callB call_len_seq rfl B.len bt_len (pa_cons (pv 3) pa_nil)) pe_int (nomark _)) (pss_cons (ps_set (i := 6) sc.nd rfl (by first | exact Or.inl rfl | exact Or.inr rfl) (pe_cd D_law_take hr rfl (pa_cons (pv 0) (pa_cons (pe_callB call_len_seq rfl B.len bt_len (pa_cons (pv 3) pa_nil)) pa_nil))))
    (pss_one (ps_expr (pe_bm PySem.F.plainAttrs_list PySem.F.slot_list_append PySem.F.type_list_append mr_append (pv 5) (pa_cons (pe_tup (pa_cons pe_str (pa_cons (pe_ix ix_list (pv 3) (pv 6) (fun _ _ => rfl)) (pa_cons (pe_ix ix_list (pv 3) (pe_op op_sub (pe_op op_sub (pv 6) pe_int) (pe_cd D_law_take hr rfl (pa_cons (pv 0) (pa_cons (pe_op op_sub (pe_callB call_len_seq rfl B.len bt_len (pa_cons (pv 3) pa_nil)) pe_int) pa_nil)))) (fun _ _ => rfl)) pa_nil)))) pa_nil))))) pss_nil)
    (pss_cons (ps_if (PW.pt (pw_and (pt_cmpR op_isN (pv 2) pe_non (nomark _)) (pw_and1 (pt_cmpR (op_neI hr.units) (pv 3) (pe_lst pa_nil) (nomark _))))) (pss_one (ps_expr (pe_bm PySem.F.plainAttrs_list PySem.F.slot_list_append PySem.F.type_list_append mr_append (pv 5) (pa_cons (pe_tup (pa_cons pe_str (pa_cons (pe_ix ix_list (pv 3) (pe_cd D_law_take hr rfl (pa_cons (pv 0) (pa_cons (pe_callB call_len_seq rfl B.len bt_len (pa_cons (pv 3) pa_nil)) pa_nil))) (fun _ _ => rfl)) pa_nil))) pa_nil)))) pss_nil)
    (pss_cons (ps_if (PW.pt (pw_and (pt_cmpR (op_neI hr.units) (pv 3) (pe_lst pa_nil) (nomark _)) (pw_and1 (pt_cmpR (op_neI hr.units) (pv 4) (pe_lst pa_nil) (nomark _))))) (pss_one (ps_set (i := 5) sc.nd rfl (by first | exact Or.inl rfl | exact Or.inr rfl) (pe_op op_cat (pv 5) (pe_op op_rep (pe_lst (pa_cons (pe_tup (pa_cons pe_str (pa_cons (pe_ix ix_list (pv 3) (pe_cd D_law_take hr rfl (pa_cons (pv 0) (pa_cons (pe_callB call_len_seq rfl B.len bt_len (pa_cons (pv 3) pa_nil)) pa_nil))) (fun _ _ => rfl)) (pa_cons (pe_ix ix_list (pv 4) (pe_cd D_law_take hr rfl (pa_cons (pv 0) (pa_cons (pe_callB call_len_seq rfl B.len bt_len (pa_cons (pv 4) pa_nil)) pa_nil))) (fun _ _ => rfl)) pa_nil)))) pa_nil)) pe_int)))) pss_nil)
    (pss_cons (ps_if (PW.pt (pw_and (pt_cmpR op_notN (pv 2) pe_non (nomark _)) (pw_and1 (pt_cmpR (op_neI hr.units) (pv 4) (pe_lst pa_nil) (nomark _))))) (pss_one (ps_expr (pe_bm PySem.F.plainAttrs_list PySem.F.slot_list_append PySem.F.type_list_append mr_append (pv 5) (pa_cons (pe_tup (pa_cons pe_str (pa_cons (pe_ix ix_list (pv 4) (pe_cd D_law_take hr rfl (pa_cons (pv 0) (pa_cons (pe_callB call_len_seq rfl B.len bt_len (pa_cons (pv 4) pa_nil)) pa_nil))) (fun _ _ => rfl)) pa_nil))) pa_nil)))) pss_nil)
    (pss_one (ps_ret (pe_ifExp (pt_cmpR (op_neN hr.units) (pv 5) (pe_lst pa_nil) (nomark _)) (pe_ix ix_list (pv 5) (pe_cd D_law_take hr rfl (pa_cons (pv 0) (pa_cons (pe_callB call_len_seq rfl B.len bt_len (pa_cons (pv 5) pa_nil)) pa_nil))) (fun _ _ => rfl)) pe_non)))))))))), ?_⟩
  rw [show start ["_law_box_here", "_law_row", "_law_hand", "_law_there", "_law_free", "_law_some", "_law_one", "_law_k"] [V.ref bx, V.ref rw_, cE h] = [some (.ref bx), some (.ref rw_), some (cE h), none, none, none, none, none] from rfl]
  have thE : ∀ k, k < row.length → ∃ c, row[k]? = some c ∧ atI (row.map cE) (k : Int) = some (cE c) ∧ row.getD k none = c := fun k hk => ⟨row[k], List.getElem?_eq_getElem hk, (at_cellE (List.getElem?_eq_getElem hk)).2, by rw [List.getD_eq_getElem?_getD, List.getElem?_eq_getElem hk]; rfl⟩
  refine seq_cut fun r hr0 => ?_
  walk_at "rd"
  refine ⟨_, .inl (SqL.of hrw), by omega, by rw [List.length_map]; omega, fun D hD => ?_⟩
  rw [List.length_map, Int.toNat_natCast]
  refine cl_range (fun k τ G => ∃ u, τ = [some (.ref bx), some (.ref rw_), some (cE h), none, none, none, none, u] ∧ Kp [D] (upd H D (.lst [])) G ∧ G D = some (il (nI ((List.range k).filter fun k => (row.getD k none).isSome)))) ?_ ?_ ?_
  · exact ⟨none, rfl, Kp.refl, upd_same⟩
  · rintro k τ G hk ⟨u, rfl, kq, hq⟩
    obtain ⟨c, hc1, hc2, hc3⟩ := thE k hk
    rw [Int.zero_add]
    walk_at "rd"
    have lf := fil_le (fun k => (row.getD k none).isSome) k
    refine ⟨_, SqL.of ((Kp.drop1 hD kq) _ _ (by simp) hrw), _, hc2, ?_⟩
    rw [fil_succ, hc3]
    cases c with
    | none =>
      rw [if_neg (show ¬ ¬ cE none = V.non from not_not_intro rfl), if_neg (by decide), List.append_nil]
      exact ⟨kq, hq⟩
    | some v =>
      rw [if_pos (show ¬ cE (some v) = V.non from fun z => nomatch z), if_pos (show (some v).isSome = true from rfl)]
      refine ⟨_, hq, by rw [List.length_map, nI_len]; omega, kq.trans (Kp.set _ (by simp)), ?_⟩
      exact upd_same.trans (congrArg some (congrArg HO.lst (by unfold nI; rw [List.map_append, List.map_append]; rfl)))
  · rintro τ G ⟨u, rfl, kq, hq⟩
    have kD := Kp.drop1 hD kq
    have hth : G D = some (il (nI (thN row))) := hq
    have hrG := kD _ _ (by simp) hrw
    clear hq kq
    subst hr0
    refine seq_cut fun r hr0 => ?_
    walk_at "rd"
    refine ⟨_, .inl (SqL.of hrG), by omega, by rw [List.length_map]; omega, fun D2 hD2 => ?_⟩
    rw [List.length_map, Int.toNat_natCast]
    refine cl_range (fun k τ G2 => ∃ u, τ = [some (.ref bx), some (.ref rw_), some (cE h), some (.ref D), none, none, none, u] ∧ Kp [D2] (upd G D2 (.lst [])) G2 ∧ G2 D2 = some (il (nI ((List.range k).filter fun k => (row.getD k none).isNone)))) ?_ ?_ ?_
    · exact ⟨none, rfl, Kp.refl, upd_same⟩
    · rintro k τ G2 hk ⟨u, rfl, kq, hq⟩
      obtain ⟨c, hc1, hc2, hc3⟩ := thE k hk
      rw [Int.zero_add]
      walk_at "rd"
      have lf := fil_le (fun k => (row.getD k none).isNone) k
      refine ⟨_, SqL.of ((Kp.drop1 hD2 kq) _ _ (by simp) hrG), _, hc2, ?_⟩
      rw [fil_succ, hc3]
      cases c with
      | some v =>
        rw [if_neg (show ¬ cE (some v) = V.non from fun z => nomatch z), if_neg (show ¬ (some v).isNone = true from fun z => nomatch z), List.append_nil]
        exact ⟨kq, hq⟩
      | none =>
        rw [if_pos (show cE none = V.non from rfl), if_pos (show (none : Option Int).isNone = true from rfl)]
        refine ⟨_, hq, by rw [List.length_map, nI_len]; omega, kq.trans (Kp.set _ (by simp)), ?_⟩
        exact upd_same.trans (congrArg some (congrArg HO.lst (by unfold nI; rw [List.map_append, List.map_append]; rfl)))
    · rintro τ G2 ⟨u, rfl, kq, hq⟩
      have kD2 := Kp.drop1 hD2 kq
      have hfr : G2 D2 = some (il (nI (frN row))) := hq
      have hth2 := kD2 _ _ (by simp) hth
      have kH2 := kD.trans kD2
      have hb2 := hb.kp kH2
      clear hq kq
      have nDb : D ≠ bx := Ne.symm (hb.ne hD)
      have nD2b : D2 ≠ bx := Ne.symm ((hb.kp kD).ne hD2)
      subst hr0
      refine seq_cut fun r hr0 => ?_
      walk_at "rd"
      refine ⟨Nat.zero_le _, fun pS hpS => ?_⟩
      have kS := Kp.new (bs := []) (HO.lst []) hpS
      have I0 : DInv H bx rw_ row h N 0 D D2 [some (.ref bx), some (.ref rw_), some (cE h), some (.ref D), some (.ref D2), some (.ref pS), none, none] (upd G2 pS (.lst [])) := ⟨pS, [], none, none, rfl, (kH2.trans kS).mono (by simp), upd_same, kH2.free hpS, ⟨ne_of_none hth2 hpS, ne_of_none hfr hpS⟩, (fun q hq => nomatch hq), by simp, hb2.kp kS, kS _ _ (by simp) hth2, kS _ _ (by simp) hfr⟩
      subst hr0
      clear hrG hth hrw
      have hth0 := thN_len row
      have hfr0 := frN_len row
      generalize upd G2 pS (HO.lst []) = G3 at *
      generalize [some (V.ref bx), some (V.ref rw_), some (cE h), some (V.ref D), some (V.ref D2), some (V.ref pS), none, none] = σ0 at *
      refine seq_cut fun r hr0 => ?_
      have ndb : ∀ c, H c = none → c ∉ [bx] := fun c hc => by simpa using Ne.symm (hb.ne hc)
      have hD2n : H D2 = none := kD.free hD2
      suffices key : ∀ σ G, DInv H bx rw_ row h N 1 D D2 σ G → r { nx := fun x H' => Q V.non H', rt := Q } σ G by
        have I0' := I0
        obtain ⟨ps, qs, u6, u7, rfl, k1, hps, nps, ne, hqs, lqs, b1, ht1, hf1⟩ := I0
        walk_at "rd"
        refine ⟨_, .inl (SqL.of ht1), ?_⟩
        rw [List.length_map, nI_len]
        refine ite2 (fun z => ?_) (fun z => ?_)
        · refine ⟨_, .inl (SqL.of ht1), ?_⟩
          rw [List.length_map, nI_len]
          refine ⟨bx, _, _, rfl, b1, by omega, by omega, by omega, fun r1 A1 a1 c1 l1 v1 => ?_⟩
          have hpsA := a1 _ _ (ndb _ nps) hps
          have htA := a1 _ _ (ndb _ hD) ht1
          obtain ⟨p1, hp1, e1, g1⟩ := nI_at (xs := thN row) l1 v1
          refine ⟨.inl ⟨rfl, _, SqL.of hpsA⟩, _, r1, rfl, SqL.of htA, _, g1, r1, rfl, _, .inl (SqL.of htA), ?_⟩
          rw [List.length_map, nI_len]
          refine ⟨bx, _, _, rfl, c1, by omega, by omega, by omega, fun r2 A2 a2 c2 l2 v2 => ?_⟩
          have htA2 := a2 _ _ (ndb _ hD) htA
          obtain ⟨j, hj, p2, hp2, e2, g2⟩ := nI_other (xs := thN row) l1 v1 l2 (by omega)
          obtain ⟨w1, hw1⟩ := thN_at hp1
          obtain ⟨w2, hw2⟩ := thN_at hp2
          have hne : p1 ≠ p2 := fun z => by
            subst z
            have hj1 := (List.getElem?_eq_some_iff.mp e1)
            have hj2 := (List.getElem?_eq_some_iff.mp e2)
            obtain ⟨x1, y1⟩ := hj1
            obtain ⟨x2, y2⟩ := hj2
            exact hj ((List.getElem_inj (thN_nodup row)).mp (y2.trans y1.symm))
          refine ⟨_, rfl, _, SqL.of htA2, _, g2, by show 3 ≤ sizeLine; omega, fun p hp => ?_⟩
          obtain ⟨f1, f2⟩ := dinv_add (rw_ := rw_) (u6 := some (V.int r1)) (u7 := u7) (d := .swap p1 p2) hb hD hD2n k1 hps nps ne hqs lqs ht1 hf1 (a1.trans a2) c2 hp (DoE.swap hne hw1 hw2)
          refine ⟨_, (Kp.new (bs := []) _ hp) _ _ (by simp) f1, by rw [tfs_lenE, List.length_map]; omega, key _ _ f2⟩
        · exact key _ _ I0'.up
      intro σ1 G4 I1
      subst hr0
      refine seq_cut fun r hr0 => ?_
      suffices key : ∀ σ G, DInv H bx rw_ row h N 2 D D2 σ G → r { nx := fun x H' => Q V.non H', rt := Q } σ G by
        have I1' := I1
        obtain ⟨ps, qs, u6, u7, rfl, k1, hps, nps, ne, hqs, lqs, b1, ht1, hf1⟩ := I1
        walk_at "rd"
        cases h with
        | some v => rw [if_neg (show ¬ cE (some v) = V.non from fun z => nomatch z)]; exact key _ _ I1'.up
        | none =>
          rw [if_pos (show cE none = V.non from rfl)]
          refine ⟨Nat.zero_le _, fun p0 hp0 => ?_⟩
          have k0 := Kp.new (bs := []) (HO.lst []) hp0
          have ht0 := k0 _ _ (by simp) ht1
          refine ⟨_, SqL.of ht0, [], SqL.of upd_same, ?_⟩
          by_cases z : nI (thN row) = []
          · rw [if_neg (not_not_intro z)]
            exact key _ _ (I1'.kp k0).up
          · rw [if_pos z]
            have hl0 : 0 < (thN row).length := by
              rw [← nI_len]
              exact List.length_pos_iff.mpr z
            have hps0 := k0 _ _ (by simp) hps
            have b0 := b1.kp k0
            generalize upd G4 p0 (HO.lst []) = G40 at *
            refine ⟨.inl ⟨rfl, _, SqL.of hps0⟩, _, .inl (SqL.of ht0), ?_⟩
            rw [List.length_map, nI_len]
            refine ⟨bx, _, _, rfl, b0, by omega, by omega, by omega, fun r1 A1 a1 c1 l1 v1 => ?_⟩
            have htA := a1 _ _ (ndb _ hD) ht0
            obtain ⟨p1, hp1, e1, g1⟩ := nI_at (xs := thN row) l1 v1
            obtain ⟨w1, hw1⟩ := thN_at hp1
            refine ⟨_, _, rfl, SqL.of htA, _, g1, by show 2 ≤ sizeLine; omega, fun p hp => ?_⟩
            obtain ⟨f1, f2⟩ := dinv_add (rw_ := rw_) (u6 := u6) (u7 := u7) (d := .take p1) hb hD hD2n k1 hps nps ne hqs lqs ht1 hf1 ((k0.mono (by simp)).trans a1) (c1.mono (by omega)) hp (DoE.take hw1)
            refine ⟨_, (Kp.new (bs := []) _ hp) _ _ (by simp) f1, by rw [tfs_lenE, List.length_map]; omega, key _ _ f2⟩
      intro σ2 G5 I2
      subst hr0
      refine seq_cut fun r hr0 => ?_
      suffices key : ∀ σ G, DInv H bx rw_ row h N 3 D D2 σ G → r { nx := fun x H' => Q V.non H', rt := Q } σ G by
        have I2' := I2
        obtain ⟨ps, qs, u6, u7, rfl, k1, hps, nps, ne, hqs, lqs, b1, ht1, hf1⟩ := I2
        walk_at "rd"
        refine ⟨Nat.zero_le _, fun p0 hp0 => ?_⟩
        have k0 := Kp.new (bs := []) (HO.lst []) hp0
        have ht0 := k0 _ _ (by simp) ht1
        refine ⟨_, SqL.of ht0, [], SqL.of upd_same, ?_⟩
        by_cases z : nI (thN row) = []
        · rw [if_neg (not_not_intro z)]
          exact key _ _ (I2'.kp k0).up
        · rw [if_pos z]
          have hl0 : 0 < (thN row).length := by
            rw [← nI_len]
            exact List.length_pos_iff.mpr z
          have hf0 := k0 _ _ (by simp) hf1
          generalize upd G5 p0 (HO.lst []) = G50 at *
          refine ⟨Nat.zero_le _, fun p9 hp9 => ?_⟩
          have k9 := Kp.new (bs := []) (HO.lst []) hp9
          have hf9 := k9 _ _ (by simp) hf0
          refine ⟨_, SqL.of hf9, [], SqL.of upd_same, ?_⟩
          by_cases zf : nI (frN row) = []
          · rw [if_neg (not_not_intro zf)]
            exact key _ _ (I2'.kp (k0.trans k9)).up
          · rw [if_pos zf]
            have hlf : 0 < (frN row).length := by
              rw [← nI_len]
              exact List.length_pos_iff.mpr zf
            have k09 := k0.trans k9
            have ht9 := k9 _ _ (by simp) ht0
            have hps9 := k09 _ _ (by simp) hps
            have b9 := b1.kp k09
            generalize upd G50 p9 (HO.lst []) = G59 at *
            refine ⟨_, .inl (SqL.of ht9), ?_⟩
            rw [List.length_map, nI_len]
            refine ⟨bx, _, _, rfl, b9, by omega, by omega, by omega, fun r1 A1 a1 c1 l1 v1 => ?_⟩
            have htA := a1 _ _ (ndb _ hD) ht9
            have hfA := a1 _ _ (ndb _ hD2n) hf9
            obtain ⟨p1, hp1, e1, g1⟩ := nI_at (xs := thN row) l1 v1
            obtain ⟨w1, hw1⟩ := thN_at hp1
            refine ⟨_, _, rfl, SqL.of htA, _, g1, _, .inl (SqL.of hfA), ?_⟩
            rw [List.length_map, nI_len]
            refine ⟨bx, _, _, rfl, c1, by omega, by omega, by omega, fun r2 A2 a2 c2 l2 v2 => ?_⟩
            have hfA2 := a2 _ _ (ndb _ hD2n) hfA
            obtain ⟨p2, hp2, e2, g2⟩ := nI_at (xs := frN row) l2 v2
            have hw2 := frN_at hp2
            refine ⟨_, _, rfl, SqL.of hfA2, _, g2, ?_⟩
            refine ⟨by show 3 ≤ sizeLine; omega, fun p hp => ⟨by show 1 ≤ sizeLine; omega, fun pl hpl => ?_⟩⟩
            have n1 := Kp.new (bs := []) (HO.tup [V.str (Str.ofString "move"), V.int (p1 : Int), V.int (p2 : Int)]) hp
            have n2 := Kp.new (bs := []) (HO.lst [V.ref p]) hpl
            have hpA := n2 _ _ (by simp) (upd_same (H := A2) (a := p) (o := HO.tup [V.str (Str.ofString "move"), V.int (p1 : Int), V.int (p2 : Int)]))
            have hplA := upd_same (H := upd A2 p (HO.tup [V.str (Str.ofString "move"), V.int (p1 : Int), V.int (p2 : Int)])) (a := pl) (o := HO.lst [V.ref p])
            have n12 := n1.trans n2
            generalize upd (upd A2 p (HO.tup [V.str (Str.ofString "move"), V.int (p1 : Int), V.int (p2 : Int)])) pl (HO.lst [V.ref p]) = A3 at *
            refine ⟨_, hplA, by decide, by decide, by show 1 * 2 ≤ sizeLine; omega, fun pm hpm => ?_⟩
            have n3 := Kp.new (bs := []) (HO.lst (List.replicate (Int.toNat 2) [V.ref p]).flatten) hpm
            have hmA := upd_same (H := A3) (a := pm) (o := HO.lst (List.replicate (Int.toNat 2) [V.ref p]).flatten)
            have hpA4 := n3 _ _ (by simp) hpA
            have n13 := n12.trans n3
            generalize upd A3 pm (HO.lst (List.replicate (Int.toNat 2) [V.ref p]).flatten) = A4 at *
            have kA : Kp [bx] G5 A4 := (((k09.mono (by simp)).trans a1).trans a2).trans (n13.mono (by simp))
            have hpsA := kA _ _ (ndb _ nps) hps
            refine ⟨_, hpsA, _, hmA, by rw [tfs_lenE, List.length_map]; show qs.length + 2 ≤ sizeLine; omega, fun pn hpn => ?_⟩
            have n4 := Kp.new (bs := []) (HO.lst (tfs (deP qs) ++ (List.replicate (Int.toNat 2) [V.ref p]).flatten)) hpn
            have kA4 : Kp [bx] H A4 := k1.trans kA
            have hp0H : H p = none := by
              cases e : H p with
              | none => rfl
              | some o =>
                by_cases c : p ∈ [bx]
                · have : p = bx := by simpa using c
                  subst this
                  obtain ⟨_, _, _, e2, _⟩ := c2
                  rw [hp] at e2; cases e2
                · have := (((k1.trans (k09.mono (by simp))).trans a1).trans a2) _ _ c e
                  rw [hp] at this; cases this
            have hpnH : H pn = none := by
              cases e : H pn with
              | none => rfl
              | some o =>
                by_cases c : pn ∈ [bx]
                · have : pn = bx := by simpa using c
                  subst this
                  obtain ⟨_, _, _, e2, _⟩ := c2.kp n13
                  rw [hpn] at e2; cases e2
                · have := kA4 _ _ c e
                  rw [hpn] at this; cases this
            refine key _ _ ⟨pn, qs ++ [(p, .move p1 p2), (p, .move p1 p2)], u6, u7, rfl, kA4.trans (n4.mono (by simp)), upd_same.trans (by unfold deP tfs; rw [List.map_append, List.map_append]; rfl), hpnH, ⟨ne_of_none (kA _ _ (ndb _ hD) ht1) hpn, ne_of_none (kA _ _ (ndb _ hD2n) hf1) hpn⟩, fun qq hqq => ?_, by rw [List.length_append]; show qs.length + 2 ≤ _; omega, ((c2.kp n13).kp n4).mono (by omega), n4 _ _ (by simp) (kA _ _ (ndb _ hD) ht1), n4 _ _ (by simp) (kA _ _ (ndb _ hD2n) hf1)⟩
            rcases List.mem_append.mp hqq with y | y
            · exact ⟨(hqs qq y).1, n4 _ _ (by simp) (kA _ _ (ndb _ (hqs qq y).1) (hqs qq y).2.1), (hqs qq y).2.2⟩
            · have : qq = (p, .move p1 p2) := by
                rcases List.mem_cons.mp y with y | y
                · exact y
                · exact List.mem_singleton.mp y
              subst this
              exact ⟨hp0H, n4 _ _ (by simp) hpA4, _, DoE.move hw1 hw2⟩
      intro σ3 G6 I3
      subst hr0
      refine seq_cut fun r hr0 => ?_
      suffices key : ∀ σ G, DInv H bx rw_ row h N 4 D D2 σ G → r { nx := fun x H' => Q V.non H', rt := Q } σ G by
        have I3' := I3
        obtain ⟨ps, qs, u6, u7, rfl, k1, hps, nps, ne, hqs, lqs, b1, ht1, hf1⟩ := I3
        walk_at "rd"
        cases h with
        | none => rw [if_neg (show ¬ ¬ cE none = V.non from not_not_intro rfl)]; exact key _ _ I3'.up
        | some v =>
          rw [if_pos (show ¬ cE (some v) = V.non from fun z => nomatch z)]
          refine ⟨Nat.zero_le _, fun p0 hp0 => ?_⟩
          have k0 := Kp.new (bs := []) (HO.lst []) hp0
          have ht0 := k0 _ _ (by simp) hf1
          refine ⟨_, SqL.of ht0, [], SqL.of upd_same, ?_⟩
          by_cases z : nI (frN row) = []
          · rw [if_neg (not_not_intro z)]
            exact key _ _ (I3'.kp k0).up
          · rw [if_pos z]
            have hl0 : 0 < (frN row).length := by
              rw [← nI_len]
              exact List.length_pos_iff.mpr z
            have hps0 := k0 _ _ (by simp) hps
            have b0 := b1.kp k0
            generalize upd G6 p0 (HO.lst []) = G60 at *
            refine ⟨.inl ⟨rfl, _, SqL.of hps0⟩, _, .inl (SqL.of ht0), ?_⟩
            rw [List.length_map, nI_len]
            refine ⟨bx, _, _, rfl, b0, by omega, by omega, by omega, fun r1 A1 a1 c1 l1 v1 => ?_⟩
            have htA := a1 _ _ (ndb _ hD2n) ht0
            obtain ⟨p1, hp1, e1, g1⟩ := nI_at (xs := frN row) l1 v1
            have hw1 := frN_at hp1
            refine ⟨_, _, rfl, SqL.of htA, _, g1, by show 2 ≤ sizeLine; omega, fun p hp => ?_⟩
            obtain ⟨f1, f2⟩ := dinv_add (rw_ := rw_) (u6 := u6) (u7 := u7) (d := .lay p1) hb hD hD2n k1 hps nps ne hqs lqs ht1 hf1 ((k0.mono (by simp)).trans a1) (c1.mono (by omega)) hp (DoE.lay hw1)
            refine ⟨_, (Kp.new (bs := []) _ hp) _ _ (by simp) f1, by rw [tfs_lenE, List.length_map]; omega, key _ _ f2⟩
      intro σ4 G7 I4
      obtain ⟨ps, qs, u6, u7, rfl, k1, hps, nps, ne, hqs, lqs, b1, ht1, hf1⟩ := I4
      subst hr0
      walk_at "rd"
      refine ⟨Nat.zero_le _, fun p0 hp0 => ?_⟩
      have k0 := Kp.new (bs := []) (HO.lst []) hp0
      have hps0 := k0 _ _ (by simp) hps
      have b0 := b1.kp k0
      refine ⟨_, SqL.of hps0, SqL.of upd_same, ?_⟩
      generalize upd G7 p0 (HO.lst []) = G70 at *
      cases qs with
      | nil =>
        rw [if_neg (show ¬ (tfs (deP [])).isEmpty = false from fun z => nomatch z)]
        exact (q _ (k1.trans (k0.mono (by simp))) (b0.mono (by omega))).1
      | cons qq qr =>
        rw [if_pos (show (tfs (deP (qq :: qr))).isEmpty = false from rfl)]
        have hlen : (tfs (deP (qq :: qr))).length = qr.length + 1 := by rw [tfs_lenE, List.length_map]; rfl
        have lqs' : qr.length + 1 ≤ 8 := lqs
        refine ⟨_, .inl (SqL.of hps0), ?_⟩
        rw [hlen]
        refine ⟨bx, _, _, rfl, b0, by omega, by omega, by omega, fun r1 A1 a1 c1 l1 v1 => ?_⟩
        have hpsA := a1 _ _ (ndb _ nps) hps0
        have hr1 : r1.toNat < (qq :: qr).length := by show r1.toNat < qr.length + 1; omega
        have g : atI (tfs (deP (qq :: qr))) (r1.toNat : Int) = some (.ref ((qq :: qr)[r1.toNat]).1) := by
          refine atI_nat ?_
          unfold tfs deP
          rw [List.getElem?_map, List.getElem?_map, List.getElem?_eq_getElem hr1]; rfl
        rw [show (r1.toNat : Int) = r1 by omega] at g
        obtain ⟨z1, z2, t, z3⟩ := hqs _ (List.getElem_mem hr1)
        refine ⟨_, _, rfl, SqL.of hpsA, _, g, ?_⟩
        exact (q _ ((k1.trans (k0.mono (by simp))).trans a1) (c1.mono (by omega))).2 _ _ t z1 (a1 _ _ (ndb _ z1) (k0 _ _ (by simp) z2)) z3
abbrev s_plan : Stmt := top 23
theorem sc_plan : FnScope ["_law_box_here", "_law_n", "_law_many", "_law_turn", "_law_row", "_law_hand", "_law_plan_here", "_law_deed_here"] ["_law_box_here", "_law_n", "_law_many"] (defScope s_plan) := ⟨rfl, rfl, rfl, by decide +kernel, rfl, by decide +kernel, by decide +kernel⟩
def spPlan : Sp := fun vs H Q _ => ∃ (bx : Addr) (n N : Nat) (m : Int), vs = [.ref bx, .int n, .int m] ∧ n ≤ 1000 ∧ 0 ≤ m ∧ m ≤ 100 ∧ Bx H bx N ∧ N < 1000000 ∧
  ∀ p pq pr H' (qs : List (Addr × De)) (st : ES), Kp [bx] H H' → Bx H' bx (N + 10 * m.toNat) → H p = none → H' p = some (.tup [.ref pq, .ref pr, cE st.2]) → H' pq = some (.lst (tfs (deP qs))) → H' pr = some (.lst (st.1.map cE)) → H pq = none → H pr = none → pq ≠ pr →
    (∀ q ∈ qs, H q.1 = none ∧ H' q.1 = some (.tup (deV q.2))) → qs.length ≤ m.toNat → DosE (qs.map (·.2)) ((rngL 0 1 n).map some, none) st → Q (.ref p) H'
theorem df_plan (a : At K mg "_law_plan" s_plan) (B : Blt mg) (D_law_deed : Df P w K mg base "_law_deed" ["_law_box_here", "_law_row", "_law_hand"] 2 spDeed) (D_law_done : Df P w K mg base "_law_done" ["_law_row", "_law_hand", "_law_deed_here"] 2 spDone) : Df P w K mg base "_law_plan" ["_law_box_here", "_law_n", "_law_many"] 3 spPlan := by
  refine df_of (k := 2) a sc_plan (fun _ _ _ _ _ _ us hl => match us, hl with | [_, _, _], _ => rfl) (fun vs H Q E h => ?_) (fun f cdv A outer s H vs Q E hr h => ?_)
  · obtain ⟨bx, n, N, m, rfl, _⟩ := h; rfl
  obtain ⟨bx, n, N, m, rfl, hn, hm0, hm1, hb, hN, q⟩ := h
  have sc := sc_plan
  have hsl := hsl
  refine ⟨_, (pss_cons (ps_par3 (i := 4) (j := 5) (k := 6) rfl sc.nd rfl rfl rfl (by decide) (by decide) (by decide) rfl rfl rfl (pa_cons (pe_callTy (call_list_rng rfl) rfl B.list bt_list (pa_cons (pe_callTy call_range1 rfl B.range bt_range (pa_cons (pv 1) pa_nil)) pa_nil)) (pa_cons pe_non (pa_cons (pe_lst pa_nil) pa_nil))) rfl)
    (pss_cons (ps_for PassesOwn.never rfl (pi_range1 rfl B.range (pa_cons (pv 2) pa_nil)) (pg_name (i := 3) sc.nd rfl (by first | exact Or.inl rfl | exact Or.inr rfl)) (pss_cons (ps_set (i := 7) sc.nd rfl (by first | exact Or.inl rfl | exact Or.inr rfl) (pe_cd D_law_deed hr rfl (pa_cons (pv 0) (pa_cons (pv 4) (pa_cons (pv 5) pa_nil)))))
    (pss_one (ps_if (pt_cmpR op_notN (pv 7) pe_non (nomark _)) (pss_cons (ps_expr (pe_bm PySem.F.plainAttrs_list PySem.F.slot_list_append PySem.F.type_list_append mr_append (pv 6) (pa_cons (pv 7) pa_nil)))
    (pss_one (ps_asg (pe_cd D_law_done hr rfl (pa_cons (pv 4) (pa_cons (pv 5) (pa_cons (pv 7) pa_nil)))) (pg_tupK (K := K) 2 rfl rfl (pgs_cons (pg_name (i := 4) sc.nd rfl (by first | exact Or.inl rfl | exact Or.inr rfl)) (pgs_cons (pg_name (i := 5) sc.nd rfl (by first | exact Or.inl rfl | exact Or.inr rfl)) pgs_nil)))))) pss_nil))))
    (pss_one (ps_ret (pe_tup (pa_cons (pv 6) (pa_cons (pv 4) (pa_cons (pv 5) pa_nil)))))))), ?_⟩
  rw [show start ["_law_box_here", "_law_n", "_law_many", "_law_turn", "_law_row", "_law_hand", "_law_plan_here", "_law_deed_here"] [V.ref bx, V.int n, V.int m] = [some (.ref bx), some (.int n), some (.int m), none, none, none, none, none] from rfl]
  walk_at "rd"
  refine fun g1 hg1 => ⟨_, _, _, upd_same, small_one (by omega) (by omega) (by omega) (by omega), n, by rw [rangeSize_one]; split <;> omega, by omega, fun pr0 hpr0 => ⟨Nat.zero_le _, fun pq hpq => ⟨by omega, by omega, ?_⟩⟩⟩
  have kA := (Kp.new (bs := []) (RngO g1 0 (n : Int) 1) hg1).trans (Kp.new (HO.lst (List.map V.int (rngL 0 1 n))) hpr0)
  have hprA := upd_same (H := upd H g1 (RngO g1 0 (n : Int) 1)) (a := pr0) (o := HO.lst (List.map V.int (rngL 0 1 n)))
  have npr0 : H pr0 = none := (Kp.new (bs := []) (RngO g1 0 (n : Int) 1) hg1).free hpr0
  generalize upd (upd H g1 (RngO g1 0 (n : Int) 1)) pr0 (HO.lst (List.map V.int (rngL 0 1 n))) = H1 at *
  have kB := Kp.new (bs := []) (HO.lst []) hpq
  have hpqB := upd_same (H := H1) (a := pq) (o := HO.lst [])
  have npq : H pq = none := kA.free hpq
  have hprB := kB _ _ (by simp) hprA
  have neq : pq ≠ pr0 := Ne.symm (ne_of_none hprA hpq)
  have kAB := kA.trans kB
  generalize upd H1 pq (HO.lst []) = H2 at *
  have ndb : ∀ c, H c = none → c ∉ [bx] := fun c hc => by simpa using Ne.symm (hb.ne hc)
  refine lp_range (fun i τ G => ∃ (u3 u7 : Option V) (pr : Addr) (st : ES) (qs : List (Addr × De)), τ = [some (.ref bx), some (.int n), some (.int m), u3, some (.ref pr), some (cE st.2), some (.ref pq), u7] ∧ Kp [bx] H G ∧ H pr = none ∧ G pr = some (.lst (st.1.map cE)) ∧ G pq = some (.lst (tfs (deP qs))) ∧ (∀ q ∈ qs, H q.1 = none ∧ G q.1 = some (.tup (deV q.2))) ∧ pq ≠ pr ∧ Bx G bx (N + 10 * i) ∧ qs.length ≤ i ∧ DosE (qs.map (·.2)) ((rngL 0 1 n).map some, none) st) ?_ ?_ ?_
  · exact ⟨none, none, pr0, ((rngL 0 1 n).map some, none), [], rfl, kAB.mono (by simp), npr0, hprB.trans (by rw [List.map_map]; rfl), hpqB, fun q hq => (nomatch hq), neq, hb.kp kAB, Nat.zero_le _, .nil⟩
  · rintro i τ G hi ⟨u3, u7, pr, st, qs, rfl, kg, npr, hpr, hq, hqs, ne, bg, lqs, hdo⟩
    have hst := hdo.len
    rw [List.length_map, rngL_length] at hst
    have hi' : i < 100 := by omega
    walk_at "rd"
    refine ⟨bx, pr, st.1, st.2, _, rfl, bg, by omega, hpr, by omega, fun G1 k1 b1 => ⟨?_, fun p d t hp hpd hde => ?_⟩⟩
    · show (fun x H1 => _) _ _
      dsimp only
      rw [if_neg (not_not_intro rfl)]
      exact ⟨_, st, rfl, rfl, kg.trans k1, npr, k1 _ _ (ndb _ npr) hpr, qs, k1 _ _ (ndb _ npq) hq, fun y hy => ⟨(hqs y hy).1, k1 _ _ (ndb _ (hqs y hy).1) (hqs y hy).2⟩, ne, b1.mono (by omega), by omega, hdo⟩
    · show (fun x H1 => _) _ _
      dsimp only
      rw [if_pos (fun z => nomatch z)]
      have hq1 := k1 _ _ (ndb _ npq) hq
      have hpr1 := k1 _ _ (ndb _ npr) hpr
      have np : p ≠ pq := fun z => by rw [z, hq1] at hpd; cases hpd
      have npH : H p = none := kb_free kg bg hp
      refine ⟨.inl ⟨rfl, _, SqL.of hq1⟩, _, hq1, by rw [tfs_lenE, List.length_map]; omega, ?_⟩
      have kW : Kp [bx, pq] H (upd G1 pq (HO.lst (tfs (deP qs) ++ [V.ref p]))) := ((kg.trans k1).mono (by simp)).trans (Kp.set _ (by simp))
      have keep : ∀ c o, c ≠ pq → G1 c = some o → upd G1 pq (HO.lst (tfs (deP qs) ++ [V.ref p])) c = some o := fun c o hc hh => (upd_ne hc).trans hh
      have kWb : Kp [bx] H (upd G1 pq (HO.lst (tfs (deP qs) ++ [V.ref p]))) := fun c o hc hh => keep _ _ (fun z => by rw [z, npq] at hh; cases hh) ((kg.trans k1) c o hc hh)
      have hqW := upd_same (H := G1) (a := pq) (o := HO.lst (tfs (deP qs) ++ [V.ref p]))
      have hprW := keep _ _ (Ne.symm ne) hpr1
      have hpW := keep _ _ np hpd
      have hqsW : ∀ y ∈ qs, H y.1 = none ∧ upd G1 pq (HO.lst (tfs (deP qs) ++ [V.ref p])) y.1 = some (.tup (deV y.2)) := fun y hy => by
        have h1 := k1 _ _ (ndb _ (hqs y hy).1) (hqs y hy).2
        exact ⟨(hqs y hy).1, keep _ _ (fun z => by rw [z, hq1] at h1; cases h1) h1⟩
      have bW : Bx (upd G1 pq (HO.lst (tfs (deP qs) ++ [V.ref p]))) bx (N + 10 * i + 10) := b1.kps (Kp.set (bs := [pq]) _ (by simp)) (fun z => by have := ndb _ npq; rw [z] at this; simp at this)
      generalize upd G1 pq (HO.lst (tfs (deP qs) ++ [V.ref p])) = W at *
      refine ⟨pr, p, d, st, t, rfl, hprW, hpW, hde, by omega, fun tt pp W' kw ntt npp htt hpp => ?_⟩
      refine ⟨tt, rfl, _, SqT.of htt, rfl, _, _, rfl, _, _, rfl, rfl, _, pp, rfl, t, rfl, rfl, kWb.trans (kw.mono (by simp)), kb_free kWb bW npp, hpp, qs ++ [(p, d)], (kw _ _ (by simp) hqW).trans (by unfold deP tfs; rw [List.map_append, List.map_append]; rfl), fun y hy => ?_, Ne.symm (fun z => by rw [z, hqW] at npp; cases npp), (bW.kp kw).mono (by omega), by rw [List.length_append]; show qs.length + 1 ≤ _; omega, by rw [List.map_append]; exact hdo.append (.one hde)⟩
      rcases List.mem_append.mp hy with z | z
      · exact ⟨(hqsW y z).1, kw _ _ (by simp) (hqsW y z).2⟩
      · rw [List.mem_singleton.mp z]
        exact ⟨npH, kw _ _ (by simp) hpW⟩
  · rintro τ G ⟨u3, u7, pr, st, qs, rfl, kg, npr, hpr, hq, hqs, ne, bg, lqs, hdo⟩
    walk_at "rd"
    refine ⟨by show 3 ≤ sizeLine; omega, fun p hp => ?_⟩
    have kn := Kp.new (bs := []) (HO.tup [V.ref pq, V.ref pr, cE st.2]) hp
    have npH : H p = none := kb_free kg bg hp
    exact q p pq pr _ qs st (kg.trans (kn.mono (by simp))) (bg.kp kn) npH upd_same (kn _ _ (by simp) hq) (kn _ _ (by simp) hpr) npq npr ne (fun y hy => ⟨(hqs y hy).1, kn _ _ (by simp) (hqs y hy).2⟩) lqs hdo
/-! ### a Room -/
def bump (ms : List Int) (x : Int) : List Int := ms.set x.toNat (ms.getD x.toNat 0 + 1)
def bumpO (ms : List Int) : Option Int → List Int
  | none => ms
  | some x => bump ms x
def things : De → ES → List (Option Int)
  | .swap a b, s => [s.1.getD a none, s.1.getD b none]
  | .take p, s => [s.1.getD p none]
  | .move p g, s => [s.1.getD p none, s.1.getD g none]
  | .lay _, s => [s.2]
def counted (d : De) (s : ES) (ms : List Int) : List Int := (things d s).foldl bumpO ms
theorem bump_len (ms : List Int) (x : Int) : (bump ms x).length = ms.length := by unfold bump; rw [List.length_set]
theorem bumpO_len (ms : List Int) (c : Option Int) : (bumpO ms c).length = ms.length := by cases c; rfl; exact bump_len _ _
theorem foldl_len (cs : List (Option Int)) (ms : List Int) : (cs.foldl bumpO ms).length = ms.length := by
  induction cs generalizing ms with
  | nil => rfl
  | cons c cs ih => exact (ih _).trans (bumpO_len _ _)
theorem counted_len (d : De) (s : ES) (ms : List Int) : (counted d s ms).length = ms.length := foldl_len _ _
def OkM (s : ES) (n : Nat) : Prop := (∀ x, some x ∈ s.1 → 0 ≤ x ∧ x < (n : Int)) ∧ ∀ x, s.2 = some x → 0 ≤ x ∧ x < (n : Int)
theorem DoE.okm {d : De} {s t : ES} {n : Nat} (h : DoE d s t) (o : OkM s n) : OkM t n := by
  obtain ⟨o1, o2⟩ := o
  have ms : ∀ {row : List (Option Int)} {i : Nat} {v : Option Int}, (∀ x, some x ∈ row → 0 ≤ x ∧ x < (n : Int)) → (∀ x, v = some x → 0 ≤ x ∧ x < (n : Int)) → ∀ x, some x ∈ row.set i v → 0 ≤ x ∧ x < (n : Int) := fun h1 h2 x hx => by
    rcases List.mem_or_eq_of_mem_set hx with z | z
    · exact h1 x z
    · exact h2 x z.symm
  have nn : ∀ x : Int, (none : Option Int) = some x → 0 ≤ x ∧ x < (n : Int) := fun x z => nomatch z
  have so : ∀ {x : Int}, 0 ≤ x ∧ x < (n : Int) → ∀ z, some x = some z → 0 ≤ z ∧ z < (n : Int) := fun hx z e => by injection e with e; exact e ▸ hx
  cases h with
  | swap ne h1 h2 => exact ⟨ms (ms o1 (so (o1 _ (List.mem_of_getElem? h2)))) (so (o1 _ (List.mem_of_getElem? h1))), o2⟩
  | take h1 => exact ⟨ms o1 nn, so (o1 _ (List.mem_of_getElem? h1))⟩
  | move h1 h2 => exact ⟨ms (ms o1 nn) (so (o1 _ (List.mem_of_getElem? h1))), o2⟩
  | lay h1 => exact ⟨ms o1 (so (o2 _ rfl)), nn⟩
abbrev rfl3 (rw_ mv : Addr) (h : Option Int) : List (Str × V) := [("row", .ref rw_), ("hand", cE h), ("moved", .ref mv)]
structure RoomAt (C : Addr) (H : Hp) (p rw_ mv : Addr) (s : ES) (ms : List Int) : Prop where
  ex : ∃ dx, H p = some (.ins C dx (rfl3 rw_ mv s.2))
  row : H rw_ = some (.lst (s.1.map cE))
  mvd : H mv = some (il ms)
  ne : rw_ ≠ mv
theorem RoomAt.kp {C : Addr} {H H' : Hp} {p rw_ mv : Addr} {s : ES} {ms : List Int} {bs : List Addr} (r : RoomAt C H p rw_ mv s ms) (k : Kp bs H H') (hp : p ∉ bs) (hr : rw_ ∉ bs) (hm : mv ∉ bs) : RoomAt C H' p rw_ mv s ms :=
  let ⟨dx, e⟩ := r.ex
  ⟨⟨dx, k _ _ hp e⟩, k _ _ hr r.row, k _ _ hm r.mvd, r.ne⟩
theorem RoomAt.npr {C : Addr} {H : Hp} {p rw_ mv : Addr} {s : ES} {ms : List Int} (r : RoomAt C H p rw_ mv s ms) : p ≠ rw_ ∧ p ≠ mv := by
  obtain ⟨dx, e⟩ := r.ex
  constructor
  · intro z; rw [z, r.row] at e; cases e
  · intro z; rw [z, r.mvd] at e; cases e
theorem lk1 {k k' : Str} {v : V} {r : List (Str × V)} (h : (k == k') = true) : ((k', v) :: r).lookup k = some v := by rw [List.lookup_cons, h]
theorem lk0 {k k' : Str} {v : V} {r : List (Str × V)} (h : (k == k') = false) : ((k', v) :: r).lookup k = r.lookup k := by rw [List.lookup_cons, h]
theorem fl_row (rw_ mv : Addr) (h : Option Int) : (rfl3 rw_ mv h).lookup ("row" : Str) = some (.ref rw_) := lk1 (by decide +kernel)
theorem fl_hand (rw_ mv : Addr) (h : Option Int) : (rfl3 rw_ mv h).lookup ("hand" : Str) = some (cE h) := (lk0 (by decide +kernel)).trans (lk1 (by decide +kernel))
theorem fl_moved (rw_ mv : Addr) (h : Option Int) : (rfl3 rw_ mv h).lookup ("moved" : Str) = some (.ref mv) := (lk0 (by decide +kernel)).trans ((lk0 (by decide +kernel)).trans (lk1 (by decide +kernel)))
theorem fl_put (rw_ mv : Addr) (h g : Option Int) : putF "hand" (cE g) (rfl3 rw_ mv h) = rfl3 rw_ mv g := by
  rw [rfl3, putF, if_neg (by decide +kernel), putF, if_pos rfl]
theorem fl_no (rw_ mv : Addr) (h : Option Int) {m : Str} (h1 : (m == ("row" : Str)) = false) (h2 : (m == ("hand" : Str)) = false) (h3 : (m == ("moved" : Str)) = false) : (rfl3 rw_ mv h).lookup m = none :=
  (lk0 h1).trans ((lk0 h2).trans ((lk0 h3).trans rfl))
theorem RoomAt.setRow {C : Addr} {H : Hp} {p rw_ mv : Addr} {s : ES} {ms : List Int} (r : RoomAt C H p rw_ mv s ms) (row' : List (Option Int)) : RoomAt C (upd H rw_ (.lst (row'.map cE))) p rw_ mv (row', s.2) ms :=
  let ⟨dx, e⟩ := r.ex
  ⟨⟨dx, (upd_ne r.npr.1).trans e⟩, upd_same, (upd_ne r.ne.symm).trans r.mvd, r.ne⟩
theorem RoomAt.setMv {C : Addr} {H : Hp} {p rw_ mv : Addr} {s : ES} {ms : List Int} (r : RoomAt C H p rw_ mv s ms) (ms' : List Int) : RoomAt C (upd H mv (il ms')) p rw_ mv s ms' :=
  let ⟨dx, e⟩ := r.ex
  ⟨⟨dx, (upd_ne r.npr.2).trans e⟩, (upd_ne r.ne).trans r.row, upd_same, r.ne⟩
theorem RoomAt.setHand {C : Addr} {H : Hp} {p rw_ mv dx : Addr} {s : ES} {ms : List Int} (r : RoomAt C H p rw_ mv s ms) (g : Option Int) : RoomAt C (upd H p (.ins C dx (rfl3 rw_ mv g))) p rw_ mv (s.1, g) ms :=
  ⟨⟨dx, upd_same⟩, (upd_ne r.npr.1.symm).trans r.row, (upd_ne r.npr.2.symm).trans r.mvd, r.ne⟩
theorem setc (row : List (Option Int)) (a : Nat) (c : Option Int) : (row.map cE).set a (cE c) = (row.set a c).map cE := List.map_set.symm
theorem setb {ms : List Int} (x : Int) : (ms.map V.int).set x.toNat (V.int (ms.getD x.toNat 0 + 1)) = (bump ms x).map V.int := by unfold bump; exact List.map_set.symm
/-- what the walk asks of the class -/
structure RTx (K : PySem.W.Frag) (C : Addr) : Prop where
  cl : Cls K C
  nr : NoAttr K C "row"
  nh : NoAttr K C "hand"
  nm : NoAttr K C "moved"
theorem at_ms {ms : List Int} {x : Int} (h0 : 0 ≤ x) (h1 : x < (ms.length : Int)) : atI (ms.map V.int) x = some (.int (ms.getD x.toNat 0)) ∧ ixN (ms.map V.int).length x = some x.toNat := by
  have hx : x.toNat < ms.length := by omega
  have e : ixN (ms.map V.int).length x = some x.toNat := by rw [List.length_map]; unfold ixN; rw [if_pos h0, if_pos (by omega)]
  refine ⟨?_, e⟩
  unfold atI
  rw [e]
  show (ms.map V.int)[x.toNat]? = _
  rw [List.getElem?_map, List.getElem?_eq_getElem hx, List.getD_eq_getElem?_getD, List.getElem?_eq_getElem hx]; rfl
abbrev m_lift : Stmt := (inClass (top 11) 6)
theorem sc_lift : FnScope ["self", "a", "thing"] ["self", "a"] (defScope m_lift) := ⟨rfl, rfl, rfl, by decide +kernel, rfl, by decide +kernel, by decide +kernel⟩
def spLift (C : Addr) : Sp := fun vs H Q _ => ∃ (p rw_ mv : Addr) (s : ES) (ms : List Int) (a : Nat) (x : Int), vs = [.ref p, .int (a : Int)] ∧ RoomAt C H p rw_ mv s ms ∧ s.1[a]? = some (some x) ∧ 0 ≤ x ∧ x < (ms.length : Int) ∧
  ∀ H', RoomAt C H' p rw_ mv (s.1.set a none, s.2) (bump ms x) → Kp [rw_, mv] H H' → Q (.int x) H'
theorem dm_lift {C : Addr} (a : AtM K C "lift" "Room.lift" m_lift) (R : RTx K C) : Dm P w K mg base C "lift" ["self", "a"] 1 (spLift C) := by
  refine dme_of (k := 0) a sc_lift (fun _ _ _ _ _ _ us hl => match us, hl with | [_, _], _ => rfl) (fun vs H Q E h => ?_) (fun f cdv A outer s H vs Q E hr h => ?_)
  · obtain ⟨_, _, _, _, _, _, _, rfl, _⟩ := h; rfl
  obtain ⟨p, rw_, mv, ⟨row, hd⟩, ms, a, x, rfl, r, hx, x0, x1, q⟩ := h
  have sc := sc_lift
  have hsl := hsl
  obtain ⟨dx, hp⟩ := r.ex
  obtain ⟨np1, np2⟩ := r.npr
  refine ⟨_, (pss_cons (ps_set (i := 2) sc.nd rfl (by first | exact Or.inl rfl | exact Or.inr rfl) (pe_ix ix_list (pe_fld (pv 0) rfl) (pv 1) (fun _ _ => rfl)))
    (pss_cons (ps_if (pt_cmpR op_isN (pv 2) pe_non (nomark _)) (pss_one ps_never) pss_nil)
    (pss_cons (ps_asg pe_non (pg_sub (pe_fld (pv 0) rfl) (pv 1) set_listO))
    (pss_cons (ps_augS (pe_fld (pv 0) rfl) (pv 2) get_listN pe_int ip_add set_listO)
    (pss_one (ps_ret (pv 2))))))), ?_⟩
  rw [show start ["self", "a", "thing"] [V.ref p, V.int (a : Int)] = [some (.ref p), some (.int (a : Int)), none] from rfl]
  obtain ⟨c1, c2⟩ := at_cellE hx
  obtain ⟨m1, m2⟩ := at_ms x0 x1
  refine seq_cut fun r1 hr1 => ?_
  walk_at "rd"
  refine ⟨_, _, _, hp, R.cl, R.nr, _, fl_row _ _ _, _, rfl, _, SqL.of r.row, _, c2, ?_⟩
  subst hr1
  refine seq_cut fun r1 hr1 => ?_
  walk_at "rd"
  rw [if_neg (show ¬ cE (some x) = V.non from fun z => nomatch z)]
  subst hr1
  refine seq_cut fun r1 hr1 => ?_
  walk_at "rd"
  refine ⟨_, _, _, hp, R.cl, R.nr, _, fl_row _ _ _, _, rfl, _, r.row, _, c1, ?_⟩
  have r2 := r.setRow (row.set a none)
  rw [show (List.map cE (row, hd).1).set a V.non = (row.set a none).map cE from setc row a none]
  have k2 := Kp.set (bs := [rw_, mv]) (p := rw_) (H := H) (HO.lst ((row.set a none).map cE)) (by simp)
  generalize upd H rw_ (HO.lst ((row.set a none).map cE)) = H2 at *
  obtain ⟨dx2, hp2⟩ := r2.ex
  subst hr1
  walk_at "rd"
  refine ⟨_, _, _, hp2, R.cl, R.nm, _, fl_moved _ _ _, _, rfl, _, _, rfl, SqL.of r2.mvd, _, m1, _, rfl, _, rfl, _, rfl, _, r2.mvd, _, m2, ?_⟩
  rw [setb]
  exact q _ (r2.setMv _) (k2.trans (Kp.set _ (by simp)))
abbrev m_swap : Stmt := (inClass (top 11) 2)
theorem sc_swap : FnScope ["self", "a", "b", "one", "other"] ["self", "a", "b"] (defScope m_swap) := ⟨rfl, rfl, rfl, by decide +kernel, rfl, by decide +kernel, by decide +kernel⟩
def spMd (C : Addr) (d : De) (p rw_ mv : Addr) (s : ES) (ms : List Int) (H : Hp) (Q : VK) : Prop := RoomAt C H p rw_ mv s ms ∧ OkM s ms.length ∧ ∃ t, DoE d s t ∧ ∀ H', RoomAt C H' p rw_ mv t (counted d s ms) → Kp [p, rw_, mv] H H' → Q .non H'
def spSwap (C : Addr) : Sp := fun vs H Q _ => ∃ (p rw_ mv : Addr) (s : ES) (ms : List Int) (a b : Nat), vs = [.ref p, .int (a : Int), .int (b : Int)] ∧ spMd C (.swap a b) p rw_ mv s ms H Q
def spMove (C : Addr) : Sp := fun vs H Q _ => ∃ (p rw_ mv : Addr) (s : ES) (ms : List Int) (a b : Nat), vs = [.ref p, .int (a : Int), .int (b : Int)] ∧ spMd C (.move a b) p rw_ mv s ms H Q
def spTakeM (C : Addr) : Sp := fun vs H Q _ => ∃ (p rw_ mv : Addr) (s : ES) (ms : List Int) (a : Nat), vs = [.ref p, .int (a : Int)] ∧ spMd C (.take a) p rw_ mv s ms H Q
def spLay (C : Addr) : Sp := fun vs H Q _ => ∃ (p rw_ mv : Addr) (s : ES) (ms : List Int) (a : Nat), vs = [.ref p, .int (a : Int)] ∧ spMd C (.lay a) p rw_ mv s ms H Q
theorem getD_of {row : List (Option Int)} {a : Nat} {c : Option Int} (h : row[a]? = some c) : row.getD a none = c := by rw [List.getD_eq_getElem?_getD, h]; rfl
theorem dm_swap {C : Addr} (a : AtM K C "swap" "Room.swap" m_swap) (R : RTx K C) : Dm P w K mg base C "swap" ["self", "a", "b"] 1 (spSwap C) := by
  refine dme_of (k := 0) a sc_swap (fun _ _ _ _ _ _ us hl => match us, hl with | [_, _, _], _ => rfl) (fun vs H Q E h => ?_) (fun f cdv A outer s H vs Q E hr h => ?_)
  · obtain ⟨_, _, _, _, _, _, _, rfl, _⟩ := h; rfl
  obtain ⟨p, rw_, mv, s0, ms, a, b, rfl, r, ok, t, hdo, q⟩ := h
  have sc := sc_swap
  have hsl := hsl
  obtain ⟨dx, hp⟩ := r.ex
  cases hdo with
  | @swap _ _ row hd x y ne h1 h2 =>
  obtain ⟨c1, c2⟩ := at_cellE h1
  obtain ⟨g1, g2⟩ := at_cellE h2
  obtain ⟨x0, x1⟩ := ok.1 _ (List.mem_of_getElem? h1)
  obtain ⟨y0, y1⟩ := ok.1 _ (List.mem_of_getElem? h2)
  obtain ⟨m1, m2⟩ := at_ms x0 x1
  obtain ⟨n1, n2⟩ := at_ms (ms := bump ms x) y0 (by rw [bump_len]; exact y1)
  refine ⟨_, (pss_cons (ps_if (pt_cmpR op_eq (pv 1) (pv 2) (nomark _)) (pss_one ps_never) pss_nil)
    (pss_cons (ps_set (i := 3) sc.nd rfl (by first | exact Or.inl rfl | exact Or.inr rfl) (pe_ix ix_list (pe_fld (pv 0) rfl) (pv 1) (fun _ _ => rfl)))
    (pss_cons (ps_set (i := 4) sc.nd rfl (by first | exact Or.inl rfl | exact Or.inr rfl) (pe_ix ix_list (pe_fld (pv 0) rfl) (pv 2) (fun _ _ => rfl)))
    (pss_cons (ps_if (PW.pt (pw_or (pt_cmpR op_isN (pv 3) pe_non (nomark _)) (pw_or1 (pt_cmpR op_isN (pv 4) pe_non (nomark _))))) (pss_one ps_never) pss_nil)
    (pss_cons (ps_asg (pv 4) (pg_sub (pe_fld (pv 0) rfl) (pv 1) set_listO))
    (pss_cons (ps_asg (pv 3) (pg_sub (pe_fld (pv 0) rfl) (pv 2) set_listO))
    (pss_cons (ps_augS (pe_fld (pv 0) rfl) (pv 3) get_listN pe_int ip_add set_listO)
    (pss_one (ps_augS (pe_fld (pv 0) rfl) (pv 4) get_listN pe_int ip_add set_listO))))))))), ?_⟩
  rw [show start ["self", "a", "b", "one", "other"] [V.ref p, V.int (a : Int), V.int (b : Int)] = [some (.ref p), some (.int (a : Int)), some (.int (b : Int)), none, none] from rfl]
  refine seq_cut fun r1 hr1 => ?_
  walk_at "rd"
  refine ⟨rfl, ?_⟩
  rw [if_neg (by omega)]
  subst hr1
  refine seq_cut fun r1 hr1 => ?_
  walk_at "rd"
  refine ⟨_, _, _, hp, R.cl, R.nr, _, fl_row _ _ _, _, rfl, _, SqL.of r.row, _, c2, ?_⟩
  subst hr1
  refine seq_cut fun r1 hr1 => ?_
  walk_at "rd"
  refine ⟨_, _, _, hp, R.cl, R.nr, _, fl_row _ _ _, _, rfl, _, SqL.of r.row, _, g2, ?_⟩
  subst hr1
  refine seq_cut fun r1 hr1 => ?_
  walk_at "rd"
  rw [if_neg (show ¬ cE (some x) = V.non from fun z => nomatch z), if_neg (show ¬ cE (some y) = V.non from fun z => nomatch z)]
  subst hr1
  refine seq_cut fun r1 hr1 => ?_
  walk_at "rd"
  refine ⟨_, _, _, hp, R.cl, R.nr, _, fl_row _ _ _, _, rfl, _, r.row, _, c1, ?_⟩
  have r2 := r.setRow (row.set a (some y))
  rw [setc]
  have k2 := Kp.set (bs := [p, rw_, mv]) (p := rw_) (H := H) (HO.lst ((row.set a (some y)).map cE)) (by simp)
  generalize upd H rw_ (HO.lst ((row.set a (some y)).map cE)) = H2 at *
  obtain ⟨dx2, hp2⟩ := r2.ex
  subst hr1
  refine seq_cut fun r1 hr1 => ?_
  walk_at "rd"
  refine ⟨_, _, _, hp2, R.cl, R.nr, _, fl_row _ _ _, _, rfl, _, r2.row, b, by rw [List.length_map, List.length_set]; rw [List.length_map] at g1; exact g1, ?_⟩
  have r3 := r2.setRow ((row.set a (some y)).set b (some x))
  rw [setc]
  have k3 := k2.trans (Kp.set (bs := [p, rw_, mv]) (p := rw_) (H := H2) (HO.lst (((row.set a (some y)).set b (some x)).map cE)) (by simp))
  generalize upd H2 rw_ (HO.lst (((row.set a (some y)).set b (some x)).map cE)) = H3 at *
  obtain ⟨dx3, hp3⟩ := r3.ex
  subst hr1
  refine seq_cut fun r1 hr1 => ?_
  walk_at "rd"
  refine ⟨_, _, _, hp3, R.cl, R.nm, _, fl_moved _ _ _, _, rfl, _, _, rfl, SqL.of r3.mvd, _, m1, _, rfl, _, rfl, _, rfl, _, r3.mvd, _, m2, ?_⟩
  rw [setb]
  have r4 := r3.setMv (bump ms x)
  have k4 := k3.trans (Kp.set (bs := [p, rw_, mv]) (p := mv) (H := H3) (il (bump ms x)) (by simp))
  show r1 _ _ (upd H3 mv (il (bump ms x)))
  generalize upd H3 mv (il (bump ms x)) = H4 at *
  obtain ⟨dx4, hp4⟩ := r4.ex
  subst hr1
  walk_at "rd"
  refine ⟨_, _, _, hp4, R.cl, R.nm, _, fl_moved _ _ _, _, rfl, _, _, rfl, SqL.of r4.mvd, _, n1, _, rfl, _, rfl, _, rfl, _, r4.mvd, _, n2, ?_⟩
  rw [setb]
  refine q _ ?_ (k4.trans (Kp.set _ (by simp)))
  have e : counted (.swap a b) (row, hd) ms = bump (bump ms x) y := by
    show [row.getD a none, row.getD b none].foldl bumpO ms = _
    rw [getD_of h1, getD_of h2]; rfl
  rw [e]
  exact r4.setMv _
abbrev m_take : Stmt := (inClass (top 11) 3)
theorem sc_takeM : FnScope ["self", "a"] ["self", "a"] (defScope m_take) := ⟨rfl, rfl, rfl, by decide +kernel, rfl, by decide +kernel, by decide +kernel⟩
theorem dm_take {C : Addr} (a : AtM K C "take" "Room.take" m_take) (R : RTx K C) (M_lift : Dm P w K mg base C "lift" ["self", "a"] 1 (spLift C)) : Dm P w K mg base C "take" ["self", "a"] 2 (spTakeM C) := by
  refine dme_of (k := 1) a sc_takeM (fun _ _ _ _ _ _ us hl => match us, hl with | [_, _], _ => rfl) (fun vs H Q E h => ?_) (fun f cdv A outer s H vs Q E hr h => ?_)
  · obtain ⟨_, _, _, _, _, _, rfl, _⟩ := h; rfl
  obtain ⟨p, rw_, mv, s0, ms, a, rfl, r, ok, t, hdo, q⟩ := h
  have sc := sc_takeM
  have hsl := hsl
  have CL := R.cl
  obtain ⟨dx, hp⟩ := r.ex
  cases hdo with
  | @take _ row x h1 =>
  obtain ⟨c1, c2⟩ := at_cellE h1
  obtain ⟨x0, x1⟩ := ok.1 _ (List.mem_of_getElem? h1)
  refine ⟨_, (pss_cons (ps_if (pt_cmpR op_notN (pe_fld (pv 0) rfl) pe_non (nomark _)) (pss_one ps_never) pss_nil)
    (pss_one (ps_fld (pv 0) (pe_md CL M_lift hr (pv 0) (pa_cons (pv 1) pa_nil)) rfl))), ?_⟩
  rw [show start ["self", "a"] [V.ref p, V.int (a : Int)] = [some (.ref p), some (.int (a : Int))] from rfl]
  refine seq_cut fun r1 hr1 => ?_
  walk_at "rd"
  refine ⟨_, _, _, hp, R.cl, R.nh, _, fl_hand _ _ _, ?_⟩
  rw [if_neg (show ¬ ¬ cE none = V.non from not_not_intro rfl)]
  subst hr1
  walk_at "rd"
  refine ⟨_, _, hp, fl_no _ _ _ (by decide +kernel) (by decide +kernel) (by decide +kernel), p, rw_, mv, (row, none), ms, a, x, rfl, r, h1, x0, x1, fun H2 r2 k2 => ?_⟩
  obtain ⟨dx2, hp2⟩ := r2.ex
  refine ⟨_, _, _, hp2, R.cl, R.nh, by show 3 < 1000; decide, ?_⟩
  have e : counted (.take a) (row, none) ms = bump ms x := by
    show [row.getD a none].foldl bumpO ms = _
    rw [getD_of h1]; rfl
  rw [e] at q
  rw [show V.int x = cE (some x) from rfl, fl_put]
  exact q _ (r2.setHand _) ((k2.mono (by simp)).trans (Kp.set _ (by simp)))
abbrev m_move : Stmt := (inClass (top 11) 4)
theorem sc_move : FnScope ["self", "a", "b"] ["self", "a", "b"] (defScope m_move) := ⟨rfl, rfl, rfl, by decide +kernel, rfl, by decide +kernel, by decide +kernel⟩
theorem dm_move {C : Addr} (a : AtM K C "move" "Room.move" m_move) (R : RTx K C) (M_lift : Dm P w K mg base C "lift" ["self", "a"] 1 (spLift C)) : Dm P w K mg base C "move" ["self", "a", "b"] 2 (spMove C) := by
  refine dme_of (k := 1) a sc_move (fun _ _ _ _ _ _ us hl => match us, hl with | [_, _, _], _ => rfl) (fun vs H Q E h => ?_) (fun f cdv A outer s H vs Q E hr h => ?_)
  · obtain ⟨_, _, _, _, _, _, _, rfl, _⟩ := h; rfl
  obtain ⟨p, rw_, mv, s0, ms, a, b, rfl, r, ok, t, hdo, q⟩ := h
  have sc := sc_move
  have hsl := hsl
  have CL := R.cl
  obtain ⟨dx, hp⟩ := r.ex
  cases hdo with
  | @move _ _ row hd x h1 h2 =>
  have ne : a ≠ b := fun z => by rw [z, h2] at h1; cases h1
  obtain ⟨c1, c2⟩ := at_cellE h1
  obtain ⟨g1, g2⟩ := at_cellE h2
  obtain ⟨x0, x1⟩ := ok.1 _ (List.mem_of_getElem? h1)
  refine ⟨_, (pss_cons (ps_if (pt_cmpR op_eq (pv 1) (pv 2) (nomark _)) (pss_one ps_never) pss_nil)
    (pss_cons (ps_if (pt_cmpR op_notN (pe_ix ix_list (pe_fld (pv 0) rfl) (pv 2) (fun _ _ => rfl)) pe_non (nomark _)) (pss_one ps_never) pss_nil)
    (pss_one (ps_asg (pe_md CL M_lift hr (pv 0) (pa_cons (pv 1) pa_nil)) (pg_sub (pe_fld (pv 0) rfl) (pv 2) set_listO))))), ?_⟩
  rw [show start ["self", "a", "b"] [V.ref p, V.int (a : Int), V.int (b : Int)] = [some (.ref p), some (.int (a : Int)), some (.int (b : Int))] from rfl]
  refine seq_cut fun r1 hr1 => ?_
  walk_at "rd"
  refine ⟨rfl, ?_⟩
  rw [if_neg (by omega)]
  subst hr1
  refine seq_cut fun r1 hr1 => ?_
  walk_at "rd"
  refine ⟨_, _, _, hp, R.cl, R.nr, _, fl_row _ _ _, _, rfl, _, SqL.of r.row, _, g2, ?_⟩
  rw [if_neg (show ¬ ¬ cE none = V.non from not_not_intro rfl)]
  subst hr1
  walk_at "rd"
  refine ⟨_, _, hp, fl_no _ _ _ (by decide +kernel) (by decide +kernel) (by decide +kernel), p, rw_, mv, (row, hd), ms, a, x, rfl, r, h1, x0, x1, fun H2 r2 k2 => ?_⟩
  obtain ⟨dx2, hp2⟩ := r2.ex
  refine ⟨_, _, _, hp2, R.cl, R.nr, _, fl_row _ _ _, _, rfl, _, r2.row, b, by rw [List.length_map] at g1; show ixN ((row.set a none).map cE).length _ = _; rw [List.length_map, List.length_set]; exact g1, ?_⟩
  have e : counted (.move a b) (row, hd) ms = bump ms x := by
    show [row.getD a none, row.getD b none].foldl bumpO ms = _
    rw [getD_of h1, getD_of h2]; rfl
  rw [e] at q
  rw [show V.int x = cE (some x) from rfl, setc]
  exact q _ (r2.setRow _) ((k2.mono (by simp)).trans (Kp.set _ (by simp)))
abbrev m_lay : Stmt := (inClass (top 11) 5)
theorem sc_lay : FnScope ["self", "b"] ["self", "b"] (defScope m_lay) := ⟨rfl, rfl, rfl, by decide +kernel, rfl, by decide +kernel, by decide +kernel⟩
theorem dm_lay {C : Addr} (a : AtM K C "lay" "Room.lay" m_lay) (R : RTx K C) : Dm P w K mg base C "lay" ["self", "b"] 1 (spLay C) := by
  refine dme_of (k := 0) a sc_lay (fun _ _ _ _ _ _ us hl => match us, hl with | [_, _], _ => rfl) (fun vs H Q E h => ?_) (fun f cdv A outer s H vs Q E hr h => ?_)
  · obtain ⟨_, _, _, _, _, _, rfl, _⟩ := h; rfl
  obtain ⟨p, rw_, mv, s0, ms, a, rfl, r, ok, t, hdo, q⟩ := h
  have sc := sc_lay
  have hsl := hsl
  have CL := R.cl
  obtain ⟨dx, hp⟩ := r.ex
  cases hdo with
  | @lay _ row x h1 =>
  obtain ⟨c1, c2⟩ := at_cellE h1
  obtain ⟨x0, x1⟩ := ok.2 _ rfl
  obtain ⟨m1, m2⟩ := at_ms x0 x1
  refine ⟨_, (pss_cons (ps_if (pt_cmpR op_notN (pe_ix ix_list (pe_fld (pv 0) rfl) (pv 1) (fun _ _ => rfl)) pe_non (nomark _)) (pss_one ps_never) pss_nil)
    (pss_cons (ps_if (pt_cmpR op_isN (pe_fld (pv 0) rfl) pe_non (nomark _)) (pss_one ps_never) pss_nil)
    (pss_cons (ps_asg (pe_fld (pv 0) rfl) (pg_sub (pe_fld (pv 0) rfl) (pv 1) set_listO))
    (pss_cons (ps_augS (pe_fld (pv 0) rfl) (pe_fld (pv 0) rfl) get_listN pe_int ip_add set_listO)
    (pss_one (ps_fld (pv 0) pe_non rfl)))))), ?_⟩
  rw [show start ["self", "b"] [V.ref p, V.int (a : Int)] = [some (.ref p), some (.int (a : Int))] from rfl]
  refine seq_cut fun r1 hr1 => ?_
  walk_at "rd"
  refine ⟨_, _, _, hp, R.cl, R.nr, _, fl_row _ _ _, _, rfl, _, SqL.of r.row, _, c2, ?_⟩
  rw [if_neg (show ¬ ¬ cE none = V.non from not_not_intro rfl)]
  subst hr1
  refine seq_cut fun r1 hr1 => ?_
  walk_at "rd"
  refine ⟨_, _, _, hp, R.cl, R.nh, _, fl_hand _ _ _, ?_⟩
  rw [if_neg (show ¬ cE (some x) = V.non from fun z => nomatch z)]
  subst hr1
  refine seq_cut fun r1 hr1 => ?_
  walk_at "rd"
  refine ⟨_, _, _, hp, R.cl, R.nh, _, fl_hand _ _ _, _, _, _, hp, R.cl, R.nr, _, fl_row _ _ _, _, rfl, _, r.row, _, c1, ?_⟩
  have r2 := r.setRow (row.set a (some x))
  rw [setc]
  have k2 := Kp.set (bs := [p, rw_, mv]) (p := rw_) (H := H) (HO.lst ((row.set a (some x)).map cE)) (by simp)
  generalize upd H rw_ (HO.lst ((row.set a (some x)).map cE)) = H2 at *
  obtain ⟨dx2, hp2⟩ := r2.ex
  subst hr1
  refine seq_cut fun r1 hr1 => ?_
  walk_at "rd"
  refine ⟨_, _, _, hp2, R.cl, R.nm, _, fl_moved _ _ _, _, _, _, hp2, R.cl, R.nh, _, fl_hand _ _ _, _, rfl, _, _, rfl, SqL.of r2.mvd, _, m1, _, rfl, _, rfl, _, rfl, _, r2.mvd, _, m2, ?_⟩
  rw [setb]
  have r3 := r2.setMv (bump ms x)
  have k3 := k2.trans (Kp.set (bs := [p, rw_, mv]) (p := mv) (H := H2) (il (bump ms x)) (by simp))
  show r1 _ _ (upd H2 mv (il (bump ms x)))
  generalize upd H2 mv (il (bump ms x)) = H3 at *
  obtain ⟨dx3, hp3⟩ := r3.ex
  subst hr1
  walk_at "rd"
  refine ⟨_, _, _, hp3, R.cl, R.nh, by show 3 < 1000; decide, ?_⟩
  rw [show V.non = cE none from rfl, fl_put]
  exact q _ (r3.setHand _) (k3.trans (Kp.set _ (by simp)))
abbrev m_rnow : Stmt := (inClass (top 11) 7)
theorem sc_rnow : FnScope ["self"] ["self"] (defScope m_rnow) := ⟨rfl, rfl, rfl, by decide +kernel, rfl, by decide +kernel, by decide +kernel⟩
def spRnow (C : Addr) : Sp := fun vs H Q _ => ∃ (p rw_ mv : Addr) (s : ES) (ms : List Int), vs = [.ref p] ∧ RoomAt C H p rw_ mv s ms ∧ s.1.length ≤ 1000 ∧ ∀ t H', Kp [] H H' → H' t = some (.tup (s.1.map cE)) → Q (.ref t) H'
theorem dm_rnow {C : Addr} (a : AtM K C "row_now" "Room.row_now" m_rnow) (R : RTx K C) (B : Blt mg) : Dm P w K mg base C "row_now" ["self"] 1 (spRnow C) := by
  refine dme_of (k := 0) a sc_rnow (fun _ _ _ _ _ _ us hl => match us, hl with | [_], _ => rfl) (fun vs H Q E h => ?_) (fun f cdv A outer s H vs Q E hr h => ?_)
  · obtain ⟨_, _, _, _, _, rfl, _⟩ := h; rfl
  obtain ⟨p, rw_, mv, s0, ms, rfl, r, hl, q⟩ := h
  have sc := sc_rnow
  have hsl := hsl
  obtain ⟨dx, hp⟩ := r.ex
  refine ⟨_, (pss_one (ps_ret (pe_callTy call_tuple_of rfl B.tuple bt_tuple (pa_cons (pe_fld (pv 0) rfl) pa_nil)))), ?_⟩
  rw [show start ["self"] [V.ref p] = [some (.ref p)] from rfl]
  walk_at "rd"
  refine ⟨_, _, _, hp, R.cl, R.nr, _, fl_row _ _ _, _, rfl, _, .inl ⟨SqL.of r.row, fun t ht => ?_⟩⟩
  exact q _ _ (Kp.new _ ht) upd_same
abbrev m_mnow : Stmt := (inClass (top 11) 9)
theorem sc_mnow : FnScope ["self"] ["self"] (defScope m_mnow) := ⟨rfl, rfl, rfl, by decide +kernel, rfl, by decide +kernel, by decide +kernel⟩
def spMnow (C : Addr) : Sp := fun vs H Q _ => ∃ (p rw_ mv : Addr) (s : ES) (ms : List Int), vs = [.ref p] ∧ RoomAt C H p rw_ mv s ms ∧ ms.length ≤ 1000 ∧ ∀ t H', Kp [] H H' → H' t = some (.tup (ms.map V.int)) → Q (.ref t) H'
theorem dm_mnow {C : Addr} (a : AtM K C "moved_now" "Room.moved_now" m_mnow) (R : RTx K C) (B : Blt mg) : Dm P w K mg base C "moved_now" ["self"] 1 (spMnow C) := by
  refine dme_of (k := 0) a sc_mnow (fun _ _ _ _ _ _ us hl => match us, hl with | [_], _ => rfl) (fun vs H Q E h => ?_) (fun f cdv A outer s H vs Q E hr h => ?_)
  · obtain ⟨_, _, _, _, _, rfl, _⟩ := h; rfl
  obtain ⟨p, rw_, mv, s0, ms, rfl, r, hl, q⟩ := h
  have sc := sc_mnow
  have hsl := hsl
  obtain ⟨dx, hp⟩ := r.ex
  refine ⟨_, (pss_one (ps_ret (pe_callTy call_tuple_of rfl B.tuple bt_tuple (pa_cons (pe_fld (pv 0) rfl) pa_nil)))), ?_⟩
  rw [show start ["self"] [V.ref p] = [some (.ref p)] from rfl]
  walk_at "rd"
  refine ⟨_, _, _, hp, R.cl, R.nm, _, fl_moved _ _ _, _, rfl, _, .inl ⟨SqL.of r.mvd, fun t ht => ?_⟩⟩
  exact q _ _ (Kp.new _ ht) upd_same
abbrev m_hnow : Stmt := (inClass (top 11) 8)
theorem sc_hnow : FnScope ["self"] ["self"] (defScope m_hnow) := ⟨rfl, rfl, rfl, by decide +kernel, rfl, by decide +kernel, by decide +kernel⟩
def spHnow (C : Addr) : Sp := fun vs H Q _ => ∃ (p rw_ mv : Addr) (s : ES) (ms : List Int), vs = [.ref p] ∧ RoomAt C H p rw_ mv s ms ∧ Q (cE s.2) H
theorem dm_hnow {C : Addr} (a : AtM K C "hand_now" "Room.hand_now" m_hnow) (R : RTx K C) : Dm P w K mg base C "hand_now" ["self"] 1 (spHnow C) := by
  refine dme_of (k := 0) a sc_hnow (fun _ _ _ _ _ _ us hl => match us, hl with | [_], _ => rfl) (fun vs H Q E h => ?_) (fun f cdv A outer s H vs Q E hr h => ?_)
  · obtain ⟨_, _, _, _, _, rfl, _⟩ := h; rfl
  obtain ⟨p, rw_, mv, s0, ms, rfl, r, q⟩ := h
  have sc := sc_hnow
  have hsl := hsl
  obtain ⟨dx, hp⟩ := r.ex
  refine ⟨_, (pss_one (ps_ret (pe_fld (pv 0) rfl))), ?_⟩
  rw [show start ["self"] [V.ref p] = [some (.ref p)] from rfl]
  walk_at "rd"
  exact ⟨_, _, _, hp, R.cl, R.nh, _, fl_hand _ _ _, q⟩
abbrev s_isplace : Stmt := top 6
theorem sc_isplace : FnScope ["thing", "n"] ["thing", "n"] (defScope s_isplace) := ⟨rfl, rfl, rfl, by decide +kernel, rfl, by decide +kernel, by decide +kernel⟩
theorem iT_ii8 : isT "int" "int" = some true := by decide +kernel
theorem iT_ib8 : isT "int" "bool" = some false := by decide +kernel
theorem iT_tt8 : isT "tuple" "tuple" = some true := by decide +kernel
theorem iT_ss8 : isT "str" "str" = some true := by decide +kernel
def spIsplace : Sp := fun vs H Q _ => ∃ (i n : Int), vs = [.int i, .int n] ∧ Q (.bl (decide (0 ≤ i ∧ i < n))) H
theorem df_isplace (a : At K mg "is_place" s_isplace) (B : Blt mg) : Df P w K mg base "is_place" ["thing", "n"] 1 spIsplace := by
  refine df_of (k := 0) a sc_isplace (fun _ _ _ _ _ _ us hl => match us, hl with | [_, _], _ => rfl) (fun vs H Q E h => ?_) (fun f cdv A outer s H vs Q E hr h => ?_)
  · obtain ⟨i, n, rfl, _⟩ := h; rfl
  obtain ⟨i, n, rfl, q⟩ := h
  have sc := sc_isplace
  have hsl := hsl
  refine ⟨_, (pss_cons (ps_if (PW.pt (pw_or (pt_val (pe_callB call_isi rfl B.isinstance bt_isinstance (pa_cons (pv 0) (pa_cons (pe_bltn (v := .ty "bool") rfl B.bool bt_bool rfl) pa_nil))) (fun _ => rfl)) (pw_or1 (pt_not (pt_val (pe_callB call_isi rfl B.isinstance bt_isinstance (pa_cons (pv 0) (pa_cons (pe_bltn (v := .ty "int") rfl B.int bt_int rfl) pa_nil))) (fun _ => rfl)))))) (pss_one (ps_ret pe_bl)) pss_nil)
    (pss_one (ps_ret (pe_chain op_le op_lt pe_int (pv 0) (pv 1))))), ?_⟩
  rw [show start ["thing", "n"] [V.int i, V.int n] = [some (.int i), some (.int n)] from rfl]
  walk_at "rd"
  simp only [tChain]
  refine ⟨"int", _, rfl, .int i, _, iT_ib8, ?_⟩
  rw [if_neg (by decide)]
  refine ⟨"int", _, rfl, .int i, _, iT_ii8, ?_⟩
  rw [if_neg (by decide)]
  walk_at "rd"
  by_cases h0 : 0 ≤ i
  · rw [if_pos h0]
    rw [show decide (0 ≤ i ∧ i < n) = decide (i < n) from decide_eq_decide.mpr ⟨fun z => z.2, fun z => ⟨h0, z⟩⟩] at q
    exact q
  · rw [if_neg h0]
    rw [show decide (0 ≤ i ∧ i < n) = false from decide_eq_false (fun z => h0 z.1)] at q
    exact q
abbrev s_isdeed : Stmt := top 10
theorem sc_isdeed : FnScope ["thing", "n", "word", "part"] ["thing", "n"] (defScope s_isdeed) := ⟨rfl, rfl, rfl, by decide +kernel, rfl, by decide +kernel, by decide +kernel⟩
def deW : De → V
  | .swap _ _ => dSwap
  | .take _ => dTake
  | .move _ _ => dMove
  | .lay _ => dLay
def dePl : De → List Nat
  | .swap a b => [a, b]
  | .take p => [p]
  | .move p g => [p, g]
  | .lay g => [g]
theorem deV_eq (d : De) : deV d = deW d :: (dePl d).map (fun k : Nat => V.int (k : Int)) := by cases d <;> rfl
theorem DoE.places {d : De} {s t : ES} (h : DoE d s t) : ∀ k ∈ dePl d, k < s.1.length := by
  have lt : ∀ {row : List (Option Int)} {a : Nat} {c : Option Int}, row[a]? = some c → a < row.length := fun h => (List.getElem?_eq_some_iff.mp h).1
  intro k hk
  cases h with
  | swap ne h1 h2 =>
    rcases List.mem_cons.mp hk with z | z
    · rw [z]; exact lt h1
    · rw [List.mem_singleton.mp z]; exact lt h2
  | take h1 => rw [List.mem_singleton.mp hk]; exact lt h1
  | move h1 h2 =>
    rcases List.mem_cons.mp hk with z | z
    · rw [z]; exact lt h1
    · rw [List.mem_singleton.mp z]; exact lt h2
  | lay h1 => rw [List.mem_singleton.mp hk]; exact lt h1
theorem dePl_cut (d : De) : cutV (deV d) (some 1) none = (dePl d).map (fun k : Nat => V.int (k : Int)) := by cases d <;> rfl
theorem deV_len (d : De) : (deV d).length = (dePl d).length + 1 := by rw [deV_eq]; simp
theorem dePl_len (d : De) : 1 ≤ (dePl d).length ∧ (dePl d).length ≤ 2 := by cases d <;> simp [dePl]
theorem deV_nall (d : De) : ¬ (HT.sIx (deV d).length 0 (some 1) = 0 ∧ HT.sIx (deV d).length (deV d).length none = (deV d).length) := by
  rw [deV_len]
  rcases show (dePl d).length = 1 ∨ (dePl d).length = 2 by have := dePl_len d; omega with h | h <;> (rw [h]; decide)
def spIsdeed : Sp := fun vs H Q _ => ∃ (dd : Addr) (d : De) (s t : ES), vs = [.ref dd, .int (s.1.length : Int)] ∧ H dd = some (.tup (deV d)) ∧ DoE d s t ∧ ∀ H', Kp [] H H' → Q (.bl true) H'
abbrev kvsP : List (Key × V) := [(Sum.inr (Str.ofString "swap"), .int 2), (Sum.inr (Str.ofString "take"), .int 1), (Sum.inr (Str.ofString "move"), .int 2), (Sum.inr (Str.ofString "lay"), .int 1)]
theorem kd_places {K : PySem.W.Frag} {w : World} {pa : Addr} {t1 t2 t3 t4 u1 u2 u3 u4 : Tok} {ep : Nat} (lP : K.lookup pa = some ⟨.type "dict", none, .dict #[⟨hashStr w "swap", .str "swap" t1, .int 2 u1⟩, ⟨hashStr w "take", .str "take" t2, .int 1 u2⟩, ⟨hashStr w "move", .str "move" t3, .int 2 u3⟩, ⟨hashStr w "lay", .str "lay" t4, .int 1 u4⟩] ep, #[]⟩) (nP : (pa == sysModules) = false) : KD K w pa kvsP := by
  refine ⟨⟨_, _, lP, fun P => ?_⟩, nP⟩
  refine ⟨fun e he => ?_, [(Sum.inr "swap", .int 2 u1), (Sum.inr "take", .int 1 u2), (Sum.inr "move", .int 2 u3), (Sum.inr "lay", .int 1 u4)], ?_, ?_, by show ([Sum.inr (Str.ofString "swap"), Sum.inr (Str.ofString "take"), Sum.inr (Str.ofString "move"), Sum.inr (Str.ofString "lay")] : List Key).Nodup; decide +kernel⟩
  · have he : e ∈ [_, _, _, _] := Array.mem_toList_iff.mpr he
    rcases List.mem_cons.mp he with z | he
    · exact ⟨Sum.inr "swap", by rw [z]; rfl, by rw [z]; rfl⟩
    rcases List.mem_cons.mp he with z | he
    · exact ⟨Sum.inr "take", by rw [z]; rfl, by rw [z]; rfl⟩
    rcases List.mem_cons.mp he with z | he
    · exact ⟨Sum.inr "move", by rw [z]; rfl, by rw [z]; rfl⟩
    rw [List.mem_singleton.mp he]
    exact ⟨Sum.inr "lay", rfl, rfl⟩
  · exact .cons ⟨rfl, _, rfl⟩ (.cons ⟨rfl, _, rfl⟩ (.cons ⟨rfl, _, rfl⟩ (.cons ⟨rfl, _, rfl⟩ .nil)))
  · exact .cons rfl rfl (.cons rfl rfl (.cons rfl rfl (.cons rfl rfl .nil)))
theorem kv_swap : (valV kvsP (Sum.inr (Str.ofString "swap"))).getD V.non = V.int 2 := by decide +kernel
theorem kv_take : (valV kvsP (Sum.inr (Str.ofString "take"))).getD V.non = V.int 1 := by decide +kernel
theorem kv_move : (valV kvsP (Sum.inr (Str.ofString "move"))).getD V.non = V.int 2 := by decide +kernel
theorem kv_lay : (valV kvsP (Sum.inr (Str.ofString "lay"))).getD V.non = V.int 1 := by decide +kernel
theorem df_isdeed {pa : Addr} (a : At K mg "is_deed" s_isdeed) (B : Blt mg) (KP : KD K w pa kvsP) (MP : mg "PLACES_OF" = some (.ref pa)) (D_is_place : Df P w K mg base "is_place" ["thing", "n"] 1 spIsplace) : Df P w K mg base "is_deed" ["thing", "n"] 2 spIsdeed := by
  refine df_of (k := 1) a sc_isdeed (fun _ _ _ _ _ _ us hl => match us, hl with | [_, _], _ => rfl) (fun vs H Q E h => ?_) (fun f cdv A outer s H vs Q E hr h => ?_)
  · obtain ⟨_, _, _, _, rfl, _⟩ := h; rfl
  obtain ⟨dd, d, s0, t, rfl, hd, hdo, q⟩ := h
  have sc := sc_isdeed
  have hsl := hsl
  have Ball := B.all
  refine ⟨_, (pss_cons (ps_if (PW.pt (pw_or (pt_not (pt_val (pe_callB call_isi rfl B.isinstance bt_isinstance (pa_cons (pv 0) (pa_cons (pe_bltn (v := .ty "tuple") rfl B.tuple bt_tuple rfl) pa_nil))) (fun _ => rfl))) (pw_or1 (pt_cmpR op_eq (pe_callB call_len_seq rfl B.len bt_len (pa_cons (pv 0) pa_nil)) pe_int (nomark _))))) (pss_one (ps_ret pe_bl)) pss_nil)
    (pss_cons (ps_set (i := 2) sc.nd rfl (by first | exact Or.inl rfl | exact Or.inr rfl) (pe_ix ix_tup (pv 0) pe_int (fun _ _ => rfl)))
    (pss_cons (ps_if (PW.pt (pw_or (pt_not (pt_val (pe_callB call_isi rfl B.isinstance bt_isinstance (pa_cons (pv 2) (pa_cons (pe_bltn (v := .ty "str") rfl B.str bt_str rfl) pa_nil))) (fun _ => rfl))) (pw_or1 (pt_cmpR op_ne (pe_kget KP rfl MP (pv 2) ⟨rfl, rfl, rfl, rfl⟩) (pe_op op_sub (pe_callB call_len_seq rfl B.len bt_len (pa_cons (pv 0) pa_nil)) pe_int) (nomark _))))) (pss_one (ps_ret pe_bl)) pss_nil)
    (pss_one (ps_ret (pe_callB (call_allB rfl) rfl Ball bt_all (pa_cons (pe_comp (ts := [3]) rfl rfl (pi_tup (pe_slice sl_tup (pv 0) (po_some pe_int) po_none)) (fun _ _ _ _ => (pg_name (i := 3) sc.nd rfl (by first | exact Or.inl rfl | exact Or.inr rfl))) (fun _ _ _ _ => pif_nil) (fun _ _ _ _ => (pe_cd D_is_place hr rfl (pa_cons (pv 3) (pa_cons (pv 1) pa_nil))))) pa_nil))))))), ?_⟩
  rw [show start ["thing", "n", "word", "part"] [V.ref dd, V.int (s0.1.length : Int)] = [some (.ref dd), some (.int (s0.1.length : Int)), none, none] from rfl]
  walk_at "rd"
  simp only [rSlT]
  obtain ⟨l1, l2⟩ := dePl_len d
  have kk : ∃ k : Key, deW d = kV k ∧ (valV kvsP k).getD V.non = V.int ((dePl d).length : Int) := by
    cases d with
    | swap a b => exact ⟨Sum.inr (Str.ofString "swap"), rfl, kv_swap⟩
    | take p => exact ⟨Sum.inr (Str.ofString "take"), rfl, kv_take⟩
    | move p g => exact ⟨Sum.inr (Str.ofString "move"), rfl, kv_move⟩
    | lay g => exact ⟨Sum.inr (Str.ofString "lay"), rfl, kv_lay⟩
  obtain ⟨k, ek, ev⟩ := kk
  have ts : TyOf K H (deW d) (.type "str") := by cases d <;> exact .str _
  refine ⟨"tuple", _, rfl, .tup hd, _, iT_tt8, ?_⟩
  rw [if_neg (by decide)]
  refine ⟨_, .inr (SqT.of hd), rfl, ?_⟩
  rw [if_neg (by rw [deV_len]; omega)]
  refine ⟨_, SqT.of hd, deW d, by cases d <;> rfl, "str", _, rfl, ts, _, iT_ss8, ?_⟩
  rw [if_neg (by decide)]
  refine ⟨k, ek, _, .inr (SqT.of hd), ?_⟩
  rw [ev, deV_len, show (((dePl d).length + 1 : Nat) : Int) - 1 = ((dePl d).length : Int) by omega]
  refine ⟨rfl, ?_⟩
  rw [if_neg (not_not_intro rfl)]
  refine ⟨dd, deV d, rfl, SqT.of hd, deV_nall d, fun p hp => ⟨p, rfl, ⟨_, SqT.of upd_same⟩, fun D hD => ?_⟩⟩
  rw [dePl_cut]
  have kn := Kp.new (bs := []) (HO.tup ((dePl d).map (fun k : Nat => V.int (k : Int)))) hp
  have hpp := upd_same (H := H) (a := p) (o := HO.tup ((dePl d).map (fun k : Nat => V.int (k : Int))))
  rw [dePl_cut] at hD
  generalize upd H p (HO.tup ((dePl d).map (fun k : Nat => V.int (k : Int)))) = H1 at *
  refine cl_tup (xs := (dePl d).map (fun k : Nat => V.int (k : Int))) (fun i τ G => ∃ u, τ = [some (.ref dd), some (.int (s0.1.length : Int)), some (deW d), u] ∧ Kp [D] (upd H1 D (.lst [])) G ∧ G D = some (.lst ((List.replicate i true).map V.bl))) ?_ ?_ ?_ ?_
  · exact ⟨none, rfl, Kp.refl, upd_same⟩
  · rintro i τ G _ ⟨u, rfl, kq, hq⟩
    exact SqT.of (Kp.drop1 hD kq _ _ (by simp) hpp)
  · rintro i x τ G hx ⟨u, rfl, kq, hq⟩
    have hi := (List.getElem?_eq_some_iff.mp hx).1
    rw [List.length_map] at hi
    rw [List.getElem?_map, List.getElem?_eq_getElem hi] at hx
    injection hx with hx
    subst hx
    have hb := hdo.places _ (List.getElem_mem hi)
    walk_at "rd"
    refine ⟨_, _, rfl, ?_⟩
    refine ⟨_, hq, by rw [List.length_map, List.length_replicate]; omega, kq.trans (Kp.set _ (by simp)), ?_⟩
    rw [upd_same, List.replicate_succ', List.map_append, decide_eq_true (by omega)]; rfl
  · rintro τ G ⟨u, rfl, kq, hq⟩
    refine ⟨D, rfl, _, SqL.of hq, ?_⟩
    rw [show (List.replicate ((dePl d).map (fun k : Nat => V.int (k : Int))).length true).all id = true by simp]
    exact q _ (kn.trans (Kp.drop1 hD kq))
abbrev m_do : Stmt := (inClass (top 11) 1)
theorem sc_do : FnScope ["self", "thing", "word"] ["self", "thing"] (defScope m_do) := ⟨rfl, rfl, rfl, by decide +kernel, rfl, by decide +kernel, by decide +kernel⟩
def spDo (C : Addr) : Sp := fun vs H Q _ => ∃ (p rw_ mv dd : Addr) (s : ES) (ms : List Int) (d : De), vs = [.ref p, .ref dd] ∧ H dd = some (.tup (deV d)) ∧ s.1.length ≤ 1000 ∧ spMd C d p rw_ mv s ms H Q
theorem dm_do {C : Addr} (a : AtM K C "do" "Room.do" m_do) (R : RTx K C) (B : Blt mg) (D_is_deed : Df P w K mg base "is_deed" ["thing", "n"] 2 spIsdeed) (M_swap : Dm P w K mg base C "swap" ["self", "a", "b"] 2 (spSwap C)) (M_take : Dm P w K mg base C "take" ["self", "a"] 2 (spTakeM C))
    (M_move : Dm P w K mg base C "move" ["self", "a", "b"] 2 (spMove C)) (M_lay : Dm P w K mg base C "lay" ["self", "b"] 2 (spLay C)) : Dm P w K mg base C "do" ["self", "thing"] 3 (spDo C) := by
  refine dme_of (k := 2) a sc_do (fun _ _ _ _ _ _ us hl => match us, hl with | [_, _], _ => rfl) (fun vs H Q E h => ?_) (fun f cdv A outer s H vs Q E hr h => ?_)
  · obtain ⟨_, _, _, _, _, _, _, rfl, _⟩ := h; rfl
  obtain ⟨p, rw_, mv, dd, s0, ms, d, rfl, hd, hl, r, ok, t, hdo, q⟩ := h
  have sc := sc_do
  have hsl := hsl
  have CL := R.cl
  obtain ⟨dx, hp⟩ := r.ex
  refine ⟨_, (pss_cons (ps_if (pt_not (pt_val (pe_cd D_is_deed hr rfl (pa_cons (pv 1) (pa_cons (pe_callB call_len_seq rfl B.len bt_len (pa_cons (pe_fld (pv 0) rfl) pa_nil)) pa_nil))) (fun _ => rfl))) (pss_one ps_never) pss_nil)
    (pss_cons (ps_set (i := 2) sc.nd rfl (by first | exact Or.inl rfl | exact Or.inr rfl) (pe_ix ix_tup (pv 1) pe_int (fun _ _ => rfl)))
    (pss_one (ps_if (pt_cmpR op_eq (pv 2) pe_str (nomark _)) (pss_one (ps_expr (pe_md CL M_swap hr (pv 0) (pa_cons (pe_ix ix_tup (pv 1) pe_int (fun _ _ => rfl)) (pa_cons (pe_ix ix_tup (pv 1) pe_int (fun _ _ => rfl)) pa_nil))))) (pss_one (ps_if (pt_cmpR op_eq (pv 2) pe_str (nomark _)) (pss_one (ps_expr (pe_md CL M_take hr (pv 0) (pa_cons (pe_ix ix_tup (pv 1) pe_int (fun _ _ => rfl)) pa_nil)))) (pss_one (ps_if (pt_cmpR op_eq (pv 2) pe_str (nomark _)) (pss_one (ps_expr (pe_md CL M_move hr (pv 0) (pa_cons (pe_ix ix_tup (pv 1) pe_int (fun _ _ => rfl)) (pa_cons (pe_ix ix_tup (pv 1) pe_int (fun _ _ => rfl)) pa_nil))))) (pss_one (ps_expr (pe_md CL M_lay hr (pv 0) (pa_cons (pe_ix ix_tup (pv 1) pe_int (fun _ _ => rfl)) pa_nil)))))))))))), ?_⟩
  rw [show start ["self", "thing", "word"] [V.ref p, V.ref dd] = [some (.ref p), some (.ref dd), none] from rfl]
  refine seq_cut fun r1 hr1 => ?_
  walk_at "rd"
  refine ⟨_, _, _, hp, R.cl, R.nr, _, fl_row _ _ _, _, rfl, _, .inl (SqL.of r.row), ?_⟩
  rw [List.length_map]
  refine ⟨dd, d, s0, t, rfl, hd, hdo, fun H1 k1 => ⟨_, rfl, ?_⟩⟩
  rw [if_neg (by decide)]
  have r := r.kp k1 (by simp) (by simp) (by simp)
  have hd := k1 _ _ (by simp) hd
  obtain ⟨dx, hp⟩ := r.ex
  subst hr1
  refine seq_cut fun r1 hr1 => ?_
  walk_at "rd"
  refine ⟨_, SqT.of hd, deW d, by cases d <;> rfl, ?_⟩
  subst hr1
  have q : ∀ H', RoomAt C H' p rw_ mv t (counted d s0 ms) → Kp [p, rw_, mv] H1 H' → Q .non H' := fun H' r' k' => q H' r' ((k1.mono (by simp)).trans k')
  have nm : ∀ {m : Str}, (m == ("row" : Str)) = false → (m == ("hand" : Str)) = false → (m == ("moved" : Str)) = false → (rfl3 rw_ mv s0.2).lookup m = none := fun h1 h2 h3 => fl_no _ _ _ h1 h2 h3
  have c1 : ∀ {x y : String}, ¬ Str.ofString x = Str.ofString y → ¬ V.str (Str.ofString x) = V.str (Str.ofString y) := fun h z => h (by injection z)
  cases d with
  | swap a b =>
    rw [show deW (De.swap a b) = V.str (Str.ofString "swap") from rfl]
    walk_at "rd"
    refine ⟨rfl, ?_⟩
    try rw [if_pos rfl]
    exact ⟨_, _, hp, nm (by decide +kernel) (by decide +kernel) (by decide +kernel), _, SqT.of hd, _, rfl, _, SqT.of hd, _, rfl, p, rw_, mv, s0, ms, a, b, rfl, r, ok, t, hdo, q⟩
  | take a =>
    rw [show deW (De.take a) = V.str (Str.ofString "take") from rfl]
    walk_at "rd"
    refine ⟨rfl, ?_⟩
    rw [if_neg (c1 (by decide +kernel))]
    refine ⟨rfl, ?_⟩
    try rw [if_pos rfl]
    exact ⟨_, _, hp, nm (by decide +kernel) (by decide +kernel) (by decide +kernel), _, SqT.of hd, _, rfl, p, rw_, mv, s0, ms, a, rfl, r, ok, t, hdo, q⟩
  | move a b =>
    rw [show deW (De.move a b) = V.str (Str.ofString "move") from rfl]
    walk_at "rd"
    refine ⟨rfl, ?_⟩
    rw [if_neg (c1 (by decide +kernel))]
    refine ⟨rfl, ?_⟩
    rw [if_neg (c1 (by decide +kernel))]
    refine ⟨rfl, ?_⟩
    try rw [if_pos rfl]
    exact ⟨_, _, hp, nm (by decide +kernel) (by decide +kernel) (by decide +kernel), _, SqT.of hd, _, rfl, _, SqT.of hd, _, rfl, p, rw_, mv, s0, ms, a, b, rfl, r, ok, t, hdo, q⟩
  | lay a =>
    rw [show deW (De.lay a) = V.str (Str.ofString "lay") from rfl]
    walk_at "rd"
    refine ⟨rfl, ?_⟩
    rw [if_neg (c1 (by decide +kernel))]
    refine ⟨rfl, ?_⟩
    rw [if_neg (c1 (by decide +kernel))]
    refine ⟨rfl, ?_⟩
    rw [if_neg (c1 (by decide +kernel))]
    exact ⟨_, _, hp, nm (by decide +kernel) (by decide +kernel) (by decide +kernel), _, SqT.of hd, _, rfl, p, rw_, mv, s0, ms, a, rfl, r, ok, t, hdo, q⟩
abbrev m_init : Stmt := (inClass (top 11) 0)
theorem sc_init : FnScope ["self", "n"] ["self", "n"] (defScope m_init) := ⟨rfl, rfl, rfl, by decide +kernel, rfl, by decide +kernel, by decide +kernel⟩
def spInit (C : Addr) : Sp := fun vs H Q _ => ∃ (p dx : Addr) (n : Nat), vs = [.ref p, .int (n : Int)] ∧ H p = some (.ins C dx []) ∧ n ≤ 1000 ∧
  ∀ rw_ mv H', H rw_ = none → H mv = none → RoomAt C H' p rw_ mv ((rngL 0 1 n).map some, none) (List.replicate n 0) → Kp [p] H H' → Q .non H'
theorem dm_init {C : Addr} (a : AtM K C "__init__" "Room.__init__" m_init) (R : RTx K C) (B : Blt mg) : Dm P w K mg base C "__init__" ["self", "n"] 1 (spInit C) := by
  refine dme_of (k := 0) a sc_init (fun _ _ _ _ _ _ us hl => match us, hl with | [_, _], _ => rfl) (fun vs H Q E h => ?_) (fun f cdv A outer s H vs Q E hr h => ?_)
  · obtain ⟨_, _, _, rfl, _⟩ := h; rfl
  obtain ⟨p, dx, n, rfl, hp, hn, q⟩ := h
  have sc := sc_init
  have hsl := hsl
  have CL := R.cl
  refine ⟨_, (pss_cons (ps_fld (pv 0) (pe_callTy (call_list_rng rfl) rfl B.list bt_list (pa_cons (pe_callTy call_range1 rfl B.range bt_range (pa_cons (pv 1) pa_nil)) pa_nil)) rfl)
    (pss_cons (ps_fld (pv 0) pe_non rfl)
    (pss_one (ps_fld (pv 0) (pe_op op_rep (pe_lst (pa_cons pe_int pa_nil)) (pv 1)) rfl)))), ?_⟩
  rw [show start ["self", "n"] [V.ref p, V.int (n : Int)] = [some (.ref p), some (.int (n : Int))] from rfl]
  refine seq_cut fun r1 hr1 => ?_
  walk_at "rd"
  refine fun g1 hg1 => ⟨_, _, _, upd_same, small_one (by omega) (by omega) (by omega) (by omega), n, by rw [rangeSize_one]; split <;> omega, by omega, fun g2 hg2 => ?_⟩
  have ng := (Kp.new (bs := []) (RngO g1 0 (n : Int) 1) hg1).trans (Kp.new (HO.lst (List.map V.int (rngL 0 1 n))) hg2)
  have n2 : H g2 = none := (Kp.new (bs := []) (RngO g1 0 (n : Int) 1) hg1).free hg2
  have hg := upd_same (H := upd H g1 (RngO g1 0 (n : Int) 1)) (a := g2) (o := HO.lst (List.map V.int (rngL 0 1 n)))
  generalize upd (upd H g1 (RngO g1 0 (n : Int) 1)) g2 (HO.lst (List.map V.int (rngL 0 1 n))) = H1 at *
  have hp1 := ng _ _ (by simp) hp
  have np2 : g2 ≠ p := fun z => by rw [z, hp] at n2; cases n2
  refine ⟨_, _, _, hp1, R.cl, R.nr, by show 0 < 1000; decide, ?_⟩
  subst hr1
  refine seq_cut fun r1 hr1 => ?_
  walk_at "rd"
  refine ⟨_, _, _, upd_same, R.cl, R.nh, by show 1 < 1000; decide, ?_⟩
  subst hr1
  have k2 := ((ng.mono (bs' := [p]) (by simp)).trans (Kp.set (bs := [p]) (p := p) (HO.ins C dx (putF "row" (V.ref g2) [])) (by simp))).trans (Kp.set (bs := [p]) (p := p) (HO.ins C dx (putF "hand" V.non (putF "row" (V.ref g2) []))) (by simp))
  have hp2 := upd_same (H := upd H1 p (HO.ins C dx (putF "row" (V.ref g2) []))) (a := p) (o := HO.ins C dx (putF "hand" V.non (putF "row" (V.ref g2) [])))
  have hg' : upd (upd H1 p (HO.ins C dx (putF "row" (V.ref g2) []))) p (HO.ins C dx (putF "hand" V.non (putF "row" (V.ref g2) []))) g2 = some (HO.lst (List.map V.int (rngL 0 1 n))) := (upd_ne np2).trans ((upd_ne np2).trans hg)
  generalize upd (upd H1 p (HO.ins C dx (putF "row" (V.ref g2) []))) p (HO.ins C dx (putF "hand" V.non (putF "row" (V.ref g2) []))) = H2 at *
  walk_at "rd"
  refine ⟨by show 1 ≤ sizeLine; omega, fun g3 hg3 => ⟨_, upd_same, by omega, by omega, by rw [Int.toNat_natCast]; show 1 * n ≤ sizeLine; omega, fun g4 hg4 => ?_⟩⟩
  rw [Int.toNat_natCast, rep1]
  have kn := (Kp.new (bs := []) (HO.lst [V.int 0]) hg3).trans (Kp.new (HO.lst (List.replicate n (V.int 0))) hg4)
  have n4 : H2 g4 = none := (Kp.new (bs := []) (HO.lst [V.int 0]) hg3).free hg4
  have hg5 := upd_same (H := upd H2 g3 (HO.lst [V.int 0])) (a := g4) (o := HO.lst (List.replicate n (V.int 0)))
  generalize upd (upd H2 g3 (HO.lst [V.int 0])) g4 (HO.lst (List.replicate n (V.int 0))) = H3 at *
  have np4 : g4 ≠ p := fun z => by rw [z, hp2] at n4; cases n4
  have n24 : g2 ≠ g4 := fun z => by rw [← z, hg'] at n4; cases n4
  refine ⟨_, _, _, kn _ _ (by simp) hp2, R.cl, R.nm, by show 2 < 1000; decide, ?_⟩
  have n40 : H g4 = none := by
    cases e : H g4 with
    | none => rfl
    | some o => rw [k2 _ _ (by simpa using np4) e] at n4; cases n4
  have ef : putF "moved" (V.ref g4) (putF "hand" V.non (putF "row" (V.ref g2) [])) = rfl3 g2 g4 none := by
    show putF "moved" (V.ref g4) (if ("row" : Str) = "hand" then _ else (("row" : Str), V.ref g2) :: putF "hand" V.non []) = _
    rw [if_neg (by decide +kernel)]
    show (if ("row" : Str) = "moved" then _ else (("row" : Str), V.ref g2) :: (if ("hand" : Str) = "moved" then _ else (("hand" : Str), V.non) :: putF "moved" (V.ref g4) [])) = _
    rw [if_neg (by decide +kernel), if_neg (by decide +kernel)]
    rfl
  rw [ef]
  refine q g2 g4 _ n2 n40 ⟨⟨dx, upd_same⟩, ?_, ?_, n24⟩ ((k2.trans (kn.mono (by simp))).trans (Kp.set _ (by simp)))
  · exact (upd_ne np2).trans ((kn _ _ (by simp) hg').trans (by rw [List.map_map]; rfl))
  · exact (upd_ne np4).trans (hg5.trans (show _ = some (HO.lst ((List.replicate n (0 : Int)).map V.int)) by rw [List.map_replicate]))
abbrev s_same : Stmt := top 24
theorem sc_same : FnScope ["_law_found", "_law_due", "_law_one", "_law_other"] ["_law_found", "_law_due"] (defScope s_same) := ⟨rfl, rfl, rfl, by decide +kernel, rfl, by decide +kernel, by decide +kernel⟩
theorem df_same0 (a : At K mg "_law_same" s_same) : Df P w K mg base "_law_same" ["_law_found", "_law_due"] 1 (fun _ _ _ _ => False) :=
  df_of (k := 0) a sc_same (fun _ _ _ _ _ _ us hl => match us, hl with | [_, _], _ => rfl) (fun vs H Q E h => h.elim) (fun f cdv A outer s H vs Q E hr h => h.elim)
theorem Df.imp {x : Str} {ps : List Str} {sp sp' : Sp} {k : Nat} (D : Df P w K mg base x ps k sp) (h : ∀ vs H Q E, sp' vs H Q E → sp vs H Q E) : Df P w K mg base x ps k sp' :=
  let ⟨f, fd, F, r⟩ := D
  ⟨f, fd, F.imp h, r⟩
theorem iTs_i : isTs "int" ["list", "tuple"] = some false := by decide +kernel
theorem iT_is : isT "int" "str" = some false := by decide +kernel
theorem iT_ii : isT "int" "int" = some true := by decide +kernel
theorem iT_ib : isT "int" "bool" = some false := by decide +kernel
def spSameI : Sp := fun vs H Q _ => ∃ i : Int, vs = [.int i, .int i] ∧ ∀ H', Kp [] H H' → Q (.bl true) H'
theorem df_sameI (a : At K mg "_law_same" s_same) (B : Blt mg) (D_law_same : Df P w K mg base "_law_same" ["_law_found", "_law_due"] 1 (fun _ _ _ _ => False)) : Df P w K mg base "_law_same" ["_law_found", "_law_due"] 2 spSameI := by
  refine df_of (k := 1) a sc_same (fun _ _ _ _ _ _ us hl => match us, hl with | [_, _], _ => rfl) (fun vs H Q E h => ?_) (fun f cdv A outer s H vs Q E hr h => ?_)
  · obtain ⟨i, rfl, _⟩ := h; rfl
  have sc := sc_same
  have hsl := hsl
  have Ball := B.all
  obtain ⟨i, rfl, q⟩ := h
  refine ⟨_, (pss_cons (ps_if (pt_val (pe_callB call_isis rfl B.isinstance bt_isinstance (pa_cons (pv 1) (pa_cons (pe_tup (pa_cons (pe_bltn (v := .ty "list") rfl B.list bt_list rfl) (pa_cons (pe_bltn (v := .ty "tuple") rfl B.tuple bt_tuple rfl) pa_nil))) pa_nil))) (fun _ => rfl)) (pss_cons (ps_if (PW.pt (pw_or (pt_cmpR op_ne (pe_callB call_isi rfl B.isinstance bt_isinstance (pa_cons (pv 0) (pa_cons (pe_bltn (v := .ty "list") rfl B.list bt_list rfl) pa_nil))) (pe_callB call_isi rfl B.isinstance bt_isinstance (pa_cons (pv 1) (pa_cons (pe_bltn (v := .ty "list") rfl B.list bt_list rfl) pa_nil))) (nomark _)) (pw_or1 (pt_cmpR op_ne (pe_callB call_isi rfl B.isinstance bt_isinstance (pa_cons (pv 0) (pa_cons (pe_bltn (v := .ty "tuple") rfl B.tuple bt_tuple rfl) pa_nil))) (pe_callB call_isi rfl B.isinstance bt_isinstance (pa_cons (pv 1) (pa_cons (pe_bltn (v := .ty "tuple") rfl B.tuple bt_tuple rfl) pa_nil))) (nomark _))))) (pss_one (ps_ret pe_bl)) pss_nil)
    (pss_one (ps_ret (pe_and (pe_cmpR op_eq (pe_callB call_len_seq rfl B.len bt_len (pa_cons (pv 0) pa_nil)) (pe_callB call_len_seq rfl B.len bt_len (pa_cons (pv 1) pa_nil)) (nomark _)) (pe_one (pe_callB (call_allB rfl) rfl Ball bt_all (pa_cons (pe_comp (ts := [2, 3]) rfl rfl (pi_zipLT rfl B.zip (pa_cons (pv 0) (pa_cons (pv 1) pa_nil))) (fun _ _ _ _ => (pg_tupK (K := K) 2 rfl rfl (pgs_cons (pg_name (i := 2) sc.nd rfl (by first | exact Or.inl rfl | exact Or.inr rfl)) (pgs_cons (pg_name (i := 3) sc.nd rfl (by first | exact Or.inl rfl | exact Or.inr rfl)) pgs_nil)))) (fun _ _ _ _ => pif_nil) (fun _ _ _ _ => (pe_cd D_law_same hr rfl (pa_cons (pv 2) (pa_cons (pv 3) pa_nil))))) pa_nil))))))) pss_nil)
    (pss_cons (ps_if (PW.pt (pw_or (pt_cmpR op_isN (pv 1) pe_non (nomark _)) (pw_or1 (pt_val (pe_callB call_isi rfl B.isinstance bt_isinstance (pa_cons (pv 1) (pa_cons (pe_bltn (v := .ty "str") rfl B.str bt_str rfl) pa_nil))) (fun _ => rfl))))) (pss_one (ps_ret (pe_and (pe_cmpR op_eq (pv 0) (pv 1) (nomark _)) (pe_one (pe_cmpR op_eq (pe_callB call_isi rfl B.isinstance bt_isinstance (pa_cons (pv 0) (pa_cons (pe_bltn (v := .ty "str") rfl B.str bt_str rfl) pa_nil))) (pe_callB call_isi rfl B.isinstance bt_isinstance (pa_cons (pv 1) (pa_cons (pe_bltn (v := .ty "str") rfl B.str bt_str rfl) pa_nil))) (nomark _)))))) pss_nil)
    (pss_one (ps_ret (pe_and (pe_callB call_isi rfl B.isinstance bt_isinstance (pa_cons (pv 0) (pa_cons (pe_bltn (v := .ty "int") rfl B.int bt_int rfl) pa_nil))) (pe_and (pe_cmpR op_eq (pe_callB call_isi rfl B.isinstance bt_isinstance (pa_cons (pv 0) (pa_cons (pe_bltn (v := .ty "bool") rfl B.bool bt_bool rfl) pa_nil))) (pe_callB call_isi rfl B.isinstance bt_isinstance (pa_cons (pv 1) (pa_cons (pe_bltn (v := .ty "bool") rfl B.bool bt_bool rfl) pa_nil))) (nomark _)) (pe_one (pe_cmpR op_eq (pv 0) (pv 1) (nomark _))))))))), ?_⟩
  rw [show start ["_law_found", "_law_due", "_law_one", "_law_other"] [V.int i, V.int i] = [some (.int i), some (.int i), none, none] from rfl]
  walk_at "rd"
  refine ⟨by show 2 ≤ sizeLine; decide, fun p hp => ⟨"int", ["list", "tuple"], upd_same, .int i, false, iTs_i, ?_⟩⟩
  rw [if_neg (by decide), if_neg (fun z => nomatch z)]
  refine ⟨"int", "str", rfl, .int i, false, iT_is, ?_⟩
  rw [if_neg (by decide)]
  refine ⟨"int", "int", rfl, .int i, true, iT_ii, ?_⟩
  rw [if_pos rfl]
  refine ⟨"int", "bool", rfl, .int i, false, iT_ib, "int", "bool", rfl, .int i, false, iT_ib, rfl, ?_⟩
  rw [if_pos rfl]
  exact ⟨rfl, q _ (Kp.new _ hp)⟩
theorem iTs_t : isTs "tuple" ["list", "tuple"] = some true := by decide +kernel
theorem iT_tl : isT "tuple" "list" = some false := by decide +kernel
theorem iT_tt : isT "tuple" "tuple" = some true := by decide +kernel
def spSameT (inner : Sp) : Sp := fun vs H Q _ => ∃ (a b : Addr) (xs ys : List V), vs = [.ref a, .ref b] ∧ H a = some (.tup xs) ∧ H b = some (.tup ys) ∧ xs.length = ys.length ∧ ys.length ≤ 2000 ∧
  (∀ (i : Nat) (x y : V) (G : Hp) (Q' : VK), xs[i]? = some x → ys[i]? = some y → Kp [] H G → (∀ G', Kp [] G G' → Q' (.bl true) G') → inner [x, y] G Q' E0) ∧ ∀ H', Kp [] H H' → Q (.bl true) H'
theorem df_sameT {kk : Nat} {inner : Sp} (a : At K mg "_law_same" s_same) (B : Blt mg) (D_law_same : Df P w K mg base "_law_same" ["_law_found", "_law_due"] kk inner) : Df P w K mg base "_law_same" ["_law_found", "_law_due"] (kk + 1) (spSameT inner) := by
  refine df_of (k := kk) a sc_same (fun _ _ _ _ _ _ us hl => match us, hl with | [_, _], _ => rfl) (fun vs H Q E h => ?_) (fun f cdv A outer s H vs Q E hr h => ?_)
  · obtain ⟨a, b, xs, ys, rfl, _⟩ := h; rfl
  obtain ⟨a, b, xs, ys, rfl, ha, hb, hl, hx, hin, q⟩ := h
  have sc := sc_same
  have hsl := hsl
  have Ball := B.all
  refine ⟨_, (pss_cons (ps_if (pt_val (pe_callB call_isis rfl B.isinstance bt_isinstance (pa_cons (pv 1) (pa_cons (pe_tup (pa_cons (pe_bltn (v := .ty "list") rfl B.list bt_list rfl) (pa_cons (pe_bltn (v := .ty "tuple") rfl B.tuple bt_tuple rfl) pa_nil))) pa_nil))) (fun _ => rfl)) (pss_cons (ps_if (PW.pt (pw_or (pt_cmpR op_ne (pe_callB call_isi rfl B.isinstance bt_isinstance (pa_cons (pv 0) (pa_cons (pe_bltn (v := .ty "list") rfl B.list bt_list rfl) pa_nil))) (pe_callB call_isi rfl B.isinstance bt_isinstance (pa_cons (pv 1) (pa_cons (pe_bltn (v := .ty "list") rfl B.list bt_list rfl) pa_nil))) (nomark _)) (pw_or1 (pt_cmpR op_ne (pe_callB call_isi rfl B.isinstance bt_isinstance (pa_cons (pv 0) (pa_cons (pe_bltn (v := .ty "tuple") rfl B.tuple bt_tuple rfl) pa_nil))) (pe_callB call_isi rfl B.isinstance bt_isinstance (pa_cons (pv 1) (pa_cons (pe_bltn (v := .ty "tuple") rfl B.tuple bt_tuple rfl) pa_nil))) (nomark _))))) (pss_one (ps_ret pe_bl)) pss_nil)
    (pss_one (ps_ret (pe_and (pe_cmpR op_eq (pe_callB call_len_seq rfl B.len bt_len (pa_cons (pv 0) pa_nil)) (pe_callB call_len_seq rfl B.len bt_len (pa_cons (pv 1) pa_nil)) (nomark _)) (pe_one (pe_callB (call_allB rfl) rfl Ball bt_all (pa_cons (pe_comp (ts := [2, 3]) rfl rfl (pi_zipLT rfl B.zip (pa_cons (pv 0) (pa_cons (pv 1) pa_nil))) (fun _ _ _ _ => (pg_tupK (K := K) 2 rfl rfl (pgs_cons (pg_name (i := 2) sc.nd rfl (by first | exact Or.inl rfl | exact Or.inr rfl)) (pgs_cons (pg_name (i := 3) sc.nd rfl (by first | exact Or.inl rfl | exact Or.inr rfl)) pgs_nil)))) (fun _ _ _ _ => pif_nil) (fun _ _ _ _ => (pe_cd D_law_same hr rfl (pa_cons (pv 2) (pa_cons (pv 3) pa_nil))))) pa_nil))))))) pss_nil)
    (pss_cons (ps_if (PW.pt (pw_or (pt_cmpR op_isN (pv 1) pe_non (nomark _)) (pw_or1 (pt_val (pe_callB call_isi rfl B.isinstance bt_isinstance (pa_cons (pv 1) (pa_cons (pe_bltn (v := .ty "str") rfl B.str bt_str rfl) pa_nil))) (fun _ => rfl))))) (pss_one (ps_ret (pe_and (pe_cmpR op_eq (pv 0) (pv 1) (nomark _)) (pe_one (pe_cmpR op_eq (pe_callB call_isi rfl B.isinstance bt_isinstance (pa_cons (pv 0) (pa_cons (pe_bltn (v := .ty "str") rfl B.str bt_str rfl) pa_nil))) (pe_callB call_isi rfl B.isinstance bt_isinstance (pa_cons (pv 1) (pa_cons (pe_bltn (v := .ty "str") rfl B.str bt_str rfl) pa_nil))) (nomark _)))))) pss_nil)
    (pss_one (ps_ret (pe_and (pe_callB call_isi rfl B.isinstance bt_isinstance (pa_cons (pv 0) (pa_cons (pe_bltn (v := .ty "int") rfl B.int bt_int rfl) pa_nil))) (pe_and (pe_cmpR op_eq (pe_callB call_isi rfl B.isinstance bt_isinstance (pa_cons (pv 0) (pa_cons (pe_bltn (v := .ty "bool") rfl B.bool bt_bool rfl) pa_nil))) (pe_callB call_isi rfl B.isinstance bt_isinstance (pa_cons (pv 1) (pa_cons (pe_bltn (v := .ty "bool") rfl B.bool bt_bool rfl) pa_nil))) (nomark _)) (pe_one (pe_cmpR op_eq (pv 0) (pv 1) (nomark _))))))))), ?_⟩
  rw [show start ["_law_found", "_law_due", "_law_one", "_law_other"] [V.ref a, V.ref b] = [some (.ref a), some (.ref b), none, none] from rfl]
  walk_at "rd"
  refine ⟨by show 2 ≤ sizeLine; decide, fun p hp => ?_⟩
  have k1 := Kp.new (bs := []) (HO.tup [V.ty "list", V.ty "tuple"]) hp
  have ha1 := k1 _ _ (by simp) ha
  have hb1 := k1 _ _ (by simp) hb
  refine ⟨"tuple", ["list", "tuple"], upd_same, .tup hb1, true, iTs_t, ?_⟩
  rw [if_pos rfl]
  refine ⟨"tuple", "list", rfl, .tup ha1, false, iT_tl, "tuple", "list", rfl, .tup hb1, false, iT_tl, rfl, ?_⟩
  rw [if_neg (not_not_intro rfl)]
  refine ⟨"tuple", "tuple", rfl, .tup ha1, true, iT_tt, "tuple", "tuple", rfl, .tup hb1, true, iT_tt, rfl, ?_⟩
  rw [if_neg (not_not_intro rfl)]
  have k2 := k1
  have ha2 := ha1
  have hb2 := hb1
  generalize upd H p (HO.tup [V.ty "list", V.ty "tuple"]) = G at *
  refine ⟨_, .inr (SqT.of ha2), _, .inr (SqT.of hb2), rfl, ?_⟩
  rw [if_pos (by rw [hl])]
  refine .inr ⟨⟨_, SqT.of ha2⟩, ⟨_, SqT.of hb2⟩, fun D hD => ?_⟩
  refine cl_zipT (xs := xs) (ys := ys) (fun i τ H' => ∃ u v, τ = [some (.ref a), some (.ref b), u, v] ∧ Kp [D] (upd G D (.lst [])) H' ∧ H' D = some (.lst (List.map V.bl (List.replicate i true)))) (Nat.le_of_eq hl) ?_ ?_ ?_ ?_
  · exact ⟨none, none, rfl, Kp.refl, upd_same⟩
  · rintro i τ H' _ ⟨u, v, rfl, kp, hd⟩
    have k0 := Kp.drop1 hD kp
    exact ⟨SqT.of (k0 _ _ (by simp) ha2), SqT.of (k0 _ _ (by simp) hb2)⟩
  · rintro i x y pp τ H' hx' hy' hpp ⟨u, v, rfl, kp, hd⟩
    have k0 := Kp.drop1 hD kp
    have hi : i < xs.length := (List.getElem?_eq_some_iff.mp hx').1
    walk_at "rd"
    refine ⟨_, SqT.of upd_same, rfl, _, _, rfl, _, _, rfl, rfl, hin i x y _ _ hx' hy' ((k2.trans k0).trans (Kp.new _ hpp)) fun H2 k2 => ?_⟩
    have hd2 := k2 _ _ (by simp) ((upd_ne (ne_of_none hd hpp)).trans hd)
    refine ⟨_, hd2, by rw [List.length_map, List.length_replicate]; omega, ((kp.trans (Kp.new _ hpp)).trans (k2.mono (by simp))).trans (Kp.set _ (by simp)), ?_⟩
    exact upd_same.trans (congrArg some (congrArg HO.lst (by rw [List.replicate_succ', List.map_append]; rfl)))
  · rintro τ H' ⟨u, v, rfl, kp, hd⟩
    refine ⟨_, rfl, _, SqL.of hd, ?_⟩
    rw [show (List.replicate xs.length true).all id = true by simp]
    exact q _ (k2.trans (Kp.drop1 hD kp))
/-! ### deeds done in a row, with the counts -/
inductive DosM : List De → ES → ES → List Int → List Int → Prop
  | nil {s : ES} {ms : List Int} : DosM [] s s ms ms
  | cons {d : De} {l : List De} {s t u : ES} {ms ms' : List Int} : DoE d s t → DosM l t u (counted d s ms) ms' → DosM (d :: l) s u ms ms'
theorem DosE.withM {l : List De} {s t : ES} (h : DosE l s t) : ∀ ms, ∃ ms', DosM l s t ms ms' := by
  induction h with
  | nil => exact fun ms => ⟨ms, .nil⟩
  | cons d _ ih =>
    intro ms
    obtain ⟨ms', h⟩ := ih (counted _ _ ms)
    exact ⟨ms', .cons d h⟩
theorem DosM.len {l : List De} {s t : ES} {ms ms' : List Int} (h : DosM l s t ms ms') : t.1.length = s.1.length ∧ ms'.length = ms.length := by
  induction h with
  | nil => exact ⟨rfl, rfl⟩
  | cons d _ ih => exact ⟨ih.1.trans d.len, ih.2.trans (counted_len _ _ _)⟩
def NoneOk (s : ES) : Prop := s.1.countP (·.isNone) = if s.2.isSome then 1 else 0
theorem cset {row : List (Option Int)} {a : Nat} {c : Option Int} (h : row[a]? = some c) (v : Option Int) : (row.set a v).countP (·.isNone) + (if c.isNone then 1 else 0) = row.countP (·.isNone) + if v.isNone then 1 else 0 := by
  obtain ⟨hl, e⟩ := List.getElem?_eq_some_iff.mp h
  have := List.countP_set (p := fun x : Option Int => x.isNone) (a := v) hl
  rw [this, e]
  have hp : (if c.isNone = true then 1 else 0) ≤ row.countP (·.isNone) := by
    split
    · exact List.countP_pos_iff.mpr ⟨c, List.mem_of_getElem? h, by assumption⟩
    · exact Nat.zero_le _
  omega
theorem DoE.noneOk {d : De} {s t : ES} (h : DoE d s t) (o : NoneOk s) : NoneOk t := by
  unfold NoneOk at *
  cases h with
  | @swap a b row hd x y ne h1 h2 =>
    have e1 := cset h1 (some y)
    have h2' : (row.set a (some y))[b]? = some (some y) := by rw [List.getElem?_set, if_neg ne]; exact h2
    have e2 := cset h2' (some x)
    simp only [Option.isNone_some, Bool.false_eq_true, if_false] at e1 e2
    show ((row.set a (some y)).set b (some x)).countP _ = if hd.isSome = true then 1 else 0
    have o : row.countP (·.isNone) = if hd.isSome = true then 1 else 0 := o
    omega
  | @take p row x h1 =>
    have e1 := cset h1 none
    simp only [Option.isNone_some, Option.isNone_none, Bool.false_eq_true, if_false, if_true] at e1
    have o : row.countP (·.isNone) = 0 := o
    show (row.set p none).countP _ = 1
    omega
  | @move p g row hd x h1 h2 =>
    have ne : p ≠ g := fun z => by rw [z, h2] at h1; cases h1
    have e1 := cset h1 none
    have h2' : (row.set p none)[g]? = some none := by rw [List.getElem?_set, if_neg ne]; exact h2
    have e2 := cset h2' (some x)
    simp only [Option.isNone_some, Option.isNone_none, Bool.false_eq_true, if_false, if_true] at e1 e2
    show ((row.set p none).set g (some x)).countP _ = if hd.isSome = true then 1 else 0
    have o : row.countP (·.isNone) = if hd.isSome = true then 1 else 0 := o
    omega
  | @lay g row x h1 =>
    have e1 := cset h1 (some x)
    simp only [Option.isNone_some, Option.isNone_none, Bool.false_eq_true, if_false, if_true] at e1
    have o : row.countP (·.isNone) = 1 := o
    show (row.set g (some x)).countP _ = 0
    omega
abbrev startE (n : Nat) : ES := ((rngL 0 1 n).map some, none)
theorem start_ok (n : Nat) : OkM (startE n) n := by
  refine ⟨fun x hx => ?_, fun x hx => nomatch hx⟩
  obtain ⟨y, hy, e⟩ := List.mem_map.mp hx
  injection e with e
  subst e
  unfold rngL at hy
  obtain ⟨k, hk, e⟩ := List.mem_map.mp hy
  rw [List.mem_range] at hk
  omega
theorem start_none (n : Nat) : NoneOk (startE n) := by
  unfold NoneOk
  show ((rngL 0 1 n).map some).countP _ = 0
  rw [List.countP_eq_zero]
  intro a ha
  obtain ⟨y, _, e⟩ := List.mem_map.mp ha
  subst e
  simp
theorem start_len (n : Nat) : (startE n).1.length = n := by show ((rngL 0 1 n).map some).length = n; rw [List.length_map, rngL_length]
theorem all_some {s : ES} (o : NoneOk s) (h : s.2 = none) : ∃ os : List Int, s.1 = os.map some := by
  unfold NoneOk at o
  rw [h] at o
  have o : s.1.countP (·.isNone) = 0 := o
  rw [List.countP_eq_zero] at o
  refine ⟨s.1.map fun c => c.getD 0, ?_⟩
  rw [List.map_map]
  refine (List.map_id s.1).symm.trans (List.map_congr_left fun c hc => ?_)
  cases c with
  | none => exact absurd rfl (o none hc)
  | some x => rfl
theorem tde_at {qs : List (Addr × De)} {i : Nat} {x : V} (h : (tfs (deP qs))[i]? = some x) : ∃ y, y ∈ qs ∧ qs[i]? = some y ∧ x = .ref y.1 := by
  unfold tfs deP at h
  rw [List.map_map, List.getElem?_map] at h
  cases e : qs[i]? with
  | none => rw [e] at h; cases h
  | some y =>
    rw [e] at h
    injection h with h
    exact ⟨y, List.mem_of_getElem? e, rfl, h.symm⟩
abbrev s_rbehind : Stmt := top 13
theorem sc_rbehind : FnScope ["n", "plan", "room", "at", "deed"] ["n", "plan"] (defScope s_rbehind) := ⟨rfl, rfl, rfl, by decide +kernel, rfl, by decide +kernel, by decide +kernel⟩
def spRbehind (C : Addr) : Sp := fun vs H Q _ => ∃ (n : Nat) (pp : Addr) (qs : List (Addr × De)) (t : ES) (ms : List Int), vs = [.int (n : Int), .ref pp] ∧ (H pp = some (.lst (tfs (deP qs))) ∨ H pp = some (.tup (tfs (deP qs)))) ∧ (∀ q ∈ qs, H q.1 = some (.tup (deV q.2))) ∧ DosM (qs.map (·.2)) (startE n) t (List.replicate n 0) ms ∧ n ≤ 1000 ∧ qs.length ≤ 10000 ∧
  ∀ p rw_ mv H', H p = none → H rw_ = none → H mv = none → Kp [] H H' → RoomAt C H' p rw_ mv t ms → Q (.ref p) H'
theorem iTs_ll : isTs "list" ["list", "tuple"] = some true := by decide +kernel
theorem iTs_tt : isTs "tuple" ["list", "tuple"] = some true := by decide +kernel
theorem df_rbehind {C : Addr} (a : At K mg "room_behind" s_rbehind) (R : RTx K C) (B : Blt mg) (M_Room : Mkr P w K mg base "Room" C ["self", "n"] 4 (spInit C)) (M_do : Dm P w K mg base C "do" ["self", "thing"] 5 (spDo C)) : Df P w K mg base "room_behind" ["n", "plan"] 6 (spRbehind C) := by
  refine df_of (k := 5) a sc_rbehind (fun _ _ _ _ _ _ us hl => match us, hl with | [_, _], _ => rfl) (fun vs H Q E h => ?_) (fun f cdv A outer s H vs Q E hr h => ?_)
  · obtain ⟨_, _, _, _, _, rfl, _⟩ := h; rfl
  obtain ⟨n, pp, qs, t, ms, rfl, hpp, hqs, hdo, hn, hl, q⟩ := h
  have sc := sc_rbehind
  have hsl := hsl
  have CL := R.cl
  refine ⟨_, (pss_cons (ps_if (pt_not (pt_val (pe_callB call_isis rfl B.isinstance bt_isinstance (pa_cons (pv 1) (pa_cons (pe_tup (pa_cons (pe_bltn (v := .ty "list") rfl B.list bt_list rfl) (pa_cons (pe_bltn (v := .ty "tuple") rfl B.tuple bt_tuple rfl) pa_nil))) pa_nil))) (fun _ => rfl))) (pss_one ps_never) pss_nil)
    (pss_cons (ps_set (i := 2) sc.nd rfl (by first | exact Or.inl rfl | exact Or.inr rfl) (pe_mk M_Room hr rfl (pa_cons (pv 0) pa_nil)))
    (pss_cons (ps_for PassesOwn.never rfl (pi_enumLT rfl B.enumerate (pa_cons (pv 1) pa_nil)) (pg_tupK (K := K) 2 rfl rfl (pgs_cons (pg_name (i := 3) sc.nd rfl (by first | exact Or.inl rfl | exact Or.inr rfl)) (pgs_cons (pg_name (i := 4) sc.nd rfl (by first | exact Or.inl rfl | exact Or.inr rfl)) pgs_nil))) (pss_one (ps_try0 (fun _ _ z => z) (pss_one (ps_expr (pe_md CL M_do hr (pv 2) (pa_cons (pv 4) pa_nil)))))))
    (pss_one (ps_ret (pv 2)))))), ?_⟩
  rw [show start ["n", "plan", "room", "at", "deed"] [V.int (n : Int), V.ref pp] = [some (.int (n : Int)), some (.ref pp), none, none, none] from rfl]
  refine seq_cut fun r1 hr1 => ?_
  walk_at "rd"
  refine ⟨by show 2 ≤ sizeLine; omega, fun g0 hg0 => ?_⟩
  have n0 := Kp.new (bs := []) (HO.tup [V.ty "list", V.ty "tuple"]) hg0
  have e0 := upd_same (H := H) (a := g0) (o := HO.tup [V.ty "list", V.ty "tuple"])
  have key : ∃ T, TyOf K (upd H g0 (HO.tup [V.ty "list", V.ty "tuple"])) (V.ref pp) (Value.type T) ∧ isTs T ["list", "tuple"] = some true := by
    rcases hpp with z | z
    · exact ⟨"list", .lst (n0 _ _ (by simp) z), iTs_ll⟩
    · exact ⟨"tuple", .tup (n0 _ _ (by simp) z), iTs_tt⟩
  obtain ⟨T, ty, it⟩ := key
  refine ⟨T, ["list", "tuple"], e0, ty, true, it, ?_⟩
  rw [if_neg (by decide)]
  generalize upd H g0 (HO.tup [V.ty "list", V.ty "tuple"]) = H1 at *
  subst hr1
  refine seq_cut fun r1 hr1 => ?_
  walk_at "rd"
  refine fun x dx hx hdx nxd => ⟨x, dx, n, rfl, upd_same, by omega, fun rA mA H4 hrA hmA r4 k4 => ⟨rfl, ?_⟩⟩
  have kN : Kp [] H1 (upd (upd H1 dx (.own x)) x (.ins C dx [])) := fun c o _ hh => (upd_ne (ne_of_none hh hx)).trans ((upd_ne (ne_of_none hh hdx)).trans hh)
  have k14 : Kp [] H H4 := fun c o hc0 hh => k4 c o (by simpa using ne_of_none (n0 c o hc0 hh) hx) (kN c o hc0 (n0 c o hc0 hh))
  have fx : H x = none := n0.free hx
  have frA : H rA = none := n0.free (kN.free hrA)
  have fmA : H mA = none := n0.free (kN.free hmA)
  subst hr1
  walk_at "rd"
  have hsq : SqL K H pp (tfs (deP qs)) ∨ SqT K H pp (tfs (deP qs)) := by
    rcases hpp with z | z
    · exact .inl (SqL.of z)
    · exact .inr (SqT.of z)
  have l0 := start_len n
  refine lp_enumLT' (H0 := H) hsq (fun i τ G => ∃ (s0 : ES) (ms0 : List Int) (u3 u4 : Option V), τ = [some (V.int (n : Int)), some (V.ref pp), some (V.ref x), u3, u4] ∧ Kp [] H G ∧ RoomAt C G x rA mA s0 ms0 ∧ DosM ((qs.map (·.2)).drop i) s0 t ms0 ms ∧ OkM s0 ms0.length ∧ s0.1.length = n ∧ ms0.length = n) ?_ ?_ ?_ ?_
  · exact ⟨startE n, List.replicate n 0, none, none, rfl, k14, r4, hdo, by rw [List.length_replicate]; exact start_ok n, l0, List.length_replicate⟩
  · rintro i τ G ⟨s0, ms0, u3, u4, rfl, kG, _⟩
    exact kG
  · rintro i y p τ G hy hp ⟨s0, ms0, u3, u4, rfl, kG, rG, dG, ok, l1, l2⟩
    obtain ⟨z, hz, ez, rfl⟩ := tde_at hy
    have hi := (List.getElem?_eq_some_iff.mp ez).1
    have ed : (qs.map (·.2)).drop i = z.2 :: (qs.map (·.2)).drop (i + 1) := by
      rw [List.drop_eq_getElem_cons (by rw [List.length_map]; exact hi), List.getElem_map, (List.getElem?_eq_some_iff.mp ez).2]
    rw [ed] at dG
    cases dG with
    | @cons _ _ _ t1 _ _ _ hd1 hd2 =>
    have np := Kp.new (bs := []) (HO.tup [V.int (i : Int), V.ref z.1]) hp
    have ep := upd_same (H := G) (a := p) (o := HO.tup [V.int (i : Int), V.ref z.1])
    generalize upd G p (HO.tup [V.int (i : Int), V.ref z.1]) = G1 at *
    have rG1 := rG.kp np (by simp) (by simp) (by simp)
    obtain ⟨dx1, e1⟩ := rG1.ex
    have hz1 := np _ _ (by simp) (kG _ _ (by simp) (hqs z hz))
    have hI : ∀ G2, RoomAt C G2 x rA mA t1 (counted z.2 s0 ms0) → Kp [x, rA, mA] G1 G2 → Kp [] H G2 ∧ RoomAt C G2 x rA mA t1 (counted z.2 s0 ms0) ∧ DosM ((qs.map (·.2)).drop (i + 1)) t1 t (counted z.2 s0 ms0) ms ∧ OkM t1 (counted z.2 s0 ms0).length ∧ t1.1.length = n ∧ (counted z.2 s0 ms0).length = n := fun G2 r2 k2 =>
      ⟨fun c o hc0 hh => k2 c o (by simp [ne_of_none hh fx, ne_of_none hh frA, ne_of_none hh fmA]) (np c o hc0 (kG c o hc0 hh)), r2, hd2, by rw [counted_len]; exact hd1.okm ok, by rw [hd1.len]; exact l1, by rw [counted_len]; exact l2⟩
    walk_at "rd"
    exact ⟨_, SqT.of ep, rfl, _, _, rfl, _, _, rfl, rfl, _, _, e1, fl_no _ _ _ (by decide +kernel) (by decide +kernel) (by decide +kernel), x, rA, mA, z.1, s0, ms0, z.2, rfl, hz1, by omega, rG1, ok, t1, hd1, fun G2 r2 k2 => let ⟨h1, h2⟩ := hI G2 r2 k2; ⟨h1, _, _, h2⟩⟩
  · rintro τ G ⟨s0, ms0, u3, u4, rfl, kG, rG, dG, ok, l1, l2⟩
    have el : (qs.map (·.2)).drop (tfs (deP qs)).length = [] := by rw [tfs_lenE, List.length_map]; exact List.drop_of_length_le (by rw [List.length_map]; exact Nat.le_refl _)
    rw [el] at dG
    cases dG
    walk_at "rd"
    exact q x rA mA G fx frA fmA kG rG
abbrev s_backT : Stmt := top 7
theorem sc_backT : FnScope ["order", "back", "place", "goal"] ["order"] (defScope s_backT) := ⟨rfl, rfl, rfl, by decide +kernel, rfl, by decide +kernel, by decide +kernel⟩
def putAll : List Int → Nat → List Int → List Int
  | [], _, bs => bs
  | o :: os, i, bs => putAll os (i + 1) (bs.set o.toNat (i : Int))
def spBackT : Sp := fun vs H Q _ => ∃ (a : Addr) (os : List Int), vs = [.ref a] ∧ H a = some (.tup (os.map V.int)) ∧ os.length ≤ 1000 ∧ (∀ x ∈ os, 0 ≤ x ∧ x < (os.length : Int)) ∧ ∀ p H', Kp [] H H' → H p = none → H' p = some (il (putAll os 0 (List.replicate os.length 0))) → Q (.ref p) H'
theorem df_backT (a : At K mg "back_of" s_backT) (B : Blt mg) : Df P w K mg base "back_of" ["order"] 1 spBackT := by
  refine df_of (k := 0) a sc_backT (fun _ _ _ _ _ _ us hl => match us, hl with | [_], _ => rfl) (fun vs H Q E h => ?_) (fun f cdv A outer s H vs Q E hr h => ?_)
  · obtain ⟨a, _, rfl, _⟩ := h; rfl
  obtain ⟨a, os, rfl, ha, hl, hb, q⟩ := h
  have sc := sc_backT
  have hsl := hsl
  refine ⟨_, (pss_cons (ps_set (i := 1) sc.nd rfl (by first | exact Or.inl rfl | exact Or.inr rfl) (pe_op op_rep (pe_lst (pa_cons pe_int pa_nil)) (pe_callB call_len_seq rfl B.len bt_len (pa_cons (pv 0) pa_nil))))
    (pss_cons (ps_for PassesOwn.never rfl (pi_enumLT rfl B.enumerate (pa_cons (pv 0) pa_nil)) (pg_tupK (K := K) 2 rfl rfl (pgs_cons (pg_name (i := 2) sc.nd rfl (by first | exact Or.inl rfl | exact Or.inr rfl)) (pgs_cons (pg_name (i := 3) sc.nd rfl (by first | exact Or.inl rfl | exact Or.inr rfl)) pgs_nil))) (pss_one (ps_asg (pv 2) (pg_sub (pv 1) (pv 3) set_listO))))
    (pss_one (ps_ret (pv 1))))), ?_⟩
  rw [show start ["order", "back", "place", "goal"] [V.ref a] = [some (.ref a), none, none, none] from rfl]
  refine seq_cut fun r1 hr1 => ?_
  walk_at "rd"
  refine ⟨by show 1 ≤ sizeLine; omega, fun g3 hg3 => ?_⟩
  have n3 := Kp.new (bs := []) (HO.lst [V.int 0]) hg3
  have e3 := upd_same (H := H) (a := g3) (o := HO.lst [V.int 0])
  generalize upd H g3 (HO.lst [V.int 0]) = H1 at *
  have ha1 := n3 _ _ (by simp) ha
  refine ⟨_, .inr (SqT.of ha1), _, e3, by omega, by rw [List.length_map]; omega, by rw [List.length_map, Int.toNat_natCast]; show 1 * _ ≤ _; omega, fun g4 hg4 => ?_⟩
  rw [List.length_map, Int.toNat_natCast, rep1]
  have n4 := Kp.new (bs := []) (HO.lst (List.replicate os.length (V.int 0))) hg4
  have e4 : upd H1 g4 (HO.lst (List.replicate os.length (V.int 0))) g4 = some (il (List.replicate os.length 0)) := upd_same.trans (show _ = some (HO.lst ((List.replicate os.length (0 : Int)).map V.int)) by rw [List.map_replicate])
  generalize upd H1 g4 (HO.lst (List.replicate os.length (V.int 0))) = H2 at *
  have ha2 := n4 _ _ (by simp) ha1
  have f4 : H g4 = none := n3.free hg4
  subst hr1
  refine seq_cut fun r1 hr1 => ?_
  walk_at "rd"
  refine lp_enumLT' (H0 := H) (.inr (SqT.of ha)) (fun i τ G => ∃ (u v : Option V) (bs : List Int), τ = [some (V.ref a), some (V.ref g4), u, v] ∧ Kp [] H G ∧ G g4 = some (il bs) ∧ bs.length = os.length ∧ putAll (os.drop i) i bs = putAll os 0 (List.replicate os.length 0)) ?_ ?_ ?_ ?_
  · exact ⟨none, none, _, rfl, n3.trans n4, e4, List.length_replicate, rfl⟩
  · rintro i τ G ⟨u, v, bs, rfl, kG, _⟩
    exact kG
  · rintro i y p τ G hy hp ⟨u, v, bs, rfl, kG, hG, lb, eb⟩
    have hi := (List.getElem?_eq_some_iff.mp hy).1
    rw [List.length_map] at hi
    rw [List.getElem?_map, List.getElem?_eq_getElem hi] at hy
    injection hy with hy
    subst hy
    obtain ⟨o0, o1⟩ := hb _ (List.getElem_mem hi)
    obtain ⟨m1, m2⟩ := at_ms (ms := bs) o0 (by rw [lb]; exact o1)
    have np := Kp.new (bs := []) (HO.tup [V.int (i : Int), V.int os[i]]) hp
    have ep := upd_same (H := G) (a := p) (o := HO.tup [V.int (i : Int), V.int os[i]])
    generalize upd G p (HO.tup [V.int (i : Int), V.int os[i]]) = G1 at *
    walk_at "rd"
    refine ⟨_, SqT.of ep, rfl, _, _, rfl, _, _, rfl, rfl, _, rfl, _, np _ _ (by simp) hG, _, m2, fun c o hc0 hh => (upd_ne (ne_of_none hh f4)).trans (np c o hc0 (kG c o hc0 hh)), bs.set os[i].toNat (i : Int), upd_same.trans (show _ = some (HO.lst ((bs.set os[i].toNat (i : Int)).map V.int)) by rw [List.map_set]), by rw [List.length_set]; exact lb, ?_⟩
    rw [← eb, List.drop_eq_getElem_cons hi]; rfl
  · rintro τ G ⟨u, v, bs, rfl, kG, hG, lb, eb⟩
    rw [List.length_map, List.drop_length] at eb
    subst hr1
    walk_at "rd"
    exact q g4 G kG f4 (by rw [← eb]; exact hG)
abbrev s_walked : Stmt := top 14
theorem sc_walked : FnScope ["n", "plan", "room", "row", "hand", "moved"] ["n", "plan"] (defScope s_walked) := ⟨rfl, rfl, rfl, by decide +kernel, rfl, by decide +kernel, by decide +kernel⟩
def spWalked : Sp := fun vs H Q _ => ∃ (n : Nat) (pp : Addr) (qs : List (Addr × De)) (t : ES) (ms : List Int), vs = [.int (n : Int), .ref pp] ∧ (H pp = some (.lst (tfs (deP qs))) ∨ H pp = some (.tup (tfs (deP qs)))) ∧ (∀ q ∈ qs, H q.1 = some (.tup (deV q.2))) ∧ DosM (qs.map (·.2)) (startE n) t (List.replicate n 0) ms ∧ n ≤ 1000 ∧ qs.length ≤ 10000 ∧
  ∀ p pm H', Kp [] H H' → H' pm = some (.tup (ms.map V.int)) →
    (∀ pr h, t.2 = some h → H' pr = some (.tup (t.1.map cE)) → H' p = some (.tup [.str (Str.ofString "open"), .ref pr, .int h, .ref pm]) → Q (.ref p) H') ∧
    (∀ pb os, t.2 = none → t.1 = os.map some → H' pb = some (il (putAll os 0 (List.replicate os.length 0))) → H pb = none → H' p = some (.tup [.str (Str.ofString "done"), .ref pb, .ref pm]) → Q (.ref p) H')
theorem DosM.ok {l : List De} {s t : ES} {ms ms' : List Int} (h : DosM l s t ms ms') (n : Nat) (o1 : OkM s n) (o2 : NoneOk s) : OkM t n ∧ NoneOk t := by
  induction h with
  | nil => exact ⟨o1, o2⟩
  | cons d _ ih => exact ih (d.okm o1) (d.noneOk o2)
theorem df_walked {C : Addr} (a : At K mg "walked" s_walked) (R : RTx K C) (B : Blt mg) (D_room_behind : Df P w K mg base "room_behind" ["n", "plan"] 6 (spRbehind C)) (D_back_of : Df P w K mg base "back_of" ["order"] 6 spBackT)
    (M_row_now : Dm P w K mg base C "row_now" ["self"] 6 (spRnow C)) (M_hand_now : Dm P w K mg base C "hand_now" ["self"] 6 (spHnow C)) (M_moved_now : Dm P w K mg base C "moved_now" ["self"] 6 (spMnow C)) : Df P w K mg base "walked" ["n", "plan"] 7 spWalked := by
  refine df_of (k := 6) a sc_walked (fun _ _ _ _ _ _ us hl => match us, hl with | [_, _], _ => rfl) (fun vs H Q E h => ?_) (fun f cdv A outer s H vs Q E hr h => ?_)
  · obtain ⟨_, _, _, _, _, rfl, _⟩ := h; rfl
  obtain ⟨n, pp, qs, t, ms, rfl, hpp, hqs, hdo, hn, hl, q⟩ := h
  have sc := sc_walked
  have hsl := hsl
  have CL := R.cl
  obtain ⟨lt, lm⟩ := hdo.len
  rw [start_len] at lt
  rw [List.length_replicate] at lm
  obtain ⟨ot, on⟩ := hdo.ok n (start_ok n) (start_none n)
  refine ⟨_, (pss_cons (ps_set (i := 2) sc.nd rfl (by first | exact Or.inl rfl | exact Or.inr rfl) (pe_cd D_room_behind hr rfl (pa_cons (pv 0) (pa_cons (pv 1) pa_nil))))
    (pss_cons (ps_set (i := 3) sc.nd rfl (by first | exact Or.inl rfl | exact Or.inr rfl) (pe_md0 CL M_row_now hr (pv 2)))
    (pss_cons (ps_set (i := 4) sc.nd rfl (by first | exact Or.inl rfl | exact Or.inr rfl) (pe_md0 CL M_hand_now hr (pv 2)))
    (pss_cons (ps_set (i := 5) sc.nd rfl (by first | exact Or.inl rfl | exact Or.inr rfl) (pe_md0 CL M_moved_now hr (pv 2)))
    (pss_cons (ps_if (pt_cmpR op_notN (pv 4) pe_non (nomark _)) (pss_one (ps_ret (pe_tup (pa_cons pe_str (pa_cons (pv 3) (pa_cons (pv 4) (pa_cons (pv 5) pa_nil))))))) pss_nil)
    (pss_one (ps_ret (pe_tup (pa_cons pe_str (pa_cons (pe_cd D_back_of hr rfl (pa_cons (pv 3) pa_nil)) (pa_cons (pv 5) pa_nil))))))))))), ?_⟩
  rw [show start ["n", "plan", "room", "row", "hand", "moved"] [V.int (n : Int), V.ref pp] = [some (.int (n : Int)), some (.ref pp), none, none, none, none] from rfl]
  refine seq_cut fun r1 hr1 => ?_
  walk_at "rd"
  refine ⟨n, pp, qs, t, ms, rfl, hpp, hqs, hdo, hn, hl, fun p rA mA H1 _ _ _ k1 r1' => ?_⟩
  subst hr1
  refine seq_cut fun r1 hr1 => ?_
  walk_at "rd"
  obtain ⟨dx1, e1⟩ := r1'.ex
  refine ⟨_, _, e1, fl_no _ _ _ (by decide +kernel) (by decide +kernel) (by decide +kernel), p, rA, mA, t, ms, rfl, r1', by omega, fun pr H2 k2 hpr => ?_⟩
  have r2' := r1'.kp k2 (by simp) (by simp) (by simp)
  obtain ⟨dx2, e2⟩ := r2'.ex
  subst hr1
  refine seq_cut fun r1 hr1 => ?_
  walk_at "rd"
  refine ⟨_, _, e2, fl_no _ _ _ (by decide +kernel) (by decide +kernel) (by decide +kernel), p, rA, mA, t, ms, rfl, r2', ?_⟩
  subst hr1
  refine seq_cut fun r1 hr1 => ?_
  walk_at "rd"
  refine ⟨_, _, e2, fl_no _ _ _ (by decide +kernel) (by decide +kernel) (by decide +kernel), p, rA, mA, t, ms, rfl, r2', by omega, fun pm H3 k3 hpm => ?_⟩
  have hpr3 := k3 _ _ (by simp) hpr
  have k13 := (k1.trans k2).trans k3
  subst hr1
  refine seq_cut fun r1 hr1 => ?_
  walk_at "rd"
  cases eh : t.2 with
  | some h =>
    rw [if_pos (show ¬ cE (some h) = V.non from fun z => nomatch z)]
    refine ⟨by show 4 ≤ sizeLine; omega, fun g hg => ?_⟩
    have ng := Kp.new (bs := []) (HO.tup [V.str (Str.ofString "open"), V.ref pr, cE (some h), V.ref pm]) hg
    exact (q g pm _ (k13.trans ng) (ng _ _ (by simp) hpm)).1 pr h eh (ng _ _ (by simp) hpr3) upd_same
  | none =>
    rw [if_neg (show ¬ ¬ cE none = V.non from not_not_intro rfl)]
    obtain ⟨os, eo⟩ := all_some on eh
    have lo : os.length = n := by rw [← lt, eo, List.length_map]
    subst hr1
    walk_at "rd"
    refine ⟨pr, os, rfl, by rw [hpr3, eo, List.map_map]; rfl, by omega, fun x hx => ?_, fun pb H4 k4 npb hpb => ⟨by show 3 ≤ sizeLine; omega, fun g hg => ?_⟩⟩
    · rw [lo]
      exact ot.1 x (by rw [eo]; exact List.mem_map.mpr ⟨x, hx, rfl⟩)
    · have ng := Kp.new (bs := []) (HO.tup [V.str (Str.ofString "done"), V.ref pb, V.ref pm]) hg
      exact (q g pm _ ((k13.trans k4).trans ng) (ng _ _ (by simp) (k4 _ _ (by simp) hpm))).2 pb os eh eo (ng _ _ (by simp) hpb) (k13.free npb) upd_same
abbrev s_deedsof : Stmt := top 15
theorem sc_deedsof : FnScope ["plan", "words", "deed", "word"] ["plan"] (defScope s_deedsof) := ⟨rfl, rfl, rfl, by decide +kernel, rfl, by decide +kernel, by decide +kernel⟩
def cntW (v : V) (l : List De) : Nat := (l.map deW).countP fun y => eqV y v
abbrev w4 : List V := [dSwap, dTake, dMove, dLay]
abbrev cnt4 (l : List De) : List V := w4.map fun v => V.int (cntW v l : Int)
theorem deW_flat (l : List De) : (l.map deW).all flatV = true := by
  rw [List.all_eq_true]
  intro x hx
  obtain ⟨d, _, rfl⟩ := List.mem_map.mp hx
  cases d <;> rfl
def spDeedsof : Sp := fun vs H Q _ => ∃ (pp : Addr) (qs : List (Addr × De)), vs = [.ref pp] ∧ (H pp = some (.lst (tfs (deP qs))) ∨ H pp = some (.tup (tfs (deP qs)))) ∧ (∀ q ∈ qs, H q.1 = some (.tup (deV q.2))) ∧ qs.length ≤ 10000 ∧
  ∀ p H', Kp [] H H' → H' p = some (.tup (cnt4 (qs.map (·.2)))) → Q (.ref p) H'
theorem df_deedsof (a : At K mg "deeds_of" s_deedsof) (B : Blt mg) : Df P w K mg base "deeds_of" ["plan"] 1 spDeedsof := by
  refine df_of (k := 0) a sc_deedsof (fun _ _ _ _ _ _ us hl => match us, hl with | [_], _ => rfl) (fun vs H Q E h => ?_) (fun f cdv A outer s H vs Q E hr h => ?_)
  · obtain ⟨_, _, rfl, _⟩ := h; rfl
  obtain ⟨pp, qs, rfl, hpp, hqs, hl, q⟩ := h
  have sc := sc_deedsof
  have hsl := hsl
  have hsq : SqL K H pp (tfs (deP qs)) ∨ SqT K H pp (tfs (deP qs)) := by
    rcases hpp with z | z
    · exact .inl (SqL.of z)
    · exact .inr (SqT.of z)
  refine ⟨_, (pss_cons (ps_set (i := 1) sc.nd rfl (by first | exact Or.inl rfl | exact Or.inr rfl) (pe_comp (ts := [2]) rfl rfl (pi_lt (pv 0)) (fun _ _ _ _ => (pg_name (i := 2) sc.nd rfl (by first | exact Or.inl rfl | exact Or.inr rfl))) (fun _ _ _ _ => pif_nil) (fun _ _ _ _ => (pe_ix (ix_tupK (K := K) rfl) (pv 2) pe_int (fun _ _ => rfl)))))
    (pss_one (ps_ret (pe_callTy call_tuple_of rfl B.tuple bt_tuple (pa_cons (pe_comp (ts := [3]) rfl rfl (pi_tup (pe_tup (pa_cons pe_str (pa_cons pe_str (pa_cons pe_str (pa_cons pe_str pa_nil)))))) (fun _ _ _ _ => (pg_name (i := 3) sc.nd rfl (by first | exact Or.inl rfl | exact Or.inr rfl))) (fun _ _ _ _ => pif_nil) (fun _ _ _ _ => (pe_bmK (K := K) rfl PySem.F.plainAttrs_list PySem.F.slot_list_count PySem.F.type_list_count mr_count (pv 1) (pa_cons (pv 3) pa_nil)))) pa_nil))))), ?_⟩
  rw [show start ["plan", "words", "deed", "word"] [V.ref pp] = [some (.ref pp), none, none, none] from rfl]
  refine seq_cut fun r1 hr1 => ?_
  walk_at "rd"
  refine lt_comp hsq fun D hD => ⟨fun i τ G => ∃ u, τ = [some (.ref pp), none, u, none] ∧ Kp [D] (upd H D (.lst [])) G ∧ G D = some (.lst (((qs.map (·.2)).take i).map deW)), ?_, ?_, ?_, ?_⟩
  · exact ⟨none, rfl, Kp.refl, upd_same⟩
  · rintro i τ G ⟨u, rfl, kq, hq⟩
    exact Kp.drop1 hD kq
  · rintro i x τ G hx ⟨u, rfl, kq, hq⟩
    obtain ⟨z, hz, ez, rfl⟩ := tde_at hx
    have hi := (List.getElem?_eq_some_iff.mp ez).1
    walk_at "rd"
    refine ⟨_, SqT.of (Kp.drop1 hD kq _ _ (by simp) (hqs z hz)), deW z.2, by cases z.2 <;> rfl, _, hq, by rw [List.length_map, List.length_take, List.length_map]; omega, kq.trans (Kp.set _ (by simp)), ?_⟩
    rw [upd_same, List.take_add_one, List.getElem?_map, ez, List.map_append]; rfl
  · rintro τ G ⟨u, rfl, kq, hq⟩
    have kG := Kp.drop1 hD kq
    rw [tfs_lenE, List.length_map, show ((qs.map (·.2)).take qs.length) = qs.map (·.2) from List.take_of_length_le (by rw [List.length_map]; exact Nat.le_refl _)] at hq
    subst hr1
    walk_at "rd"
    refine ⟨by show 4 ≤ sizeLine; omega, fun pt hpt => ?_⟩
    have np := Kp.new (bs := []) (HO.tup w4) hpt
    have ep := upd_same (H := G) (a := pt) (o := HO.tup w4)
    show (∃ xs, SqT K (upd G pt (HO.tup w4)) pt xs) ∧ ∀ D, (upd G pt (HO.tup w4)) D = none → _
    generalize upd G pt (HO.tup w4) = G1 at *
    have hq1 := np _ _ (by simp) hq
    refine ⟨⟨_, SqT.of ep⟩, fun D2 hD2 => ?_⟩
    refine cl_tup (xs := w4) (fun i τ F => ∃ u v, τ = [some (.ref pp), some (.ref D), u, v] ∧ Kp [D2] (upd G1 D2 (.lst [])) F ∧ F D2 = some (.lst ((w4.take i).map fun v => V.int (cntW v (qs.map (·.2)) : Int)))) ?_ ?_ ?_ ?_
    · exact ⟨_, _, rfl, Kp.refl, upd_same⟩
    · rintro i τ F _ ⟨u, v, rfl, kf, hf⟩
      exact SqT.of (Kp.drop1 hD2 kf _ _ (by simp) ep)
    · rintro i x τ F hx ⟨u, v, rfl, kf, hf⟩
      have hi := (List.getElem?_eq_some_iff.mp hx).1
      have hfl : flatV x = true := by
        have := List.mem_of_getElem? hx
        simp only [List.mem_cons, List.not_mem_nil, or_false] at this
        rcases this with h | h | h | h <;> (rw [h]; rfl)
      walk_at "rd"
      have hq2 := Kp.drop1 hD2 kf _ _ (by simp) hq1
      refine ⟨.inl ⟨rfl, _, SqL.of hq2⟩, _, hq2, deW_flat _, hfl, _, hf, by rw [List.length_map, List.length_take]; show min i 4 < sizeLine; omega, kf.trans (Kp.set _ (by simp)), ?_⟩
      rw [upd_same, List.take_add_one, hx, List.map_append]; rfl
    · rintro τ F ⟨u, v, rfl, kf, hf⟩
      refine ⟨D2, rfl, _, .inl ⟨SqL.of hf, fun l hl2 => ?_⟩⟩
      exact q l _ ((kG.trans (np.trans (Kp.drop1 hD2 kf))).trans (Kp.new _ hl2)) upd_same
theorem bump_sum {ms : List Int} {x : Int} (h0 : 0 ≤ x) (h1 : x < (ms.length : Int)) : (bump ms x).sum = ms.sum + 1 := by
  unfold bump
  have hx : x.toNat < ms.length := by omega
  generalize x.toNat = k at *
  clear h0 h1
  induction ms generalizing k with
  | nil => exact absurd hx (Nat.not_lt_zero _)
  | cons m ms ih =>
    cases k with
    | zero => show ((m + 1) :: ms).sum = _; rw [List.sum_cons, List.sum_cons]; omega
    | succ k =>
      have := ih k (by simpa using hx)
      show (m :: ms.set k (ms.getD k 0 + 1)).sum = _
      rw [List.sum_cons, List.sum_cons, this]; omega
def wgt : De → Int
  | .swap _ _ => 2
  | _ => 1
theorem counted_sum {d : De} {s t : ES} {ms : List Int} (h : DoE d s t) (ok : OkM s ms.length) : (counted d s ms).sum = ms.sum + wgt d := by
  cases h with
  | @swap a b row hd x y ne h1 h2 =>
    obtain ⟨x0, x1⟩ := ok.1 _ (List.mem_of_getElem? h1)
    obtain ⟨y0, y1⟩ := ok.1 _ (List.mem_of_getElem? h2)
    show ([row.getD a none, row.getD b none].foldl bumpO ms).sum = ms.sum + 2
    rw [getD_of h1, getD_of h2]
    show (bump (bump ms x) y).sum = _
    rw [bump_sum y0 (by rw [bump_len]; exact y1), bump_sum x0 x1]; omega
  | @take p row x h1 =>
    obtain ⟨x0, x1⟩ := ok.1 _ (List.mem_of_getElem? h1)
    show ([row.getD p none].foldl bumpO ms).sum = ms.sum + 1
    rw [getD_of h1]
    exact bump_sum x0 x1
  | @move p g row hd x h1 h2 =>
    obtain ⟨x0, x1⟩ := ok.1 _ (List.mem_of_getElem? h1)
    show ([row.getD p none, row.getD g none].foldl bumpO ms).sum = ms.sum + 1
    rw [getD_of h1, getD_of h2]
    exact bump_sum x0 x1
  | @lay g row x h1 =>
    obtain ⟨x0, x1⟩ := ok.2 _ rfl
    exact bump_sum x0 x1
theorem DosM.sum {l : List De} {s t : ES} {ms ms' : List Int} (h : DosM l s t ms ms') (ok : OkM s ms.length) : ms'.sum = ms.sum + (l.map wgt).sum := by
  induction h with
  | nil => simp
  | cons d _ ih =>
    rw [ih (by rw [counted_len]; exact d.okm ok), counted_sum d ok, List.map_cons, List.sum_cons]; omega
theorem eqSwapSwap : eqV dSwap dSwap = true := by decide +kernel
theorem eqSwapTake : eqV dSwap dTake = false := by decide +kernel
theorem eqSwapMove : eqV dSwap dMove = false := by decide +kernel
theorem eqSwapLay : eqV dSwap dLay = false := by decide +kernel
theorem eqTakeSwap : eqV dTake dSwap = false := by decide +kernel
theorem eqTakeTake : eqV dTake dTake = true := by decide +kernel
theorem eqTakeMove : eqV dTake dMove = false := by decide +kernel
theorem eqTakeLay : eqV dTake dLay = false := by decide +kernel
theorem eqMoveSwap : eqV dMove dSwap = false := by decide +kernel
theorem eqMoveTake : eqV dMove dTake = false := by decide +kernel
theorem eqMoveMove : eqV dMove dMove = true := by decide +kernel
theorem eqMoveLay : eqV dMove dLay = false := by decide +kernel
theorem eqLaySwap : eqV dLay dSwap = false := by decide +kernel
theorem eqLayTake : eqV dLay dTake = false := by decide +kernel
theorem eqLayMove : eqV dLay dMove = false := by decide +kernel
theorem eqLayLay : eqV dLay dLay = true := by decide +kernel
theorem wgt_cnt (d : De) (l : List De) : (cntW dSwap (d :: l) : Int) * 2 + cntW dTake (d :: l) + cntW dMove (d :: l) + cntW dLay (d :: l) = wgt d + ((cntW dSwap l : Int) * 2 + cntW dTake l + cntW dMove l + cntW dLay l) := by
  unfold cntW
  simp only [List.map_cons, List.countP_cons]
  cases d with
  | swap a b =>
    rw [show deW (.swap a b) = dSwap from rfl, eqSwapSwap, eqSwapTake, eqSwapMove, eqSwapLay]
    show _ = 2 + _
    simp only [if_true, if_false, Bool.false_eq_true, reduceIte]
    omega
  | take a =>
    rw [show deW (.take a) = dTake from rfl, eqTakeSwap, eqTakeTake, eqTakeMove, eqTakeLay]
    show _ = 1 + _
    simp only [if_true, if_false, Bool.false_eq_true, reduceIte]
    omega
  | move a b =>
    rw [show deW (.move a b) = dMove from rfl, eqMoveSwap, eqMoveTake, eqMoveMove, eqMoveLay]
    show _ = 1 + _
    simp only [if_true, if_false, Bool.false_eq_true, reduceIte]
    omega
  | lay a =>
    rw [show deW (.lay a) = dLay from rfl, eqLaySwap, eqLayTake, eqLayMove, eqLayLay]
    show _ = 1 + _
    simp only [if_true, if_false, Bool.false_eq_true, reduceIte]
    omega
theorem wgt_sum (l : List De) : (l.map wgt).sum = 2 * (cntW dSwap l : Int) + cntW dTake l + cntW dMove l + cntW dLay l := by
  induction l with
  | nil => rfl
  | cons d l ih =>
    have := wgt_cnt d l
    rw [List.map_cons, List.sum_cons, ih]
    omega
theorem w4_eq : ∀ u ∈ w4, ∀ v ∈ w4, eqV u v = decide (u = v) := by decide +kernel
theorem deW_in (d : De) : deW d ∈ w4 := by cases d <;> simp [deW]
theorem deW_scal (d : De) {v : V} (hv : v ∈ w4) : scal (deW d) v = true := by
  have : ∀ u ∈ w4, ∀ v ∈ w4, scal u v = true := by decide +kernel
  exact this _ (deW_in d) _ hv
theorem cnt_step {xs : List V} {j : Nat} {y x : V} (hy : xs[j]? = some y) : (xs.take (j + 1)).countP (fun y => eqV y x) = (xs.take j).countP (fun y => eqV y x) + if eqV y x = true then 1 else 0 := by
  rw [List.take_add_one, hy, List.countP_append]
  show _ + [y].countP _ = _
  rw [List.countP_singleton]
theorem cnt_yes {xs : List V} {j : Nat} {x : V} {d : De} (hx : x ∈ w4) (hy : xs[j]? = some (deW d)) (h : deW d = x) : (xs.take (j + 1)).countP (fun y => eqV y x) = (xs.take j).countP (fun y => eqV y x) + 1 := by
  rw [cnt_step hy, w4_eq _ (deW_in d) _ hx, if_pos (decide_eq_true h)]
theorem cnt_no {xs : List V} {j : Nat} {x : V} {d : De} (hx : x ∈ w4) (hy : xs[j]? = some (deW d)) (h : ¬ deW d = x) : (xs.take (j + 1)).countP (fun y => eqV y x) = (xs.take j).countP (fun y => eqV y x) := by
  rw [cnt_step hy, w4_eq _ (deW_in d) _ hx, if_neg (by simpa using h)]; rfl
theorem cnt_le {xs : List V} {j : Nat} {x : V} : (xs.take j).countP (fun y => eqV y x) ≤ xs.length := Nat.le_trans List.countP_le_length (by rw [List.length_take]; omega)
theorem de_of {l : List De} {j : Nat} {y : V} (h : (l.map deW)[j]? = some y) : ∃ d, y = deW d := by
  obtain ⟨d, _, e⟩ := List.mem_map.mp (List.mem_of_getElem? h)
  exact ⟨d, e.symm⟩
theorem cut4 (xs : List V) : cutV xs none (some 4) = xs.take 4 := by
  unfold cutV HT.sIx
  simp
theorem tfs_take (qs : List (Addr × De)) (k : Nat) : (tfs (deP qs)).take k = tfs (deP (qs.take k)) := by unfold tfs deP; rw [List.map_take, List.map_take]
theorem tfs_cat (a b : List (Addr × De)) : tfs (deP a) ++ tfs (deP b) = tfs (deP (a ++ b)) := by unfold tfs deP; rw [List.map_append, List.map_append]
theorem sum_rep0 : ∀ n : Nat, (List.replicate n (0 : Int)).sum = 0
  | 0 => rfl
  | n + 1 => by rw [List.replicate_succ, List.sum_cons, sum_rep0 n]; rfl
abbrev s_law : Stmt := top 25
theorem sc_law : FnScope ["_law_script", "_law_k", "_law_box_here", "_law_n", "_law_words", "_law_due", "_law_handed", "_law_more", "_law_plan_here", "_law_row", "_law_hand", "_law_deed_here", "_law_one", "_law_word"] ["_law_script"] (defScope s_law) := ⟨rfl, rfl, rfl, by decide +kernel, rfl, by decide +kernel, by decide +kernel⟩
def spLaw (K : PySem.W.Frag) : Sp := fun vs H Q _ => ∃ (a : Addr) (ns : List Int), vs = [.ref a] ∧ SqL K H a (ns.map V.int) ∧ ns.length ≤ 63 ∧ ∀ H', Q (.bl true) H'
theorem sameT_flatI {t u : Addr} {H : Hp} {Q : VK} {E : XK} {xs : List V} (ht : H t = some (.tup xs)) (hu : H u = some (.tup xs)) (hl : xs.length ≤ 1000) (hx : ∀ x ∈ xs, ∃ i, x = V.int i) (q : ∀ H', Kp [] H H' → Q (.bl true) H') : spSameT spSameI [.ref t, .ref u] H Q E := by
  refine ⟨t, u, _, _, rfl, ht, hu, rfl, by omega, fun i x y G Q' hx' hy _ z => ?_, q⟩
  rw [hx'] at hy
  injection hy with hy
  subst hy
  obtain ⟨k, rfl⟩ := hx x (List.mem_of_getElem? hx')
  exact ⟨k, rfl, z⟩
theorem cnt4_int (l : List De) : ∀ x ∈ cnt4 l, ∃ i, x = V.int i := fun x hx => by
  obtain ⟨v, _, rfl⟩ := List.mem_map.mp hx
  exact ⟨_, rfl⟩
theorem df_law (a : At K mg "law" s_law) (B : Blt mg) (Bsum : mg "sum" = none) (D_law_box : Df P w K mg base "_law_box" ["_law_script", "_law_k"] 19 spBox) (D_law_folded : Df P w K mg base "_law_folded" ["_law_script", "_law_many"] 19 (spFolded K)) (D_law_take : Df P w K mg base "_law_take" ["_law_box_here", "_law_many"] 19 spTake) (D_law_length : Df P w K mg base "_law_length" ["_law_box_here", "_law_most"] 19 spLength)
    (D_law_plan : Df P w K mg base "_law_plan" ["_law_box_here", "_law_n", "_law_many"] 19 spPlan) (D_law_same : Df P w K mg base "_law_same" ["_law_found", "_law_due"] 19 (spSameT spSameI)) (D_deeds_of : Df P w K mg base "deeds_of" ["plan"] 19 spDeedsof) (D_walked : Df P w K mg base "walked" ["n", "plan"] 19 spWalked) : Df P w K mg base "law" ["_law_script"] 20 (spLaw K) := by
  refine df_of (k := 19) a sc_law (fun _ _ _ _ _ _ us hl => match us, hl with | [_], _ => rfl) (fun vs H Q E h => ?_) (fun f cdv A outer s H vs Q E hr h => ?_)
  · obtain ⟨a, ns, rfl, _⟩ := h; rfl
  obtain ⟨a, ns, rfl, ha, hn, q⟩ := h
  have sc := sc_law
  have hsl := hsl
  refine ⟨_, (pss_cons (ps_set (i := 0) sc.nd rfl (by first | exact Or.inl rfl | exact Or.inr rfl) (pe_cd D_law_folded hr rfl (pa_cons (pv 0) (pa_cons pe_int pa_nil))))
    (pss_cons (ps_for PassesOwn.never rfl (pi_range1 rfl B.range (pa_cons (pe_callB (call_max2 rfl) rfl B.max bt_max (pa_cons pe_int (pa_cons (pe_callB call_len_seq rfl B.len bt_len (pa_cons (pv 0) pa_nil)) pa_nil))) pa_nil)) (pg_name (i := 1) sc.nd rfl (by first | exact Or.inl rfl | exact Or.inr rfl)) (pss_cons (ps_set (i := 2) sc.nd rfl (by first | exact Or.inl rfl | exact Or.inr rfl) (pe_cd D_law_box hr rfl (pa_cons (pv 0) (pa_cons (pv 1) pa_nil))))
    (pss_cons (ps_set (i := 3) sc.nd rfl (by first | exact Or.inl rfl | exact Or.inr rfl) (pe_cd D_law_length hr rfl (pa_cons (pv 2) (pa_cons pe_int pa_nil))))
    (pss_cons (ps_asg (pe_cd D_law_plan hr rfl (pa_cons (pv 2) (pa_cons (pv 3) (pa_cons (pe_cd D_law_take hr rfl (pa_cons (pv 2) (pa_cons pe_int pa_nil))) pa_nil)))) (pg_tupK (K := K) 3 rfl rfl (pgs_cons (pg_name (i := 8) sc.nd rfl (by first | exact Or.inl rfl | exact Or.inr rfl)) (pgs_cons (pg_name (i := 9) sc.nd rfl (by first | exact Or.inl rfl | exact Or.inr rfl)) (pgs_cons (pg_name (i := 10) sc.nd rfl (by first | exact Or.inl rfl | exact Or.inr rfl)) pgs_nil)))))
    (pss_cons (ps_set (i := 4) sc.nd rfl (by first | exact Or.inl rfl | exact Or.inr rfl) (pe_comp (ts := [11]) rfl rfl (pi_list (pv 8)) (fun _ _ _ _ => (pg_name (i := 11) sc.nd rfl (by first | exact Or.inl rfl | exact Or.inr rfl))) (fun _ _ _ _ => pif_nil) (fun _ _ _ _ => (pe_ix (ix_tupK (K := K) rfl) (pv 11) pe_int (fun _ _ => rfl)))))
    (pss_cons (ps_set (i := 5) sc.nd rfl (by first | exact Or.inl rfl | exact Or.inr rfl) (pe_callTy call_tuple_of rfl B.tuple bt_tuple (pa_cons (pe_compC (ts := [12]) rfl rfl (pi_tup (pe_tup (pa_cons pe_str (pa_cons pe_str (pa_cons pe_str (pa_cons pe_str pa_nil)))))) (fun _ _ _ _ => (pg_name (i := 12) sc.nd rfl (by first | exact Or.inl rfl | exact Or.inr rfl))) (fun _ _ _ _ => pif_nil) (fun _ _ _ _ => (pe_callB (call_len_seqK (K := K) rfl) rfl B.len bt_len (pa_cons (pe_comp (ts := [13]) rfl rfl (pi_listK (K := K) rfl (pv 4)) (fun _ _ _ _ => (pg_name (i := 13) sc.nd rfl (by first | exact Or.inl rfl | exact Or.inr rfl))) (fun _ _ _ _ => pif_one (pt_cmpR op_eq (pv 13) (pv 12) (nomark _))) (fun _ _ _ _ => (pv 13))) pa_nil)))) pa_nil)))
    (pss_cons (ps_for PassesOwn.never rfl (pi_tup (pe_tup (pa_cons (pv 8) (pa_cons (pe_callTy call_tuple_of rfl B.tuple bt_tuple (pa_cons (pv 8) pa_nil)) pa_nil)))) (pg_name (i := 6) sc.nd rfl (by first | exact Or.inl rfl | exact Or.inr rfl)) (pss_one (ps_if (pt_not (pt_val (pe_cd D_law_same hr rfl (pa_cons (pe_cd D_deeds_of hr rfl (pa_cons (pv 6) pa_nil)) (pa_cons (pv 5) pa_nil))) (fun _ => rfl))) (pss_one (ps_ret pe_bl)) pss_nil)))
    (pss_cons (ps_compC (j := 7) rfl sc.nd rfl (by first | exact Or.inl rfl | exact Or.inr rfl) (ts := [12]) rfl (pi_tup (pe_tup (pa_cons pe_str (pa_cons pe_str (pa_cons pe_str (pa_cons pe_str pa_nil)))))) (fun _ _ _ _ => (pg_name (i := 12) sc.nd rfl (by first | exact Or.inl rfl | exact Or.inr rfl))) (fun _ _ _ _ => pif_nil) (fun _ _ _ _ => (pe_callB (call_len_seqK (K := K) rfl) rfl B.len bt_len (pa_cons (pe_comp (ts := [13]) rfl rfl (pi_listK (K := K) rfl (pe_op op_cat (pv 4) (pe_slice (sl_listK (K := K) rfl) (pv 4) po_none (po_some pe_int)))) (fun _ _ _ _ => (pg_name (i := 13) sc.nd rfl (by first | exact Or.inl rfl | exact Or.inr rfl))) (fun _ _ _ _ => pif_one (pt_cmpR op_eq (pv 13) (pv 12) (nomark _))) (fun _ _ _ _ => (pv 13))) pa_nil))))
    (pss_cons (ps_if (pt_not (pt_val (pe_cd D_law_same hr rfl (pa_cons (pe_cd D_deeds_of hr rfl (pa_cons (pe_op op_cat (pv 8) (pe_slice sl_list (pv 8) po_none (po_some pe_int))) pa_nil)) (pa_cons (pe_callTy call_tuple_of rfl B.tuple bt_tuple (pa_cons (pv 7) pa_nil)) pa_nil))) (fun _ => rfl))) (pss_one (ps_ret pe_bl)) pss_nil)
    (pss_one (ps_if (PW.pt (pw_or (pt_cmpR op_ne (pe_callB (call_sumT rfl) rfl Bsum bt_sum (pa_cons (pe_ix ix_tup (pe_cd D_walked hr rfl (pa_cons (pv 3) (pa_cons (pv 8) pa_nil))) (pe_un un_neg pe_int) (fun _ _ => rfl)) pa_nil)) (pe_op op_add (pe_op op_add (pe_op op_add (pe_op op_mul pe_int (pe_ix ix_tup (pv 5) pe_int (fun _ _ => rfl))) (pe_ix ix_tup (pv 5) pe_int (fun _ _ => rfl))) (pe_ix ix_tup (pv 5) pe_int (fun _ _ => rfl))) (pe_ix ix_tup (pv 5) pe_int (fun _ _ => rfl))) (nomark _)) (pw_or1 (pt_cmpR (op_neT hr.units) (pe_cd D_deeds_of hr rfl (pa_cons (pe_lst pa_nil) pa_nil)) (pe_tup (pa_cons pe_int (pa_cons pe_int (pa_cons pe_int (pa_cons pe_int pa_nil))))) (nomark _))))) (pss_one (ps_ret pe_bl)) pss_nil)))))))))))
    (pss_one (ps_ret pe_bl)))), ?_⟩
  rw [show start ["_law_script", "_law_k", "_law_box_here", "_law_n", "_law_words", "_law_due", "_law_handed", "_law_more", "_law_plan_here", "_law_row", "_law_hand", "_law_deed_here", "_law_one", "_law_word"] [V.ref a] = [some (.ref a), none, none, none, none, none, none, none, none, none, none, none, none, none] from rfl]
  walk_at "rd"
  refine ⟨a, 6, ns, rfl, ha, by decide, by decide, hn, fun pc H1 cs k1 hpc hc lc => ?_⟩
  refine ⟨pc, rfl, _, .inl (SqL.of hc), by split <;> (simp only [List.length_map] at *; omega), by split <;> (simp only [List.length_map] at *; omega), ?_⟩
  refine lp_range (fun i τ H' => ∃ x1 x2 x3 x4 x5 x6 x7 x8 x9 x10 x11 x12 x13, τ = [some (.ref pc), x1, x2, x3, x4, x5, x6, x7, x8, x9, x10, x11, x12, x13] ∧ Kp [] H1 H') ?_ ?_ ?_
  · exact ⟨_, _, _, _, _, _, _, _, _, _, _, _, _, rfl, Kp.refl⟩
  · rintro i τ H' hi ⟨x1, x2, x3, x4, x5, x6, x7, x8, x9, x10, x11, x12, x13, rfl, kp⟩
    have hi' : i ≤ 1000 := by
      split at hi <;> (simp only [List.length_map] at *; omega)
    have hc' := kp _ _ (by simp) hc
    refine seq_cut fun r hr0 => ?_
    walk_at "rd"
    refine ⟨pc, _, cs, rfl, hc', by omega, by omega, lc, fun pb H2 k2 hpb b2 => ?_⟩
    subst hr0
    refine seq_cut fun r hr0 => ?_
    walk_at "rd"
    refine ⟨pb, 60, 0, rfl, b2, by decide, by decide, by decide, fun n0 H3 k3 b3 hn0 hn1 => ?_⟩
    obtain ⟨n, rfl⟩ : ∃ n : Nat, n0 = n := ⟨n0.toNat, by omega⟩
    subst hr0
    refine seq_cut fun r hr0 => ?_
    walk_at "rd"
    refine ⟨pb, 61, _, rfl, b3, by decide, by decide, by decide, fun m H4 k4 b4 hm0 hm1 => ?_⟩
    refine ⟨pb, n, _, m, rfl, by omega, hm0, by omega, b4, by omega, fun pt pl pr H5 qs st k5 b5 hpt ht hl hr5 npl npr nlr hqs lqs hdo => ?_⟩
    refine ⟨pt, rfl, _, SqT.of ht, rfl, _, _, rfl, _, _, rfl, _, _, rfl, rfl, ?_⟩
    have lq : qs.length ≤ 60 := by omega
    have hqs5 : ∀ q ∈ qs, H5 q.1 = some (.tup (deV q.2)) := fun y hy => (hqs y hy).2
    have k05 : Kp [] H1 H5 := by
      intro c o hc0 hh
      have cc := kp c o hc0 hh
      have cb : c ∉ [pb] := by simpa using ne_of_none cc hpb
      exact k5 c o cb (k4 c o cb (k3 c o cb (k2 c o (by simp) cc)))
    subst hr0
    refine seq_cut fun r hr0 => ?_
    walk_at "rd"
    refine ⟨⟨_, SqL.of hl⟩, fun D hD => ?_⟩
    refine cl_list (xs := tfs (deP qs)) (fun k τ G => ∃ u, τ = [some (V.ref pc), some (V.int (0 + i)), some (V.ref pb), some (V.int n), x4, x5, x6, x7, some (V.ref pl), some (V.ref pr), some (cE st.2), u, x12, x13] ∧ Kp [D] (upd H5 D (.lst [])) G ∧ G D = some (.lst (((qs.map (·.2)).take k).map deW))) ?_ ?_ ?_ ?_
    · exact ⟨none, rfl, Kp.refl, upd_same⟩
    · rintro k τ G _ ⟨u, rfl, kq, hq⟩
      exact SqL.of (Kp.drop1 hD kq _ _ (by simp) hl)
    · rintro k x τ G hx ⟨u, rfl, kq, hq⟩
      obtain ⟨z, hz, ez, rfl⟩ := tde_at hx
      have hk := (List.getElem?_eq_some_iff.mp ez).1
      walk_at "rd"
      refine ⟨_, SqT.of (Kp.drop1 hD kq _ _ (by simp) (hqs5 z hz)), deW z.2, by cases z.2 <;> rfl, _, hq, by rw [List.length_map, List.length_take, List.length_map]; omega, kq.trans (Kp.set _ (by simp)), ?_⟩
      rw [upd_same, List.take_add_one, List.getElem?_map, ez, List.map_append]; rfl
    rintro τ G ⟨u, rfl, kq, hq⟩
    have kG := Kp.drop1 hD kq
    rw [tfs_lenE, List.length_map, show ((qs.map (·.2)).take qs.length) = qs.map (·.2) from List.take_of_length_le (by rw [List.length_map]; exact Nat.le_refl _)] at hq
    have k0G := k05.trans kG
    have hlG := kG _ _ (by simp) hl
    have hqsG : ∀ q ∈ qs, G q.1 = some (.tup (deV q.2)) := fun y hy => kG _ _ (by simp) (hqs5 y hy)
    clear kq
    subst hr0
    refine seq_cut fun r hr0 => ?_
    walk_at "rd"
    refine ⟨by show 4 ≤ sizeLine; omega, fun pt2 hpt2 => ?_⟩
    have np := Kp.new (bs := []) (HO.tup w4) hpt2
    have ep := upd_same (H := G) (a := pt2) (o := HO.tup w4)
    show (∃ xs, SqT K (upd G pt2 (HO.tup w4)) pt2 xs) ∧ ∀ D, (upd G pt2 (HO.tup w4)) D = none → _
    generalize upd G pt2 (HO.tup w4) = G1 at *
    have hq1 := np _ _ (by simp) hq
    refine ⟨⟨_, SqT.of ep⟩, fun D2 hD2 => ?_⟩
    refine cl_tup (xs := w4) (fun k τ F => ∃ u v, τ = [some (V.ref pc), some (V.int (0 + i)), some (V.ref pb), some (V.int n), some (V.ref D), x5, x6, x7, some (V.ref pl), some (V.ref pr), some (cE st.2), x11, u, v] ∧ Kp [D2] (upd G1 D2 (.lst [])) F ∧ F D2 = some (.lst ((w4.take k).map fun v => V.int (cntW v (qs.map (·.2)) : Int)))) ?_ ?_ ?_ ?_
    · exact ⟨_, _, rfl, Kp.refl, upd_same⟩
    · rintro k τ F _ ⟨u, v, rfl, kf, hf⟩
      exact SqT.of (Kp.drop1 hD2 kf _ _ (by simp) ep)
    · rintro k x τ F hx ⟨u, v, rfl, kf, hf⟩
      have hx4 := List.mem_of_getElem? hx
      have hq2 := Kp.drop1 hD2 kf _ _ (by simp) hq1
      walk_at "rd"
      refine ⟨⟨_, SqL.of hq2⟩, fun D3 hD3 => ?_⟩
      refine cl_list (xs := (qs.map (·.2)).map deW) (fun j τ F' => ∃ (u : Option V) (ws : List V), τ = [some (V.ref pc), some (V.int (0 + i)), some (V.ref pb), some (V.int n), some (V.ref D), x5, x6, x7, some (V.ref pl), some (V.ref pr), some (cE st.2), x11, some x, u] ∧ Kp [D3] (upd F D3 (.lst [])) F' ∧ F' D3 = some (.lst ws) ∧ ws.length = (((qs.map (·.2)).map deW).take j).countP fun y => eqV y x) ?_ ?_ ?_ ?_
      · exact ⟨_, [], rfl, Kp.refl, upd_same, rfl⟩
      · rintro j τ F' _ ⟨u, ws, rfl, kj, hj, _⟩
        exact SqL.of (Kp.drop1 hD3 kj _ _ (by simp) hq2)
      · rintro j y τ F' hy ⟨u, ws, rfl, kj, hj, lj⟩
        obtain ⟨d, rfl⟩ := de_of hy
        have ljb : ws.length ≤ 60 := by
          rw [lj]
          exact Nat.le_trans cnt_le (by rw [List.length_map, List.length_map]; exact lq)
        walk_at "rd"
        refine ⟨deW_scal d hx4, ?_⟩
        by_cases c : deW d = x
        · rw [if_pos c, cnt_yes hx4 hy c]
          exact ⟨_, hj, by omega, kj.trans (Kp.set _ (by simp)), _, upd_same, by rw [List.length_append, lj]; rfl⟩
        · rw [if_neg c, cnt_no hx4 hy c]
          exact ⟨kj, _, hj, lj⟩
      · rintro τ F' ⟨u, ws, rfl, kj, hj, lj⟩
        have kF := Kp.drop1 hD3 kj
        refine ⟨D3, rfl, _, .inl (SqL.of hj), _, kF _ _ (by simp) hf, by rw [List.length_map, List.length_take]; show min k 4 < sizeLine; omega, (kf.trans (kF.mono (by simp))).trans (Kp.set _ (by simp)), ?_⟩
        rw [upd_same, List.take_add_one, hx, List.map_append, lj, List.take_length]; rfl
    rintro τ F ⟨u, v, rfl, kf, hf⟩
    refine ⟨D2, rfl, _, .inl ⟨SqL.of hf, fun pdue hpdue => ?_⟩⟩
    have kF0 := np.trans (Kp.drop1 hD2 kf)
    have n6 := Kp.new (bs := []) (HO.tup (cnt4 (qs.map (·.2)))) hpdue
    have e6 := upd_same (H := F) (a := pdue) (o := HO.tup (cnt4 (qs.map (·.2))))
    have k06 := (k0G.trans kF0).trans n6
    have hl6 := n6 _ _ (by simp) (kF0 _ _ (by simp) hlG)
    have hw6 := n6 _ _ (by simp) (kF0 _ _ (by simp) hq)
    have hqs6 : ∀ q ∈ qs, (upd F pdue (HO.tup (cnt4 (qs.map (·.2))))) q.1 = some (.tup (deV q.2)) := fun y hy => n6 _ _ (by simp) (kF0 _ _ (by simp) (hqsG y hy))
    show r _ _ (upd F pdue (HO.tup (cnt4 (qs.map (·.2)))))
    clear hf kf np ep hq1 hD2 hpdue hlG hq hqsG kF0 n6 k0G
    generalize upd F pdue (HO.tup (cnt4 (qs.map (·.2)))) = H6 at *
    subst hr0
    refine seq_cut fun r hr0 => ?_
    walk_at "rd"
    refine ⟨_, .inl ⟨SqL.of hl6, fun ptp hptp => ⟨by show 2 ≤ sizeLine; omega, fun pth hpth => ?_⟩⟩⟩
    have n7 := (Kp.new (bs := []) (HO.tup (tfs (deP qs))) hptp).trans (Kp.new (HO.tup [V.ref pl, V.ref ptp]) hpth)
    have e7 := (Kp.new (bs := []) (HO.tup [V.ref pl, V.ref ptp]) hpth) _ _ (by simp) (upd_same (H := H6) (a := ptp) (o := HO.tup (tfs (deP qs))))
    have e8 := upd_same (H := upd H6 ptp (HO.tup (tfs (deP qs)))) (a := pth) (o := HO.tup [V.ref pl, V.ref ptp])
    generalize upd (upd H6 ptp (HO.tup (tfs (deP qs)))) pth (HO.tup [V.ref pl, V.ref ptp]) = H7 at *
    have hl7 := n7 _ _ (by simp) hl6
    have hw7 := n7 _ _ (by simp) hw6
    have he7 := n7 _ _ (by simp) e6
    have hqs7 : ∀ q ∈ qs, H7 q.1 = some (.tup (deV q.2)) := fun y hy => n7 _ _ (by simp) (hqs6 y hy)
    have k07 := k06.trans n7
    clear n7
    refine ⟨⟨_, SqT.of e8⟩, ?_⟩
    refine lp_tup (xs := [V.ref pl, V.ref ptp]) (fun j τ F => ∃ u, τ = [some (V.ref pc), some (V.int (0 + i)), some (V.ref pb), some (V.int n), some (V.ref D), some (V.ref pdue), u, x7, some (V.ref pl), some (V.ref pr), some (cE st.2), x11, x12, x13] ∧ Kp [] H7 F) ?_ ?_ ?_ ?_
    · exact ⟨_, rfl, Kp.refl⟩
    · rintro j τ F _ ⟨u, rfl, kF⟩
      exact SqT.of (kF _ _ (by simp) e8)
    · rintro j y τ F hy ⟨u, rfl, kF⟩
      have hp : ∃ pp, y = V.ref pp ∧ (F pp = some (.lst (tfs (deP qs))) ∨ F pp = some (.tup (tfs (deP qs)))) := by
        match j, hy with
        | 0, hy => injection hy with hy; exact ⟨pl, hy.symm, .inl (kF _ _ (by simp) hl7)⟩
        | 1, hy => injection hy with hy; exact ⟨ptp, hy.symm, .inr (kF _ _ (by simp) e7)⟩
        | (j + 2), hy => cases hy
      obtain ⟨pp, rfl, hpp⟩ := hp
      walk_at "rd"
      refine ⟨pp, qs, rfl, hpp, fun z hz => kF _ _ (by simp) (hqs7 z hz), by omega, fun pd F2 k2 hpd => ?_⟩
      refine sameT_flatI hpd ((kF.trans k2) _ _ (by simp) he7) (by show 4 ≤ 1000; decide) (cnt4_int _) fun F3 k3 => ⟨_, rfl, ?_⟩
      rw [if_neg (by decide)]
      exact (kF.trans k2).trans k3
    rintro τ F ⟨u6, rfl, kF⟩
    have hl8 := kF _ _ (by simp) hl7
    have hw8 := kF _ _ (by simp) hw7
    have he8 := kF _ _ (by simp) he7
    have hqs8 : ∀ q ∈ qs, F q.1 = some (.tup (deV q.2)) := fun y hy => kF _ _ (by simp) (hqs7 y hy)
    have k08 := k07.trans kF
    clear hl7 hw7 he7 hqs7 k07 kF e8 e7
    subst hr0
    dsimp only
    refine seq_cut fun r hr0 => ?_
    walk_at "rd"
    refine ⟨by show 4 ≤ sizeLine; omega, fun pt3 hpt3 => ?_⟩
    have np := Kp.new (bs := []) (HO.tup w4) hpt3
    have ep := upd_same (H := F) (a := pt3) (o := HO.tup w4)
    show (∃ xs, SqT K (upd F pt3 (HO.tup w4)) pt3 xs) ∧ ∀ D, (upd F pt3 (HO.tup w4)) D = none → _
    generalize upd F pt3 (HO.tup w4) = G1 at *
    have hq1 := np _ _ (by simp) hw8
    refine ⟨⟨_, SqT.of ep⟩, fun D2 hD2 => ?_⟩
    refine cl_tup (xs := w4) (fun k τ F => ∃ u v, τ = [some (V.ref pc), some (V.int (0 + i)), some (V.ref pb), some (V.int n), some (V.ref D), some (V.ref pdue), u6, x7, some (V.ref pl), some (V.ref pr), some (cE st.2), x11, u, v] ∧ Kp [D2] (upd G1 D2 (.lst [])) F ∧ F D2 = some (.lst ((w4.take k).map fun v => V.int (cntW v (qs.map (·.2) ++ (qs.map (·.2)).take 4) : Int)))) ?_ ?_ ?_ ?_
    · exact ⟨_, _, rfl, Kp.refl, upd_same⟩
    · rintro k τ F _ ⟨u, v, rfl, kf, hf⟩
      exact SqT.of (Kp.drop1 hD2 kf _ _ (by simp) ep)
    · rintro k x τ F hx ⟨u, v, rfl, kf, hf⟩
      have hx4 := List.mem_of_getElem? hx
      have hq2 := Kp.drop1 hD2 kf _ _ (by simp) hq1
      walk_at "rd"
      refine ⟨_, SqL.of hq2, fun g1 hg1 => ?_⟩
      rw [cut4, ← List.map_take]
      have n1 := Kp.new (bs := []) (HO.lst (((qs.map (·.2)).take 4).map deW)) hg1
      have e1 := upd_same (H := F) (a := g1) (o := HO.lst (((qs.map (·.2)).take 4).map deW))
      generalize upd F g1 (HO.lst (((qs.map (·.2)).take 4).map deW)) = F1 at *
      refine ⟨_, n1 _ _ (by simp) hq2, _, e1, by rw [List.length_map, List.length_map, List.length_map, List.length_take, List.length_map]; omega, fun g2 hg2 => ?_⟩
      rw [← List.map_append]
      have n2 := Kp.new (bs := []) (HO.lst ((qs.map (·.2) ++ (qs.map (·.2)).take 4).map deW)) hg2
      have e2 := upd_same (H := F1) (a := g2) (o := HO.lst ((qs.map (·.2) ++ (qs.map (·.2)).take 4).map deW))
      generalize upd F1 g2 (HO.lst ((qs.map (·.2) ++ (qs.map (·.2)).take 4).map deW)) = F2 at *
      have n12 := n1.trans n2
      have hf2 := n12 _ _ (by simp) hf
      clear n1 e1 n2
      have ll : ((qs.map (·.2) ++ (qs.map (·.2)).take 4).map deW).length ≤ 64 := by rw [List.length_map, List.length_append, List.length_take, List.length_map]; omega
      refine ⟨⟨_, SqL.of e2⟩, fun D3 hD3 => ?_⟩
      refine cl_list (xs := (qs.map (·.2) ++ (qs.map (·.2)).take 4).map deW) (fun j τ F' => ∃ (u : Option V) (ws : List V), τ = [some (V.ref pc), some (V.int (0 + i)), some (V.ref pb), some (V.int n), some (V.ref D), some (V.ref pdue), u6, x7, some (V.ref pl), some (V.ref pr), some (cE st.2), x11, some x, u] ∧ Kp [D3] (upd F2 D3 (.lst [])) F' ∧ F' D3 = some (.lst ws) ∧ ws.length = (((qs.map (·.2) ++ (qs.map (·.2)).take 4).map deW).take j).countP fun y => eqV y x) ?_ ?_ ?_ ?_
      · exact ⟨_, [], rfl, Kp.refl, upd_same, rfl⟩
      · rintro j τ F' _ ⟨u, ws, rfl, kj, hj, _⟩
        exact SqL.of (Kp.drop1 hD3 kj _ _ (by simp) e2)
      · rintro j y τ F' hy ⟨u, ws, rfl, kj, hj, lj⟩
        obtain ⟨d, rfl⟩ := de_of hy
        have ljb : ws.length ≤ 64 := by
          rw [lj]
          exact Nat.le_trans cnt_le ll
        walk_at "rd"
        refine ⟨deW_scal d hx4, ?_⟩
        by_cases c : deW d = x
        · rw [if_pos c, cnt_yes hx4 hy c]
          exact ⟨_, hj, by omega, kj.trans (Kp.set _ (by simp)), _, upd_same, by rw [List.length_append, lj]; rfl⟩
        · rw [if_neg c, cnt_no hx4 hy c]
          exact ⟨kj, _, hj, lj⟩
      · rintro τ F' ⟨u, ws, rfl, kj, hj, lj⟩
        have kF := Kp.drop1 hD3 kj
        refine ⟨D3, rfl, _, .inl (SqL.of hj), _, kF _ _ (by simp) hf2, by rw [List.length_map, List.length_take]; show min k 4 < sizeLine; omega, (kf.trans ((n12.trans kF).mono (by simp))).trans (Kp.set _ (by simp)), ?_⟩
        rw [upd_same, List.take_add_one (l := w4) (i := k), hx, List.map_append, lj, List.take_length]; rfl
    rintro τ F3 ⟨u, v, rfl, kf, hf⟩
    have hmore : F3 D2 = some (.lst (cnt4 (qs.map (·.2) ++ (qs.map (·.2)).take 4))) := hf
    have k39 := np.trans (Kp.drop1 hD2 kf)
    have k09 := k08.trans k39
    have hl9 := k39 _ _ (by simp) hl8
    have he9 := k39 _ _ (by simp) he8
    have hqs9 : ∀ q ∈ qs, F3 q.1 = some (.tup (deV q.2)) := fun y hy => k39 _ _ (by simp) (hqs8 y hy)
    clear hf kf k39 hl8 he8 hqs8 hw8 k08 ep hq1 np
    subst hr0
    refine seq_cut fun r hr0 => ?_
    walk_at "rd"
    refine ⟨_, SqL.of hl9, fun g1 hg1 => ?_⟩
    rw [cut4, tfs_take]
    have n1 := Kp.new (bs := []) (HO.lst (tfs (deP (qs.take 4)))) hg1
    have e1 := upd_same (H := F3) (a := g1) (o := HO.lst (tfs (deP (qs.take 4))))
    generalize upd F3 g1 (HO.lst (tfs (deP (qs.take 4)))) = F4 at *
    refine ⟨_, n1 _ _ (by simp) hl9, _, e1, by rw [tfs_lenE, tfs_lenE, List.length_map, List.length_map, List.length_take]; omega, fun g2 hg2 => ?_⟩
    rw [tfs_cat]
    have n2 := Kp.new (bs := []) (HO.lst (tfs (deP (qs ++ qs.take 4)))) hg2
    have e2 := upd_same (H := F4) (a := g2) (o := HO.lst (tfs (deP (qs ++ qs.take 4))))
    generalize upd F4 g2 (HO.lst (tfs (deP (qs ++ qs.take 4)))) = F5 at *
    have n12 := n1.trans n2
    refine ⟨g2, qs ++ qs.take 4, rfl, .inl e2, fun z hz => n12 _ _ (by simp) (hqs9 z (by rcases List.mem_append.mp hz with y | y; exact y; exact List.mem_of_mem_take y)), by rw [List.length_append, List.length_take]; omega, fun pd F6 k6 hpd => ?_⟩
    rw [List.map_append, List.map_take] at hpd
    have k36 := n12.trans k6
    refine ⟨_, .inl ⟨SqL.of (k36 _ _ (by simp) hmore), fun pt4 hpt4 => ?_⟩⟩
    have n4 := Kp.new (bs := []) (HO.tup (cnt4 (qs.map (·.2) ++ (qs.map (·.2)).take 4))) hpt4
    refine sameT_flatI (n4 _ _ (by simp) hpd) upd_same (by show 4 ≤ 1000; decide) (cnt4_int _) fun F7 k7 => ⟨_, rfl, ?_⟩
    rw [if_neg (by decide)]
    have k37 := (k36.trans n4).trans k7
    have k010 := k09.trans k37
    have hl10 := k37 _ _ (by simp) hl9
    have he10 := k37 _ _ (by simp) he9
    have hqs10 : ∀ q ∈ qs, F7 q.1 = some (.tup (deV q.2)) := fun y hy => k37 _ _ (by simp) (hqs9 y hy)
    obtain ⟨ms, hdm⟩ := hdo.withM (List.replicate n 0)
    have hsum := hdm.sum (by rw [List.length_replicate]; exact start_ok n)
    rw [wgt_sum] at hsum
    subst hr0
    walk_at "rd"
    refine ⟨n, pl, qs, st, ms, rfl, .inl hl10, hqs10, hdm, by omega, by omega, fun pw pmv F8 k8 hpmv => ?_⟩
    have he11 := k8 _ _ (by simp) he10
    have k011 := k010.trans k8
    have cs : cntW dSwap (qs.map (·.2)) ≤ 100 := Nat.le_trans List.countP_le_length (by rw [List.length_map, List.length_map]; omega)
    refine ⟨fun pr' h _ _ hpw => ?_, fun pb' os _ _ _ _ hpw => ?_⟩
    all_goals
      refine ⟨pw, rfl, _, SqT.of hpw, _, rfl, _, rfl, ms, SqT.of hpmv, _, SqT.of he11, _, rfl, _, rfl, cmul_l (by omega) (by omega), _, SqT.of he11, _, rfl, _, rfl, _, SqT.of he11, _, rfl, _, rfl, _, SqT.of he11, _, rfl, _, rfl, ?_⟩
      refine ⟨rfl, ?_⟩
      rw [if_neg (not_not_intro (hsum.trans (by rw [sum_rep0]; omega)))]
      refine ⟨Nat.zero_le _, fun g0 hg0 => ?_⟩
      have n0 := Kp.new (bs := []) (HO.lst []) hg0
      refine ⟨g0, [], rfl, .inl upd_same, (fun z hz => nomatch hz), by show 0 ≤ 10000; omega, fun pz F9 k9 hpz => ⟨by show 4 ≤ sizeLine; omega, fun g9 hg9 => ?_⟩⟩
      have n9 := Kp.new (bs := []) (HO.tup [V.int 0, V.int 0, V.int 0, V.int 0]) hg9
      refine ⟨pz, rfl, _, SqT.of (n9 _ _ (by simp) hpz), _, SqT.of upd_same, rfl, by decide +kernel, by decide +kernel, ?_⟩
      rw [if_neg (by decide +kernel)]
      exact ⟨⟨_, rfl⟩, ((k011.trans n0).trans k9).trans n9⟩
  · rintro τ H' ⟨x1, x2, x3, x4, x5, x6, x7, x8, x9, x10, x11, x12, x13, rfl, kp⟩
    walk_at "rd"
    exact q _
end
theorem all_mk {l : PySem.W.OpenLaw} {w : World} {K : PySem.W.Frag} {h : Heap} {mg : Str → Option Value} {fa C pa : Addr} (X : K.In h) (G : h.Ns mainGlobals mg) (hfa : mg "law" = some (.ref fa)) (a : At K mg "law" s_law) (B : Blt mg) (Bsum : mg "sum" = none)
    (a1 : At K mg "_law_take" s_take) (a2 : At K mg "_law_box" s_box) (a3 : At K mg "_law_folded" s_folded) (a4 : At K mg "_law_length" s_length) (a5 : At K mg "_law_deed" s_deed) (a6 : At K mg "_law_done" s_done) (a7 : At K mg "_law_same" s_same)
    (a8 : At K mg "_law_plan" s_plan) (a9 : At K mg "deeds_of" s_deedsof) (a10 : At K mg "is_place" s_isplace) (a11 : At K mg "is_deed" s_isdeed) (a12 : At K mg "room_behind" s_rbehind) (a13 : At K mg "walked" s_walked) (a14 : At K mg "back_of" s_backT)
    (aP : PySem.W.nsIn K mainGlobals "PLACES_OF" = some (some (.ref pa))) {t1 t2 t3 t4 u1 u2 u3 u4 : Tok} {ep : Nat}
    (lP : K.lookup pa = some ⟨.type "dict", none, .dict #[⟨hashStr w "swap", .str "swap" t1, .int 2 u1⟩, ⟨hashStr w "take", .str "take" t2, .int 1 u2⟩, ⟨hashStr w "move", .str "move" t3, .int 2 u3⟩, ⟨hashStr w "lay", .str "lay" t4, .int 1 u4⟩] ep, #[]⟩) (nP : (pa == sysModules) = false)
    (aC : PySem.W.nsIn K mainGlobals "Room" = some (some (.ref C))) (pg : PySem.W.plainGet K C Str.empty = true) (hd : PySem.W.hasDictIn K C = true) (po : PySem.W.plainOver K C = true) (sa : PySem.W.findIn K (.ref C) "__setattr__" = some (some (.builtin "object.__setattr__"))) (mk : PySem.W.makesIn K C = true) (kc : PySem.W.keepIn K (.ref C) = true)
    (nr : PySem.W.findIn K (.ref C) "row" = some none) (nh : PySem.W.findIn K (.ref C) "hand" = some none) (nm : PySem.W.findIn K (.ref C) "moved" = some none)
    (m0 : AtM K C "__init__" "Room.__init__" m_init) (m1 : AtM K C "do" "Room.do" m_do) (m2 : AtM K C "swap" "Room.swap" m_swap) (m3 : AtM K C "take" "Room.take" m_take) (m4 : AtM K C "move" "Room.move" m_move) (m5 : AtM K C "lay" "Room.lay" m_lay) (m6 : AtM K C "lift" "Room.lift" m_lift) (m7 : AtM K C "row_now" "Room.row_now" m_rnow) (m8 : AtM K C "hand_now" "Room.hand_now" m_hnow) (m9 : AtM K C "moved_now" "Room.moved_now" m_mnow) :
    ∃ fd : FuncData, (∀ (s : Shared) (v : Value), BindsTo s fd ⟨[v], []⟩ [("_law_script", v)]) ∧ ∀ base : Heap, K.In base → base.Ns mainGlobals mg → FnOk l.prog w K mg base CX0 20 fa fd ["_law_script"] (spLaw K) := by
  obtain ⟨f, fd, F, m⟩ := id a
  obtain rfl : fa = f := by rw [hfa] at m; cases m; rfl
  obtain ⟨oc, od, kV, doc, pm, an, cdv, ct, osl, e, lk, hcd⟩ := F.ex
  refine ⟨fd, fun s v => ?_, fun base _ _ => ?_⟩
  · subst e; exact .of_eq rfl
  · have R : RTx K C := ⟨⟨pg, hd, po, sa⟩, nr, nh, nm⟩
    have KP : KD K w pa kvsP := kd_places lP nP
    have T := df_take (P := l.prog) (w := w) (base := base) a1 B
    have s0 := df_same0 (P := l.prog) (w := w) (base := base) a7
    have s1 := df_sameT (P := l.prog) (w := w) (base := base) a7 B (df_sameI (P := l.prog) (w := w) (base := base) a7 B s0)
    have d1 := df_isdeed (P := l.prog) (w := w) (base := base) a11 B KP (PySem.W.mg_of X G aP) (df_isplace a10 B)
    have ml := dm_lift (P := l.prog) (w := w) (mg := mg) (base := base) m6 R
    have md := dm_do (P := l.prog) (w := w) (base := base) m1 R B d1 ((dm_swap m2 R).mono (by decide)) (dm_take m3 R ml) (dm_move m4 R ml) ((dm_lay m5 R).mono (by decide))
    obtain ⟨fi, fdi, Fi, bi, mi⟩ := (dm_init (P := l.prog) (w := w) (base := base) m0 R B).mono (show 1 ≤ 4 by decide)
    have MR : Mkr l.prog w K mg base "Room" C ["self", "n"] 4 (spInit C) := ⟨fi, fdi, Fi, bi, ⟨mk, mi.at_, mi.fn, kc⟩, PySem.W.mg_of X G aC⟩
    have rb := df_rbehind (P := l.prog) (w := w) (base := base) a12 R B MR (md.mono (by decide))
    have wk := df_walked (P := l.prog) (w := w) (base := base) a13 R B rb ((df_backT a14 B).mono (by decide)) ((dm_rnow m7 R B).mono (by decide)) ((dm_hnow m8 R).mono (by decide)) ((dm_mnow m9 R B).mono (by decide))
    have pl := df_plan (P := l.prog) (w := w) (base := base) a8 B (df_deed a5 B T) ((df_done a6 B).mono (by decide))
    have L := df_law (P := l.prog) (w := w) (base := base) a B Bsum ((df_box a2 B).mono (by decide)) ((df_folded a3 B).mono (by decide)) (T.mono (by decide)) ((df_length a4 B T).mono (by decide)) (pl.mono (by decide)) (s1.mono (by decide)) ((df_deedsof a9 B).mono (by decide)) (wk.mono (by decide))
    exact L.fn m lk
theorem walk {l : PySem.W.OpenLaw} {q : Program} {loose : List Str} {XP : (Str → Option Value) → Heap → Prop} {YP : World → Heap → Prop} {d : DefRec} {K : Params → PySem.W.Frag} (hn : l.most = some 63) (hdf : d.params.defaults = [])
    (hY : ∀ (w : World) (h : Heap), YP w h → (K w.params).In h)
    (F : ∀ (w : World) (mg : Str → Option Value) (fa : Addr) (h : Heap), (K w.params).In h → h.Ns mainGlobals mg → mg d.name = some (.ref fa) →
      ∃ fd : FuncData, (∀ (s : Shared) (u : Value), BindsTo s fd ⟨[u], []⟩ [("_law_script", u)]) ∧ ∀ base : Heap, (K w.params).In base → base.Ns mainGlobals mg → FnOk l.prog w (K w.params) mg base CX0 20 fa fd ["_law_script"] (spLaw (K w.params))) :
    PySem.W.WalkO q loose XP YP l.row.toRowW d [] (fun f vs => PySem.call f vs) :=
  L2.walk_of (n := 63) (k := 20) (x := "_law_script") (CX := fun _ => CX0) (sp := fun w => spLaw (K w.params)) hn (by decide) hdf ⟨rfl, by decide, by decide⟩ hY F (fun _ _ a ns hl _ hS => ⟨a, ns, rfl, hS, hl, fun _ => rfl⟩) fun _ _ _ _ _ z => z
end Ot
open PySem PySem.W PyProof.Rows
set_option maxRecDepth 100000 in
set_option maxHeartbeats 0 in
theorem PySem.Challenge.cw_ownturn_k11_deeds_counted_holds : PySem.Challenge.rw_ownturn_k11_deeds_counted.Holds := by
  w_on; o_law; k_head; (case hw => w_witness2)
  k_fill
  refine Ot.walk (l := PySem.Challenge.rw_ownturn_k11_deeds_counted) rfl rfl (fun w h Y => PySem.W.kIn_of Y) ?F
  case F =>
    intro w mg fa h KX G hmg
    refine' Ot.all_mk KX G hmg (L2.at_mk KX G ?a0 ?l0 ?c0 ?k0) (L2.blt_mk KX G ?z1 ?z2 ?z3 ?z4 ?z5 ?z6 ?z7 ?z8 ?z9 ?z10 ?z11 ?z12 ?z13 ?z14 ?z15 ?z16) (PySem.W.mg_none_of KX G ?zsum) (L2.at_mk KX G ?a1 ?l1 ?c1 ?k1) (L2.at_mk KX G ?a2 ?l2 ?c2 ?k2) (L2.at_mk KX G ?a3 ?l3 ?c3 ?k3) (L2.at_mk KX G ?a4 ?l4 ?c4 ?k4) (L2.at_mk KX G ?a5 ?l5 ?c5 ?k5) (L2.at_mk KX G ?a6 ?l6 ?c6 ?k6) (L2.at_mk KX G ?a7 ?l7 ?c7 ?k7) (L2.at_mk KX G ?a8 ?l8 ?c8 ?k8) (L2.at_mk KX G ?a9 ?l9 ?c9 ?k9) (L2.at_mk KX G ?a10 ?l10 ?c10 ?k10) (L2.at_mk KX G ?a11 ?l11 ?c11 ?k11) (L2.at_mk KX G ?a12 ?l12 ?c12 ?k12) (L2.at_mk KX G ?a13 ?l13 ?c13 ?k13) (L2.at_mk KX G ?a14 ?l14 ?c14 ?k14) ?aP ?lP ?nP ?aC ?pg ?hd ?po ?sa ?mk ?kc ?nr ?nh ?nm (L2.atm_mk ?ma0 ?mi0 ?ml0 ?mc0 ?mk0) (L2.atm_mk ?ma1 ?mi1 ?ml1 ?mc1 ?mk1) (L2.atm_mk ?ma2 ?mi2 ?ml2 ?mc2 ?mk2) (L2.atm_mk ?ma3 ?mi3 ?ml3 ?mc3 ?mk3) (L2.atm_mk ?ma4 ?mi4 ?ml4 ?mc4 ?mk4) (L2.atm_mk ?ma5 ?mi5 ?ml5 ?mc5 ?mk5) (L2.atm_mk ?ma6 ?mi6 ?ml6 ?mc6 ?mk6) (L2.atm_mk ?ma7 ?mi7 ?ml7 ?mc7 ?mk7) (L2.atm_mk ?ma8 ?mi8 ?ml8 ?mc8 ?mk8) (L2.atm_mk ?ma9 ?mi9 ?ml9 ?mc9 ?mk9)
    (case aP => k_is); (case lP => k_is); (case nP => first | rfl | decide | k_is); (case aC => k_is)
    (case a0 => k_is); (case l0 => k_is); (case c0 => k_is); (case k0 => k_is)
    (case a1 => k_is); (case l1 => k_is); (case c1 => k_is); (case k1 => k_is)
    (case a2 => k_is); (case l2 => k_is); (case c2 => k_is); (case k2 => k_is)
    (case a3 => k_is); (case l3 => k_is); (case c3 => k_is); (case k3 => k_is)
    (case a4 => k_is); (case l4 => k_is); (case c4 => k_is); (case k4 => k_is)
    (case a5 => k_is); (case l5 => k_is); (case c5 => k_is); (case k5 => k_is)
    (case a6 => k_is); (case l6 => k_is); (case c6 => k_is); (case k6 => k_is)
    (case a7 => k_is); (case l7 => k_is); (case c7 => k_is); (case k7 => k_is)
    (case a8 => k_is); (case l8 => k_is); (case c8 => k_is); (case k8 => k_is)
    (case a9 => k_is); (case l9 => k_is); (case c9 => k_is); (case k9 => k_is)
    (case a10 => k_is); (case l10 => k_is); (case c10 => k_is); (case k10 => k_is)
    (case a11 => k_is); (case l11 => k_is); (case c11 => k_is); (case k11 => k_is)
    (case a12 => k_is); (case l12 => k_is); (case c12 => k_is); (case k12 => k_is)
    (case a13 => k_is); (case l13 => k_is); (case c13 => k_is); (case k13 => k_is)
    (case a14 => k_is); (case l14 => k_is); (case c14 => k_is); (case k14 => k_is)
    (case zsum => k_is)
    (case z1 => k_is)
    (case z2 => k_is)
    (case z3 => k_is)
    (case z4 => k_is)
    (case z5 => k_is)
    (case z6 => k_is)
    (case z7 => k_is)
    (case z8 => k_is)
    (case z9 => k_is)
    (case z10 => k_is)
    (case z11 => k_is)
    (case z12 => k_is)
    (case z13 => k_is)
    (case z14 => k_is)
    (case z15 => k_is)
    (case z16 => k_is)
    (case pg => k_is); (case hd => k_is); (case po => k_is); (case sa => k_is); (case mk => k_is); (case kc => k_is); (case nr => k_is); (case nh => k_is); (case nm => k_is)
    (case ma0 => k_is); (case mi0 => k_is); (case ml0 => k_is); (case mc0 => k_is); (case mk0 => k_is)
    (case ma1 => k_is); (case mi1 => k_is); (case ml1 => k_is); (case mc1 => k_is); (case mk1 => k_is)
    (case ma2 => k_is); (case mi2 => k_is); (case ml2 => k_is); (case mc2 => k_is); (case mk2 => k_is)
    (case ma3 => k_is); (case mi3 => k_is); (case ml3 => k_is); (case mc3 => k_is); (case mk3 => k_is)
    (case ma4 => k_is); (case mi4 => k_is); (case ml4 => k_is); (case mc4 => k_is); (case mk4 => k_is)
    (case ma5 => k_is); (case mi5 => k_is); (case ml5 => k_is); (case mc5 => k_is); (case mk5 => k_is)
    (case ma6 => k_is); (case mi6 => k_is); (case ml6 => k_is); (case mc6 => k_is); (case mk6 => k_is)
    (case ma7 => k_is); (case mi7 => k_is); (case ml7 => k_is); (case mc7 => k_is); (case mk7 => k_is)
    (case ma8 => k_is); (case mi8 => k_is); (case ml8 => k_is); (case mc8 => k_is); (case mk8 => k_is)
    (case ma9 => k_is); (case mi9 => k_is); (case ml9 => k_is); (case mc9 => k_is); (case mk9 => k_is)
