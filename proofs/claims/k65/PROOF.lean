import PyProof.Rows.All
import Wide.All
import OpenK.AllK
import Wide.FinOn
import Lean
import PyProof.EqAt
import PyProof.EqKinds
import PyProof.TupleCall
import PySem.Challenge.RW_ownturn_k65_whole_one_order_by_many_name
set_option Elab.async false
set_option linter.all false
set_option maxRecDepth 100000
namespace L2
open PySem PySem.Spec PyProof.Rows
abbrev Key := Sum Int Str
def K8 : Key -> Value -> Bool
 | .inl k, v => Value.isInt k v
 | .inr x, v => Value.isStrOf x v
def V9 (w : World) : Key -> Int
 | .inl k => hashInt k
 | .inr x => hashStr w x
theorem zJ : ∀ {k : Key} {v : Value}, K8 k v = true -> (∃ i t, k = Sum.inl i /\ v = Value.int i t) \/ (∃ x t, k = Sum.inr x /\ v = Value.str x t)
 | .inl i, v, h => by
  obtain ⟨t, e⟩ := Value.isInt_shape (k := i) (v := v) h
  exact .inl ⟨i, t, rfl, e⟩
 | .inr x, v, h => by
  obtain ⟨t, e⟩ := Value.isStrOf_shape (x := x) (v := v) h
  exact .inr ⟨x, t, rfl, e⟩
theorem Yx (a b : Int) : decide ((Sum.inl a : Key) = Sum.inl b) = (a == b) := by
 by_cases e : a = b
 ·subst e; simp
 ·have h : ¬ (Sum.inl a : Key) = Sum.inl b := fun q => e (Sum.inl.inj q)
  rw [decide_eq_false h]
  exact (beq_eq_false_iff_ne.mpr e).symm
theorem Y0 (a b : Str) : decide ((Sum.inr a : Key) = Sum.inr b) = decide (a = b) := by
 by_cases e : a = b
 ·subst e; simp
 ·have h : ¬ (Sum.inr a : Key) = Sum.inr b := fun q => e (Sum.inr.inj q)
  rw [decide_eq_false h, decide_eq_false e]
theorem XB (a : Int) (b : Str) : decide ((Sum.inl a : Key) = Sum.inr b) = false := decide_eq_false (fun q => nomatch q)
theorem K9 (a : Str) (b : Int) : decide ((Sum.inr a : Key) = Sum.inl b) = false := decide_eq_false (fun q => nomatch q)
def kc (prog : Program) (w : World) : PySem.KeyKind prog w Key where
 is := K8
 hash := V9 w
 inj := fun v a b ha hb => by
  rcases zJ ha with ⟨i, t, rfl, rfl⟩ | ⟨x, t, rfl, rfl⟩
  ·rcases zJ hb with ⟨j, u, rfl, e⟩ | ⟨y, u, rfl, e⟩
   ·injection e with e1 _; rw [e1]
   ·exact nomatch e
  ·rcases zJ hb with ⟨j, u, rfl, e⟩ | ⟨y, u, rfl, e⟩
   ·exact nomatch e
   ·injection e with e1 _; rw [e1]
 byValue := fun k v h => by
  rcases zJ h with ⟨i, t, rfl, rfl⟩ | ⟨x, t, rfl, rfl⟩ <;> rfl
 pyHash := fun hv h => by
  rcases zJ hv with ⟨i, t, rfl, rfl⟩ | ⟨x, t, rfl, rfl⟩
  ·exact wpAny_pyHash_int h
  ·exact wpAny_pyHash_str h
 eqBool := fun hu hv h => by
  rcases zJ hu with ⟨i, t, rfl, rfl⟩ | ⟨x, t, rfl, rfl⟩
  ·rcases zJ hv with ⟨j, u, rfl, rfl⟩ | ⟨y, u, rfl, rfl⟩
   ·rw [Yx] at h; exact wpAny_eqBool_int h
   ·rw [XB] at h; exact SeqAt.EqAt.int_str i t y u _ _ _ _ h
  ·rcases zJ hv with ⟨j, u, rfl, rfl⟩ | ⟨y, u, rfl, rfl⟩
   ·rw [K9] at h; exact SeqAt.EqAt.str_int x t j u _ _ _ _ h
   ·rw [Y0] at h; exact wpAny_eqBool_str h
 «strs» := fun k x t v h => by
  rcases zJ h with ⟨i, u, rfl, e⟩ | ⟨y, u, rfl, e⟩
  ·exact nomatch e
  ·injection e with e1 _
   subst e1
   cases v <;> rfl
end L2
namespace L2
open PySem PySem.Spec PyProof.Rows
inductive V where
 | non | bl (b : Bool) | int (i : Int) | str (x : Str) | byt (b : Array UInt8) | flt (b : UInt64) | ref (a : Addr) | ty (n : String)
 deriving DecidableEq
def zy : V -> Value -> Prop
 | .non, u => u = Value.none
 | .bl b, u => u = Value.bool b
 | .int i, u => ∃ t, u = Value.int i t
 | .str x, u => ∃ t, u = Value.str x t
 | .byt b, u => ∃ t, u = Value.bytes b t
 | .flt b, u => ∃ t, u = Value.float b t
 | .ref a, u => u = Value.ref a
 | .ty n, u => u = Value.type n
abbrev zu : List V -> List Value -> Prop := Paired zy
theorem zu.length {xs : List V} {us : List Value} (r : zu xs us) : xs.length = us.length := Paired.length r
theorem zu.get : ∀ {xs : List V} {us : List Value} {i : Nat} {x : V}, zu xs us -> xs[i]? = some x -> ∃ u, us[i]? = some u /\ zy x u
 | _, _, _, _, .nil, e => by simp at e
 | _, _, 0, _, .cons r _, e => by simp at e; subst e; exact ⟨_, rfl, r⟩
 | _, _, i + 1, x, .cons _ t, e => by
  obtain ⟨u, h1, h2⟩ := zu.get (i := i) (x := x) t (by simpa using e)
  exact ⟨u, by simpa using h1, h2⟩
theorem zu.set {x : V} {u : Value} (r : zy x u) : ∀ {xs : List V} {us : List Value} (i : Nat), zu xs us -> zu (xs.set i x) (us.set i u)
 | _, _, _, .nil => .nil
 | _, _, 0, .cons _ t => .cons r t
 | _, _, i + 1, .cons q t => .cons q (zu.set r i t)
theorem zu.append : ∀ {xs ys : List V} {us ws : List Value}, zu xs us -> zu ys ws -> zu (xs ++ ys) (us ++ ws)
 | _, _, _, _, .nil, s => s
 | _, _, _, _, .cons r t, s => .cons r (zu.append t s)
theorem zu.take : ∀ {xs : List V} {us : List Value} (n : Nat), zu xs us -> zu (xs.take n) (us.take n)
 | _, _, 0, _ => .nil
 | _, _, _ + 1, .nil => .nil
 | _, _, n + 1, .cons r t => .cons r (zu.take n t)
theorem zu.drop : ∀ {xs : List V} {us : List Value} (n : Nat), zu xs us -> zu (xs.drop n) (us.drop n)
 | _, _, 0, r => r
 | _, _, _ + 1, .nil => .nil
 | _, _, n + 1, .cons _ t => zu.drop n t
def VY : Option V -> Option Value -> Prop
 | some v, some u => zy v u
 | none, none => True
 | _, _ => False
def KV {κ : Type} : List (κ × V) -> List (κ × Value) -> Prop := Paired fun (p : κ × V) (q : κ × Value) => p.1 = q.1 /\ zy p.2 q.2
def kV : Key -> V
 | .inl i => .int i
 | .inr x => .str x
inductive HO where
  | lst (xs : List V)
  | tup (xs : List V)
  | dK (kvs : List (Key × V)) | dT (kvs : List (List Key × V))
  | set (S : Int -> Bool) (n : Nat)
  | ins (C dx : Addr) (fs : List (Str × V))
  | own (x : Addr)
  | xd (fs : List (Str × V))
  | met (f x : Addr)
  | rng (lo hi : Int)
  | frz (o : Obj) (u : HO)
  | tbl (ps : Array Value)
  | ext (φ : Heap -> Prop)
abbrev Hp := Addr -> Option HO
def upd (H : Hp) (a : Addr) (o : HO) : Hp := fun b => if b = a then some o else H b
theorem zt {H : Hp} {a : Addr} {o : HO} : upd H a o a = some o := by unfold upd; rw [if_pos rfl]
theorem zk {H : Hp} {a b : Addr} {o : HO} (h : b ≠ a) : upd H a o b = H b := by unfold upd; rw [if_neg h]
theorem Ju {H : Hp} {a b : Addr} {o u : HO} (h : H a = some o) (h' : H b = some u) (d : o ≠ u) : a ≠ b := by
 intro e; subst e; rw [h] at h'; exact d (Option.some.inj h')
theorem zl {H : Hp} {a b : Addr} {o : HO} (h : H a = some o) (h' : H b = none) : a ≠ b := by
 intro e; subst e; rw [h] at h'; cases h'
def yV (h : Heap) (a : Addr) (items : Array Value) : Prop := ∃ o, h.get? a = some o /\ o.cls = .type "tuple" /\ (∃ n, o.data = .seq items n) /\ o.dict = none
theorem yV.is {h : Heap} {a : Addr} {items : Array Value} (x : yV h a items) : IsTup h a items := let ⟨o, e, c, n, _⟩ := x; ⟨o, e, c, n⟩
theorem yV.lt {h : Heap} {a : Addr} {items : Array Value} (x : yV h a items) : a < h.objs.size := x.is.lt
theorem yV.new (h : Heap) (items : Array Value) : yV (h.push { cls := .type "tuple", data := .seq items }) h.objs.size items := ⟨_, Heap.get?_push_size _ rfl, rfl, ⟨_, rfl⟩, rfl⟩
section
variable (P : Program) (w : World)
def qd (H : Hp) (h : Heap) (a : Addr) : HO -> Prop
  | .lst xs => xs.length <= sizeLine /\ ∃ (its : List Value) (n : Nat), zu xs its /\ h.get? a = some { cls := .type "list", data := .seq its.toArray n }
  | .tup xs => xs.length <= sizeLine /\ ∃ its : List Value, zu xs its /\ yV h a its.toArray
  | .dK kvs => kvs.length <= sizeLine /\ (a == sysModules) = false /\ ∃ vs, KV kvs vs /\ h.DictOf (kc P w) a vs
  | .dT kvs => kvs.length <= sizeLine /\ (a == sysModules) = false /\ ∃ xs : List (List Key × Addr × Value),
      Paired (fun (p : List Key × V) (q : List Key × Addr × Value) => p.1 = q.1 /\ H q.2.1 = some (.tup (p.1.map kV)) /\ zy p.2 q.2.2) kvs xs /\
      ∃ o es ep, h.get? a = some o /\ o.ExactDict /\ o.data = .dict es ep /\ es.toList = xs.map (entryOfKey (tupleKind (kc P w))) /\ (xs.map (·.1)).Nodup
  | .set S n => h.SetOf (intKind P w) a S n
  | .ins C dx fs => H dx = some (.own a) /\ fs.length <= 1000 /\ dx ≠ a /\ h.get? a = some (PySem.W.instObj C dx) /\
      ∃ mA, h.Ns1 dx mA /\ (∀ f, VY (fs.lookup f) (mA f)) /\ PySem.Within mA (fs.map (·.1))
  | .own _ => ∃ o, h.get? a = some o
  | .xd fs => ∃ mA, h.Ns1 a mA /\ ∀ f, VY (fs.lookup f) (mA f)
  | .rng lo hi => ∃ t u v, h.get? a = some { cls := .type "range", data := .fields #[.int lo t, .int hi u, .int 1 v] }
  | .frz o u => h.get? a = some o /\ qd H h a u
  | .tbl ps => h.get? a = some { cls := .none, data := .fields ps }
  | .met f x => h.get? a = some (PySem.W.methodObj (.ref f) (.ref x))
  | .ext φ => φ h /\ (∃ o, h.get? a = some o) /\ ∀ h1 h2 : Heap, φ h1 -> (∀ o, h1.get? a = some o -> h2.get? a = some o) -> φ h2
def HOk (H : Hp) (h : Heap) : Prop := ∀ a o, H a = some o -> qd P w H h a o
end
section
variable {P : Program} {w : World} {H H' : Hp} {h h' : Heap} {a : Addr} {o : HO}
theorem qd.lt (x : qd P w H h a o) : a < h.objs.size := by
 cases o with
 | lst xs => obtain ⟨_, _, _, _, e⟩ := x; exact Heap.lt_size e
 | tup xs => obtain ⟨_, _, _, p⟩ := x; exact p.lt
 | dK kvs => obtain ⟨_, _, _, _, o, _, _, e, _⟩ := x; exact Heap.lt_size e
 | dT kvs => obtain ⟨_, _, _, _, o, _, _, e, _⟩ := x; exact Heap.lt_size e
 | set S n => obtain ⟨o, _, _, _, e, _⟩ := x; exact Heap.lt_size e
 | ins C dx fs => obtain ⟨_, _, _, e, _⟩ := x; exact Heap.lt_size e
 | own y => obtain ⟨_, e⟩ := x; exact Heap.lt_size e
 | xd fs => obtain ⟨_, ⟨_, _, _, e, _⟩, _⟩ := x; exact Heap.lt_size e
 | rng lo hi => obtain ⟨_, _, _, e⟩ := x; exact Heap.lt_size e
 | frz ob u => obtain ⟨e, _⟩ := x; exact Heap.lt_size e
 | tbl ps => exact Heap.lt_size (show h.get? a = some _ from x)
 | met f y => exact Heap.lt_size (show h.get? a = some _ from x)
 | ext φ => obtain ⟨_, ⟨_, e⟩, _⟩ := x; exact Heap.lt_size e
theorem Paired.mapP {α β : Type} {F G : α -> β -> Prop} : ∀ {l₁ : List α} {l₂ : List β}, Paired F l₁ l₂ -> (∀ a b, F a b -> G a b) -> Paired G l₁ l₂
 | _, _, .nil, _ => .nil
 | _, _, .cons r t, f => .cons (f _ _ r) (Paired.mapP t f)
theorem qd.stay (x : qd P w H h a o) (k : ∀ b u, (b = a \/ H b = some (.own a)) -> h.get? b = some u -> h'.get? b = some u)
  (ho : ∀ b, H b = some (.own a) -> H' b = some (.own a)) (ht : ∀ b xs, H b = some (.tup xs) -> H' b = some (.tup xs)) : qd P w H' h' a o := by
 induction o with
 | lst xs => obtain ⟨z, its, n, r, e⟩ := x; exact ⟨z, its, n, r, k _ _ (.inl rfl) e⟩
 | tup xs => obtain ⟨z, its, r, ob, e, c⟩ := x; exact ⟨z, its, r, ob, k _ _ (.inl rfl) e, c⟩
 | dK kvs => obtain ⟨z, y, vs, r, ob, es, ep, e, c⟩ := x; exact ⟨z, y, vs, r, ob, es, ep, k _ _ (.inl rfl) e, c⟩
 | dT kvs =>
  obtain ⟨z, y, xs, r, ob, es, ep, e, c⟩ := x
  exact ⟨z, y, xs, Paired.mapP r fun p q z => ⟨z.1, ht _ _ z.2.1, z.2.2⟩, ob, es, ep, k _ _ (.inl rfl) e, c⟩
 | set S n => obtain ⟨ob, es, ep, t, e, c⟩ := x; exact ⟨ob, es, ep, t, k _ _ (.inl rfl) e, c⟩
 | ins C dx fs =>
  obtain ⟨d, z, ne, e, mA, ⟨od, es, ep, e2, c⟩, r⟩ := x
  exact ⟨ho _ d, z, ne, k _ _ (.inl rfl) e, mA, ⟨od, es, ep, k _ _ (.inr d) e2, c⟩, r⟩
 | own y => obtain ⟨ob, e⟩ := x; exact ⟨ob, k _ _ (.inl rfl) e⟩
 | xd fs => obtain ⟨mA, ⟨od, es, ep, e, c⟩, r⟩ := x; exact ⟨mA, ⟨od, es, ep, k _ _ (.inl rfl) e, c⟩, r⟩
 | rng lo hi => obtain ⟨t, u, v, e⟩ := x; exact ⟨t, u, v, k _ _ (.inl rfl) e⟩
 | frz ob u ih => obtain ⟨e, q⟩ := x; exact ⟨k _ _ (.inl rfl) e, ih q⟩
 | tbl ps =>
  have e : h.get? a = some { cls := .none, data := .fields ps } := x
  show h'.get? a = some { cls := .none, data := .fields ps }
  exact k a _ (.inl rfl) e
 | met f y =>
  have e : h.get? a = some (PySem.W.methodObj (.ref f) (.ref y)) := x
  show h'.get? a = some (PySem.W.methodObj (.ref f) (.ref y))
  exact k a _ (.inl rfl) e
 | ext φ => obtain ⟨p, ⟨o, e⟩, st⟩ := x; exact ⟨st _ _ p fun o q => k _ _ (.inl rfl) q, ⟨o, k _ _ (.inl rfl) e⟩, st⟩
theorem HOk.lt (x : HOk P w H h) (e : H a = some o) : a < h.objs.size := (x a o e).lt
theorem HOk.fresh (x : HOk P w H h) (e : h.objs.size <= a) : H a = none := by
 cases q : H a with
 | none => rfl
 | some u => exact absurd (Nat.lt_of_lt_of_le (x.lt q) e) (Nat.lt_irrefl _)
theorem HOk.kept (x : HOk P w H h) (k : ∀ b u, h.get? b = some u -> h'.get? b = some u) : HOk P w H h' := fun a o e =>
 (x a o e).stay (fun b u _ q => k b u q) (fun _ q => q) fun _ _ q => q
theorem HOk.laid (x : HOk P w H h) (k : ∀ b u, h.get? b = some u -> h'.get? b = some u) (hp : h.objs.size <= a) (new : qd P w (upd H a o) h' a o) : HOk P w (upd H a o) h' := fun b u e => by
 have hn := x.fresh hp
 by_cases hb : b = a
 ·subst hb; rw [zt] at e; cases e; exact new
 ·rw [zk hb] at e
  exact (x b u e).stay (fun c v _ q => k c v q) (fun c q => by rw [zk (zl q hn)]; exact q) fun c xs q => by rw [zk (zl q hn)]; exact q
end
def Rd (H : Hp) (a : Addr) (u : HO) : Prop := H a = some u \/ ∃ o, H a = some (.frz o u)
theorem Rd.ok {P : Program} {w : World} {H : Hp} {h : Heap} {a : Addr} {u : HO} (r : Rd H a u) (x : HOk P w H h) : qd P w H h a u := by
 rcases r with r | ⟨o, r⟩
 ·exact x a u r
 ·obtain ⟨_, q⟩ := x a _ r
  exact q
def Mut : Option HO -> Prop
 | some (.lst _) => True
 | some (.dK _) => True
 | some (.dT _) => True
 | some (.set _ _) => True
 | some (.ins _ _ _) => True
 | some (.ext _) => True
 | _ => False
section
variable {P : Program} {w : World} {H : Hp} {h h' : Heap} {x e : Addr} {o' : HO}
theorem HOk.write (ok : HOk P w H h) (mu : Mut (H x)) (he : e = x \/ H e = some (.own x)) (k : ∀ b u, b ≠ e -> h.get? b = some u -> h'.get? b = some u) (heo : ∃ u, h'.get? e = some u)
    (new : qd P w (upd H x o') h' x o') : HOk P w (upd H x o') h' := fun b u q => by
  have nown : ∀ c y, H c = some (.own y) -> c ≠ x := fun c y r z => by subst z; rw [r] at mu; exact mu
  have ntup : ∀ c xs, H c = some (.tup xs) -> c ≠ x := fun c xs r z => by subst z; rw [r] at mu; exact mu
  by_cases hb : b = x
  · subst hb; rw [zt] at q; cases q; exact new
  · rw [zk hb] at q
    by_cases hbe : b = e
    · have q' : H b = some (.own x) := by
        rcases he with z | z
        · exact absurd (hbe.trans z) hb
        · rw [hbe]; exact z
      rw [q] at q'; cases q'
      obtain ⟨v, hv⟩ := heo
      exact ⟨v, by rw [hbe]; exact hv⟩
    · refine (ok b u q).stay (fun c v hc r => k c v ?_ r) (fun c r => by rw [zk (nown c b r)]; exact r) fun c xs r => by rw [zk (ntup c xs r)]; exact r
      rcases hc with rfl | hc
      · exact hbe
      · rintro rfl
        rcases he with z | z
        · exact nown c b hc z
        · rw [hc] at z; cases z; exact hb rfl
end
structure Un (fs ex : List Addr) (H H' : Hp) (h h' : Heap) : Prop where
 keep : ∀ b o, h.get? b = some o -> H b = none -> b ∉ fs -> b ∉ ex -> h'.get? b = some o
 slot : ∀ b o, h.get? b = some o -> H b = none -> b ∈ fs -> b ∉ ex -> ∃ sl, h'.get? b = some { o with slots := sl }
 free : ∀ b o, h.get? b = some o -> H b = none -> b ∉ ex -> H' b = none
 there : ∀ b o, h.get? b = some o -> b ∉ ex -> ∃ o', h'.get? b = some o'
 tups : ∀ b xs, H b = some (.tup xs) -> H' b = some (.tup xs)
 frzs : ∀ b o u, H b = some (.frz o u) -> H' b = some (.frz o u)
 tbls : ∀ b ps, H b = some (.tbl ps) -> ∃ more, H' b = some (.tbl (ps ++ more))
section
variable {fs fs' ex ex' : List Addr} {H H1 H2 : Hp} {h h1 h2 h' : Heap} {a x e : Addr} {o : HO}
theorem Un.any (u : Un fs ex H H1 h h1) {b : Addr} {ob : Obj} (q : h.get? b = some ob) (n : H b = none) (hx : b ∉ ex) : ∃ sl, h1.get? b = some { ob with slots := sl } := by
 by_cases hb : b ∈ fs
 ·exact u.slot b ob q n hb hx
 ·exact ⟨ob.slots, u.keep b ob q n hb hx⟩
theorem Un.kept (k : ∀ b u, h.get? b = some u -> h'.get? b = some u) : Un fs ex H H h h' :=
 ⟨fun b ob q _ _ _ => k b ob q, fun b ob q _ _ _ => ⟨ob.slots, k b ob q⟩, fun _ _ _ n _ => n, fun b ob q _ => ⟨ob, k b ob q⟩, fun _ _ q => q, fun _ _ _ q => q, fun _ ps q => ⟨#[], by rw [q]; simp⟩⟩
theorem Un.refl : Un fs ex H H h h := Un.kept fun _ _ q => q
theorem Un.laid (k : ∀ b u, h.get? b = some u -> h'.get? b = some u) (hp : h.objs.size <= a) (hn : H a = none) : Un fs ex H (upd H a o) h h' where
 keep := fun b u q _ _ _ => k b u q
 slot := fun b u q _ _ _ => ⟨u.slots, k b u q⟩
 free := fun b u q n _ => by rw [zk (Nat.ne_of_lt (Nat.lt_of_lt_of_le (Heap.lt_size q) hp))]; exact n
 there := fun b u q _ => ⟨u, k b u q⟩
 tups := fun b xs q => by rw [zk (zl q hn)]; exact q
 frzs := fun b u xs q => by rw [zk (zl q hn)]; exact q
 tbls := fun b ps q => ⟨#[], by rw [zk (zl q hn), q]; simp⟩
theorem Un.write (mu : Mut (H x)) (he : e = x \/ H e = some (.own x)) (k : ∀ b u, b ≠ e -> h.get? b = some u -> h'.get? b = some u) (heo : ∃ u, h'.get? e = some u) : Un fs ex H (upd H x o) h h' := by
 have hx : ∀ b, H b = none -> b ≠ x := fun b n z => by subst z; rw [n] at mu; exact mu
 have hb : ∀ b, H b = none -> b ≠ e := fun b n z => by
  subst z
  rcases he with r | r
  ·exact hx b n r
  ·rw [n] at r; cases r
 have hm : ∀ b u, H b = some u -> ¬ Mut (some u) -> b ≠ x := fun b u q nm z => by subst z; rw [q] at mu; exact nm mu
 refine ⟨fun b u q n _ _ => k b u (hb b n) q, fun b u q n _ _ => ⟨u.slots, k b u (hb b n) q⟩, fun b u q n _ => by rw [zk (hx b n)]; exact n, fun b u q _ => ?_,
  fun b xs q => by rw [zk (hm b _ q fun z => z)]; exact q, fun b u xs q => by rw [zk (hm b _ q fun z => z)]; exact q, fun b ps q => ⟨#[], by rw [zk (hm b _ q fun z => z), q]; simp⟩⟩
 by_cases hbe : b = e
 ·subst hbe; exact heo
 ·exact ⟨u, k b u hbe q⟩
end
def trk (h : Heap) (H : Hp) : List Addr := (List.range h.objs.size).filter fun a => (H a).isSome
def xI (h : Heap) (H : Hp) : Heap := PySem.W.hideAll h (trk h H)
theorem wK (h : Heap) (H : Hp) : (xI h H).objs.size = h.objs.size := PySem.W.hideAll_size _ _
theorem Z9 {h : Heap} {H : Hp} {b : Addr} {o : Obj} (e : h.get? b = some o) (n : H b = none) : (xI h H).get? b = some o :=
 PySem.W.hideAll_get _ e fun hm => by
  have q : (H b).isSome = true := (List.mem_filter.mp hm).2
  rw [n] at q; simp at q
theorem Kc {h : Heap} {H : Hp} {b : Addr} {o : Obj} (e : (xI h H).get? b = some o) : h.get? b = some o /\ H b = none := by
 have e' : h.get? b = some o := PySem.W.of_hideAll (trk h H) e
 refine ⟨e', ?_⟩
 cases q : H b with
 | none => rfl
 | some x =>
  have hm : b ∈ trk h H := List.mem_filter.mpr ⟨List.mem_range.mpr (Heap.lt_size e'), by simp [q]⟩
  have z : (xI h H).get? b = none := PySem.W.hideAll_none (trk h H) hm
  rw [z] at e; cases e
def KJ (g h : Heap) (L : Addr) : List (Addr × Obj) := (List.range h.objs.size).filterMap fun a => if a = L \/ (g.get? a).isSome = true then none else (h.get? a).map fun o => (a, o)
def qc (g h : Heap) (L d : Addr) : List (Addr × Obj) := (KJ g h L).filter fun p => decide (p.1 ≠ d)
end L2
namespace L2
open PySem PySem.Spec PyProof.Rows
structure Mod (K : PySem.W.Frag) (mg : Str -> Option Value) (base : Heap) : Prop where
 kin : K.In base
 glob : base.Ns mainGlobals mg
 blt : ∃ mb, base.Ns builtinsNs mb /\ ∀ x : Str, x ≠ "__name__" -> mb x = bootBuiltins x
 nolimit : base.NoLimit
structure Cx where
 prog : Program
 w : World
 K : PySem.W.Frag
 mg : Str -> Option Value
 base : Heap
 A : Around
 N : List Str
 s₀ : Shared
 H₀ : Hp
 env : Env
 outer : List Env
 stack : List Env
 ex : List Addr
 fn : Str -> Bool
 calm : Bool
 pn : List (Addr × Obj)
 xe : Value -> Shared -> Prop
def frs (l : List Env) : List Addr := l.filterMap (·.frame)
abbrev Cx.fs (X : Cx) : List Addr := frs X.outer
def Vis (sc : Scope) (x : Str) : Prop := sc.names.lookup x = some .local \/ sc.names.lookup x = some .cell \/ sc.names.lookup x = some .free
def Loc (sc : Scope) (x : Str) : Prop := sc.names.lookup x = some .local \/ sc.names.lookup x = some .cell
def V8 (env : Env) (h : Heap) (m : Str -> Option Value) (x : Str) (u : Value) : Prop :=
 (env.kindOf x = some .local /\ m x = some u) \/ ((env.kindOf x = some .cell \/ env.kindOf x = some .free) /\ ∃ c, env.cells.lookup x = some c /\ h.IsCell c (some u))
structure Cx.Ok (X : Cx) : Prop where
 mod : Mod X.K X.mg X.base
 kind : X.env.scope.kind = .function
 glob : X.env.globals = mainGlobals
 blt : X.env.builtins = builtinsNs
 above : X.s₀.heap.objs.size <= X.env.locals
 inj : ∀ x y c, X.env.cells.lookup x = some c -> X.env.cells.lookup y = some c -> x = y
 has : ∀ x, (X.env.kindOf x = some .cell \/ X.env.kindOf x = some .free) -> ∃ c, X.env.cells.lookup x = some c
 cab : ∀ x c, X.fn x = true -> X.env.cells.lookup x = some c -> X.s₀.heap.objs.size <= c
 hd : X.calm = true -> X.A.handled = none
 frames : X.A.frames = some X.stack
 stk : X.stack = X.outer \/ (X.stack = X.env :: X.outer /\ X.env.frame = some X.env.locals)
 exf : ∀ b ∈ X.ex, b ≠ X.env.locals /\ ∀ x c, X.env.cells.lookup x = some c -> c ≠ b
 bs : ∀ b o, X.base.get? b = some o -> X.s₀.heap.get? b = some o /\ X.H₀ b = none
 bsz : X.base.objs.size <= X.s₀.heap.objs.size
 noex : ∀ b o, X.base.get? b = some o -> b ∉ X.ex
 exfs : ∀ b ∈ X.ex, b ∉ X.fs
 funs : X.s₀.heap.FunFrames X.base X.outer
 frf : ∀ b ∈ X.fs, X.H₀ b = none
structure Inv (X : Cx) (pins : List (Addr × Obj)) (σ : List (Option V)) (H : Hp) (s : Shared) : Prop where
 ok : X.Ok
 os : s.os = X.s₀.os
 bare : AllBare s.gens
 base : Un X.fs X.ex X.H₀ H X.s₀.heap s.heap
 loc : ∃ m, s.heap.Ns X.env.locals m /\ ∀ (i : Nat) (x : Str) (v : V), X.N[i]? = some x -> σ[i]? = some (some v) -> Vis X.env.scope x -> ∃ u, zy v u /\ V8 X.env s.heap m x u
 cell : ∀ x c, X.env.cells.lookup x = some c -> ∃ v, s.heap.IsCell c v
 free : H X.env.locals = none
 freeC : ∀ x c, X.env.cells.lookup x = some c -> H c = none
 pin : ∀ p ∈ X.pn ++ pins, s.heap.get? p.1 = some p.2 /\ H p.1 = none /\ p.1 ≠ X.env.locals /\ p.1 ∉ X.fs /\ ∀ v, p.2.data ≠ .cell v
 hok : HOk X.prog X.w H s.heap
 len : σ.length = X.N.length
section
variable {X : Cx} {pins : List (Addr × Obj)} {σ : List (Option V)} {H H' : Hp} {s : Shared} {h' : Heap}
theorem Cx.Ok.nofr (ok : X.Ok) {b : Addr} {o : Obj} (e : X.base.get? b = some o) : b ∉ X.fs := fun hb => by
 have := (ok.funs.mem hb).1
 rw [e] at this; cases this
theorem Inv.bs (I : Inv X pins σ H s) : ∀ b o, X.base.get? b = some o -> s.heap.get? b = some o /\ H b = none := fun b o e =>
 ⟨I.base.keep b o (I.ok.bs b o e).1 (I.ok.bs b o e).2 (I.ok.nofr e) (I.ok.noex b o e), I.base.free b o (I.ok.bs b o e).1 (I.ok.bs b o e).2 (I.ok.noex b o e)⟩
theorem Inv.bk (I : Inv X pins σ H s) : ∀ b o, X.base.get? b = some o -> s.heap.get? b = some o := fun b o e => (I.bs b o e).1
theorem Inv.mod (I : Inv X pins σ H s) : Mod X.K X.mg X.base := I.ok.mod
theorem Inv.kIn (I : Inv X pins σ H s) : X.K.In s.heap := I.ok.mod.kin.keeps I.bk
theorem Inv.lt (I : Inv X pins σ H s) : X.env.locals < s.heap.objs.size := let ⟨_, hn, _⟩ := I.loc; hn.lt
theorem Inv.sz (I : Inv X pins σ H s) : X.s₀.heap.objs.size <= s.heap.objs.size := Nat.le_trans I.ok.above (Nat.le_of_lt I.lt)
theorem Inv.nofs (I : Inv X pins σ H s) {a : Addr} (h : s.heap.objs.size <= a) : a ∉ X.fs := fun hb => by
 obtain ⟨_, o, ho, _⟩ := I.ok.funs.mem hb
 exact absurd (Nat.lt_of_lt_of_le (Heap.lt_size ho) (Nat.le_trans I.sz h)) (Nat.lt_irrefl _)
theorem Inv.cne (I : Inv X pins σ H s) : ∀ x c, X.env.cells.lookup x = some c -> c ≠ X.env.locals := fun x c e z => by
 obtain ⟨v, o, ho, hd⟩ := I.cell x c e
 obtain ⟨m, ⟨o', es, ep, ho', hd', _⟩, _⟩ := I.loc
 rw [z, ho'] at ho; cases ho; rw [hd'] at hd; cases hd
theorem Inv.funs (I : Inv X pins σ H s) : s.heap.FunFrames X.base X.outer := by
 have all : ∀ (l : List Env), (∀ b ∈ frs l, b ∈ X.fs) -> X.s₀.heap.FunFrames X.base l -> s.heap.FunFrames X.base l := by
  intro l
  induction l with
  | nil => intro _ _; trivial
  | cons env r ih =>
   intro hs hl
   obtain ⟨hk, ⟨L, o, hf, hn, ho, hd⟩, hr⟩ := hl
   have hL : L ∈ X.fs := hs L (by unfold frs; rw [List.filterMap_cons, hf]; exact List.mem_cons_self)
   obtain ⟨sl, e⟩ := I.base.slot L o ho (I.ok.frf L hL) hL fun z => I.ok.exfs L z hL
   exact ⟨hk, ⟨L, _, hf, hn, e, hd⟩, ih (fun b hb => hs b (by unfold frs; rw [List.filterMap_cons, hf]; exact List.mem_cons_of_mem _ hb)) hr⟩
 exact all X.outer (fun _ hb => hb) I.ok.funs
theorem Inv.stack (I : Inv X pins σ H s) : s.heap.FunFrames X.base X.stack := by
 rcases I.ok.stk with e | ⟨e, hf⟩
 ·rw [e]; exact I.funs
 ·rw [e]
  obtain ⟨m, hn, _⟩ := I.loc
  refine .cons (by rw [I.ok.kind]; decide) hf hn ?_ I.funs
  exact Heap.get?_none_of_le (Nat.le_trans I.ok.bsz I.ok.above)
theorem Inv.stkSub (I : Inv X pins σ H s) : ∀ b ∈ frs X.stack, b ∈ X.env.locals :: X.fs := fun b hb => by
 rcases I.ok.stk with e | ⟨e, hf⟩
 ·rw [e] at hb; exact List.mem_cons_of_mem _ hb
 ·rw [e] at hb
  unfold frs at hb
  rw [List.filterMap_cons, hf] at hb
  exact hb
theorem Inv.stkFree (I : Inv X pins σ H s) : ∀ b ∈ frs X.stack, H b = none := fun b hb => by
 rcases List.mem_cons.mp (I.stkSub b hb) with e | hb
 ·rw [e]; exact I.free
 ·obtain ⟨_, o, ho, _⟩ := I.ok.funs.mem hb
  exact I.base.free b o ho (I.ok.frf b hb) fun z => I.ok.exfs b z hb
theorem Inv.step {g' : Array GenState} {t' : Nat} {d' : Drawn} {ch : List Addr} (I : Inv X pins σ H s)
  (hch : ∀ b ∈ ch, (b ∈ X.ex \/ X.s₀.heap.objs.size <= b) /\ b ≠ X.env.locals /\ (∀ x c, X.env.cells.lookup x = some c -> c ≠ b) /\ ∀ p ∈ X.pn ++ pins, p.1 ≠ b)
  (keep : ∀ b o, b ≠ X.env.locals -> b ∉ X.fs -> b ∉ ch -> s.heap.get? b = some o -> H b = none -> h'.get? b = some o)
  (slot : ∀ b o, b ≠ X.env.locals -> b ∈ X.fs -> b ∉ ch -> s.heap.get? b = some o -> H b = none -> ∃ sl, h'.get? b = some { o with slots := sl }) (free : ∀ b o, b ∉ ch -> s.heap.get? b = some o -> H b = none -> H' b = none)
  (there : ∀ b o, b ∉ ch -> s.heap.get? b = some o -> ∃ o', h'.get? b = some o')
  (tups : ∀ b xs, H b = some (.tup xs) -> H' b = some (.tup xs)) (frzs : ∀ b o u, H b = some (.frz o u) -> H' b = some (.frz o u)) (tbls : ∀ b ps, H b = some (.tbl ps) -> ∃ more, H' b = some (.tbl (ps ++ more)))
  (ns : ∀ m, s.heap.Ns X.env.locals m -> h'.Ns X.env.locals m) (hok : HOk X.prog X.w H' h') (hg : AllBare g') :
  Inv X pins σ H' { s with heap := h', gens := g', drawn := d', toks := t' } := by
 have neL : ∀ b o, X.s₀.heap.get? b = some o -> b ≠ X.env.locals := fun b o e => Nat.ne_of_lt (Nat.lt_of_lt_of_le (Heap.lt_size e) I.ok.above)
 have neC : ∀ b o, X.s₀.heap.get? b = some o -> b ∉ X.ex -> b ∉ ch := fun b o e hx hb => by
  rcases (hch b hb).1 with z | z
  ·exact hx z
  ·exact absurd (Nat.lt_of_lt_of_le (Heap.lt_size e) z) (Nat.lt_irrefl _)
 have cellK : ∀ x c, X.env.cells.lookup x = some c -> ∀ v, s.heap.IsCell c v -> h'.IsCell c v := fun x c e v ⟨o, ho, hd⟩ => by
  have nch : c ∉ ch := fun z => (hch c z).2.2.1 x c e rfl
  by_cases hc : c ∈ X.fs
  ·obtain ⟨sl, q⟩ := slot c o (I.cne x c e) hc nch ho (I.freeC x c e)
   exact ⟨_, q, hd⟩
  ·exact ⟨o, keep c o (I.cne x c e) hc nch ho (I.freeC x c e), hd⟩
 refine ⟨I.ok, I.os, hg, ⟨fun b o e n hb hx => ?_, fun b o e n hb hx => ?_, fun b o e n hx => ?_, fun b o e hx => ?_, fun b xs e => tups b xs (I.base.tups b xs e), fun b o xs e => frzs b o xs (I.base.frzs b o xs e), fun b ps e => ?_⟩, ?_, fun x c e => ?_, ?_, fun x c e => ?_, fun p hp => ?_, hok, I.len⟩
 ·exact keep b o (neL b o e) hb (neC b o e hx) (I.base.keep b o e n hb hx) (I.base.free b o e n hx)
 ·obtain ⟨sl, e1⟩ := I.base.slot b o e n hb hx
  obtain ⟨sl', e2⟩ := slot b _ (neL b o e) hb (neC b o e hx) e1 (I.base.free b o e n hx)
  exact ⟨sl', e2⟩
 ·obtain ⟨o', e1⟩ := I.base.there b o e hx
  exact free b o' (neC b o e hx) e1 (I.base.free b o e n hx)
 ·obtain ⟨o', e1⟩ := I.base.there b o e hx
  exact there b o' (neC b o e hx) e1
 ·obtain ⟨m1, e1⟩ := I.base.tbls b ps e
  obtain ⟨m2, e2⟩ := tbls b _ e1
  exact ⟨m1 ++ m2, by rw [e2, Array.append_assoc]⟩
 ·obtain ⟨m, hn, hl⟩ := I.loc
  refine ⟨m, ns m hn, fun i x v e1 e2 e3 => ?_⟩
  obtain ⟨u, r, l⟩ := hl i x v e1 e2 e3
  refine ⟨u, r, ?_⟩
  rcases l with l | ⟨k, c, e, z⟩
  ·exact .inl l
  ·exact .inr ⟨k, c, e, cellK x c e _ z⟩
 ·obtain ⟨v, z⟩ := I.cell x c e
  exact ⟨v, cellK x c e v z⟩
 ·obtain ⟨m, ⟨o, _, _, ho, _⟩, _⟩ := I.loc
  exact free _ o (fun z => (hch _ z).2.1 rfl) ho I.free
 ·obtain ⟨v, o, ho, hd⟩ := I.cell x c e
  exact free c o (fun z => (hch c z).2.2.1 x c e rfl) ho (I.freeC x c e)
 ·obtain ⟨e, n, ne, nf, d⟩ := I.pin p hp
  have nch : p.1 ∉ ch := fun z => (hch p.1 z).2.2.2 p hp rfl
  exact ⟨keep p.1 p.2 ne nf nch e n, free p.1 p.2 nch e n, ne, nf, d⟩
theorem Inv.un {t' : Nat} (I : Inv X pins σ H s) (u : Un X.fs [] H H' s.heap h') (hok : HOk X.prog X.w H' h') : Inv X pins σ H' { s with heap := h', toks := t' } := by
 obtain ⟨m, ⟨o, es, ep, ho, r⟩, _⟩ := id I.loc
 obtain ⟨sl, hL⟩ := u.any ho I.free (by simp)
 exact I.step (g' := s.gens) (d' := s.drawn) (ch := []) (fun _ z => nomatch z) (fun b o _ hb _ e n => u.keep b o e n hb (by simp)) (fun b o _ hb _ e n => u.slot b o e n hb (by simp)) (fun b o _ e n => u.free b o e n (by simp)) (fun b o _ e => u.there b o e (by simp)) u.tups u.frzs u.tbls (fun m' hm => by
  obtain ⟨o', es', ep', ho', r'⟩ := hm
  rw [ho] at ho'; cases ho'
  exact ⟨_, es', ep', hL, r'⟩) hok I.bare
theorem Inv.call {g' : Array GenState} {t' : Nat} {d' : Drawn} {ch : List Addr} (I : Inv X pins σ H s) (u : Un (frs X.stack) ch H H' s.heap h') (hok : HOk X.prog X.w H' h') (hg : AllBare g')
  (hch : ∀ b ∈ ch, (b ∈ X.ex \/ X.s₀.heap.objs.size <= b) /\ b ≠ X.env.locals /\ (∀ x c, X.env.cells.lookup x = some c -> c ≠ b) /\ ∀ p ∈ X.pn ++ pins, p.1 ≠ b) :
  Inv X pins σ H' { s with heap := h', gens := g', drawn := d', toks := t' } := by
 obtain ⟨m, ⟨o, es, ep, ho, r⟩, _⟩ := id I.loc
 obtain ⟨sl, hL⟩ := u.any ho I.free fun z => (hch _ z).2.1 rfl
 exact I.step (ch := ch) hch (fun b o hL hb hc e n => u.keep b o e n (fun z => (List.mem_cons.mp (I.stkSub b z)).elim hL hb) hc) (fun b o _ _ hc e n => u.any e n hc) (fun b o hc e n => u.free b o e n hc) (fun b o hc e => u.there b o e hc) u.tups u.frzs u.tbls (fun m' hm => by
  obtain ⟨o', es', ep', ho', r'⟩ := hm
  rw [ho] at ho'; cases ho'
  exact ⟨_, es', ep', hL, r'⟩) hok hg
theorem Inv.turned {t' : Nat} {it : Addr} (I : Inv X pins σ H s) (k : ∀ b o, b ≠ it -> s.heap.get? b = some o -> h'.get? b = some o) (hn : H it = none) (hL : it ≠ X.env.locals)
  (h1 : it ∈ X.ex \/ X.s₀.heap.objs.size <= it) (h2 : ∀ x c, X.env.cells.lookup x = some c -> c ≠ it) (h3 : ∀ p ∈ X.pn ++ pins, p.1 ≠ it) : Inv X pins σ H { s with heap := h', toks := t' } := by
 have nit : ∀ b u, H b = some u -> b ≠ it := fun b u e z => by rw [z, hn] at e; cases e
 refine I.step (g' := s.gens) (d' := s.drawn) (ch := [it]) (fun b hb => ?_) (fun b o _ _ hc e _ => k b o (fun z => hc (by simp [z])) e) (fun b o _ _ hc e _ => ⟨o.slots, k b o (fun z => hc (by simp [z])) e⟩) (fun _ _ _ _ n => n)
  (fun b o hc e => ⟨o, k b o (fun z => hc (by simp [z])) e⟩) (fun _ _ e => e) (fun _ _ _ e => e) (fun b ps e => ⟨#[], by rw [e]; simp⟩) (fun m hm => ?_) (fun b u e => ?_) I.bare
 ·have e : b = it := by simpa using hb
  subst e
  exact ⟨h1, hL, h2, h3⟩
 ·obtain ⟨o, es, ep, ho, r⟩ := hm
  exact ⟨o, es, ep, k _ o (Ne.symm hL) ho, r⟩
 ·refine (I.hok b u e).stay (fun c v hc q => k c v ?_ q) (fun _ q => q) fun _ _ q => q
  rcases hc with z | z
  ·rw [z]; exact nit b u e
  ·exact nit c _ z
theorem Inv.tok (I : Inv X pins σ H s) (t : Nat) : Inv X pins σ H { s with toks := t } := I.un (h' := s.heap) (t' := t) Un.refl I.hok
theorem Inv.kept {t' : Nat} (I : Inv X pins σ H s) (k : ∀ b u, s.heap.get? b = some u -> h'.get? b = some u) : Inv X pins σ H { s with heap := h', toks := t' } := I.un (Un.kept k) (I.hok.kept k)
theorem Inv.laid {a : Addr} {o : HO} {t' : Nat} (I : Inv X pins σ H s) (k : ∀ b u, s.heap.get? b = some u -> h'.get? b = some u) (hp : s.heap.objs.size <= a) (new : qd X.prog X.w (upd H a o) h' a o) :
  Inv X pins σ (upd H a o) { s with heap := h', toks := t' } := I.un (Un.laid k hp (I.hok.fresh hp)) (I.hok.laid k hp new)
theorem Inv.write {x e : Addr} {o : HO} {t' : Nat} (I : Inv X pins σ H s) (mu : Mut (H x)) (he : e = x \/ H e = some (.own x)) (k : ∀ b u, b ≠ e -> s.heap.get? b = some u -> h'.get? b = some u) (heo : ∃ u, h'.get? e = some u)
  (new : qd X.prog X.w (upd H x o) h' x o) : Inv X pins σ (upd H x o) { s with heap := h', toks := t' } := I.un (Un.write mu he k heo) (I.hok.write mu he k heo new)
theorem Inv.pins_of {pins' : List (Addr × Obj)} (I : Inv X pins σ H s) (h : ∀ p ∈ pins', s.heap.get? p.1 = some p.2 /\ H p.1 = none /\ p.1 ≠ X.env.locals /\ p.1 ∉ X.fs /\ ∀ v, p.2.data ≠ .cell v) : Inv X pins' σ H s :=
 ⟨I.ok, I.os, I.bare, I.base, I.loc, I.cell, I.free, I.freeC, fun p hp => (List.mem_append.mp hp).elim (fun z => I.pin p (List.mem_append_left _ z)) (h p), I.hok, I.len⟩
theorem yi {N : List Str} (hN : N.Nodup) {i j : Nat} {x : Str} (a : N[i]? = some x) (b : N[j]? = some x) : i = j := by
 obtain ⟨h1, e1⟩ := List.getElem?_eq_some_iff.mp a
 obtain ⟨h2, e2⟩ := List.getElem?_eq_some_iff.mp b
 exact (List.getElem_inj hN).mp (e1.trans e2.symm)
theorem jP {M : Model} {A : Around} {E : Value -> Shared -> Prop} {i : Nat} {x : Str} {v : V} {u : Value} {Q : Unit -> Shared -> Prop} (I : Inv X pins σ H s) (hN : X.N.Nodup) (hi : X.N[i]? = some x) (hx : Loc X.env.scope x) (r : zy v u)
    (h : ∀ s', Inv X pins (σ.set i (some v)) H s' -> (∃ a, Heap.SameBut a s.heap s'.heap /\ (a = X.env.locals \/ X.env.cells.lookup x = some a)) -> Q () s') (hf : X.fn x = true \/ X.env.scope.names.lookup x = some .local := by first | exact .inl rfl | exact .inr rfl | assumption) : wpAny M A (storeName X.env x u) Q E s := by
  obtain ⟨m, hn, hl⟩ := id I.loc
  have hcls : (X.env.scope.kind == .class || (X.env.scope.kind == .module && X.env.locals != X.env.globals)) = false := by rw [I.ok.kind]; rfl
  have hiσ : i < σ.length := by rw [I.len]; exact (List.getElem?_eq_some_iff.mp hi).1
  have cne := I.cne
  have tracked : ∀ {a : Addr} {h' : Heap}, (∃ o, s.heap.get? a = some o /\ H a = none) -> Heap.SameBut a s.heap h' -> HOk X.prog X.w H h' := fun {a h'} ha hs b ob e => by
    obtain ⟨_, _, hfree⟩ := ha
    refine (I.hok b ob e).stay (fun c w' hc q => (hs.2 c ?_).trans q) (fun _ q => q) fun _ _ q => q
    rintro rfl
    rcases hc with rfl | hc
    · rw [hfree] at e; cases e
    · rw [hfree] at hc; cases hc
  rcases hx with hk | hk
  · refine wpAny_storeName_local hk hn (fun h' hn' hs => ?_) hcls
    obtain ⟨oL, _, _, hoL, _⟩ := id hn
    refine h _ ⟨I.ok, I.os, I.bare, ⟨fun b o e n hb hx => ?_, fun b o e n hb hx => ?_, I.base.free, fun b o e hx => ?_, I.base.tups, I.base.frzs, I.base.tbls⟩, ⟨_, hn', fun j y v' e1 e2 e3 => ?_⟩, fun y c e => ?_, I.free, I.freeC, fun p hp => ?_, tracked ⟨oL, hoL, I.free⟩ hs, by simpa using I.len⟩ ⟨_, hs, .inl rfl⟩
    · exact (hs.2 b (Nat.ne_of_lt (Nat.lt_of_lt_of_le (Heap.lt_size e) I.ok.above))).trans (I.base.keep b o e n hb hx)
    · obtain ⟨sl, e1⟩ := I.base.slot b o e n hb hx
      exact ⟨sl, (hs.2 b (Nat.ne_of_lt (Nat.lt_of_lt_of_le (Heap.lt_size e) I.ok.above))).trans e1⟩
    · obtain ⟨o', e1⟩ := I.base.there b o e hx
      exact ⟨o', (hs.2 b (Nat.ne_of_lt (Nat.lt_of_lt_of_le (Heap.lt_size e) I.ok.above))).trans e1⟩
    · by_cases hj : j = i
      · subst hj
        rw [hi] at e1; cases e1
        rw [List.getElem?_set_self hiσ] at e2
        cases e2
        exact ⟨u, r, .inl ⟨hk, by simp⟩⟩
      · rw [List.getElem?_set_ne (Ne.symm hj)] at e2
        obtain ⟨u', r', q⟩ := hl j y v' e1 e2 e3
        refine ⟨u', r', ?_⟩
        rcases q with ⟨k, e⟩ | ⟨k, c, e, z⟩
        · refine .inl ⟨k, ?_⟩
          have : y ≠ x := fun e => hj (yi hN e1 (e ▸ hi))
          simp [this, e]
        · exact .inr ⟨k, c, e, z.sameBut hs (cne y c e)⟩
    · obtain ⟨w', z⟩ := I.cell y c e
      exact ⟨w', z.sameBut hs (cne y c e)⟩
    · obtain ⟨e, n, ne, nf, d⟩ := I.pin p hp
      exact ⟨(hs.2 p.1 ne).trans e, n, ne, nf, d⟩
  · have hfn : X.fn x = true := by
      rcases hf with z | z
      · exact z
      · rw [z] at hk; cases hk
    obtain ⟨c, hc⟩ := I.ok.has x (.inl hk)
    obtain ⟨w', z⟩ := I.cell x c hc
    refine wpAny_storeName_cell I.ok.kind hk hc z (fun h' hc' hs => ?_)
    obtain ⟨oc, hoc, hocd⟩ := id z
    refine h { s with heap := h' } ⟨I.ok, I.os, I.bare, ⟨fun b o e n hb hx => ?_, fun b o e n hb hx => ?_, I.base.free, fun b o e hx => ?_, I.base.tups, I.base.frzs, I.base.tbls⟩, ⟨m, hn.sameBut hs (Ne.symm (cne x c hc)), fun j y v' e1 e2 e3 => ?_⟩, fun y c' e => ?_, I.free, I.freeC, fun p hp => ?_, tracked ⟨oc, hoc, I.freeC x c hc⟩ hs, by simpa using I.len⟩ ⟨c, hs, .inr hc⟩
    · exact (hs.2 b (Nat.ne_of_lt (Nat.lt_of_lt_of_le (Heap.lt_size e) (I.ok.cab x c hfn hc)))).trans (I.base.keep b o e n hb hx)
    · obtain ⟨sl, e1⟩ := I.base.slot b o e n hb hx
      exact ⟨sl, (hs.2 b (Nat.ne_of_lt (Nat.lt_of_lt_of_le (Heap.lt_size e) (I.ok.cab x c hfn hc)))).trans e1⟩
    · obtain ⟨o', e1⟩ := I.base.there b o e hx
      exact ⟨o', (hs.2 b (Nat.ne_of_lt (Nat.lt_of_lt_of_le (Heap.lt_size e) (I.ok.cab x c hfn hc)))).trans e1⟩
    · by_cases hj : j = i
      · subst hj
        rw [hi] at e1; cases e1
        rw [List.getElem?_set_self hiσ] at e2
        cases e2
        exact ⟨u, r, .inr ⟨.inl hk, c, hc, hc'⟩⟩
      · rw [List.getElem?_set_ne (Ne.symm hj)] at e2
        obtain ⟨u', r', q⟩ := hl j y v' e1 e2 e3
        refine ⟨u', r', ?_⟩
        rcases q with q | ⟨k, c', e, z'⟩
        · exact .inl q
        · refine .inr ⟨k, c', e, z'.sameBut hs ?_⟩
          rintro rfl
          exact hj (yi hN e1 (I.ok.inj _ _ _ e hc ▸ hi))
    · by_cases hcc : c' = c
      · subst hcc; exact ⟨_, hc'⟩
      · obtain ⟨w2, z2⟩ := I.cell y c' e
        exact ⟨w2, z2.sameBut hs hcc⟩
    · obtain ⟨e, n, ne, nf, d⟩ := I.pin p hp
      refine ⟨(hs.2 p.1 ?_).trans e, n, ne, nf, d⟩
      intro q
      rw [q, hoc] at e
      have q' : oc = p.2 := Option.some.inj e
      exact d w' (by rw [<- q']; exact hocd)
theorem yD {M : Model} {A : Around} {E : Value -> Shared -> Prop} {i : Nat} {x : Str} {v : V} {u : Value} {Q : Unit -> Shared -> Prop} (I : Inv X pins σ H s) (hN : X.N.Nodup) (hi : X.N[i]? = some x) (hx : Loc X.env.scope x) (r : zy v u)
  (h : ∀ s', Inv X pins (σ.set i (some v)) H s' -> Q () s') (hf : X.fn x = true \/ X.env.scope.names.lookup x = some .local := by first | exact .inl rfl | exact .inr rfl | assumption) : wpAny M A (storeName X.env x u) Q E s :=
 jP I hN hi hx r (fun s' I' _ => h s' I') hf
theorem Inv.call' {s' : Shared} {ch : List Addr} (I : Inv X pins σ H s) (ho : s'.os = s.os) (u : Un (frs X.stack) ch H H' s.heap s'.heap) (hok : HOk X.prog X.w H' s'.heap) (hg : AllBare s'.gens)
  (hch : ∀ b ∈ ch, (b ∈ X.ex \/ X.s₀.heap.objs.size <= b) /\ b ≠ X.env.locals /\ (∀ x c, X.env.cells.lookup x = some c -> c ≠ b) /\ ∀ p ∈ X.pn ++ pins, p.1 ≠ b) : Inv X pins σ H' s' := by
 obtain ⟨h', g', d', t', o'⟩ := s'
 have e : o' = s.os := ho
 subst e
 exact I.call (g' := g') (t' := t') (d' := d') u hok hg hch
end
abbrev XK := Value -> Option Addr -> Hp -> Prop
abbrev St := List (Option V)
abbrev VK := V -> Hp -> Prop
abbrev TE := St -> Hp -> VK -> Prop
abbrev TT := St -> Hp -> (Bool -> Hp -> Prop) -> Prop
abbrev TA := St -> Hp -> (List V -> Hp -> Prop) -> Prop
structure j3 where
 nx : St -> Hp -> Prop
 rt : VK
 bk : St -> Hp -> Prop := fun _ _ => False
 ct : St -> Hp -> Prop := fun _ _ => False
abbrev TS := j3 -> St -> Hp -> Prop
def EP (X : Cx) (pins : List (Addr × Obj)) (σ : St) (Q : VK) (u : Value) (s' : Shared) : Prop := ∃ v H', Inv X pins σ H' s' /\ zy v u /\ Q v H'
def TP (X : Cx) (pins : List (Addr × Obj)) (σ : St) (Q : Bool -> Hp -> Prop) (b : Bool) (s' : Shared) : Prop := ∃ H', Inv X pins σ H' s' /\ Q b H'
def AP (X : Cx) (pins : List (Addr × Obj)) (σ : St) (Q : List V -> Hp -> Prop) (us : List Value) (s' : Shared) : Prop := ∃ vs H', Inv X pins σ H' s' /\ zu vs us /\ Q vs H'
def SP (X : Cx) (pins : List (Addr × Obj)) (D : j3) (f : Flow) (s' : Shared) : Prop :=
 match f with
 | .next => ∃ σ' H', Inv X pins σ' H' s' /\ D.nx σ' H'
 | .brk => ∃ σ' H', Inv X pins σ' H' s' /\ D.bk σ' H'
 | .cont => ∃ σ' H', Inv X pins σ' H' s' /\ D.ct σ' H'
 | .ret u => ∃ v σ' H', Inv X pins σ' H' s' /\ zy v u /\ D.rt v H'
def PE (X : Cx) (e : Expr) (t : TE) : Prop :=
 ∀ (pins : List (Addr × Obj)) (s : Shared) (σ : St) (H : Hp) (Q : VK), Inv X pins σ H s -> t σ H Q -> wpAny (model X.prog X.w) X.A (eval e X.env) (EP X pins σ Q) X.xe s
def PT (X : Cx) (e : Expr) (t : TT) : Prop :=
 ∀ (pins : List (Addr × Obj)) (s : Shared) (σ : St) (H : Hp) (Q : Bool -> Hp -> Prop), Inv X pins σ H s -> t σ H Q -> wpAny (model X.prog X.w) X.A (isTrue e X.env (eval e X.env)) (TP X pins σ Q) X.xe s
def PW (X : Cx) (e : Expr) (t : TT) : Prop :=
 ∀ (whole : Sem Value) (pins : List (Addr × Obj)) (s : Shared) (σ : St) (H : Hp) (Q : Bool -> Hp -> Prop), Inv X pins σ H s -> t σ H Q -> wpAny (model X.prog X.w) X.A (isTrue e X.env whole) (TP X pins σ Q) X.xe s
theorem PW.pt {X : Cx} {e : Expr} {t : TT} (h : PW X e t) : PT X e t := h _
def PA (X : Cx) (es : List Expr) (t : TA) : Prop :=
 ∀ (pos : Pos) (pins : List (Addr × Obj)) (s : Shared) (σ : St) (H : Hp) (Q : List V -> Hp -> Prop), Inv X pins σ H s -> t σ H Q -> wpAny (model X.prog X.w) X.A (spliced (backTo pos (starEach es X.env))) (AP X pins σ Q) X.xe s
def PS (X : Cx) (st : Stmt) (t : TS) : Prop :=
 ∀ (pins : List (Addr × Obj)) (s : Shared) (σ : St) (H : Hp) (D : j3), Inv X pins σ H s -> t D σ H -> wpAny (model X.prog X.w) X.A (exec st X.env) (SP X pins D) X.xe s
def PSs (X : Cx) (st : List Stmt) (t : TS) : Prop :=
 ∀ (pins : List (Addr × Obj)) (s : Shared) (σ : St) (H : Hp) (D : j3), Inv X pins σ H s -> t D σ H -> wpAny (model X.prog X.w) X.A (execs st X.env) (SP X pins D) X.xe s
theorem thn {α : Type} {t : Sem α} {Q Q' : α -> Shared -> Prop} {M : Model} {A : Around} {E : Value -> Shared -> Prop} {s : Shared} (h : wpAny M A t Q E s) (hQ : ∀ a s, Q a s -> Q' a s) : wpAny M A t Q' E s := wpAny_mono h hQ fun _ _ x => x
end L2
namespace L2
open PySem PySem.Spec PyProof.Rows
section
variable {X : Cx}
theorem bin {a b : Expr} {ta tb : TE} (ha : PE X a ta) (hb : PE X b tb) {pins : List (Addr × Obj)} {s : Shared} {σ : St} {H : Hp} {R : V -> V -> Hp -> Prop} (I : Inv X pins σ H s) (h : ta σ H fun x H1 => tb σ H1 fun y H2 => R x y H2)
  {α : Type} {Q : α -> Shared -> Prop} {f : Value -> Value -> Sem α}
  (hf : ∀ v u s2 x y H2, Inv X pins σ H2 s2 -> zy x v -> zy y u -> R x y H2 -> wpAny (model X.prog X.w) X.A (f v u) Q X.xe s2) :
  wpAny (model X.prog X.w) X.A (eval a X.env) (fun v s₁ => wpAny (model X.prog X.w) X.A (eval b X.env) (fun u s₂ => wpAny (model X.prog X.w) X.A (f v u) Q X.xe s₂) X.xe s₁) X.xe s := by
 refine thn (ha pins s σ H _ I h) fun v s1 ⟨x, H1, I1, r1, q1⟩ => ?_
 refine thn (hb pins s1 σ H1 _ I1 q1) fun u s2 ⟨y, H2, I2, r2, q2⟩ => ?_
 exact hf v u s2 x y H2 I2 r1 r2 q2
def JO (i : Nat) : TE := fun σ H Q => ∃ v, σ[i]? = some (some v) /\ Q v H
def tC (v : V) : TE := fun _ H Q => Q v H
theorem XF {i : Nat} {x : Str} {pos : Pos} (hN : X.N[i]? = some x) (hv : Vis X.env.scope x) (hd : (x == ("__debug__" : Str)) = false := by decide) (hcd : (x == ("__classdict__" : Str)) = false := by decide) : PE X (.Name x pos) (JO i) := by
 intro pins s σ H Q I h
 obtain ⟨v, e, h⟩ := h
 obtain ⟨m, hn, hl⟩ := I.loc
 obtain ⟨u, r, l⟩ := hl i x v hN e hv
 have fin : EP X pins σ Q u s := ⟨v, H, I, r, h⟩
 rcases l with ⟨hk, hm⟩ | ⟨hk, c, hc, hcell⟩
 ·exact wpAny_Name (wpAny_loadName_local I.ok.kind hk hn hm fin) hd
 ·rcases hk with hk | hk
  ·exact wpAny_Name (wpAny_loadName_cell I.ok.kind hk hc hcell fin) hd
  ·exact wpAny_Name (wpAny_loadName_free I.ok.kind hk hc hcell fin hcd) hd
theorem zc {i j pos} : PE X (.Constant (.int i) j pos) (tC (.int i)) := fun _ _ _ H _ I h => wpAny_Constant_int ⟨.int i, H, I.tok _, ⟨_, rfl⟩, h⟩
theorem qD {b j pos} : PE X (.Constant (.bool b) j pos) (tC (.bl b)) := fun _ _ _ H _ I h => Constant_bool ⟨.bl b, H, I, rfl, h⟩
def Gl (X : Cx) (x : Str) : Prop := X.env.kindOf x = some .globalImplicit
theorem Kr {E : Value -> Shared -> Prop} {pins : List (Addr × Obj)} {s : Shared} {σ : St} {H : Hp} {x : Str} {u : Value} {pos : Pos} {Q : Value -> Shared -> Prop} (I : Inv X pins σ H s) (hg : Gl X x) (hm : X.mg x = some u) (h : Q u s)
  (hd : (x == ("__debug__" : Str)) = false := by decide) : wpAny (model X.prog X.w) X.A (eval (.Name x pos) X.env) Q E s :=
 Calls.Name_function_global I.ok.kind hg (Calls.loadGlobal_global (by rw [I.ok.glob]; exact I.mod.glob.keeps I.bk) hm h) hd
theorem kA {E : Value -> Shared -> Prop} {pins : List (Addr × Obj)} {s : Shared} {σ : St} {H : Hp} {x : Str} {u : Value} {pos : Pos} {Q : Value -> Shared -> Prop} (I : Inv X pins σ H s) (hg : Gl X x) (hm : X.mg x = none) (hv : bootBuiltins x = some u) (h : Q u s)
  (hn : x ≠ "__name__" := by decide) (hd : (x == ("__debug__" : Str)) = false := by decide) : wpAny (model X.prog X.w) X.A (eval (.Name x pos) X.env) Q E s := by
 obtain ⟨mb, h1, h2⟩ := I.mod.blt
 exact Calls.Name_function_global I.ok.kind hg (Calls.loadGlobal_builtin (by rw [I.ok.glob]; exact I.mod.glob.keeps I.bk) hm (by rw [I.ok.blt]; exact h1.keeps I.bk) ((h2 x hn).trans hv) h) hd
variable {a b : Expr} {ta tb : TE} {pos : Pos}
def PC (X : Cx) (op : CmpOp) (a b : Expr) (t : TE) : Prop :=
 ∀ (pins : List (Addr × Obj)) (s : Shared) (σ : St) (H : Hp) (Q : VK), Inv X pins σ H s -> t σ H Q ->
  wpAny (model X.prog X.w) X.A (eval a X.env) (fun v s₁ => wpAny (model X.prog X.w) X.A (eval b X.env) (fun u s₂ => wpAny (model X.prog X.w) X.A (compareOp op v u) (EP X pins σ Q) X.xe s₂) X.xe s₁) X.xe s
theorem ZP (b : Expr) {op : CmpOp} (h : op ≠ .In) (h2 : op ≠ .NotIn) : behindInMarks op b = false := by
 have e1 : (op == CmpOp.In) = false := by cases op <;> first | rfl | exact absurd rfl h
 have e2 : (op == CmpOp.NotIn) = false := by cases op <;> first | rfl | exact absurd rfl h2
 cases b <;> simp [behindInMarks, e1, e2]
def tB (t : TE) : TT := fun σ H Q => t σ H fun x H1 => ∃ c, x = .bl c /\ Q c H1
theorem V0 {op : CmpOp} {t : TE} (h : PC X op a b t) (h1 : behindInMarks op b = false := by first | exact ZP _ (by decide) (by decide) | rfl) : PT X (.Compare a [op] [b] pos) (tB t) := by
 intro pins s σ H Q I hw
 refine wpAny_isTrue_Compare1 (thn (h pins s σ H _ I hw) fun v s1 h1 => thn h1 fun u s2 h2 => thn h2 fun c s3 ⟨x, H1, I1, r1, q1⟩ => ?_) h1
 obtain ⟨d, rfl, q⟩ := q1
 cases r1
 exact wpAny_truthy_bool ⟨H1, I1, q⟩
theorem vp {e : Expr} {t : TE} (h : PE X e t) (he : ∀ whole, isTrue e X.env whole = (do let v <- whole; standAt e.pos; holding [v] (truthy v)) := by intro _; rfl) : PT X e (tB t) := by
 intro pins s σ H Q I hw
 refine isTrue_plain (thn (h pins s σ H _ I hw) fun v s1 ⟨x, H1, I1, r1, q1⟩ => ?_) (he _)
 obtain ⟨d, rfl, q⟩ := q1
 cases r1
 exact wpAny_truthy_bool ⟨H1, I1, q⟩
variable {tA tB' : TT} {qc : List Expr}
def YK (t u : TT) : TT := fun σ H Q => t σ H fun c H1 => if c = true then u σ H1 Q else Q false H1
def tOr (t u : TT) : TT := fun σ H Q => t σ H fun c H1 => if c = true then Q true H1 else u σ H1 Q
def Xj (t : TT) : TT := fun σ H Q => t σ H fun c H1 => Q (!c) H1
theorem vT (ha : PT X a tA) : PW X (.BoolOp .And [a] pos) tA := by
 intro wh pins s σ H Q I h
 refine isTrue_and (thn (ha pins s σ H Q I h) fun c s1 e => ?_)
 cases c with
 | true => exact isTrue_and_nil e
 | false => exact e
theorem vy (ha : PT X a tA) : PW X (.BoolOp .Or [a] pos) tA := by
 intro wh pins s σ H Q I h
 refine isTrue_or (thn (ha pins s σ H Q I h) fun c s1 e => ?_)
 cases c with
 | false => exact isTrue_or_nil e
 | true => exact e
theorem Jg (ha : PT X a tA) (hb : PW X (.BoolOp .And (b :: qc) pos) tB') : PW X (.BoolOp .And (a :: b :: qc) pos) (YK tA tB') := by
 intro wh pins s σ H Q I h
 refine isTrue_and (thn (ha pins s σ H _ I h) fun c s1 ⟨H1, I1, q1⟩ => ?_)
 cases c with
 | true => exact hb wh pins s1 σ H1 Q I1 q1
 | false => exact ⟨H1, I1, q1⟩
theorem Jo (ha : PT X a tA) (hb : PW X (.BoolOp .Or (b :: qc) pos) tB') : PW X (.BoolOp .Or (a :: b :: qc) pos) (tOr tA tB') := by
 intro wh pins s σ H Q I h
 refine isTrue_or (thn (ha pins s σ H _ I h) fun c s1 ⟨H1, I1, q1⟩ => ?_)
 cases c with
 | true => exact ⟨H1, I1, q1⟩
 | false => exact hb wh pins s1 σ H1 Q I1 q1
theorem vz (ha : PT X a tA) : PT X (.UnaryOp .Not a pos) (Xj tA) := by
 intro pins s σ H Q I h
 exact isTrue_not (ha pins s σ H (fun c H1 => Q (!c) H1) I h)
end
end L2
namespace L2
open PySem PySem.Spec PyProof.Rows
def SqL (K : PySem.W.Frag) (H : Hp) (a : Addr) (xs : List V) : Prop :=
 Rd H a (.lst xs) \/
  ∃ (o : Obj) (its : Array Value) (n : Nat), K.lookup a = some o /\ o.cls = .type "list" /\ o.dict = none /\ o.data = .seq its n /\ its.size <= sizeLine /\ zu xs its.toList
def SqT (K : PySem.W.Frag) (H : Hp) (a : Addr) (xs : List V) : Prop :=
 Rd H a (.tup xs) \/
  ∃ (o : Obj) (its : Array Value) (n : Nat), K.lookup a = some o /\ o.cls = .type "tuple" /\ o.data = .seq its n /\ its.size <= sizeLine /\ zu xs its.toList
def V5 : Value -> Option V
 | .none => some .non
 | .bool b => some (.bl b)
 | .int i _ => some (.int i)
 | .str x _ => some (.str x)
 | .bytes b _ => some (.byt b)
 | .float b _ => some (.flt b)
 | .ref a => some (.ref a)
 | .type n => some (.ty n)
 | _ => none
theorem zy.abs {x : V} {u : Value} (r : zy x u) : V5 u = some x := by
 cases x with
 | non => cases r; rfl
 | bl _ => cases r; rfl
 | int _ => obtain ⟨t, rfl⟩ := r; rfl
 | str _ => obtain ⟨t, rfl⟩ := r; rfl
 | byt _ => obtain ⟨t, rfl⟩ := r; rfl
 | flt _ => obtain ⟨t, rfl⟩ := r; rfl
 | ref _ => cases r; rfl
 | ty _ => cases r; rfl
theorem zy.inj {x y : V} {u : Value} (r : zy x u) (q : zy y u) : x = y := Option.some.inj (r.abs.symm.trans q.abs)
theorem zu.inj : ∀ {xs ys : List V} {us : List Value}, zu xs us -> zu ys us -> xs = ys
 | _, _, _, .nil, .nil => rfl
 | _, _, _, .cons r t, .cons r' t' => by rw [r.inj r', zu.inj t t']
section
variable {X : Cx} {pins : List (Addr × Obj)} {σ : St} {H : Hp} {s : Shared} {a : Addr} {xs ys : List V}
theorem SqL.of {K : PySem.W.Frag} (h : H a = some (.lst xs)) : SqL K H a xs := .inl (.inl h)
theorem SqT.of {K : PySem.W.Frag} (h : H a = some (.tup xs)) : SqT K H a xs := .inl (.inl h)
theorem Inv.list (I : Inv X pins σ H s) (h : SqL X.K H a xs) : ∃ its : List Value, zu xs its /\ PlainL s.heap a its.toArray /\ xs.length <= sizeLine := by
 rcases h with h | ⟨o, its, n, hk, hc, hd, hs, hz, r⟩
 ·obtain ⟨z, its, n, r, e⟩ := h.ok I.hok
  exact ⟨its, r, ⟨_, n, e, rfl, rfl, rfl⟩, z⟩
 ·refine ⟨its.toList, r, ⟨o, n, I.kIn a o hk, hc, hd, by simpa using hs⟩, ?_⟩
  have e := r.length
  simp only [Array.length_toList] at e
  omega
theorem Inv.tuple (I : Inv X pins σ H s) (h : SqT X.K H a xs) : ∃ its : List Value, zu xs its /\ IsTup s.heap a its.toArray /\ xs.length <= sizeLine := by
 rcases h with h | ⟨o, its, n, hk, hc, hs, hz, r⟩
 ·obtain ⟨z, its, r, p⟩ := h.ok I.hok
  exact ⟨its, r, p.is, z⟩
 ·refine ⟨its.toList, r, ⟨o, I.kIn a o hk, hc, n, by simpa using hs⟩, ?_⟩
  have e := r.length
  simp only [Array.length_toList] at e
  omega
theorem Inv.list_inj (I : Inv X pins σ H s) (h : SqL X.K H a xs) (h' : SqL X.K H a ys) : xs = ys := by
 obtain ⟨its, r, ⟨o, n, e, _, _, d⟩, _⟩ := I.list h
 obtain ⟨its', r', ⟨o', n', e', _, _, d'⟩, _⟩ := I.list h'
 rw [e] at e'; cases e'
 rw [d] at d'
 injection d' with d1 _
 have : its = its' := by simpa using congrArg Array.toList d1
 subst this
 exact r.inj r'
theorem Inv.tuple_inj (I : Inv X pins σ H s) (h : SqT X.K H a xs) (h' : SqT X.K H a ys) : xs = ys := by
 obtain ⟨its, r, ⟨o, e, _, n, d⟩, _⟩ := I.tuple h
 obtain ⟨its', r', ⟨o', e', _, n', d'⟩, _⟩ := I.tuple h'
 rw [e] at e'; cases e'
 rw [d] at d'
 injection d' with d1 _
 have : its = its' := by simpa using congrArg Array.toList d1
 subst this
 exact r.inj r'
end
abbrev Cx.wish (X : Cx) (E : Value -> Shared -> Prop) : Cx := { X with xe := E }
abbrev Cx.nox (X : Cx) : Cx := X.wish fun _ _ => False
theorem Cx.Ok.wish {X : Cx} (ok : X.Ok) (E : Value -> Shared -> Prop) : (X.wish E).Ok :=
 ⟨ok.mod, ok.kind, ok.glob, ok.blt, ok.above, ok.inj, ok.has, ok.cab, ok.hd, ok.frames, ok.stk, ok.exf, ok.bs, ok.bsz, ok.noex, ok.exfs, ok.funs, ok.frf⟩
theorem Cx.Ok.unwish {X : Cx} {E : Value -> Shared -> Prop} (ok : (X.wish E).Ok) : X.Ok :=
 ⟨ok.mod, ok.kind, ok.glob, ok.blt, ok.above, ok.inj, ok.has, ok.cab, ok.hd, ok.frames, ok.stk, ok.exf, ok.bs, ok.bsz, ok.noex, ok.exfs, ok.funs, ok.frf⟩
section
variable {X : Cx} {pins : List (Addr × Obj)} {σ : St} {H : Hp} {s : Shared} {E : Value -> Shared -> Prop}
theorem Inv.wish (I : Inv X pins σ H s) (E : Value -> Shared -> Prop) : Inv (X.wish E) pins σ H s := ⟨I.ok.wish E, I.os, I.bare, I.base, I.loc, I.cell, I.free, I.freeC, I.pin, I.hok, I.len⟩
theorem Inv.unwish (I : Inv (X.wish E) pins σ H s) : Inv X pins σ H s := ⟨I.ok.unwish, I.os, I.bare, I.base, I.loc, I.cell, I.free, I.freeC, I.pin, I.hok, I.len⟩
theorem SP.unwish {D : j3} {f : Flow} {s' : Shared} (h : SP (X.wish E) pins D f s') : SP X pins D f s' := by
 cases f with
 | next => obtain ⟨σ', H', I, q⟩ := h; exact ⟨σ', H', I.unwish, q⟩
 | brk => obtain ⟨σ', H', I, q⟩ := h; exact ⟨σ', H', I.unwish, q⟩
 | cont => obtain ⟨σ', H', I, q⟩ := h; exact ⟨σ', H', I.unwish, q⟩
 | ret u => obtain ⟨v, σ', H', I, r, q⟩ := h; exact ⟨v, σ', H', I.unwish, r, q⟩
theorem PSs.nox {st : List Stmt} {t : TS} (h : PSs X.nox st t) : PSs X st t := fun pins s σ H D I hw =>
 wpAny_mono (h pins s σ H D (I.wish _) hw) (fun _ _ q => q.unwish) fun _ _ z => False.elim z
end
section
variable {X : Cx} {st : Stmt} {qc : List Stmt} {t u : TS} {e : Expr} {te : TE} {pos : Pos}
def Qy : TS := fun D σ H => D.nx σ H
def Xb (t u : TS) : TS := fun D σ H => t { D with nx := u D } σ H
theorem zK : PSs X [] Qy := fun _ _ σ H _ I h => wpAny_execs_nil ⟨σ, H, I, h⟩
theorem zd (h1 : PS X st t) (h2 : PSs X qc u) : PSs X (st :: qc) (Xb t u) := by
 intro pins s σ H D I h
 refine wpAny_execs_cons (thn (h1 pins s σ H { D with nx := u D } I h) fun f s1 q => ?_)
 cases f with
 | next =>
  obtain ⟨σ', H', I', q⟩ := q
  exact h2 pins s1 σ' H' D I' q
 | ret v => exact q
 | brk => exact q
 | cont => exact q
theorem zi (h1 : PS X st t) : PSs X [st] t := by
 intro pins s σ H D I h
 refine wpAny_execs_cons (thn (h1 pins s σ H D I h) fun f s1 q => ?_)
 cases f with
 | next => exact wpAny_execs_nil q
 | ret v => exact q
 | brk => exact q
 | cont => exact q
def XG (te : TE) : TS := fun D σ H => te σ H D.rt
theorem zo (he : PE X e te) : PS X (.Return (some e) pos) (XG te) := by
 intro pins s σ H D I h
 exact wpAny_Return_some (thn (he pins s σ H _ I h) fun v s1 ⟨x, H1, I1, r1, q1⟩ => ⟨x, σ, H1, I1, r1, q1⟩)
def YJ (c : TT) (t u : TS) : TS := fun D σ H => c σ H fun b H1 => if b = true then t D σ H1 else u D σ H1
theorem qk {c : Expr} {a b : List Stmt} {tc : TT} (hc : PT X c tc) (ha : PSs X a t) (hb : PSs X b u) : PS X (.If c a b pos) (YJ tc t u) := by
 intro pins s σ H D I h
 refine wpAny_If (thn (hc pins s σ H _ I h) fun d s1 ⟨H1, I1, q1⟩ => ?_)
 cases d with
 | true => exact ha pins s1 σ H1 D I1 q1
 | false => exact hb pins s1 σ H1 D I1 q1
def vk : TS := fun _ _ _ => False
theorem ZC : PS X st vk := fun _ _ _ _ _ _ h => h.elim
end
abbrev TG := V -> St -> Hp -> (St -> Hp -> Prop) -> Prop
abbrev TGs := List V -> St -> Hp -> (St -> Hp -> Prop) -> Prop
def PG (X : Cx) (target : Expr) (t : TG) : Prop :=
 ∀ (pins : List (Addr × Obj)) (s : Shared) (σ : St) (H : Hp) (v : V) (u : Value) (Q : St -> Hp -> Prop), Inv X pins σ H s -> zy v u -> t v σ H Q ->
  wpAny (model X.prog X.w) X.A (assign target X.env u) (fun _ s' => ∃ σ' H', Inv X pins σ' H' s' /\ Q σ' H') X.xe s
def PGs (X : Cx) (ts : List Expr) (t : TGs) : Prop :=
 ∀ (pins : List (Addr × Obj)) (s : Shared) (σ : St) (H : Hp) (vs : List V) (us : List Value) (Q : St -> Hp -> Prop), Inv X pins σ H s -> zu vs us -> t vs σ H Q ->
  wpAny (model X.prog X.w) X.A (assignInOrder ((assignEach ts X.env).map (·.2)) us) (fun _ s' => ∃ σ' H', Inv X pins σ' H' s' /\ Q σ' H') X.xe s
abbrev Ql := V -> V -> V -> Hp -> (Hp -> Prop) -> Prop
def YN (X : Cx) (t : Ql) : Prop :=
 ∀ (pins : List (Addr × Obj)) (s : Shared) (σ : St) (H : Hp) (o i v : V) (ov iv u : Value) (Q : Hp -> Prop), Inv X pins σ H s -> zy o ov -> zy i iv -> zy v u -> t o i v H Q ->
  wpAny (model X.prog X.w) X.A (setItem ov iv u) (fun _ s' => ∃ H', Inv X pins σ H' s' /\ Q H') X.xe s
abbrev TIp := V -> V -> Hp -> VK -> Prop
section
variable {X : Cx} {pos : Pos}
def xv (i : Nat) : TG := fun v σ H Q => Q (σ.set i (some v)) H
theorem zn {i : Nat} {x : Str} (hN : X.N.Nodup) (hi : X.N[i]? = some x) (hx : Loc X.env.scope x) (hf : X.fn x = true \/ X.env.scope.names.lookup x = some .local := by first | exact .inl rfl | exact .inr rfl | assumption) : PG X (.Name x pos) (xv i) := by
 intro pins s σ H v u Q I r h
 exact wpAny_assign_Name (yD I hN hi hx r (fun s' I' => ⟨_, H, I', h⟩) hf)
def YO : TGs := fun vs σ H Q => vs = [] /\ Q σ H
def QG (t : TG) (u : TGs) : TGs := fun vs σ H Q => ∃ v r, vs = v :: r /\ t v σ H fun σ' H' => u r σ' H' Q
theorem qP : PGs X [] YO := by
 intro pins s σ H vs us Q I r h
 obtain ⟨e, h⟩ := h
 subst e
 cases r
 exact assignInOrder_nil ⟨σ, H, I, h⟩
theorem zC {e : Expr} {es : List Expr} {t : TG} {u : TGs} (h1 : PG X e t) (h2 : PGs X es u)
  (hs : (assignEach (e :: es) X.env).map (·.2) = assign e X.env :: (assignEach es X.env).map (·.2) := by rfl) : PGs X (e :: es) (QG t u) := by
 intro pins s σ H vs us Q I r h
 obtain ⟨v, vr, e1, h⟩ := h
 subst e1
 cases r with
 | cons r rr =>
  rw [hs]
  refine assignInOrder_cons (thn (h1 pins s σ H _ _ _ I r h) fun _ s1 ⟨σ1, H1, I1, q1⟩ => ?_)
  exact h2 pins s1 σ1 H1 _ _ Q I1 rr q1
def JG (K : PySem.W.Frag) (n : Nat) (t : TGs) : TG := fun v σ H Q => ∃ a xs, v = .ref a /\ SqT K H a xs /\ xs.length = n /\ t xs σ H Q
theorem YL {es : List Expr} {k : Nat} {t : TGs} {n : Nat} (hc : X.calm = true) (h : PGs X es t)
  (hn : (assignEach es X.env).length = n := by rfl) (hst : (assignEach es X.env).findIdx? (·.1) = none := by rfl) : PG X (.Tuple es k pos) (JG X.K n t) := by
 intro pins s σ H v u Q I r hw
 obtain ⟨a, xs, e1, hq, hl, hw⟩ := hw
 subst e1
 cases r
 obtain ⟨its, rv, ht, hz⟩ := I.tuple hq
 refine assign_Tuple_tuple (I.ok.hd hc) ht (by simp [hn, <- hl, rv.length]) hst fun h' hx => ?_
 have I1 : Inv X pins σ H { s with heap := h' } := I.kept (t' := s.toks) fun b o e => hx b o (Nat.ne_of_lt (Heap.lt_size e)) e
 exact h pins _ σ H xs _ Q I1 (by simpa using rv) hw
def YD (to ti : TE) (t : Ql) : TG := fun v σ H Q => to σ H fun o H1 => ti σ H1 fun i H2 => t o i v H2 fun H3 => Q σ H3
theorem jw {o i : Expr} {to ti : TE} {t : Ql} (ho : PE X o to) (hi : PE X i ti) (hs : YN X t)
  (ha : ∀ v, assign (.Subscript o i pos) X.env v = (do
   let ov <- holding [v] (eval o X.env)
   let iv <- holding [v, ov] (eval i X.env)
   standAt pos
   holding [v, ov, iv] (setItem ov iv v)
   release [v, ov, iv] []) := by intro _; rfl) : PG X (.Subscript o i pos) (YD to ti t) := by
 intro pins s σ H v u Q I r h
 rw [ha]
 refine wpAny_bind (wpAny_holding (thn (ho pins s σ H _ I h) fun ov s1 ⟨x, H1, I1, r1, q1⟩ => ?_))
 refine wpAny_bind (wpAny_holding (thn (hi pins s1 σ H1 _ I1 q1) fun iv s2 ⟨y, H2, I2, r2, q2⟩ => ?_))
 refine wpAny_bind (wpAny_standAt (wpAny_bind (wpAny_holding (thn (hs pins s2 σ H2 x y v ov iv u _ I2 r1 r2 r q2) fun _ s3 ⟨H3, I3, q3⟩ => ?_))))
 exact wpAny_release ⟨σ, H3, I3, q3⟩
def Zl (te : TE) (g : TG) : TS := fun D σ H => te σ H fun x H1 => g x σ H1 D.nx
theorem qz {tg e : Expr} {te : TE} {g : TG} (he : PE X e te) (hg : PG X tg g) (hs : swapsWithSole [tg] e pos.line X.env = pure false := by rfl) (hw : swappedStores [tg] e X.env = pure none := by rfl)
  (h1 : (assignEach [tg] X.env).map (·.2) = [assign tg X.env] := by rfl) : PS X (.Assign [tg] e pos) (Zl te g) := by
 intro pins s σ H D I h
 refine wpAny_Assign_stores (thn (he pins s σ H _ I h) fun v s1 ⟨x, H1, I1, r1, q1⟩ => ?_) hs hw
 rw [h1]
 exact thn (hg pins s1 σ H1 x v _ I1 r1 q1) fun _ s2 q => q
theorem zO {i : Nat} {x : Str} {e : Expr} {te : TE} {pos' : Pos} (hN : X.N.Nodup) (hi : X.N[i]? = some x) (hx : Loc X.env.scope x) (he : PE X e te) (hs : swapsWith e (some (.Name x pos')) pos.line X.env = pure false := by rfl) (hf : X.fn x = true \/ X.env.scope.names.lookup x = some .local := by first | exact .inl rfl | exact .inr rfl | assumption) :
  PS X (.Assign [.Name x pos'] e pos) (Zl te (xv i)) := by
 intro pins s σ H D I h
 refine wpAny_Assign_Name (thn (he pins s σ H _ I h) fun v s1 ⟨y, H1, I1, r1, q1⟩ => ?_) hs
 exact yD I1 hN hi hx r1 (fun s2 I2 => ⟨_, H1, I2, q1⟩) hf
end
section
variable {X : Cx} {pos : Pos}
end
structure It where
 go : Nat -> Hp -> Prop
 yld : Nat -> Hp -> V -> Hp -> Prop
 stop : Nat -> Hp -> Prop
def jo (X : Cx) (pins : List (Addr × Obj)) (H : Hp) (b : Addr) : Prop :=
 H b = none /\ b ≠ X.env.locals /\ b ∉ X.fs /\ (b ∈ X.ex \/ X.s₀.heap.objs.size <= b) /\ (∀ x c, X.env.cells.lookup x = some c -> c ≠ b) /\ ∀ p ∈ X.pn ++ pins, p.1 ≠ b
theorem Inv.fpOk {X : Cx} {pins : List (Addr × Obj)} {σ : St} {H H' : Hp} {s : Shared} {b : Addr} (I : Inv X pins σ H s) (hb : s.heap.objs.size <= b) (hn : H' b = none) : jo X pins H' b := by
 refine ⟨hn, Nat.ne_of_gt (Nat.lt_of_lt_of_le I.lt hb), I.nofs hb, .inr (Nat.le_trans I.sz hb), fun x c e z => ?_, fun p hp z => ?_⟩
 ·obtain ⟨v, q⟩ := I.cell x c e
  exact absurd (Nat.lt_of_lt_of_le q.lt (by rw [z]; exact hb)) (Nat.lt_irrefl _)
 ·exact absurd (Nat.lt_of_lt_of_le (Heap.lt_size (I.pin p hp).1) (by rw [z]; exact hb)) (Nat.lt_irrefl _)
structure yI (P : Program) (w : World) (K : PySem.W.Frag) (tg : Expr) (J : It) (fp : List Addr) (it : Addr) (tn : Nat -> Heap -> Prop) : Prop where
 mem : it ∈ fp
 obj : ∀ i h, tn i h -> ∀ b ∈ fp, ∃ o, h.get? b = some o /\ ∀ v, o.data ≠ .cell v
 keep : ∀ i h h', tn i h -> (∀ b ∈ fp, ∀ o, h.get? b = some o -> h'.get? b = some o) -> tn i h'
 item : ∀ (X : Cx), X.prog = P -> X.w = w -> X.K = K -> X.calm = true -> ∀ (i : Nat) (pins : List (Addr × Obj)) (s : Shared) (σ : St) (H : Hp) (E : Value -> Shared -> Prop), Inv X pins σ H s -> (∀ b ∈ fp, jo X pins H b) -> tn i s.heap -> J.go i H ->
  wpAny (model P w) X.A (pyNext (.ref it)) (fun r s1 => ∃ u, r = some u /\
   wpAny (model P w) X.A (letOwnedTupleGo tg (.ref it) u) (fun _ s2 => ∃ x H', Inv X pins σ H' s2 /\ zy x u /\ J.yld i H x H' /\ tn (i + 1) s2.heap /\ ∀ b ∈ fp, H' b = none) E s1) E s
 done : ∀ (X : Cx), X.prog = P -> X.w = w -> X.K = K -> X.calm = true -> ∀ (i : Nat) (pins : List (Addr × Obj)) (s : Shared) (σ : St) (H : Hp) (E : Value -> Shared -> Prop), Inv X pins σ H s -> (∀ b ∈ fp, jo X pins H b) -> tn i s.heap -> J.stop i H ->
  wpAny (model P w) X.A (pyNext (.ref it)) (fun r s1 => r = none /\ Inv X pins σ H s1) E s
 self : ∀ (A : Around) (i : Nat) (s : Shared) (Q : Value -> Shared -> Prop) (E : Value -> Shared -> Prop), tn i s.heap -> Q (.ref it) s -> wpAny (model P w) A (pyIter (.ref it)) Q E s
abbrev TI := St -> Hp -> (It -> Hp -> Prop) -> Prop
def PIE (X : Cx) (pins : List (Addr × Obj)) (σ : St) (tg : Expr) (R : It -> Hp -> Prop) (itv : Value) (s2 : Shared) : Prop :=
 ∃ (it : Addr) (fp : List Addr) (tn : Nat -> Heap -> Prop) (J : It) (H' : Hp), itv = .ref it /\ Inv X pins σ H' s2 /\ yI X.prog X.w X.K tg J fp it tn /\ tn 0 s2.heap /\ (∀ b ∈ fp, jo X pins H' b) /\ R J H'
def PI (X : Cx) (tg iter : Expr) (wi : TI) : Prop :=
 ∀ (pins : List (Addr × Obj)) (s : Shared) (σ : St) (H : Hp) (R : It -> Hp -> Prop), Inv X pins σ H s -> wi σ H R ->
  wpAny (model X.prog X.w) X.A (eval iter X.env) (fun v s1 => wpAny (model X.prog X.w) X.A (pyIter v) (PIE X pins σ tg R) X.xe s1) X.xe s
theorem ZJ {M : Model} {A : Around} {E : Value -> Shared -> Prop} {s : Shared} {tg : Expr} {it : Addr} {u : Value} {o : Obj} {n : String} {vs : Array Value} {Q : Unit -> Shared -> Prop} (ho : s.heap.get? it = some o) (hc : o.cls = .type n) (hd : o.data = .fields vs)
    (hn : ["enumerate", "zip", "dict_itemiterator", "dict_reverseitemiterator", "odict_iterator", "itertools.zip_longest", "itertools.pairwise"].contains n = false) (hQ : Q () s) : wpAny M A (letOwnedTupleGo tg (.ref it) u) Q E s := by
  unfold letOwnedTupleGo
  cases tg <;> first
    | exact wpAny_pure hQ
    | (cases u <;> first
        | exact wpAny_pure hQ
        | (refine wpAny_bind (wpAny_load ho ?_)
           rw [hc, hd]
           show wpAny M A (if (["enumerate", "zip", "dict_itemiterator", "dict_reverseitemiterator", "odict_iterator", "itertools.zip_longest", "itertools.pairwise"].contains n && vs[0]? == some (rawInt _)) = true then _ else _) Q E s
           rw [if_neg (by intro h; rw [hn, Bool.false_and] at h; cases h)]
           exact wpAny_pure hQ))
def Itl (K : PySem.W.Frag) (a : Addr) : It :=
 ⟨fun i H => ∃ xs x, SqL K H a xs /\ xs[i]? = some x, fun i H x H' => H' = H /\ ∀ xs, SqL K H a xs -> xs[i]? = some x, fun i H => ∃ xs, SqL K H a xs /\ xs.length <= i⟩
def Itt (K : PySem.W.Frag) (a : Addr) : It :=
 ⟨fun i H => ∃ xs x, SqT K H a xs /\ xs[i]? = some x, fun i H x H' => H' = H /\ ∀ xs, SqT K H a xs -> xs[i]? = some x, fun i H => ∃ xs, SqT K H a xs /\ xs.length <= i⟩
def Itr (lo : Int) (n : Nat) : It := ⟨fun i _ => i < n, fun i H x H' => H' = H /\ x = .int (lo + i), fun i _ => n <= i⟩
theorem wN {P : Program} {w : World} {K : PySem.W.Frag} {tg : Expr} (a it : Addr) : yI P w K tg (Itl K a) [it] it (fun i h => h.IsListIter it a i) where
 mem := by simp
 obj := fun i h st b hb => by
  have e : b = it := by simpa using hb
  subst e
  obtain ⟨o, e, c, d⟩ := st
  exact ⟨o, e, fun v z => by rw [d] at z; cases z⟩
 keep := fun i h h' st k => st.at fun o e => k it (by simp) o e
 item := by
  intro X hP hw hK hc i pins s σ H E I hf st hg
  subst hP hw hK
  obtain ⟨xs, x, hq, hx⟩ := hg
  obtain ⟨its, rv, p, hz⟩ := I.list hq
  obtain ⟨u, hu, ru⟩ := rv.get hx
  obtain ⟨f0, f1, f2, f3, f4, f5⟩ := hf it (by simp)
  refine wpAny_pyNext_list_item st p.isList (x := u) (by simpa using hu) fun h' st' sb => ?_
  have I1 : Inv X pins σ H { s with heap := h' } := I.turned (t' := s.toks) (fun b o hb e => (sb.2 b hb).trans e) f0 f1 f3 f4 f5
  obtain ⟨o, e, c, d⟩ := id st'
  exact ⟨u, rfl, ZJ (s := { s with heap := h' }) e c d (by decide) ⟨x, H, I1, ru, ⟨rfl, fun ys hy => by rw [I.list_inj hy hq]; exact hx⟩, st', fun b hb => (hf b hb).1⟩⟩
 done := by
  intro X hP hw hK hc i pins s σ H E I hf st hg
  subst hP hw hK
  obtain ⟨xs, hq, hx⟩ := hg
  obtain ⟨its, rv, p, hz⟩ := I.list hq
  obtain ⟨f0, f1, f2, f3, f4, f5⟩ := hf it (by simp)
  have hl := rv.length
  exact wpAny_pyNext_list_end (I.ok.hd hc) st p.isList (by simp; omega) fun h' eb => ⟨rfl, I.turned (t' := s.toks) (fun b o hb e => eb b o hb e) f0 f1 f3 f4 f5⟩
 self := fun _ _ _ _ _ st h => wpAny_pyIter_listiter st h
theorem vB {P : Program} {w : World} {K : PySem.W.Frag} {tg : Expr} (a it : Addr) : yI P w K tg (Itt K a) [it] it (fun i h => h.IsTupleIter it a i) where
 mem := by simp
 obj := fun i h st b hb => by
  have e : b = it := by simpa using hb
  subst e
  obtain ⟨o, e, c, d⟩ := st
  exact ⟨o, e, fun v z => by rw [d] at z; cases z⟩
 keep := fun i h h' st k => st.at fun o e => k it (by simp) o e
 item := by
  intro X hP hw hK hc i pins s σ H E I hf st hg
  subst hP hw hK
  obtain ⟨xs, x, hq, hx⟩ := hg
  obtain ⟨its, rv, p, hz⟩ := I.tuple hq
  obtain ⟨u, hu, ru⟩ := rv.get hx
  obtain ⟨f0, f1, f2, f3, f4, f5⟩ := hf it (by simp)
  refine wpAny_pyNext_tuple_item st (show s.heap.IsTuple a its.toArray from p) (x := u) (by simpa using hu) fun h' st' sb => ?_
  have I1 : Inv X pins σ H { s with heap := h' } := I.turned (t' := s.toks) (fun b o hb e => (sb.2 b hb).trans e) f0 f1 f3 f4 f5
  obtain ⟨o, e, c, d⟩ := id st'
  exact ⟨u, rfl, ZJ (s := { s with heap := h' }) e c d (by decide) ⟨x, H, I1, ru, ⟨rfl, fun ys hy => by rw [I.tuple_inj hy hq]; exact hx⟩, st', fun b hb => (hf b hb).1⟩⟩
 done := by
  intro X hP hw hK hc i pins s σ H E I hf st hg
  subst hP hw hK
  obtain ⟨xs, hq, hx⟩ := hg
  obtain ⟨its, rv, p, hz⟩ := I.tuple hq
  obtain ⟨f0, f1, f2, f3, f4, f5⟩ := hf it (by simp)
  have hl := rv.length
  exact wpAny_pyNext_tuple_end (I.ok.hd hc) st (show s.heap.IsTuple a its.toArray from p) (by simp; omega) fun h' eb => ⟨rfl, I.turned (t' := s.toks) (fun b o hb e => eb b o hb e) f0 f1 f3 f4 f5⟩
 self := fun _ _ _ _ _ st h => wpAny_pyIter_tupleiter st h
theorem ve {P : Program} {w : World} {K : PySem.W.Frag} {tg : Expr} (it : Addr) (lo : Int) (n : Nat) : yI P w K tg (Itr lo n) [it] it (fun i h => IsRangeIter h it (lo + (i : Nat) * 1) ((n : Int) - (i : Nat)) 1) where
 mem := by simp
 obj := fun i h st b hb => by
  have e : b = it := by simpa using hb
  subst e
  exact ⟨_, st, fun v z => by
   have z' : Data.fields _ = Data.cell v := z
   cases z'⟩
 keep := fun i h h' st k => k it (by simp) _ st
 item := by
  intro X hP hw hK hc i pins s σ H E I hf st hg
  subst hP hw hK
  obtain ⟨f0, f1, f2, f3, f4, f5⟩ := hf it (by simp)
  have W := Walks.range (prog := X.prog) (w := X.w) (I.ok.hd hc) it lo 1 n
  refine W.item i s _ _ hg st fun v h' tk hv st' kk => ?_
  obtain ⟨t, rfl⟩ := hv
  have I1 : Inv X pins σ H { s with heap := h', toks := tk } := I.turned (fun b o hb e => kk b o (by simpa using hb) e) f0 f1 f3 f4 f5
  refine ⟨_, rfl, ZJ (s := { s with heap := h', toks := tk }) (n := "range_iterator") st' rfl rfl (by decide) ⟨.int (lo + i), H, I1, ⟨t, ?_⟩, ⟨rfl, rfl⟩, st', fun b hb => (hf b hb).1⟩⟩
  rw [Int.mul_one]
 done := by
  intro X hP hw hK hc i pins s σ H E I hf st hg
  subst hP hw hK
  obtain ⟨f0, f1, f2, f3, f4, f5⟩ := hf it (by simp)
  exact wpAny_pyNext_range_end (I.ok.hd hc) st (by have : n <= i := hg; omega) fun h' eb => ⟨rfl, I.turned (t' := s.toks) (fun b o hb e => eb b o hb e) f0 f1 f3 f4 f5⟩
 self := fun _ _ _ _ _ st h => wpAny_pyIter_rangeiter st h
end L2
namespace L2
open PySem PySem.Spec PyProof.Rows
section
variable {X : Cx} {tg : Expr}
theorem Jy {pins : List (Addr × Obj)} {σ : St} {H : Hp} {s : Shared} {R : It -> Hp -> Prop} {E : Value -> Shared -> Prop} {lo hi : Int} {t u v : Tok} {tk : Nat} (I : Inv X pins σ H s) (h1 : -(2 ^ 62) <= lo) (h2 : lo < 2 ^ 62) (h3 : -(2 ^ 62) <= hi) (h4 : hi < 2 ^ 62)
  (q : R (Itr lo (hi - lo).toNat) H) : wpAny (model X.prog X.w) X.A (pyIter (.ref s.heap.objs.size)) (PIE X pins σ tg R) E { s with heap := s.heap.push { cls := .type "range", data := .fields #[.int lo t, .int hi u, .int 1 v] }, toks := tk } := by
 refine wpAny_pyIter_range (IsRange.new ..) (small_one h1 h2 h3 h4) ?_
 have I1 : Inv X pins σ H { s with heap := s.heap.push { cls := .type "range", data := .fields #[.int lo t, .int hi u, .int 1 v] }, toks := tk } := I.kept fun b o e => Heap.get?_push_of_some _ e
 refine ⟨(s.heap.push { cls := .type "range", data := .fields #[.int lo t, .int hi u, .int 1 v] }).objs.size, [(s.heap.push { cls := .type "range", data := .fields #[.int lo t, .int hi u, .int 1 v] }).objs.size], _, _, H, rfl,
  I1.kept (t' := tk) fun b o e => Heap.get?_push_of_some _ e, ve _ lo (hi - lo).toNat, ?_, fun b hb => ?_, q⟩
 ·have e1 : lo + ((0 : Nat) : Int) * 1 = lo := by simp
  have e2 : (((hi - lo).toNat : Nat) : Int) - ((0 : Nat) : Int) = Builtin.Range.rangeSize lo hi 1 := by rw [rangeSize_one]; split <;> omega
  show IsRangeIter _ _ (lo + ((0 : Nat) : Int) * 1) ((((hi - lo).toNat : Nat) : Int) - ((0 : Nat) : Int)) 1
  rw [e1, e2]
  exact Heap.get?_push_size _ rfl
 ·have e : b = (s.heap.push { cls := .type "range", data := .fields #[.int lo t, .int hi u, .int 1 v] }).objs.size := by simpa using hb
  subst e
  exact I1.fpOk (Nat.le_refl _) (I1.hok.fresh (Nat.le_refl _))
def Z0 (ta : TA) : TI := fun σ H R => ta σ H fun vs H1 => ∃ j : Int, vs = [.int j] /\ -(2 ^ 62) <= j /\ j < 2 ^ 62 /\ R (Itr 0 j.toNat) H1
theorem zI {a : Expr} {ta : TA} {p pos : Pos} (hg : Gl X "range") (hm : X.mg "range" = none) (ha : PA X [a] ta) (hs : starEach [a] X.env = [(false, eval a X.env)] := by rfl) : PI X tg (.Call (.Name "range" p) [a] [] pos) (Z0 ta) := by
 intro pins s σ H R I h
 refine Call_ (kA I hg hm boot_range (PyProof.Rows.callWith_type1 (thn (ha pos pins s σ H _ I h) fun us s1 ⟨vs, H1, I1, r1, q1⟩ => ?_) hs rfl))
 obtain ⟨j, e, q1, q2, q⟩ := q1
 subst e
 cases r1 with
 | cons r rr =>
  cases rr
  obtain ⟨t, rfl⟩ := r
  exact call_range_1 (Jy I1 (by omega) (by omega) q1 q2 (by simpa using q))
def Xc (wi : TI) (g : TG) (tb : TS) : TS := fun D σ H => wi σ H fun J H1 => ∃ W : Nat -> Nat -> St -> Hp -> Prop, (∃ m, W 0 m σ H1) /\ ∀ i m σ H, W i m σ H ->
 (J.stop i H /\ D.nx σ H) \/ (J.go i H /\ ∃ N : St -> Hp -> Prop, (∀ σ' H', N σ' H' -> ∃ m', m' < m /\ W (i + 1) m' σ' H') /\ ∀ x H', J.yld i H x H' -> g x σ H' fun σ2 H2 => tb { D with nx := N, ct := N, bk := D.nx } σ2 H2)
def jL (fp : List Addr) (h : Heap) : List (Addr × Obj) := fp.filterMap fun b => (h.get? b).map fun o => (b, o)
theorem qg {fp : List Addr} {h : Heap} {b : Addr} {o : Obj} (hb : b ∈ fp) (e : h.get? b = some o) : (b, o) ∈ jL fp h := List.mem_filterMap.mpr ⟨b, hb, by rw [e]; rfl⟩
theorem wL {fp : List Addr} {h : Heap} {p : Addr × Obj} (hp : p ∈ jL fp h) : p.1 ∈ fp /\ h.get? p.1 = some p.2 := by
 obtain ⟨b, hb, e⟩ := List.mem_filterMap.mp hp
 cases q : h.get? b with
 | none => rw [q] at e; cases e
 | some o =>
  rw [q] at e
  have e' : (b, o) = p := Option.some.inj e
  subst e'
  exact ⟨hb, q⟩
theorem Inv.pinned {pins : List (Addr × Obj)} {σ : St} {H : Hp} {s : Shared} {fp : List Addr} (I : Inv X pins σ H s) (hf : ∀ b ∈ fp, jo X pins H b) (ho : ∀ b ∈ fp, ∃ o, s.heap.get? b = some o /\ ∀ v, o.data ≠ .cell v) : Inv X (pins ++ jL fp s.heap) σ H s :=
 I.pins_of fun p hp => (List.mem_append.mp hp).elim (fun z => I.pin p (List.mem_append_right _ z)) fun z => by
  obtain ⟨hb, e⟩ := wL z
  obtain ⟨f0, f1, f2, _⟩ := hf p.1 hb
  obtain ⟨o, e', d⟩ := ho p.1 hb
  rw [e] at e'; cases e'
  exact ⟨e, f0, f1, f2, d⟩
theorem Inv.unpinned {pins pl : List (Addr × Obj)} {σ : St} {H : Hp} {s : Shared} (I : Inv X (pins ++ pl) σ H s) : Inv X pins σ H s := I.pins_of fun p hp => I.pin p (List.mem_append_right _ (List.mem_append_left _ hp))
theorem xT {iter : Expr} {body : List Stmt} {wi : TI} {g : TG} {tb : TS} {pos : Pos} (hp : PassesOwn (model X.prog X.w) X.A X.env X.xe) (hc : X.calm = true) (hi : PI X tg iter wi) (hg : PG X tg g) (hb : PSs X body tb)
  (hs : ∀ x, foldedSetIterable iter X.env x = pure x := by intro _; rfl) : PS X (.For tg iter body [] pos) (Xc wi g tb) := by
 intro pins s σ H D I h
 refine wpAny_For (thn (hi pins s σ H _ I h) fun v s1 h1 => thn h1 fun itv s2 h2 => ?_) hs
 obtain ⟨it, fp, tn, J, H2, e, I2, T, st2, f2, W, ⟨m0, w0⟩, turn⟩ := h2
 subst e
 have stat : ∀ {H' : Hp}, (∀ b ∈ fp, H' b = none) -> ∀ b ∈ fp, jo X pins H' b := fun hn b hb => ⟨hn b hb, (f2 b hb).2⟩
 refine codeAny_forLoop_any (fun n s' => ∃ i σ' H', Inv X pins σ' H' s' /\ tn i s'.heap /\ (∀ b ∈ fp, H' b = none) /\ W i n σ' H') ?_ m0 ⟨0, σ, H2, I2, st2, fun b hb => (f2 b hb).1, w0⟩
 rintro n s3 ⟨i, σ3, H3, I3, st3, fr3, w3⟩
 rcases turn i n σ3 H3 w3 with ⟨stop, qn⟩ | ⟨go, N, hN, step⟩
 ·refine wpAny_passesOwn hp (thn (T.done X rfl rfl rfl hc i pins s3 σ3 H3 X.xe I3 (stat fr3) st3 stop) fun r s4 ⟨hr, I4⟩ => ?_)
  subst hr
  exact wpAny_execs_nil ⟨σ3, H3, I4, qn⟩
 ·refine wpAny_passesOwn hp (thn (T.item X rfl rfl rfl hc i pins s3 σ3 H3 X.xe I3 (stat fr3) st3 go) fun r s4 ⟨u, hr, h4⟩ => ?_)
  subst hr
  refine wpAny_passesOwn hp (thn h4 fun _ s5 ⟨x, H5, I5, r5, y5, st5, fr5⟩ => ?_)
  have I5' := I5.pinned (stat fr5) (T.obj _ _ st5)
  refine wpAny_passesOwn hp (thn (hg _ s5 σ3 H5 x u _ I5' r5 (step x H5 y5)) fun _ s6 ⟨σ6, H6, I6, q6⟩ => ?_)
  refine wpAny_passesOwn hp (thn (hb _ s6 σ6 H6 _ I6 q6) fun f s7 q7 => ?_)
  have again : ∀ {σ7 : St} {H7 : Hp}, Inv X (pins ++ jL fp s5.heap) σ7 H7 s7 -> N σ7 H7 -> ∃ m, m < n /\ ∃ i σ' H', Inv X pins σ' H' s7 /\ tn i s7.heap /\ (∀ b ∈ fp, H' b = none) /\ W i m σ' H' := fun {σ7 H7} I7 n7 => by
   obtain ⟨m', hm, w7⟩ := hN σ7 H7 n7
   refine ⟨m', hm, i + 1, σ7, H7, I7.unpinned, T.keep _ _ _ st5 fun b hb o e => (I7.pin (b, o) (List.mem_append_right _ (List.mem_append_right _ (qg hb e)))).1, fun b hb => ?_, w7⟩
   obtain ⟨o, e, d⟩ := T.obj _ _ st5 b hb
   exact (I7.pin (b, o) (List.mem_append_right _ (List.mem_append_right _ (qg hb e)))).2.1
  cases f with
  | next => obtain ⟨σ7, H7, I7, n7⟩ := q7; exact again I7 n7
  | cont => obtain ⟨σ7, H7, I7, n7⟩ := q7; exact again I7 n7
  | brk => obtain ⟨σ7, H7, I7, q7⟩ := q7; exact ⟨σ7, H7, I7.unpinned, q7⟩
  | ret v => obtain ⟨x7, σ7, H7, I7, r7, q7⟩ := q7; exact ⟨x7, σ7, H7, I7.unpinned, r7, q7⟩
end
end L2
namespace L2
open PySem PySem.Spec PyProof.Rows
abbrev R2 := V -> V -> Hp -> VK -> Prop
def OpR (X : Cx) (f : Value -> Value -> Sem Value) (r : R2) : Prop :=
 ∀ (pins : List (Addr × Obj)) (s : Shared) (σ : St) (H : Hp) (x y : V) (v u : Value) (Q : VK), Inv X pins σ H s -> zy x v -> zy y u -> r x y H Q ->
  wpAny (model X.prog X.w) X.A (f v u) (EP X pins σ Q) X.xe s
def qA (X : Cx) (f : Value) (r : List V -> Hp -> VK -> Prop) : Prop :=
 ∀ (pins : List (Addr × Obj)) (s : Shared) (σ : St) (H : Hp) (xs : List V) (us : List Value) (Q : VK), Inv X pins σ H s -> zu xs us -> r xs H Q ->
  wpAny (model X.prog X.w) X.A (call f us) (EP X pins σ Q) X.xe s
def tOp (r : R2) (ta tb : TE) : TE := fun σ H Q => ta σ H fun x H1 => tb σ H1 fun y H2 => r x y H2 Q
def rI (C : Int -> Int -> Prop) (g : Int -> Int -> V) : R2 := fun x y H Q => ∃ i j, x = .int i /\ y = .int j /\ C i j /\ Q (g i j) H
def rI0 (g : Int -> Int -> V) : R2 := fun x y H Q => ∃ i j, x = .int i /\ y = .int j /\ Q (g i j) H
section
variable {X : Cx} {a b c : Expr} {ta tb tc : TE} {pos : Pos}
theorem Ye (ha : PE X a ta) (hb : PE X b tb) {pins : List (Addr × Obj)} {s : Shared} {σ : St} {H : Hp} {R : V -> V -> Hp -> Prop} (I : Inv X pins σ H s)
  (h : ta σ H fun x H1 => tb σ H1 fun y H2 => R x y H2) {Q : Value -> Shared -> Prop} {f : Value -> Value -> Sem Value}
  (hf : ∀ v u s2 x y H2, Inv X pins σ H2 s2 -> zy x v -> zy y u -> R x y H2 -> wpAny (model X.prog X.w) X.A (f v u) Q X.xe s2) :
  wpAny (model X.prog X.w) X.A (eval a X.env) (fun v s₁ => wpAny (model X.prog X.w) X.A (eval b X.env) (fun u s₂ => wpAny (model X.prog X.w) X.A (f v u) Q X.xe s₂) X.xe s₁) X.xe s := by
 refine thn (ha pins s σ H _ I h) fun v s1 ⟨x, H1, I1, r1, q1⟩ => ?_
 refine thn (hb pins s1 σ H1 _ I1 q1) fun u s2 ⟨y, H2, I2, r2, q2⟩ => ?_
 exact hf v u s2 x y H2 I2 r1 r2 q2
theorem zg {op : Operator} {r : R2} (ho : OpR X (binaryOp op) r) (ha : PE X a ta) (hb : PE X b tb) : PE X (.BinOp a op b pos) (tOp r ta tb) := by
 intro pins s σ H Q I h
 exact wpAny_BinOp (Ye ha hb I h fun v u s2 x y H2 I2 rx ry q => ho pins s2 σ H2 x y v u Q I2 rx ry q)
theorem opI {f : Value -> Value -> Sem Value} {C : Int -> Int -> Prop} {g : Int -> Int -> Int}
  (rule : ∀ (i j : Int) (t u : Tok) (s : Shared) (Q : Value -> Shared -> Prop) (E : Value -> Shared -> Prop), C i j -> Q (.int (g i j) s.toks) { s with toks := s.toks + 1 } -> wpAny (model X.prog X.w) X.A (f (.int i t) (.int j u)) Q E s) :
  OpR X f (rI C fun i j => .int (g i j)) := by
 intro pins s σ H x y v u Q I rx ry h
 obtain ⟨i, j, rfl, rfl, hc, q⟩ := h
 obtain ⟨t, rfl⟩ := rx
 obtain ⟨t', rfl⟩ := ry
 exact rule i j t t' s _ _ hc ⟨.int (g i j), H, I.tok _, ⟨_, rfl⟩, q⟩
theorem VO {f : Value -> Value -> Sem Value} {g : Int -> Int -> Int}
  (rule : ∀ (i j : Int) (t u : Tok) (s : Shared) (Q : Value -> Shared -> Prop) (E : Value -> Shared -> Prop), Q (.int (g i j) s.toks) { s with toks := s.toks + 1 } -> wpAny (model X.prog X.w) X.A (f (.int i t) (.int j u)) Q E s) :
  OpR X f (rI0 fun i j => .int (g i j)) := by
 intro pins s σ H x y v u Q I rx ry h
 obtain ⟨i, j, rfl, rfl, q⟩ := h
 obtain ⟨t, rfl⟩ := rx
 obtain ⟨t', rfl⟩ := ry
 exact rule i j t t' s _ _ ⟨.int (g i j), H, I.tok _, ⟨_, rfl⟩, q⟩
theorem VU {f : Value -> Value -> Sem Value} {g : Int -> Int -> Bool}
  (rule : ∀ (i j : Int) (t u : Tok) (s : Shared) (Q : Value -> Shared -> Prop) (E : Value -> Shared -> Prop), Q (.bool (g i j)) s -> wpAny (model X.prog X.w) X.A (f (.int i t) (.int j u)) Q E s) :
  OpR X f (rI0 fun i j => .bl (g i j)) := by
 intro pins s σ H x y v u Q I rx ry h
 obtain ⟨i, j, rfl, rfl, q⟩ := h
 obtain ⟨t, rfl⟩ := rx
 obtain ⟨t', rfl⟩ := ry
 exact rule i j t t' s _ _ ⟨.bl (g i j), H, I, rfl, q⟩
def Yl (i j : Int) : Prop := 0 < j /\ j < 1073741824
def V2 (i j : Int) : Prop := 0 <= j /\ j <= 1000000 /\ i.natAbs < 2 ^ 64
def ZZ (i j : Int) : Prop := (-(2 ^ 64) < i /\ i < 2 ^ 64) \/ (-(2 ^ 64) < j /\ j < 2 ^ 64)
theorem ZZ.ok {i j : Int} (h : ZZ i j) : IntMulOk i j := by
 rcases h with ⟨h1, h2⟩ | ⟨h1, h2⟩
 ·exact .of_left (intBits_le_64 h1 h2)
 ·exact .of_right (intBits_le_64 h1 h2)
theorem zv : OpR X (binaryOp .Add) (rI0 fun i j => .int (i + j)) := VO fun _ _ _ _ _ _ _ q => add_int q
theorem jM : OpR X (binaryOp .Sub) (rI0 fun i j => .int (i - j)) := VO fun _ _ _ _ _ _ _ q => sub_int q
theorem zF : OpR X (binaryOp .Mult) (rI ZZ fun i j => .int (i * j)) := opI fun _ _ _ _ _ _ _ hc q => mul_int q hc.ok
theorem ka : OpR X (binaryOp .FloorDiv) (rI Yl fun i j => .int (i / j)) := opI fun i j _ _ _ _ _ hc q => by
 have h1 : (0 : Int) < j := hc.1
 have h2 : j < 1073741824 := hc.2
 exact floordiv_int (by omega) (by rw [Int.fdiv_eq_ediv_of_nonneg i (by omega)]; exact q) (.inl (PyProof.noPylong_small (by omega)))
theorem qb : OpR X (binaryOp .Mod) (rI (fun _ j => 0 < j) fun i j => .int (i % j)) := opI fun i j _ _ _ _ _ hc q => by
 have h1 : (0 : Int) < j := hc
 exact mod_int' (by omega) (by rw [Int.fmod_eq_emod_of_nonneg i (by omega)]; exact q)
theorem X7 : OpR X (binaryOp .Pow) (rI V2 fun i j => .int (i ^ j.toNat)) := opI fun _ _ _ _ _ _ _ hc q => pow_int_small hc.1 hc.2.1 hc.2.2 q
end
section
variable {X : Cx} {a b c : Expr} {ta tb tc : TE} {pos : Pos}
theorem Qs : OpR X (compareOp .Gt) (rI0 fun i j => .bl (decide (j < i))) := VU fun _ _ _ _ _ _ _ q => gt_int q
theorem Vh : OpR X (compareOp .GtE) (rI0 fun i j => .bl (decide (j <= i))) := VU fun _ _ _ _ _ _ _ q => ge_int q
theorem zD (b : Expr) {op : CmpOp} (h : op ≠ .In := by decide) (h2 : op ≠ .NotIn := by decide) : behindInMarks op b = false := by
 have e1 : (op == CmpOp.In) = false := by cases op <;> first | rfl | exact absurd rfl h
 have e2 : (op == CmpOp.NotIn) = false := by cases op <;> first | rfl | exact absurd rfl h2
 cases b <;> simp [behindInMarks, e1, e2]
theorem jD {op : CmpOp} {r : R2} (ho : OpR X (compareOp op) r) (ha : PE X a ta) (hb : PE X b tb) (hm : behindInMarks op b = false) : PE X (.Compare a [op] [b] pos) (tOp r ta tb) := by
 intro pins s σ H Q I h
 exact wpAny_Compare1 (Ye ha hb I h fun v u s2 x y H2 I2 rx ry q => ho pins s2 σ H2 x y v u Q I2 rx ry q) hm
def QJ (t : TE) : TT := fun σ H Q => t σ H fun x H' => ∃ k, x = .bl k /\ Q k H'
theorem zE {op : CmpOp} {r : R2} (ho : OpR X (compareOp op) r) (ha : PE X a ta) (hb : PE X b tb) (hm : behindInMarks op b = false) : PT X (.Compare a [op] [b] pos) (QJ (tOp r ta tb)) := by
 intro pins s σ H Q I h
 refine wpAny_isTrue_Compare1 (thn (ha pins s σ H _ I h) fun v s1 ⟨x, H1, I1, r1, q1⟩ => thn (hb pins s1 σ H1 _ I1 q1) fun u s2 ⟨y, H2, I2, r2, q2⟩ =>
  thn (ho pins s2 σ H2 x y v u _ I2 r1 r2 q2) fun c s3 ⟨z, H3, I3, r3, k, e, q3⟩ => ?_) hm
 subst e
 cases r3
 exact wpAny_truthy_bool ⟨H3, I3, q3⟩
theorem xD : (sizeLine : Nat) < 2 ^ 63 := by rw [sizeLine_eq]; decide
theorem jq {x : V} {us : List Value} (r : zu [x] us) : ∃ u, us = [u] /\ zy x u := by
 cases r with
 | cons r1 r2 => cases r2; exact ⟨_, rfl, r1⟩
theorem KO {x y : V} {us : List Value} (r : zu [x, y] us) : ∃ u w', us = [u, w'] /\ zy x u /\ zy y w' := by
 cases r with
 | cons r1 r2 =>
  cases r2 with
  | cons r3 r4 => cases r4; exact ⟨_, _, rfl, r1, r3⟩
theorem yA : qA X (.builtin "abs") (fun xs H Q => ∃ i, xs = [.int i] /\ Q (.int (if i < 0 then -i else i)) H) := by
 intro pins s σ H xs us Q I r h
 obtain ⟨i, rfl, q⟩ := h
 obtain ⟨u, rfl, t, rfl⟩ := jq r
 exact call_abs_int fun u tk => ⟨.int (if i < 0 then -i else i), H, I.tok _, ⟨_, rfl⟩, q⟩
theorem Zm (hc : X.calm = true) : qA X (.builtin "max") (fun xs H Q => ∃ i j, xs = [.int i, .int j] /\ Q (.int (if j > i then j else i)) H) := by
 intro pins s σ H xs us Q I r h
 obtain ⟨i, j, rfl, q⟩ := h
 obtain ⟨u, w', rfl, ⟨t, rfl⟩, ⟨t', rfl⟩⟩ := KO r
 refine max_two_ints (I.ok.hd hc) fun h' tk k => ⟨_, H, I.kept k, ?_, q⟩
 by_cases hj : j > i
 ·rw [if_pos hj, if_pos hj]; exact ⟨_, rfl⟩
 ·rw [if_neg hj, if_neg hj]; exact ⟨_, rfl⟩
theorem Zr : qA X (.type "int") (fun xs H Q => (∃ i, xs = [.int i] /\ Q (.int i) H) \/ ∃ k, xs = [.bl k] /\ Q (.int (if k then 1 else 0)) H) := by
 intro pins s σ H xs us Q I r h
 rcases h with ⟨i, rfl, q⟩ | ⟨k, rfl, q⟩
 ·obtain ⟨u, rfl, t, rfl⟩ := jq r
  exact call_int_int ⟨.int i, H, I, ⟨_, rfl⟩, q⟩
 ·obtain ⟨u, rfl, r1⟩ := jq r
  cases r1
  exact call_int_bool ⟨.int (if k then 1 else 0), H, I.tok _, ⟨_, rfl⟩, q⟩
theorem yr : qA X (.builtin "divmod") (fun xs H Q => ∃ i j, xs = [.int i, .int j] /\ Yl i j /\ ∀ p, H p = none -> Q (.ref p) (upd H p (.tup [.int (i / j), .int (i % j)]))) := by
 intro pins s σ H xs us Q I r h
 obtain ⟨i, j, rfl, ⟨h1, h2⟩, q⟩ := h
 obtain ⟨u, w', rfl, ⟨t, rfl⟩, ⟨t', rfl⟩⟩ := KO r
 refine divmod_int (by omega) ?_ (.inl (PyProof.noPylong_small (by omega)))
 rw [Int.fdiv_eq_ediv_of_nonneg i (by omega), Int.fmod_eq_emod_of_nonneg i (by omega)]
 have hn : H s.heap.objs.size = none := I.hok.fresh (Nat.le_refl _)
 refine ⟨.ref s.heap.objs.size, _, ?_, rfl, q _ hn⟩
 refine I.laid (fun b o e => Heap.get?_push_of_some _ e) (Nat.le_refl _) ⟨by simp only [List.length_cons, List.length_nil]; rw [sizeLine_eq]; decide, [.int (i / j) s.toks, .int (i % j) (s.toks + 1)], .cons ⟨_, rfl⟩ (.cons ⟨_, rfl⟩ .nil), ?_⟩
 exact ⟨_, Heap.get?_push_size s.heap rfl, rfl, ⟨0, rfl⟩, rfl⟩
end
end L2
namespace L2
open PySem PySem.Spec PyProof.Rows
structure Ki (h : Heap) (x dx C : Addr) (mA : Str -> Option Value) : Prop where
 obj : h.get? x = some (PySem.W.instObj C dx)
 ns : h.Ns1 dx mA
 ne : dx ≠ x
theorem w6 {h : Heap} {dx : Addr} {mA : Str -> Option Value} (n : h.Ns1 dx mA) : ∃ od, h.get? dx = some od /\ ∀ name, PySem.W.lookIn name od = some (mA name) := by
 obtain ⟨o, es, ep, ho, hd, hk, _, hm⟩ := n
 refine ⟨o, ho, fun name => ?_⟩
 have e := hm name
 unfold nsFind findBy at e
 rw [<- Array.find?_toList] at e
 unfold PySem.W.lookIn
 rw [hd]
 dsimp only
 split
 ·rename_i y q
  rw [q] at e
  exact congrArg some e
 ·rename_i q
  rw [q] at e
  have a : es.toList.any (·.refKey) = false := by
   rw [List.any_eq_false]
   intro y hy
   obtain ⟨z, t, hkey⟩ := hk y (Array.mem_toList_iff.mp hy)
   simp [DictEntry.refKey, hkey]
  have a' : ¬ es.toList.any (·.refKey) = true := by rw [a]; exact Bool.false_ne_true
  rw [if_neg a']
  exact congrArg some e
theorem Ki.look {h : Heap} {x dx C : Addr} {mA : Str -> Option Value} (I : Ki h x dx C mA) : ∃ od, PySem.W.InstAt h x (PySem.W.instObj C dx) C (some od) /\ ∀ name, PySem.W.lookIn name od = some (mA name) :=
 let ⟨od, ho, hl⟩ := w6 I.ns
 ⟨od, ⟨I.obj, rfl, rfl, ho⟩, hl⟩
section
variable {prog : Program} {w : World} {A : Around} {E : Value -> Shared -> Prop} {s : Shared} {K : PySem.W.Frag} {x dx C f : Addr} {mA : Str -> Option Value} {name : Str} {v : Value}
theorem wg {ns : List Str} {Q : Unit -> Shared -> Prop} (X : K.In s.heap) (I : Ki s.heap x dx C mA)
  (hs : PySem.W.findIn K (.ref C) "__setattr__" = some (some (.builtin "object.__setattr__"))) (hp : PySem.W.plainOver K C = true) (ht : PySem.W.takerIn K C name = some none) (hh : PySem.W.hasDictIn K C = true)
  (hw : PySem.Within mA ns) (hsz : ns.length <= sizeLine)
  (h : ∀ h', Ki h' x dx C (fun y => if y = name then some v else mA y) -> Heap.SameBut dx s.heap h' -> Q () { s with heap := h', toks := s.toks + 2 }) :
  wpAny (model prog w) A (setAttr (.ref x) name v) Q E s := by
 obtain ⟨od, J, hl⟩ := I.look
 refine PySem.W.set_plain X J hs (PySem.W.osa_open (s := { s with toks := s.toks + 1 }) (r := none) X J hp ht fun b => ?_)
 obtain ⟨cd, hc, hd'⟩ := PySem.W.any_some hh
 have hx : s.heap.get? x = some ⟨.ref C, some dx, .plain, #[]⟩ := I.obj
 refine wpAny_bind (wpAny_pure (wpAny_bind (wpAny_bind (wpAny_loadPart hx (wpAny_bind (PySem.W.Looks.here (s := { s with toks := s.toks + 1 }) (PySem.W.looks_clsIn X hc) ?_))))))
 rw [hd']
 refine wpAny_pure (a := some dx) (wpAny_bind (wpAny_pure (wpAny_bind ?_)))
 refine wpAny_nsSet1 (s := { s with toks := s.toks + 1 }) I.ns fun h' hn2 hs2 => ?_
 obtain ⟨oD, esD, epD, hoD, hdD, hcD⟩ := hn2.count (PySem.Within.cons name v hw)
 refine wpAny_bind (wpAny_lookBehind hoD (by rw [hdD]; exact pastItsLine_dict (Nat.le_trans hcD (by rw [List.length_cons]; omega))) ?_)
 exact wpAny_pure (h _ ⟨(hs2.2 _ (Ne.symm I.ne)).trans I.obj, hn2, I.ne⟩ hs2)
end
section
variable {P : Program} {w : World} {H H' : Hp} {h h' : Heap} {a C dx : Addr} {fs fs' : List (Str × V)}
end
structure Cls (K : PySem.W.Frag) (C : Addr) : Prop where
 pg : PySem.W.plainGet K C Str.empty = true
 hd : PySem.W.hasDictIn K C = true
 po : PySem.W.plainOver K C = true
 sa : PySem.W.findIn K (.ref C) "__setattr__" = some (some (.builtin "object.__setattr__"))
structure Con (K : PySem.W.Frag) (C : Addr) (f : Str) (v : V) (u : Value) : Prop where
 at_ : PySem.W.findIn K (.ref C) f = some (some u)
 rel : zy v u
 get : PySem.W.specialIn K u "__get__" = some none
 cp : PySem.W.copiedNames.contains f = false
structure V7 (K : PySem.W.Frag) (C : Addr) (m : Str) (f : Addr) : Prop where
 at_ : PySem.W.findIn K (.ref C) m = some (some (.ref f))
 fn : PySem.W.isFn K (.ref f) = true
 kp : PySem.W.keepIn K (.ref f) = true
section
variable {X : Cx} {pins : List (Addr × Obj)} {σ : St} {H : Hp} {s : Shared} {a C dx : Addr} {fs : List (Str × V)} {f : Str} {v : V} {A : Around} {E : Value -> Shared -> Prop}
end
section
variable {X : Cx} {o e value : Expr} {f : Str} {pos pos' tpos : Pos} {ta tv : TE}
end
section
variable {X : Cx} {pins : List (Addr × Obj)} {σ : St} {H : Hp} {s : Shared} {A : Around} {E : Value -> Shared -> Prop} {Q : Value -> Shared -> Prop} {c : Value} {b : Bool}
inductive ki (K : PySem.W.Frag) (H : Hp) : V -> Value -> Prop where
  | non : ki K H .non (.type "NoneType")
  | bl (x : Bool) : ki K H (.bl x) (.type "bool")
  | int (i : Int) : ki K H (.int i) (.type "int")
  | str (x : Str) : ki K H (.str x) (.type "str")
  | flt (x : UInt64) : ki K H (.flt x) (.type "float")
  | lst {a : Addr} {xs : List V} (e : H a = some (.lst xs)) : ki K H (.ref a) (.type "list")
  | frz {a : Addr} {o : Obj} {xs : List V} (e : H a = some (.frz o (.lst xs))) : ki K H (.ref a) (.type "list")
  | tup {a : Addr} {xs : List V} (e : H a = some (.tup xs)) : ki K H (.ref a) (.type "tuple")
  | dK {a : Addr} {kvs : List (Key × V)} (e : H a = some (.dK kvs)) : ki K H (.ref a) (.type "dict")
  | dT {a : Addr} {kvs : List (List Key × V)} (e : H a = some (.dT kvs)) : ki K H (.ref a) (.type "dict")
  | ins {a C dx : Addr} {fs : List (Str × V)} (e : H a = some (.ins C dx fs)) (cl : Cls K C) (ha : PySem.W.findIn K (.ref C) "__class__" = some (some (.builtin "object.__class__")))
      (hn : PySem.W.specialIn K (.builtin "object.__class__") "__get__" = some (some (.builtin "getset_descriptor.__get__"))) (htk : PySem.W.takesIn K (.builtin "object.__class__") = some true)
      (hm : PySem.W.mroIn K C (.type "object") = some true) : ki K H (.ref a) (.ref C)
end
end L2
namespace L2
open PySem PySem.Spec PyProof.Rows
structure qC (k : Nat) (A : Around) : Prop where
 hd : A.handled = none
 gd : A.guards = some []
 dp : A.depth + 3 * k + 5 < recursionLimit
 un : A.units + 16 * k + 200 < cLine
theorem qC.mono {j k : Nat} {A : Around} (r : qC k A) (h : j <= k) : qC j A := ⟨r.hd, r.gd, by have := r.dp; omega, by have := r.un; omega⟩
theorem qC.deeper {k : Nat} {A : Around} (r : qC (k + 1) A) (env : Env) : qC k (A.deeper env) :=
 ⟨r.hd, r.gd, by have := r.dp; show A.depth + 1 + 3 * k + 5 < _; omega, by have := r.un; show A.units + 3 + 16 * k + 200 < _; omega⟩
theorem qC.depth {k : Nat} {A : Around} (r : qC k A) : A.depth < recursionLimit := by have := r.dp; omega
theorem qC.units {k : Nat} {A : Around} (r : qC k A) : A.units + 64 < cLine := by have := r.un; omega
def X1 : TA := fun _ H Q => Q [] H
def ZG (ta : TE) (tr : TA) : TA := fun σ H Q => ta σ H fun x H1 => tr σ H1 fun xs H2 => Q (x :: xs) H2
section
variable {X : Cx} {e : Expr} {es : List Expr} {te : TE} {t : TA} {pos : Pos}
theorem zb : PA X [] X1 := fun _ _ _ _ H Q I h => Calls.spliced_nil ⟨[], H, I, .nil, h⟩
theorem za (ha : PE X e te) (hr : PA X es t) (hs : starEach (e :: es) X.env = (false, eval e X.env) :: starEach es X.env := by rfl) : PA X (e :: es) (ZG te t) := by
 intro pos pins s σ H Q I h
 rw [hs]
 show wpAny _ _ (spliced ((false, eval e X.env) :: backTo pos (starEach es X.env))) _ _ s
 refine Calls.spliced_cons (thn (ha pins s σ H _ I h) fun u s1 ⟨x, H1, I1, r1, q1⟩ => ?_)
 exact thn (hr pos pins s1 σ H1 _ I1 q1) fun us s2 ⟨xs, H2, I2, r2, q2⟩ => ⟨x :: xs, H2, I2, .cons r1 r2, q2⟩
def Yq (t : TA) : TE := fun σ H Q => t σ H fun xs H1 => xs.length <= sizeLine /\ ∀ p, H1 p = none -> Q (.ref p) (upd H1 p (.tup xs))
def Yy (t : TA) : TE := fun σ H Q => t σ H fun xs H1 => xs.length <= sizeLine /\ ∀ p, H1 p = none -> Q (.ref p) (upd H1 p (.lst xs))
theorem qa {x1} (h : PA X es t) : PE X (.Tuple es x1 pos) (Yq t) := by
 intro pins s σ H Q I hq
 refine wpAny_Tuple_spliced (thn (h pos pins s σ H _ I hq) fun us s1 ⟨xs, H1, I1, r, z, q⟩ => ⟨by rw [<- r.length]; exact z, ?_⟩)
 have hf : H1 s1.heap.objs.size = none := I1.hok.fresh (Nat.le_refl _)
 refine ⟨.ref s1.heap.objs.size, upd H1 s1.heap.objs.size (.tup xs), I1.laid (t' := s1.toks) (fun b u e => Heap.get?_push_of_some _ e) (Nat.le_refl _) ?_, rfl, q _ hf⟩
 exact ⟨z, us, r, ⟨_, Heap.get?_push_size _ rfl, rfl, ⟨_, rfl⟩, rfl⟩⟩
theorem js (h : PA X es t) : PE X (.List es pos) (Yy t) := by
 intro pins s σ H Q I hq
 refine wpAny_List_spliced (thn (h pos pins s σ H _ I hq) fun us s1 ⟨xs, H1, I1, r, z, q⟩ => ⟨by rw [<- r.length]; exact z, ?_⟩)
 have hf : H1 s1.heap.objs.size = none := I1.hok.fresh (Nat.le_refl _)
 refine ⟨.ref s1.heap.objs.size, upd H1 s1.heap.objs.size (.lst xs), I1.laid (t' := s1.toks) (fun b u e => Heap.get?_push_of_some _ e) (Nat.le_refl _) ?_, rfl, q _ hf⟩
 exact ⟨z, us, 0, r, Heap.get?_push_size _ rfl⟩
end
abbrev Sp := List V -> Hp -> VK -> XK -> Prop
abbrev CXT := List Env -> Hp -> Shared -> XK -> Value -> Shared -> Prop
structure Kb (P : Program) (w : World) (K : PySem.W.Frag) (mg : Str -> Option Value) (base : Heap) (A : Around) (outer : List Env) (s : Shared) (H : Hp) : Prop where
 frames : A.frames = some outer
 mod : Mod K mg base
 bs : ∀ b o, base.get? b = some o -> s.heap.get? b = some o /\ H b = none
 bsz : base.objs.size <= s.heap.objs.size
 funs : s.heap.FunFrames base outer
 frf : ∀ b ∈ frs outer, H b = none
 hok : HOk P w H s.heap
 bare : AllBare s.gens
def CE (outer : List Env) (P : Program) (w : World) (H : Hp) (s : Shared) (Q : VK) (u : Value) (s' : Shared) : Prop :=
 ∃ v H', s'.os = s.os /\ AllBare s'.gens /\ Un (frs outer) [] H H' s.heap s'.heap /\ HOk P w H' s'.heap /\ zy v u /\ Q v H'
def CR (CX : CXT) (outer : List Env) (P : Program) (w : World) (H : Hp) (s : Shared) (Q : VK) (E : XK) (r : Result) (s' : Shared) : Prop :=
 match r with
 | .ok (.ret u) => CE outer P w H s Q u s'
 | .ok _ => False
 | .error e => CX outer H s E e s'
structure jn (P : Program) (w : World) (K : PySem.W.Frag) (mg : Str -> Option Value) (base : Heap) (CX : CXT) (k : Nat) (f : Addr) (fd : FuncData) (ps : List Str) (sp : Sp) : Prop where
 len : ∀ vs H Q E, sp vs H Q E -> vs.length = ps.length
 run : ∀ (A : Around) (outer : List Env) (s : Shared) (H : Hp) (args : Args) (us : List Value) (vs : List V) (Q : VK) (E : XK), qC k A -> Kb P w K mg base A outer s H -> BindsTo s fd args (ps.zip us) -> zu vs us -> sp vs H Q E ->
  codeAny (model P w) A (.call (.ref f) args) (CR CX outer P w H s Q E) s
theorem jn.mono {P : Program} {w : World} {K : PySem.W.Frag} {mg : Str -> Option Value} {base : Heap} {CX : CXT} {j k : Nat} {f : Addr} {fd : FuncData} {ps : List Str} {sp : Sp} (F : jn P w K mg base CX j f fd ps sp) (h : j <= k) :
  jn P w K mg base CX k f fd ps sp := ⟨F.len, fun A outer s H args us vs Q E hr => F.run A outer s H args us vs Q E (hr.mono h)⟩
theorem jn.imp {P : Program} {w : World} {K : PySem.W.Frag} {mg : Str -> Option Value} {base : Heap} {CX : CXT} {k : Nat} {f : Addr} {fd : FuncData} {ps : List Str} {sp sp' : Sp} (F : jn P w K mg base CX k f fd ps sp)
  (h : ∀ vs H Q E, sp' vs H Q E -> sp vs H Q E) : jn P w K mg base CX k f fd ps sp' :=
 ⟨fun vs H Q E q => F.len vs H Q E (h _ _ _ _ q), fun A outer s H args us vs Q E hr he hb hv hs => F.run A outer s H args us vs Q E hr he hb hv (h _ _ _ _ hs)⟩
section
variable {X : Cx} {pins : List (Addr × Obj)} {σ : St} {H : Hp} {s s' : Shared}
theorem Inv.env0 (I : Inv X pins σ H s) : Kb X.prog X.w X.K X.mg X.base X.A X.stack s H :=
 ⟨I.ok.frames, I.ok.mod, I.bs, Nat.le_trans I.ok.bsz I.sz, I.stack, I.stkFree, I.hok, I.bare⟩
theorem Inv.after {Q : VK} {u : Value} (I : Inv X pins σ H s) (h : CE X.stack X.prog X.w H s Q u s') : EP X pins σ Q u s' := by
 obtain ⟨v, H', os, bare, un, hok, r, q⟩ := h
 obtain ⟨hh, g, d, t, os'⟩ := s'
 obtain rfl : os' = s.os := os
 exact ⟨v, H', I.call (h' := hh) (g' := g) (d' := d) (t' := t) (ch := []) un hok bare (fun b z => absurd z (by simp)), r, q⟩
end
def wf (sp : Sp) (dvs : List V) (E : XK) (t : TA) : TE := fun σ H Q => t σ H fun vs H1 => sp (vs ++ dvs) H1 Q E
def xc (K : PySem.W.Frag) (fd : FuncData) (ps : List Str) (ds : List Value) : Prop :=
 ∀ (s : Shared) (us : List Value), K.In s.heap -> (us ++ ds).length = ps.length -> BindsTo s fd ⟨us, []⟩ (ps.zip (us ++ ds))
theorem xc.all {K : PySem.W.Frag} {fd : FuncData} {ps : List Str} (h : ∀ us : List Value, us.length = ps.length -> bindArgs fd ⟨us, []⟩ = pure (ps.zip us)) : xc K fd ps [] := fun s us _ hl => by
 rw [List.append_nil] at hl ⊢
 exact .of_eq (h us hl)
def vo (CX : CXT) (X : Cx) (E : XK) : Prop := ∀ (pins : List (Addr × Obj)) (σ : St) (H : Hp) (s : Shared) (e : Value) (s' : Shared), Inv X pins σ H s -> CX X.stack H s E e s' -> X.xe e s'
section
variable {X : Cx} {CX : CXT} {k : Nat} {f C : Addr} {fd : FuncData} {ps : List Str} {sp : Sp} {dvs : List V} {ds : List Value} {E : XK} {x m : Str} {p pos apos : Pos} {e o : Expr} {es : List Expr} {ta : TE} {t : TA}
theorem XQ {pins : List (Addr × Obj)} {σ : St} {H : Hp} {s : Shared} {Q : VK} {us : List Value} {vs : List V} (F : jn X.prog X.w X.K X.mg X.base CX k f fd ps sp) (hr : qC k X.A) (hb : xc X.K fd ps ds) (hd : zu dvs ds) (hx : vo CX X E)
  (I : Inv X pins σ H s) (r : zu vs us) (h : sp (vs ++ dvs) H Q E) : wpAny (model X.prog X.w) X.A (call (.ref f) us) (EP X pins σ Q) X.xe s := by
 have r2 : zu (vs ++ dvs) (us ++ ds) := r.append hd
 have hl : (us ++ ds).length = ps.length := by rw [<- r2.length]; exact F.len _ _ _ _ h
 refine wpAny_call (codeAny_mono (F.run X.A X.stack s H ⟨us, []⟩ (us ++ ds) (vs ++ dvs) Q E hr I.env0 (hb s us I.kIn hl) r2 h) fun r s' hq => ?_)
 cases r with
 | error e => exact hx pins σ H s e s' I hq
 | ok fl =>
  cases fl with
  | ret u => exact I.after hq
  | next => exact False.elim hq
  | brk => exact False.elim hq
  | cont => exact False.elim hq
theorem JV (F : jn X.prog X.w X.K X.mg X.base CX k f fd ps sp) (hr : qC k X.A) (hg : Gl X x) (hm : X.mg x = some (.ref f)) (hk : PySem.W.keepIn X.K (.ref f) = true) (hb : xc X.K fd ps ds) (hd : zu dvs ds) (hx : vo CX X E)
  (ha : PA X (e :: es) t) (hdb : (x == ("__debug__" : Str)) = false := by decide) (he : starEach (e :: es) X.env = (false, eval e X.env) :: starEach es X.env := by rfl) (hpl : (backTo pos (starEach es X.env)).any (·.1) = false := by rfl) :
  PE X (.Call (.Name x p) (e :: es) [] pos) (wf sp dvs E t) := by
 intro pins s σ H Q I h
 refine wpAny_Call_Name_kw (Kr I hg hm ?_ hdb)
 refine PySem.W.callWith_K (h₀ := X.base) I.ok.mod.kin hk (thn (ha pos pins s σ H _ I h) fun us s1 ⟨vs, H1, I1, r, q⟩ => ⟨I1.kIn, ?_⟩) he hpl
 exact XQ F hr hb hd hx I1 r q
structure Mk (K : PySem.W.Frag) (C f : Addr) : Prop where
 makes : PySem.W.makesIn K C = true
 init : PySem.W.findIn K (.ref C) "__init__" = some (some (.ref f))
 fn : PySem.W.isFn K (.ref f) = true
 kp : PySem.W.keepIn K (.ref C) = true
end
section
variable {X : Cx} {CX : CXT} {k : Nat} {f C : Addr} {fd : FuncData} {ps ks : List Str} {sp : Sp} {E : XK} {x m : Str} {p pos apos kpos : Pos} {e o : Expr} {es : List Expr} {kws : List Keyword} {te ta : TE} {t tk : TA} {nm : Option Str}
structure Wa (K : PySem.W.Frag) (fd : FuncData) (ps ks : List Str) (g : List Value -> List Value -> List Value) (gV : List V -> List V -> List V) : Prop where
 to : ∀ (s : Shared) (us ws : List Value), K.In s.heap -> (g us ws).length = ps.length -> BindsTo s fd ⟨us, ks.zip ws⟩ (ps.zip (g us ws))
 rel : ∀ {vs : List V} {us : List Value} {zs : List V} {ws : List Value}, zu vs us -> zu zs ws -> zu (gV vs zs) (g us ws)
variable {g : List Value -> List Value -> List Value} {gV : List V -> List V -> List V}
end
structure zq (N P : List Str) (sc : Scope) : Prop where
 kind : sc.kind = .function
 co : sc.isCoroutine = false
 gen : sc.isGenerator = false
 nd : N.Nodup
 pre : N.take P.length = P
 par : ∀ x ∈ P, sc.names.lookup x = some .local \/ sc.names.lookup x = some .cell
 nofree : ∀ y ∈ sc.names, y.2 ≠ .free
theorem xf {kindOf : Str -> Option NameKind} {x : Str} : ∀ {binds : List (Str × Value)} {m : Str -> Option Value}, (∀ v, (x, v) ∉ binds) -> bindL kindOf binds m x = m x
 | [], _, _ => rfl
 | (n, v) :: r, m, h => by
  unfold bindL
  rw [xf fun w hw => h w (List.mem_cons_of_mem _ hw)]
  split
  ·have : x ≠ n := by rintro rfl; exact h v List.mem_cons_self
   simp [this]
  ·rfl
theorem xp {kindOf : Str -> Option NameKind} {x : Str} : ∀ {binds : List (Str × Value)} {m : Str -> Option Value}, (∀ v, (x, v) ∉ binds) -> bindC kindOf binds m x = m x
 | [], _, _ => rfl
 | (n, v) :: r, m, h => by
  unfold bindC
  rw [xp fun w hw => h w (List.mem_cons_of_mem _ hw)]
  split
  ·rfl
  ·have : x ≠ n := by rintro rfl; exact h v List.mem_cons_self
   simp [this]
theorem kT {kindOf : Str -> Option NameKind} {x : Str} {v : Value} : ∀ {P : List Str} {vs : List Value} {i : Nat} {m : Str -> Option Value}, P.Nodup -> P[i]? = some x -> vs[i]? = some v -> kindOf x = some .local ->
  bindL kindOf (P.zip vs) m x = some v
 | [], _, _, _, _, h, _, _ => by simp at h
 | _ :: _, [], _, _, _, _, h, _ => by simp at h
 | p :: P, w :: vs, 0, m, nd, h1, h2, hk => by
  simp at h1 h2; subst h1; subst h2
  show bindL kindOf ((p, w) :: P.zip vs) m p = _
  unfold bindL
  rw [xf fun v hv => (List.nodup_cons.mp nd).1 (List.of_mem_zip hv).1, if_pos hk]
  simp
 | p :: P, w :: vs, i + 1, m, nd, h1, h2, hk => by
  show bindL kindOf ((p, w) :: P.zip vs) m x = _
  unfold bindL
  exact kT (i := i) (List.nodup_cons.mp nd).2 (by simpa using h1) (by simpa using h2) hk
theorem kZ {kindOf : Str -> Option NameKind} {x : Str} {v : Value} : ∀ {P : List Str} {vs : List Value} {i : Nat} {m : Str -> Option Value}, P.Nodup -> P[i]? = some x -> vs[i]? = some v -> kindOf x ≠ some .local ->
  bindC kindOf (P.zip vs) m x = some v
 | [], _, _, _, _, h, _, _ => by simp at h
 | _ :: _, [], _, _, _, _, h, _ => by simp at h
 | p :: P, w :: vs, 0, m, nd, h1, h2, hk => by
  simp at h1 h2; subst h1; subst h2
  show bindC kindOf ((p, w) :: P.zip vs) m p = _
  unfold bindC
  rw [xp fun v hv => (List.nodup_cons.mp nd).1 (List.of_mem_zip hv).1, if_neg hk]
  simp
 | p :: P, w :: vs, i + 1, m, nd, h1, h2, hk => by
  show bindC kindOf ((p, w) :: P.zip vs) m x = _
  unfold bindC
  exact kZ (i := i) (List.nodup_cons.mp nd).2 (by simpa using h1) (by simpa using h2) hk
def qv (N : List Str) (vs : List V) : St := vs.map some ++ List.replicate (N.length - vs.length) none
def yc (CX : CXT) (P : Program) (w : World) (K : PySem.W.Frag) (mg : Str -> Option Value) (base : Heap) (N : List Str) (qual : Str) (scope : Scope) (f : Addr) (cd : Value) (A : Around) (outer : List Env) (s : Shared) (H : Hp) (E : XK) : Cx where
 prog := P
 w := w
 K := K
 mg := mg
 base := base
 A := A.deeper (envOfC qual scope s.heap.objs.size f cd)
 N := N
 s₀ := s
 H₀ := H
 env := envOfC qual scope s.heap.objs.size f cd
 outer := outer
 stack := envOfC qual scope s.heap.objs.size f cd :: outer
 ex := []
 calm := true
 fn := fun _ => true
 pn := []
 xe := fun e s' => wpAny (model P w) (A.deeper (envOfC qual scope s.heap.objs.size f cd)) (leaving (envOfC qual scope s.heap.objs.size f cd) e) (fun _ s'' => CX outer H s E e s'') (fun e' s'' => CX outer H s E e' s'') s'
theorem y8 {sc : Scope} {n : Nat} {x : Str} (h : sc.names.lookup x = some .cell) : ∃ c, (cellsFrom n sc.names []).lookup x = some c := by
 have q := PySem.W.cellsFrom_some sc.names n [] (.inl h)
 exact Option.isSome_iff_exists.mp q
theorem Zz {CX : CXT} {P : Program} {w : World} {K : PySem.W.Frag} {mg : Str -> Option Value} {base : Heap} {N ps : List Str} {qual : Str} {scope : Scope} {f : Addr} {cd : Value} {A : Around} {outer : List Env} {s s1 : Shared} {H : Hp} {E : XK} {us : List Value} {vs : List V}
    (S : zq N ps scope) (hd : A.handled = none) (e0 : Kb P w K mg base A outer s H) (hl : vs.length = ps.length) (r : zu vs us)
    (x : InCallC s s.heap.objs.size (bindL (envOfC qual scope s.heap.objs.size f cd).kindOf (ps.zip us) fun _ => none) (cellsFrom (s.heap.objs.size + 1) scope.names []) (bindC (envOfC qual scope s.heap.objs.size f cd).kindOf (ps.zip us) fun _ => none) s1) :
    Inv (yc CX P w K mg base N qual scope f cd A outer s H E) [] (qv N vs) H s1 := by
  have hpl : ps.length <= N.length := by have := congrArg List.length S.pre; rw [List.length_take] at this; omega
  obtain ⟨h1, tk, rfl, hk⟩ := x.done
  have noA : ∀ b : Addr, b ∉ (yc CX P w K mg base N qual scope f cd A outer s H E).ex := fun b z => absurd (show b ∈ ([] : List Addr) from z) (by simp)
  refine ⟨⟨e0.mod, S.kind, rfl, rfl, Nat.le_refl _, fun y z c h1 h2 => ?_, fun y hy => ?_, fun y c _ h => ?_, fun _ => hd, Around.frames_deeper e0.frames, .inr ⟨rfl, rfl⟩, fun b z => absurd z (noA b), e0.bs, e0.bsz, fun b _ _ => noA b, fun b z => absurd z (noA b), e0.funs, e0.frf⟩,
    rfl, e0.bare, Un.kept hk, ⟨_, x.toInCall.ns, fun i y v h1 h2 h3 => ?_⟩, fun y c h => ⟨_, x.cell y c h⟩, e0.hok.fresh (Nat.le_refl _), fun y c h => ?_, fun p hp => absurd (show p ∈ ([] : List (Addr × Obj)) from hp) (by simp), e0.hok.kept hk, ?_⟩
  · exact name_of_addr x.apart (PySem.mem_of_lookup h1) (PySem.mem_of_lookup h2)
  · have hy : scope.names.lookup y = some .cell \/ scope.names.lookup y = some .free := hy
    rcases hy with hy | hy
    · exact y8 hy
    · exact absurd rfl (S.nofree _ (PySem.mem_of_lookup hy))
  · exact Nat.le_of_lt (x.above y c (PySem.mem_of_lookup h))
  · have hi : i < vs.length := by
      unfold qv at h2
      by_cases hi : i < vs.length
      · exact hi
      · rw [List.getElem?_append_right (by simpa using hi)] at h2
        rw [List.getElem?_replicate] at h2
        split at h2 <;> cases h2
    have ha : vs[i]? = some v := by
      unfold qv at h2
      rw [List.getElem?_append_left (by simpa using hi), List.getElem?_map] at h2
      cases e : vs[i]? with
      | none => rw [e] at h2; cases h2
      | some a => rw [e] at h2; cases h2; rfl
    obtain ⟨u, hu, rv⟩ := r.get ha
    have hp : ps[i]? = some y := by
      rw [<- S.pre, List.getElem?_take_of_lt (by omega)]; exact h1
    have ndP : ps.Nodup := by rw [<- S.pre]; exact S.nd.sublist (List.take_sublist _ _)
    refine ⟨u, rv, ?_⟩
    rcases S.par y (List.mem_of_getElem? hp) with k | k
    · exact .inl ⟨k, kT ndP hp hu k⟩
    · obtain ⟨c, e⟩ := y8 (n := s.heap.objs.size + 1) k
      refine .inr ⟨.inl k, c, e, ?_⟩
      have q := x.cell y c e
      rw [kZ ndP hp hu (by show scope.names.lookup y ≠ _; rw [k]; decide)] at q
      exact q
  · exact e0.hok.fresh (Nat.le_of_lt (x.above y c (PySem.mem_of_lookup h)))
  · unfold qv
    show _ = N.length
    rw [List.length_append, List.length_map, List.length_replicate]
    omega
theorem Y9 {CX : CXT} {P : Program} {w : World} {K : PySem.W.Frag} {mg : Str -> Option Value} {base : Heap} {k : Nat} {f : Addr} {name qual : Str} {params : Arguments} {body : List Stmt} {scope : Scope} {dV kV doc pm cdv ct oc : Value} {an od : Option Addr}
  {osl : Array (Option Value)} {N ps : List Str} {sp : Sp} (lk : K.lookup f = some ⟨oc, od, .func (PySem.W.fnOf name qual params body scope dV kV doc pm an cdv ct), osl⟩) (hcd : PySem.W.codeIn K cdv qual = true) (S : zq N ps scope)
  (len : ∀ vs H Q E, sp vs H Q E -> vs.length = ps.length)
  (hbody : ∀ (A : Around) (outer : List Env) (s : Shared) (H : Hp) (vs : List V) (Q : VK) (E : XK), qC k (A.deeper (envOfC qual scope s.heap.objs.size f cdv)) -> sp vs H Q E ->
   ∃ t, PSs (yc CX P w K mg base N qual scope f cdv A outer s H E) body t /\ t { nx := fun _ H' => Q .non H', rt := Q } (qv N vs) H) :
  jn P w K mg base CX (k + 1) f (PySem.W.fnOf name qual params body scope dV kV doc pm an cdv ct) ps sp := by
 refine ⟨len, fun A outer s H args us vs Q E hr e0 hb r hsp => ?_⟩
 have hl := len _ _ _ _ hsp
 have KX : K.In s.heap := e0.mod.kin.keeps fun b o e => (e0.bs b o e).1
 have lim : s.heap.NoLimit := e0.mod.nolimit.keeps fun b o e => (e0.bs b o e).1
 have hkind : ∀ y ∈ ps.zip us, scope.names.lookup y.1 = some .local \/ (scope.names.lookup y.1 = some .cell /\ ((cellsFrom (s.heap.objs.size + 1) scope.names []).lookup y.1).isSome = true) := fun ⟨n, v⟩ hy => by
  rcases S.par n (List.of_mem_zip hy).1 with q | q
  ·exact .inl q
  ·exact .inr ⟨q, PySem.W.cellsFrom_some _ _ _ (.inl q)⟩
 refine codeAny_call_function hr.depth (KX _ _ lk) rfl S.co S.gen rfl (PySem.W.codeRec_of KX hcd) (hb _ _ _ _ ?_)
 refine wpAny_newFunctionEnv_cells S.kind hkind fun env he s1 x => ?_
 subst he
 refine ⟨lim.keeps x.toInCall.keep, codeAny_func ?_⟩
 obtain ⟨t, ht, hq⟩ := hbody A outer s H vs Q E (hr.deeper _) hsp
 have I : Inv (yc CX P w K mg base N qual scope f cdv A outer s H E) [] (qv N vs) H s1 := Zz S hr.hd e0 hl r x
 refine wpAny_mono (ht [] s1 (qv N vs) H _ I hq) (fun fl s' hs => ?_) fun e s' hs => hs
 have fin : ∀ {σ' : St} {H' : Hp} {v : V} {u : Value}, Inv (yc CX P w K mg base N qual scope f cdv A outer s H E) [] σ' H' s' -> zy v u -> Q v H' -> CE outer P w H s Q u s' :=
  fun {σ' H' v u} J rv q => ⟨v, H', J.os, J.bare, J.base, J.hok, rv, q⟩
 cases fl with
 | ret u =>
  obtain ⟨v, σ', H', J, rv, q⟩ := hs
  exact fin J rv q
 | next =>
  obtain ⟨σ', H', J, q⟩ := hs
  exact fin (v := V.non) (u := Value.none) J rfl q
 | brk =>
  obtain ⟨_, _, _, q⟩ := hs
  exact False.elim q
 | cont =>
  obtain ⟨_, _, _, q⟩ := hs
  exact False.elim q
end L2
namespace L2
open PySem PySem.Spec PyProof.Rows
section
variable {X : Cx} {x : Str} {p pos : Pos} {e : Expr} {es : List Expr} {t : TA} {id T : String} {r : List V -> Hp -> VK -> Prop}
def tCB (r : List V -> Hp -> VK -> Prop) (t : TA) : TE := fun σ H Q => t σ H fun vs H1 => r vs H1 Q
theorem zW (hc : qA X (.builtin id) r) (hg : Gl X x) (hm : X.mg x = none) (hv : bootBuiltins x = some (.builtin id)) (ha : PA X (e :: es) t) (hn : x ≠ "__name__" := by decide) (hdb : (x == ("__debug__" : Str)) = false := by decide)
  (he : starEach (e :: es) X.env = (false, eval e X.env) :: starEach es X.env := by rfl) (hpl : (backTo pos (starEach es X.env)).any (·.1) = false := by rfl) : PE X (.Call (.Name x p) (e :: es) [] pos) (tCB r t) := by
 intro pins s σ H Q I h
 refine wpAny_Call_Name_kw (kA I hg hm hv ?_ hn hdb)
 exact PyProof.Rows.callWith_builtin1 (thn (ha pos pins s σ H _ I h) fun us s1 ⟨vs, H1, I1, r1, q1⟩ => hc pins s1 σ H1 vs us Q I1 r1 q1) he hpl
theorem zP (hc : qA X (.type T) r) (hg : Gl X x) (hm : X.mg x = none) (hv : bootBuiltins x = some (.type T)) (ha : PA X (e :: es) t) (hn : x ≠ "__name__" := by decide) (hdb : (x == ("__debug__" : Str)) = false := by decide)
  (he : starEach (e :: es) X.env = (false, eval e X.env) :: starEach es X.env := by rfl) (hpl : (backTo pos (starEach es X.env)).any (·.1) = false := by rfl) : PE X (.Call (.Name x p) (e :: es) [] pos) (tCB r t) := by
 intro pins s σ H Q I h
 refine wpAny_Call_Name_kw (kA I hg hm hv ?_ hn hdb)
 exact PyProof.Rows.callWith_type1 (thn (ha pos pins s σ H _ I h) fun us s1 ⟨vs, H1, I1, r1, q1⟩ => hc pins s1 σ H1 vs us Q I1 r1 q1) he hpl
end
end L2
namespace HT
open PySem PyProof.Rows
section
open PySem.SeqAt
open PySem.AutoSeq1 (wpAny_loadPart')
open PySem.MeetsSeq PySem.MeetsSeq2 PySem.MeetsSeq3
end
section
variable {prog : Program} {w : World} {A : Around} {E : Value -> Shared -> Prop} {s : Shared}
def sIx (n d : Nat) : Option Int -> Nat
 | none => d
 | some v => if v < 0 then (v + (n : Int)).toNat else min v.toNat n
theorem sIx_none (n d : Nat) : sIx n d none = d := rfl
theorem sIx_nat (n d k : Nat) : sIx n d (some (k : Int)) = min k n := by
 show (if (k : Int) < 0 then ((k : Int) + (n : Int)).toNat else min (k : Int).toNat n) = min k n
 rw [if_neg (by omega), Int.toNat_natCast]
end
end HT
namespace L2
open PySem PySem.Spec PyProof.Rows
abbrev TO := St -> Hp -> (Option Int -> Hp -> Prop) -> Prop
def PO (X : Cx) (e : Option Expr) (t : TO) : Prop :=
 ∀ (pins : List (Addr × Obj)) (s : Shared) (σ : St) (H : Hp) (Q : Option Int -> Hp -> Prop), Inv X pins σ H s -> t σ H Q ->
  wpAny (model X.prog X.w) X.A (evalPart e X.env) (fun u s' => ∃ o H', Inv X pins σ H' s' /\ IsPart u o /\ Q o H') X.xe s
def v5 : TO := fun _ H Q => Q none H
def KP (t : TE) : TO := fun σ H Q => t σ H fun x H1 => ∃ i, x = .int i /\ Q (some i) H1
section
variable {X : Cx} {e : Expr} {te : TE} {lo hi : Option Expr} {tl th : TO} {pos p2 : Pos}
theorem JU : PO X none v5 := by
 intro pins s σ H Q I h
 rw [evalPart_none]
 exact wpAny_pure ⟨none, H, I, .none, h⟩
theorem xV (h : PE X e te) : PO X (some e) (KP te) := by
 intro pins s σ H Q I hw
 rw [evalPart_some]
 refine thn (h pins s σ H _ I hw) fun u s1 ⟨x, H1, I1, r1, q1⟩ => ?_
 obtain ⟨i, rfl, q⟩ := q1
 obtain ⟨t, rfl⟩ := r1
 exact ⟨some i, H1, I1, .int i t, q⟩
def SlR (X : Cx) (r : V -> Option Int -> Option Int -> Hp -> VK -> Prop) : Prop :=
 ∀ (pins : List (Addr × Obj)) (s : Shared) (σ : St) (H : Hp) (x : V) (v vl vu : Value) (lo hi : Option Int) (sl : Addr) (Q : VK), Inv X pins σ H s -> zy x v -> s.heap.IsSliceOf sl vl vu .none -> IsPart vl lo -> IsPart vu hi -> r x lo hi H Q ->
  ∃ T id, typeLookup (.type T) "__getitem__" = pure (some (.builtin id)) /\ s.TypeIs v T /\ wpAny (model X.prog X.w) X.A (getItem v (.ref sl)) (EP X pins σ Q) X.xe s
def tSl (r : V -> Option Int -> Option Int -> Hp -> VK -> Prop) (te : TE) (tl th : TO) : TE := fun σ H Q => te σ H fun x H1 => tl σ H1 fun l H2 => th σ H2 fun u H3 => r x l u H3 Q
theorem yT {r : V -> Option Int -> Option Int -> Hp -> VK -> Prop} (hr : SlR X r) (he : PE X e te) (hl : PO X lo tl) (hu : PO X hi th) : PE X (.Subscript e (.Slice lo hi none p2) pos) (tSl r te tl th) := by
 intro pins s σ H Q I h
 refine Subscript_ (thn (he pins s σ H _ I h) fun v s1 ⟨x, H1, I1, r1, q1⟩ => ?_)
 refine wpAny_Slice (thn (hl pins s1 σ H1 _ I1 q1) fun vl s2 ⟨l, H2, I2, pl, q2⟩ => thn (hu pins s2 σ H2 _ I2 q2) fun vu s3 ⟨u, H3, I3, pu, q3⟩ => ?_)
 rw [evalPart_none]
 refine wpAny_pure ?_
 have I4 : Inv X pins σ H3 { s3 with heap := s3.heap.push { cls := .type "slice", data := .fields #[vl, vu, .none] } } := I3.kept (t' := s3.toks) fun b ob q => Heap.get?_push_of_some _ q
 obtain ⟨T, id, hT, ht, hg⟩ := hr pins { s3 with heap := s3.heap.push { cls := .type "slice", data := .fields #[vl, vu, .none] } } σ H3 x v vl vu l u s3.heap.objs.size Q I4 r1 (Heap.IsSliceOf.new ..) pl pu q3
 show wpAny (model X.prog X.w) X.A (subscriptTail e (.Slice lo hi none p2) v (.ref s3.heap.objs.size)) (EP X pins σ Q) X.xe { s3 with heap := s3.heap.push { cls := .type "slice", data := .fields #[vl, vu, .none] } }
 exact tail_any (ops := [.ref s3.heap.objs.size, v]) ht hT hg (by with_unfolding_all rfl)
def wB (xs : List V) (lo hi : Option Int) : List V := (xs.drop (HT.sIx xs.length 0 lo)).take (HT.sIx xs.length xs.length hi - HT.sIx xs.length 0 lo)
theorem yt (xs : List V) (lo hi : Option Int) : (wB xs lo hi).length <= xs.length := by
 unfold wB
 rw [List.length_take, List.length_drop]
 omega
end
end L2
namespace L2
open PySem PySem.Spec PyProof.Rows
def ixN (n : Nat) (i : Int) : Option Nat := if 0 <= i then (if i < n then some i.toNat else none) else if -(n : Int) <= i then some (i + n).toNat else none
def atI {α : Type} (xs : List α) (i : Int) : Option α := (ixN xs.length i).bind fun j => xs[j]?
theorem vY {n : Nat} {i : Int} {j : Nat} (h : ixN n i = some j) : seqIndex? i n = some j /\ j < n /\ -(n : Int) <= i /\ i < n := by
 unfold ixN at h
 by_cases h0 : 0 <= i
 ·rw [if_pos h0] at h
  by_cases h1 : i < n
  ·rw [if_pos h1] at h
   have e : i.toNat = j := Option.some.inj h
   exact ⟨by rw [seqIndex_of h0 h1, e], by omega, by omega, h1⟩
  ·rw [if_neg h1] at h; cases h
 ·rw [if_neg h0] at h
  by_cases h1 : -(n : Int) <= i
  ·rw [if_pos h1] at h
   have e : (i + n).toNat = j := Option.some.inj h
   exact ⟨by rw [seqIndex_neg (by omega) h1, e], by omega, h1, by omega⟩
  ·rw [if_neg h1] at h; cases h
theorem wo {α : Type} {xs : List α} {i : Int} {v : α} (h : atI xs i = some v) : ∃ j, seqIndex? i xs.length = some j /\ xs[j]? = some v /\ j < xs.length /\ -(xs.length : Int) <= i /\ i < xs.length := by
 unfold atI at h
 cases e : ixN xs.length i with
 | none => rw [e] at h; cases h
 | some j =>
  rw [e] at h
  obtain ⟨h1, h2, h3, h4⟩ := vY e
  exact ⟨j, h1, h, h2, h3, h4⟩
theorem Kk {α : Type} {xs : List α} {j : Nat} {v : α} (h : xs[j]? = some v) : atI xs (j : Int) = some v := by
 have hj : j < xs.length := (List.getElem?_eq_some_iff.mp h).1
 have e : ixN xs.length (j : Int) = some j := by
  unfold ixN
  rw [if_pos (by omega), if_pos (by omega)]; simp
 unfold atI; rw [e]; exact h
def J2 (b : Expr) : Prop := ∀ o i, subscripted b false o i = operate [o, i] (getItem o i)
def IxR (X : Cx) (r : R2) : Prop :=
 ∀ (value slice : Expr) (pins : List (Addr × Obj)) (s : Shared) (σ : St) (H : Hp) (x y : V) (v u : Value) (Q : VK), Inv X pins σ H s -> zy x v -> zy y u -> r x y H Q ->
  subscripted slice false v u = operate [v, u] (getItem v u) -> wpAny (model X.prog X.w) X.A (subscriptTail value slice v u) (EP X pins σ Q) X.xe s
def MtR (X : Cx) (id : String) (r : V -> List V -> Hp -> VK -> Prop) : Prop :=
 ∀ (pins : List (Addr × Obj)) (s : Shared) (σ : St) (H : Hp) (x : V) (xs : List V) (v : Value) (us : List Value) (Q : VK), Inv X pins σ H s -> zy x v -> zu xs us -> r x xs H Q ->
  wpAny (model X.prog X.w) X.A (call (.builtin id) (v :: us)) (EP X pins σ Q) X.xe s
section
variable {X : Cx} {a b : Expr} {ta tb : TE} {pos : Pos}
theorem zQ {r : R2} (hr : IxR X r) (ha : PE X a ta) (hb : PE X b tb) (hs : J2 b) : PE X (.Subscript a b pos) (tOp r ta tb) := by
 intro pins s σ H Q I h
 exact Subscript_ (Ye ha hb I h fun v u s2 x y H2 I2 rx ry q => hr a b pins s2 σ H2 x y v u Q I2 rx ry q (hs _ _))
def VS (K : PySem.W.Frag) : R2 := fun x y H Q => ∃ p xs i v, x = .ref p /\ y = .int i /\ SqL K H p xs /\ atI xs i = some v /\ Q v H
def Vj (K : PySem.W.Frag) : R2 := fun x y H Q => ∃ p xs i v, x = .ref p /\ y = .int i /\ SqT K H p xs /\ atI xs i = some v /\ Q v H
theorem zT : IxR X (VS X.K) := by
  intro value slice pins s σ H x y v u Q I rx ry h hs
  obtain ⟨p, xs, i, z, rfl, rfl, hq, he, q⟩ := h
  cases rx
  obtain ⟨t, rfl⟩ := ry
  obtain ⟨its, r, pl, hz⟩ := I.list hq
  obtain ⟨j, h1, h2, h3, h4, h5⟩ := wo he
  obtain ⟨w, ew, rw'⟩ := r.get h2
  have hl := r.length
  have hn := xD
  have fin : EP X pins σ Q w s := ⟨z, H, I, rw', q⟩
  by_cases h0 : 0 <= i
  · have hj : i.toNat = j := by
      rw [seqIndex_of h0 h5] at h1
      exact Option.some.inj h1
    exact item_listR pl.isList h0 (by omega) (by rw [hj]; simpa using ew) fin hs
  · have hj : (i + (its.toArray.size : Int)).toNat = j := by
      rw [seqIndex_neg (by omega) h4] at h1
      rw [List.size_toArray, <- hl]
      exact Option.some.inj h1
    exact subscriptTail_builtinR (x := w) pl.isList.typeIs slot_list_getitem.lookup
      (wpAny_getItem_list_neg (Q := fun r s' => r = w /\ EP X pins σ Q r s') pl.isList (by omega) (by rw [List.size_toArray] <;> omega) (by omega) (by rw [hj]; simpa using ew) ⟨rfl, fin⟩) hs
theorem XU : IxR X (Vj X.K) := by
 intro value slice pins s σ H x y v u Q I rx ry h hs
 obtain ⟨p, xs, i, z, rfl, rfl, hq, he, q⟩ := h
 cases rx
 obtain ⟨t, rfl⟩ := ry
 obtain ⟨its, r, pl, hz⟩ := I.tuple hq
 obtain ⟨j, h1, h2, h3, h4, h5⟩ := wo he
 obtain ⟨w, ew, rw'⟩ := r.get h2
 have hl := r.length
 have hn := xD
 have fin : EP X pins σ Q w s := ⟨z, H, I, rw', q⟩
 exact subscriptTail_builtinR (x := w) pl.typeIs slot_tuple_getitem.lookup
  (getItem_tuple (j := j) (Q := fun r s' => r = w /\ EP X pins σ Q r s') pl (by omega) (by omega) (by rw [List.size_toArray, <- hl]; exact h1) (by simpa using ew) ⟨rfl, fin⟩) hs
theorem vM (its : List Value) (n j : Nat) (u : Value) : Obj.mapSeq (·.setIfInBounds j u) { cls := .type "list", data := .seq its.toArray n } = { cls := .type "list", data := .seq (its.set j u).toArray n } := by
 simp [Obj.mapSeq]
theorem Inv.lst {pins : List (Addr × Obj)} {σ : St} {H : Hp} {s : Shared} {p : Addr} {xs : List V} (I : Inv X pins σ H s) (h : H p = some (.lst xs)) :
  ∃ (its : List Value) (n : Nat), zu xs its /\ s.heap.get? p = some { cls := .type "list", data := .seq its.toArray n } /\ xs.length <= sizeLine := by
 obtain ⟨z, its, n, r, e⟩ := I.hok p _ h
 exact ⟨its, n, r, e, z⟩
theorem Inv.lstUpd {pins : List (Addr × Obj)} {σ : St} {H : Hp} {s : Shared} {p : Addr} {xs ys : List V} {its its' : List Value} {n n' : Nat} {f : Obj -> Obj} (I : Inv X pins σ H s) (h : H p = some (.lst xs))
  (ho : s.heap.get? p = some { cls := .type "list", data := .seq its.toArray n }) (hf : f { cls := .type "list", data := .seq its.toArray n } = { cls := .type "list", data := .seq its'.toArray n' }) (r : zu ys its') (hz : ys.length <= sizeLine) (t : Nat) :
  Inv X pins σ (upd H p (.lst ys)) { s with heap := s.heap.update p f, toks := t } := by
 have e : (s.heap.update p f).get? p = some { cls := .type "list", data := .seq its'.toArray n' } := by
  rw [Heap.get?_update_self f ho (by rw [hf] <;> rfl), hf]
 refine I.write (x := p) (e := p) (by rw [h]; trivial) (.inl rfl) (fun b u hb q => (Heap.get?_update_other _ _ (Ne.symm hb)).trans q) ⟨_, e⟩ ?_
 exact ⟨hz, its', n', r, e⟩
def KQ : V -> V -> V -> Hp -> (Hp -> Prop) -> Prop := fun o i v H Q => ∃ p xs k j, o = .ref p /\ i = .int k /\ H p = some (.lst xs) /\ ixN xs.length k = some j /\ Q (upd H p (.lst (xs.set j v)))
theorem Jj : YN X KQ := by
  intro pins s σ H o i v ov iv u Q I ro ri rv h
  obtain ⟨p, xs, k, j, rfl, rfl, hp, hj, q⟩ := h
  cases ro
  obtain ⟨t, rfl⟩ := ri
  obtain ⟨its, n, r, ho, hz⟩ := I.lst hp
  obtain ⟨h1, h2, h3, h4⟩ := vY hj
  have hl := r.length
  have hn := xD
  have I' : Inv X pins σ (upd H p (.lst (xs.set j v))) { s with heap := s.heap.update p (Obj.mapSeq (·.setIfInBounds j u)) } :=
    I.lstUpd hp ho (vM its n j u) (r.set rv j) (by rw [List.length_set]; exact hz) s.toks
  by_cases h0 : 0 <= k
  · have hk : k.toNat = j := by
      rw [seqIndex_of h0 h4] at h1
      exact Option.some.inj h1
    exact PySem.W.ki_setAt ho h0 (by omega) (by rw [List.size_toArray, <- hl]; exact h4) (by rw [hk]; exact ⟨_, I', q⟩)
  · have hk : (k + (its.toArray.size : Int)).toNat = j := by
      rw [seqIndex_neg (by omega) h3] at h1
      rw [List.size_toArray, <- hl]
      exact Option.some.inj h1
    exact PySem.W.ki_setBack ho (by omega) (by rw [List.size_toArray, <- hl]; exact h3) (by omega) (by rw [hk]; exact ⟨_, I', q⟩)
theorem xZ (lo hi : Option Int) (n : Nat) : (sliceBounds lo hi none n).1 = ((HT.sIx n 0 lo : Nat) : Int) /\ (sliceBounds lo hi none n).2.1 = ((HT.sIx n n hi : Nat) : Int) /\ (sliceBounds lo hi none n).2.2 = 1 := by
 refine ⟨?_, ?_, rfl⟩
 ·cases lo with
  | none => simp [sliceBounds, HT.sIx]
  | some i =>
   simp only [sliceBounds, HT.sIx, Option.getD_none, show (1 : Int) > 0 by decide, if_true]
   by_cases h : i < 0
   ·simp only [h, if_true] <;> omega
   ·simp only [h, if_false] <;> omega
 ·cases hi with
  | none => simp [sliceBounds, HT.sIx]
  | some i =>
   simp only [sliceBounds, HT.sIx, Option.getD_none, show (1 : Int) > 0 by decide, if_true]
   by_cases h : i < 0
   ·simp only [h, if_true] <;> omega
   ·simp only [h, if_false] <;> omega
theorem kQ (its : List Value) (lo hi : Option Int) : slicePick its.toArray lo hi none = ((its.drop (HT.sIx its.length 0 lo)).take (HT.sIx its.length its.length hi - HT.sIx its.length 0 lo)).toArray := by
 obtain ⟨h1, h2, h3⟩ := xZ lo hi its.toArray.size
 unfold slicePick
 rw [h1, h2, h3]
 simp only [sliceRange_one, pick_run, List.size_toArray] <;> rfl
def Y8 (K : PySem.W.Frag) : V -> Option Int -> Option Int -> Hp -> VK -> Prop := fun x lo hi H Q => ∃ a xs, x = .ref a /\ SqL K H a xs /\ ∀ p, H p = none -> Q (.ref p) (upd H p (.lst (wB xs lo hi)))
theorem wd : SlR X (Y8 X.K) := by
 intro pins s σ H x v vl vu lo hi sl Q I rx hs pl pu h
 obtain ⟨a, xs, rfl, hx, q⟩ := h
 cases rx
 obtain ⟨its, r, ht, hz⟩ := I.list hx
 have hlen := r.length
 refine ⟨"list", _, slot_list_getitem.lookup, ht.isList.typeIs, ?_⟩
 refine wpAny_getItem_list_slice ht.isList hs pl pu .none (by simp) ?_ (by rw [List.size_toArray] <;> omega)
 rw [kQ, <- hlen]
 refine ⟨.ref s.heap.objs.size, _, I.laid (t' := s.toks) (o := .lst (wB xs lo hi)) (fun b ob q => Heap.get?_push_of_some _ q) (Nat.le_refl _) ?_, rfl, q _ (I.hok.fresh (Nat.le_refl _))⟩
 exact ⟨Nat.le_trans (yt xs lo hi) hz, _, 0, (r.drop (HT.sIx xs.length 0 lo)).take (HT.sIx xs.length xs.length hi - HT.sIx xs.length 0 lo), Heap.get?_push_size _ rfl⟩
def xk : V -> Bool
 | .non => true
 | .bl _ => true
 | .int _ => true
 | .str _ => true
 | _ => false
def eqV : V -> V -> Bool
 | .non, .non => true
 | .bl a, .bl b => a == b
 | .bl a, .int b => (if a then 1 else 0) == b
 | .int a, .bl b => a == (if b then 1 else 0)
 | .int a, .int b => a == b
 | .str a, .str b => a == b
 | _, _ => false
theorem X8 {A : Around} {s : Shared} {y x : V} {u v : Value} (ry : zy y u) (rx : zy x v) (fy : xk y = true) (fx : xk x = true) : SeqAt.EqAt A s u v (eqV y x) := by
 cases y with
 | non =>
  cases ry
  cases x with
  | non => cases rx; exact SeqAt.EqAt.same _
  | bl b => cases rx; exact SeqAt.EqAt.none_bool b
  | int b => obtain ⟨t, rfl⟩ := rx; exact SeqAt.EqAt.none_int b t
  | str b => obtain ⟨t, rfl⟩ := rx; exact SeqAt.EqAt.none_str b t
  | _ => exact absurd (show false = true from fx) Bool.false_ne_true
 | bl a =>
  cases ry
  cases x with
  | non => cases rx; exact SeqAt.EqAt.bool_none a
  | bl b => cases rx; exact SeqAt.EqAt.bool_bool a b
  | int b => obtain ⟨t, rfl⟩ := rx; exact SeqAt.EqAt.bool_int a b t
  | str b => obtain ⟨t, rfl⟩ := rx; exact SeqAt.EqAt.bool_str a b t
  | _ => exact absurd (show false = true from fx) Bool.false_ne_true
 | int a =>
  obtain ⟨t', rfl⟩ := ry
  cases x with
  | non => cases rx; exact SeqAt.EqAt.int_none a t'
  | bl b => cases rx; exact SeqAt.EqAt.int_bool a t' b
  | int b => obtain ⟨t, rfl⟩ := rx; exact SeqAt.EqAt.int_int a t' b t
  | str b => obtain ⟨t, rfl⟩ := rx; exact SeqAt.EqAt.int_str a t' b t
  | _ => exact absurd (show false = true from fx) Bool.false_ne_true
 | str a =>
  obtain ⟨t', rfl⟩ := ry
  cases x with
  | non => cases rx; exact SeqAt.EqAt.str_none a t'
  | bl b => cases rx; exact SeqAt.EqAt.str_bool a t' b
  | int b => obtain ⟨t, rfl⟩ := rx; exact SeqAt.EqAt.str_int a t' b t
  | str b => obtain ⟨t, rfl⟩ := rx; exact SeqAt.EqAt.str_str a t' b t
  | _ => exact absurd (show false = true from fx) Bool.false_ne_true
 | _ => exact absurd (show false = true from fy) Bool.false_ne_true
def eqU (x : V) (u : Value) : Bool := match u with
 | .none => eqV .non x
 | .bool b => eqV (.bl b) x
 | .int i _ => eqV (.int i) x
 | .str z _ => eqV (.str z) x
 | _ => false
theorem YF {x y : V} {u : Value} (r : zy y u) (f : xk y = true) : eqU x u = eqV y x := by
 cases y with
 | non => cases r; rfl
 | bl b => cases r; rfl
 | int i => obtain ⟨t, rfl⟩ := r; rfl
 | str z => obtain ⟨t, rfl⟩ := r; rfl
 | _ => exact absurd (show false = true from f) Bool.false_ne_true
theorem yR {A : Around} {s : Shared} {x : V} {v : Value} (rx : zy x v) (fx : xk x = true) : ∀ {xs : List V} {us : List Value}, zu xs us -> xs.all xk = true -> ∀ u ∈ us, SeqAt.EqAt A s u v (eqU x u)
 | _, _, .nil, _ => fun u hu => by cases hu
 | y :: xs, u :: us, .cons r t, f => fun u' hu => by
  rw [List.all_cons, Bool.and_eq_true] at f
  rcases List.mem_cons.mp hu with rfl | hu
  ·rw [YF r f.1]; exact X8 r rx f.1 fx
  ·exact yR rx fx t f.2 u' hu
theorem zX : qA X (.builtin "len") (fun xs H Q => ∃ p ys, xs = [.ref p] /\ (SqL X.K H p ys \/ SqT X.K H p ys) /\ Q (.int ys.length) H) := by
 intro pins s σ H xs us Q I r h
 obtain ⟨p, ys, rfl, hq, q⟩ := h
 obtain ⟨u, rfl, rx⟩ := jq r
 cases rx
 have hn := xD
 rcases hq with hq | hq
 ·obtain ⟨its, r', pl, hz⟩ := I.list hq
  have hlen := r'.length
  exact Calls.call_len_list pl.isList (by simp only [List.size_toArray] <;> omega) ⟨.int ys.length, H, I.tok _, ⟨s.toks + 1, by rw [List.size_toArray, hlen]⟩, q⟩
 ·obtain ⟨its, r', pl, hz⟩ := I.tuple hq
  have hlen := r'.length
  exact len_tuple pl (by simp only [List.size_toArray] <;> omega) ⟨.int ys.length, H, I.tok _, ⟨s.toks + 1, by rw [List.size_toArray, hlen]⟩, q⟩
theorem xR : qA X (.type "list") (fun xs H Q => ∃ p ys, xs = [.ref p] /\ (SqL X.K H p ys \/ SqT X.K H p ys) /\ ∀ l, H l = none -> Q (.ref l) (upd H l (.lst ys))) := by
 intro pins s σ H xs us Q I r h
 obtain ⟨p, ys, rfl, hq, q⟩ := h
 obtain ⟨u, rfl, rx⟩ := jq r
 cases rx
 have fin : ∀ (its : List Value), zu ys its -> ys.length <= sizeLine -> ∀ (h' : Heap) (c' : Nat), (∀ b o', s.heap.get? b = some o' -> h'.get? b = some o') ->
   h'.get? s.heap.objs.size = some { cls := .type "list", dict := none, data := .seq its.toArray c', slots := #[] } -> EP X pins σ Q (.ref s.heap.objs.size) { s with heap := h' } := fun its r' hz h' c' kp e =>
  ⟨.ref s.heap.objs.size, _, I.laid (t' := s.toks) kp (Nat.le_refl _) (show qd X.prog X.w _ h' _ (.lst ys) from ⟨hz, its, c', r', e⟩), rfl, q _ (I.hok.fresh (Nat.le_refl _))⟩
 rcases hq with hq | hq
 ·obtain ⟨its, r', pl, hz⟩ := I.list hq
  have hlen := r'.length
  obtain ⟨o, ho, hc, n, hd⟩ := pl.isList
  exact call_list_seq p (.inl rfl) ho hc hd (fun h' c' kp e => fin its r' hz h' c' kp e) (by simp only [List.size_toArray] <;> omega)
 ·obtain ⟨its, r', pl, hz⟩ := I.tuple hq
  have hlen := r'.length
  obtain ⟨o, ho, hc, n, hd⟩ := pl
  exact call_list_seq p (.inr rfl) ho hc hd (fun h' c' kp e => fin its r' hz h' c' kp e) (by simp only [List.size_toArray] <;> omega)
theorem qj : qA X (.type "tuple") (fun xs H Q => ∃ p ys, xs = [.ref p] /\ ((SqL X.K H p ys /\ ∀ l, H l = none -> Q (.ref l) (upd H l (.tup ys))) \/ (SqT X.K H p ys /\ Q (.ref p) H))) := by
 intro pins s σ H xs us Q I r h
 obtain ⟨p, ys, rfl, h⟩ := h
 obtain ⟨u, rfl, rx⟩ := jq r
 cases rx
 rcases h with ⟨hq, q⟩ | ⟨hq, q⟩
 ·obtain ⟨its, r', pl, hz⟩ := I.list hq
  have hlen := r'.length
  refine call_tuple_list pl.isList (fun h' kp => ?_) (by simp only [List.size_toArray] <;> omega)
  have I1 : Inv X pins σ H { s with heap := h' } := I.kept (t' := s.toks) kp
  have I2 : Inv X pins σ (upd H h'.objs.size (.tup ys)) { s with heap := h'.push { cls := .type "tuple", data := .seq its.toArray } } :=
   I1.laid (t' := s.toks) (fun b o e => Heap.get?_push_of_some _ e) (Nat.le_refl _) (show qd X.prog X.w _ _ _ (.tup ys) from ⟨hz, its, r', yV.new _ _⟩)
  exact ⟨.ref h'.objs.size, _, I2, rfl, q _ (I1.hok.fresh (Nat.le_refl _))⟩
 ·obtain ⟨its, r', pl, hz⟩ := I.tuple hq
  exact call_tuple_same pl ⟨.ref p, H, I, rfl, q⟩
def tyV (K : PySem.W.Frag) (T : String) (x : V) (H : Hp) : Prop := match x with
  | .str _ => T = "str"
  | .int _ => T = "int"
  | .ref p => (T = "list" /\ ∃ xs, SqL K H p xs) \/ (T = "tuple" /\ ((∃ xs, Rd H p (.tup xs)) \/ ∃ o, K.lookup p = some o /\ o.cls = .type "tuple" /\ o.dict = none)) \/
      (T = "dict" /\ ((∃ kvs, H p = some (.dK kvs)) \/ ∃ kvs, H p = some (.dT kvs))) \/ (T = "set" /\ ∃ S n, H p = some (.set S n))
  | _ => False
theorem XZ {pins : List (Addr × Obj)} {σ : St} {H : Hp} {s : Shared} {T : String} {x : V} {v : Value} (I : Inv X pins σ H s) (r : zy x v) (ty : tyV X.K T x H) :
    s.TypeIs v T /\ ∀ a, v = .ref a -> ∃ ob, s.heap.get? a = some ob /\ ob.dict = none := by
  cases x with
  | str z =>
    obtain ⟨t, rfl⟩ := r
    cases (show T = "str" from ty)
    exact ⟨typeIs_str s z t, fun _ e => nomatch e⟩
  | int i =>
    obtain ⟨t, rfl⟩ := r
    cases (show T = "int" from ty)
    exact ⟨typeIs_int s i t, fun _ e => nomatch e⟩
  | ref p =>
    cases r
    rcases ty with ⟨rfl, xs, hq⟩ | ⟨rfl, ⟨xs, hx⟩ | ⟨o, hk, hc, hd⟩⟩ | ⟨rfl, hk⟩ | ⟨rfl, S, n, hk⟩
    · obtain ⟨its, _, pl, _⟩ := I.list hq
      refine ⟨pl.isList.typeIs, fun a e => ?_⟩
      cases e
      obtain ⟨o, n, e, c, hd, _⟩ := pl
      exact ⟨o, e, hd⟩
    · obtain ⟨_, its, _, o, e, c, _, hd⟩ := hx.ok I.hok
      refine ⟨⟨o, e, c⟩, fun a e2 => ?_⟩
      cases e2
      exact ⟨o, e, hd⟩
    · refine ⟨⟨o, I.kIn p o hk, hc⟩, fun a e => ?_⟩
      cases e
      exact ⟨o, I.kIn _ o hk, hd⟩
    · have z : ∃ o, s.heap.get? p = some o /\ o.ExactDict := by
        rcases hk with ⟨kvs, hk⟩ | ⟨kvs, hk⟩
        · obtain ⟨_, _, _, _, o, _, _, e, ex, _⟩ := I.hok p _ hk
          exact ⟨o, e, ex⟩
        · obtain ⟨_, _, _, _, o, _, _, e, ex, _⟩ := I.hok p _ hk
          exact ⟨o, e, ex⟩
      obtain ⟨o, e, ex⟩ := z
      refine ⟨⟨o, e, ex.1⟩, fun a e2 => ?_⟩
      cases e2
      exact ⟨o, e, ex.2.1⟩
    · obtain ⟨o, _, _, _, e, ex, _⟩ := I.hok p _ hk
      refine ⟨⟨o, e, ex.1⟩, fun a e2 => ?_⟩
      cases e2
      exact ⟨o, e, ex.2.1⟩
  | _ => exact False.elim ty
def tBM (K : PySem.W.Frag) (T : String) (r : V -> List V -> Hp -> VK -> Prop) (to : TE) (t : TA) : TE := fun σ H Q => to σ H fun x H1 => tyV K T x H1 /\ t σ H1 fun xs H2 => r x xs H2 Q
variable {o e : Expr} {es : List Expr} {to : TE} {t : TA} {name : Str} {apos cpos : Pos} {T id : String} {r : V -> List V -> Hp -> VK -> Prop}
theorem Va (pa : PlainAttrs T) (slot : Slot T name id) (hty : typeOf (.builtin id) = pure (.type "method_descriptor")) (hm : MtR X id r) (ho : PE X o to) (ha : PA X (e :: es) t)
  (hbase : attributeBase o name X.env (eval o X.env) = eval o X.env := by rfl)
  (hfew : ((backTo cpos (starEach (e :: es) X.env)).all (fun x => !x.1) && (backToKw cpos (keywordEach [] X.env)).all (fun x => x.1.isSome)
   && decide ((e :: es).length + ([] : List Keyword).length + (if ([] : List Keyword).isEmpty then 0 else 1) < 30)) = true := by rfl)
  (hline : (apos.endLine == cpos.line) = true := by rfl) (hs : starEach (e :: es) X.env = (false, eval e X.env) :: starEach es X.env := by rfl) (hplain : (backTo cpos (starEach es X.env)).any (·.1) = false := by rfl) :
  PE X (.Call (.Attribute o name apos) (e :: es) [] cpos) (tBM X.K T r to t) := by
 intro pins s σ H Q I h
 refine wpAny_Call_method_late hbase hfew hline rfl (thn (ho pins s σ H _ I h) fun v s1 ⟨x, H1, I1, r1, ty, q1⟩ => ?_)
 obtain ⟨h1, h2⟩ := XZ I1 r1 ty
 refine ⟨T, id, pa, slot, hty, h1, h2, ?_⟩
 have hA := ha cpos pins s1 σ H1 _ I1 q1
 rw [hs] at hA ⊢
 refine Calls.callWith_builtin (by show (false || (backTo cpos (starEach es X.env)).any (·.1)) = false; rw [hplain] <;> rfl) (Calls.evalArgs_plain ?_)
 exact thn hA fun us s2 ⟨vs, H2, I2, r2, q2⟩ => hm pins s2 σ H2 x vs v us Q I2 r1 r2 q2
/- xs.append(e), list.index on a module's tuple .. are MtR facts of 06m -/
end
end L2
namespace L2
open PySem PySem.Spec PyProof.Rows
def MtM (X : Cx) (id : String) (r : V -> List V -> Hp -> VK -> Prop) : Prop :=
 ∀ (pins : List (Addr × Obj)) (s : Shared) (σ : St) (H : Hp) (x : V) (xs : List V) (v : Value) (us : List Value) (Q : VK), Inv X pins σ H s -> zy x v -> zu xs us -> r x xs H Q ->
  wpAny (model X.prog X.w) X.A (call (.builtin id) (v :: us)) (EP X pins σ Q) X.xe s
theorem zu.one : ∀ {x : V} {us : List Value}, zu [x] us -> ∃ u, us = [u] /\ zy x u
 | _, _, .cons r .nil => ⟨_, rfl, r⟩
theorem zu.rep {xs : List V} {us : List Value} (h : zu xs us) : ∀ k : Nat, zu (List.replicate k xs).flatten (List.replicate k us).flatten
 | 0 => .nil
 | k + 1 => by
  rw [List.replicate_succ, List.replicate_succ, List.flatten_cons, List.flatten_cons]
  exact zu.append h (zu.rep h k)
theorem xr (its : List Value) : ∀ (k : Nat) (acc : List Value),
  List.foldl (fun x1 x2 => x1 ++ x2) acc.toArray (List.replicate k its.toArray) = (acc ++ (List.replicate k its).flatten).toArray
 | 0, acc => by simp
 | k + 1, acc => by
  have e : acc.toArray ++ its.toArray = (acc ++ its).toArray := by simp
  have e2 : (acc ++ its) ++ (List.replicate k its).flatten = acc ++ (List.replicate (k + 1) its).flatten := by
   rw [List.replicate_succ, List.flatten_cons, List.append_assoc]
  rw [<- e2, <- xr its k (acc ++ its), <- e, List.replicate_succ, List.foldl_cons]
section
variable {X : Cx} {pins : List (Addr × Obj)} {σ : St} {H : Hp} {s : Shared} {l b : Addr} {xs ys zs : List V}
theorem Inv.lset {its its' : List Value} {n : Nat} {f : Array Value -> Array Value} {t' : Nat} (I : Inv X pins σ H s) (hH : H l = some (.lst xs))
  (e : s.heap.get? l = some { cls := .type "list", data := .seq its.toArray n }) (hf : f its.toArray = its'.toArray) (hv : zu ys its') (hz : ys.length <= sizeLine) :
  Inv X pins σ (upd H l (.lst ys)) { s with heap := s.heap.update l (Obj.mapSeq f), toks := t' } := by
 have q := PySem.IsL.update e f
 rw [hf] at q
 refine I.write (x := l) (e := l) (by rw [hH]; exact trivial) (.inl rfl) (fun b' u hb hu => (Heap.get?_update_other s.heap (Obj.mapSeq f) (Ne.symm hb)).trans hu) ⟨_, q⟩ ?_
 exact ⟨hz, its', _, hv, q⟩
theorem Inv.lnew {its : List Value} {t' : Nat} (I : Inv X pins σ H s) (hv : zu ys its) (hz : ys.length <= sizeLine) :
  Inv X pins σ (upd H s.heap.objs.size (.lst ys)) { s with heap := s.heap.push { cls := .type "list", data := .seq its.toArray }, toks := t' } :=
 I.laid (fun _ _ q => Heap.get?_push_of_some _ q) (Nat.le_refl _) ⟨hz, its, 0, hv, Heap.get?_push_size _ rfl⟩
theorem Inv.fresh (I : Inv X pins σ H s) : H s.heap.objs.size = none := I.hok.fresh (Nat.le_refl _)
theorem Inv.lstM (I : Inv X pins σ H s) (hH : H l = some (.lst xs)) : xs.length <= sizeLine /\ ∃ (its : List Value) (n : Nat), zu xs its /\ xs.length = its.length /\ s.heap.get? l = some { cls := .type "list", data := .seq its.toArray n } := by
 obtain ⟨z, its, n, r, e⟩ := I.hok l _ hH
 exact ⟨z, its, n, r, r.length, e⟩
theorem yz {n : Nat} (h : n <= sizeLine) : Builtin.List.listTooLong n = false := by
 unfold Builtin.List.listTooLong
 exact decide_eq_false (by omega)
end
section
variable {X : Cx}
def vU : V -> List V -> Hp -> VK -> Prop := fun x vs H Q => ∃ l xs y, x = .ref l /\ vs = [y] /\ H l = some (.lst xs) /\ xs.length < sizeLine /\ Q .non (upd H l (.lst (xs ++ [y])))
theorem xb : MtM X "list.append" vU := by
 intro pins s σ H x vs v us Q I rx rv h
 obtain ⟨l, xs, y, rfl, rfl, hH, hz, q⟩ := h
 cases rx
 obtain ⟨u, rfl, ru⟩ := rv.one
 obtain ⟨z, its, n, r, hl, e⟩ := I.lstM hH
 refine call_meets F.slot_list_append ⟨_, e, rfl⟩ F.entry_list_append (F.args_list_append_2 _ _) (PySem.list_append l its.toArray n u (by rw [List.size_toArray]; omega)) ⟨e, ?_⟩
 refine ⟨.non, _, I.lset (its' := its ++ [u]) hH e (by simp) (r.append (.cons ru .nil)) ?_, rfl, q⟩
 rw [List.length_append, List.length_singleton]
 omega
def wt : V -> List V -> Hp -> VK -> Prop := fun x vs H Q => ∃ l b xs zs, x = .ref l /\ vs = [.ref b] /\ H l = some (.lst xs) /\ H b = some (.lst zs) /\ xs.length + zs.length <= sizeLine /\ Q .non (upd H l (.lst (xs ++ zs)))
theorem Y7 : MtM X "list.extend" wt := by
 intro pins s σ H x vs v us Q I rx rv h
 obtain ⟨l, b, xs, zs, rfl, rfl, hH, hB, hz, q⟩ := h
 cases rx
 obtain ⟨u, rfl, ru⟩ := rv.one
 cases ru
 obtain ⟨z, its, n, r, hl, e⟩ := I.lstM hH
 obtain ⟨z2, its2, n2, r2, hl2, e2⟩ := I.lstM hB
 have hsz : its.toArray.size + its2.toArray.size <= sizeLine := by rw [List.size_toArray, List.size_toArray]; omega
 have hlong : ¬ (!its.toArray.isEmpty && Builtin.List.listTooLong (its.toArray.size + its2.toArray.size)) = true := by
  rw [yz hsz, Bool.and_false]
  exact Bool.false_ne_true
 refine call_meets F.slot_list_extend ⟨_, e, rfl⟩ F.entry_list_extend (F.args_list_extend_2 _ _)
  (AutoSeq1.list_extend_list_list_0 l its.toArray n b its2.toArray n2 hlong (by rw [List.size_toArray]; omega) (by omega)) ⟨e, e2, ?_⟩
 refine ⟨.non, _, I.lset (its' := its ++ its2) hH e (by simp) (r.append r2) ?_, rfl, q⟩
 rw [List.length_append]
 omega
def Kv : R2 := fun x y H Q => ∃ l b xs zs, x = .ref l /\ y = .ref b /\ H l = some (.lst xs) /\ H b = some (.lst zs) /\ xs.length + zs.length <= sizeLine /\ ∀ p, H p = none -> Q (.ref p) (upd H p (.lst (xs ++ zs)))
theorem Jm : OpR X (binaryOp .Add) Kv := by
 intro pins s σ H x y v u Q I rx ry h
 obtain ⟨l, b, xs, zs, rfl, rfl, hH, hB, hz, q⟩ := h
 cases rx
 cases ry
 obtain ⟨z, its, n, r, hl, e⟩ := I.lstM hH
 obtain ⟨z2, its2, n2, r2, hl2, e2⟩ := I.lstM hB
 refine PySem.P.add_list e e2 ?_ (by rw [List.size_toArray, List.size_toArray]; omega)
 have ea : its.toArray ++ its2.toArray = (its ++ its2).toArray := by simp
 rw [ea]
 exact ⟨.ref _, _, I.lnew (t' := s.toks) (r.append r2) (by rw [List.length_append]; omega), rfl, q _ I.fresh⟩
def YS : R2 := fun x y H Q => ∃ l k xs, x = .ref l /\ y = .int k /\ H l = some (.lst xs) /\ -(2 ^ 63) <= k /\ k < 2 ^ 63 /\ xs.length * k.toNat <= sizeLine /\
 ∀ p, H p = none -> Q (.ref p) (upd H p (.lst (List.replicate k.toNat xs).flatten))
theorem JW {α : Type} (xs : List α) (k : Nat) : (List.replicate k xs).flatten.length = k * xs.length := by
 induction k with
 | zero => simp
 | succ k ih => rw [List.replicate_succ, List.flatten_cons, List.length_append, ih, Nat.succ_mul, Nat.add_comm]
theorem QY : OpR X (binaryOp .Mult) YS := by
 intro pins s σ H x y v u Q I rx ry h
 obtain ⟨l, k, xs, rfl, rfl, hH, h1, h2, hz, q⟩ := h
 cases rx
 obtain ⟨t, rfl⟩ := ry
 obtain ⟨z, its, n, r, hl, e⟩ := I.lstM hH
 have hlen : its.toArray.size * k.toNat <= sizeLine := by rw [List.size_toArray, <- hl]; exact hz
 have hcap : ¬ its.toArray.size * k.toNat > (2 ^ 63 - 1) / 8 := by
  have : (sizeLine : Nat) <= (2 ^ 63 - 1) / 8 := by decide
  omega
 have hfit : ¬ (!Builtin.List.listFitsIndex k) = true := by
  rw [fitsIndex_both h1 h2]
  exact Bool.false_ne_true
 have hlong : ¬ Builtin.List.listTooLong (its.toArray.size * k.toNat) = true := by
  rw [yz hlen]
  exact Bool.false_ne_true
 have hnew : List.foldl (fun x1 x2 => x1 ++ x2) #[] (List.replicate (if its.toArray.isEmpty = true then 0 else k.toNat) its.toArray) = (List.replicate k.toNat its).flatten.toArray := by
  have f0 : ∀ m : Nat, List.foldl (fun x1 x2 => x1 ++ x2) #[] (List.replicate m its.toArray) = (List.replicate m its).flatten.toArray := fun m => by
   have := xr its m []
   rw [List.nil_append] at this
   exact this
  rw [f0]
  cases its with
  | nil => simp
  | cons a r' => rw [if_neg (by simp)]
 refine wpAny_binaryOp_repeat_ref (T := "list") (U := "int") (by decide) ⟨_, e, rfl⟩ (fun s' => typeIs_int s' k t) noFill_list_mul F.fills_int_mul F.slot_int_rmul repeat_list F.slot_int_index.lookup
  (call_meets F.slot_int_rmul (typeIs_int s k t) F.entry_int_rmul (F.args_int_rmul_2 _ _) (int___rmul___int_list k t l its.toArray n)
   ⟨e, rfl, ⟨_, e, rfl⟩, call_meets F.slot_list_mul ⟨_, e, rfl⟩ F.entry_list_mul (F.args_list_mul_2 _ _) (AutoListH.list___mul___list_int_3 l its.toArray n k t hfit hcap hlong) ⟨e, ?_⟩⟩)
 rw [hnew]
 exact ⟨.ref _, _, I.lnew (t' := s.toks) (r.rep k.toNat) (by rw [JW, Nat.mul_comm]; exact hz), rfl, q _ I.fresh⟩
end
section
variable {prog : Program} {w : World} {A : Around} {E : Value -> Shared -> Prop} {s : Shared}
end
section
variable {X : Cx}
end
end L2
namespace Att
open PySem PySem.W PySem.Calls PyProof.Rows
theorem j7 {P : Params} {h : Heap} : ∀ (ns : List Int) (vs : List Value), WellAll P h vs (ns.map WData.int) -> IntsAre vs ns := by
 intro ns
 induction ns with
 | nil =>
  intro vs w
  rw [List.map_nil] at w
  cases w
  exact .nil
 | cons n ns ih =>
  intro vs w
  rw [List.map_cons] at w
  cases w with
  | cons a b =>
   cases a
   exact .cons _ _ (ih _ b)
theorem Za {l : OpenLaw} {n : Nat} (hn : l.most = some n) {P : Params} {h : Heap} {args : List WData} {vals : List Value}
  (hpre : l.row.toRowW.claim.pre args = true) (hwl : WellAll P h vals args) :
  ∃ a vs ns, vals = [Value.ref a] /\ args = [WData.list (ns.map WData.int)] /\ h.get? a = some { cls := .type "list", data := .seq vs.toArray } /\ IntsAre vs ns /\ ns.length <= n := by
 have hsh : WShape.hasAll [] args [.list .int] = true := (pre_splitW hpre).1
 have hc : l.pre.holds [] { args := args } = true := (pre_splitW hpre).2
 obtain ⟨d, r, rfl, h1, h2⟩ := hasAllW_cons hsh
 obtain rfl := hasAllW_nil h2
 obtain ⟨xs, rfl, h3⟩ := hasW_list h1
 obtain ⟨ns, rfl⟩ := items_int h3
 have hlen : ns.length <= n := by
  unfold OpenLaw.pre at hc
  have h4 : (WTm.not (.lt (.lit (.int (n : Int))) (.len (.arg 0)))).holds [] { args := [.list (ns.map .int)] } = true := by
   have h4 := (holds_andW hc).1
   rw [hn] at h4
   exact h4
  have h5 := condW_of h4 (w_not (w_lt w_lit (w_len_list (w_arg rfl))))
  rw [List.length_map] at h5
  refine Nat.le_of_not_lt fun q => ?_
  have q' : (n : Int) < ((ns.length : Nat) : Int) := by omega
  first
   | (rw [decide_eq_true q'] at h5; exact absurd h5 (by decide))
   | (simp at h5; omega)
 cases hwl with
 | cons w1 w2 =>
  cases w2
  cases w1 with
  | list ho hall => exact ⟨_, _, ns, rfl, rfl, ho, j7 ns _ hall, hlen⟩
theorem wH (l : OpenLaw) (args : List WData) : l.row.toRowW.claim.post args (.bool true) args = true :=
 postW_of (r := l.row.toRowW) (X := (true == true))
  (show WShape.has [] (.bool true) .bool = true by first | rfl | decide | simp [WShape.has, WShape.arms, WShape.armsAll])
  (show (WTm.eq .res (.lit (.bool true))).value [] { args := args, res := some (.bool true), after := args } = some (.bool (true == true)) from w_eq_bool (w_res rfl) w_lit) rfl
theorem attach_call {l : OpenLaw} {n : Nat} {q : Program} {loose : List Str} {XP : (Str -> Option Value) -> Heap -> Prop} {YP : World -> Heap -> Prop} {d : DefRec}
  (hn : l.most = some n) (hdf : d.params.defaults = [])
  (call : ∀ (w : World) (s₀ s₁ : Shared) (mg mb : Str -> Option Value) (fa : Addr) (o : Obj) (pm cd doc : Value) (a : Addr) (vs : List Value) (ns : List Int),
   Ground q loose [] XP w s₀ mg mb s₁.heap -> YP w s₁.heap ->
   s₁.heap.get? fa = some o -> o.data = .func (docDef d.name d.params d.body d.scope pm cd doc) -> s₁.heap.CodeRec cd d.name -> mg d.name = some (.ref fa) ->
   s₁.heap.get? a = some { cls := .type "list", data := .seq vs.toArray } -> IntsAre vs ns -> ns.length <= n -> s₁.gens = #[] ->
   codeAny (model l.prog w) callerA (.call (.ref fa) ⟨[.ref a], []⟩) (fun r s' => r = .ok (.ret (.bool true)) /\ OldK s₁.heap s'.heap /\ s'.os = s₁.os /\ AllBare s'.gens) s₁) :
  WalkO q loose XP YP l.row.toRowW d [] (fun f vs => PySem.call f vs) := by
 intro w s₀ s₁ mg mb G Y fa o pm cd doc dV kV ho hd hcd hD hmg hg args vals as hpre hlay hrd hwl hlo
 obtain rfl : dV = .none := Dflts.none hD hdf
 obtain rfl : kV = .none := Dflts.noKw hD
 obtain ⟨a, vs, ns, rfl, rfl, hobj, hints, hlen⟩ := Za hn hpre hwl
 refine enter_call (codeAny_mono (call w s₀ s₁ mg mb fa o pm cd doc a vs ns G Y ho (fd_plain hd) hcd hmg hobj hints hlen hg) fun r s' hq => ?_)
 obtain ⟨rfl, h2, h3, h4⟩ := hq
 exact ⟨.inl ⟨.bool true, .bool true, [], rfl, fun _ => rfl, .bool true, wH l _, fun _ => ⟨List.Pairwise.nil, fun _ hm => (nomatch hm)⟩⟩, h2, h3, h4⟩
section
variable {prog : Program} {w : World} {A : Around} {E : Value -> Shared -> Prop} {s : Shared} {K : Frag}
def VZ (h : Heap) (L d : Addr) : List (Addr × Obj) := (List.range h.objs.size).filterMap fun a => if a = L \/ a = d then none else (h.get? a).map fun o => (a, o)
end
end Att
namespace L2
open PySem PySem.Spec PyProof.Rows
theorem xw : ∀ {vs : List Value} {ns : List Int}, IntsAre vs ns -> zu (ns.map V.int) vs
 | _, _, .nil => .nil
 | _, _, .cons n t h => .cons ⟨t, rfl⟩ (xw h)
def Yv (H : Hp) : Prop := ∀ b, H b = none \/ ∃ o xs, H b = some (.frz o (.lst xs))
theorem QI {P : Program} {w : World} {K : PySem.W.Frag} {mg mb : Str -> Option Value} {CX : CXT} {k : Nat} {fa a : Addr} {fd : FuncData} {x : Str} {sp : Sp} {s₁ : Shared} {vs : List Value} {ns : List Int}
  (KX : K.In s₁.heap) (hns : s₁.heap.Ns mainGlobals mg) (hb : s₁.heap.Ns builtinsNs mb) (hbb : ∀ x : Str, x ≠ "__name__" -> mb x = bootBuiltins x) (hlim : s₁.heap.NoLimit) (hg : s₁.gens = #[])
  (ha : s₁.heap.get? a = some { cls := .type "list", data := .seq vs.toArray }) (hi : IntsAre vs ns) (hl : ns.length <= sizeLine) (hr : qC k callerA)
  (F : ∀ base : Heap, K.In base -> base.Ns mainGlobals mg -> jn P w K mg base CX k fa fd [x] sp) (hbind : ∀ (s : Shared) (u : Value), BindsTo s fd ⟨[u], []⟩ [(x, u)])
  (hsp : ∀ H : Hp, Yv H -> SqL K H a (ns.map V.int) -> sp [.ref a] H (fun v _ => v = .bl true) fun _ _ _ => False)
  (hCX : ∀ H e s', CX [] H s₁ (fun _ _ _ => False) e s' -> False) :
  codeAny (model P w) callerA (.call (.ref fa) ⟨[.ref a], []⟩) (fun r s' => r = .ok (.ret (.bool true)) /\ OldK s₁.heap s'.heap /\ s'.os = s₁.os /\ AllBare s'.gens) s₁ := by
 have rv := xw hi
 have lenV := hi.length
 have core : ∀ H : Hp, Yv H -> SqL K H a (ns.map V.int) -> HOk P w H s₁.heap -> (∀ b, H b ≠ none -> b = a) -> (H a ≠ none -> K.lookup a = none) ->
   codeAny (model P w) callerA (.call (.ref fa) ⟨[.ref a], []⟩) (fun r s' => r = .ok (.ret (.bool true)) /\ OldK s₁.heap s'.heap /\ s'.os = s₁.os /\ AllBare s'.gens) s₁ := by
  intro H hO hS hok hA hK
  have base_of : ∀ {b : Addr} {o : Obj}, s₁.heap.get? b = some o -> H b = none -> (xI s₁.heap H).get? b = some o := fun e n => Z9 e n
  have noA : ∀ {b : Addr} {o : Obj} {es : Array DictEntry} {ep : Nat}, s₁.heap.get? b = some o -> o.data = .dict es ep -> H b = none := fun {b o es ep} e d => by
   cases q : H b with
   | none => rfl
   | some u =>
    have e' : b = a := hA b (by rw [q]; simp)
    subst e'
    rw [ha] at e; cases e
    have d' : Data.seq vs.toArray _ = Data.dict es ep := d
    cases d'
  have nsK : ∀ {b : Addr} {m : Str -> Option Value}, s₁.heap.Ns b m -> (xI s₁.heap H).Ns b m := fun {b m} ⟨o, es, ep, e, d, r⟩ => ⟨o, es, ep, base_of e (noA e d), d, r⟩
  have hKb : K.In (xI s₁.heap H) := fun b o e => base_of (KX b o e) (by
   cases q : H b with
   | none => rfl
   | some u =>
    have e' : b = a := hA b (by rw [q]; simp)
    subst e'
    rw [hK (by rw [q]; simp)] at e; cases e)
  have hM : Mod K mg (xI s₁.heap H) := ⟨hKb, nsK hns, ⟨mb, nsK hb, hbb⟩, let ⟨mc, h1, h2⟩ := hlim; ⟨mc, nsK h1, h2⟩⟩
  have e0 : Kb P w K mg (xI s₁.heap H) callerA [] s₁ H := ⟨rfl, hM, fun b o e => Kc e, Nat.le_of_eq (wK _ _), trivial, fun b hb => absurd (show b ∈ ([] : List Addr) from hb) (by simp), hok, .of_eq hg⟩
  refine codeAny_mono ((F _ hKb (nsK hns)).run callerA [] s₁ H ⟨[.ref a], []⟩ [.ref a] [.ref a] _ _ hr e0 (hbind s₁ (.ref a)) (.cons rfl .nil) (hsp H hO hS)) fun r s' h => ?_
  cases r with
  | error e => exact (hCX H e s' h).elim
  | ok fl =>
   cases fl with
   | next => exact False.elim h
   | brk => exact False.elim h
   | cont => exact False.elim h
   | ret u =>
    obtain ⟨v, H', os, bare, un, hok', r', q⟩ := h
    have q' : v = .bl true := q
    subst q'
    obtain rfl : u = Value.bool true := r'
    refine ⟨rfl, OldK.of_keep fun b o e => ?_, os, bare⟩
    cases q : H b with
    | none => exact un.keep b o e q (by intro z; exact absurd (show b ∈ ([] : List Addr) from z) (by simp)) (by simp)
    | some u =>
     rcases hO b with z | ⟨ob, xs, z⟩
     ·rw [q] at z; cases z
     ·have z2 := un.frzs b ob _ z
      obtain ⟨e1, _⟩ := hok b _ z
      obtain ⟨e2, _⟩ := hok' b _ z2
      rw [e] at e1; cases e1
      exact e2
 cases hk : K.lookup a with
 | some o =>
  have e := KX a o hk
  rw [ha] at e
  cases e
  refine core (fun _ => none) (fun _ => .inl rfl) (.inr ⟨_, vs.toArray, _, hk, rfl, rfl, rfl, by rw [List.size_toArray, lenV]; exact hl, by simpa using rv⟩) (fun b u z => by have z' : (none : Option HO) = some u := z; cases z') (fun b z => absurd rfl z) fun z => absurd rfl z
 | none =>
  refine core (fun b => if b = a then some (.frz { cls := .type "list", data := .seq vs.toArray } (.lst (ns.map V.int))) else none) (fun b => ?_) (.inl (.inr ⟨{ cls := .type "list", data := .seq vs.toArray }, if_pos rfl⟩)) (fun b u z => ?_) (fun b z => ?_) fun _ => hk
  ·by_cases hb : b = a
   ·exact .inr ⟨_, _, if_pos hb⟩
   ·exact .inl (if_neg hb)
  ·by_cases hb : b = a
   ·have z' := (if_pos hb).symm.trans z
    cases z'
    subst hb
    exact ⟨ha, by rw [List.length_map]; exact hl, vs, _, rv, ha⟩
   ·have z' := (if_neg hb).symm.trans z
    cases z'
  ·by_cases hb : b = a
   ·exact hb
   ·exact absurd (if_neg hb) z
end L2
namespace L2
open PySem PySem.Spec PyProof.Rows
abbrev KOf {K : PySem.W.Frag} {h : Heap} (_ : K.In h) : PySem.W.Frag := K
theorem walk_of {l : PySem.W.OpenLaw} {n k : Nat} {q : Program} {loose : List Str} {XP : (Str -> Option Value) -> Heap -> Prop} {YP : World -> Heap -> Prop} {d : DefRec} {K : Params -> PySem.W.Frag} {CX : World -> CXT} {sp : World -> Sp} {x : Str}
  (hn : l.most = some n) (hn2 : n <= sizeLine) (hdf : d.params.defaults = []) (hr : qC k callerA)
  (hY : ∀ (w : World) (h : Heap), YP w h -> (K w.params).In h)
  (F : ∀ (w : World) (mg : Str -> Option Value) (fa : Addr) (h : Heap), (K w.params).In h -> h.Ns mainGlobals mg -> mg d.name = some (.ref fa) ->
   ∃ fd : FuncData, (∀ (s : Shared) (u : Value), BindsTo s fd ⟨[u], []⟩ [(x, u)]) /\
    ∀ base : Heap, (K w.params).In base -> base.Ns mainGlobals mg -> jn l.prog w (K w.params) mg base (CX w) k fa fd [x] (sp w))
  (hsp : ∀ (w : World) (H : Hp) (a : Addr) (ns : List Int), ns.length <= n -> Yv H -> SqL (K w.params) H a (ns.map V.int) -> sp w [.ref a] H (fun v _ => v = .bl true) fun _ _ _ => False)
  (hCX : ∀ (w : World) (H : Hp) (s : Shared) (e : Value) (s' : Shared), CX w [] H s (fun _ _ _ => False) e s' -> False) :
  PySem.W.WalkO q loose XP YP l.row.toRowW d [] (fun f vs => PySem.call f vs) := by
 refine Att.attach_call hn hdf fun w s₀ s₁ mg mb fa o pm cd doc a vs ns G Y ho hd hcd hmg hobj hints hlen hg => ?_
 have KX := hY w _ Y
 obtain ⟨fd, hb, hF⟩ := F w mg fa _ KX G.T.g hmg
 exact QI KX G.T.g G.T.b G.T.builtins G.T.nolimit hg hobj hints (Nat.le_trans hlen hn2) hr hF hb (fun H hO hS => hsp w H a ns hlen hO hS) fun H e s' => hCX w H s₁ e s'
end L2
/- THE LAST THEOREM (shape; LID, My.* are yours):
   My.Adr: a structure of the addresses that your layer names (classes, functions); My.Txt K t: a structure (Prop) of the equations over K;
   My.txt_mk : {K} {implicit addresses ..} (e1 : nsIn K mainGlobals "law" = some (some (.ref f))) (e2 : K.lookup f = some ⟨oc, od, .func (fnOf "law" "law" params body scope dV kV doc pm an cdv ct), sl⟩) (e3 : codeIn K cdv "law" = true) .. : ∃ t, My.Txt K t
set_option maxRecDepth 100000 in
set_option maxHeartbeats 0 in
theorem PySem.Challenge.cw_LID_holds : PySem.Challenge.rw_LID.Holds := by
 w_on; o_law; k_head; (case hw => w_witness2)
 k_fill
 refine L2.walk_of (l := PySem.Challenge.rw_LID) (n := 63) (k := 40) (x := "script") (CX := fun w => ..) (sp := fun _ => My.sp_law) rfl (by decide) rfl ⟨rfl, by decide, by decide⟩ (fun w h Y => PySem.W.kIn_of Y) ?F ?S ?C
 case F =>
  intro w mg fa h KX G hmg
  have T : ∃ t, My.Txt (L2.KOf KX) t := by
   dsimp only [L2.KOf]                          -- K must stand as «<heap const> w.params» for k_is
   refine' My.txt_mk ?e1 ?e2 ?e3 ..
   (case e1 => PySem.W.k_is)                    -- in the order: a name -> its address -> its object -> its parts
   (case e2 => PySem.W.k_is)
   ..
  obtain ⟨t, T⟩ := T
  have e0 := hmg.symm.trans (PySem.W.mg_of KX G T.law)
  cases e0                                       -- fa is the law's own address
  exact ⟨_, fun s u => .of_eq rfl, fun base kb nb => My.law_fn T kb nb⟩     -- if «.of_eq rfl» comes too early: refine' ⟨_, ?b, fun base kb nb => My.law_fn T kb nb⟩; exact fun s u => .of_eq rfl
 case S => exact fun w H a ns hl hO hS => ..
 case C => exact ..
(the tactic k_is has no namespace: write k_is) -/
namespace L2
open PySem PySem.Spec PyProof.Rows
def qu (s : Stmt) : Arguments := match s with
 | .FunctionDef _ a _ _ _ _ _ _ _ _ => a
 | _ => { posonlyargs := [], args := [], vararg := none, kwonlyargs := [], kw_defaults := [], kwarg := none, defaults := [] }
def zV (s : Stmt) : List Stmt := match s with
 | .FunctionDef _ _ b _ _ _ _ _ _ _ => b
 | _ => []
def zf (s : Stmt) : Scope := match s with
 | .FunctionDef _ _ _ _ _ _ sc _ _ _ => sc
 | _ => { kind := .function, names := [], isGenerator := false, isCoroutine := false }
abbrev CX0 : CXT := fun _ _ _ _ _ _ => False
abbrev E0 : XK := fun _ _ _ => False
theorem Vr {X : Cx} : vo CX0 X E0 := fun _ _ _ _ _ _ _ h => h.elim
structure Fun (K : PySem.W.Frag) (x qual : Str) (st : Stmt) (f : Addr) (fd : FuncData) : Prop where
 ex : ∃ (oc : Value) (od : Option Addr) (kV doc pm : Value) (an : Option Addr) (cdv ct : Value) (osl : Array (Option Value)),
  fd = PySem.W.fnOf x qual (qu st) (zV st) (zf st) .none kV doc pm an cdv ct /\ K.lookup f = some ⟨oc, od, .func fd, osl⟩ /\ PySem.W.codeIn K cdv qual = true
 kp : PySem.W.keepIn K (.ref f) = true
section
variable {P : Program} {w : World} {K : PySem.W.Frag} {mg : Str -> Option Value} {base : Heap}
theorem Fun.ok {x qual : Str} {st : Stmt} {f : Addr} {fd : FuncData} {N ps : List Str} {k : Nat} {sp : Sp} (F : Fun K x qual st f fd) (S : zq N ps (zf st)) (len : ∀ vs H Q E, sp vs H Q E -> vs.length = ps.length)
  (hbody : ∀ (cdv : Value) (A : Around) (outer : List Env) (s : Shared) (H : Hp) (vs : List V) (Q : VK) (E : XK), qC k (A.deeper (envOfC qual (zf st) s.heap.objs.size f cdv)) -> sp vs H Q E ->
   ∃ t, PSs (yc CX0 P w K mg base N qual (zf st) f cdv A outer s H E).nox (zV st) t /\ t { nx := fun _ H' => Q .non H', rt := Q } (qv N vs) H) : jn P w K mg base CX0 (k + 1) f fd ps sp := by
 obtain ⟨oc, od, kV, doc, pm, an, cdv, ct, osl, rfl, lk, hcd⟩ := F.ex
 refine Y9 lk hcd S len fun A outer s H vs Q E hr hsp => ?_
 obtain ⟨t, h, q⟩ := hbody cdv A outer s H vs Q E hr hsp
 exact ⟨t, h.nox, q⟩
theorem Fun.binds {x qual : Str} {st : Stmt} {f : Addr} {fd : FuncData} {ps : List Str} (F : Fun K x qual st f fd)
  (h : ∀ (kV doc pm : Value) (an : Option Addr) (cdv ct : Value) (us : List Value), us.length = ps.length -> bindArgs (PySem.W.fnOf x qual (qu st) (zV st) (zf st) .none kV doc pm an cdv ct) ⟨us, []⟩ = pure (ps.zip us)) : xc K fd ps [] := by
 obtain ⟨oc, od, kV, doc, pm, an, cdv, ct, osl, rfl, lk, hcd⟩ := F.ex
 exact .all (h kV doc pm an cdv ct)
theorem ZK {x qual : Str} {st : Stmt} {f : Addr} {oc : Value} {od an : Option Addr} {osl : Array (Option Value)} {kV doc pm cdv ct : Value} (l : K.lookup f = some ⟨oc, od, .func (PySem.W.fnOf x qual (qu st) (zV st) (zf st) .none kV doc pm an cdv ct), osl⟩)
  (c : PySem.W.codeIn K cdv qual = true) (k : PySem.W.keepIn K (.ref f) = true) : Fun K x qual st f (PySem.W.fnOf x qual (qu st) (zV st) (zf st) .none kV doc pm an cdv ct) := ⟨⟨oc, od, kV, doc, pm, an, cdv, ct, osl, rfl, l, c⟩, k⟩
end
section
variable {X : Cx}
theorem pv (i : Nat) {x : Str} {pos : Pos} (hN : X.N[i]? = some x := by rfl) (hv : Vis X.env.scope x := by first | exact Or.inl rfl | exact Or.inr (Or.inl rfl) | exact Or.inr (Or.inr rfl)) (hd : (x == ("__debug__" : Str)) = false := by decide)
  (hcd : (x == ("__classdict__" : Str)) = false := by decide) : PE X (.Name x pos) (JO i) := XF hN hv hd hcd
end
theorem V1 {c A B : Prop} [Decidable c] (h1 : c -> A) (h2 : ¬ c -> B) : if c then A else B := by
 by_cases h : c
 ·rw [if_pos h]
  exact h1 h
 ·rw [if_neg h]
  exact h2 h
end L2
namespace L2
open PySem PySem.Spec PyProof.Rows
section
variable {κ : Type} [DecidableEq κ]
end
section
variable {P : Program} {w : World} {H : Hp} {h : Heap} {a : Addr}
end
section
variable {X : Cx} {pins : List (Addr × Obj)} {σ : St} {H : Hp} {s : Shared} {a : Addr} {y v : V} {u r : Value} {o : Option V} {A : Around} {E : Value -> Shared -> Prop}
end
section
variable {X : Cx} {pins : List (Addr × Obj)} {σ : St} {H : Hp} {s : Shared} {a : Addr} {kvs : List (Key × V)} {k : Key} {u : Value} {A : Around} {E : Value -> Shared -> Prop}
end
section
variable {X : Cx} {o i e value : Expr} {pos pos' tpos : Pos} {td ty tv : TE}
end
section
variable {X : Cx} {pos : Pos}
end
structure M1 (X : Cx) (o : Expr) (m : Str) (apos : Pos) (e : Expr) (cpos : Pos) : Prop where
 base : attributeBase o m X.env (eval o X.env) = eval o X.env
 few : ((backTo cpos (starEach [e] X.env)).all (fun x => !x.1) && (backToKw cpos (keywordEach [] X.env)).all (fun x => x.1.isSome)
  && decide (([e] : List Expr).length + ([] : List Keyword).length + (if ([] : List Keyword).isEmpty then 0 else 1) < 30)) = true
 line : (apos.endLine == cpos.line) = true
 trees : backTo cpos (starEach [e] X.env) = [(false, eval e X.env)]
structure M2 (X : Cx) (o : Expr) (m : Str) (apos : Pos) (e f : Expr) (cpos : Pos) : Prop where
 base : attributeBase o m X.env (eval o X.env) = eval o X.env
 few : ((backTo cpos (starEach [e, f] X.env)).all (fun x => !x.1) && (backToKw cpos (keywordEach [] X.env)).all (fun x => x.1.isSome)
  && decide (([e, f] : List Expr).length + ([] : List Keyword).length + (if ([] : List Keyword).isEmpty then 0 else 1) < 30)) = true
 line : (apos.endLine == cpos.line) = true
 trees : backTo cpos (starEach [e, f] X.env) = [(false, eval e X.env), (false, eval f X.env)]
section
variable {X : Cx} {pins : List (Addr × Obj)} {σ : St} {H : Hp} {s : Shared} {a : Addr} {y d : V} {u r : Value} {o : Option V} {A : Around} {E : Value -> Shared -> Prop}
end
section
variable {X : Cx} {o e f : Expr} {apos cpos : Pos} {td ty tx : TE}
end
section
variable {X : Cx} {pins : List (Addr × Obj)} {σ : St} {H : Hp} {s : Shared} {a : Addr} {kvs : List (Key × V)} {A : Around} {E : Value -> Shared -> Prop}
end
section
variable {X : Cx} {pins : List (Addr × Obj)} {σ : St} {H : Hp} {s : Shared} {a : Addr} {y : V} {u : Value} {A : Around} {E : Value -> Shared -> Prop}
end
end L2
namespace L2
open PySem PySem.Spec PyProof.Rows
section
variable {κ : Type} [DecidableEq κ]
end
end L2
set_option Elab.async false
set_option linter.all false
set_option maxRecDepth 100000
set_option maxHeartbeats 4000000
namespace L2
open PySem PySem.Spec PyProof.Rows
def yn (N : List Str) (ts : List Nat) (sc : Scope) (kind : Str -> Option NameKind) : Bool :=
 sc.kind == .function && sc.names.all (fun y => y.2 != .cell && (y.2 != .local || sc.names.lookup y.1 == some .local) && (y.2 != .free || kind y.1 == some .cell || kind y.1 == some .free)) &&
  N.zipIdx.all (fun p => sc.names.lookup p.1 != some .local || ts.contains p.2)
def zZ (cells : List (Str × Addr)) : List (Str × NameKind) -> List (Str × Addr) -> List (Str × Addr)
 | [], acc => acc
 | (n, k) :: r, acc => zZ cells r (if k = .free then (n, (cells.lookup n).getD 0) :: acc else acc)
theorem xQ {env : Env} : ∀ (names : List (Str × NameKind)) (acc : List (Str × Addr)), (∀ y ∈ names, y.2 = .free -> ∃ c, env.cells.lookup y.1 = some c) ->
  (forIn names acc fun (x : Str × NameKind) (cs : List (Str × Addr)) => (match x with | (name, kind) => if (kind == NameKind.free) = true then (do let c <- cellOf env name; pure (ForInStep.yield ((name, c) :: cs))) else pure (ForInStep.yield cs) : Sem (ForInStep (List (Str × Addr))))) = pure (zZ env.cells names acc)
 | [], acc, _ => rfl
 | (n, k) :: r, acc, h => by
  rw [List.forIn_cons]
  by_cases hk : k = .free
  ·subst hk
   obtain ⟨c, hc⟩ := h (n, .free) List.mem_cons_self rfl
   have e1 : cellOf env n = pure c := by unfold cellOf; rw [hc]
   simp only [beq_self_eq_true, if_true, e1, pure_bind]
   rw [xQ r _ fun y hy => h y (List.mem_cons_of_mem _ hy)]
   show _ = pure (zZ env.cells r (if NameKind.free = .free then _ else _))
   rw [if_pos rfl, hc]; rfl
  ·have hb : (k == NameKind.free) = false := by simpa using hk
   simp only [hb, Bool.false_eq_true, if_false, pure_bind]
   rw [xQ r _ fun y hy => h y (List.mem_cons_of_mem _ hy)]
   show _ = pure (zZ env.cells r (if k = .free then _ else _))
   rw [if_neg hk]
theorem jK {cells : List (Str × Addr)} : ∀ (names : List (Str × NameKind)) (acc : List (Str × Addr)), (∀ y ∈ names, y.2 = .free -> ∃ c, cells.lookup y.1 = some c) -> (∀ x c, acc.lookup x = some c -> cells.lookup x = some c) ->
    (∀ x c, (zZ cells names acc).lookup x = some c -> cells.lookup x = some c) /\ (∀ x c, acc.lookup x = some c -> ∃ c', (zZ cells names acc).lookup x = some c') /\ ∀ y ∈ names, y.2 = .free -> ∃ c, (zZ cells names acc).lookup y.1 = some c
  | [], acc, _, h2 => ⟨h2, fun x c e => ⟨c, e⟩, fun y hy => nomatch hy⟩
  | (n, k) :: r, acc, h1, h2 => by
    by_cases hk : k = .free
    · subst hk
      obtain ⟨c, hc⟩ := h1 (n, .free) List.mem_cons_self rfl
      have hc : cells.lookup n = some c := hc
      have e : zZ cells ((n, .free) :: r) acc = zZ cells r ((n, c) :: acc) := by
        show zZ cells r (if NameKind.free = .free then _ else _) = _
        rw [if_pos rfl, hc]; rfl
      rw [e]
      obtain ⟨q1, q2, q3⟩ := jK (cells := cells) r ((n, c) :: acc) (fun y hy => h1 y (List.mem_cons_of_mem _ hy)) (fun x c' e' => by
        rw [List.lookup_cons] at e'
        cases hx : x == n with
        | true => rw [hx] at e'; have : x = n := by simpa using hx
                  subst this; cases e'; exact hc
        | false => rw [hx] at e'; exact h2 x c' e')
      refine ⟨q1, fun x c' e' => ?_, fun y hy hf => ?_⟩
      · cases hx : x == n with
        | true => exact q2 x c (by rw [List.lookup_cons, hx])
        | false => exact q2 x c' (by rw [List.lookup_cons, hx]; exact e')
      · rcases List.mem_cons.mp hy with rfl | hy
        · exact q2 n c (by rw [List.lookup_cons, beq_self_eq_true])
        · exact q3 y hy hf
    · have e : zZ cells ((n, k) :: r) acc = zZ cells r acc := by
        show zZ cells r (if k = .free then _ else _) = _
        rw [if_neg hk]
      rw [e]
      obtain ⟨q1, q2, q3⟩ := jK (cells := cells) r acc (fun y hy => h1 y (List.mem_cons_of_mem _ hy)) h2
      refine ⟨q1, q2, fun y hy hf => ?_⟩
      rcases List.mem_cons.mp hy with rfl | hy
      · exact absurd hf hk
      · exact q3 y hy hf
theorem kD {scope : Scope} {env : Env} (h : ∀ y ∈ scope.names, y.2 = .free -> ∃ c, env.cells.lookup y.1 = some c) :
  ∃ cl, closureFor scope env = pure cl /\ (∀ x c, cl.lookup x = some c -> env.cells.lookup x = some c) /\ ∀ y ∈ scope.names, y.2 = .free -> ∃ c, cl.lookup y.1 = some c := by
 obtain ⟨q1, _, q3⟩ := jK (cells := env.cells) scope.names [] h (fun x c e => nomatch e)
 refine ⟨zZ env.cells scope.names [], ?_, q1, q3⟩
 unfold closureFor
 have := xQ (env := env) scope.names [] h
 first
  | exact this
  | (simp only [bind_pure]; exact this)
  | (refine Eq.trans ?_ this; simp)
theorem jF {env : Env} : ∀ {names : List (Str × NameKind)} {x : Str}, (names.map fun (n, k) => if (k == NameKind.free && env.scope.kind == .function && env.kindOf n == some .cell) then (n, NameKind.cell) else (n, k)).lookup x =
  (names.lookup x).map fun k => if (k == NameKind.free && env.scope.kind == .function && env.kindOf x == some .cell) then NameKind.cell else k
 | [], _ => rfl
 | (n, k) :: r, x => by
  have ih := @jF env r x
  rw [List.map_cons]
  cases hx : x == n with
  | true =>
   have e : x = n := by simpa using hx
   subst e
   rw [List.lookup_cons (as := r), beq_self_eq_true]
   show List.lookup x ((if (k == NameKind.free && env.scope.kind == .function && env.kindOf x == some .cell) = true then (x, NameKind.cell) else (x, k)) :: _) = some _
   by_cases hc : (k == NameKind.free && env.scope.kind == .function && env.kindOf x == some .cell) = true
   ·rw [if_pos hc, List.lookup_cons, beq_self_eq_true]; dsimp only; rw [if_pos hc]
   ·rw [if_neg hc, List.lookup_cons, beq_self_eq_true]; dsimp only; rw [if_neg hc]
  | false =>
   rw [List.lookup_cons (as := r), hx]
   show List.lookup x ((if (k == NameKind.free && env.scope.kind == .function && env.kindOf n == some .cell) = true then (n, NameKind.cell) else (n, k)) :: _) = _
   by_cases hc : (k == NameKind.free && env.scope.kind == .function && env.kindOf n == some .cell) = true
   ·rw [if_pos hc, List.lookup_cons, hx]; exact ih
   ·rw [if_neg hc, List.lookup_cons, hx]; exact ih
abbrev cxC (X : Cx) (scope : Scope) (cl : List (Str × Addr)) (s : Shared) (H : Hp) (fp : List Addr) : Cx :=
 { X with s₀ := s, H₀ := H, env := compEnvC scope cl s.heap.objs.size X.env, outer := X.stack, ex := fp, fn := fun _ => false, pn := [], xe := fun _ _ => False }
def clr : List Nat -> St -> St
 | [], σ => σ
 | j :: r, σ => clr r (σ.set j none)
theorem wz : ∀ (ts : List Nat) (σ : St), (clr ts σ).length = σ.length
 | [], _ => rfl
 | j :: r, σ => by show (clr r (σ.set j none)).length = _; rw [wz r]; simp
theorem yQ : ∀ (ts : List Nat) (σ : St) (i : Nat) (v : V), (clr ts σ)[i]? = some (some v) -> i ∉ ts /\ σ[i]? = some (some v)
 | [], _, _, _, h => ⟨by simp, h⟩
 | j :: r, σ, i, v, h => by
  obtain ⟨h1, h2⟩ := yQ r (σ.set j none) i v h
  by_cases e : j = i
  ·subst e
   rw [List.getElem?_set] at h2
   simp at h2
  ·rw [List.getElem?_set_ne e] at h2
   exact ⟨by simp [h1, Ne.symm e], h2⟩
structure ScF (X : Cx) (ts : List Nat) (scope : Scope) : Prop where
 kind : scope.kind = .function
 cell : ∀ y ∈ scope.names, y.2 ≠ .cell
 loc : ∀ y ∈ scope.names, y.2 = .local -> scope.names.lookup y.1 = some .local
 free : ∀ y ∈ scope.names, y.2 = .free -> X.env.kindOf y.1 = some .cell \/ X.env.kindOf y.1 = some .free
 ts : ∀ (i : Nat) x, X.N[i]? = some x -> scope.names.lookup x = some .local -> i ∈ ts
theorem ZF {X : Cx} {ts : List Nat} {scope : Scope} (h : yn X.N ts scope X.env.kindOf = true) : ScF X ts scope := by
  unfold yn at h
  simp only [Bool.and_eq_true, List.all_eq_true, bne_iff_ne, ne_eq, Bool.or_eq_true, beq_iff_eq] at h
  obtain ⟨⟨h1, h2⟩, h3⟩ := h
  refine ⟨h1, fun y hy => (h2 y hy).1.1, fun y hy e => ?_, fun y hy e => ?_, fun i x e1 e2 => ?_⟩
  · rcases (h2 y hy).1.2 with z | z
    · exact absurd e z
    · exact z
  · rcases (h2 y hy).2 with (z | z) | z
    · exact absurd e z
    · exact .inl z
    · exact .inr z
  · have hm : (x, i) ∈ X.N.zipIdx := by
      rw [List.mem_zipIdx_iff_getElem?]; exact e1
    rcases h3 _ hm with z | z
    · exact absurd e2 z
    · simpa using z
section
variable {X : Cx} {ts : List Nat} {scope : Scope} {pins : List (Addr × Obj)} {σ : St} {H : Hp} {s : Shared} {fp : List Addr}
theorem kB (I : Inv X pins σ H s) (S : ScF X ts scope) (hf : ∀ b ∈ fp, jo X pins H b) (hfl : ∀ b ∈ fp, b < s.heap.objs.size) {cl : List (Str × Addr)} (c1 : ∀ x c, cl.lookup x = some c -> X.env.cells.lookup x = some c)
  (c2 : ∀ y ∈ scope.names, y.2 = .free -> ∃ c, cl.lookup y.1 = some c) {h1 : Heap} {t1 : Nat} (hns : h1.Ns s.heap.objs.size (fun x => ([] : List (Str × Value)).reverse.lookup x))
  (hk : ∀ b o, s.heap.get? b = some o -> h1.get? b = some o) : Inv (cxC X scope cl s H fp) [] (clr ts σ) H { s with heap := h1, toks := t1 } := by
 have hlk : ∀ x, (relabel scope X.env).names.lookup x = (scope.names.lookup x).map fun k => if (k == NameKind.free && X.env.scope.kind == .function && X.env.kindOf x == some .cell) then NameKind.cell else k := fun x => jF
 have cfree : ∀ x, ((relabel scope X.env).names.lookup x = some .cell \/ (relabel scope X.env).names.lookup x = some .free) -> (x, NameKind.free) ∈ scope.names := fun x hx => by
  rw [hlk] at hx
  cases e : scope.names.lookup x with
  | none => rw [e] at hx; rcases hx with hx | hx <;> cases hx
  | some k =>
   have hm := mem_of_lookup_some e
   cases k with
   | free => exact hm
   | cell => exact absurd rfl (S.cell _ hm)
   | «local» => rw [e] at hx; rcases hx with hx | hx <;> cases hx
   | globalExplicit => rw [e] at hx; rcases hx with hx | hx <;> cases hx
   | globalImplicit => rw [e] at hx; rcases hx with hx | hx <;> cases hx
 have ccell : ∀ x c, cl.lookup x = some c -> ∃ v, s.heap.IsCell c v := fun x c e => I.cell x c (c1 x c e)
 have fpne : ∀ b ∈ fp, b ∉ frs X.stack := fun b hb z => by
  obtain ⟨_, f1, f2, _⟩ := hf b hb
  rcases List.mem_cons.mp (I.stkSub b z) with e | e
  ·exact f1 e
  ·exact f2 e
 refine ⟨⟨I.ok.mod, S.kind, I.ok.glob, I.ok.blt, Nat.le_refl _, fun x y c e1 e2 => I.ok.inj x y c (c1 x c e1) (c1 y c e2), fun x hx => c2 (x, .free) (cfree x hx) rfl, (fun x c hx => nomatch hx), I.ok.hd, I.ok.frames, .inl rfl, fun b hb => ⟨Nat.ne_of_lt (hfl b hb), fun x c e => (hf b hb).2.2.2.2.1 x c (c1 x c e)⟩,
  I.bs, Nat.le_trans I.ok.bsz I.sz, fun b o e hb => ?_, fpne, I.stack, I.stkFree⟩, rfl, I.bare, Un.kept hk, ⟨_, hns, fun i x v e1 e2 e3 => ?_⟩, fun x c e => ?_, I.hok.fresh (Nat.le_refl _), fun x c e => I.freeC x c (c1 x c e), fun p hp => absurd hp (by simp), I.hok.kept hk, by rw [wz]; exact I.len⟩
 ·rcases (hf b hb).2.2.2.1 with z | z
  ·exact I.ok.noex b o e z
  ·exact absurd (Nat.lt_of_lt_of_le (Heap.lt_size e) (Nat.le_trans I.ok.bsz z)) (Nat.lt_irrefl _)
 ·obtain ⟨nt, e2⟩ := yQ ts σ i v e2
  have e3' : (relabel scope X.env).names.lookup x = some .local \/ (relabel scope X.env).names.lookup x = some .cell \/ (relabel scope X.env).names.lookup x = some .free := e3
  rcases e3' with z | z
  ·rw [hlk] at z
   cases e : scope.names.lookup x with
   | none => rw [e] at z; cases z
   | some k =>
    rw [e] at z
    have z' : (if (k == NameKind.free && X.env.scope.kind == .function && X.env.kindOf x == some .cell) = true then NameKind.cell else k) = .local := Option.some.inj z
    split at z'
    ·cases z'
    ·subst z'
     exact absurd (S.ts i x e1 e) nt
  ·have hm := cfree x z
   obtain ⟨c, hc⟩ := c2 _ hm rfl
   obtain ⟨m, hn, hl⟩ := I.loc
   have vis : Vis X.env.scope x := by
    rcases S.free _ hm rfl with q | q
    ·exact .inr (.inl q)
    ·exact .inr (.inr q)
   obtain ⟨u, r, l⟩ := hl i x v e1 e2 vis
   refine ⟨u, r, .inr ⟨z, c, hc, ?_⟩⟩
   rcases l with ⟨q, _⟩ | ⟨_, c', hc', hcell⟩
   ·rcases S.free _ hm rfl with q' | q'
    ·rw [q'] at q; cases q
    ·rw [q'] at q; cases q
   ·rw [c1 x c hc] at hc'
    cases hc'
    obtain ⟨o, ho, hd⟩ := hcell
    exact ⟨o, hk _ _ ho, hd⟩
 ·obtain ⟨v, o, ho, hd⟩ := ccell x c e
  exact ⟨v, o, hk _ _ ho, hd⟩
end
section
variable {prog : Program} {w : World} {A : Around} {R : Result -> Shared -> Prop} {s : Shared}
theorem jp {elt target iter : Expr} {ifs : List Expr} {scope : Scope} {pos : Pos} {it acc : Value} {env : Env} (I : Nat -> Shared -> Prop)
    (turn : ∀ n s, I n s -> wpAny (model prog w) A (pyNext it) (fun r s₁ => match r with
      | none => R (.ok .next) s₁
      | some v => wpAny (model prog w) A (letOwnedTupleGo target it v) (fun _ s₀ => wpAny (model prog w) A (assign target env v) (fun _ s₂ =>
          wpAny (model prog w) A (forIn ifs true fun c r => if r = true then do let ok <- isTrue c env (eval c env); pure (ForInStep.yield ok) else pure (ForInStep.yield r)) (fun ok s₃ =>
            if ok = true then wpAny (model prog w) A (eval elt env) (fun x s₄ =>
              wpAny (model prog w) A (call (.builtin "list.append") [acc, x]) (fun _ s₅ => ∃ m, m < n /\ I m s₅) (fun _ _ => False) s₄) (fun _ _ => False) s₃
            else ∃ m, m < n /\ I m s₃) (fun _ _ => False) s₂) (fun _ _ => False) s₀) (fun _ _ => False) s₁) (fun _ _ => False) s)
    (n : Nat) (h : I n s) :
    codeAny (model prog w) A (.compLoop (.ListComp elt [⟨target, iter, ifs, 0⟩] scope pos) 0 it acc env) R s := by
  refine codeAny_loop rfl I (fun n s hI => ?_) n h
  show wpAny _ A ((compTurn (.ListComp elt [⟨target, iter, ifs, 0⟩] scope pos) 0 it acc env).onRaise (fun x => do noteFrame x env; theTreesLotGoes x)) _ _ s
  refine wpAny_noted ?_
  rw [compTurn_list]
  refine wpAny_bind (wpAny_standAt (wpAny_bind (wpAny_mono (turn n s hI) (fun r s₁ h₁ => ?_) fun _ _ h' => h'.elim)))
  cases r with
  | none => exact wpAny_pure h₁
  | some v =>
    refine wpAny_bind (wpAny_mono h₁ (fun _ s₀ h₀ => ?_) fun _ _ h' => h'.elim)
    refine wpAny_bind (wpAny_mono h₀ (fun _ s₂ h₂ => wpAny_bind (wpAny_mono h₂ (fun ok s₃ h₃ => ?_) fun _ _ h' => h'.elim)) fun _ _ h' => h'.elim)
    cases ok with
    | false => exact wpAny_pure ⟨rfl, h₃⟩
    | true =>
      exact wpAny_bind (wpAny_bind (wpAny_mono h₃ (fun x s₄ h₄ => wpAny_bind (wpAny_mono h₄ (fun _ s₅ h₅ => wpAny_pure (wpAny_pure ⟨rfl, h₅⟩)) fun _ _ h' => h'.elim)) fun _ _ h' => h'.elim))
end
def Qf : TT := fun _ H Q => Q true H
def PIf (X : Cx) (ifs : List Expr) (t : TT) : Prop :=
 ∀ (pins : List (Addr × Obj)) (s : Shared) (σ : St) (H : Hp) (Q : Bool -> Hp -> Prop), Inv X pins σ H s -> t σ H Q ->
  wpAny (model X.prog X.w) X.A (forIn ifs true fun c r => if r = true then do let ok <- isTrue c X.env (eval c X.env); pure (ForInStep.yield ok) else pure (ForInStep.yield r)) (TP X pins σ Q) X.xe s
theorem zL {X : Cx} : PIf X [] Qf := fun _ _ _ H _ I h => wpAny_tests_nil ⟨H, I, h⟩
def yB (ts : List Nat) (wi : TI) (g : TG) (tt : TT) (te : TE) : TE := fun σ H Q => wi σ H fun J H1 => ∀ D, H1 D = none -> ∃ W : Nat -> Nat -> St -> Hp -> Prop, (∃ m, W 0 m (clr ts σ) (upd H1 D (.lst []))) /\ ∀ i m τ H2, W i m τ H2 ->
 (J.stop i H2 /\ Q (.ref D) H2) \/ (J.go i H2 /\ ∃ N : St -> Hp -> Prop, (∀ τ' H', N τ' H' -> ∃ m', m' < m /\ W (i + 1) m' τ' H') /\ ∀ x H', J.yld i H2 x H' -> g x τ H' fun τ2 H3 => tt τ2 H3 fun b H4 =>
  if b = true then te τ2 H4 fun v H5 => ∃ ys, H5 D = some (.lst ys) /\ ys.length < sizeLine /\ N τ2 (upd H5 D (.lst (ys ++ [v]))) else N τ2 H4)
section
variable {X : Cx} {ts : List Nat} {scope : Scope} {tg iter elt : Expr} {ifs : List Expr} {wi : TI} {g : TG} {tt : TT} {te : TE} {pos : Pos}
theorem yG (hc : X.calm = true) (hsc : yn X.N ts scope X.env.kindOf = true) (hi : PI X tg iter wi) (hg : ∀ cl s H fp, PG (cxC X scope cl s H fp) tg g) (ht : ∀ cl s H fp, PIf (cxC X scope cl s H fp) ifs tt) (he : ∀ cl s H fp, PE (cxC X scope cl s H fp) elt te)
  {pins : List (Addr × Obj)} {s : Shared} {σ : St} {H : Hp} {Q : VK} (I : Inv X pins σ H s) (h : yB ts wi g tt te σ H Q) {use : Option (Value -> Sem Unit)} {Q' : Value -> Shared -> Prop}
  (fin : ∀ (D C : Addr) (H' : Hp) (s' : Shared), Inv X pins σ H' s' -> (∃ m, s'.heap.Ns C m) -> H' C = none -> C ≠ X.env.locals -> (∀ x c, X.env.cells.lookup x = some c -> c ≠ C) -> X.s₀.heap.objs.size <= C -> (∀ p ∈ X.pn ++ pins, p.1 ≠ C) -> C ∉ X.fs -> Q (.ref D) H' ->
   compPost (model X.prog X.w) X.A X.xe use Q' (.ref D) C (.ok .next) s')
  (hs : ∀ x, foldedSetIterable iter X.env x = pure x) :
  wpAny (model X.prog X.w) X.A (comprehension (.ListComp elt [⟨tg, iter, ifs, 0⟩] scope pos) scope X.env (firstIterPos [⟨tg, iter, ifs, 0⟩] pos) (newList []) false (eval iter X.env) use) Q' X.xe s := by
 have S := ZF hsc
 obtain ⟨cl, hcl, c1, c2⟩ := kD (scope := scope) (env := X.env) fun y hy e => I.ok.has y.1 (S.free y hy e)
 refine wpAny_comprehension_free (use := use) rfl hs hcl S.kind S.loc ?_
 refine wpAny_mono (hi pins s σ H _ I h) (fun v s1 h1 => wpAny_mono h1 (fun itv s2 h2 => ?_) fun _ _ e => e) fun _ _ e => e
 obtain ⟨it, fp, tn, J, H2, e, I2, T, st2, f2, q2⟩ := h2
 subst e
 have hD : H2 s2.heap.objs.size = none := I2.hok.fresh (Nat.le_refl _)
 obtain ⟨W, ⟨m0, w0⟩, turn⟩ := q2 _ hD
 refine wpAny_newObj_type (wpAny_newFunctionEnv S.cell (by intro y hy; simp at hy) (fun h₁ hns₁ hsb₁ => ?_) S.kind)
 dsimp only at hns₁ hsb₁ ⊢
 generalize hh3 : s2.heap.push { cls := .type "list", dict := none, data := .seq ([] : List Value).toArray } = g3 at hns₁ hsb₁ ⊢
 have I3 : Inv X pins σ (upd H2 s2.heap.objs.size (.lst [])) { s2 with heap := g3 } := by
  rw [<- hh3]
  exact I2.laid (t' := s2.toks) (fun b u e => Heap.get?_push_of_some _ e) (Nat.le_refl _) ⟨Nat.zero_le _, [], _, .nil, Heap.get?_push_size _ rfl⟩
 have st3 : tn 0 g3 := T.keep _ _ _ st2 fun b _ o e => by rw [<- hh3]; exact Heap.get?_push_of_some _ e
 have lt2 : ∀ b ∈ fp, b < s2.heap.objs.size := fun b hb => by obtain ⟨o, e, _⟩ := T.obj _ _ st2 b hb; exact Heap.lt_size e
 have hsz3 : g3.objs.size = s2.heap.objs.size + 1 := by rw [<- hh3, Heap.size_push]
 have f3 : ∀ b ∈ fp, jo X pins (upd H2 s2.heap.objs.size (.lst [])) b := fun b hb => ⟨by rw [zk (Nat.ne_of_lt (lt2 b hb))]; exact (f2 b hb).1, (f2 b hb).2⟩
 have lt3 : ∀ b ∈ fp, b < g3.objs.size := fun b hb => by rw [hsz3]; exact Nat.lt_succ_of_lt (lt2 b hb)
 have old : ∀ b o, g3.get? b = some o -> h₁.get? b = some o := fun b o e => hsb₁.extBut b o (Nat.ne_of_lt (Heap.lt_size e)) (Heap.get?_push_of_some _ e)
 have hns : h₁.Ns g3.objs.size (fun x => ([] : List (Str × Value)).reverse.lookup x) := hns₁
 have I4 : ∀ t, Inv (cxC X scope cl { s2 with heap := g3 } (upd H2 s2.heap.objs.size (.lst [])) fp) [] (clr ts σ) (upd H2 s2.heap.objs.size (.lst [])) { s2 with heap := h₁, toks := t } := fun t => kB I3 S f3 lt3 c1 c2 hns old
 have fpne : ∀ b ∈ fp, b ∉ frs X.stack := fun b hb z => by
  obtain ⟨_, f1, f2, _⟩ := f3 b hb
  rcases List.mem_cons.mp (I3.stkSub b z) with e | e
  ·exact f1 e
  ·exact f2 e
 have stat : ∀ {H' : Hp}, (∀ b ∈ fp, H' b = none) -> ∀ b ∈ fp, jo (cxC X scope cl { s2 with heap := g3 } (upd H2 s2.heap.objs.size (.lst [])) fp) [] H' b := fun hn b hb =>
  ⟨hn b hb, Nat.ne_of_lt (lt3 b hb), fpne b hb, .inl hb, fun x c e => (f2 b hb).2.2.2.2.1 x c (c1 x c e), fun p hp => absurd hp (by simp)⟩
 have loop : ∀ t, codeAny (model X.prog X.w) X.A (.compLoop (.ListComp elt [⟨tg, iter, ifs, 0⟩] scope pos) 0 (.ref it) (.ref s2.heap.objs.size) (compEnvC scope cl g3.objs.size X.env))
   (compPost (model X.prog X.w) X.A X.xe use Q' (.ref s2.heap.objs.size) g3.objs.size) { s2 with heap := h₁, toks := t } := by
  intro t
  refine jp (fun n s' => ∃ i τ H', Inv (cxC X scope cl { s2 with heap := g3 } (upd H2 s2.heap.objs.size (.lst [])) fp) [] τ H' s' /\ tn i s'.heap /\ (∀ b ∈ fp, H' b = none) /\ W i n τ H') ?_ m0
   ⟨0, clr ts σ, _, I4 t, T.keep _ _ _ st3 fun b _ o e => old b o e, fun b hb => (f3 b hb).1, w0⟩
  rintro n s5 ⟨i, τ, H5, I5, st5, fr5, w5⟩
  rcases turn i n τ H5 w5 with ⟨stop, qn⟩ | ⟨go, N, hN, step⟩
  ·refine thn (T.done (cxC X scope cl { s2 with heap := g3 } (upd H2 s2.heap.objs.size (.lst [])) fp) rfl rfl rfl hc i [] s5 τ H5 _ I5 (stat fr5) st5 stop) fun r s6 ⟨hr, I6⟩ => ?_
   subst hr
   have base : Un (frs X.stack) fp (upd H2 s2.heap.objs.size (.lst [])) H5 g3 s6.heap := I6.base
   have J6 : Inv X pins σ H5 s6 := I3.call' (ch := fp) I6.os base I6.hok I6.bare fun b hb => ⟨(f3 b hb).2.2.2.1, (f3 b hb).2.1, (f3 b hb).2.2.2.2.1, (f3 b hb).2.2.2.2.2⟩
   obtain ⟨m6, n6, _⟩ := I6.loc
   have hC : g3.get? g3.objs.size = none := Heap.get?_none_of_le (Nat.le_refl _)
   refine fin _ g3.objs.size H5 s6 J6 ⟨m6, n6⟩ I6.free (Nat.ne_of_gt I3.lt) (fun x c e z => ?_) I3.sz (fun p hp z => ?_) (I3.nofs (Nat.le_refl _)) qn
   ·obtain ⟨v, q⟩ := I3.cell x c e
    exact absurd q.lt (by rw [z]; exact Nat.lt_irrefl _)
   ·exact absurd (Heap.lt_size (I3.pin p hp).1) (by rw [z]; exact Nat.lt_irrefl _)
  ·refine thn (T.item (cxC X scope cl { s2 with heap := g3 } (upd H2 s2.heap.objs.size (.lst [])) fp) rfl rfl rfl hc i [] s5 τ H5 _ I5 (stat fr5) st5 go) fun r s6 ⟨u, hr, h6⟩ => ?_
   subst hr
   refine thn h6 fun _ s7 ⟨x, H7, I7, r7, y7, st7, fr7⟩ => ?_
   have I7' := I7.pinned (stat fr7) (T.obj _ _ st7)
   refine thn (hg cl { s2 with heap := g3 } _ fp _ s7 τ H7 x u _ I7' r7 (step x H7 y7)) fun _ s8 ⟨τ8, H8, I8, q8⟩ => ?_
   refine thn (ht cl { s2 with heap := g3 } _ fp _ s8 τ8 H8 _ I8 q8) fun b s9 ⟨H9, I9, q9⟩ => ?_
   have again : ∀ {τ9 : St} {H9 : Hp} {s9 : Shared}, Inv (cxC X scope cl { s2 with heap := g3 } (upd H2 s2.heap.objs.size (.lst [])) fp) ([] ++ jL fp s7.heap) τ9 H9 s9 -> N τ9 H9 ->
     ∃ m, m < n /\ ∃ i τ H', Inv (cxC X scope cl { s2 with heap := g3 } (upd H2 s2.heap.objs.size (.lst [])) fp) [] τ H' s9 /\ tn i s9.heap /\ (∀ b ∈ fp, H' b = none) /\ W i m τ H' := fun {τ9 H9 s9} I9 n9 => by
    obtain ⟨m', hm, w9⟩ := hN _ _ n9
    refine ⟨m', hm, i + 1, τ9, H9, I9.unpinned, T.keep _ _ _ st7 fun b hb o e => (I9.pin (b, o) (List.mem_append_right _ (List.mem_append_right _ (qg hb e)))).1, fun b hb => ?_, w9⟩
    obtain ⟨o, e, d⟩ := T.obj _ _ st7 b hb
    exact (I9.pin (b, o) (List.mem_append_right _ (List.mem_append_right _ (qg hb e)))).2.1
   cases b with
   | false =>
    rw [if_neg Bool.false_ne_true] at q9 ⊢
    exact again I9 q9
   | true =>
    rw [if_pos rfl] at q9 ⊢
    refine thn (he cl { s2 with heap := g3 } _ fp _ s9 τ8 H9 _ I9 q9) fun y s10 ⟨v, H10, I10, r10, ys, hys, hlen, n10⟩ => ?_
    exact thn (xb (X := cxC X scope cl { s2 with heap := g3 } (upd H2 s2.heap.objs.size (.lst [])) fp) _ s10 τ8 H10 (.ref s2.heap.objs.size) [v] (.ref s2.heap.objs.size) [y] (fun _ H11 => N τ8 H11) I10 rfl (.cons r10 .nil) ⟨_, ys, v, rfl, rfl, hys, hlen, n10⟩) fun _ s11 ⟨_, H11, I11, _, n11⟩ => again I11 n11
 have LW := loop (s2.toks + ([] : List (Str × Value)).length)
 exact codeAny_compStart_list LW (T.self _ 0 _ _ _ (T.keep _ _ _ st3 fun b _ o e => old b o e) LW)
end
end L2
set_option Elab.async false
set_option linter.all false
set_option maxRecDepth 100000
set_option maxHeartbeats 4000000
namespace L2
open PySem PySem.Spec PyProof.Rows
section
variable {X : Cx} {ts : List Nat} {scope : Scope} {tg iter elt : Expr} {ifs : List Expr} {wi : TI} {g : TG} {tt : TT} {te : TE} {pos : Pos}
theorem qQ (hc : X.calm = true) (hsc : yn X.N ts scope X.env.kindOf = true) (hi : PI X tg iter wi) (hg : ∀ cl s H fp, PG (cxC X scope cl s H fp) tg g) (ht : ∀ cl s H fp, PIf (cxC X scope cl s H fp) ifs tt) (he : ∀ cl s H fp, PE (cxC X scope cl s H fp) elt te)
  (hs : ∀ x, foldedSetIterable iter X.env x = pure x := by intro _; rfl) : PE X (.ListComp elt [⟨tg, iter, ifs, 0⟩] scope pos) (yB ts wi g tt te) := by
 intro pins s σ H Q I h
 rw [eval_ListComp]
 refine yG hc hsc hi hg ht he I h (use := none) (fun D C H' s' I' ⟨m, hn⟩ hC hL hce hsz hp hfs q => ⟨m, hn, fun h' hs' => ?_⟩) hs
 exact ⟨.ref D, H', I'.turned (t' := s'.toks) (it := C) (fun b o hb e => (hs'.2 b hb).trans e) hC hL (.inr hsz) hce hp, rfl, q⟩
theorem xG {j : Nat} {y : Str} {py spos : Pos} (hc : X.calm = true) (hN : X.N.Nodup) (hj : X.N[j]? = some y) (hy : Loc X.env.scope y) (hsc : yn X.N ts scope X.env.kindOf = true) (hi : PI X tg iter wi) (hg : ∀ cl s H fp, PG (cxC X scope cl s H fp) tg g) (ht : ∀ cl s H fp, PIf (cxC X scope cl s H fp) ifs tt) (he : ∀ cl s H fp, PE (cxC X scope cl s H fp) elt te)
  (hsw : swapsWith (.ListComp elt [⟨tg, iter, ifs, 0⟩] scope pos) (some (.Name y py)) spos.line X.env = pure true := by rfl)
  (hs : ∀ x, foldedSetIterable iter X.env x = pure x := by intro _; rfl) (hf : X.fn y = true \/ X.env.scope.names.lookup y = some .local := by first | exact .inl rfl | exact .inr rfl | assumption) :
  PS X (.Assign [.Name y py] (.ListComp elt [⟨tg, iter, ifs, 0⟩] scope pos) spos) (Zl (yB ts wi g tt te) (xv j)) := by
 intro pins s σ H D I h
 rw [exec_Assign_Name_used _ _ _ _ hsw]
 refine wpAny_bind (wpAny_standAt (wpAny_bind ?_))
 show wpAny _ _ (do let _ <- comprehension (.ListComp elt [⟨tg, iter, ifs, 0⟩] scope pos) scope X.env _ (newList []) false (eval iter X.env) (some (assign (.Name y py) X.env))) _ _ s
 refine wpAny_bind (wpAny_mono (yG hc hsc hi hg ht he I h (use := some (assign (.Name y py) X.env)) (Q' := fun _ s' => SP X pins D .next s') (fun D' C H' s' I' ⟨m, hn⟩ hC hL hce hsz hp hfs q => ?_) hs) (fun _ s' hq => wpAny_pure (wpAny_pure hq)) fun _ _ e => e)
 show wpAny _ _ (assign (.Name y py) X.env (.ref D')) _ _ _
 refine wpAny_assign_Name (jP (v := .ref D') I' hN hj hy rfl (fun s2 I2 ⟨a, hsb, ha⟩ => ?_) hf)
 have hCa : C ≠ a := by
  rcases ha with rfl | ha
  ·exact hL
  ·exact Ne.symm (hce y a ha)
 refine ⟨m, hn.sameBut hsb hCa, fun h' hs' => ?_⟩
 exact ⟨_, H', I2.turned (t' := s2.toks) (it := C) (fun b o hb e => (hs'.2 b hb).trans e) hC hL (.inr hsz) hce hp, q⟩
end
def Ite (K : PySem.W.Frag) (a : Addr) : It :=
 ⟨fun i H => ∃ xs x, SqL K H a xs /\ xs[i]? = some x, fun i H y H' => ∃ p x, H p = none /\ y = .ref p /\ (∀ xs, SqL K H a xs -> xs[i]? = some x) /\ H' = upd H p (.tup [.int i, x]), fun i H => ∃ xs, SqL K H a xs /\ xs.length <= i⟩
theorem xj {P : Program} {w : World} {K : PySem.W.Frag} {es : List Expr} {kt : Nat} {tp : Pos} (a e it : Addr) (hei : e ≠ it) : yI P w K (.Tuple es kt tp) (Ite K a) [e, it] e (fun i h => (∃ old, IsEnum h e it (i : Nat) old) /\ h.IsListIter it a i) where
 mem := by simp
 obj := fun i h st b hb => by
  obtain ⟨⟨old, he⟩, ⟨o, e1, c, d⟩⟩ := st
  rcases List.mem_cons.mp hb with rfl | hb
  ·exact ⟨_, he, fun v z => by have z' : Data.fields _ = Data.cell v := z; cases z'⟩
  ·have e2 : b = it := by simpa using hb
   subst e2
   exact ⟨o, e1, fun v z => by rw [d] at z; cases z⟩
 keep := fun i h h' st k => by
  obtain ⟨⟨old, he⟩, st⟩ := st
  exact ⟨⟨old, k e (by simp) _ he⟩, st.at fun o e => k it (by simp) o e⟩
 item := by
  intro X hP hw hK hc i pins s σ H E I hf st hg
  subst hP hw hK
  obtain ⟨⟨old, he⟩, st⟩ := st
  obtain ⟨xs, x, hq, hx⟩ := hg
  obtain ⟨its, rv, p, hz⟩ := I.list hq
  obtain ⟨u, hu, ru⟩ := rv.get hx
  have fe := hf e (by simp)
  have fi := hf it (by simp)
  refine wpAny_pyNext_enum_item he st p.isList (x := u) (by simpa using hu) hei fun h1 heo hit1 ht1 hz1 hk1 => ?_
  refine ⟨.ref s.heap.objs.size, rfl, wpAny_letOwnedTupleGo_enum heo fun h2 he2 hs2 => ?_⟩
  replace hs2 : Heap.SameBut e h1 h2 := hs2
  have elt : e < s.heap.objs.size := Heap.lt_size he
  have hfr : H s.heap.objs.size = none := I.hok.fresh (Nat.le_refl _)
  have ht2 : h2.get? s.heap.objs.size = some { cls := .type "tuple", data := .seq #[.int i s.toks, u] } := (hs2.2 _ (Nat.ne_of_gt elt)).trans ht1
  have kk : ∀ b o, b ∉ [e, it] -> s.heap.get? b = some o -> h2.get? b = some o := fun b o hc q => by
   have n1 : b ≠ e := fun z => hc (by simp [z])
   have n2 : b ≠ it := fun z => hc (by simp [z])
   exact (hs2.2 b n1).trans (hk1 b o n1 n2 q)
  have nb : ∀ c v, H c = some v -> c ∉ [e, it] := fun c v z hm => by
   rcases List.mem_cons.mp hm with z' | z'
   ·rw [z', fe.1] at z; cases z
   ·have e2 : c = it := by simpa using z'
    rw [e2, fi.1] at z; cases z
  have I2 : Inv X pins σ (upd H s.heap.objs.size (.tup [.int i, x])) { s with heap := h2, toks := s.toks + 1 } := by
   refine I.step (g' := s.gens) (d' := s.drawn) (ch := [e, it]) (fun b hb => ?_) (fun b o _ _ hc q _ => kk b o hc q) (fun b o _ _ hc q _ => ⟨o.slots, kk b o hc q⟩) (fun b o _ q n => by rw [zk (Nat.ne_of_lt (Heap.lt_size q))]; exact n) (fun b o hc q => ⟨o, kk b o hc q⟩)
    (fun b xs q => by rw [zk (zl q hfr)]; exact q) (fun b o u q => by rw [zk (zl q hfr)]; exact q) (fun b ps q => ⟨#[], by rw [zk (zl q hfr), q]; simp⟩) (fun m hm => ?_) (fun b v q => ?_) I.bare
   ·rcases List.mem_cons.mp hb with z | hb
    ·rw [z]; exact ⟨fe.2.2.2.1, fe.2.1, fe.2.2.2.2.1, fe.2.2.2.2.2⟩
    ·have e2 : b = it := by simpa using hb
     rw [e2]; exact ⟨fi.2.2.2.1, fi.2.1, fi.2.2.2.2.1, fi.2.2.2.2.2⟩
   ·obtain ⟨o, es, ep, ho, r⟩ := hm
    exact ⟨o, es, ep, kk _ o (by simp [Ne.symm fe.2.1, Ne.symm fi.2.1]) ho, r⟩
   ·by_cases hb : b = s.heap.objs.size
    ·subst hb
     rw [zt] at q
     cases q
     exact ⟨by show 2 <= sizeLine; decide, [.int i s.toks, u], .cons ⟨_, rfl⟩ (.cons ru .nil), _, ht2, rfl, ⟨_, rfl⟩, rfl⟩
    ·rw [zk hb] at q
     refine (I.hok b v q).stay (fun c o hc q' => kk c o ?_ q') (fun c z => by rw [zk (zl z hfr)]; exact z) fun c xs z => by rw [zk (zl z hfr)]; exact z
     rcases hc with z | z
     ·rw [z]; exact nb b v q
     ·exact nb c _ z
  refine ⟨.ref s.heap.objs.size, _, I2, rfl, ⟨s.heap.objs.size, x, hfr, rfl, fun ys hy => by rw [I.list_inj hy hq]; exact hx, rfl⟩, ⟨⟨_, by simpa using he2⟩, hit1.extBut hs2.extBut (Ne.symm hei)⟩, fun b hb => ?_⟩
  have hlt : b < s.heap.objs.size := by
   rcases List.mem_cons.mp hb with rfl | hb
   ·exact elt
   ·have e2 : b = it := by simpa using hb
    subst e2
    obtain ⟨o, e1, _⟩ := st
    exact Heap.lt_size e1
  rw [zk (Nat.ne_of_lt hlt)]
  exact (hf b hb).1
 done := by
  intro X hP hw hK hc i pins s σ H E I hf st hg
  subst hP hw hK
  obtain ⟨⟨old, he⟩, st⟩ := st
  obtain ⟨xs, hq, hx⟩ := hg
  obtain ⟨its, rv, p, hz⟩ := I.list hq
  obtain ⟨f0, f1, f2, f3, f4, f5⟩ := hf it (by simp)
  have hl := rv.length
  exact wpAny_pyNext_enum_end (I.ok.hd hc) he st p.isList (by simp; omega) fun h' eb => ⟨rfl, I.turned (t' := s.toks) (fun b o hb e => eb b o hb e) f0 f1 f3 f4 f5⟩
 self := fun _ _ _ _ _ st h => by
  obtain ⟨⟨old, he⟩, _⟩ := st
  exact wpAny_pyIter_enum he h
end L2
set_option Elab.async false
set_option linter.all false
set_option maxRecDepth 100000
set_option maxHeartbeats 4000000
namespace L2
open PySem PySem.Spec PyProof.Rows
section
variable {X : Cx} {pins : List (Addr × Obj)} {σ : St} {H : Hp} {s : Shared}
theorem Inv.yieldTup {ch : List Addr} {h2 : Heap} {tk : Nat} {T : Addr} {xs : List V} {us : List Value} (I : Inv X pins σ H s) (hf : ∀ b ∈ ch, jo X pins H b) (kk : ∀ b o, b ∉ ch -> s.heap.get? b = some o -> h2.get? b = some o) (hT : s.heap.objs.size <= T)
  (ht2 : h2.get? T = some { cls := .type "tuple", data := .seq us.toArray }) (rv : zu xs us) (hz : xs.length <= sizeLine) : Inv X pins σ (upd H T (.tup xs)) { s with heap := h2, toks := tk } := by
 have hfr : H T = none := I.hok.fresh hT
 have nb : ∀ c v, H c = some v -> c ∉ ch := fun c v z hm => by rw [(hf c hm).1] at z; cases z
 refine I.step (g' := s.gens) (d' := s.drawn) (ch := ch) (fun b hb => ⟨(hf b hb).2.2.2.1, (hf b hb).2.1, (hf b hb).2.2.2.2.1, (hf b hb).2.2.2.2.2⟩) (fun b o _ _ hc q _ => kk b o hc q) (fun b o _ _ hc q _ => ⟨o.slots, kk b o hc q⟩)
  (fun b o _ q n => by rw [zk (Nat.ne_of_lt (Nat.lt_of_lt_of_le (Heap.lt_size q) hT))]; exact n) (fun b o hc q => ⟨o, kk b o hc q⟩)
  (fun b xs q => by rw [zk (zl q hfr)]; exact q) (fun b o u q => by rw [zk (zl q hfr)]; exact q) (fun b ps q => ⟨#[], by rw [zk (zl q hfr), q]; simp⟩) (fun m hm => ?_) (fun b v q => ?_) I.bare
 ·obtain ⟨o, es, ep, ho, r⟩ := hm
  exact ⟨o, es, ep, kk _ o (fun z => (hf _ z).2.1 rfl) ho, r⟩
 ·by_cases hb : b = T
  ·subst hb
   rw [zt] at q
   cases q
   exact ⟨hz, us, rv, _, ht2, rfl, ⟨_, rfl⟩, rfl⟩
  ·rw [zk hb] at q
   refine (I.hok b v q).stay (fun c o hc q' => kk c o ?_ q') (fun c z => by rw [zk (zl z hfr)]; exact z) fun c xs z => by rw [zk (zl z hfr)]; exact z
   rcases hc with z | z
   ·rw [z]; exact nb b v q
   ·exact nb c _ z
theorem Inv.turnedL {ch : List Addr} {h2 : Heap} {tk : Nat} (I : Inv X pins σ H s) (hf : ∀ b ∈ ch, jo X pins H b) (kk : ∀ b o, b ∉ ch -> s.heap.get? b = some o -> h2.get? b = some o) : Inv X pins σ H { s with heap := h2, toks := tk } := by
 have nb : ∀ c v, H c = some v -> c ∉ ch := fun c v z hm => by rw [(hf c hm).1] at z; cases z
 refine I.step (g' := s.gens) (d' := s.drawn) (ch := ch) (fun b hb => ⟨(hf b hb).2.2.2.1, (hf b hb).2.1, (hf b hb).2.2.2.2.1, (hf b hb).2.2.2.2.2⟩) (fun b o _ _ hc q _ => kk b o hc q) (fun b o _ _ hc q _ => ⟨o.slots, kk b o hc q⟩)
  (fun b o _ q n => n) (fun b o hc q => ⟨o, kk b o hc q⟩) (fun b xs q => q) (fun b o u q => q) (fun b ps q => ⟨#[], by rw [q]; simp⟩) (fun m hm => ?_) (fun b v q => ?_) I.bare
 ·obtain ⟨o, es, ep, ho, r⟩ := hm
  exact ⟨o, es, ep, kk _ o (fun z => (hf _ z).2.1 rfl) ho, r⟩
 ·refine (I.hok b v q).stay (fun c o hc q' => kk c o ?_ q') (fun c z => z) fun c xs z => z
  rcases hc with z | z
  ·rw [z]; exact nb b v q
  ·exact nb c _ z
end
def Itz (K : PySem.W.Frag) (a b : Addr) : It :=
 ⟨fun i H => ∃ xs ys x y, SqL K H a xs /\ SqL K H b ys /\ xs[i]? = some x /\ ys[i]? = some y, fun i H z H' => ∃ p x y, H p = none /\ z = .ref p /\ (∀ xs, SqL K H a xs -> xs[i]? = some x) /\ (∀ ys, SqL K H b ys -> ys[i]? = some y) /\ H' = upd H p (.tup [x, y]),
  fun i H => ∃ xs ys, SqL K H a xs /\ SqL K H b ys /\ (xs.length <= i \/ ys.length <= i)⟩
theorem Vs {P : Program} {w : World} {K : PySem.W.Frag} {es : List Expr} {kt : Nat} {tp : Pos} (l1 l2 z TI TO i1 i2 : Addr) (D : ZipApart z TI TO i1 i2 l1 l2) :
  yI P w K (.Tuple es kt tp) (Itz K l1 l2) [z, TI, TO, i1, i2] z (fun i h => IsZip h z TI TO .none /\ IsPair h TI (.ref i1) (.ref i2) /\ (∃ a b, IsPair h TO a b) /\ h.IsListIter i1 l1 i /\ h.IsListIter i2 l2 i) where
 mem := by simp
 obj := fun i h st b hb => by
  obtain ⟨hz, hTI, ⟨a, c, hTO⟩, ⟨o1, e1, c1, d1⟩, ⟨o2, e2, c2, d2⟩⟩ := st
  simp only [List.mem_cons, List.not_mem_nil, or_false] at hb
  rcases hb with rfl | rfl | rfl | rfl | rfl
  ·exact ⟨_, hz, fun v q => by have q' : Data.fields _ = Data.cell v := q; cases q'⟩
  ·exact ⟨_, hTI, fun v q => by have q' : Data.seq _ _ = Data.cell v := q; cases q'⟩
  ·exact ⟨_, hTO, fun v q => by have q' : Data.seq _ _ = Data.cell v := q; cases q'⟩
  ·exact ⟨o1, e1, fun v q => by rw [d1] at q; cases q⟩
  ·exact ⟨o2, e2, fun v q => by rw [d2] at q; cases q⟩
 keep := fun i h h' st k => by
  obtain ⟨hz, hTI, ⟨a, c, hTO⟩, h1, h2⟩ := st
  exact ⟨k _ (by simp) _ hz, k _ (by simp) _ hTI, ⟨a, c, k _ (by simp) _ hTO⟩, h1.at fun o e => k _ (by simp) o e, h2.at fun o e => k _ (by simp) o e⟩
 item := by
  intro X hP hw hK hc i pins s σ H E I hf st hg
  subst hP hw hK
  obtain ⟨hz, hTI, ⟨a, c, hTO⟩, h1, h2⟩ := st
  obtain ⟨xs, ys, x, y, hq1, hq2, hx, hy⟩ := hg
  obtain ⟨its1, rv1, p1, hz1⟩ := I.list hq1
  obtain ⟨its2, rv2, p2, hz2⟩ := I.list hq2
  obtain ⟨u, hu, ru⟩ := rv1.get hx
  obtain ⟨v, hv, rvv⟩ := rv2.get hy
  refine wpAny_pyNext_zip_item D hz hTI hTO h1 h2 p1.isList p2.isList (x := u) (y := v) (by simpa using hu) (by simpa using hv) fun g1 b1 b2 b3 b4 b5 b6 hk => ?_
  refine ⟨.ref s.heap.objs.size, rfl, wpAny_letOwnedTupleGo_zip b1 fun g2 hz2' hs2 => ?_⟩
  replace hs2 : Heap.SameBut z g1 g2 := hs2
  have zlt : z < s.heap.objs.size := Heap.lt_size hz
  have I2 : Inv X pins σ (upd H s.heap.objs.size (.tup [x, y])) { s with heap := g2, toks := s.toks } := by
   refine I.yieldTup (us := [u, v]) hf (fun b o hb e => ?_) (Nat.le_refl _) ((hs2.2 _ (Nat.ne_of_gt zlt)).trans b5) (.cons ru (.cons rvv .nil)) (by show 2 <= sizeLine; decide)
   simp only [List.mem_cons, List.not_mem_nil, or_false, not_or] at hb
   exact (hs2.2 b hb.1).trans (hk b o hb.1 hb.2.2.1 hb.2.2.2.1 hb.2.2.2.2 e)
  refine ⟨.ref s.heap.objs.size, _, I2, rfl, ⟨s.heap.objs.size, x, y, I.hok.fresh (Nat.le_refl _), rfl, fun xs' h' => by rw [I.list_inj h' hq1]; exact hx, fun ys' h' => by rw [I.list_inj h' hq2]; exact hy, rfl⟩,
   ⟨hz2', (hs2.2 _ D.TIz).trans (hk _ _ D.TIz D.TITO D.TIi1 D.TIi2 hTI), ⟨_, _, (hs2.2 _ D.TOz).trans b2⟩, b3.extBut hs2.extBut D.i1z, b4.extBut hs2.extBut D.i2z⟩, fun b hb => ?_⟩
  have hlt : b < s.heap.objs.size := by
   simp only [List.mem_cons, List.not_mem_nil, or_false] at hb
   rcases hb with rfl | rfl | rfl | rfl | rfl
   ·exact zlt
   ·exact Heap.lt_size hTI
   ·exact Heap.lt_size hTO
   ·obtain ⟨o, e, _⟩ := h1; exact Heap.lt_size e
   ·obtain ⟨o, e, _⟩ := h2; exact Heap.lt_size e
  rw [zk (Nat.ne_of_lt hlt)]
  exact (hf b hb).1
 done := by
  intro X hP hw hK hc i pins s σ H E I hf st hg
  subst hP hw hK
  obtain ⟨hz, hTI, ⟨a, c, hTO⟩, h1, h2⟩ := st
  obtain ⟨xs, ys, hq1, hq2, hend⟩ := hg
  obtain ⟨its1, rv1, p1, hz1⟩ := I.list hq1
  obtain ⟨its2, rv2, p2, hz2⟩ := I.list hq2
  have l1 := rv1.length
  have l2 := rv2.length
  refine wpAny_pyNext_zip_end (I.ok.hd hc) D hz hTI hTO h1 h2 p1.isList p2.isList (by simp; omega) fun h' hk => ⟨rfl, I.turnedL (tk := s.toks) hf fun b o hb e => ?_⟩
  simp only [List.mem_cons, List.not_mem_nil, or_false, not_or] at hb
  exact hk b o hb.1 hb.2.2.1 hb.2.2.2.1 hb.2.2.2.2 e
 self := fun _ _ _ _ _ st h => wpAny_pyIter_zip st.1 h
theorem kF : bootBuiltins "enumerate" = some (.type "enumerate") := by decide +kernel
section
variable {X : Cx} {es : List Expr} {kt : Nat} {tp : Pos}
def K6 (K : PySem.W.Frag) (ta : TA) : TI := fun σ H R => ta σ H fun vs H1 => ∃ a, vs = [.ref a] /\ (∃ xs, SqL K H1 a xs) /\ R (Ite K a) H1
theorem KI {e : Expr} {ta : TA} {p pos : Pos} (hg : Gl X "enumerate") (hm : X.mg "enumerate" = none) (ha : PA X [e] ta) (hs : starEach [e] X.env = [(false, eval e X.env)] := by rfl) :
  PI X (.Tuple es kt tp) (.Call (.Name "enumerate" p) [e] [] pos) (K6 X.K ta) := by
 intro pins s σ H R I h
 refine Call_ (kA I hg hm (kF) (PyProof.Rows.callWith_type1 (thn (ha pos pins s σ H _ I h) fun us s1 ⟨vs, H1, I1, r1, q1⟩ => ?_) hs rfl))
 obtain ⟨a, e, ⟨xs, hq⟩, q⟩ := q1
 subst e
 obtain ⟨u, rfl, ru⟩ := jq r1
 cases ru
 obtain ⟨its, rv, pl, hz⟩ := I1.list hq
 refine call_enumerate_list pl.isList fun h' he hit hsz hk => wpAny_pyIter_enum he ?_
 have I2 : Inv X pins σ H1 { s1 with heap := h' } := I1.kept (t' := s1.toks) hk
 refine ⟨s1.heap.objs.size + 1, [s1.heap.objs.size + 1, s1.heap.objs.size], _, _, H1, rfl, I2, xj a _ _ (Nat.succ_ne_self _), ⟨⟨_, he⟩, hit⟩, fun b hb => ?_, q⟩
 have hb' : s1.heap.objs.size <= b := by
  simp only [List.mem_cons, List.not_mem_nil, or_false] at hb
  rcases hb with rfl | rfl
  ·exact Nat.le_succ _
  ·exact Nat.le_refl _
 exact I1.fpOk hb' (I1.hok.fresh hb')
end
theorem QW {K : PySem.W.Frag} {a : Addr} {xs : List V} {g : TG} {tb : TS} {D : j3} {σ : St} {H : Hp} (Pv : Nat -> St -> Hp -> Prop) (h0 : Pv 0 σ H) (hl : ∀ i σ H, i <= xs.length -> Pv i σ H -> SqL K H a xs)
  (hs : ∀ i x p σ H, xs[i]? = some x -> H p = none -> Pv i σ H -> g (.ref p) σ (upd H p (.tup [.int i, x])) fun σ2 H2 => tb { D with nx := Pv (i + 1), ct := Pv (i + 1), bk := D.nx } σ2 H2) (hd : ∀ σ H, Pv xs.length σ H -> D.nx σ H) :
  ∃ W : Nat -> Nat -> St -> Hp -> Prop, (∃ m, W 0 m σ H) /\ ∀ i m σ H, W i m σ H ->
   ((Ite K a).stop i H /\ D.nx σ H) \/ ((Ite K a).go i H /\ ∃ N : St -> Hp -> Prop, (∀ σ' H', N σ' H' -> ∃ m', m' < m /\ W (i + 1) m' σ' H') /\ ∀ x H', (Ite K a).yld i H x H' -> g x σ H' fun σ2 H2 => tb { D with nx := N, ct := N, bk := D.nx } σ2 H2) := by
 refine ⟨fun i m σ H => m = xs.length - i /\ i <= xs.length /\ Pv i σ H, ⟨xs.length, by simp, Nat.zero_le _, h0⟩, ?_⟩
 rintro i m σ H ⟨rfl, hi, p⟩
 have q := hl i σ H hi p
 by_cases hlt : i < xs.length
 ·refine .inr ⟨⟨xs, xs[i], q, by simp [hlt]⟩, Pv (i + 1), fun σ' H' p' => ⟨xs.length - (i + 1), by omega, rfl, hlt, p'⟩, fun x H' y => ?_⟩
  obtain ⟨pp, x', hp, rfl, y, rfl⟩ := y
  exact hs i x' pp σ _ (y xs q) hp p
 ·have e : i = xs.length := by omega
  subst e
  exact .inl ⟨⟨xs, q, Nat.le_refl _⟩, hd σ H p⟩
end L2
set_option Elab.async false
set_option linter.all false
set_option maxRecDepth 100000
set_option maxHeartbeats 4000000
namespace L2
open PySem PySem.Spec PyProof.Rows
def vj (p : Addr) (a b c : Int) : HO := .ext fun h => ∃ t u v, h.get? p = some { cls := .type "range", data := .fields #[.int a t, .int b u, .int c v] }
theorem Xa {P : Program} {w : World} {H : Hp} {h : Heap} {p : Addr} {a b c : Int} {t u v : Tok} (e : h.get? p = some { cls := .type "range", data := .fields #[.int a t, .int b u, .int c v] }) : qd P w H h p (vj p a b c) :=
 ⟨⟨t, u, v, e⟩, ⟨_, e⟩, fun h1 h2 ⟨t, u, v, q⟩ k => ⟨t, u, v, k _ q⟩⟩
def qR (a c : Int) (n : Nat) : List Int := (List.range n).map fun (i : Nat) => a + (i : Int) * c
theorem ql (a c : Int) (n : Nat) : (qR a c n).length = n := by simp [qR]
theorem vG {a c : Int} : ∀ {n : Nat} {acc : Array Value}, ItemsOf (fun (i : Nat) (v : Value) => ∃ t, v = Value.int (a + (i : Int) * c) t) acc n -> zu ((qR a c n).map V.int) acc.toList := by
 intro n acc ⟨hs, hi⟩
 have key : ∀ (k : Nat) (l : List Value), l.length = k -> (∀ (j : Nat) v, l[j]? = some v -> ∃ t, v = Value.int (a + (j : Int) * c) t) -> zu ((qR a c k).map V.int) l := by
  intro k
  induction k with
  | zero => intro l hl _; cases l with
   | nil => exact .nil
   | cons => simp at hl
  | succ k ih =>
   intro l hl hv
   obtain ⟨l', x, rfl⟩ : ∃ l' x, l = l' ++ [x] := ⟨l.dropLast, l.getLast (by intro e; rw [e] at hl; simp at hl), (List.dropLast_concat_getLast _).symm⟩
   have hl' : l'.length = k := by simpa using hl
   have e : (qR a c (k + 1)).map V.int = (qR a c k).map V.int ++ [.int (a + (k : Int) * c)] := by simp [qR, List.range_succ]
   rw [e]
   refine (ih l' hl' fun j v hj => hv j v ?_).append (.cons ?_ .nil)
   ·rw [List.getElem?_append_left (List.getElem?_eq_some_iff.mp hj).1]; exact hj
   ·obtain ⟨t, rfl⟩ := hv k x (by rw [List.getElem?_append_right (by omega), hl']; simp)
    exact ⟨t, rfl⟩
 exact key n acc.toList (by simpa using hs) fun j v hj => hi j v (by simpa using hj)
section
variable {X : Cx}
theorem yU : qA X (.type "range") (fun xs H Q => ∃ b : Int, xs = [.int b] /\ ∀ p, H p = none -> Q (.ref p) (upd H p (vj p 0 b 1))) := by
 intro pins s σ H xs us Q I r h
 obtain ⟨b, rfl, q⟩ := h
 obtain ⟨u, rfl, t, rfl⟩ := jq r
 refine call_range_1 ⟨.ref s.heap.objs.size, _, I.laid (fun b o e => Heap.get?_push_of_some _ e) (Nat.le_refl _) ?_, rfl, q _ (I.hok.fresh (Nat.le_refl _))⟩
 exact Xa (Heap.get?_push_size _ rfl)
theorem kO (hc : X.calm = true) : qA X (.type "list") (fun xs H Q => ∃ p a b c n, xs = [.ref p] /\ H p = some (vj p a b c) /\ Builtin.Range.small a b c = true /\ Builtin.Range.rangeSize a b c = ((n : Nat) : Int) /\ n <= 100000 /\ ∀ l, H l = none -> Q (.ref l) (upd H l (.lst ((qR a c n).map V.int)))) := by
 intro pins s σ H xs us Q I r h
 obtain ⟨p, a, b, c, n, rfl, hp, hs, hn, hz, q⟩ := h
 obtain ⟨u, rfl, rx⟩ := jq r
 cases rx
 obtain ⟨⟨t, u, v, e⟩, _⟩ := (show qd X.prog X.w H s.heap p (vj p a b c) from I.hok _ _ hp)
 refine call_list_range (I.ok.hd hc) e hs hn (Nat.le_trans hz (by decide)) fun h' tk acc c' hk he hi => ?_
 refine ⟨.ref s.heap.objs.size, _, I.laid hk (Nat.le_refl _) (show qd X.prog X.w _ h' _ (.lst ((qR a c n).map V.int)) from ⟨?_, acc.toList, c', vG hi, by simpa using he⟩), rfl, q _ (I.hok.fresh (Nat.le_refl _))⟩
 rw [List.length_map, ql]
 exact Nat.le_trans hz (by decide)
end
end L2
set_option Elab.async false
set_option linter.all false
set_option maxRecDepth 100000
set_option maxHeartbeats 4000000
namespace L2
open PySem PySem.Spec PyProof.Rows
section
variable {X : Cx}
def isT (t c : String) : Option Bool := if (Value.type t == Value.type c) = true then some true else if PySem.W.kitMeta c = true then (fastBuiltinMro t).map (·.contains (Value.type c)) else none
def vq (t : String) : List String -> Option Bool
 | [] => some false
 | c :: r => match isT t c with
  | some true => some true
  | some false => vq t r
  | none => none
end
end L2
set_option Elab.async false
set_option linter.all false
set_option maxRecDepth 100000
set_option maxHeartbeats 4000000
namespace L2
open PySem PySem.Spec PyProof.Rows
def At (K : PySem.W.Frag) (mg : Str -> Option Value) (x : Str) (st : Stmt) : Prop := ∃ f fd, Fun K x x st f fd /\ mg x = some (.ref f)
def Df (P : Program) (w : World) (K : PySem.W.Frag) (mg : Str -> Option Value) (base : Heap) (x : Str) (ps : List Str) (k : Nat) (sp : Sp) : Prop :=
 ∃ f fd, jn P w K mg base CX0 k f fd ps sp /\ xc K fd ps [] /\ PySem.W.keepIn K (.ref f) = true /\ mg x = some (.ref f) /\ ∃ oc od osl, K.lookup f = some ⟨oc, od, .func fd, osl⟩
theorem Df.mono {P : Program} {w : World} {K : PySem.W.Frag} {mg : Str -> Option Value} {base : Heap} {x : Str} {ps : List Str} {j k : Nat} {sp : Sp} (D : Df P w K mg base x ps j sp) (h : j <= k) : Df P w K mg base x ps k sp :=
 let ⟨f, fd, F, r⟩ := D
 ⟨f, fd, F.mono h, r⟩
section
variable {X : Cx} {k : Nat} {x : Str} {ps : List Str} {sp : Sp} {p pos : Pos} {e : Expr} {es : List Expr} {t : TA}
theorem zh (D : Df X.prog X.w X.K X.mg X.base x ps k sp) (hr : qC k X.A) (hg : Gl X x) (ha : PA X (e :: es) t) (hdb : (x == ("__debug__" : Str)) = false := by decide)
  (he : starEach (e :: es) X.env = (false, eval e X.env) :: starEach es X.env := by rfl) (hpl : (backTo pos (starEach es X.env)).any (·.1) = false := by rfl) : PE X (.Call (.Name x p) (e :: es) [] pos) (wf sp [] E0 t) := by
 obtain ⟨f, fd, F, b, kp, m, _⟩ := D
 exact JV F hr hg m kp b .nil Vr ha hdb he hpl
end
theorem v4 {P : Program} {w : World} {K : PySem.W.Frag} {mg : Str -> Option Value} {base : Heap} {x : Str} {st : Stmt} {N ps : List Str} {k : Nat} {sp : Sp} (a : At K mg x st) (S : zq N ps (zf st))
  (hb : ∀ (kV doc pm : Value) (an : Option Addr) (cdv ct : Value) (us : List Value), us.length = ps.length -> bindArgs (PySem.W.fnOf x x (qu st) (zV st) (zf st) .none kV doc pm an cdv ct) ⟨us, []⟩ = pure (ps.zip us))
  (len : ∀ vs H Q E, sp vs H Q E -> vs.length = ps.length)
  (hbody : ∀ (f : Addr) (cdv : Value) (A : Around) (outer : List Env) (s : Shared) (H : Hp) (vs : List V) (Q : VK) (E : XK), qC k (A.deeper (envOfC x (zf st) s.heap.objs.size f cdv)) -> sp vs H Q E ->
   ∃ t, PSs (yc CX0 P w K mg base N x (zf st) f cdv A outer s H E).nox (zV st) t /\ t { nx := fun _ H' => Q .non H', rt := Q } (qv N vs) H) : Df P w K mg base x ps (k + 1) sp := by
 obtain ⟨f, fd, F, m⟩ := a
 obtain ⟨oc, od, kV, doc, pm, an, cdv, ct, osl, _, lk, _⟩ := id F.ex
 exact ⟨f, fd, F.ok S len fun cdv A outer s H vs Q E => hbody f cdv A outer s H vs Q E, F.binds hb, F.kp, m, oc, od, osl, lk⟩
theorem at_mk {K : PySem.W.Frag} {mg : Str -> Option Value} {h : Heap} {x : Str} {st : Stmt} {f : Addr} {oc : Value} {od an : Option Addr} {osl : Array (Option Value)} {kV doc pm cdv ct : Value} (X : K.In h) (G : h.Ns mainGlobals mg) (a : PySem.W.nsIn K mainGlobals x = some (some (.ref f)))
  (l : K.lookup f = some ⟨oc, od, .func (PySem.W.fnOf x x (qu st) (zV st) (zf st) .none kV doc pm an cdv ct), osl⟩) (c : PySem.W.codeIn K cdv x = true) (k : PySem.W.keepIn K (.ref f) = true) : At K mg x st := ⟨f, _, ZK l c k, PySem.W.mg_of X G a⟩
theorem Df.fn {P : Program} {w : World} {K : PySem.W.Frag} {mg : Str -> Option Value} {base : Heap} {x : Str} {ps : List Str} {k : Nat} {sp : Sp} {f : Addr} {fd : FuncData} {oc : Value} {od : Option Addr} {osl : Array (Option Value)} (D : Df P w K mg base x ps k sp) (m : mg x = some (.ref f)) (l : K.lookup f = some ⟨oc, od, .func fd, osl⟩) : jn P w K mg base CX0 k f fd ps sp := by
 obtain ⟨f', fd', F, _, _, m', oc', od', osl', l'⟩ := D
 rw [m] at m'
 cases m'
 rw [l] at l'
 cases l'
 exact F
structure Blt (mg : Str -> Option Value) : Prop where
 len : mg "len" = none
 range : mg "range" = none
 list : mg "list" = none
 tuple : mg "tuple" = none
 int : mg "int" = none
 bool : mg "bool" = none
 str : mg "str" = none
 abs : mg "abs" = none
 divmod : mg "divmod" = none
 enumerate : mg "enumerate" = none
 zip : mg "zip" = none
 sorted : mg "sorted" = none
 max : mg "max" = none
 min : mg "min" = none
 isinstance : mg "isinstance" = none
 all : mg "all" = none
theorem blt_mk {K : PySem.W.Frag} {mg : Str -> Option Value} {h : Heap} (X : K.In h) (G : h.Ns mainGlobals mg) (z1 : PySem.W.nsIn K mainGlobals "len" = some none) (z2 : PySem.W.nsIn K mainGlobals "range" = some none) (z3 : PySem.W.nsIn K mainGlobals "list" = some none) (z4 : PySem.W.nsIn K mainGlobals "tuple" = some none) (z5 : PySem.W.nsIn K mainGlobals "int" = some none) (z6 : PySem.W.nsIn K mainGlobals "bool" = some none) (z7 : PySem.W.nsIn K mainGlobals "str" = some none) (z8 : PySem.W.nsIn K mainGlobals "abs" = some none)
  (z9 : PySem.W.nsIn K mainGlobals "divmod" = some none) (z10 : PySem.W.nsIn K mainGlobals "enumerate" = some none) (z11 : PySem.W.nsIn K mainGlobals "zip" = some none) (z12 : PySem.W.nsIn K mainGlobals "sorted" = some none) (z13 : PySem.W.nsIn K mainGlobals "max" = some none) (z14 : PySem.W.nsIn K mainGlobals "min" = some none) (z15 : PySem.W.nsIn K mainGlobals "isinstance" = some none) (z16 : PySem.W.nsIn K mainGlobals "all" = some none) : Blt mg :=
 ⟨PySem.W.mg_none_of X G z1, PySem.W.mg_none_of X G z2, PySem.W.mg_none_of X G z3, PySem.W.mg_none_of X G z4, PySem.W.mg_none_of X G z5, PySem.W.mg_none_of X G z6, PySem.W.mg_none_of X G z7, PySem.W.mg_none_of X G z8, PySem.W.mg_none_of X G z9, PySem.W.mg_none_of X G z10, PySem.W.mg_none_of X G z11, PySem.W.mg_none_of X G z12, PySem.W.mg_none_of X G z13, PySem.W.mg_none_of X G z14, PySem.W.mg_none_of X G z15, PySem.W.mg_none_of X G z16⟩
theorem QH : bootBuiltins "abs" = some (.builtin "abs") := by decide +kernel
theorem Zk : bootBuiltins "divmod" = some (.builtin "divmod") := by decide +kernel
theorem Xe : bootBuiltins "max" = some (.builtin "max") := by decide +kernel
theorem kz : bootBuiltins "len" = some (.builtin "len") := by decide +kernel
theorem wa : bootBuiltins "list" = some (.type "list") := by decide +kernel
theorem jE : bootBuiltins "tuple" = some (.type "tuple") := by decide +kernel
theorem QM : bootBuiltins "int" = some (.type "int") := by decide +kernel
theorem Z6 : bootBuiltins "range" = some (.type "range") := by decide +kernel
def Kp (bs : List Addr) (H H' : Hp) : Prop := ∀ c o, c ∉ bs -> H c = some o -> H' c = some o
theorem Kp.refl {bs : List Addr} {H : Hp} : Kp bs H H := fun _ _ _ h => h
theorem Kp.trans {bs : List Addr} {H H1 H2 : Hp} (a : Kp bs H H1) (b : Kp bs H1 H2) : Kp bs H H2 := fun c o n h => b c o n (a c o n h)
theorem Kp.new {bs : List Addr} {H : Hp} {p : Addr} (o : HO) (h : H p = none) : Kp bs H (upd H p o) := fun c u _ q => by rw [zk (zl q h)]; exact q
theorem Kp.set {bs : List Addr} {H : Hp} {p : Addr} (o : HO) (h : p ∈ bs) : Kp bs H (upd H p o) := fun c u n q => by have hne : c ≠ p := (fun e => n (by rw [e]; exact h)); rw [zk hne]; exact q
theorem Kp.free {H H' : Hp} (e : Kp [] H H') {l : Addr} (h : H' l = Option.none) : H l = Option.none := by
 cases q : H l with
 | none => rfl
 | some o => rw [e l o (by simp) q] at h; cases h
def Bx (H : Hp) (b : Addr) (N : Nat) : Prop := ∃ x y z : Int, H b = some (.lst [.int x, .int y, .int z]) /\ 0 <= x /\ 0 <= y /\ y < 2147483648 /\ 0 <= z /\ z <= N
abbrev il (ns : List Int) : HO := .lst (ns.map V.int)
end L2
set_option Elab.async false
set_option linter.all false
set_option maxRecDepth 100000
set_option maxHeartbeats 4000000
namespace L2
open PySem PySem.Spec PyProof.Rows
theorem cxK {CX : CXT} {P : Program} {w : World} {K : PySem.W.Frag} {mg : Str -> Option Value} {base : Heap} {N : List Str} {qual : Str} {scope : Scope} {f : Addr} {cd : Value} {A : Around} {outer : List Env} {s : Shared} {H : Hp} {E : XK} :
  (yc CX P w K mg base N qual scope f cd A outer s H E).K = K := rfl
def VP (J : It) (g : TG) (tb : TS) (D : j3) (σ : St) (H : Hp) : Prop := ∃ W : Nat -> Nat -> St -> Hp -> Prop, (∃ m, W 0 m σ H) /\ ∀ i m σ H, W i m σ H ->
 (J.stop i H /\ D.nx σ H) \/ (J.go i H /\ ∃ N : St -> Hp -> Prop, (∀ σ' H', N σ' H' -> ∃ m', m' < m /\ W (i + 1) m' σ' H') /\ ∀ x H', J.yld i H x H' -> g x σ H' fun σ2 H2 => tb { D with nx := N, ct := N, bk := D.nx } σ2 H2)
theorem vR {wi : TI} {g : TG} {tb : TS} {D : j3} {σ : St} {H : Hp} : Xc wi g tb D σ H = wi σ H (fun J H1 => VP J g tb D σ H1) := rfl
def Vq (J : It) (g : TG) (tt : TT) (te : TE) (D : Addr) (Q : VK) (τ : St) (H : Hp) : Prop := ∃ W : Nat -> Nat -> St -> Hp -> Prop, (∃ m, W 0 m τ H) /\ ∀ i m τ H2, W i m τ H2 ->
 (J.stop i H2 /\ Q (.ref D) H2) \/ (J.go i H2 /\ ∃ N : St -> Hp -> Prop, (∀ τ' H', N τ' H' -> ∃ m', m' < m /\ W (i + 1) m' τ' H') /\ ∀ x H', J.yld i H2 x H' -> g x τ H' fun τ2 H3 => tt τ2 H3 fun b H4 =>
  if b = true then te τ2 H4 fun v H5 => ∃ ys, H5 D = some (.lst ys) /\ ys.length < sizeLine /\ N τ2 (upd H5 D (.lst (ys ++ [v]))) else N τ2 H4)
theorem QB {ts : List Nat} {wi : TI} {g : TG} {tt : TT} {te : TE} {σ : St} {H : Hp} {Q : VK} :
  yB ts wi g tt te σ H Q = wi σ H (fun J H1 => ∀ D, H1 D = none -> Vq J g tt te D Q (clr ts σ) (upd H1 D (.lst []))) := rfl
theorem Km {K : PySem.W.Frag} {a : Addr} {xs : List V} {g : TG} {tb : TS} {D : j3} {σ : St} {H : Hp} (Pv : Nat -> St -> Hp -> Prop) (h0 : Pv 0 σ H) (hl : ∀ i σ H, i <= xs.length -> Pv i σ H -> SqL K H a xs)
  (hs : ∀ i x p σ H, xs[i]? = some x -> H p = none -> Pv i σ H -> g (.ref p) σ (upd H p (.tup [.int i, x])) fun σ2 H2 => tb { D with nx := Pv (i + 1), ct := Pv (i + 1), bk := D.nx } σ2 H2) (hd : ∀ σ H, Pv xs.length σ H -> D.nx σ H) : VP (Ite K a) g tb D σ H := QW Pv h0 hl hs hd
end L2
set_option Elab.async false
set_option linter.all false
set_option maxRecDepth 100000
set_option maxHeartbeats 4000000
namespace L2
open PySem PySem.Spec PyProof.Rows
theorem xq {X : Cx} : qA X (.type "int") (fun xs H Q => ∃ k, xs = [.bl k] /\ Q (.int (if k then 1 else 0)) H) := by
 intro pins s σ H xs us Q I r h
 exact Zr pins s σ H xs us Q I r (.inr h)
end L2
set_option Elab.async false
set_option linter.all false
set_option maxRecDepth 100000
set_option maxHeartbeats 4000000
namespace L2
open PySem PySem.Spec PyProof.Rows
def qI (n : Nat) (ns : List Int) : Prop := ns.length = n /\ ns.Nodup /\ ∀ x ∈ ns, 0 <= x /\ x < (n : Int)
theorem yo : ∀ (n : Nat) (l : List Int), l.Nodup -> (∀ x ∈ l, 0 <= x /\ x < (n : Int)) -> l.length <= n
 | 0, l, _, h => by
  cases l with
  | nil => exact Nat.le_refl _
  | cons x r => have := h x List.mem_cons_self; omega
 | n + 1, l, hn, h => by
  have ih := yo n (l.erase (n : Int)) (hn.erase _) (fun x hx => by
   have h1 := h x (List.mem_of_mem_erase hx)
   have h2 : x ≠ (n : Int) := fun e => by
    subst e
    exact (hn.not_mem_erase) hx
   omega)
  by_cases hm : (n : Int) ∈ l
  ·rw [List.length_erase_of_mem hm] at ih; omega
  ·rw [List.erase_of_not_mem hm] at ih; omega
theorem qI.surj {n : Nat} {ns : List Int} (h : qI n ns) {x : Int} (h0 : 0 <= x) (h1 : x < n) : x ∈ ns := by
 obtain ⟨l, d, b⟩ := h
 refine Classical.byContradiction fun hm => ?_
 have := yo n (x :: ns) (List.nodup_cons.mpr ⟨hm, d⟩) (fun y hy => by
  rcases List.mem_cons.mp hy with rfl | hy
  ·exact ⟨h0, h1⟩
  ·exact b y hy)
 rw [List.length_cons, l] at this
 omega
theorem qI.getD {n : Nat} {ns : List Int} (h : qI n ns) {i : Nat} (hi : i < n) : 0 <= ns.getD i 0 /\ ns.getD i 0 < n := by
 obtain ⟨l, d, b⟩ := h
 have hi' : i < ns.length := by omega
 have e : ns.getD i 0 = ns[i] := by rw [List.getD_eq_getElem?_getD, List.getElem?_eq_getElem hi']; rfl
 rw [e]
 exact b _ (List.getElem_mem hi')
theorem qo {ns : List Int} {i : Nat} (h : i < ns.length) : ns.getD i 0 = ns[i] := by rw [List.getD_eq_getElem?_getD, List.getElem?_eq_getElem h]; rfl
theorem qI.inj {n : Nat} {ns : List Int} (h : qI n ns) {i j : Nat} (hi : i < n) (hj : j < n) (e : ns.getD i 0 = ns.getD j 0) : i = j := by
 obtain ⟨l, d, b⟩ := h
 rw [qo (by omega), qo (by omega)] at e
 exact (List.getElem_inj d).mp e
theorem yL {n : Nat} {ns : List Int} (l : ns.length = n) (b : ∀ i, i < n -> 0 <= ns.getD i 0 /\ ns.getD i 0 < n) (j : ∀ i k, i < n -> k < n -> ns.getD i 0 = ns.getD k 0 -> i = k) : qI n ns := by
 refine ⟨l, ?_, fun x hx => ?_⟩
 ·rw [List.nodup_iff_pairwise_ne, List.pairwise_iff_getElem]
  intro i k hi hk hik e
  have := j i k (by omega) (by omega) (by rw [qo hi, qo hk]; exact e)
  omega
 ·obtain ⟨i, hi, rfl⟩ := List.mem_iff_getElem.mp hx
  have := b i (by omega)
  rwa [qo hi] at this
theorem qI.ex {n : Nat} {ns : List Int} (h : qI n ns) {j : Nat} (hj : j < n) : ∃ i, i < n /\ ns.getD i 0 = (j : Int) := by
 have hm := h.surj (x := (j : Int)) (by omega) (by omega)
 obtain ⟨i, hi, e⟩ := List.mem_iff_getElem.mp hm
 exact ⟨i, by rw [<- h.1]; exact hi, by rw [qo hi]; exact e⟩
theorem Qa {ns : List Int} {i j : Nat} {v : Int} (h : i < ns.length) : (ns.set i v).getD j 0 = if j = i then v else ns.getD j 0 := by
 rw [List.getD_eq_getElem?_getD, List.getElem?_set]
 by_cases e : i = j
 ·subst e; simp [h]
 ·rw [if_neg e, if_neg (Ne.symm e), List.getD_eq_getElem?_getD]
def vC : V -> V -> V -> Hp -> (Hp -> Prop) -> Prop := fun o i v H Q => ∃ k, i = .int k /\ ∃ p, o = .ref p /\ ∃ xs, H p = some (.lst xs) /\ ∃ j, ixN xs.length k = some j /\ Q (upd H p (.lst (xs.set j v)))
section
variable {X : Cx}
theorem qO {es : List Expr} {k : Nat} {t : TGs} {pos : Pos} {K : PySem.W.Frag} (n : Nat) (h : X.K = K) (hc : X.calm = true) (hs : PGs X es t) (hn : (assignEach es X.env).length = n := by rfl) (hst : (assignEach es X.env).findIdx? (·.1) = none := by rfl) : PG X (.Tuple es k pos) (JG K n t) := h ▸ YL hc hs hn hst
theorem qf : YN X vC := by
 intro pins s σ H o i v ov iv u Q I ro ri rv h
 obtain ⟨k, e1, p, e2, xs, h1, j, h2, q⟩ := h
 exact Jj pins s σ H o i v ov iv u Q I ro ri rv ⟨p, xs, k, j, e2, e1, h1, h2, q⟩
theorem kR {K : PySem.W.Frag} (h : X.K = K) : qA X (.builtin "len") (fun xs H Q => ∃ p ys, xs = [.ref p] /\ (SqL K H p ys \/ SqT K H p ys) /\ Q (.int ys.length) H) := h ▸ zX
end
end L2
set_option Elab.async false
set_option linter.all false
set_option maxRecDepth 100000
set_option maxHeartbeats 4000000
namespace L2
open PySem PySem.Spec PyProof.Rows
def kn (os bs : List Int) : Prop := bs.length = os.length /\ ∀ i, i < os.length -> bs.getD (os.getD i 0).toNat 0 = (i : Int)
end L2
set_option Elab.async false
set_option linter.all false
set_option maxRecDepth 100000
set_option maxHeartbeats 4000000
namespace L2
open PySem PySem.Spec PyProof.Rows
section
variable {X : Cx}
def vQ (K : PySem.W.Frag) : R2 := fun x y H Q => ∃ p xs i v, x = .ref p /\ y = .int i /\ (SqL K H p xs \/ SqT K H p xs) /\ atI xs i = some v /\ Q v H
theorem jr : IxR X (vQ X.K) := by
 intro value slice pins s σ H x y v u Q I rx ry h hs
 obtain ⟨p, xs, i, z, e1, e2, hq | hq, he, q⟩ := h
 ·exact zT value slice pins s σ H x y v u Q I rx ry ⟨p, xs, i, z, e1, e2, hq, he, q⟩ hs
 ·exact XU value slice pins s σ H x y v u Q I rx ry ⟨p, xs, i, z, e1, e2, hq, he, q⟩ hs
theorem Qz {K : PySem.W.Frag} (h : X.K = K) : IxR X (vQ K) := h ▸ jr
end
end L2
set_option Elab.async false
set_option linter.all false
set_option maxRecDepth 100000
set_option maxHeartbeats 4000000
namespace L2
open PySem PySem.Spec PyProof.Rows
end L2
set_option Elab.async false
set_option linter.all false
set_option maxRecDepth 100000
set_option maxHeartbeats 4000000
namespace L2
open PySem PySem.Spec PyProof.Rows
end L2
set_option Elab.async false
set_option linter.all false
set_option maxRecDepth 100000
set_option maxHeartbeats 4000000
namespace L2
open PySem PySem.Spec PyProof.Rows
section
variable {P : Program} {w : World} {A : Around} {E : Value -> Shared -> Prop} {s : Shared} {j t : Addr} {i : Nat} {its : Array Value} {Q : Value -> Shared -> Prop}
theorem xF {x : Value} (hj : s.heap.IsTupleIter j t i) (ht : s.heap.IsTuple t its) (hx : its[i]? = some x) (hQ : ∀ h', h'.IsTupleIter j t (i + 1) -> Heap.SameBut j s.heap h' -> Q x { s with heap := h' }) : wpAny (model P w) A (Builtin.SmallTypes.nextOf (.ref j)) Q E s := by
 obtain ⟨o, ho, hc, hd⟩ := id hj
 obtain ⟨ot, hot, _, nt, hdt⟩ := ht
 unfold Builtin.SmallTypes.nextOf
 refine wpAny_bind (wpAny_callSpecial?_slot (name := Str.ofString "__next__") hj.typeIs F.slot_tuple_iterator_next (wpAny_call_entry F.slot_tuple_iterator_next hj.typeIs F.entry_tuple_iterator_next ?_ (F.args_tuple_iterator_next_1 _)))
 refine wpAny_bind (m := field (.ref j) 0) (wpAny_field ho hd (x := .ref t) rfl ?_); show wpAny _ _ (if (Value.ref t == Value.none) = true then _ else _) _ _ s; rw [if_neg (show ¬ ((Value.ref t == Value.none) = true) from Bool.false_ne_true)]
 refine wpAny_bind (m := field (.ref j) 1) (wpAny_field ho hd (x := .int i 0) rfl ?_); refine wpAny_bind (m := seqItems? (.ref t)) (wpAny_seqItems hot hdt ?_); simp only [Int.toNat_natCast, hx]
 refine wpAny_bind (wpAny_setField ho hd (by simp) (wpAny_pure ⟨x, rfl, wpAny_pure (hQ _ ⟨_, Heap.get?_update_self _ ho (Obj.isFreed_of_fields (Obj.data_mapFields hd _)), (Obj.cls_mapFields ..).trans hc, by rw [Obj.data_mapFields hd]; simp [rawInt]⟩ (Heap.SameBut.update ..))⟩))
theorem jZ (hh : A.handled = none) (hj : s.heap.IsTupleIter j t i) (ht : s.heap.IsTuple t its) (hx : its[i]? = none) (hE : ∀ h' e, Heap.ExtBut j s.heap h' -> (∃ o, h'.get? e = some o /\ o.cls = .type "StopIteration") -> E (.ref e) { s with heap := h' }) : wpAny (model P w) A (Builtin.SmallTypes.nextOf (.ref j)) Q E s := by
 obtain ⟨o, ho, hc, hd⟩ := id hj
 obtain ⟨ot, hot, _, nt, hdt⟩ := ht
 unfold Builtin.SmallTypes.nextOf
 refine wpAny_bind (wpAny_callSpecial?_slot (name := Str.ofString "__next__") hj.typeIs F.slot_tuple_iterator_next (wpAny_call_entry F.slot_tuple_iterator_next hj.typeIs F.entry_tuple_iterator_next ?_ (F.args_tuple_iterator_next_1 _)))
 refine wpAny_bind (m := field (.ref j) 0) (wpAny_field ho hd (x := .ref t) rfl ?_); show wpAny _ _ (if (Value.ref t == Value.none) = true then _ else _) _ _ s; rw [if_neg (show ¬ ((Value.ref t == Value.none) = true) from Bool.false_ne_true)]
 refine wpAny_bind (m := field (.ref j) 1) (wpAny_field ho hd (x := .int i 0) rfl ?_); refine wpAny_bind (m := seqItems? (.ref t)) (wpAny_seqItems hot hdt ?_); simp only [Int.toNat_natCast, hx]
 refine wpAny_bind (wpAny_rule (wpAny_bind (wpAny_setField ho hd (by simp) ?_))); refine wpAny_bind (m := newExc (.type "StopIteration") []) ?_; simp only [newExc, newTuple]; refine wpAny_bind (wpAny_newObj_type ?_ (by size_fits)); refine wpAny_bind (m := firstArgMember _ _) (wpAny_of_eq (a := Value.none) (by first | rfl | (simp only [firstArgMember]; rfl)) ?_); refine wpAny_newObj_type ?_ (by size_fits); simp only [raiseNew]; refine wpAny_bind (wpAny_handled ?_)
 (first | rw [show A.in1.handled = none from hh] | rw [hh]); refine wpAny_bind (wpAny_pure (wpAny_throw ?_)); exact hE _ _ (((Heap.SameBut.update ..).extBut.push _).push _) ⟨_, Heap.get?_push_size _ rfl, rfl⟩
end
theorem Zt {P : Program} {w : World} {A : Around} (hh : A.handled = none) (j t : Addr) (hne : t ≠ j) (its : Array Value) :
  Draws P w A j [j, t] its.size (fun i v => its[i]? = some v) (fun i h => h.IsTupleIter j t i /\ h.IsTuple t its) where
 live := fun _ _ st => let ⟨o, ho, _⟩ := st.1; ⟨o, ho⟩
 frame := fun _ _ _ st hk => ⟨st.1.at fun o e => hk j (by simp) o e, let ⟨o, ho, r⟩ := st.2; ⟨o, hk t (by simp) o ho, r⟩⟩
 item := fun i s Q E hi st hQ => by
  refine xF st.1 st.2 (x := its[i]) (by simp [hi]) fun h' hit' hs' => ?_
  exact hQ _ h' s.toks (by simp [hi]) ⟨hit', let ⟨o, ho, r⟩ := st.2; ⟨o, (hs'.2 t hne).trans ho, r⟩⟩ hs'
 done := fun s Q E st hE => jZ hh st.1 st.2 (by simp) hE
open AutoSeq1 (wpAny_loadPart') in
theorem Zb (l : Addr) (its : Array Value) (n : Nat) (dct : Option Addr) (sl : Array (Option Value)) :
  Meets (Builtin.«enumerate.__new__» ⟨[.type "enumerate", .ref l], []⟩) (fun _ R s => s.heap.get? l = some { cls := .type "tuple", dict := dct, data := .seq its n, slots := sl } /\ R (.ok (.ret (.ref (s.heap.push { cls := .type "tuple_iterator", data := .fields #[.ref l, .int 0 0] }).objs.size))) { s with heap := (s.heap.push { cls := .type "tuple_iterator", data := .fields #[.ref l, .int 0 0] }).push { cls := .type "enumerate", data := .fields #[.none, .bool false, .ref s.heap.objs.size, rawInt 0, .none, .none] } }) :=
 .of_wp fun prog w A R s h => by
  obtain ⟨hp, g, d, tk, os⟩ := s
  obtain ⟨hl, h⟩ := h
  have hsub := sub_enumerate
  have hT : Heap.IsTuple (Shared.heap ⟨hp, g, d, tk, os⟩) l its := ⟨_, hl, rfl, n, rfl⟩
  wp_walk using wpAny_loadPart' hl
  refine wpAny_stack_any fun st => wpAny_pure ?_
  split
  ·rename_i c _ _ _ _ _
   cases (c == Value.type "enumerate")
   ·wp_walk using wpAny_loadPart' hl, wpAny_pyIter_tuple hT; exact ⟨_, rfl, h⟩
   ·wp_walk using wpAny_loadPart' hl, wpAny_pyIter_tuple hT; exact ⟨_, rfl, h⟩
  ·wp_walk using wpAny_loadPart' hl, wpAny_pyIter_tuple hT; exact ⟨_, rfl, h⟩
theorem vD {P : Program} {w : World} {A : Around} {E : Value -> Shared -> Prop} {s : Shared} {l : Addr} {its : Array Value} {Q : Value -> Shared -> Prop} (hT : s.heap.IsTuple l its)
  (h : ∀ h', IsEnum h' (s.heap.objs.size + 1) s.heap.objs.size 0 .none -> h'.IsTupleIter s.heap.objs.size l 0 -> (∀ b o, s.heap.get? b = some o -> h'.get? b = some o) -> Q (.ref (s.heap.objs.size + 1)) { s with heap := h' }) :
  wpAny (model P w) A (call (.type "enumerate") [.ref l]) Q E s := by
 obtain ⟨⟨c, dct, dt, sl⟩, hl, hc, n, hd⟩ := hT
 replace hc : c = .type "tuple" := hc
 replace hd : dt = .seq its n := hd
 subst hc hd
 refine callType_new F.called_enumerate (by decide) (F.typeCall_enumerate_1 _) (F.newCall_enumerate_1 _) (fun obj => F.args_object_init_2 obj _) F.entry_enumerate_new (Zb l its n dct sl) ⟨hl, ?_⟩
 have hz : (s.heap.push { cls := .type "tuple_iterator", data := .fields #[.ref l, .int 0 0] }).objs.size = s.heap.objs.size + 1 := Heap.size_push ..
 show _ /\ _
 rw [hz]
 have he : IsEnum ((s.heap.push { cls := .type "tuple_iterator", data := .fields #[.ref l, .int 0 0] }).push { cls := .type "enumerate", data := .fields #[.none, .bool false, .ref s.heap.objs.size, rawInt 0, .none, .none] }) (s.heap.objs.size + 1) s.heap.objs.size 0 .none := by
  have hg := Heap.get?_push_size (s.heap.push { cls := .type "tuple_iterator", data := .fields #[.ref l, .int 0 0] }) (o := { cls := .type "enumerate", data := .fields #[.none, .bool false, .ref s.heap.objs.size, rawInt 0, .none, .none] }) rfl
  rw [hz] at hg; exact hg
 exact ⟨⟨_, he, rfl⟩, h _ he ⟨_, Heap.get?_push_of_some _ (Heap.get?_push_size _ rfl), rfl, rfl⟩ fun b o x => Heap.get?_push_of_some _ (Heap.get?_push_of_some _ x)⟩
theorem Zi {P : Program} {w : World} {A : Around} {E : Value -> Shared -> Prop} {s : Shared} {e j t : Addr} {i : Nat} {its : Array Value} {old : Value} {Q : Option Value -> Shared -> Prop} (hh : A.handled = none)
  (he : IsEnum s.heap e j i old) (hj : s.heap.IsTupleIter j t i) (ht : s.heap.IsTuple t its) (hx : its[i]? = none) (hQ : ∀ h', Heap.ExtBut j s.heap h' -> Q none { s with heap := h' }) : wpAny (model P w) A (pyNext (.ref e)) Q E s := by
 have hT : s.TypeIs (.ref e) "enumerate" := ⟨_, he, rfl⟩
 unfold pyNext
 refine wpAny_bind (wpAny_attempt (wpAny_callSpecial?_slot (name := Str.ofString "__next__") hT F.slot_enumerate_next (wpAny_call_entry F.slot_enumerate_next hT F.entry_enumerate_next ?_ (F.args_enumerate_next_1 _))))
 refine wpAny_bind (m := field (.ref e) 2) (wpAny_field he rfl (x := .ref j) rfl ?_); refine wpAny_bind (jZ hh hj ht hx fun h' x he' hx' => ?_)
 obtain ⟨o, ho, hc⟩ := hx'
 refine wpAny_bind (wpAny_isInstance (T := "StopIteration") (b := true) ⟨o, ho, hc⟩ isSubtype_stop ?_); exact wpAny_pure (hQ _ he')
def Y3 (K : PySem.W.Frag) (a : Addr) : It :=
 ⟨fun i H => ∃ xs x, SqT K H a xs /\ xs[i]? = some x, fun i H y H' => ∃ p x, H p = none /\ y = .ref p /\ (∀ xs, SqT K H a xs -> xs[i]? = some x) /\ H' = upd H p (.tup [.int i, x]), fun i H => ∃ xs, SqT K H a xs /\ xs.length <= i⟩
theorem vI {P : Program} {w : World} {K : PySem.W.Frag} {es : List Expr} {kt : Nat} {tp : Pos} (a e it : Addr) (hei : e ≠ it) (hea : e ≠ a) (hai : a ≠ it) : yI P w K (.Tuple es kt tp) (Y3 K a) [e, it] e (fun i h => (∃ old, IsEnum h e it (i : Nat) old) /\ h.IsTupleIter it a i) where
 mem := by simp
 obj := fun i h st b hb => by
  obtain ⟨⟨old, he⟩, ⟨o, e1, c, d⟩⟩ := st
  rcases List.mem_cons.mp hb with rfl | hb
  ·exact ⟨_, he, fun v z => by have z' : Data.fields _ = Data.cell v := z; cases z'⟩
  ·have e2 : b = it := by simpa using hb
   subst e2
   exact ⟨o, e1, fun v z => by rw [d] at z; cases z⟩
 keep := fun i h h' st k => by
  obtain ⟨⟨old, he⟩, st⟩ := st
  exact ⟨⟨old, k e (by simp) _ he⟩, st.at fun o e => k it (by simp) o e⟩
 item := by
  intro X hP hw hK hc i pins s σ H E I hf st hg
  subst hP hw hK
  obtain ⟨⟨old, he⟩, st⟩ := st
  obtain ⟨xs, x, hq, hx⟩ := hg
  obtain ⟨its, rv, p, hz⟩ := I.tuple hq
  obtain ⟨u, hu, ru⟩ := rv.get hx
  have hlt : i < its.toArray.size := by
   have := (List.getElem?_eq_some_iff.mp hu).1
   simpa using this
  refine wpAny_pyNext_enum_itemD (Zt (A := X.A.in1) (I.ok.hd hc) it a hai its.toArray) he ⟨st, p⟩ hlt hei (by simp [hei, hea]) fun x' h1 tk hP heo hit1 ht1 hz1 hk1 => ?_
  have hxu : x' = u := by
   have h1' : its[i]? = some x' := by simpa using hP
   rw [hu] at h1'; cases h1'; rfl
  subst hxu
  refine ⟨.ref s.heap.objs.size, rfl, wpAny_letOwnedTupleGo_enum heo fun h2 he2 hs2 => ?_⟩
  replace hs2 : Heap.SameBut e h1 h2 := hs2
  have elt : e < s.heap.objs.size := Heap.lt_size he
  have ht2 := (hs2.2 _ (Nat.ne_of_gt elt)).trans ht1
  have I2 : Inv X pins σ (upd H s.heap.objs.size (.tup [.int i, x])) { s with heap := h2, toks := tk + 1 } := by
   refine I.yieldTup (us := [.int i tk, x']) hf (fun b o hb q => ?_) (Nat.le_refl _) ht2 (.cons ⟨_, rfl⟩ (.cons ru .nil)) (by show 2 <= sizeLine; decide)
   have n1 : b ≠ e := fun z => hb (by simp [z])
   have n2 : b ≠ it := fun z => hb (by simp [z])
   exact (hs2.2 b n1).trans (hk1 b o n1 n2 q)
  refine ⟨.ref s.heap.objs.size, _, I2, rfl, ⟨s.heap.objs.size, x, I.hok.fresh (Nat.le_refl _), rfl, fun ys hy => by rw [I.tuple_inj hy hq]; exact hx, rfl⟩, ⟨⟨_, by simpa using he2⟩, hit1.1.extBut hs2.extBut (Ne.symm hei)⟩, fun b hb => ?_⟩
  have hlt : b < s.heap.objs.size := by
   rcases List.mem_cons.mp hb with rfl | hb
   ·exact elt
   ·have e2 : b = it := by simpa using hb
    subst e2
    obtain ⟨o, e1, _⟩ := st
    exact Heap.lt_size e1
  rw [zk (Nat.ne_of_lt hlt)]
  exact (hf b hb).1
 done := by
  intro X hP hw hK hc i pins s σ H E I hf st hg
  subst hP hw hK
  obtain ⟨⟨old, he⟩, st⟩ := st
  obtain ⟨xs, hq, hx⟩ := hg
  obtain ⟨its, rv, p, hz⟩ := I.tuple hq
  obtain ⟨f0, f1, f2, f3, f4, f5⟩ := hf it (by simp)
  have hl := rv.length
  exact Zi (I.ok.hd hc) he st p (by simp; omega) fun h' eb => ⟨rfl, I.turned (t' := s.toks) (fun b o hb e => eb b o hb e) f0 f1 f3 f4 f5⟩
 self := fun _ _ _ _ _ st h => by
  obtain ⟨⟨old, he⟩, _⟩ := st
  exact wpAny_pyIter_enum he h
section
variable {X : Cx} {es : List Expr} {kt : Nat} {tp : Pos}
def yd (K : PySem.W.Frag) (ta : TA) : TI := fun σ H R => ta σ H fun vs H1 => ∃ a, vs = [.ref a] /\ (((∃ xs, SqL K H1 a xs) /\ R (Ite K a) H1) \/ ((∃ xs, SqT K H1 a xs) /\ R (Y3 K a) H1))
theorem xx {e : Expr} {ta : TA} {p pos : Pos} (hg : Gl X "enumerate") (hm : X.mg "enumerate" = none) (ha : PA X [e] ta) (hs : starEach [e] X.env = [(false, eval e X.env)] := by rfl) :
  PI X (.Tuple es kt tp) (.Call (.Name "enumerate" p) [e] [] pos) (yd X.K ta) := by
 intro pins s σ H R I h
 refine Call_ (kA I hg hm (kF) (PyProof.Rows.callWith_type1 (thn (ha pos pins s σ H _ I h) fun us s1 ⟨vs, H1, I1, r1, q1⟩ => ?_) hs rfl))
 obtain ⟨a, e, q⟩ := q1
 subst e
 obtain ⟨u, rfl, ru⟩ := jq r1
 cases ru
 have hb' : ∀ b ∈ [s1.heap.objs.size + 1, s1.heap.objs.size], s1.heap.objs.size <= b := by
  intro b hb
  simp only [List.mem_cons, List.not_mem_nil, or_false] at hb
  omega
 rcases q with ⟨⟨xs, hq⟩, q⟩ | ⟨⟨xs, hq⟩, q⟩
 ·obtain ⟨its, rv, pl, hz⟩ := I1.list hq
  refine call_enumerate_list pl.isList fun h' he hit hsz hk => wpAny_pyIter_enum he ?_
  have I2 : Inv X pins σ H1 { s1 with heap := h' } := I1.kept (t' := s1.toks) hk
  exact ⟨s1.heap.objs.size + 1, [s1.heap.objs.size + 1, s1.heap.objs.size], _, _, H1, rfl, I2, xj a _ _ (Nat.succ_ne_self _), ⟨⟨_, he⟩, hit⟩, fun b hb => I1.fpOk (hb' b hb) (I1.hok.fresh (hb' b hb)), q⟩
 ·obtain ⟨its, rv, pl, hz⟩ := I1.tuple hq
  have alt : a < s1.heap.objs.size := by obtain ⟨o, e, _⟩ := pl; exact Heap.lt_size e
  refine vD pl fun h' he hit hk => wpAny_pyIter_enum he ?_
  have I2 : Inv X pins σ H1 { s1 with heap := h' } := I1.kept (t' := s1.toks) hk
  exact ⟨s1.heap.objs.size + 1, [s1.heap.objs.size + 1, s1.heap.objs.size], _, _, H1, rfl, I2, vI a (s1.heap.objs.size + 1) s1.heap.objs.size (Nat.succ_ne_self _) (Nat.ne_of_gt (Nat.lt_succ_of_lt alt)) (Nat.ne_of_lt alt), ⟨⟨_, he⟩, hit⟩, fun b hb => I1.fpOk (hb' b hb) (I1.hok.fresh (hb' b hb)), q⟩
end
end L2
set_option Elab.async false
set_option linter.all false
set_option maxRecDepth 100000
set_option maxHeartbeats 4000000
namespace L2
open PySem PySem.Spec PyProof.Rows
end L2
set_option Elab.async false
set_option linter.all false
set_option maxRecDepth 100000
set_option maxHeartbeats 4000000
namespace L2
open PySem PySem.Spec PyProof.Rows
end L2
set_option Elab.async false
set_option linter.all false
set_option maxRecDepth 100000
set_option maxHeartbeats 4000000
namespace L2
open PySem PySem.Spec PyProof.Rows
end L2
set_option Elab.async false
set_option linter.all false
set_option maxRecDepth 100000
set_option maxHeartbeats 4000000
namespace L2
open PySem PySem.Spec PyProof.Rows
def iLT (K : PySem.W.Frag) (tl : TE) : TI := fun σ H R => tl σ H fun x H1 => ∃ a, x = .ref a /\ (((∃ xs, SqL K H1 a xs) /\ R (Itl K a) H1) \/ ((∃ xs, SqT K H1 a xs) /\ R (Itt K a) H1))
theorem kX {X : Cx} {tg : Expr} {l : Expr} {tl : TE} (hl : PE X l tl) : PI X tg l (iLT X.K tl) := by
 intro pins s σ H R I h
 refine thn (hl pins s σ H _ I h) fun v s1 ⟨x, H1, I1, r1, q1⟩ => ?_
 obtain ⟨a, e, q⟩ := q1
 subst e
 cases r1
 have fo : ∀ b ∈ [s1.heap.objs.size], jo X pins H1 b := fun b hb => by
  have e : b = s1.heap.objs.size := by simpa using hb
  subst e
  exact I1.fpOk (Nat.le_refl _) (I1.hok.fresh (Nat.le_refl _))
 rcases q with ⟨⟨xs, hq⟩, q⟩ | ⟨⟨xs, hq⟩, q⟩
 ·obtain ⟨its, rv, p, hz⟩ := I1.list hq
  refine wpAny_pyIter_list p.isList ?_
  exact ⟨s1.heap.objs.size, [s1.heap.objs.size], _, _, H1, rfl, I1.kept (t' := s1.toks) fun b o e => Heap.get?_push_of_some _ e, wN a _, ⟨_, Heap.get?_push_size _ rfl, rfl, rfl⟩, fo, q⟩
 ·obtain ⟨its, rv, p, hz⟩ := I1.tuple hq
  refine wpAny_pyIter_tuple (show s1.heap.IsTuple a its.toArray from p) ?_
  exact ⟨s1.heap.objs.size, [s1.heap.objs.size], _, _, H1, rfl, I1.kept (t' := s1.toks) fun b o e => Heap.get?_push_of_some _ e, vB a _, ⟨_, Heap.get?_push_size _ rfl, rfl, rfl⟩, fo, q⟩
end L2
set_option Elab.async false
set_option linter.all false
set_option maxRecDepth 100000
set_option maxHeartbeats 4000000
namespace L2
open PySem PySem.Spec PyProof.Rows
end L2
set_option Elab.async false
set_option linter.all false
set_option maxRecDepth 100000
set_option maxHeartbeats 4000000
namespace L2
open PySem PySem.Spec PyProof.Rows
section
variable {X : Cx}
end
end L2
set_option Elab.async false
set_option linter.all false
set_option maxRecDepth 100000
set_option maxHeartbeats 4000000
namespace L2
open PySem PySem.Spec PyProof.Rows
section
variable {X : Cx}
end
end L2
set_option Elab.async false
set_option linter.all false
set_option maxRecDepth 100000
set_option maxHeartbeats 4000000
namespace L2
open PySem PySem.Spec PyProof.Rows
end L2
set_option Elab.async false
set_option linter.all false
set_option maxRecDepth 100000
set_option maxHeartbeats 4000000
namespace L2
open PySem PySem.Spec PyProof.Rows
def jg (prog : Program) (w : World) (A : Around) (elt : Expr) (gens : List Comprehension) (scope : Scope) (pos : Pos) (d : Nat) (acc : Value) (env : Env) (Q : Shared -> Prop) (s : Shared) : Prop :=
  match gens[d + 1]? with
  | some g' => wpAny (model prog w) A (eval g'.iter env) (fun x s1 => wpAny (model prog w) A (foldedSetIterable g'.iter env x) (fun x s2 => wpAny (model prog w) A (pyIter x) (fun it s3 =>
      wpAny (model prog w) A (runOwn (Code.compStart (.ListComp elt gens scope pos) (d + 1) it acc env) env) (fun _ s4 => Q s4) (fun _ _ => False) s3) (fun _ _ => False) s2) (fun _ _ => False) s1) (fun _ _ => False) s
  | none => wpAny (model prog w) A (eval elt env) (fun v s1 => wpAny (model prog w) A (call (.builtin "list.append") [acc, v]) (fun _ s2 => Q s2) (fun _ _ => False) s1) (fun _ _ => False) s
section
variable {prog : Program} {w : World} {A : Around} {R : Result -> Shared -> Prop} {s : Shared}
theorem ym {elt : Expr} {gens : List Comprehension} {d : Nat} {scope : Scope} {pos : Pos} {acc : Value} {env : Env} {Q Q' : Shared -> Prop} (h : jg prog w A elt gens scope pos d acc env Q s) (hq : ∀ s, Q s -> Q' s) : jg prog w A elt gens scope pos d acc env Q' s := by
 unfold jg at h ⊢
 cases e : gens[d + 1]? with
 | none =>
  simp only [e] at h ⊢
  exact wpAny_mono h (fun x s₄ h₄ => wpAny_mono h₄ (fun _ s₅ h₅ => hq _ h₅) fun _ _ h' => h') fun _ _ h' => h'
 | some g' =>
  simp only [e] at h ⊢
  exact wpAny_mono h (fun x s₄ h₄ => wpAny_mono h₄ (fun x s₅ h₅ => wpAny_mono h₅ (fun it s₆ h₆ => wpAny_mono h₆ (fun _ s₇ h₇ => hq _ h₇) fun _ _ h' => h') fun _ _ h' => h') fun _ _ h' => h') fun _ _ h' => h'
theorem qY {elt target iter : Expr} {ifs : List Expr} {gens : List Comprehension} {d : Nat} {scope : Scope} {pos : Pos} {it acc : Value} {env : Env} (hg : gens[d]? = some ⟨target, iter, ifs, 0⟩) (hn : ∀ g', gens[d + 1]? = some g' -> g'.is_async = 0) (I : Nat -> Shared -> Prop)
    (turn : ∀ n s, I n s -> wpAny (model prog w) A (pyNext it) (fun r s₁ => match r with
      | none => R (.ok .next) s₁
      | some v => wpAny (model prog w) A (letOwnedTupleGo target it v) (fun _ s₀ => wpAny (model prog w) A (assign target env v) (fun _ s₂ =>
          wpAny (model prog w) A (forIn ifs true fun c r => if r = true then do let ok <- isTrue c env (eval c env); pure (ForInStep.yield ok) else pure (ForInStep.yield r)) (fun ok s₃ =>
            if ok = true then jg prog w A elt gens scope pos d acc env (fun s₅ => ∃ m, m < n /\ I m s₅) s₃
            else ∃ m, m < n /\ I m s₃) (fun _ _ => False) s₂) (fun _ _ => False) s₀) (fun _ _ => False) s₁) (fun _ _ => False) s)
    (n : Nat) (h : I n s) :
    codeAny (model prog w) A (.compLoop (.ListComp elt gens scope pos) d it acc env) R s := by
  refine codeAny_loop rfl I (fun n s hI => ?_) n h
  show wpAny _ A ((compTurn (.ListComp elt gens scope pos) d it acc env).onRaise (fun x => do noteFrame x env; theTreesLotGoes x)) _ _ s
  refine wpAny_noted ?_
  unfold compTurn
  simp only [hg]
  refine wpAny_bind (wpAny_standAt ?_)
  rw [if_neg (by decide)]
  refine wpAny_bind (wpAny_mono (turn n s hI) (fun r s₁ h₁ => ?_) fun _ _ h' => h'.elim)
  cases r with
  | none => exact wpAny_pure h₁
  | some v =>
    refine wpAny_bind (wpAny_mono h₁ (fun _ s₀ h₀ => ?_) fun _ _ h' => h'.elim)
    refine wpAny_bind (wpAny_mono h₀ (fun _ s₂ h₂ => wpAny_bind (wpAny_mono h₂ (fun ok s₃ h₃ => ?_) fun _ _ h' => h'.elim)) fun _ _ h' => h'.elim)
    cases ok with
    | false => exact wpAny_pure ⟨rfl, h₃⟩
    | true =>
      rw [if_pos rfl] at h₃ ⊢
      unfold jg at h₃
      cases e : gens[d + 1]? with
      | none =>
        simp only [e] at h₃ ⊢
        exact wpAny_bind (wpAny_bind (wpAny_mono h₃ (fun x s₄ h₄ => wpAny_bind (wpAny_mono h₄ (fun _ s₅ h₅ => wpAny_pure (wpAny_pure ⟨rfl, h₅⟩)) fun _ _ h' => h'.elim)) fun _ _ h' => h'.elim))
      | some g' =>
        simp only [e] at h₃ ⊢
        have ha := hn g' e
        refine wpAny_bind (wpAny_mono h₃ (fun x s₄ h₄ => ?_) fun _ _ h' => h'.elim)
        refine wpAny_bind (wpAny_standAt ?_)
        rw [if_neg (by rw [ha]; decide)]
        refine wpAny_bind (wpAny_mono h₄ (fun x s₅ h₅ => ?_) fun _ _ h' => h'.elim)
        refine wpAny_bind (wpAny_holding ?_)
        rw [if_neg (by rw [ha]; decide)]
        refine wpAny_mono h₅ (fun it s₆ h₆ => ?_) fun _ _ h' => h'.elim
        exact wpAny_bind (wpAny_mono h₆ (fun _ s₇ h₇ => wpAny_pure ⟨rfl, h₇⟩) fun _ _ h' => h'.elim)
theorem qW {elt target iter : Expr} {ifs : List Expr} {gens : List Comprehension} {d : Nat} {scope : Scope} {pos : Pos} {it acc : Value} {env : Env} (hg : gens[d]? = some ⟨target, iter, ifs, 0⟩)
  (h1 : codeAny (model prog w) A (.compLoop (.ListComp elt gens scope pos) d it acc env) R s)
  (h2 : wpAny (model prog w) A (pyIter it) (fun it' s' => codeAny (model prog w) A (.compLoop (.ListComp elt gens scope pos) d it' acc env) R s') (fun _ _ => False) s) :
  codeAny (model prog w) A (.compStart (.ListComp elt gens scope pos) d it acc env) R s := by
 refine codeAny_loop' rfl (fun _ s' => s' = s) (fun n s' hI => ?_) 0 rfl
 subst hI
 show wpAny _ A ((compStart (.ListComp elt gens scope pos) d it acc env).onRaise (fun x => do noteFrame x env; standAt theWindowsPlace)) _ _ _
 refine wpAny_onRaise ?_
 unfold compStart
 have hc : (clausesOf (.ListComp elt gens scope pos))[d]? = some ⟨target, iter, ifs, 0⟩ := hg
 simp only [hc]
 rw [if_neg (by show ¬ ((0 : Nat) != 0) = true; decide)]
 refine wpAny_bind (wpAny_askSetting ?_)
 split
 ·exact wpAny_pure (.inr ⟨rfl, h1⟩)
 ·refine wpAny_bind (wpAny_rule ?_)
  refine wpAny_bind (wpAny_standAt ?_)
  exact wpAny_bind (wpAny_mono h2 (fun it' s' h' => wpAny_pure (.inr ⟨rfl, h'⟩)) fun _ _ h' => h'.elim)
end
def CL (J : It) (g : TG) (tt : TT) (tr : St -> Hp -> (St -> Hp -> Prop) -> Prop) (N : St -> Hp -> Prop) (σ : St) (H : Hp) : Prop := ∃ W : Nat -> Nat -> St -> Hp -> Prop, (∃ m, W 0 m σ H) /\ ∀ i m τ H2, W i m τ H2 ->
 (J.stop i H2 /\ N τ H2) \/ (J.go i H2 /\ ∃ N1 : St -> Hp -> Prop, (∀ τ' H', N1 τ' H' -> ∃ m', m' < m /\ W (i + 1) m' τ' H') /\ ∀ x H', J.yld i H2 x H' -> g x τ H' fun τ2 H3 => tt τ2 H3 fun b H4 =>
  if b = true then tr τ2 H4 N1 else N1 τ2 H4)
abbrev TR := St -> Hp -> (St -> Hp -> Prop) -> Prop
def kN (te : TE) (D : Addr) : TR := fun σ H N => te σ H fun v H5 => ∃ ys, H5 D = some (.lst ys) /\ ys.length < sizeLine /\ N σ (upd H5 D (.lst (ys ++ [v])))
def xE (wi : TI) (g : TG) (tt : TT) (tr : Addr -> TR) (D : Addr) : TR := fun σ H N => wi σ H fun J H1 => CL J g tt (tr D) N σ H1
def PR (C : Cx) (elt : Expr) (gens : List Comprehension) (scope : Scope) (pos : Pos) (d : Nat) (D : Addr) (tr : TR) : Prop :=
 ∀ (pins : List (Addr × Obj)) (s : Shared) (σ : St) (H : Hp) (N : St -> Hp -> Prop), Inv C pins σ H s -> tr σ H N -> jg C.prog C.w C.A elt gens scope pos d (.ref D) C.env (fun s' => ∃ σ' H', Inv C pins σ' H' s' /\ N σ' H') s
section
variable {C : Cx} {elt tg iter : Expr} {ifs : List Expr} {gens : List Comprehension} {scope : Scope} {pos : Pos} {d : Nat} {D : Addr} {g : TG} {tt : TT} {te : TE} {tr : TR}
theorem wj (hc : C.calm = true) (hgd : gens[d]? = some ⟨tg, iter, ifs, 0⟩) (hn : ∀ g', gens[d + 1]? = some g' -> g'.is_async = 0) (hg : PG C tg g) (ht : PIf C ifs tt) (hr : PR C elt gens scope pos d D tr) (hxe : ∀ e s, ¬ C.xe e s)
  {it : Addr} {fp : List Addr} {tn : Nat -> Heap -> Prop} {J : It} (T : yI C.prog C.w C.K tg J fp it tn) {pins : List (Addr × Obj)} {s : Shared} {σ : St} {H : Hp} (I : Inv C pins σ H s) (st : tn 0 s.heap) (hf : ∀ b ∈ fp, jo C pins H b) {N : St -> Hp -> Prop} (h : CL J g tt tr N σ H)
  {R : Result -> Shared -> Prop} (fin : ∀ s' σ' H', Inv C pins σ' H' s' -> N σ' H' -> R (.ok .next) s') :
  codeAny (model C.prog C.w) C.A (.compLoop (.ListComp elt gens scope pos) d (.ref it) (.ref D) C.env) R s := by
 obtain ⟨W, ⟨m0, w0⟩, turn⟩ := h
 have no : ∀ {α : Type} {m : Sem α} {Q : α -> Shared -> Prop} {s : Shared}, wpAny (model C.prog C.w) C.A m Q C.xe s -> wpAny (model C.prog C.w) C.A m Q (fun _ _ => False) s := fun h => wpAny_mono h (fun _ _ q => q) fun e s q => hxe e s q
 have stat : ∀ {H' : Hp}, (∀ b ∈ fp, H' b = none) -> ∀ b ∈ fp, jo C pins H' b := fun hn b hb => ⟨hn b hb, (hf b hb).2⟩
 refine qY hgd hn (fun n s' => ∃ i τ H', Inv C pins τ H' s' /\ tn i s'.heap /\ (∀ b ∈ fp, H' b = none) /\ W i n τ H') ?_ m0 ⟨0, σ, H, I, st, fun b hb => (hf b hb).1, w0⟩
 rintro n s5 ⟨i, τ, H5, I5, st5, fr5, w5⟩
 rcases turn i n τ H5 w5 with ⟨stop, qn⟩ | ⟨go, N1, hN, step⟩
 ·refine thn (T.done C rfl rfl rfl hc i pins s5 τ H5 _ I5 (stat fr5) st5 stop) fun r s6 ⟨hr, I6⟩ => ?_
  subst hr
  exact fin s6 τ H5 I6 qn
 ·refine thn (T.item C rfl rfl rfl hc i pins s5 τ H5 _ I5 (stat fr5) st5 go) fun r s6 ⟨u, hr', h6⟩ => ?_
  subst hr'
  refine thn h6 fun _ s7 ⟨x, H7, I7, r7, y7, st7, fr7⟩ => ?_
  have I7' := I7.pinned (stat fr7) (T.obj _ _ st7)
  refine thn (no (hg _ s7 τ H7 x u _ I7' r7 (step x H7 y7))) fun _ s8 ⟨τ8, H8, I8, q8⟩ => ?_
  refine thn (no (ht _ s8 τ8 H8 _ I8 q8)) fun b s9 ⟨H9, I9, q9⟩ => ?_
  have again : ∀ {τ9 : St} {H9 : Hp} {s9 : Shared}, Inv C (pins ++ jL fp s7.heap) τ9 H9 s9 -> N1 τ9 H9 ->
    ∃ m, m < n /\ ∃ i τ H', Inv C pins τ H' s9 /\ tn i s9.heap /\ (∀ b ∈ fp, H' b = none) /\ W i m τ H' := fun {τ9 H9 s9} I9 n9 => by
   obtain ⟨m', hm, w9⟩ := hN _ _ n9
   refine ⟨m', hm, i + 1, τ9, H9, I9.unpinned, T.keep _ _ _ st7 fun b hb o e => (I9.pin (b, o) (List.mem_append_right _ (List.mem_append_right _ (qg hb e)))).1, fun b hb => ?_, w9⟩
   obtain ⟨o, e, d⟩ := T.obj _ _ st7 b hb
   exact (I9.pin (b, o) (List.mem_append_right _ (List.mem_append_right _ (qg hb e)))).2.1
  cases b with
  | false =>
   rw [if_neg Bool.false_ne_true] at q9 ⊢
   exact again I9 q9
  | true =>
   rw [if_pos rfl] at q9 ⊢
   exact ym (hr _ s9 τ8 H9 _ I9 q9) fun s11 ⟨τ9, H11, I11, n11⟩ => again I11 n11
theorem x5 (hg2 : gens[d + 1]? = none) (he : PE C elt te) (hxe : ∀ e s, ¬ C.xe e s) : PR C elt gens scope pos d D (kN te D) := by
 intro pins s σ H N I h
 have no : ∀ {α : Type} {m : Sem α} {Q : α -> Shared -> Prop} {s : Shared}, wpAny (model C.prog C.w) C.A m Q C.xe s -> wpAny (model C.prog C.w) C.A m Q (fun _ _ => False) s := fun h => wpAny_mono h (fun _ _ q => q) fun e s q => hxe e s q
 unfold jg
 simp only [hg2]
 refine thn (no (he pins s σ H _ I h)) fun y s10 ⟨v, H10, I10, r10, ys, hys, hlen, n10⟩ => ?_
 exact thn (no (xb (X := C) _ s10 σ H10 (.ref D) [v] (.ref D) [y] (fun _ H11 => N σ H11) I10 rfl (.cons r10 .nil) ⟨_, ys, v, rfl, rfl, hys, hlen, n10⟩)) fun _ s11 ⟨_, H11, I11, _, n11⟩ => ⟨σ, H11, I11, n11⟩
theorem ke {tr : Addr -> TR} {wi : TI} (hc : C.calm = true) (hgd : gens[d + 1]? = some ⟨tg, iter, ifs, 0⟩) (hn : ∀ g', gens[d + 2]? = some g' -> g'.is_async = 0) (hi : PI C tg iter wi) (hs : ∀ x, foldedSetIterable iter C.env x = pure x) (hg : PG C tg g) (ht : PIf C ifs tt)
  (hr : PR C elt gens scope pos (d + 1) D (tr D)) (hxe : ∀ e s, ¬ C.xe e s) : PR C elt gens scope pos d D (xE wi g tt tr D) := by
 intro pins s σ H N I h
 have no : ∀ {α : Type} {m : Sem α} {Q : α -> Shared -> Prop} {s : Shared}, wpAny (model C.prog C.w) C.A m Q C.xe s -> wpAny (model C.prog C.w) C.A m Q (fun _ _ => False) s := fun h => wpAny_mono h (fun _ _ q => q) fun e s q => hxe e s q
 unfold jg
 simp only [hgd]
 refine thn (no (hi pins s σ H _ I h)) fun v s1 h1 => ?_
 rw [hs v]
 refine wpAny_pure (thn (no h1) fun itv s2 h2 => ?_)
 obtain ⟨it, fp, tn, J, H2, e, I2, T, st2, f2, q2⟩ := h2
 subst e
 refine wpAny_runOwn ?_
 show codeAny _ C.A _ _ _
 have loop := wj (R := fun r s' => match r with | .ok f => (∃ σ' H', Inv C pins σ' H' s' /\ N σ' H') | .error e => cameBackBy (model C.prog C.w) C.A C.env (fun _ _ => False) e s') hc hgd hn hg ht hr hxe T I2 st2 f2 q2 fun s' σ' H' I' n' => ⟨σ', H', I', n'⟩
 exact qW hgd loop (T.self _ 0 _ _ _ st2 loop)
end
def jH (ts : List Nat) (wi : TI) (g : TG) (tt : TT) (tr : Addr -> TR) : TE := fun σ H Q => wi σ H fun J H1 => ∀ D, H1 D = none -> CL J g tt (tr D) (fun _ H2 => Q (.ref D) H2) (clr ts σ) (upd H1 D (.lst []))
section
variable {X : Cx} {ts : List Nat} {scope : Scope} {tg iter elt : Expr} {ifs : List Expr} {qc : List Comprehension} {wi : TI} {g : TG} {tt : TT} {tr : Addr -> TR} {pos : Pos}
theorem kY (hc : X.calm = true) (hsc : yn X.N ts scope X.env.kindOf = true) (hi : PI X tg iter wi) (hn : ∀ g', qc[0]? = some g' -> g'.is_async = 0) (hg : ∀ cl s H fp, PG (cxC X scope cl s H fp) tg g) (ht : ∀ cl s H fp, PIf (cxC X scope cl s H fp) ifs tt)
  (hr : ∀ cl s H fp D, PR (cxC X scope cl s H fp) elt (⟨tg, iter, ifs, 0⟩ :: qc) scope pos 0 D (tr D))
  {pins : List (Addr × Obj)} {s : Shared} {σ : St} {H : Hp} {Q : VK} (I : Inv X pins σ H s) (h : jH ts wi g tt tr σ H Q) {use : Option (Value -> Sem Unit)} {Q' : Value -> Shared -> Prop}
  (fin : ∀ (D C : Addr) (H' : Hp) (s' : Shared), Inv X pins σ H' s' -> (∃ m, s'.heap.Ns C m) -> H' C = none -> C ≠ X.env.locals -> (∀ x c, X.env.cells.lookup x = some c -> c ≠ C) -> X.s₀.heap.objs.size <= C -> (∀ p ∈ X.pn ++ pins, p.1 ≠ C) -> C ∉ X.fs -> Q (.ref D) H' ->
   compPost (model X.prog X.w) X.A X.xe use Q' (.ref D) C (.ok .next) s')
  (hs : ∀ x, foldedSetIterable iter X.env x = pure x) :
  wpAny (model X.prog X.w) X.A (comprehension (.ListComp elt (⟨tg, iter, ifs, 0⟩ :: qc) scope pos) scope X.env (firstIterPos (⟨tg, iter, ifs, 0⟩ :: qc) pos) (newList []) false (eval iter X.env) use) Q' X.xe s := by
 have S := ZF hsc
 obtain ⟨cl, hcl, c1, c2⟩ := kD (scope := scope) (env := X.env) fun y hy e => I.ok.has y.1 (S.free y hy e)
 refine wpAny_comprehension_free (use := use) rfl hs hcl S.kind S.loc ?_
 refine wpAny_mono (hi pins s σ H _ I h) (fun v s1 h1 => wpAny_mono h1 (fun itv s2 h2 => ?_) fun _ _ e => e) fun _ _ e => e
 obtain ⟨it, fp, tn, J, H2, e, I2, T, st2, f2, q2⟩ := h2
 subst e
 have hD : H2 s2.heap.objs.size = none := I2.hok.fresh (Nat.le_refl _)
 have q3 := q2 _ hD
 refine wpAny_newObj_type (wpAny_newFunctionEnv S.cell (by intro y hy; simp at hy) (fun h₁ hns₁ hsb₁ => ?_) S.kind)
 dsimp only at hns₁ hsb₁ ⊢
 generalize hh3 : s2.heap.push { cls := .type "list", dict := none, data := .seq ([] : List Value).toArray } = g3 at hns₁ hsb₁ ⊢
 have I3 : Inv X pins σ (upd H2 s2.heap.objs.size (.lst [])) { s2 with heap := g3 } := by
  rw [<- hh3]
  exact I2.laid (t' := s2.toks) (fun b u e => Heap.get?_push_of_some _ e) (Nat.le_refl _) ⟨Nat.zero_le _, [], _, .nil, Heap.get?_push_size _ rfl⟩
 have st3 : tn 0 g3 := T.keep _ _ _ st2 fun b _ o e => by rw [<- hh3]; exact Heap.get?_push_of_some _ e
 have lt2 : ∀ b ∈ fp, b < s2.heap.objs.size := fun b hb => by obtain ⟨o, e, _⟩ := T.obj _ _ st2 b hb; exact Heap.lt_size e
 have hsz3 : g3.objs.size = s2.heap.objs.size + 1 := by rw [<- hh3, Heap.size_push]
 have f3 : ∀ b ∈ fp, jo X pins (upd H2 s2.heap.objs.size (.lst [])) b := fun b hb => ⟨by rw [zk (Nat.ne_of_lt (lt2 b hb))]; exact (f2 b hb).1, (f2 b hb).2⟩
 have lt3 : ∀ b ∈ fp, b < g3.objs.size := fun b hb => by rw [hsz3]; exact Nat.lt_succ_of_lt (lt2 b hb)
 have old : ∀ b o, g3.get? b = some o -> h₁.get? b = some o := fun b o e => hsb₁.extBut b o (Nat.ne_of_lt (Heap.lt_size e)) (Heap.get?_push_of_some _ e)
 have hns : h₁.Ns g3.objs.size (fun x => ([] : List (Str × Value)).reverse.lookup x) := hns₁
 have I4 : ∀ t, Inv (cxC X scope cl { s2 with heap := g3 } (upd H2 s2.heap.objs.size (.lst [])) fp) [] (clr ts σ) (upd H2 s2.heap.objs.size (.lst [])) { s2 with heap := h₁, toks := t } := fun t => kB I3 S f3 lt3 c1 c2 hns old
 have fpne : ∀ b ∈ fp, b ∉ frs X.stack := fun b hb z => by
  obtain ⟨_, f1, f2, _⟩ := f3 b hb
  rcases List.mem_cons.mp (I3.stkSub b z) with e | e
  ·exact f1 e
  ·exact f2 e
 have stat : ∀ {H' : Hp}, (∀ b ∈ fp, H' b = none) -> ∀ b ∈ fp, jo (cxC X scope cl { s2 with heap := g3 } (upd H2 s2.heap.objs.size (.lst [])) fp) [] H' b := fun hn b hb =>
  ⟨hn b hb, Nat.ne_of_lt (lt3 b hb), fpne b hb, .inl hb, fun x c e => (f2 b hb).2.2.2.2.1 x c (c1 x c e), fun p hp => absurd hp (by simp)⟩
 have loop : ∀ t, codeAny (model X.prog X.w) X.A (.compLoop (.ListComp elt (⟨tg, iter, ifs, 0⟩ :: qc) scope pos) 0 (.ref it) (.ref s2.heap.objs.size) (compEnvC scope cl g3.objs.size X.env))
   (compPost (model X.prog X.w) X.A X.xe use Q' (.ref s2.heap.objs.size) g3.objs.size) { s2 with heap := h₁, toks := t } := by
  intro t
  refine wj (C := cxC X scope cl { s2 with heap := g3 } (upd H2 s2.heap.objs.size (.lst [])) fp) hc rfl (fun g' e => hn g' (by simpa using e)) (hg _ _ _ _) (ht _ _ _ _) (hr _ _ _ _ _) (fun _ _ z => z) T (I4 t) (T.keep _ _ _ st3 fun b _ o e => old b o e) (stat fun b hb => (f3 b hb).1) q3 fun s6 σ6 H5 I6 qn => ?_
  have base : Un (frs X.stack) fp (upd H2 s2.heap.objs.size (.lst [])) H5 g3 s6.heap := I6.base
  have J6 : Inv X pins σ H5 s6 := I3.call' (ch := fp) I6.os base I6.hok I6.bare fun b hb => ⟨(f3 b hb).2.2.2.1, (f3 b hb).2.1, (f3 b hb).2.2.2.2.1, (f3 b hb).2.2.2.2.2⟩
  obtain ⟨m6, n6, _⟩ := I6.loc
  refine fin _ g3.objs.size H5 s6 J6 ⟨m6, n6⟩ I6.free (Nat.ne_of_gt I3.lt) (fun x c e z => ?_) I3.sz (fun p hp z => ?_) (I3.nofs (Nat.le_refl _)) qn
  ·obtain ⟨v, q⟩ := I3.cell x c e
   exact absurd q.lt (by rw [z]; exact Nat.lt_irrefl _)
  ·exact absurd (Heap.lt_size (I3.pin p hp).1) (by rw [z]; exact Nat.lt_irrefl _)
 have LW := loop (s2.toks + ([] : List (Str × Value)).length)
 exact codeAny_compStart_list LW (T.self _ 0 _ _ _ (T.keep _ _ _ st3 fun b _ o e => old b o e) LW)
theorem Z4 (hc : X.calm = true) (hsc : yn X.N ts scope X.env.kindOf = true) (hi : PI X tg iter wi) (hg : ∀ cl s H fp, PG (cxC X scope cl s H fp) tg g) (ht : ∀ cl s H fp, PIf (cxC X scope cl s H fp) ifs tt)
  (hr : ∀ cl s H fp D, PR (cxC X scope cl s H fp) elt (⟨tg, iter, ifs, 0⟩ :: qc) scope pos 0 D (tr D)) (hn : ∀ g', qc[0]? = some g' -> g'.is_async = 0 := by intro _ e; cases e; rfl)
  (hs : ∀ x, foldedSetIterable iter X.env x = pure x := by intro _; rfl) : PE X (.ListComp elt (⟨tg, iter, ifs, 0⟩ :: qc) scope pos) (jH ts wi g tt tr) := by
 intro pins s σ H Q I h
 rw [eval_ListComp]
 refine kY hc hsc hi hn hg ht hr I h (use := none) (fun D C H' s' I' ⟨m, hn⟩ hC hL hce hsz hp hfs q => ⟨m, hn, fun h' hs' => ?_⟩) hs
 exact ⟨.ref D, H', I'.turned (t' := s'.toks) (it := C) (fun b o hb e => (hs'.2 b hb).trans e) hC hL (.inr hsz) hce hp, rfl, q⟩
theorem yF {j : Nat} {y : Str} {py spos : Pos} (hc : X.calm = true) (hN : X.N.Nodup) (hj : X.N[j]? = some y) (hy : Loc X.env.scope y) (hsc : yn X.N ts scope X.env.kindOf = true) (hi : PI X tg iter wi) (hg : ∀ cl s H fp, PG (cxC X scope cl s H fp) tg g) (ht : ∀ cl s H fp, PIf (cxC X scope cl s H fp) ifs tt)
  (hr : ∀ cl s H fp D, PR (cxC X scope cl s H fp) elt (⟨tg, iter, ifs, 0⟩ :: qc) scope pos 0 D (tr D)) (hn : ∀ g', qc[0]? = some g' -> g'.is_async = 0 := by intro _ e; cases e; rfl)
  (hsw : swapsWith (.ListComp elt (⟨tg, iter, ifs, 0⟩ :: qc) scope pos) (some (.Name y py)) spos.line X.env = pure true := by rfl)
  (hs : ∀ x, foldedSetIterable iter X.env x = pure x := by intro _; rfl) (hf : X.fn y = true \/ X.env.scope.names.lookup y = some .local := by first | exact .inl rfl | exact .inr rfl | assumption) :
  PS X (.Assign [.Name y py] (.ListComp elt (⟨tg, iter, ifs, 0⟩ :: qc) scope pos) spos) (Zl (jH ts wi g tt tr) (xv j)) := by
 intro pins s σ H D I h
 rw [exec_Assign_Name_used _ _ _ _ hsw]
 refine wpAny_bind (wpAny_standAt (wpAny_bind ?_))
 show wpAny _ _ (do let _ <- comprehension (.ListComp elt (⟨tg, iter, ifs, 0⟩ :: qc) scope pos) scope X.env _ (newList []) false (eval iter X.env) (some (assign (.Name y py) X.env))) _ _ s
 refine wpAny_bind (wpAny_mono (kY hc hsc hi hn hg ht hr I h (use := some (assign (.Name y py) X.env)) (Q' := fun _ s' => SP X pins D .next s') (fun D' C H' s' I' ⟨m, hn⟩ hC hL hce hsz hp hfs q => ?_) hs) (fun _ s' hq => wpAny_pure (wpAny_pure hq)) fun _ _ e => e)
 show wpAny _ _ (assign (.Name y py) X.env (.ref D')) _ _ _
 refine wpAny_assign_Name (jP (v := .ref D') I' hN hj hy rfl (fun s2 I2 ⟨a, hsb, ha⟩ => ?_) hf)
 have hCa : C ≠ a := by
  rcases ha with rfl | ha
  ·exact hL
  ·exact Ne.symm (hce y a ha)
 refine ⟨m, hn.sameBut hsb hCa, fun h' hs' => ?_⟩
 exact ⟨_, H', I2.turned (t' := s2.toks) (it := C) (fun b o hb e => (hs'.2 b hb).trans e) hC hL (.inr hsz) hce hp, q⟩
end
theorem wO {ts : List Nat} {wi : TI} {g : TG} {tt : TT} {tr : Addr -> TR} {σ : St} {H : Hp} {Q : VK} :
  jH ts wi g tt tr σ H Q = wi σ H (fun J H1 => ∀ D, H1 D = none -> CL J g tt (tr D) (fun _ H2 => Q (.ref D) H2) (clr ts σ) (upd H1 D (.lst []))) := rfl
theorem Zv {wi : TI} {g : TG} {tt : TT} {tr : Addr -> TR} {D : Addr} {σ : St} {H : Hp} {N : St -> Hp -> Prop} : xE wi g tt tr D σ H N = wi σ H (fun J H1 => CL J g tt (tr D) N σ H1) := rfl
theorem Zw {te : TE} {D : Addr} {σ : St} {H : Hp} {N : St -> Hp -> Prop} : kN te D σ H N = te σ H (fun v H5 => ∃ ys, H5 D = some (.lst ys) /\ ys.length < sizeLine /\ N σ (upd H5 D (.lst (ys ++ [v])))) := rfl
end L2
set_option Elab.async false
set_option linter.all false
set_option maxRecDepth 100000
set_option maxHeartbeats 4000000
namespace L2
open PySem PySem.Spec PyProof.Rows
section
variable {P : Program} {w : World} {A : Around} {E : Value -> Shared -> Prop} {it l : Addr} {items : Array Value}
theorem xn (hne : l ≠ it) : ∀ (n i : Nat) (s : Shared) (Q : List Value -> Shared -> Prop), s.heap.IsListIter it l i -> s.heap.IsList l items -> i + n <= items.size ->
  (∀ h', h'.IsListIter it l (i + n) -> Heap.SameBut it s.heap h' -> Q ((items.toList.drop i).take n) { s with heap := h' }) -> wpAny (model P w) A (draw (.ref it) n) Q E s
 | 0, i, s, Q, hi, hl, hn, hQ => by
  rw [draw.eq_1]
  have := hQ s.heap (by simpa using hi) (Heap.SameBut.refl ..)
  simp only [List.take_zero] at this
  exact wpAny_pure this
 | n + 1, i, s, Q, hi, hl, hn, hQ => by
  rw [draw.eq_2]
  have hlt : i < items.size := by omega
  refine wpAny_bind (wpAny_pyNext_list_item hi hl (x := items[i]) (by simp [hlt]) fun h' hi' hs' => ?_)
  refine wpAny_bind (wpAny_holding ?_)
  have hl' : h'.IsList l items := by obtain ⟨o, ho, r⟩ := hl; exact ⟨o, (hs'.2 l hne).trans ho, r⟩
  refine xn hne n (i + 1) { s with heap := h' } _ hi' hl' (by omega) fun h2 hi2 hs2 => wpAny_pure ?_
  have e : (items.toList.drop i).take (n + 1) = items[i] :: (items.toList.drop (i + 1)).take n := by
   rw [List.drop_eq_getElem_cons (by simpa using hlt), List.take_succ_cons]; simp
  have := hQ h2 (by rw [show i + (n + 1) = i + 1 + n by omega]; exact hi2) (hs'.trans hs2)
  rw [e] at this
  exact this
theorem jG {s : Shared} {Q : List Value -> Shared -> Prop} (hh : A.handled = none) (hl : s.heap.IsList l items) (hQ : ∀ h', Heap.ExtBut s.heap.objs.size s.heap h' -> Q items.toList { s with heap := h' }) : wpAny (model P w) A (unpackItems (.ref l) items.size none) Q E s := by
 have hT : s.TypeIs (.ref l) "list" := by obtain ⟨o, ho, hc, _⟩ := hl; exact ⟨o, ho, hc⟩
 have hlt : l < s.heap.objs.size := by obtain ⟨o, ho, _⟩ := hl; exact Heap.lt_size ho
 unfold unpackItems
 refine wpAny_bind ?_
 unfold notIterableAtAll
 refine wpAny_bind (wpAny_specialOf hT F.slot_list_iter.lookup ?_)
 refine wpAny_pure ?_
 show wpAny _ _ (holding [Value.ref l] (pyIter (Value.ref l)) >>= _) _ _ _
 refine wpAny_bind (wpAny_holding (wpAny_pyIter_list hl ?_))
 have hi : Heap.IsListIter (s.heap.push { cls := Value.type "list_iterator", data := Data.fields #[Value.ref l, Value.int 0 0] }) s.heap.objs.size l 0 := ⟨_, Heap.get?_push_size _ rfl, rfl, rfl⟩
 have hl1 := hl.push { cls := Value.type "list_iterator", data := Data.fields #[Value.ref l, Value.int 0 0] }
 refine wpAny_bind (wpAny_holding (xn (Nat.ne_of_lt hlt) items.size 0 _ _ hi hl1 (by omega) fun h2 hi2 hs2 => ?_))
 have e : (items.toList.drop 0).take items.size = items.toList := by rw [List.drop_zero, List.take_of_length_le (by simp)]
 rw [e]
 dsimp only
 rw [if_neg (by simp)]
 have hl2 : h2.IsList l items := by obtain ⟨o, ho, r⟩ := hl1; exact ⟨o, (hs2.2 l (Nat.ne_of_lt hlt)).trans ho, r⟩
 refine wpAny_bind (wpAny_holding (wpAny_pyNext_list_end hh hi2 hl2 (by simp) fun h3 hx3 => ?_))
 refine wpAny_pure (hQ _ ?_)
 intro b o hb ho
 exact hx3 b o hb ((hs2.2 b hb).trans (Heap.get?_push_of_some _ ho))
theorem yj {s : Shared} {targets : List (Bool × (Value -> Sem Unit))} {Q : Unit -> Shared -> Prop} (hh : A.handled = none) (hl : s.heap.IsList l items) (hn : targets.length = items.size) (hf : targets.findIdx? (·.1) = none)
  (hQ : ∀ h', Heap.ExtBut s.heap.objs.size s.heap h' -> wpAny (model P w) A (assignInOrder (targets.map (·.2)) items.toList) Q E { s with heap := h' }) : wpAny (model P w) A (unpack (.ref l) targets) Q E s := by
 unfold unpack
 rw [hf, hn]
 exact wpAny_bind (wpAny_holding (jG hh hl hQ))
end
section
variable {X : Cx} {pos : Pos}
def Xo (K : PySem.W.Frag) (n : Nat) (t : TGs) : TG := fun v σ H Q => ∃ a xs, v = .ref a /\ SqL K H a xs /\ xs.length = n /\ t xs σ H Q
theorem Yo {es : List Expr} {k : Nat} {t : TGs} {n : Nat} (hc : X.calm = true) (h : PGs X es t)
  (hn : (assignEach es X.env).length = n := by rfl) (hst : (assignEach es X.env).findIdx? (·.1) = none := by rfl) : PG X (.Tuple es k pos) (Xo X.K n t) := by
 intro pins s σ H v u Q I r hw
 obtain ⟨a, xs, e1, hq, hl, hw⟩ := hw
 subst e1
 cases r
 obtain ⟨its, rv, ht, hz⟩ := I.list hq
 rw [PyProof.Rows.assign_Tuple]
 refine wpAny_bind (wpAny_standAt ?_)
 refine yj (I.ok.hd hc) ht.isList (by simp [hn, <- hl, rv.length]) hst fun h' hx => ?_
 have I1 : Inv X pins σ H { s with heap := h' } := I.kept (t' := s.toks) fun b o e => hx b o (Nat.ne_of_lt (Heap.lt_size e)) e
 exact h pins _ σ H xs _ Q I1 (by simpa using rv) hw
theorem JM {es : List Expr} {k : Nat} {t : TGs} {K : PySem.W.Frag} (n : Nat) (h : X.K = K) (hc : X.calm = true) (hs : PGs X es t) (hn : (assignEach es X.env).length = n := by rfl) (hst : (assignEach es X.env).findIdx? (·.1) = none := by rfl) : PG X (.Tuple es k pos) (Xo K n t) := h ▸ Yo hc hs hn hst
end
end L2
set_option Elab.async false
set_option linter.all false
set_option maxRecDepth 100000
set_option maxHeartbeats 4000000
namespace L2
open PySem PySem.Spec PyProof.Rows
def rep (o : Nat) (G : List Int) : List Int := (List.range (o * G.length)).map fun (i : Nat) => ((i / G.length * G.length : Nat) : Int) + G.getD (i % G.length) 0
end L2
set_option Elab.async false
set_option linter.all false
set_option maxRecDepth 100000
set_option maxHeartbeats 4000000
namespace L2
open PySem PySem.Spec PyProof.Rows
section
variable {P : Program} {w : World} {A : Around} {E : Value -> Shared -> Prop} {s : Shared} {z TI TO i1 i2 l1 l2 : Addr} {k : Nat} {xs ys : Array Value} {x y a b : Value} {Q : Option Value -> Shared -> Prop}
end
open AutoSeq1 (wpAny_loadPart') in
section
variable {X : Cx} {es : List Expr} {kt : Nat} {tp : Pos}
end
end L2
set_option Elab.async false
set_option linter.all false
set_option maxRecDepth 100000
set_option maxHeartbeats 4000000
namespace L2
open PySem PySem.Spec PyProof.Rows
section
variable {X : Cx} {e st : Expr} {te : TE} {lo hi : Option Expr} {tl th ts : TO} {p2 pos : Pos}
end
end L2
set_option Elab.async false
set_option linter.all false
set_option maxRecDepth 100000
set_option maxHeartbeats 4000000
namespace L2
open PySem PySem.Spec PyProof.Rows
end L2
set_option Elab.async false
set_option linter.all false
set_option maxRecDepth 100000
set_option maxHeartbeats 4000000
namespace L2
open PySem PySem.Spec PyProof.Rows
end L2
set_option Elab.async false
set_option linter.all false
set_option maxRecDepth 100000
set_option maxHeartbeats 4000000
namespace L2
open PySem PySem.Spec PyProof.Rows
def zw (n b e : Nat) : List Int := qR 0 1 b ++ qR ((e : Int) - 1) (-1) (e - b) ++ qR (e : Int) 1 (n - e)
theorem qq {n b e : Nat} (h1 : b <= e) (h2 : e <= n) : (zw n b e).length = n := by
 unfold zw
 rw [List.length_append, List.length_append, ql, ql, ql]; omega
end L2
set_option Elab.async false
set_option linter.all false
set_option maxRecDepth 100000
set_option maxHeartbeats 4000000
namespace L2
open PySem PySem.Spec PyProof.Rows
section
variable {X : Cx}
variable {o e : Expr} {es : List Expr} {to : TE} {t : TA} {name : Str} {apos cpos : Pos} {T id : String} {r : V -> List V -> Hp -> VK -> Prop} {K : PySem.W.Frag}
theorem Xw (hK : X.K = K) (pa : PlainAttrs T) (slot : Slot T name id) (hty : typeOf (.builtin id) = pure (.type "method_descriptor")) (hm : MtR X id r) (ho : PE X o to) (ha : PA X (e :: es) t)
  (h1 : attributeBase o name X.env (eval o X.env) = eval o X.env := by rfl)
  (h2 : ((backTo cpos (starEach (e :: es) X.env)).all (fun x => !x.1) && (backToKw cpos (keywordEach [] X.env)).all (fun x => x.1.isSome) && decide ((e :: es).length + ([] : List Keyword).length + (if ([] : List Keyword).isEmpty then 0 else 1) < 30)) = true := by rfl)
  (h3 : (apos.endLine == cpos.line) = true := by rfl) (h4 : starEach (e :: es) X.env = (false, eval e X.env) :: starEach es X.env := by rfl) (h5 : (backTo cpos (starEach es X.env)).any (·.1) = false := by rfl) :
  PE X (.Call (.Attribute o name apos) (e :: es) [] cpos) (tBM K T r to t) := by
 subst hK
 exact Va pa slot hty hm ho ha h1 h2 h3 h4 h5
end
end L2
set_option Elab.async false
set_option linter.all false
set_option maxRecDepth 100000
set_option maxHeartbeats 4000000
namespace L2
open PySem PySem.Spec PyProof.Rows
section
variable {X : Cx} {tg : Expr}
end
inductive Dd where
 | take (p : Nat) | move (p g : Nat) | lay (g : Nat)
abbrev RS := List (Option Int) × Option Int × List Int
def inc (mv : List Int) (x : Int) : List Int := mv.set x.toNat (mv.getD x.toNat 0 + 1)
inductive Do : Dd -> RS -> RS -> Prop
 | take {p : Nat} {row : List (Option Int)} {mv : List Int} {x : Int} : row[p]? = some (some x) -> Do (.take p) (row, none, mv) (row.set p none, some x, inc mv x)
 | move {p g : Nat} {row : List (Option Int)} {h : Option Int} {mv : List Int} {x : Int} : row[p]? = some (some x) -> row[g]? = some none -> Do (.move p g) (row, h, mv) ((row.set p none).set g (some x), h, inc mv x)
 | lay {g : Nat} {row : List (Option Int)} {mv : List Int} {x : Int} : row[g]? = some none -> Do (.lay g) (row, some x, mv) (row.set g (some x), none, inc mv x)
inductive Dos : List Dd -> RS -> RS -> Prop
 | nil {s : RS} : Dos [] s s
 | cons {d : Dd} {l : List Dd} {s t u : RS} : Do d s t -> Dos l t u -> Dos (d :: l) s u
end L2
set_option Elab.async false
set_option linter.all false
set_option maxRecDepth 100000
set_option maxHeartbeats 4000000
namespace L2
open PySem PySem.Spec PyProof.Rows
section
variable {X : Cx} {K : PySem.W.Frag}
end
end L2
set_option Elab.async false
set_option linter.all false
set_option maxRecDepth 100000
set_option maxHeartbeats 4000000
namespace L2
open PySem PySem.Spec PyProof.Rows
section
variable {X : Cx}
end
end L2
set_option Elab.async false
set_option linter.all false
set_option maxRecDepth 100000
set_option maxHeartbeats 4000000
namespace L2
open PySem PySem.Spec PyProof.Rows
section
variable {X : Cx}
end
section
variable {X : Cx} {e st : Expr} {te : TE} {ts : TO} {p2 pos : Pos}
end
end L2
set_option Elab.async false
set_option linter.all false
set_option maxRecDepth 100000
set_option maxHeartbeats 4000000
namespace L2
open PySem PySem.Spec PyProof.Rows
section
variable {X : Cx}
end
end L2
set_option Elab.async false
set_option linter.all false
set_option maxRecDepth 100000
set_option maxHeartbeats 4000000
namespace L2
open PySem PySem.Spec PyProof.Rows
def AtM (K : PySem.W.Frag) (C : Addr) (m qual : Str) (st : Stmt) : Prop := ∃ f fd, Fun K m qual st f fd /\ V7 K C m f
section
variable {X : Cx} {k : Nat} {C : Addr} {m x : Str} {ps : List Str} {sp : Sp} {p pos apos : Pos} {o e : Expr} {es : List Expr} {t : TA} {to : TE}
end
structure KD (K : PySem.W.Frag) (w : World) (a : Addr) (kvs : List (Key × V)) : Prop where
 ex : ∃ es ep, K.lookup a = some ⟨.type "dict", none, .dict es ep, #[]⟩ /\ ∀ P : Program, PySem.KeysOf (kc P w) es /\ ∃ vs, KV kvs vs /\ Pairs (kc P w) es.toList vs /\ (vs.map (·.1)).Nodup
 ns : (a == sysModules) = false
section
variable {X : Cx} {e : Expr} {ty : TE} {p apos cpos : Pos} {x : Str} {a : Addr} {kvs : List (Key × V)}
end
end L2
set_option Elab.async false
set_option linter.all false
set_option maxRecDepth 100000
set_option maxHeartbeats 4000000
namespace L2
open PySem PySem.Spec PyProof.Rows
section
variable {X : Cx}
end
theorem V3 {K : PySem.W.Frag} {C f : Addr} {m qual : Str} {st : Stmt} {oc kV dc pm cd ct : Value} {od an : Option Addr} {sl : Array (Option Value)} (a1 : PySem.W.findIn K (.ref C) m = some (some (.ref f))) (i1 : PySem.W.isFn K (.ref f) = true)
  (l1 : K.lookup f = some ⟨oc, od, .func (PySem.W.fnOf m qual (qu st) (zV st) (zf st) .none kV dc pm an cd ct), sl⟩) (c1 : PySem.W.codeIn K cd qual = true) (k1 : PySem.W.keepIn K (.ref f) = true) : AtM K C m qual st := ⟨f, _, ZK l1 c1 k1, ⟨a1, i1, k1⟩⟩
end L2
set_option Elab.async false
set_option linter.all false
set_option maxRecDepth 100000
set_option maxHeartbeats 4000000
namespace L2
open PySem PySem.Spec PyProof.Rows
section
variable {X : Cx}
end
end L2
set_option Elab.async false
set_option linter.all false
set_option maxRecDepth 100000
set_option maxHeartbeats 4000000
namespace L2
open PySem PySem.Spec PyProof.Rows
structure ScG (X : Cx) (ts : List Nat) (scope : Scope) : Prop where
 kind : scope.kind = .function
 cell : ∀ y ∈ scope.names, y.2 = .cell -> scope.names.lookup y.1 = some .cell
 loc : ∀ y ∈ scope.names, y.2 = .local -> scope.names.lookup y.1 = some .local
 free : ∀ y ∈ scope.names, y.2 = .free -> X.env.kindOf y.1 = some .cell \/ X.env.kindOf y.1 = some .free
 ts : ∀ (i : Nat) x, X.N[i]? = some x -> scope.names.lookup x = some .local \/ scope.names.lookup x = some .cell -> i ∈ ts
section
variable {X : Cx} {ts : List Nat} {scope : Scope} {pins : List (Addr × Obj)} {σ : St} {H : Hp} {s : Shared} {fp : List Addr}
end
section
variable {X : Cx} {ts : List Nat} {scope : Scope} {tg iter elt : Expr} {ifs : List Expr} {wi : TI} {g : TG} {tt : TT} {te : TE} {pos : Pos}
end
end L2
set_option Elab.async false
set_option linter.all false
set_option maxRecDepth 100000
set_option maxHeartbeats 4000000
namespace L2
open PySem PySem.Spec PyProof.Rows
section
variable {X : Cx}
end
end L2
set_option Elab.async false
set_option linter.all false
set_option maxRecDepth 100000
set_option maxHeartbeats 4000000
namespace L2
open PySem PySem.Spec PyProof.Rows
inductive Dat where
 | non | bl (b : Bool) | int (i : Int) | str (x : Str) | ty (n : String) | lst (l : List Dat) | tup (l : List Dat) | rng (lo hi c : Int) | scr (K : PySem.W.Frag) (l : List Int)
inductive AV where
 | d (x : Dat) | ref (a : Addr)
inductive MO where
 | lst (l : List AV) | dK (kvs : List (Key × AV)) | ins (C : Addr) (fs : List (Str × AV))
abbrev MH := Addr -> Option MO
abbrev ASt := List (Option AV)
def mup (M : MH) (a : Addr) (o : MO) : MH := fun b => if b = a then some o else M b
theorem zm {M : MH} {a : Addr} {o : MO} : mup M a o a = some o := if_pos rfl
theorem zB {M : MH} {a b : Addr} {o : MO} (h : b ≠ a) : mup M a o b = M b := if_neg h
theorem KE {M : MH} {a : Addr} {o u : MO} : mup (mup M a o) a u = mup M a u := by
 funext b; unfold mup; split <;> rfl
abbrev Own := Addr -> Prop
inductive Rep (H : Hp) (O : Own) : V -> Dat -> Prop
 | non : Rep H O .non .non
 | bl {b : Bool} : Rep H O (.bl b) (.bl b)
 | int {i : Int} : Rep H O (.int i) (.int i)
 | str {x : Str} : Rep H O (.str x) (.str x)
 | ty {n : String} : Rep H O (.ty n) (.ty n)
 | lst {a : Addr} {xs : List V} {l : List Dat} : ¬ O a -> H a = some (.lst xs) -> xs.length = l.length -> (∀ (i : Nat) x d, xs[i]? = some x -> l[i]? = some d -> Rep H O x d) -> Rep H O (.ref a) (.lst l)
 | tup {a : Addr} {xs : List V} {l : List Dat} : ¬ O a -> H a = some (.tup xs) -> xs.length = l.length -> (∀ (i : Nat) x d, xs[i]? = some x -> l[i]? = some d -> Rep H O x d) -> Rep H O (.ref a) (.tup l)
 | rng {a : Addr} {lo hi c : Int} : ¬ O a -> H a = some (vj a lo hi c) -> Rep H O (.ref a) (.rng lo hi c)
 | scr {a : Addr} {K : PySem.W.Frag} {l : List Int} : ¬ O a -> Rd H a (.lst (l.map V.int)) -> Rep H O (.ref a) (.scr K l)
 | scrK {a : Addr} {K : PySem.W.Frag} {l : List Int} : SqL K (fun _ => none) a (l.map V.int) -> Rep H O (.ref a) (.scr K l)
def Zs (H : Hp) (O : Own) (xs : List V) (l : List Dat) : Prop := xs.length = l.length /\ ∀ (i : Nat) x d, xs[i]? = some x -> l[i]? = some d -> Rep H O x d
def zp (H : Hp) (O : Own) (M : MH) (v : V) : AV -> Prop
 | .d x => Rep H O v x
 | .ref a => v = .ref a /\ M a ≠ none
def ze (H : Hp) (O : Own) (M : MH) (xs : List V) (l : List AV) : Prop := xs.length = l.length /\ ∀ (i : Nat) x d, xs[i]? = some x -> l[i]? = some d -> zp H O M x d
def yx {κ : Type} (H : Hp) (O : Own) (M : MH) (xs : List (κ × V)) (l : List (κ × AV)) : Prop := xs.map (·.1) = l.map (·.1) /\ ze H O M (xs.map (·.2)) (l.map (·.2))
def qm (H : Hp) (O : Own) (M : MH) (a : Addr) : MO -> Prop
 | .lst l => ∃ xs, H a = some (.lst xs) /\ ze H O M xs l
 | .dK kvs => ∃ xs, H a = some (.dK xs) /\ yx H O M xs kvs
 | .ins C fs => ∃ dx xs, H a = some (.ins C dx xs) /\ yx H O M xs fs /\ O dx /\ M dx = none /\ H dx = some (.own a)
structure Wf (H : Hp) (O : Own) (M : MH) : Prop where
 mo : ∀ a o, M a = some o -> qm H O M a o
 own : ∀ a, M a ≠ none -> O a
 al : ∀ a, O a -> ∃ o, H a = some o /\ ∀ xs, o ≠ .tup xs
theorem Wf.ne {H : Hp} {O : Own} {M : MH} (w : Wf H O M) (a : Addr) (h : O a) : H a ≠ none := by obtain ⟨o, e, _⟩ := w.al a h; rw [e]; exact fun z => nomatch z
structure Ext (H : Hp) (O : Own) (M : MH) (H' : Hp) (O' : Own) (M' : MH) : Prop where
 fix : ∀ a o, ¬ O a -> H a = some o -> H' a = some o /\ ¬ O' a
 prv : ∀ a, O a -> M a = none -> H' a = H a /\ O' a /\ M' a = none
 mst : ∀ a, M a ≠ none -> M' a ≠ none
theorem Ext.refl {H : Hp} {O : Own} {M : MH} : Ext H O M H O M := ⟨fun _ _ h e => ⟨e, h⟩, fun _ h e => ⟨rfl, h, e⟩, fun _ h => h⟩
theorem Ext.trans {H H1 H2 : Hp} {O O1 O2 : Own} {M M1 M2 : MH} (a : Ext H O M H1 O1 M1) (b : Ext H1 O1 M1 H2 O2 M2) : Ext H O M H2 O2 M2 :=
 ⟨fun x o h e => let ⟨e1, h1⟩ := a.fix x o h e; b.fix x o h1 e1, fun x h e => by
  obtain ⟨e1, h1, n1⟩ := a.prv x h e
  obtain ⟨e2, h2, n2⟩ := b.prv x h1 n1
  exact ⟨e2.trans e1, h2, n2⟩, fun x h => b.mst x (a.mst x h)⟩
theorem Rep.imp {H H' : Hp} {O O' : Own} (k : ∀ a o, ¬ O a -> H a = some o -> H' a = some o /\ ¬ O' a) {v : V} {d : Dat} (r : Rep H O v d) : Rep H' O' v d := by
 induction r with
 | non => exact .non
 | bl => exact .bl
 | int => exact .int
 | str => exact .str
 | ty => exact .ty
 | lst h e l _ ih => exact .lst (k _ _ h e).2 (k _ _ h e).1 l ih
 | tup h e l _ ih => exact .tup (k _ _ h e).2 (k _ _ h e).1 l ih
 | rng h e => exact .rng (k _ _ h e).2 (k _ _ h e).1
 | scr h e =>
  rcases e with e | ⟨o, e⟩
  ·exact .scr (k _ _ h e).2 (.inl (k _ _ h e).1)
  ·exact .scr (k _ _ h e).2 (.inr ⟨o, (k _ _ h e).1⟩)
 | scrK h => exact .scrK h
theorem J3 {H : Hp} {O : Own} {K : PySem.W.Frag} {v : V} {l : List Int} (r : Rep H O v (.scr K l)) : ∃ a, v = .ref a /\ SqL K H a (l.map V.int) := by
 cases r with
 | @scr a _ _ _ h => exact ⟨a, rfl, .inl h⟩
 | @scrK a _ _ h =>
  rcases h with (h | ⟨o, h⟩) | h
  ·cases h
  ·cases h
  ·exact ⟨a, rfl, .inr h⟩
theorem JH {H : Hp} {O : Own} {K : PySem.W.Frag} {a : Addr} {l : List Int} (ho : ∀ a, ¬ O a) (h : SqL K H a (l.map V.int)) : Rep H O (.ref a) (.scr K l) := by
 rcases h with h | h
 ·exact .scr (ho a) h
 ·exact .scrK (.inr h)
theorem Rep.ext {H H' : Hp} {O O' : Own} {M M' : MH} (k : Ext H O M H' O' M') {v : V} {d : Dat} (r : Rep H O v d) : Rep H' O' v d := r.imp k.fix
theorem zp.ext {H H' : Hp} {O O' : Own} {M M' : MH} (k : Ext H O M H' O' M') {v : V} {x : AV} (r : zp H O M v x) : zp H' O' M' v x := by
 cases x with
 | d x => exact Rep.ext k r
 | ref a => exact ⟨r.1, k.mst a r.2⟩
theorem ze.ext {H H' : Hp} {O O' : Own} {M M' : MH} (k : Ext H O M H' O' M') {xs : List V} {l : List AV} (r : ze H O M xs l) : ze H' O' M' xs l := ⟨r.1, fun i x d e1 e2 => (r.2 i x d e1 e2).ext k⟩
theorem yx.ext {κ : Type} {H H' : Hp} {O O' : Own} {M M' : MH} (k : Ext H O M H' O' M') {xs : List (κ × V)} {l : List (κ × AV)} (r : yx H O M xs l) : yx H' O' M' xs l := ⟨r.1, r.2.ext k⟩
theorem ze.nil {H : Hp} {O : Own} {M : MH} : ze H O M [] [] := ⟨rfl, fun i x d e => by simp at e⟩
theorem ze.cons {H : Hp} {O : Own} {M : MH} {x : V} {d : AV} {xs : List V} {l : List AV} (h : zp H O M x d) (r : ze H O M xs l) : ze H O M (x :: xs) (d :: l) :=
 ⟨by simp [r.1], fun i y e h1 h2 => by
  cases i with
  | zero => simp at h1 h2; subst h1 h2; exact h
  | succ i => simp at h1 h2; exact r.2 i y e h1 h2⟩
theorem ze.head {H : Hp} {O : Own} {M : MH} {x : V} {d : AV} {xs : List V} {l : List AV} (r : ze H O M (x :: xs) (d :: l)) : zp H O M x d /\ ze H O M xs l :=
 ⟨r.2 0 x d rfl rfl, by have := r.1; simpa using this, fun i y e h1 h2 => r.2 (i + 1) y e (by simpa using h1) (by simpa using h2)⟩
theorem ze.nil_inv {H : Hp} {O : Own} {M : MH} {xs : List V} (r : ze H O M xs []) : xs = [] := List.length_eq_zero_iff.mp r.1
theorem ze.cons_inv {H : Hp} {O : Own} {M : MH} {xs : List V} {d : AV} {l : List AV} (r : ze H O M xs (d :: l)) : ∃ x r', xs = x :: r' /\ zp H O M x d /\ ze H O M r' l := by
 cases xs with
 | nil => have := r.1; simp at this
 | cons x r' => exact ⟨x, r', rfl, r.head⟩
theorem ze.append {H : Hp} {O : Own} {M : MH} {xs ys : List V} {l m : List AV} (a : ze H O M xs l) (b : ze H O M ys m) : ze H O M (xs ++ ys) (l ++ m) :=
 ⟨by rw [List.length_append, List.length_append, a.1, b.1], fun i x d h1 h2 => by
  by_cases c : i < xs.length
  ·rw [List.getElem?_append_left c] at h1
   rw [List.getElem?_append_left (by rw [<- a.1]; exact c)] at h2
   exact a.2 i x d h1 h2
  ·rw [List.getElem?_append_right (by omega)] at h1
   rw [List.getElem?_append_right (by rw [<- a.1]; omega), <- a.1] at h2
   exact b.2 _ x d h1 h2⟩
theorem ze.snoc {H : Hp} {O : Own} {M : MH} {xs : List V} {l : List AV} {x : V} {d : AV} (a : ze H O M xs l) (b : zp H O M x d) : ze H O M (xs ++ [x]) (l ++ [d]) := a.append (.cons b .nil)
theorem ze.set {H : Hp} {O : Own} {M : MH} {xs : List V} {l : List AV} {x : V} {d : AV} (a : ze H O M xs l) (b : zp H O M x d) (j : Nat) : ze H O M (xs.set j x) (l.set j d) :=
 ⟨by rw [List.length_set, List.length_set, a.1], fun i y e h1 h2 => by
  rw [List.getElem?_set] at h1 h2
  by_cases c : j = i
  ·rw [if_pos c] at h1 h2
   split at h1
   ·split at h2
    ·cases h1; cases h2; exact b
    ·cases h2
   ·cases h1
  ·rw [if_neg c] at h1 h2
   exact a.2 i y e h1 h2⟩
theorem ze.get {H : Hp} {O : Own} {M : MH} {xs : List V} {l : List AV} (a : ze H O M xs l) {i : Nat} {d : AV} (h : l[i]? = some d) : ∃ x, xs[i]? = some x /\ zp H O M x d := by
 have hi := (List.getElem?_eq_some_iff.mp h).1
 have hx : i < xs.length := by rw [a.1]; exact hi
 exact ⟨xs[i], by simp [hx], a.2 i _ _ (by simp [hx]) h⟩
theorem Zs.av {H : Hp} {O : Own} {M : MH} {xs : List V} {l : List Dat} (r : Zs H O xs l) : ze H O M xs (l.map .d) :=
 ⟨by rw [List.length_map]; exact r.1, fun i x d h1 h2 => by
  rw [List.getElem?_map] at h2
  cases e : l[i]? with
  | none => rw [e] at h2; cases h2
  | some y => rw [e] at h2; cases h2; exact r.2 i x y h1 e⟩
theorem ze.pure {H : Hp} {O : Own} {M : MH} {xs : List V} {l : List Dat} (r : ze H O M xs (l.map .d)) : Zs H O xs l :=
 ⟨by have := r.1; rwa [List.length_map] at this, fun i x d h1 h2 => r.2 i x (.d d) h1 (by rw [List.getElem?_map, h2]; rfl)⟩
theorem Wf.fresh {H : Hp} {O : Own} {M : MH} (w : Wf H O M) {p : Addr} (h : H p = none) : ¬ O p /\ M p = none := by
 have : ¬ O p := fun z => w.ne p z h
 exact ⟨this, by
  cases e : M p with
  | none => rfl
  | some o => exact absurd (w.own p (by rw [e]; exact fun z => nomatch z)) this⟩
theorem qm.ext {H H' : Hp} {O O' : Own} {M M' : MH} (k : Ext H O M H' O' M') {a : Addr} {o : MO} (e : H' a = H a) (r : qm H O M a o) : qm H' O' M' a o := by
 cases o with
 | lst l => obtain ⟨xs, h, r⟩ := r; exact ⟨xs, e.trans h, r.ext k⟩
 | dK l => obtain ⟨xs, h, r⟩ := r; exact ⟨xs, e.trans h, r.ext k⟩
 | ins C fs => obtain ⟨dx, xs, h, r, q1, q2, q3⟩ := r; obtain ⟨x1, x2, x3⟩ := k.prv dx q1 q2; exact ⟨dx, xs, e.trans h, r.ext k, x2, x3, x1.trans q3⟩
theorem qp {H : Hp} {O : Own} {M : MH} (w : Wf H O M) {p : Addr} (h : H p = none) (o : HO) : Ext H O M (upd H p o) O M :=
 ⟨fun a u ha e => ⟨by rw [zk (zl e h)]; exact e, ha⟩, fun a ha e => ⟨zk (fun z => w.ne a ha (by rw [z]; exact h)), ha, e⟩, fun _ h => h⟩
theorem xC {H : Hp} {O : Own} {M : MH} (w : Wf H O M) {p : Addr} (h : H p = none) (o : HO) : Wf (upd H p o) O M :=
 ⟨fun a mo e => qm.ext (qp w h o) (zk (fun z => by rw [z, (w.fresh h).2] at e; cases e)) (w.mo a mo e), w.own, fun a ha => by
  have : a ≠ p := fun z => w.ne a ha (by rw [z]; exact h)
  rw [zk this]; exact w.al a ha⟩
def Zc (O : Own) (p : Addr) : Own := fun a => a = p \/ O a
def KF (O : Own) (p : Addr) : Own := fun a => a ≠ p /\ O a
theorem ya {H : Hp} {O : Own} {M : MH} (w : Wf H O M) {p : Addr} (h : M p ≠ none) (o : HO) (mo : MO) : Ext H O M (upd H p o) O (mup M p mo) :=
 ⟨fun a u ha e => ⟨by rw [zk (fun z => ha (by rw [z]; exact w.own p h))]; exact e, ha⟩, fun a ha e => by
  have hne : a ≠ p := fun z => h (by rw [<- z]; exact e)
  exact ⟨zk hne, ha, by rw [zB hne]; exact e⟩, fun a ha => by
  by_cases e : a = p
  ·rw [e, zm]; exact fun z => nomatch z
  ·rw [zB e]; exact ha⟩
theorem Xz {H : Hp} {O : Own} {M : MH} (w : Wf H O M) {p : Addr} (h : M p ≠ none) {o : HO} {mo : MO} (ho : ∀ xs, o ≠ .tup xs) (r : qm (upd H p o) O (mup M p mo) p mo) : Wf (upd H p o) O (mup M p mo) := by
 refine ⟨fun a u e => ?_, fun a ha => ?_, fun a ha => ?_⟩
 ·by_cases c : a = p
  ·subst c; rw [zm] at e; cases e; exact r
  ·rw [zB c] at e
   exact qm.ext (ya w h o mo) (zk c) (w.mo a u e)
 ·by_cases c : a = p
  ·subst c; exact w.own a h
  ·rw [zB c] at ha; exact w.own a ha
 ·by_cases c : a = p
  ·rw [c, zt]; exact ⟨o, rfl, ho⟩
  ·rw [zk c]; exact w.al a ha
theorem qt {H : Hp} {O : Own} {M : MH} (w : Wf H O M) {p : Addr} (h : H p = none) (o : HO) : Ext H O M (upd H p o) (Zc O p) M :=
 ⟨fun a u ha e => ⟨by rw [zk (zl e h)]; exact e, fun z => z.elim (zl e h) ha⟩, fun a ha e => by
  have hne : a ≠ p := fun z => w.ne a ha (by rw [z]; exact h)
  exact ⟨zk hne, .inr ha, e⟩, fun _ h => h⟩
theorem xK {H : Hp} {O : Own} {M : MH} (w : Wf H O M) {p : Addr} (h : H p = none) (o : HO) (ho : ∀ xs, o ≠ .tup xs) : Wf (upd H p o) (Zc O p) M :=
 ⟨fun a mo e => qm.ext (qt w h o) (zk (fun z => by rw [z, (w.fresh h).2] at e; cases e)) (w.mo a mo e), fun a ha => .inr (w.own a ha), fun a ha => by
  by_cases c : a = p
  ·rw [c, zt]; exact ⟨o, rfl, ho⟩
  ·rw [zk c]; exact w.al a (ha.resolve_left c)⟩
theorem j9 {H : Hp} {O : Own} {p : Addr} (hO : O p) (o : HO) : ∀ a u, ¬ O a -> H a = some u -> upd H p o a = some u /\ ¬ O a := fun a u ha e => ⟨by rw [zk (fun z => ha (by rw [z]; exact hO))]; exact e, ha⟩
theorem zp.imp {H H' : Hp} {O O' : Own} {M M' : MH} (k : ∀ a o, ¬ O a -> H a = some o -> H' a = some o /\ ¬ O' a) (hm : ∀ a, M a ≠ none -> M' a ≠ none) {v : V} {x : AV} (r : zp H O M v x) : zp H' O' M' v x := by
 cases x with
 | d x => exact Rep.imp k r
 | ref a => exact ⟨r.1, hm a r.2⟩
theorem ze.imp {H H' : Hp} {O O' : Own} {M M' : MH} (k : ∀ a o, ¬ O a -> H a = some o -> H' a = some o /\ ¬ O' a) (hm : ∀ a, M a ≠ none -> M' a ≠ none) {xs : List V} {l : List AV} (r : ze H O M xs l) : ze H' O' M' xs l := ⟨r.1, fun i x d e1 e2 => (r.2 i x d e1 e2).imp k hm⟩
theorem qm.imp {H H' : Hp} {O O' : Own} {M : MH} (k : ∀ a o, ¬ O a -> H a = some o -> H' a = some o /\ ¬ O' a) {a : Addr} {o : MO} (e : H' a = H a) (hd : ∀ dx x, O dx -> M dx = none -> H dx = some (.own x) -> H' dx = some (.own x) /\ O' dx) (r : qm H O M a o) : qm H' O' M a o := by
 cases o with
 | lst l => obtain ⟨xs, h, r⟩ := r; exact ⟨xs, e.trans h, r.imp k fun _ z => z⟩
 | dK l => obtain ⟨xs, h, r⟩ := r; exact ⟨xs, e.trans h, r.1, r.2.imp k fun _ z => z⟩
 | ins C fs => obtain ⟨dx, xs, h, r, q1, q2, q3⟩ := r; exact ⟨dx, xs, e.trans h, ⟨r.1, r.2.imp k fun _ z => z⟩, (hd dx a q1 q2 q3).2, q2, (hd dx a q1 q2 q3).1⟩
theorem vm {H : Hp} {O : Own} {M : MH} (w : Wf H O M) {p : Addr} (hO : O p) (hM : M p = none) {xs : List V} (hp : H p = some (.lst xs)) (o : HO) (ho : ∀ xs, o ≠ .tup xs) : Wf (upd H p o) O M :=
 ⟨fun a mo e => qm.imp (j9 hO o) (zk (fun z => by rw [z, hM] at e; cases e)) (fun dx x h1 _ h3 => ⟨by rw [zk (Ju h3 hp (fun z => nomatch z))]; exact h3, h1⟩) (w.mo a mo e), w.own, fun a ha => by
  by_cases c : a = p
  ·rw [c, zt]; exact ⟨o, rfl, ho⟩
  ·rw [zk c]; exact w.al a ha⟩
theorem jJ {H : Hp} {O : Own} (p : Addr) : ∀ a u, ¬ O a -> H a = some u -> H a = some u /\ ¬ KF O p a := fun a u ha e => ⟨e, fun z => ha z.2⟩
theorem ZX {H : Hp} {O : Own} {M : MH} (w : Wf H O M) {p : Addr} (hM : M p = none) {xs : List V} (hp : H p = some (.lst xs)) : Wf H (KF O p) M :=
 ⟨fun a mo e => qm.imp (jJ p) rfl (fun dx x h1 _ h3 => ⟨h3, ⟨Ju h3 hp (fun z => nomatch z), h1⟩⟩) (w.mo a mo e), fun a ha => ⟨fun z => ha (by rw [z]; exact hM), w.own a ha⟩, fun a ha => w.al a ha.2⟩
end L2
set_option Elab.async false
set_option linter.all false
set_option maxRecDepth 100000
set_option maxHeartbeats 4000000
namespace L2
open PySem PySem.Spec PyProof.Rows
abbrev AK := AV -> MH -> Prop
abbrev AE := ASt -> MH -> AK -> Prop
abbrev AT := ASt -> MH -> (Bool -> MH -> Prop) -> Prop
abbrev AA := ASt -> MH -> (List AV -> MH -> Prop) -> Prop
structure xi where
 nx : ASt -> MH -> Prop
 rt : AK
 bk : ASt -> MH -> Prop := fun _ _ => False
 ct : ASt -> MH -> Prop := fun _ _ => False
abbrev AS := MH -> xi -> ASt -> MH -> Prop
abbrev AG := AV -> ASt -> MH -> (ASt -> MH -> Prop) -> Prop
abbrev AGs := List AV -> ASt -> MH -> (ASt -> MH -> Prop) -> Prop
abbrev AI := ASt -> MH -> (List AV -> (MH -> Prop) -> MH -> Prop) -> Prop
structure Er (H : Hp) (O : Own) (M : MH) (σ : St) (ρ : ASt) : Prop where
 len : σ.length = ρ.length
 get : ∀ (i : Nat) x, ρ[i]? = some (some x) -> ∃ v, σ[i]? = some (some v) /\ zp H O M v x
theorem Er.ext {H H' : Hp} {O O' : Own} {M M' : MH} {σ : St} {ρ : ASt} (e : Er H O M σ ρ) (k : Ext H O M H' O' M') : Er H' O' M' σ ρ := ⟨e.len, fun i x h => let ⟨v, h1, h2⟩ := e.get i x h; ⟨v, h1, h2.ext k⟩⟩
theorem Er.set {H : Hp} {O : Own} {M : MH} {σ : St} {ρ : ASt} (e : Er H O M σ ρ) {v : V} {x : AV} (r : zp H O M v x) (j : Nat) : Er H O M (σ.set j (some v)) (ρ.set j (some x)) :=
 ⟨by rw [List.length_set, List.length_set, e.len], fun i y h => by
  rw [List.getElem?_set] at h ⊢
  by_cases c : j = i
  ·rw [if_pos c] at h ⊢
   by_cases c2 : j < ρ.length
   ·rw [if_pos c2] at h; rw [if_pos (by rw [e.len]; exact c2)]; cases h; exact ⟨v, rfl, r⟩
   ·rw [if_neg c2] at h; cases h
  ·rw [if_neg c] at h ⊢; exact e.get i y h⟩
def Kt : List Nat -> ASt -> ASt
 | [], σ => σ
 | j :: r, σ => Kt r (σ.set j none)
theorem Er.clr {H : Hp} {O : Own} {M : MH} : ∀ (ts : List Nat) {σ : St} {ρ : ASt}, Er H O M σ ρ -> Er H O M (clr ts σ) (Kt ts ρ)
  | [], _, _, e => e
  | j :: r, σ, ρ, e => Er.clr r ⟨by rw [List.length_set, List.length_set, e.len], fun i y h => by
      rw [List.getElem?_set] at h ⊢
      by_cases c : j = i
      · rw [if_pos c] at h
        split at h <;> cases h
      · rw [if_neg c] at h ⊢; exact e.get i y h⟩
structure zY (t : TE) (a : AE) : Prop where
 go : ∀ {σ : St} {H : Hp} {O : Own} {ρ : ASt} {M : MH} {Q : VK} {Q' : AK}, Wf H O M -> Er H O M σ ρ -> a ρ M Q' -> (∀ x M' v H' O', Q' x M' -> Ext H O M H' O' M' -> Wf H' O' M' -> zp H' O' M' v x -> Q v H') -> t σ H Q
structure qV (t : TT) (a : AT) : Prop where
 go : ∀ {σ : St} {H : Hp} {O : Own} {ρ : ASt} {M : MH} {Q : Bool -> Hp -> Prop} {Q' : Bool -> MH -> Prop}, Wf H O M -> Er H O M σ ρ -> a ρ M Q' -> (∀ b M' H' O', Q' b M' -> Ext H O M H' O' M' -> Wf H' O' M' -> Q b H') -> t σ H Q
structure kE (t : TA) (a : AA) : Prop where
 go : ∀ {σ : St} {H : Hp} {O : Own} {ρ : ASt} {M : MH} {Q : List V -> Hp -> Prop} {Q' : List AV -> MH -> Prop}, Wf H O M -> Er H O M σ ρ -> a ρ M Q' -> (∀ x M' v H' O', Q' x M' -> Ext H O M H' O' M' -> Wf H' O' M' -> ze H' O' M' v x -> Q v H') -> t σ H Q
structure yO (t : TE) (a : ASt -> MH -> (List AV -> MH -> Prop) -> Prop) : Prop where
 go : ∀ {σ : St} {H : Hp} {O : Own} {ρ : ASt} {M : MH} {Q : VK} {Q' : List AV -> MH -> Prop}, Wf H O M -> Er H O M σ ρ -> a ρ M Q' ->
  (∀ l M' p xs H' O', Q' l M' -> Ext H O M H' O' M' -> Wf H' O' M' -> O' p -> M' p = none -> H p = none -> H' p = some (.lst xs) -> ze H' O' M' xs l -> Q (.ref p) H') -> t σ H Q
abbrev AR2 := AV -> AV -> MH -> AK -> Prop
structure wR (r : R2) (a : AR2) : Prop where
 go : ∀ {x y : V} {dx dy : AV} {H : Hp} {O : Own} {M : MH} {Q : VK} {Q' : AK}, Wf H O M -> zp H O M x dx -> zp H O M y dy -> a dx dy M Q' -> (∀ x M' v H' O', Q' x M' -> Ext H O M H' O' M' -> Wf H' O' M' -> zp H' O' M' v x -> Q v H') -> r x y H Q
structure Wc (r : V -> Hp -> VK -> Prop) (a : AV -> MH -> AK -> Prop) : Prop where
 go : ∀ {x : V} {dx : AV} {H : Hp} {O : Own} {M : MH} {Q : VK} {Q' : AK}, Wf H O M -> zp H O M x dx -> a dx M Q' -> (∀ x M' v H' O', Q' x M' -> Ext H O M H' O' M' -> Wf H' O' M' -> zp H' O' M' v x -> Q v H') -> r x H Q
structure wC (r : List V -> Hp -> VK -> Prop) (a : List AV -> MH -> AK -> Prop) : Prop where
 go : ∀ {vs : List V} {xs : List AV} {H : Hp} {O : Own} {M : MH} {Q : VK} {Q' : AK}, Wf H O M -> ze H O M vs xs -> a xs M Q' -> (∀ x M' v H' O', Q' x M' -> Ext H O M H' O' M' -> Wf H' O' M' -> zp H' O' M' v x -> Q v H') -> r vs H Q
def VT (i : Nat) : AE := fun ρ M Q => ∃ x, ρ[i]? = some (some x) /\ Q x M
def aC (d : Dat) : AE := fun _ M Q => Q (.d d) M
theorem Kn {i : Nat} : zY (JO i) (VT i) := ⟨fun w e ⟨x, h, q⟩ k => let ⟨v, h1, h2⟩ := e.get i x h; ⟨v, h1, k _ _ _ _ _ q .refl w h2⟩⟩
theorem Xg {i : Int} : zY (tC (.int i)) (aC (.int i)) := ⟨fun w _ q k => k _ _ _ _ _ q .refl w .int⟩
theorem YY {i : Bool} : zY (tC (.bl i)) (aC (.bl i)) := ⟨fun w _ q k => k _ _ _ _ _ q .refl w .bl⟩
def aOp (r : AR2) (a b : AE) : AE := fun ρ M Q => a ρ M fun x M1 => b ρ M1 fun y M2 => r x y M2 Q
theorem Xs {r : R2} {ra : AR2} {t u : TE} {a b : AE} (hr : wR r ra) (h1 : zY t a) (h2 : zY u b) : zY (tOp r t u) (aOp ra a b) :=
 ⟨fun w e q k => h1.go w e q fun x M1 v H1 O1 q1 k1 w1 r1 => h2.go w1 (e.ext k1) q1 fun y M2 u H2 O2 q2 k2 w2 r2 => hr.go w2 (r1.ext k2) r2 q2 fun z M3 v3 H3 O3 q3 k3 w3 r3 => k z M3 v3 H3 O3 q3 ((k1.trans k2).trans k3) w3 r3⟩
def VF : AA := fun _ M Q => Q [] M
def KR (a : AE) (b : AA) : AA := fun ρ M Q => a ρ M fun x M1 => b ρ M1 fun xs M2 => Q (x :: xs) M2
theorem Kf : kE X1 VF := ⟨fun w _ q k => k _ _ _ _ _ q .refl w .nil⟩
theorem ZR {t : TE} {u : TA} {a : AE} {b : AA} (h1 : zY t a) (h2 : kE u b) : kE (ZG t u) (KR a b) :=
 ⟨fun w e q k => h1.go w e q fun x M1 v H1 O1 q1 k1 w1 r1 => h2.go w1 (e.ext k1) q1 fun y M2 u H2 O2 q2 k2 w2 r2 => k _ _ _ _ _ q2 (k1.trans k2) w2 (.cons (r1.ext k2) r2)⟩
theorem vd {H : Hp} {O : Own} {M : MH} (is : List Int) : ze H O M (is.map V.int) (is.map fun i => .d (.int i)) := by
 induction is with
 | nil => exact .nil
 | cons i r ih => exact .cons .int ih
def aCB (r : List AV -> MH -> AK -> Prop) (b : AA) : AE := fun ρ M Q => b ρ M fun xs M1 => r xs M1 Q
theorem Yg {r : List V -> Hp -> VK -> Prop} {ra : List AV -> MH -> AK -> Prop} {u : TA} {b : AA} (hr : wC r ra) (h2 : kE u b) : zY (tCB r u) (aCB ra b) :=
 ⟨fun w e q k => h2.go w e q fun x M1 v H1 O1 q1 k1 w1 r1 => hr.go w1 r1 q1 fun z M3 v3 H3 O3 q3 k3 w3 r3 => k z M3 v3 H3 O3 q3 (k1.trans k3) w3 r3⟩
abbrev ASp := List AV -> MH -> AK -> Prop
def cSp (a : ASp) : Sp := fun vs H Q _ => ∃ xs M O Q', Wf H O M /\ ze H O M vs xs /\ a xs M Q' /\ ∀ x M' v H' O', Q' x M' -> Ext H O M H' O' M' -> Wf H' O' M' -> zp H' O' M' v x -> Q v H'
def K7 (sp : ASp) (b : AA) : AE := fun ρ M Q => b ρ M fun xs M1 => sp xs M1 Q
theorem Z5 {sp : ASp} {u : TA} {b : AA} (h : kE u b) : zY (wf (cSp sp) [] E0 u) (K7 sp b) :=
 ⟨fun w e q k => h.go w e q fun x M1 v H1 O1 q1 k1 w1 r1 => ⟨x, M1, O1, _, w1, by rw [List.append_nil]; exact r1, q1, fun z M3 v3 H3 O3 q3 k3 w3 r3 => k z M3 v3 H3 O3 q3 (k1.trans k3) w3 r3⟩⟩
def pur : List AV -> Option (List Dat)
 | [] => some []
 | .d x :: r => match pur r with | some l => some (x :: l) | none => none
 | .ref _ :: _ => none
theorem Kd : pur [] = some [] := rfl
theorem Qt {x : Dat} {r : List AV} {l : List Dat} (h : pur r = some l) : pur (.d x :: r) = some (x :: l) := by unfold pur; rw [h]
theorem z0 (l : List Dat) : pur (l.map .d) = some l := by
 induction l with
 | nil => rfl
 | cons x r ih => exact Qt ih
theorem jf : ∀ {xs : List AV} {l : List Dat}, pur xs = some l -> xs = l.map .d
 | [], l, h => by cases h; rfl
 | .d x :: r, l, h => by
  unfold pur at h
  cases e : pur r with
  | none => rw [e] at h; cases h
  | some m => rw [e] at h; cases h; rw [jf e]; rfl
 | .ref _ :: _, _, h => by cases h
theorem Ext.shown {H H' : Hp} {O O' : Own} {M M' : MH} {p : Addr} (w : Wf H O M) (k : Ext H O M H' O' M') (h : H p = none) : Ext H O M H' (KF O' p) M' :=
 ⟨fun a o ha e => ⟨(k.fix a o ha e).1, fun z => (k.fix a o ha e).2 z.2⟩, fun a ha e => ⟨(k.prv a ha e).1, ⟨fun z => w.ne a ha (by rw [z]; exact h), (k.prv a ha e).2.1⟩, (k.prv a ha e).2.2⟩, k.mst⟩
theorem Ext.owned {H H' : Hp} {O O' : Own} {M M' : MH} {p : Addr} (w : Wf H O M) (k : Ext H O M H' O' M') (h : H p = none) (mo : MO) : Ext H O M H' O' (mup M' p mo) :=
 ⟨k.fix, fun a ha e => ⟨(k.prv a ha e).1, (k.prv a ha e).2.1, by rw [zB (fun z => w.ne a ha (by rw [z]; exact h))]; exact (k.prv a ha e).2.2⟩, fun a ha => by
  by_cases e : a = p
  ·rw [e, zm]; exact fun z => nomatch z
  ·rw [zB e]; exact k.mst a ha⟩
theorem yu {H : Hp} {O : Own} {M : MH} {p : Addr} (w : Wf H O M) (hO : O p) (hM : M p = none) {xs : List V} {l : List AV} (hp : H p = some (.lst xs)) (r : ze H O M xs l) : Wf H O (mup M p (.lst l)) := by
 have km : ∀ a, M a ≠ none -> mup M p (.lst l) a ≠ none := fun a ha => by
  by_cases e : a = p
  ·rw [e, zm]; exact fun z => nomatch z
  ·rw [zB e]; exact ha
 refine ⟨fun a u e => ?_, fun a ha => ?_, w.al⟩
 ·by_cases c : a = p
  ·subst c; rw [zm] at e; cases e; exact ⟨xs, hp, r.imp (fun _ _ z h => ⟨h, z⟩) km⟩
  ·rw [zB c] at e
   have := w.mo a u e
   cases u with
   | lst m => obtain ⟨ys, h1, h2⟩ := this; exact ⟨ys, h1, h2.imp (fun _ _ z h => ⟨h, z⟩) km⟩
   | dK m => obtain ⟨ys, h1, h2⟩ := this; exact ⟨ys, h1, h2.1, h2.2.imp (fun _ _ z h => ⟨h, z⟩) km⟩
   | ins C fs =>
    obtain ⟨dx, ys, h1, h2, h3, h4, h5⟩ := this
    exact ⟨dx, ys, h1, ⟨h2.1, h2.2.imp (fun _ _ z h => ⟨h, z⟩) km⟩, h3, by rw [zB (Ju h5 hp (fun z => nomatch z))]; exact h4, h5⟩
 ·by_cases c : a = p
  ·rw [c]; exact hO
  ·rw [zB c] at ha; exact w.own a ha
abbrev AF := ASt -> MH -> (List AV -> MH -> Prop) -> Prop
def aFz (a : AF) : AE := fun ρ M Q => a ρ M fun l M' => ∃ ds, pur l = some ds /\ Q (.d (.lst ds)) M'
def aOw (a : AF) : AE := fun ρ M Q => a ρ M fun l M' => ∀ p, M p = none -> M' p = none -> Q (.ref p) (mup M' p (.lst l))
def VA (t : TE) : TE := t
theorem x8 {X : Cx} {e : Expr} {t : TE} (h : PE X e t) : PE X e (VA t) := h
theorem wl {t : TE} {a : AF} (h : yO t a) : zY t (aFz a) :=
 ⟨fun w e q k => h.go w e q fun l M' p xs H' O' q1 k1 w1 o1 m1 hp hx r1 => by
  obtain ⟨ds, e1, q2⟩ := q1
  rw [jf e1] at r1
  have r2 := r1.pure
  exact k _ _ _ _ _ q2 (k1.shown w hp) (ZX w1 m1 hx) (Rep.lst (fun z => z.1 rfl) hx r2.1 fun i x d e1 e2 => (r2.2 i x d e1 e2).imp (jJ p))⟩
theorem JL {t : TE} {a : AF} (h : yO t a) : zY (VA t) (aOw a) :=
 ⟨fun w e q k => h.go w e q fun l M' p xs H' O' q1 k1 w1 o1 m1 hp hx r1 => k _ _ _ _ _ (q1 p (w.fresh hp).2 m1) (k1.owned w hp _) (yu w1 o1 m1 hx r1) ⟨rfl, by rw [zm]; exact fun z => nomatch z⟩⟩
def Vi (b : AA) : AF := fun ρ M Q => b ρ M fun xs M1 => xs.length <= sizeLine /\ Q xs M1
theorem QE {u : TA} {b : AA} (h : kE u b) : yO (Yy u) (Vi b) :=
 ⟨fun w e q k => h.go w e q fun x M1 v H1 O1 q1 k1 w1 r1 => ⟨by rw [r1.1]; exact q1.1, fun p hp =>
  k x M1 p v _ _ q1.2 (k1.trans (qt w1 hp _)) (xK w1 hp _ (fun _ z => nomatch z)) (.inl rfl) (w1.fresh hp).2 (by
   cases e0 : (_ : Hp) p with
   | none => exact e0
   | some o =>
    exfalso
    rename_i H0 O0 _ M0 _ _
    by_cases c : O0 p
    ·by_cases c2 : M0 p = none
     ·exact w1.ne p (k1.prv p c c2).2.1 hp
     ·exact w1.ne p (w1.own p (k1.mst p c2)) hp
    ·rw [(k1.fix p o c e0).1] at hp; cases hp) zt (r1.ext (qt w1 hp _))⟩⟩
def Vk (b : AA) : AE := fun ρ M Q => b ρ M fun xs M1 => xs.length <= sizeLine /\ ∃ ds, pur xs = some ds /\ Q (.d (.tup ds)) M1
theorem KC {u : TA} {b : AA} (h : kE u b) : zY (Yq u) (Vk b) :=
 ⟨fun w e q k => h.go w e q fun x M1 v H1 O1 q1 k1 w1 r1 => ⟨by rw [r1.1]; exact q1.1, fun p hp => by
  obtain ⟨_, ds, e1, q2⟩ := q1
  rw [jf e1] at r1
  have r2 := r1.pure
  exact k _ _ _ _ _ q2 (k1.trans (qp w1 hp _)) (xC w1 hp _) (Rep.tup (w1.fresh hp).1 zt r2.1 fun i x d e1 e2 => (r2.2 i x d e1 e2).ext (qp w1 hp _))⟩⟩
def aB (a : AE) : AT := fun ρ M Q => a ρ M fun x M1 => ∃ b, x = .d (.bl b) /\ Q b M1
theorem xW {H : Hp} {O : Own} {v : V} {b : Bool} (r : Rep H O v (.bl b)) : v = .bl b := by cases r; rfl
theorem zG {H : Hp} {O : Own} {v : V} {b : Int} (r : Rep H O v (.int b)) : v = .int b := by cases r; rfl
theorem Vl {t : TE} {a : AE} (h : zY t a) : qV (tB t) (aB a) := ⟨fun w e q k => h.go w e q fun x M1 v H1 O1 ⟨b, e1, q1⟩ k1 w1 r1 => by
 subst e1; exact ⟨b, xW r1, k _ _ _ _ q1 k1 w1⟩⟩
theorem QL {t : TE} {a : AE} (h : zY t a) : qV (QJ t) (aB a) := ⟨fun w e q k => h.go w e q fun x M1 v H1 O1 ⟨b, e1, q1⟩ k1 w1 r1 => by
 subst e1; exact ⟨b, xW r1, k _ _ _ _ q1 k1 w1⟩⟩
def kj : AT := fun _ M Q => Q true M
theorem Q1 : qV Qf kj := ⟨fun w _ q k => k _ _ _ _ q .refl w⟩
def VQ (a b : AT) : AT := fun ρ M Q => a ρ M fun c M1 => if c = true then b ρ M1 Q else Q false M1
def aOr (a b : AT) : AT := fun ρ M Q => a ρ M fun c M1 => if c = true then Q true M1 else b ρ M1 Q
def Vw (a : AT) : AT := fun ρ M Q => a ρ M fun c M1 => Q (!c) M1
theorem KM {t u : TT} {a b : AT} (h1 : qV t a) (h2 : qV u b) : qV (YK t u) (VQ a b) := ⟨fun w e q k => h1.go w e q fun c M1 H1 O1 q1 k1 w1 => by
 cases c with
 | true => exact h2.go w1 (e.ext k1) q1 fun c M2 H2 O2 q2 k2 w2 => k _ _ _ _ q2 (k1.trans k2) w2
 | false => exact k _ _ _ _ q1 k1 w1⟩
theorem YQ {t u : TT} {a b : AT} (h1 : qV t a) (h2 : qV u b) : qV (tOr t u) (aOr a b) := ⟨fun w e q k => h1.go w e q fun c M1 H1 O1 q1 k1 w1 => by
 cases c with
 | false => exact h2.go w1 (e.ext k1) q1 fun c M2 H2 O2 q2 k2 w2 => k _ _ _ _ q2 (k1.trans k2) w2
 | true => exact k _ _ _ _ q1 k1 w1⟩
theorem KH {t : TT} {a : AT} (h1 : qV t a) : qV (Xj t) (Vw a) := ⟨fun w e q k => h1.go w e q fun c M1 H1 O1 q1 k1 w1 => k _ _ _ _ q1 k1 w1⟩
end L2
set_option Elab.async false
set_option linter.all false
set_option maxRecDepth 100000
set_option maxHeartbeats 4000000
namespace L2
open PySem PySem.Spec PyProof.Rows
structure ED (H0 : Hp) (O0 : Own) (M0 : MH) (D : j3) (D' : xi) : Prop where
 nx : ∀ σ H O ρ M, Wf H O M -> Er H O M σ ρ -> Ext H0 O0 M0 H O M -> D'.nx ρ M -> D.nx σ H
 rt : ∀ v x H O M, Wf H O M -> Ext H0 O0 M0 H O M -> zp H O M v x -> D'.rt x M -> D.rt v H
 bk : ∀ σ H O ρ M, Wf H O M -> Er H O M σ ρ -> Ext H0 O0 M0 H O M -> D'.bk ρ M -> D.bk σ H
 ct : ∀ σ H O ρ M, Wf H O M -> Er H O M σ ρ -> Ext H0 O0 M0 H O M -> D'.ct ρ M -> D.ct σ H
theorem ED.tr {H0 H1 : Hp} {O0 O1 : Own} {M0 M1 : MH} {D : j3} {D' : xi} (E : ED H0 O0 M0 D D') (k : Ext H0 O0 M0 H1 O1 M1) : ED H1 O1 M1 D D' :=
 ⟨fun σ H O ρ M w e x q => E.nx σ H O ρ M w e (k.trans x) q, fun v y H O M w x r q => E.rt v y H O M w (k.trans x) r q, fun σ H O ρ M w e x q => E.bk σ H O ρ M w e (k.trans x) q, fun σ H O ρ M w e x q => E.ct σ H O ρ M w e (k.trans x) q⟩
structure jt (t : TS) (a : AS) : Prop where
 go : ∀ {H0 : Hp} {O0 : Own} {M0 : MH} {D : j3} {D' : xi} {σ : St} {H : Hp} {O : Own} {ρ : ASt} {M : MH}, Wf H0 O0 M0 -> Wf H O M -> Er H O M σ ρ -> Ext H0 O0 M0 H O M -> a M0 D' ρ M -> ED H0 O0 M0 D D' -> t D σ H
def ZS : AS := fun _ D ρ M => D.nx ρ M
theorem Z1 : jt Qy ZS := ⟨fun _ w e x q E => E.nx _ _ _ _ _ w e x q⟩
def Z2 (a b : AS) : AS := fun B D ρ M => a B { D with nx := b B D } ρ M
theorem JE {t u : TS} {a b : AS} (h1 : jt t a) (h2 : jt u b) : jt (Xb t u) (Z2 a b) :=
 ⟨fun w0 w e x q E => h1.go w0 w e x q ⟨fun σ H O ρ M w e x q => h2.go w0 w e x q E, E.rt, E.bk, E.ct⟩⟩
def VD (a : AE) : AS := fun _ D ρ M => a ρ M D.rt
theorem J9 {t : TE} {a : AE} (h : zY t a) : jt (XG t) (VD a) := ⟨fun _ w e x q E => h.go w e q fun y M1 v H1 O1 q1 k1 w1 r1 => E.rt _ _ _ _ _ w1 (x.trans k1) r1 q1⟩
def Vb (c : AT) (a b : AS) : AS := fun B D ρ M => c ρ M fun k M1 => if k = true then a B D ρ M1 else b B D ρ M1
theorem JX {c : TT} {t u : TS} {ac : AT} {a b : AS} (hc : qV c ac) (h1 : jt t a) (h2 : jt u b) : jt (YJ c t u) (Vb ac a b) :=
 ⟨fun w0 w e x q E => hc.go w e q fun k M1 H1 O1 q1 k1 w1 => by
  cases k with
  | true => exact h1.go w0 w1 (e.ext k1) (x.trans k1) q1 E
  | false => exact h2.go w0 w1 (e.ext k1) (x.trans k1) q1 E⟩
def QD : AS := fun _ _ _ _ => False
theorem wU : jt vk QD := ⟨fun _ _ _ _ q _ => q.elim⟩
structure jS (g : TG) (a : AG) : Prop where
 go : ∀ {v : V} {x : AV} {σ : St} {H : Hp} {O : Own} {ρ : ASt} {M : MH} {Q : St -> Hp -> Prop} {Q' : ASt -> MH -> Prop}, Wf H O M -> Er H O M σ ρ -> zp H O M v x -> a x ρ M Q' ->
  (∀ σ' H' O' ρ' M', Q' ρ' M' -> Ext H O M H' O' M' -> Wf H' O' M' -> Er H' O' M' σ' ρ' -> Q σ' H') -> g v σ H Q
structure yv (g : TGs) (a : AGs) : Prop where
 go : ∀ {v : List V} {x : List AV} {σ : St} {H : Hp} {O : Own} {ρ : ASt} {M : MH} {Q : St -> Hp -> Prop} {Q' : ASt -> MH -> Prop}, Wf H O M -> Er H O M σ ρ -> ze H O M v x -> a x ρ M Q' ->
  (∀ σ' H' O' ρ' M', Q' ρ' M' -> Ext H O M H' O' M' -> Wf H' O' M' -> Er H' O' M' σ' ρ' -> Q σ' H') -> g v σ H Q
def ZN (i : Nat) : AG := fun x ρ M Q => Q (ρ.set i (some x)) M
theorem wM {i : Nat} : jS (xv i) (ZN i) := ⟨fun w e r q k => k _ _ _ _ _ q .refl w (e.set r i)⟩
def KU : AGs := fun xs ρ M Q => xs = [] /\ Q ρ M
def Q4 (a : AG) (b : AGs) : AGs := fun xs ρ M Q => ∃ x r, xs = x :: r /\ a x ρ M fun ρ' M' => b r ρ' M' Q
theorem Qw : yv YO KU := ⟨fun w e r q k => by obtain ⟨e1, q⟩ := q; subst e1; exact ⟨r.nil_inv, k _ _ _ _ _ q .refl w e⟩⟩
theorem Zu {g : TG} {u : TGs} {a : AG} {b : AGs} (h1 : jS g a) (h2 : yv u b) : yv (QG g u) (Q4 a b) := ⟨fun w e r q k => by
 obtain ⟨x, r', e1, q⟩ := q; subst e1
 obtain ⟨v, vr, e2, rv, rr⟩ := r.cons_inv
 subst e2
 exact ⟨v, vr, rfl, h1.go w e rv q fun σ' H' O' ρ' M' q1 k1 w1 e1 => h2.go w1 e1 (rr.ext k1) q1 fun σ2 H2 O2 ρ2 M2 q2 k2 w2 e2 => k _ _ _ _ _ q2 (k1.trans k2) w2 e2⟩⟩
def KS (n : Nat) (b : AGs) : AG := fun x ρ M Q => ∃ l, x = .d (.tup l) /\ l.length = n /\ b (l.map .d) ρ M Q
theorem Jt {K : PySem.W.Frag} {n : Nat} {u : TGs} {b : AGs} (h : yv u b) : jS (JG K n u) (KS n b) := ⟨fun {v x σ H O ρ M Q Q'} w e r q k => by
 obtain ⟨l, e1, ln, q⟩ := q; subst e1
 cases (show Rep H O v (.tup l) from r) with
 | @tup a xs _ o1 h1 l1 r1 => exact ⟨a, xs, rfl, SqT.of h1, l1.trans ln, h.go w e (Zs.av ⟨l1, r1⟩) q k⟩⟩
def je (x : AV) (M : MH) : Option (List AV) := match x with
 | .d (.lst l) => some (l.map .d)
 | .ref a => match M a with
  | some (.lst l) => some l
  | _ => none
 | _ => none
def Xv (x : AV) : Option (List AV) := match x with
 | .d (.tup l) => some (l.map .d)
 | _ => none
def qM (x : AV) (M : MH) : Option (List AV) := match x with
 | .d (.lst l) => some (l.map .d)
 | .d (.tup l) => some (l.map .d)
 | .ref a => match M a with
  | some (.lst l) => some l
  | _ => none
 | _ => none
theorem ZO (l : List Dat) (M : MH) : je (.d (.lst l)) M = some (l.map .d) := rfl
theorem Xy (l : List Dat) : Xv (.d (.tup l)) = some (l.map .d) := rfl
theorem vh (l : List Dat) (M : MH) : qM (.d (.lst l)) M = some (l.map .d) := rfl
theorem Xn (l : List Dat) (M : MH) : qM (.d (.tup l)) M = some (l.map .d) := rfl
theorem kH {a : Addr} {M : MH} {l : List AV} (h : M a = some (.lst l)) : qM (.ref a) M = some l := by unfold qM; dsimp only; rw [h]
theorem Jh {x : AV} {M : MH} {l : List AV} (h : je x M = some l) : (∃ m, x = .d (.lst m) /\ l = m.map .d) \/ ∃ a, x = .ref a /\ M a = some (.lst l) := by
 cases x with
 | d x =>
  cases x with
  | lst m => cases h; exact .inl ⟨m, rfl, rfl⟩
  | _ => cases h
 | ref a =>
  unfold je at h
  dsimp only at h
  cases e : M a with
  | none => rw [e] at h; cases h
  | some o =>
   rw [e] at h
   cases o with
   | lst m => cases h; exact .inr ⟨a, rfl, e⟩
   | _ => cases h
theorem qE {x : AV} {M : MH} {l : List AV} (h : qM x M = some l) : je x M = some l \/ ∃ m, x = .d (.tup m) /\ l = m.map .d := by
 cases x with
 | d x =>
  cases x with
  | lst m => cases h; exact .inl rfl
  | tup m => cases h; exact .inr ⟨m, rfl, rfl⟩
  | _ => cases h
 | ref a => exact .inl h
theorem qy {H : Hp} {O : Own} {M : MH} {v : V} {x : AV} {l : List AV} (w : Wf H O M) (r : zp H O M v x) (h : je x M = some l) : ∃ a xs, v = .ref a /\ H a = some (.lst xs) /\ ze H O M xs l := by
 rcases Jh h with ⟨m, rfl, rfl⟩ | ⟨a, rfl, e⟩
 ·cases (show Rep H O v (.lst m) from r) with
  | @lst a xs _ o1 h1 l1 r1 => exact ⟨a, xs, rfl, h1, Zs.av ⟨l1, r1⟩⟩
 ·obtain ⟨xs, h1, r1⟩ := w.mo a _ e
  exact ⟨a, xs, r.1, h1, r1⟩
theorem qX {H : Hp} {O : Own} {M : MH} {v : V} {x : AV} {l : List AV} (r : zp H O M v x) (h : Xv x = some l) : ∃ a xs, v = .ref a /\ H a = some (.tup xs) /\ ze H O M xs l := by
 cases x with
 | ref a => cases h
 | d x =>
  cases x with
  | tup m =>
   cases h
   cases (show Rep H O v (.tup m) from r) with
   | @tup a xs _ o1 h1 l1 r1 => exact ⟨a, xs, rfl, h1, Zs.av ⟨l1, r1⟩⟩
  | _ => cases h
theorem vA {H : Hp} {O : Own} {M : MH} {v : V} {x : AV} {l : List AV} (w : Wf H O M) (r : zp H O M v x) (h : qM x M = some l) : ∃ a xs, v = .ref a /\ (H a = some (.lst xs) \/ H a = some (.tup xs)) /\ ze H O M xs l := by
 rcases qE h with e | ⟨m, rfl, rfl⟩
 ·obtain ⟨a, xs, h1, h2, h3⟩ := qy w r e; exact ⟨a, xs, h1, .inl h2, h3⟩
 ·obtain ⟨a, xs, h1, h2, h3⟩ := qX (l := m.map .d) r rfl; exact ⟨a, xs, h1, .inr h2, h3⟩
structure ZW (t : Ql) (a : AV -> AV -> AV -> MH -> (MH -> Prop) -> Prop) : Prop where
 go : ∀ {o i v : V} {ao ai av : AV} {H : Hp} {O : Own} {M : MH} {Q : Hp -> Prop} {Q' : MH -> Prop}, Wf H O M -> zp H O M o ao -> zp H O M i ai -> zp H O M v av -> a ao ai av M Q' -> (∀ M' H' O', Q' M' -> Ext H O M H' O' M' -> Wf H' O' M' -> Q H') -> t o i v H Q
def K2 (a b : AE) (s : AV -> AV -> AV -> MH -> (MH -> Prop) -> Prop) : AG := fun x ρ M Q => a ρ M fun o M1 => b ρ M1 fun i M2 => s o i x M2 fun M3 => Q ρ M3
theorem Qd {to ti : TE} {t : Ql} {a b : AE} {s : AV -> AV -> AV -> MH -> (MH -> Prop) -> Prop} (h1 : zY to a) (h2 : zY ti b) (h3 : ZW t s) : jS (YD to ti t) (K2 a b s) := ⟨fun w e r q k =>
 h1.go w e q fun x M1 v H1 O1 q1 k1 w1 r1 => h2.go w1 (e.ext k1) q1 fun y M2 u H2 O2 q2 k2 w2 r2 => h3.go w2 (r1.ext k2) r2 (r.ext (k1.trans k2)) q2 fun M3 H3 O3 q3 k3 w3 => k _ _ _ _ _ q3 ((k1.trans k2).trans k3) w3 (e.ext ((k1.trans k2).trans k3))⟩
theorem qS {M : MH} {p : Addr} {o : MO} (h : M p = some o) : M p ≠ none := by rw [h]; exact fun z => nomatch z
def asL : AV -> AV -> AV -> MH -> (MH -> Prop) -> Prop := fun o i v M Q => ∃ p l k j, o = .ref p /\ i = .d (.int k) /\ M p = some (.lst l) /\ ixN l.length k = some j /\ Q (mup M p (.lst (l.set j v)))
theorem ZM : ZW vC asL := ⟨fun w ro ri rv q k => by
 obtain ⟨p, l, n, j, rfl, rfl, hm, hj, q⟩ := q
 obtain ⟨xs, hx, rx⟩ := w.mo p _ hm
 have np := qS hm
 refine ⟨n, zG ri, p, ro.1, xs, hx, j, by rw [rx.1]; exact hj, k _ _ _ q (ya w np _ _) (Xz w np (fun _ z => nomatch z) ⟨_, zt, (rx.set rv j).ext (ya w np _ _)⟩)⟩⟩
def VH (a : AE) (g : AG) : AS := fun _ D ρ M => a ρ M fun x M1 => g x ρ M1 D.nx
theorem Kg {t : TE} {g : TG} {a : AE} {ag : AG} (h : zY t a) (hg : jS g ag) : jt (Zl t g) (VH a ag) := ⟨fun _ w e x q E => h.go w e q fun y M1 v H1 O1 q1 k1 w1 r1 => hg.go w1 (e.ext k1) r1 q1 fun σ2 H2 O2 ρ2 M2 q2 k2 w2 e2 => E.nx _ _ _ _ _ w2 e2 ((x.trans k1).trans k2) q2⟩
structure Wb (t : TIp) (a : AR2) : Prop where
 go : ∀ {x y : V} {dx dy : AV} {H : Hp} {O : Own} {M : MH} {Q : VK} {Q' : AK}, Wf H O M -> zp H O M x dx -> zp H O M y dy -> a dx dy M Q' -> (∀ x M' v H' O', Q' x M' -> Ext H O M H' O' M' -> Wf H' O' M' -> zp H' O' M' v x -> Q v H') -> t x y H Q
def ko (J : It) (H : Hp) (O : Own) (M : MH) (l : List AV) (G : MH -> Prop) : Prop :=
 ∀ (H' : Hp) (O' : Own) (M' : MH), (∀ a o, ¬ O a -> H a = some o -> H' a = some o /\ ¬ O' a) -> (∀ a, M a ≠ none -> M' a ≠ none) -> Wf H' O' M' -> G M' -> ∀ i : Nat, (i = l.length -> J.stop i H') /\
  ∀ y, l[i]? = some y -> J.go i H' /\ ∀ x H'', J.yld i H' x H'' -> Ext H' O' M' H'' O' M' /\ Wf H'' O' M' /\ zp H'' O' M' x y
structure yb (wi : TI) (ai : AI) : Prop where
 go : ∀ {σ : St} {H : Hp} {O : Own} {ρ : ASt} {M : MH} {R : It -> Hp -> Prop} {R' : List AV -> (MH -> Prop) -> MH -> Prop}, Wf H O M -> Er H O M σ ρ -> ai ρ M R' -> (∀ l G M' J H' O', R' l G M' -> Ext H O M H' O' M' -> Wf H' O' M' -> ko J H' O' M' l G -> R J H') -> wi σ H R
def Vt (ag : AG) (ab : AS) (B : MH) (D : xi) (G : MH -> Prop) (l : List AV) (ρ : ASt) (M : MH) : Prop :=
 ∃ Pv : Nat -> ASt -> MH -> Prop, Pv 0 ρ M /\ (∀ i x ρ M, l[i]? = some x -> Pv i ρ M -> G M /\ ag x ρ M fun ρ' M' => ab B { D with nx := Pv (i + 1), ct := Pv (i + 1), bk := D.nx } ρ' M') /\ ∀ ρ M, Pv l.length ρ M -> G M /\ D.nx ρ M
def VM (ai : AI) (ag : AG) (ab : AS) : AS := fun _ D ρ M => ai ρ M fun l G M1 => Vt ag ab M1 D G l ρ M1
theorem KB {wi : TI} {g : TG} {t : TS} {ai : AI} {ag : AG} {ab : AS} (hi : yb wi ai) (hg : jS g ag) (hb : jt t ab) : jt (Xc wi g t) (VM ai ag ab) := ⟨fun {H0 O0 M0 D D' σ H O ρ M} w0 w e x q E => by
 rw [vR]
 refine hi.go w e q fun l G M1 J H1 O1 q1 k1 w1 hj => ?_
 have E1 := E.tr (x.trans k1)
 obtain ⟨Pv, p0, ps, pd⟩ := q1
 refine ⟨fun i m σ H => m = l.length - i /\ i <= l.length /\ ∃ O ρ M, Wf H O M /\ Er H O M σ ρ /\ Ext H1 O1 M1 H O M /\ Pv i ρ M, ⟨l.length, by simp, Nat.zero_le _, O1, ρ, M1, w1, e.ext k1, .refl, p0⟩, ?_⟩
 rintro i m σ H ⟨rfl, hi, O, ρ, M, w, e, x, hf⟩
 by_cases hil : i < l.length
 ·have hy : l[i]? = some l[i] := List.getElem?_eq_getElem hil
  obtain ⟨hG, q2⟩ := ps i l[i] ρ M hy hf
  obtain ⟨j1, j2⟩ := (hj H O M x.fix x.mst w hG i).2 l[i] hy
  refine .inr ⟨j1, fun σ' H' => ∃ O ρ M, Wf H' O M /\ Er H' O M σ' ρ /\ Ext H1 O1 M1 H' O M /\ Pv (i + 1) ρ M, fun σ' H' z => ⟨l.length - (i + 1), by omega, rfl, hil, z⟩, fun v H' hv => ?_⟩
  obtain ⟨k2, w2, r2⟩ := j2 v H' hv
  refine hg.go w2 (e.ext k2) r2 q2 fun σ3 H3 O3 ρ3 M3 q3 k3 w3 e3 => ?_
  exact hb.go w1 w3 e3 ((x.trans k2).trans k3) q3 ⟨fun σ H O ρ M w e x q => ⟨O, ρ, M, w, e, x, q⟩, E1.rt, E1.nx, fun σ H O ρ M w e x q => ⟨O, ρ, M, w, e, x, q⟩⟩
 ·have e0 : i = l.length := by omega
  subst e0
  obtain ⟨hG, q2⟩ := pd ρ M hf
  exact .inl ⟨(hj H O M x.fix x.mst w hG l.length).1 rfl, E1.nx _ _ _ _ _ w e x q2⟩⟩
end L2
set_option Elab.async false
set_option linter.all false
set_option maxRecDepth 100000
set_option maxHeartbeats 4000000
namespace L2
open PySem PySem.Spec PyProof.Rows
theorem kK {H H1 : Hp} {O O1 : Own} {M M1 : MH} (w1 : Wf H1 O1 M1) (k1 : Ext H O M H1 O1 M1) {p : Addr} (hp : H1 p = none) : H p = none := by
 cases e0 : H p with
 | none => rfl
 | some o =>
  exfalso
  by_cases c : O p
  ·by_cases c2 : M p = none
   ·exact w1.ne p (k1.prv p c c2).2.1 hp
   ·exact w1.ne p (w1.own p (k1.mst p c2)) hp
  ·rw [(k1.fix p o c e0).1] at hp; cases hp
theorem wF {K : PySem.W.Frag} {H : Hp} {O : Own} {M : MH} {a : Addr} {x : AV} {l : List AV} (r : zp H O M (.ref a) x) (h : je x M = some l) : ko (Itl K a) H O M l (fun M' => je x M' = some l) := by
 intro H' O' M' fix mst w' hG i
 obtain ⟨a', xs, e, h1, r1⟩ := qy w' (r.imp fix mst) hG
 cases e
 refine ⟨fun e => ⟨xs, SqL.of h1, by rw [r1.1]; omega⟩, fun y hy => ?_⟩
 obtain ⟨v, hv, rv⟩ := r1.get hy
 refine ⟨⟨xs, v, SqL.of h1, hv⟩, fun z H'' hz => ?_⟩
 obtain ⟨e1, e2⟩ := hz
 subst e1
 have := e2 xs (SqL.of h1)
 rw [hv] at this; cases this
 exact ⟨.refl, w', rv⟩
theorem Jk {K : PySem.W.Frag} {H : Hp} {O : Own} {M : MH} {a : Addr} {x : AV} {l : List AV} (r : zp H O M (.ref a) x) (h : Xv x = some l) : ko (Itt K a) H O M l (fun _ => True) := by
 intro H' O' M' fix mst w' hG i
 obtain ⟨a', xs, e, h1, r1⟩ := qX (r.imp fix mst) h
 cases e
 refine ⟨fun e => ⟨xs, SqT.of h1, by rw [r1.1]; omega⟩, fun y hy => ?_⟩
 obtain ⟨v, hv, rv⟩ := r1.get hy
 refine ⟨⟨xs, v, SqT.of h1, hv⟩, fun z H'' hz => ?_⟩
 obtain ⟨e1, e2⟩ := hz
 subst e1
 have := e2 xs (SqT.of h1)
 rw [hv] at this; cases this
 exact ⟨.refl, w', rv⟩
def aiS (a : AE) : AI := fun ρ M R => a ρ M fun x M1 => ∃ l, qM x M1 = some l /\ R l (fun M' => qM x M' = some l) M1
theorem ko.mono {J : It} {H : Hp} {O : Own} {M : MH} {l : List AV} {G G' : MH -> Prop} (h : ko J H O M l G) (k : ∀ M, G' M -> G M) : ko J H O M l G' := fun H' O' M' fix mst w' hG => h H' O' M' fix mst w' (k _ hG)
theorem Yh {K : PySem.W.Frag} {t : TE} {a : AE} (h : zY t a) : yb (iLT K t) (aiS a) := ⟨fun w e q k => h.go w e q fun x M1 v H1 O1 ⟨l, hl, q1⟩ k1 w1 r1 => by
 rcases qE hl with hl' | ⟨m, rfl, rfl⟩
 ·obtain ⟨a, xs, rfl, h1, _⟩ := qy w1 r1 hl'
  refine ⟨a, rfl, .inl ⟨⟨xs, SqL.of h1⟩, k _ _ _ _ _ _ q1 k1 w1 ((wF r1 hl').mono fun M hM => ?_)⟩⟩
  rcases qE hM with z | ⟨m, rfl, rfl⟩
  ·exact z
  ·cases hl'
 ·obtain ⟨a, xs, rfl, h1, _⟩ := qX (l := m.map .d) r1 rfl
  exact ⟨a, rfl, .inr ⟨⟨xs, SqT.of h1⟩, k _ _ _ _ _ _ q1 k1 w1 ((Jk r1 rfl).mono fun _ _ => trivial)⟩⟩⟩
def jA (lo c : Int) (n : Nat) : List AV := (List.range n).map fun (k : Nat) => .d (.int (lo + (k : Int) * c))
theorem jd (lo c : Int) (n : Nat) : (jA lo c n).length = n := by simp [jA]
theorem kI {lo c : Int} {n i : Nat} {y : AV} (h : (jA lo c n)[i]? = some y) : i < n /\ y = .d (.int (lo + (i : Int) * c)) := by
 have hi := (List.getElem?_eq_some_iff.mp h).1
 rw [jd] at hi
 unfold jA at h
 rw [List.getElem?_map, List.getElem?_range hi] at h
 cases h
 exact ⟨hi, rfl⟩
theorem ZL {H : Hp} {O : Own} {M : MH} (lo : Int) (n : Nat) : ko (Itr lo n) H O M (jA lo 1 n) (fun _ => True) := by
 intro H' O' M' fix mst w' hG i
 refine ⟨fun e => by rw [jd] at e; exact Nat.le_of_eq e.symm, fun y hy => ?_⟩
 obtain ⟨hi, rfl⟩ := kI hy
 refine ⟨hi, fun z H'' hz => ?_⟩
 obtain ⟨rfl, rfl⟩ := hz
 rw [Int.mul_one]
 exact ⟨.refl, w', .int⟩
def Vc (a : AA) : AI := fun ρ M R => a ρ M fun xs M1 => ∃ j : Int, xs = [.d (.int j)] /\ -(2 ^ 62) <= j /\ j < 2 ^ 62 /\ R (jA 0 1 j.toNat) (fun _ => True) M1
theorem J4 {t : TA} {a : AA} (h : kE t a) : yb (Z0 t) (Vc a) := ⟨fun w e q k => h.go w e q fun x M1 v H1 O1 ⟨j, e1, j1, j2, q1⟩ k1 w1 r1 => by
 subst e1
 obtain ⟨v1, r', rfl, a1, r2⟩ := r1.cons_inv
 rw [r2.nil_inv, zG a1]
 exact ⟨j, rfl, j1, j2, k _ _ _ _ _ _ q1 k1 w1 (ZL _ _)⟩⟩
def jX (m : List Dat) : List AV := (List.range m.length).map fun (i : Nat) => .d (.tup [.int (i : Int), m.getD i .non])
theorem qF (m : List Dat) : (jX m).length = m.length := by simp [jX]
theorem ji {m : List Dat} {i : Nat} {y : AV} (h : (jX m)[i]? = some y) : ∃ d, m[i]? = some d /\ y = .d (.tup [.int (i : Int), d]) := by
 have hi := (List.getElem?_eq_some_iff.mp h).1
 rw [qF] at hi
 unfold jX at h
 rw [List.getElem?_map, List.getElem?_range hi] at h
 cases h
 exact ⟨m[i], List.getElem?_eq_getElem hi, by dsimp only; rw [List.getD_eq_getElem?_getD, List.getElem?_eq_getElem hi]; rfl⟩
theorem yK {H : Hp} {O : Own} {M : MH} (w : Wf H O M) {p : Addr} (hp : H p = none) {x y : V} {d e : Dat} (r1 : Rep H O x d) (r2 : Rep H O y e) : Ext H O M (upd H p (.tup [x, y])) O M /\ Wf (upd H p (.tup [x, y])) O M /\ zp (upd H p (.tup [x, y])) O M (.ref p) (.d (.tup [d, e])) :=
 ⟨qp w hp _, xC w hp _, Rep.tup (w.fresh hp).1 zt rfl fun i z f h1 h2 => by
  match i, h1, h2 with
  | 0, h1, h2 => cases h1; cases h2; exact r1.ext (qp w hp _)
  | 1, h1, h2 => cases h1; cases h2; exact r2.ext (qp w hp _)
  | (i + 2), h1, _ => cases h1⟩
theorem Ze {K : PySem.W.Frag} {H : Hp} {O : Own} {M : MH} {a : Addr} {x : AV} {m : List Dat} (r : zp H O M (.ref a) x) (h : je x M = some (m.map .d)) : ko (Ite K a) H O M (jX m) (fun M' => je x M' = some (m.map .d)) := by
 intro H' O' M' fix mst w' hG i
 obtain ⟨a', xs, e, h1, r1⟩ := qy w' (r.imp fix mst) hG
 cases e
 have l1 := r1.1
 rw [List.length_map] at l1
 refine ⟨fun e => ⟨xs, SqL.of h1, by rw [qF] at e; omega⟩, fun y hy => ?_⟩
 obtain ⟨d, hd, rfl⟩ := ji hy
 obtain ⟨v, hv, rv⟩ := r1.get (i := i) (d := .d d) (by rw [List.getElem?_map, hd]; rfl)
 refine ⟨⟨xs, v, SqL.of h1, hv⟩, fun z H'' hz => ?_⟩
 obtain ⟨p, x', hp, rfl, e2, rfl⟩ := hz
 have := e2 xs (SqL.of h1)
 rw [hv] at this; cases this
 exact yK w' hp .int rv
theorem vx {K : PySem.W.Frag} {H : Hp} {O : Own} {M : MH} {a : Addr} {m : List Dat} (r : zp H O M (.ref a) (.d (.tup m))) : ko (Y3 K a) H O M (jX m) (fun _ => True) := by
 intro H' O' M' fix mst w' hG i
 obtain ⟨a', xs, e, h1, r1⟩ := qX (l := m.map .d) (r.imp fix mst) rfl
 cases e
 have l1 := r1.1
 rw [List.length_map] at l1
 refine ⟨fun e => ⟨xs, SqT.of h1, by rw [qF] at e; omega⟩, fun y hy => ?_⟩
 obtain ⟨d, hd, rfl⟩ := ji hy
 obtain ⟨v, hv, rv⟩ := r1.get (i := i) (d := .d d) (by rw [List.getElem?_map, hd]; rfl)
 refine ⟨⟨xs, v, SqT.of h1, hv⟩, fun z H'' hz => ?_⟩
 obtain ⟨p, x', hp, rfl, e2, rfl⟩ := hz
 have := e2 xs (SqT.of h1)
 rw [hv] at this; cases this
 exact yK w' hp .int rv
def aiE (a : AA) : AI := fun ρ M R => a ρ M fun xs M1 => ∃ x l m, xs = [x] /\ qM x M1 = some l /\ pur l = some m /\ R (jX m) (fun M' => qM x M' = some l) M1
theorem vO {x : AV} {M M' : MH} {l l' : List AV} (h : je x M = some l) (h' : qM x M' = some l') : je x M' = some l' := by
 rcases qE h' with z | ⟨m, rfl, rfl⟩
 ·exact z
 ·cases h
theorem YI {K : PySem.W.Frag} {t : TA} {a : AA} (h : kE t a) : yb (yd K t) (aiE a) := ⟨fun w e q k => h.go w e q fun xs M1 v H1 O1 ⟨x, l, m, e1, hl, hm, q1⟩ k1 w1 r1 => by
 subst e1
 obtain ⟨v1, r', rfl, a1, r2⟩ := r1.cons_inv
 rw [r2.nil_inv]
 rw [jf hm] at hl q1
 rcases qE hl with hl' | ⟨m', rfl, e2⟩
 ·obtain ⟨a, xs, rfl, h1, _⟩ := qy w1 a1 hl'
  exact ⟨a, rfl, .inl ⟨⟨xs, SqL.of h1⟩, k _ _ _ _ _ _ q1 k1 w1 ((Ze a1 hl').mono fun M hM => vO hl' hM)⟩⟩
 ·obtain rfl : m = m' := by have := congrArg pur e2; rw [z0, z0] at this; cases this; rfl
  obtain ⟨a, xs, rfl, h1, _⟩ := qX (l := m.map .d) a1 rfl
  exact ⟨a, rfl, .inr ⟨⟨xs, SqT.of h1⟩, k _ _ _ _ _ _ q1 k1 w1 ((vx a1).mono fun _ _ => trivial)⟩⟩⟩
structure j5 (D : Addr) (H : Hp) (O : Own) (M : MH) (H' : Hp) (O' : Own) (M' : MH) : Prop where
 fix : ∀ a o, ¬ O a -> H a = some o -> H' a = some o /\ ¬ O' a
 prv : ∀ a, a ≠ D -> O a -> M a = none -> H' a = H a /\ O' a /\ M' a = none
 mst : ∀ a, M a ≠ none -> M' a ≠ none
theorem Ext.x {D : Addr} {H H' : Hp} {O O' : Own} {M M' : MH} (k : Ext H O M H' O' M') : j5 D H O M H' O' M' := ⟨k.fix, fun a _ => k.prv a, k.mst⟩
theorem j5.trans {D : Addr} {H H1 H2 : Hp} {O O1 O2 : Own} {M M1 M2 : MH} (a : j5 D H O M H1 O1 M1) (b : j5 D H1 O1 M1 H2 O2 M2) : j5 D H O M H2 O2 M2 :=
 ⟨fun x o h e => let ⟨e1, h1⟩ := a.fix x o h e; b.fix x o h1 e1, fun x hx h e => by
  obtain ⟨e1, h1, n1⟩ := a.prv x hx h e
  obtain ⟨e2, h2, n2⟩ := b.prv x hx h1 n1
  exact ⟨e2.trans e1, h2, n2⟩, fun x h => b.mst x (a.mst x h)⟩
theorem j5.set {D : Addr} {H : Hp} {O : Own} {M : MH} (hO : O D) (o : HO) : j5 D H O M (upd H D o) O M := ⟨j9 hO o, fun a ha h e => ⟨zk ha, h, e⟩, fun _ h => h⟩
theorem Er.imp {H H' : Hp} {O O' : Own} {M M' : MH} {σ : St} {ρ : ASt} (e : Er H O M σ ρ) (k : ∀ a o, ¬ O a -> H a = some o -> H' a = some o /\ ¬ O' a) (hm : ∀ a, M a ≠ none -> M' a ≠ none) : Er H' O' M' σ ρ := ⟨e.len, fun i x h => let ⟨v, h1, h2⟩ := e.get i x h; ⟨v, h1, h2.imp k hm⟩⟩
abbrev ATR := List AV -> ASt -> MH -> (List AV -> ASt -> MH -> Prop) -> Prop
structure xh (D : Addr) (tr : TR) (a : ATR) : Prop where
 go : ∀ {σ : St} {H : Hp} {O : Own} {ρ : ASt} {M : MH} {acc : List AV} {ys : List V} {N : St -> Hp -> Prop} {N' : List AV -> ASt -> MH -> Prop}, Wf H O M -> Er H O M σ ρ -> O D -> M D = none -> H D = some (.lst ys) -> ze H O M ys acc -> a acc ρ M N' ->
  (∀ acc' ρ' M' σ' H' O' ys', N' acc' ρ' M' -> j5 D H O M H' O' M' -> Wf H' O' M' -> Er H' O' M' σ' ρ' -> O' D -> M' D = none -> H' D = some (.lst ys') -> ze H' O' M' ys' acc' -> N σ' H') -> tr σ H N
def jV (a : AE) : ATR := fun acc ρ M N => a ρ M fun x M1 => acc.length < sizeLine /\ N (acc ++ [x]) ρ M1
theorem kL {D : Addr} {t : TE} {a : AE} (h : zY t a) : xh D (kN t D) (jV a) := ⟨fun {σ H O ρ M acc ys N N'} w e o m hd r q k => h.go w e q fun x M1 v H1 O1 ⟨q0, q1⟩ k1 w1 r1 => by
 obtain ⟨e1, o1, m1⟩ := k1.prv D o m
 have r' := r.ext k1
 refine ⟨ys, e1.trans hd, by rw [r.1]; exact q0, k _ _ _ _ _ _ (ys ++ [v]) q1 (k1.x.trans (j5.set o1 _)) (vm w1 o1 m1 (e1.trans hd) _ (fun _ z => nomatch z)) ((e.ext k1).imp (j9 o1 _) (fun _ z => z)) o1 m1 zt ((r'.snoc r1).imp (j9 o1 _) (fun _ z => z))⟩⟩
def yH (ag : AG) (at_ : AT) (tr : ATR) (G : MH -> Prop) (N : List AV -> ASt -> MH -> Prop) (l acc : List AV) (ρ : ASt) (M : MH) : Prop :=
 ∃ Pv : Nat -> List AV -> ASt -> MH -> Prop, Pv 0 acc ρ M /\ (∀ i x acc ρ M, l[i]? = some x -> Pv i acc ρ M -> G M /\ ag x ρ M fun ρ2 M2 => at_ ρ2 M2 fun b M3 => if b = true then tr acc ρ2 M3 (Pv (i + 1)) else Pv (i + 1) acc ρ2 M3) /\ ∀ acc ρ M, Pv l.length acc ρ M -> G M /\ N acc ρ M
theorem QC {D : Addr} {g : TG} {tt : TT} {tr : TR} {ag : AG} {at_ : AT} {atr : ATR} (hg : jS g ag) (ht : qV tt at_) (hr : xh D tr atr) {J : It} {H1 : Hp} {O1 : Own} {M1 : MH} {l : List AV} {G : MH -> Prop} (hj : ko J H1 O1 M1 l G) {N' : List AV -> ASt -> MH -> Prop} {N : St -> Hp -> Prop}
  {σ : St} {ρ : ASt} {acc : List AV} {ys : List V} (w : Wf H1 O1 M1) (e : Er H1 O1 M1 σ ρ) (o : O1 D) (m : M1 D = none) (hd : H1 D = some (.lst ys)) (r : ze H1 O1 M1 ys acc) (q : yH ag at_ atr G N' l acc ρ M1)
  (k : ∀ acc' ρ' M' σ' H' O' ys', N' acc' ρ' M' -> j5 D H1 O1 M1 H' O' M' -> Wf H' O' M' -> Er H' O' M' σ' ρ' -> O' D -> M' D = none -> H' D = some (.lst ys') -> ze H' O' M' ys' acc' -> N σ' H') : CL J g tt tr N σ H1 := by
 obtain ⟨Pv, p0, ps, pd⟩ := q
 refine ⟨fun i n σ H => n = l.length - i /\ i <= l.length /\ ∃ O ρ M acc ys, Wf H O M /\ Er H O M σ ρ /\ j5 D H1 O1 M1 H O M /\ O D /\ M D = none /\ H D = some (.lst ys) /\ ze H O M ys acc /\ Pv i acc ρ M,
  ⟨l.length, by simp, Nat.zero_le _, O1, ρ, M1, acc, ys, w, e, Ext.refl.x, o, m, hd, r, p0⟩, ?_⟩
 rintro i n σ H ⟨rfl, hi, O, ρ, M, acc, ys, w, e, x, o, m, hd, r, hf⟩
 by_cases hil : i < l.length
 ·have hy : l[i]? = some l[i] := List.getElem?_eq_getElem hil
  obtain ⟨hG, q2⟩ := ps i l[i] acc ρ M hy hf
  obtain ⟨j1, j2⟩ := (hj H O M x.fix x.mst w hG i).2 l[i] hy
  refine .inr ⟨j1, fun σ' H' => ∃ O ρ M acc ys, Wf H' O M /\ Er H' O M σ' ρ /\ j5 D H1 O1 M1 H' O M /\ O D /\ M D = none /\ H' D = some (.lst ys) /\ ze H' O M ys acc /\ Pv (i + 1) acc ρ M, fun σ' H' z => ⟨l.length - (i + 1), by omega, rfl, hil, z⟩, fun v H' hv => ?_⟩
  obtain ⟨k2, w2, r2⟩ := j2 v H' hv
  refine hg.go w2 (e.ext k2) r2 q2 fun σ3 H3 O3 ρ3 M3 q3 k3 w3 e3 => ?_
  refine ht.go w3 e3 q3 fun b M4 H4 O4 q4 k4 w4 => ?_
  have k24 := (k2.trans k3).trans k4
  obtain ⟨d4, o4, m4⟩ := k24.prv D o m
  have r4 := r.ext k24
  cases b with
  | true =>
   exact hr.go w4 (e3.ext k4) o4 m4 (d4.trans hd) r4 q4 fun acc' ρ' M' σ' H' O' ys' q5 k5 w5 e5 o5 m5 d5 r5 => ⟨O', ρ', M', acc', ys', w5, e5, (x.trans k24.x).trans k5, o5, m5, d5, r5, q5⟩
  | false =>
   exact ⟨O4, ρ3, M4, acc, ys, w4, e3.ext k4, x.trans k24.x, o4, m4, d4.trans hd, r4, q4⟩
 ·have e0 : i = l.length := by omega
  subst e0
  obtain ⟨hG, q2⟩ := pd acc ρ M hf
  exact .inl ⟨(hj H O M x.fix x.mst w hG l.length).1 rfl, k _ _ _ _ _ _ _ q2 x w e o m hd r⟩
def vN (ai : AI) (ag : AG) (at_ : AT) (atr : ATR) : ATR := fun acc ρ M N => ai ρ M fun l G M1 => yH ag at_ atr G N l acc ρ M1
theorem xg {D : Addr} {wi : TI} {g : TG} {tt : TT} {tr : Addr -> TR} {ai : AI} {ag : AG} {at_ : AT} {atr : ATR} (hi : yb wi ai) (hg : jS g ag) (ht : qV tt at_) (hr : xh D (tr D) atr) : xh D (xE wi g tt tr D) (vN ai ag at_ atr) := ⟨fun w e o m hd r q k => by
 refine hi.go w e q fun l G M1 J H1 O1 q1 k1 w1 hj => ?_
 obtain ⟨d1, o1, m1⟩ := k1.prv D o m
 exact QC hg ht hr hj w1 (e.ext k1) o1 m1 (d1.trans hd) (r.ext k1) q1 fun acc' ρ' M' σ' H' O' ys' q5 k5 w5 e5 o5 m5 d5 r5 => k _ _ _ _ _ _ _ q5 (k1.x.trans k5) w5 e5 o5 m5 d5 r5⟩
def v0 (ts : List Nat) (ai : AI) (ag : AG) (at_ : AT) (atr : ATR) : AF := fun ρ M Q => ai ρ M fun l G M1 => yH ag at_ atr G (fun acc _ M' => Q acc M') l [] (Kt ts ρ) M1
theorem kM {ts : List Nat} {wi : TI} {g : TG} {tt : TT} {tr : Addr -> TR} {ai : AI} {ag : AG} {at_ : AT} {atr : ATR} (hi : yb wi ai) (hg : jS g ag) (ht : qV tt at_) (hr : ∀ D, xh D (tr D) atr) : yO (jH ts wi g tt tr) (v0 ts ai ag at_ atr) := ⟨fun {σ H O ρ M Q Q'} w e q k => by
 refine hi.go w e q fun l G M1 J H1 O1 q1 k1 w1 hj D hD => ?_
 have kp := qt w1 hD (.lst [])
 have hj' : ko J (upd H1 D (.lst [])) (Zc O1 D) M1 l G := fun H' O' M' fix mst w' hG => hj H' O' M' (fun a o ha ho => fix a o (kp.fix a o ha ho).2 (kp.fix a o ha ho).1) mst w' hG
 refine QC hg ht (hr D) hj' (xK w1 hD _ (fun _ z => nomatch z)) (((e.ext k1).clr ts).ext kp) (.inl rfl) (w1.fresh hD).2 zt .nil q1 fun acc' ρ' M' σ' H' O' ys' q5 k5 w5 e5 o5 m5 d5 r5 => ?_
 have hH := kK w1 k1 hD
 refine k _ _ _ _ _ _ q5 ⟨fun a o ha ho => ?_, fun a ha hm => ?_, fun a hm => k5.mst a (k1.mst a hm)⟩ w5 o5 m5 hH d5 r5
 ·obtain ⟨x1, x2⟩ := (k1.trans kp).fix a o ha ho
  exact k5.fix a o x2 x1
 ·obtain ⟨x1, x2, x3⟩ := (k1.trans kp).prv a ha hm
  obtain ⟨y1, y2, y3⟩ := k5.prv a (fun z => w.ne a ha (by rw [z]; exact hH)) x2 x3
  exact ⟨y1.trans x1, y2, y3⟩⟩
theorem Zx {ts : List Nat} {wi : TI} {g : TG} {tt : TT} {te : TE} {ai : AI} {ag : AG} {at_ : AT} {ae : AE} (hi : yb wi ai) (hg : jS g ag) (ht : qV tt at_) (he : zY te ae) : yO (yB ts wi g tt te) (v0 ts ai ag at_ (jV ae)) :=
 ⟨fun w e q k => (kM (ts := ts) (tr := kN te) hi hg ht fun D => kL he).go w e q k⟩
end L2
set_option Elab.async false
set_option linter.all false
set_option maxRecDepth 100000
set_option maxHeartbeats 4000000
namespace L2
open PySem PySem.Spec PyProof.Rows
def aI (C : Int -> Int -> Prop) (g : Int -> Int -> Dat) : AR2 := fun x y M Q => ∃ i j, x = .d (.int i) /\ y = .d (.int j) /\ C i j /\ Q (.d (g i j)) M
def aI0 (g : Int -> Int -> Dat) : AR2 := fun x y M Q => ∃ i j, x = .d (.int i) /\ y = .d (.int j) /\ Q (.d (g i j)) M
theorem XX {C : Int -> Int -> Prop} {f : Int -> Int -> Int} : wR (rI C fun i j => .int (f i j)) (aI C fun i j => .int (f i j)) := ⟨fun w r1 r2 ⟨i, j, e1, e2, c, q⟩ k => by
 subst e1 e2; exact ⟨i, j, zG r1, zG r2, c, k _ _ _ _ _ q .refl w .int⟩⟩
theorem JN {f : Int -> Int -> Int} : wR (rI0 fun i j => .int (f i j)) (aI0 fun i j => .int (f i j)) := ⟨fun w r1 r2 ⟨i, j, e1, e2, q⟩ k => by
 subst e1 e2; exact ⟨i, j, zG r1, zG r2, k _ _ _ _ _ q .refl w .int⟩⟩
theorem Jx {f : Int -> Int -> Bool} : wR (rI0 fun i j => .bl (f i j)) (aI0 fun i j => .bl (f i j)) := ⟨fun w r1 r2 ⟨i, j, e1, e2, q⟩ k => by
 subst e1 e2; exact ⟨i, j, zG r1, zG r2, k _ _ _ _ _ q .refl w .bl⟩⟩
def eqS : Dat -> Dat -> Option Bool
 | .non, .non => some true | .non, .int _ => some false | .int _, .non => some false | .non, .bl _ => some false | .bl _, .non => some false | .non, .str _ => some false | .str _, .non => some false
 | .int i, .int j => some (decide (i = j)) | .bl a, .bl b => some (decide (a = b)) | .str a, .str b => some (decide (a = b))
 | .int _, .str _ => some false | .str _, .int _ => some false | .bl _, .str _ => some false | .str _, .bl _ => some false
 | _, _ => none
def kl : AV -> Bool
 | .d .non => true
 | _ => false
theorem KG {H : Hp} {O : Own} {M : MH} {xs : List V} {l : List AV} (r : ze H O M xs l) {i : Int} {x : AV} (h : atI l i = some x) : ∃ v, atI xs i = some v /\ zp H O M v x := by
 unfold atI at h ⊢
 rw [r.1]
 cases e : ixN l.length i with
 | none => rw [e] at h; cases h
 | some j => rw [e] at h; exact r.get h
def aIx (s : AV -> MH -> Option (List AV)) : AR2 := fun x y M Q => ∃ l i z, s x M = some l /\ y = .d (.int i) /\ atI l i = some z /\ Q z M
theorem Qj {K : PySem.W.Frag} : wR (vQ K) (aIx qM) := ⟨fun w r1 r2 ⟨l, i, z, h, e, hz, q⟩ k => by
 subst e
 obtain ⟨a, xs, rfl, h1, r⟩ := vA w r1 h
 obtain ⟨v, hv, rv⟩ := KG r hz
 exact ⟨a, xs, i, v, rfl, zG r2, h1.elim (fun h => .inl (SqL.of h)) (fun h => .inr (SqT.of h)), hv, k _ _ _ _ _ q .refl w rv⟩⟩
structure Q0 (r : R2) (a : AV -> AV -> MH -> (List AV -> Prop) -> Prop) : Prop where
 go : ∀ {x y : V} {dx dy : AV} {H : Hp} {O : Own} {M : MH} {Q : VK} {Q' : List AV -> Prop}, Wf H O M -> zp H O M x dx -> zp H O M y dy -> a dx dy M Q' -> (∀ l ys, Q' l -> ze H O M ys l -> ∀ p, H p = none -> Q (.ref p) (upd H p (.lst ys))) -> r x y H Q
def fOp (r : AV -> AV -> MH -> (List AV -> Prop) -> Prop) (a b : AE) : AF := fun ρ M Q => a ρ M fun x M1 => b ρ M1 fun y M2 => r x y M2 fun l => Q l M2
theorem wv {r : R2} {ra : AV -> AV -> MH -> (List AV -> Prop) -> Prop} {t u : TE} {a b : AE} (hr : Q0 r ra) (h1 : zY t a) (h2 : zY u b) : yO (tOp r t u) (fOp ra a b) :=
 ⟨fun w e q k => h1.go w e q fun x M1 v H1 O1 q1 k1 w1 r1 => h2.go w1 (e.ext k1) q1 fun y M2 u H2 O2 q2 k2 w2 r2 => hr.go w2 (r1.ext k2) r2 q2 fun l ys q3 r3 p hp =>
  k l M2 p ys _ _ q3 ((k1.trans k2).trans (qt w2 hp _)) (xK w2 hp _ (fun _ z => nomatch z)) (.inl rfl) (w2.fresh hp).2 (kK w2 (k1.trans k2) hp) zt (r3.ext (qt w2 hp _))⟩
def XI : AV -> AV -> MH -> (List AV -> Prop) -> Prop := fun x y M Q => ∃ l m, je x M = some l /\ je y M = some m /\ l.length + m.length <= sizeLine /\ Q (l ++ m)
theorem yM : Q0 Kv XI := ⟨fun w r1 r2 ⟨l, m, h1, h2, hs, q⟩ k => by
 obtain ⟨a, xs, rfl, e1, p1⟩ := qy w r1 h1
 obtain ⟨b, ys, rfl, e2, p2⟩ := qy w r2 h2
 exact ⟨a, b, xs, ys, rfl, rfl, e1, e2, by rw [p1.1, p2.1]; exact hs, k _ _ q (p1.append p2)⟩⟩
theorem ze.rep {H : Hp} {O : Own} {M : MH} {xs : List V} {l : List AV} (a : ze H O M xs l) : ∀ k : Nat, ze H O M (List.replicate k xs).flatten (List.replicate k l).flatten
 | 0 => .nil
 | k + 1 => by rw [List.replicate_succ, List.replicate_succ, List.flatten_cons, List.flatten_cons]; exact a.append (ze.rep a k)
def VG : AV -> AV -> MH -> (List AV -> Prop) -> Prop := fun x y M Q => ∃ l k, je x M = some l /\ y = .d (.int k) /\ -(2 ^ 63) <= k /\ k < 2 ^ 63 /\ l.length * k.toNat <= sizeLine /\ Q (List.replicate k.toNat l).flatten
theorem Z8 : Q0 YS VG := ⟨fun w r1 r2 ⟨l, n, h1, e, b1, b2, hs, q⟩ k => by
 subst e
 obtain ⟨a, xs, rfl, e1, p1⟩ := qy w r1 h1
 exact ⟨a, n, xs, rfl, zG r2, e1, b1, b2, by rw [p1.1]; exact hs, k _ _ q (p1.rep _)⟩⟩
abbrev AO := ASt -> MH -> (Option Int -> MH -> Prop) -> Prop
structure Wd (t : TO) (a : AO) : Prop where
 go : ∀ {σ : St} {H : Hp} {O : Own} {ρ : ASt} {M : MH} {Q : Option Int -> Hp -> Prop} {Q' : Option Int -> MH -> Prop}, Wf H O M -> Er H O M σ ρ -> a ρ M Q' -> (∀ x M' H' O', Q' x M' -> Ext H O M H' O' M' -> Wf H' O' M' -> Q x H') -> t σ H Q
theorem Kq {H : Hp} {O : Own} {M : MH} (w : Wf H O M) {p : Addr} (hp : H p = none) {xs : List V} {l : List Dat} (r : ze H O M xs (l.map .d)) : zp (upd H p (.tup xs)) O M (.ref p) (.d (.tup l)) :=
 have r2 := r.pure
 Rep.tup (w.fresh hp).1 zt r2.1 fun i x d e1 e2 => (r2.2 i x d e1 e2).ext (qp w hp _)
end L2
set_option Elab.async false
set_option linter.all false
set_option maxRecDepth 100000
set_option maxHeartbeats 4000000
namespace L2
open PySem PySem.Spec PyProof.Rows
mutual
def eqD : Dat -> Dat -> Bool
 | .non, .non => true
 | .bl a, .bl b => a == b
 | .bl a, .int b => (if a then 1 else 0) == b
 | .int a, .bl b => a == (if b then 1 else 0)
 | .int a, .int b => a == b
 | .str a, .str b => a == b
 | .lst a, .lst b => jm a b
 | .tup a, .tup b => jm a b
 | _, _ => false
def jm : List Dat -> List Dat -> Bool
 | [], [] => true
 | a :: r, b :: r' => eqD a b && jm r r'
 | _, _ => false
end
mutual
def dp : Dat -> Nat
 | .lst l => dps l + 1
 | .tup l => dps l + 1
 | .rng _ _ _ => 1000
 | .scr _ _ => 1000
 | .ty _ => 1000
 | _ => 0
def dps : List Dat -> Nat
 | [] => 0
 | a :: r => max (dp a) (dps r)
end
theorem vH {l : List Dat} {n : Nat} (h : ∀ d ∈ l, dp d <= n) : dps l <= n := by
 induction l with
 | nil => exact Nat.zero_le _
 | cons a r ih => rw [dps]; exact Nat.max_le.mpr ⟨h a (by simp), ih fun d hd => h d (by simp [hd])⟩
theorem zR {l : List Dat} {d : Dat} (h : d ∈ l) : dp d <= dps l := by
 induction l with
 | nil => cases h
 | cons a r ih =>
  rw [dps]
  rcases List.mem_cons.mp h with rfl | h
  ·exact Nat.le_max_left _ _
  ·exact Nat.le_trans (ih h) (Nat.le_max_right _ _)
theorem jb : ∀ (l m : List Dat), l.length = m.length -> jm l m = (List.range l.length).all fun j => eqD (l.getD j .non) (m.getD j .non)
 | [], [], _ => rfl
 | a :: r, b :: r', h => by
  rw [jm, jb r r' (by simpa using h), List.length_cons, List.range_succ_eq_map, List.all_cons, List.all_map]; rfl
 | [], _ :: _, h => by simp at h
 | _ :: _, [], h => by simp at h
theorem jc : ∀ (l m : List Dat), l.length ≠ m.length -> jm l m = false
 | [], [], h => absurd rfl h
 | a :: r, b :: r', h => by rw [jm, jc r r' (fun z => h (by simp [z])), Bool.and_false]
 | [], _ :: _, h => by simp [jm]
 | _ :: _, [], h => by simp [jm]
theorem QX (l m : List Dat) : eqD (.lst l) (.tup m) = false := by simp [eqD]
theorem Z3 (l m : List Dat) : eqD (.tup l) (.lst m) = false := by simp [eqD]
theorem Ku {p : Dat -> Prop} (h : ∀ a, (∀ b, dp b < dp a -> p b) -> p a) (a : Dat) : p a := by
 have : ∀ n a, dp a <= n -> p a := fun n => by
  induction n with
  | zero => intro a ha; exact h a fun b hb => absurd hb (by omega)
  | succ n ih => intro a ha; exact h a fun b hb => ih b (by omega)
 exact this (dp a) a (Nat.le_refl _)
theorem xm {l : List Dat} (h : ∀ d ∈ l, eqD d d = true) : jm l l = true := by
 induction l with
 | nil => rfl
 | cons a r ih => rw [jm, h a (by simp), ih fun d hd => h d (by simp [hd])]; rfl
theorem kG {a : Dat} : dp a < 1000 -> eqD a a = true := by
 refine Ku (p := fun a => dp a < 1000 -> eqD a a = true) (fun a ih ha => ?_) a
 cases a with
 | non => rfl
 | bl b => rw [eqD]; simp
 | int i => rw [eqD]; simp
 | str x => rw [eqD]; simp
 | lst l =>
  rw [eqD]
  rw [dp] at ha ih
  exact xm fun d hd => ih d (by have := zR hd; omega) (by have := zR hd; omega)
 | tup l =>
  rw [eqD]
  rw [dp] at ha ih
  exact xm fun d hd => ih d (by have := zR hd; omega) (by have := zR hd; omega)
 | rng a b c => rw [dp] at ha; omega
 | scr _ l => rw [dp] at ha; omega
 | ty l => rw [dp] at ha; omega
theorem Rep.fn {H : Hp} {O O' : Own} {v : V} {a b : Dat} (r : Rep H O v a) : Rep H O' v b -> dp a < 1000 -> dp b < 1000 -> a = b := by
 induction r generalizing b with
 | non => intro r' _ _; cases r'; rfl
 | bl => intro r' _ _; cases r'; rfl
 | int => intro r' _ _; cases r'; rfl
 | str => intro r' _ _; cases r'; rfl
 | ty => intro r' h _; rw [dp] at h; omega
 | rng _ _ => intro r' h _; rw [dp] at h; omega
 | scr _ _ => intro r' h _; rw [dp] at h; omega
 | scrK _ => intro r' h _; rw [dp] at h; omega
 | @lst a xs l o1 h1 l1 r1 ih =>
  intro r' ha hb
  cases r' with
  | @lst _ ys m o2 h2 l2 r2 =>
   rw [h1] at h2; cases h2
   congr 1
   refine List.ext_getElem (l1.symm.trans l2) fun i i1 i2 => ?_
   have i0 : i < xs.length := by omega
   rw [dp] at ha hb
   refine ih i xs[i] l[i] (by simp [i0]) (by simp [i1]) (r2 i xs[i] m[i] (by simp [i0]) (by simp [i2])) ?_ ?_
   ·have := zR (List.getElem_mem i1); omega
   ·have := zR (List.getElem_mem i2); omega
  | @tup _ ys m o2 h2 => rw [h1] at h2; cases h2
  | rng o2 h2 => rw [dp] at hb; omega
  | scr o2 h2 => rw [dp] at hb; omega
  | scrK _ => rw [dp] at hb; omega
 | @tup a xs l o1 h1 l1 r1 ih =>
  intro r' ha hb
  cases r' with
  | @tup _ ys m o2 h2 l2 r2 =>
   rw [h1] at h2; cases h2
   congr 1
   refine List.ext_getElem (l1.symm.trans l2) fun i i1 i2 => ?_
   have i0 : i < xs.length := by omega
   rw [dp] at ha hb
   refine ih i xs[i] l[i] (by simp [i0]) (by simp [i1]) (r2 i xs[i] m[i] (by simp [i0]) (by simp [i2])) ?_ ?_
   ·have := zR (List.getElem_mem i1); omega
   ·have := zR (List.getElem_mem i2); omega
  | @lst _ ys m o2 h2 => rw [h1] at h2; cases h2
  | rng o2 h2 => rw [dp] at hb; omega
  | scr o2 h2 => rw [dp] at hb; omega
  | scrK _ => rw [dp] at hb; omega
section
variable {X : Cx} {pins : List (Addr × Obj)} {s : Shared} {σ : St} {H : Hp}
theorem ja {xs : List V} {us : List Value} (r : zu xs us) {j : Nat} (h : j < us.toArray.size) : ∃ x, xs[j]? = some x /\ zy x us.toArray[j] := by
 have h' : j < us.length := by simpa using h
 have hx : j < xs.length := by rw [r.length]; exact h'
 obtain ⟨u, hu, ru⟩ := r.get (i := j) (List.getElem?_eq_getElem hx)
 have e : us.toArray[j] = u := by
  have := (List.getElem?_eq_some_iff.mp hu).2
  simpa using this
 exact ⟨xs[j], List.getElem?_eq_getElem hx, by rw [e]; exact ru⟩
theorem Qr (I : Inv X pins σ H s) {A : Around} {p q : Addr} {O O' : Own} {a b : Dat} (ih : ∀ (c d : Dat) (v u : V) (v' u' : Value), dp c < dp a -> Rep H O v c -> Rep H O' u d -> dp d < 1000 -> zy v v' -> zy u u' -> SeqAt.EqAt A.in1 s v' u' (eqD c d))
    (ra : Rep H O (.ref p) a) (rb : Rep H O' (.ref q) b) (ha : dp a < 1000) (hb : dp b < 1000) (hu : A.units < cLine) : SeqAt.RcAt A s (.ref p) (.ref q) (eqD a b) := by
  cases ra with
  | @lst _ xs l o1 h1 l1 r1 =>
    obtain ⟨us, u1, p1, z1⟩ := I.list (SqL.of h1)
    cases rb with
    | @lst _ ys m o2 h2 l2 r2 =>
      obtain ⟨ws, u2, p2, z2⟩ := I.list (SqL.of h2)
      have s1 : us.toArray.size = l.length := by rw [List.size_toArray, <- u1.length, l1]
      have s2 : ws.toArray.size = m.length := by rw [List.size_toArray, <- u2.length, l2]
      by_cases e : l.length = m.length
      · have h := SeqAt.RcAt.lists (A := A) (e := fun j => eqD (l.getD j .non) (m.getD j .non)) p1.isList p2.isList (by rw [s1, s2, e]) hu (fun j j1 j2 => by
          obtain ⟨x, hx, rx⟩ := ja u1 j1
          obtain ⟨y, hy, ry⟩ := ja u2 j2
          have k1 : j < l.length := by rw [<- s1]; exact j1
          have k2 : j < m.length := by rw [<- s2]; exact j2
          rw [dp] at ha hb ih
          refine ih _ _ x y _ _ ?_ (r1 j x _ hx ?_) (r2 j y _ hy ?_) ?_ rx ry
          · rw [List.getD_eq_getElem?_getD, List.getElem?_eq_getElem k1]
            have := zR (List.getElem_mem k1); show dp l[j] < _; omega
          · rw [List.getD_eq_getElem?_getD, List.getElem?_eq_getElem k1]; rfl
          · rw [List.getD_eq_getElem?_getD, List.getElem?_eq_getElem k2]; rfl
          · rw [List.getD_eq_getElem?_getD, List.getElem?_eq_getElem k2]
            have := zR (List.getElem_mem k2); show dp m[j] < _; omega)
        rw [s1, <- jb l m e] at h
        rw [eqD]; exact h
      · rw [eqD, jc l m e]
        exact SeqAt.RcAt.lists_lengths p1.isList p2.isList (by rw [s1, s2]; simpa using e) hu
    | @tup _ ys m o2 h2 l2 r2 =>
      obtain ⟨ws, u2, p2, z2⟩ := I.tuple (SqT.of h2)
      rw [QX]
      exact SeqAt.RcAt.list_tuple p1.isList p2 hu
    | rng o2 h2 => rw [dp] at hb; omega
    | scr o2 h2 => rw [dp] at hb; omega
    | scrK _ => rw [dp] at hb; omega
  | @tup _ xs l o1 h1 l1 r1 =>
    obtain ⟨us, u1, p1, z1⟩ := I.tuple (SqT.of h1)
    cases rb with
    | @tup _ ys m o2 h2 l2 r2 =>
      obtain ⟨ws, u2, p2, z2⟩ := I.tuple (SqT.of h2)
      have s1 : us.toArray.size = l.length := by rw [List.size_toArray, <- u1.length, l1]
      have s2 : ws.toArray.size = m.length := by rw [List.size_toArray, <- u2.length, l2]
      have h := SeqAt.RcAt.tuples (A := A) (e := fun j => eqD (l.getD j .non) (m.getD j .non)) (show s.heap.IsTuple p us.toArray from p1) (show s.heap.IsTuple q ws.toArray from p2) hu (fun j j1 j2 => by
          obtain ⟨x, hx, rx⟩ := ja u1 j1
          obtain ⟨y, hy, ry⟩ := ja u2 j2
          have k1 : j < l.length := by rw [<- s1]; exact j1
          have k2 : j < m.length := by rw [<- s2]; exact j2
          rw [dp] at ha hb ih
          refine ih _ _ x y _ _ ?_ (r1 j x _ hx ?_) (r2 j y _ hy ?_) ?_ rx ry
          · rw [List.getD_eq_getElem?_getD, List.getElem?_eq_getElem k1]
            have := zR (List.getElem_mem k1); show dp l[j] < _; omega
          · rw [List.getD_eq_getElem?_getD, List.getElem?_eq_getElem k1]; rfl
          · rw [List.getD_eq_getElem?_getD, List.getElem?_eq_getElem k2]; rfl
          · rw [List.getD_eq_getElem?_getD, List.getElem?_eq_getElem k2]
            have := zR (List.getElem_mem k2); show dp m[j] < _; omega)
      rw [s1, s2] at h
      rw [eqD]
      by_cases e : l.length = m.length
      · rw [<- e, Nat.min_self, beq_self_eq_true, Bool.and_true, <- jb l m e] at h
        exact h
      · rw [jc l m e]
        rw [show (l.length == m.length) = false by simpa using e, Bool.and_false] at h
        exact h
    | @lst _ ys m o2 h2 l2 r2 =>
      obtain ⟨ws, u2, p2, z2⟩ := I.list (SqL.of h2)
      rw [Z3]
      exact SeqAt.RcAt.tuple_list p1 p2.isList hu
    | rng o2 h2 => rw [dp] at hb; omega
    | scr o2 h2 => rw [dp] at hb; omega
    | scrK _ => rw [dp] at hb; omega
  | rng o2 h2 => rw [dp] at ha; omega
  | scr o2 h2 => rw [dp] at ha; omega
  | scrK _ => rw [dp] at ha; omega
theorem V4 (I : Inv X pins σ H s) {a : Addr} {xs : List V} (h : H a = some (.lst xs)) : ∃ us, s.heap.IsList a us := let ⟨_, _, p, _⟩ := I.list (SqL.of h); ⟨_, p.isList⟩
theorem V6 (I : Inv X pins σ H s) {a : Addr} {xs : List V} (h : H a = some (.tup xs)) : ∃ us, s.heap.IsTuple a us := let ⟨_, _, p, _⟩ := I.tuple (SqT.of h); ⟨_, p⟩
local macro_rules | `(tactic| walk_at "sc") => `(tactic| first
 | with_reducible exact .same _ | with_reducible exact .none_none | with_reducible exact .none_bool _ | with_reducible exact .none_int _ _ | with_reducible exact .none_str _ _ | with_reducible exact .bool_none _ | with_reducible exact .bool_bool _ _ | with_reducible exact .bool_int _ _ _ | with_reducible exact .bool_str _ _ _ | with_reducible exact .int_none _ _ | with_reducible exact .int_bool _ _ _ | with_reducible exact .int_int _ _ _ _ | with_reducible exact .int_str _ _ _ _ | with_reducible exact .str_none _ _ | with_reducible exact .str_bool _ _ _ | with_reducible exact .str_int _ _ _ _ | with_reducible exact .str_str _ _ _ _)
theorem ls_ (I : Inv X pins σ H s) {a : Addr} {xs : List V} (h : H a = some (.lst xs)) : s.heap.IsList a (Classical.choose (V4 I h)) := Classical.choose_spec _
theorem ts_ (I : Inv X pins σ H s) {a : Addr} {xs : List V} (h : H a = some (.tup xs)) : s.heap.IsTuple a (Classical.choose (V6 I h)) := Classical.choose_spec _
local macro_rules | `(tactic| walk_at "sq") => `(tactic| first
 | with_reducible exact .none_list (ls_ (by assumption) (by assumption)) (by assumption) | with_reducible exact .bool_list _ (ls_ (by assumption) (by assumption)) (by assumption) | with_reducible exact .int_list _ _ (ls_ (by assumption) (by assumption)) (by assumption) | with_reducible exact .str_list _ _ (ls_ (by assumption) (by assumption)) (by assumption) | with_reducible exact .list_none (ls_ (by assumption) (by assumption)) (by assumption) | with_reducible exact .list_bool _ (ls_ (by assumption) (by assumption)) (by assumption) | with_reducible exact .list_int _ _ (ls_ (by assumption) (by assumption)) (by assumption) | with_reducible exact .list_str _ _ (ls_ (by assumption) (by assumption)) (by assumption)
 | with_reducible exact .none_tuple (ts_ (by assumption) (by assumption)) (by assumption) | with_reducible exact .bool_tuple _ (ts_ (by assumption) (by assumption)) (by assumption) | with_reducible exact .int_tuple _ _ (ts_ (by assumption) (by assumption)) (by assumption) | with_reducible exact .str_tuple _ _ (ts_ (by assumption) (by assumption)) (by assumption) | with_reducible exact .tuple_none (ts_ (by assumption) (by assumption)) (by assumption) | with_reducible exact .tuple_bool _ (ts_ (by assumption) (by assumption)) (by assumption) | with_reducible exact .tuple_int _ _ (ts_ (by assumption) (by assumption)) (by assumption) | with_reducible exact .tuple_str _ _ (ts_ (by assumption) (by assumption)) (by assumption))
theorem wx (I : Inv X pins σ H s) {O O' : Own} (A : Around) (hu : A.units < cLine) (a b : Dat) (v u : V) (v' u' : Value) (ha : dp a < 1000) (ra : Rep H O v a) (rb : Rep H O' u b) (hb : dp b < 1000) (rv : zy v v') (ru : zy u u')
    (ih : ∀ (c d : Dat) (v u : V) (v' u' : Value), dp c < dp a -> Rep H O v c -> Rep H O' u d -> dp d < 1000 -> zy v v' -> zy u u' -> SeqAt.EqAt A.in1 s v' u' (eqD c d)) : SeqAt.EqAt A s v' u' (eqD a b) := by
  by_cases hr : ∃ p q, v = .ref p /\ u = .ref q
  · obtain ⟨p, q, rfl, rfl⟩ := hr
    cases rv
    cases ru
    by_cases e : p = q
    · subst e
      rw [<- ra.fn rb ha hb, kG ha]
      exact .same _
    · exact .of_refs e (Qr I ih ra rb ha hb hu)
  · cases ra <;> cases rb <;> first
      | with_reducible exact absurd ⟨_, _, rfl, rfl⟩ hr
      | (rw [dp] at ha; omega)
      | (rw [dp] at hb; omega)
      | ((first | (obtain ⟨t0, rfl⟩ := rv) | cases rv); (first | (obtain ⟨t1, rfl⟩ := ru) | cases ru); simp only [eqD, Bool.not_false, Bool.not_true]; first | walk_at "sc" | walk_at "sq")
theorem Jl (I : Inv X pins σ H s) {O O' : Own} : ∀ (n : Nat) (A : Around), A.units + n < cLine -> ∀ (a b : Dat) (v u : V) (v' u' : Value), dp a <= n -> n < 1000 -> Rep H O v a -> Rep H O' u b -> dp b < 1000 -> zy v v' -> zy u u' -> SeqAt.EqAt A s v' u' (eqD a b) := by
 intro n
 induction n with
 | zero =>
  intro A hu a b v u v' u' ha _ ra rb hb rv ru
  exact wx I A (by omega) a b v u v' u' (by omega) ra rb hb rv ru fun _ _ _ _ _ _ h => absurd h (by omega)
 | succ n ih =>
  intro A hu a b v u v' u' ha hn ra rb hb rv ru
  exact wx I A (by omega) a b v u v' u' (by omega) ra rb hb rv ru fun c d x y x' y' hc rc rd hd rx ry => ih A.in1 (by show A.units + 1 + n < _; omega) c d x y x' y' (by omega) (by omega) rc rd hd rx ry
def Yp (f : Bool -> Bool) : R2 := fun x y H Q => ∃ O O' a b, Rep H O x a /\ Rep H O' y b /\ dp a <= 40 /\ dp b <= 40 /\ Q (.bl (f (eqD a b))) H
theorem Yw (I : Inv X pins σ H s) {O O' : Own} (A : Around) (hu : A.units + 41 < cLine) (a b : Dat) (v u : V) (v' u' : Value) (ha : dp a <= 40) (ra : Rep H O v a) (rb : Rep H O' u b) (hb : dp b <= 40) (rv : zy v v') (ru : zy u u') : SeqAt.RcAt A s v' u' (eqD a b) := by
  have ih : ∀ (c d : Dat) (v u : V) (v' u' : Value), dp c < dp a -> Rep H O v c -> Rep H O' u d -> dp d < 1000 -> zy v v' -> zy u u' -> SeqAt.EqAt A.in1 s v' u' (eqD c d) := fun c d v u v' u' hc rc rd hd rv ru => Jl I 40 A.in1 (by show A.units + 1 + 40 < _; omega) c d v u v' u' (by omega) (by omega) rc rd hd rv ru
  replace hu : A.units < cLine := by omega
  by_cases hr : ∃ p q, v = .ref p /\ u = .ref q
  · obtain ⟨p, q, rfl, rfl⟩ := hr
    cases rv
    cases ru
    exact Qr I ih ra rb (by omega) (by omega) hu
  · cases ra <;> cases rb <;> first
      | with_reducible exact absurd ⟨_, _, rfl, rfl⟩ hr
      | (rw [dp] at ha; omega)
      | (rw [dp] at hb; omega)
      | ((first | (obtain ⟨t0, rfl⟩ := rv) | cases rv); (first | (obtain ⟨t1, rfl⟩ := ru) | cases ru); simp only [eqD, Bool.not_false, Bool.not_true]; first | walk_at "sc" | walk_at "sq")
theorem Jf (I : Inv X pins σ H s) {A : Around} {p q : Addr} {O O' : Own} {a b : Dat} (ih : ∀ (c d : Dat) (v u : V) (v' u' : Value), dp c < dp a -> Rep H O v c -> Rep H O' u d -> dp d < 1000 -> zy v v' -> zy u u' -> SeqAt.EqAt A.in1 s v' u' (eqD c d))
    (ra : Rep H O (.ref p) a) (rb : Rep H O' (.ref q) b) (ha : dp a < 1000) (hb : dp b < 1000) (hu : A.units < cLine) : SeqAt.RcNeAt A s (.ref p) (.ref q) (!(eqD a b)) := by
  cases ra with
  | @lst _ xs l o1 h1 l1 r1 =>
    obtain ⟨us, u1, p1, z1⟩ := I.list (SqL.of h1)
    cases rb with
    | @lst _ ys m o2 h2 l2 r2 =>
      obtain ⟨ws, u2, p2, z2⟩ := I.list (SqL.of h2)
      have s1 : us.toArray.size = l.length := by rw [List.size_toArray, <- u1.length, l1]
      have s2 : ws.toArray.size = m.length := by rw [List.size_toArray, <- u2.length, l2]
      by_cases e : l.length = m.length
      · have h := SeqAt.RcNeAt.lists (A := A) (e := fun j => eqD (l.getD j .non) (m.getD j .non)) p1.isList p2.isList (by rw [s1, s2, e]) hu (fun j j1 j2 => by
          obtain ⟨x, hx, rx⟩ := ja u1 j1
          obtain ⟨y, hy, ry⟩ := ja u2 j2
          have k1 : j < l.length := by rw [<- s1]; exact j1
          have k2 : j < m.length := by rw [<- s2]; exact j2
          rw [dp] at ha hb ih
          refine ih _ _ x y _ _ ?_ (r1 j x _ hx ?_) (r2 j y _ hy ?_) ?_ rx ry
          · rw [List.getD_eq_getElem?_getD, List.getElem?_eq_getElem k1]
            have := zR (List.getElem_mem k1); show dp l[j] < _; omega
          · rw [List.getD_eq_getElem?_getD, List.getElem?_eq_getElem k1]; rfl
          · rw [List.getD_eq_getElem?_getD, List.getElem?_eq_getElem k2]; rfl
          · rw [List.getD_eq_getElem?_getD, List.getElem?_eq_getElem k2]
            have := zR (List.getElem_mem k2); show dp m[j] < _; omega)
        rw [s1, <- jb l m e] at h
        rw [eqD]; exact h
      · rw [eqD, jc l m e]
        exact SeqAt.RcNeAt.lists_lengths p1.isList p2.isList (by rw [s1, s2]; simpa using e) hu
    | @tup _ ys m o2 h2 l2 r2 =>
      obtain ⟨ws, u2, p2, z2⟩ := I.tuple (SqT.of h2)
      rw [QX]
      exact SeqAt.RcNeAt.list_tuple p1.isList p2 hu
    | rng o2 h2 => rw [dp] at hb; omega
    | scr o2 h2 => rw [dp] at hb; omega
    | scrK _ => rw [dp] at hb; omega
  | @tup _ xs l o1 h1 l1 r1 =>
    obtain ⟨us, u1, p1, z1⟩ := I.tuple (SqT.of h1)
    cases rb with
    | @tup _ ys m o2 h2 l2 r2 =>
      obtain ⟨ws, u2, p2, z2⟩ := I.tuple (SqT.of h2)
      have s1 : us.toArray.size = l.length := by rw [List.size_toArray, <- u1.length, l1]
      have s2 : ws.toArray.size = m.length := by rw [List.size_toArray, <- u2.length, l2]
      have h := SeqAt.RcNeAt.tuples (A := A) (e := fun j => eqD (l.getD j .non) (m.getD j .non)) (show s.heap.IsTuple p us.toArray from p1) (show s.heap.IsTuple q ws.toArray from p2) hu (fun j j1 j2 => by
          obtain ⟨x, hx, rx⟩ := ja u1 j1
          obtain ⟨y, hy, ry⟩ := ja u2 j2
          have k1 : j < l.length := by rw [<- s1]; exact j1
          have k2 : j < m.length := by rw [<- s2]; exact j2
          rw [dp] at ha hb ih
          refine ih _ _ x y _ _ ?_ (r1 j x _ hx ?_) (r2 j y _ hy ?_) ?_ rx ry
          · rw [List.getD_eq_getElem?_getD, List.getElem?_eq_getElem k1]
            have := zR (List.getElem_mem k1); show dp l[j] < _; omega
          · rw [List.getD_eq_getElem?_getD, List.getElem?_eq_getElem k1]; rfl
          · rw [List.getD_eq_getElem?_getD, List.getElem?_eq_getElem k2]; rfl
          · rw [List.getD_eq_getElem?_getD, List.getElem?_eq_getElem k2]
            have := zR (List.getElem_mem k2); show dp m[j] < _; omega)
      rw [s1, s2] at h
      rw [eqD]
      by_cases e : l.length = m.length
      · rw [<- e, Nat.min_self, beq_self_eq_true, Bool.and_true, <- jb l m e] at h
        exact h
      · rw [jc l m e]
        rw [show (l.length == m.length) = false by simpa using e, Bool.and_false] at h
        exact h
    | @lst _ ys m o2 h2 l2 r2 =>
      obtain ⟨ws, u2, p2, z2⟩ := I.list (SqL.of h2)
      rw [Z3]
      exact SeqAt.RcNeAt.tuple_list p1 p2.isList hu
    | rng o2 h2 => rw [dp] at hb; omega
    | scr o2 h2 => rw [dp] at hb; omega
    | scrK _ => rw [dp] at hb; omega
  | rng o2 h2 => rw [dp] at ha; omega
  | scr o2 h2 => rw [dp] at ha; omega
  | scrK _ => rw [dp] at ha; omega
theorem Qv (I : Inv X pins σ H s) {O O' : Own} (A : Around) (hu : A.units + 41 < cLine) (a b : Dat) (v u : V) (v' u' : Value) (ha : dp a <= 40) (ra : Rep H O v a) (rb : Rep H O' u b) (hb : dp b <= 40) (rv : zy v v') (ru : zy u u') : SeqAt.RcNeAt A s v' u' (!(eqD a b)) := by
  have ih : ∀ (c d : Dat) (v u : V) (v' u' : Value), dp c < dp a -> Rep H O v c -> Rep H O' u d -> dp d < 1000 -> zy v v' -> zy u u' -> SeqAt.EqAt A.in1 s v' u' (eqD c d) := fun c d v u v' u' hc rc rd hd rv ru => Jl I 40 A.in1 (by show A.units + 1 + 40 < _; omega) c d v u v' u' (by omega) (by omega) rc rd hd rv ru
  replace hu : A.units < cLine := by omega
  by_cases hr : ∃ p q, v = .ref p /\ u = .ref q
  · obtain ⟨p, q, rfl, rfl⟩ := hr
    cases rv
    cases ru
    exact Jf I ih ra rb (by omega) (by omega) hu
  · cases ra <;> cases rb <;> first
      | with_reducible exact absurd ⟨_, _, rfl, rfl⟩ hr
      | (rw [dp] at ha; omega)
      | (rw [dp] at hb; omega)
      | ((first | (obtain ⟨t0, rfl⟩ := rv) | cases rv); (first | (obtain ⟨t1, rfl⟩ := ru) | cases ru); simp only [eqD, Bool.not_false, Bool.not_true]; first | walk_at "sc" | walk_at "sq")
theorem jv (hu : X.A.units + 64 < cLine) : OpR X (compareOp .Eq) (Yp id) := by
 intro pins s σ H x y v u Q I rx ry h
 obtain ⟨O, O', a, b, ra, rb, ha, hb, k⟩ := h
 exact Yw I X.A (by omega) a b x y v u ha ra rb hb rx ry _ _ _ _ ⟨.bl _, H, I, rfl, k⟩
theorem qi (hu : X.A.units + 64 < cLine) : OpR X (compareOp .NotEq) (Yp not) := by
 intro pins s σ H x y v u Q I rx ry h
 obtain ⟨O, O', a, b, ra, rb, ha, hb, k⟩ := h
 exact Qv I X.A (by omega) a b x y v u ha ra rb hb rx ry _ _ _ _ ⟨.bl _, H, I, rfl, k⟩
end
def Qx (x : AV) (M : MH) : Option Dat := match x with
 | .d x => some x
 | .ref a => match M a with
  | some (.lst l) => (pur l).map .lst
  | _ => none
theorem Xm (x : Dat) (M : MH) : Qx (.d x) M = some x := rfl
theorem yJ {H : Hp} {O : Own} {M : MH} {v : V} {x : AV} {d : Dat} (w : Wf H O M) (r : zp H O M v x) (h : Qx x M = some d) : ∃ O', Rep H O' v d := by
 cases x with
 | d x => cases h; exact ⟨O, r⟩
 | ref a =>
  unfold Qx at h
  dsimp only at h
  cases e : M a with
  | none => rw [e] at h; cases h
  | some o =>
   rw [e] at h
   cases o with
   | lst l =>
    dsimp only at h
    cases ep : pur l with
    | none => rw [ep] at h; cases h
    | some ds =>
     rw [ep] at h
     cases h
     obtain ⟨xs, hx, rx⟩ := w.mo a _ e
     rw [jf ep] at rx
     have rp := rx.pure
     refine ⟨KF O a, ?_⟩
     rw [r.1]
     exact Rep.lst (fun z => z.1 rfl) hx rp.1 fun i x d e1 e2 => (rp.2 i x d e1 e2).imp (jJ a)
   | _ => cases h
def Vg (f : Bool -> Bool) : AR2 := fun x y M Q => ∃ a b, Qx x M = some a /\ Qx y M = some b /\ dp a <= 40 /\ dp b <= 40 /\ Q (.d (.bl (f (eqD a b)))) M
theorem Kl {f : Bool -> Bool} : wR (Yp f) (Vg f) := ⟨fun w r1 r2 ⟨a, b, e1, e2, h1, h2, q⟩ k => by
 obtain ⟨O1, p1⟩ := yJ w r1 e1
 obtain ⟨O2, p2⟩ := yJ w r2 e2
 exact ⟨O1, O2, a, b, p1, p2, h1, h2, k _ _ _ _ _ q .refl w .bl⟩⟩
theorem jI (i : Int) : dp (.int i) = 0 := by simp [dp]
theorem zr (ns : List Int) : dp (.lst (ns.map .int)) <= 1 := by
 rw [dp]
 have : dps (ns.map Dat.int) <= 0 := vH fun d hd => by
  obtain ⟨i, _, rfl⟩ := List.mem_map.mp hd
  rw [jI]; exact Nat.le_refl _
 omega
theorem kU : ∀ (ns ms : List Int), jm (ns.map .int) (ms.map .int) = decide (ns = ms)
 | [], [] => by simp [jm]
 | [], _ :: _ => by simp [jm]
 | _ :: _, [] => by simp [jm]
 | a :: r, b :: r' => by
  rw [List.map_cons, List.map_cons, jm, kU r r', show eqD (.int a) (.int b) = (a == b) by simp [eqD]]
  by_cases h : a = b <;> simp [h]
theorem kC (ns ms : List Int) : eqD (.lst (ns.map .int)) (.lst (ms.map .int)) = decide (ns = ms) := by rw [eqD, kU]
end L2
set_option Elab.async false
set_option linter.all false
set_option maxRecDepth 100000
set_option maxHeartbeats 4000000
namespace L2
open PySem PySem.Spec PyProof.Rows
theorem ju {H : Hp} {O : Own} {M : MH} {vs : List V} {x : AV} (r : ze H O M vs [x]) : ∃ v, vs = [v] /\ zp H O M v x := by
 obtain ⟨v1, r', rfl, a1, r2⟩ := r.cons_inv
 rw [r2.nil_inv]; exact ⟨v1, rfl, a1⟩
theorem xM {H : Hp} {O : Own} {M : MH} {vs : List V} {x y : AV} (r : ze H O M vs [x, y]) : ∃ v u, vs = [v, u] /\ zp H O M v x /\ zp H O M u y := by
 obtain ⟨v1, r', rfl, a1, r2⟩ := r.cons_inv
 obtain ⟨v2, rfl, a2⟩ := ju r2
 exact ⟨v1, v2, rfl, a1, a2⟩
def Vz : List AV -> MH -> AK -> Prop := fun xs M Q => ∃ x l, xs = [x] /\ qM x M = some l /\ Q (.d (.int (l.length : Nat))) M
theorem JT {K : PySem.W.Frag} : wC (fun xs H Q => ∃ p ys, xs = [V.ref p] /\ (SqL K H p ys \/ SqT K H p ys) /\ Q (V.int ys.length) H) Vz := ⟨fun w r ⟨x, l, e, h, q⟩ k => by
 subst e
 obtain ⟨v, rfl, rv⟩ := ju r
 obtain ⟨a, xs, rfl, h1, r1⟩ := vA w rv h
 exact ⟨a, xs, rfl, h1.elim (fun h => .inl (SqL.of h)) (fun h => .inr (SqT.of h)), by rw [r1.1]; exact k _ _ _ _ _ q .refl w .int⟩⟩
def bI2 (f : Int -> Int -> Int) : List AV -> MH -> AK -> Prop := fun xs M Q => ∃ i j, xs = [.d (.int i), .d (.int j)] /\ Q (.d (.int (f i j))) M
theorem Xt {f : Int -> Int -> Int} : wC (fun xs H Q => ∃ i j, xs = [V.int i, V.int j] /\ Q (V.int (f i j)) H) (bI2 f) := ⟨fun w r ⟨i, j, e, q⟩ k => by
 subst e
 obtain ⟨v, u, rfl, rv, ru⟩ := xM r
 exact ⟨i, j, by rw [zG rv, zG ru], k _ _ _ _ _ q .refl w .int⟩⟩
def K5 : List AV -> MH -> AK -> Prop := fun xs M Q => ∃ c, xs = [.d (.bl c)] /\ Q (.d (.int (if c = true then 1 else 0))) M
theorem QT : wC (fun xs H Q => ∃ k, xs = [V.bl k] /\ Q (V.int (if k = true then 1 else 0)) H) K5 := ⟨fun w r ⟨c, e, q⟩ k => by
 subst e
 obtain ⟨v, rfl, rv⟩ := ju r
 exact ⟨c, by rw [xW rv], k _ _ _ _ _ q .refl w .int⟩⟩
def Q9 : List AV -> MH -> AK -> Prop := fun xs M Q => ∃ x l ds, xs = [x] /\ qM x M = some l /\ pur l = some ds /\ Q (.d (.tup ds)) M
theorem Zo {K : PySem.W.Frag} : wC (fun xs H Q => ∃ p ys, xs = [V.ref p] /\ ((SqL K H p ys /\ ∀ l, H l = none -> Q (V.ref l) (upd H l (HO.tup ys))) \/ SqT K H p ys /\ Q (V.ref p) H)) Q9 := ⟨fun w r ⟨x, l, ds, e, h, hp, q⟩ k => by
 subst e
 obtain ⟨v, rfl, rv⟩ := ju r
 rw [jf hp] at h
 rcases qE h with h' | ⟨m, rfl, e2⟩
 ·obtain ⟨a, xs, rfl, h1, r1⟩ := qy w rv h'
  exact ⟨a, xs, rfl, .inl ⟨SqL.of h1, fun p hp => k _ _ _ _ _ q (qp w hp _) (xC w hp _) (Kq w hp r1)⟩⟩
 ·obtain rfl : ds = m := by have := congrArg pur e2; rw [z0, z0] at this; cases this; rfl
  obtain ⟨a, xs, rfl, h1, r1⟩ := qX (l := ds.map .d) rv rfl
  exact ⟨a, xs, rfl, .inr ⟨SqT.of h1, k _ _ _ _ _ q .refl w rv⟩⟩⟩
structure K3 (r : List V -> Hp -> VK -> Prop) (a : List AV -> MH -> (List AV -> Prop) -> Prop) : Prop where
 go : ∀ {vs : List V} {xs : List AV} {H : Hp} {O : Own} {M : MH} {Q : VK} {Q' : List AV -> Prop}, Wf H O M -> ze H O M vs xs -> a xs M Q' -> (∀ l ys, Q' l -> ze H O M ys l -> ∀ p, H p = none -> Q (.ref p) (upd H p (.lst ys))) -> r vs H Q
def fCB (r : List AV -> MH -> (List AV -> Prop) -> Prop) (b : AA) : AF := fun ρ M Q => b ρ M fun xs M1 => r xs M1 fun l => Q l M1
theorem JJ {r : List V -> Hp -> VK -> Prop} {ra : List AV -> MH -> (List AV -> Prop) -> Prop} {u : TA} {b : AA} (hr : K3 r ra) (h : kE u b) : yO (tCB r u) (fCB ra b) :=
 ⟨fun w e q k => h.go w e q fun x M1 v H1 O1 q1 k1 w1 r1 => hr.go w1 r1 q1 fun l ys q3 r3 p hp =>
  k l M1 p ys _ _ q3 (k1.trans (qt w1 hp _)) (xK w1 hp _ (fun _ z => nomatch z)) (.inl rfl) (w1.fresh hp).2 (kK w1 k1 hp) zt (r3.ext (qt w1 hp _))⟩
theorem jB {H : Hp} {O : Own} {M : MH} : ∀ {ns : List Int} {xs : List V}, ze H O M xs (ns.map fun i => AV.d (.int i)) -> xs = ns.map V.int
 | [], xs, r => r.nil_inv
 | i :: ns, xs, r => by
  obtain ⟨v, r', rfl, a1, r2⟩ := r.cons_inv
  rw [zG a1, jB r2]; rfl
def tyA (x : AV) (M : MH) : Option String := match x with
 | .d .non => some "NoneType"
 | .d (.bl _) => some "bool"
 | .d (.int _) => some "int"
 | .d (.str _) => some "str"
 | .d (.lst _) => some "list"
 | .d (.tup _) => some "tuple"
 | .ref a => match M a with
  | some (.lst _) => some "list"
  | some (.dK _) => some "dict"
  | _ => none
 | _ => none
def Kw : List Dat -> Option (List String)
 | [] => some []
 | .ty n :: r => (Kw r).map (n :: ·)
 | _ => none
def K1 : List AV -> MH -> AK -> Prop := fun xs M Q => ∃ b, xs = [.d (.int b)] /\ Q (.d (.rng 0 b 1)) M
theorem QK : wC (fun xs H Q => ∃ b, xs = [V.int b] /\ ∀ (p : Addr), H p = none -> Q (V.ref p) (upd H p (vj p 0 b 1))) K1 := ⟨fun w r ⟨b, e, q⟩ k => by
 subst e
 obtain ⟨v, rfl, rv⟩ := ju r
 exact ⟨b, by rw [zG rv], fun p hp => k _ _ _ _ _ q (qp w hp _) (xC w hp _) (Rep.rng (w.fresh hp).1 zt)⟩⟩
def KW : List AV -> MH -> (List AV -> Prop) -> Prop := fun xs M Q => ∃ a b c n, xs = [.d (.rng a b c)] /\ Builtin.Range.small a b c = true /\ Builtin.Range.rangeSize a b c = ((n : Nat) : Int) /\ n <= 100000 /\ Q ((qR a c n).map fun i => AV.d (.int i))
theorem wV : K3 (fun xs H Q => ∃ p a b c n, xs = [.ref p] /\ H p = some (vj p a b c) /\ Builtin.Range.small a b c = true /\ Builtin.Range.rangeSize a b c = ((n : Nat) : Int) /\ n <= 100000 /\ ∀ l, H l = none -> Q (.ref l) (upd H l (.lst ((qR a c n).map V.int)))) KW := ⟨fun {vs xs H O M Q Q'} w r ⟨a, b, c, n, e, h1, h2, h3, q⟩ k => by
 subst e
 obtain ⟨v, rfl, rv⟩ := ju r
 cases (show Rep H O v (.rng a b c) from rv) with
 | rng o h => exact ⟨_, a, b, c, n, rfl, h, h1, h2, h3, k _ _ q (vd _)⟩⟩
structure Vx (r : V -> List V -> Hp -> VK -> Prop) (a : AV -> List AV -> MH -> AK -> Prop) : Prop where
 go : ∀ {x : V} {dx : AV} {vs : List V} {xs : List AV} {H : Hp} {O : Own} {M : MH} {Q : VK} {Q' : AK}, Wf H O M -> zp H O M x dx -> ze H O M vs xs -> a dx xs M Q' -> (∀ x M' v H' O', Q' x M' -> Ext H O M H' O' M' -> Wf H' O' M' -> zp H' O' M' v x -> Q v H') -> r x vs H Q
def vZ (r : Addr) : MO -> Prop
 | .lst l => AV.ref r ∈ l
 | .dK kvs => AV.ref r ∈ kvs.map (·.2)
 | .ins _ fs => AV.ref r ∈ fs.map (·.2)
structure wA (M0 M' : MH) (x x' : AV) (M'' : MH) : Prop where
 sub : ∀ q, M'' q = M' q \/ (M0 q = none /\ M'' q = none)
 cl : ∀ q o, M'' q = some o -> M0 q = some o \/ ∀ r, vZ r o -> M'' r ≠ none
 res : (x' = x /\ ∀ p, x = .ref p -> M'' p ≠ none) \/ ∃ p l ds, x = .ref p /\ M' p = some (.lst l) /\ pur l = some ds /\ M'' p = none /\ x' = .d (.lst ds)
theorem vg {H0 H : Hp} {O0 O : Own} {M0 M' M'' : MH} {x x' : AV} {v : V} (w0 : Wf H0 O0 M0) (w : Wf H O M') (k : Ext H0 O0 M0 H O M') (r : zp H O M' v x) (f : wA M0 M' x x' M'') :
    ∃ O'', Wf H O'' M'' /\ Ext H0 O0 M0 H O'' M'' /\ zp H O'' M'' v x' := by
  have ks : ∀ a u, ¬ O a -> H a = some u -> H a = some u /\ ¬ (O a /\ ¬ (M' a ≠ none /\ M'' a = none)) := fun a u h e => ⟨e, fun z => h z.1⟩
  have k0 : ∀ a, M0 a ≠ none -> M'' a = M' a := fun a h => (f.sub a).elim (fun z => z) (fun z => absurd z.1 h)
  have m0 : ∀ a, M0 a ≠ none -> M'' a ≠ none := fun a h => by rw [k0 a h]; exact k.mst a h
  have avs : ∀ {xs : List V} {l : List AV}, ze H O M' xs l -> (∀ r, AV.ref r ∈ l -> M'' r ≠ none) -> ze H (fun a => O a /\ ¬ (M' a ≠ none /\ M'' a = none)) M'' xs l := fun {xs l} rr hr => ⟨rr.1, fun i y d e1 e2 => by
    have := rr.2 i y d e1 e2
    cases d with
    | d d => exact Rep.imp ks this
    | ref a => exact ⟨this.1, hr a (List.mem_of_getElem? e2)⟩⟩
  have refs0 : ∀ q o, M0 q = some o -> ∀ r, vZ r o -> M0 r ≠ none := fun q o e r hr => by
    have := w0.mo q o e
    cases o with
    | lst l =>
      obtain ⟨xs, _, rr⟩ := this
      obtain ⟨i, hi⟩ := List.getElem?_of_mem hr
      obtain ⟨y, _, ry⟩ := rr.get hi
      exact ry.2
    | dK l =>
      obtain ⟨xs, _, rr⟩ := this
      obtain ⟨i, hi⟩ := List.getElem?_of_mem hr
      obtain ⟨y, _, ry⟩ := rr.2.get hi
      exact ry.2
    | ins C l =>
      obtain ⟨dx, xs, _, rr, _⟩ := this
      obtain ⟨i, hi⟩ := List.getElem?_of_mem hr
      obtain ⟨y, _, ry⟩ := rr.2.get hi
      exact ry.2
  refine ⟨fun a => O a /\ ¬ (M' a ≠ none /\ M'' a = none), ⟨fun q o e => ?_, fun a h => ?_, fun a h => w.al a h.1⟩, ⟨fun a u h e => ?_, fun a h e => ?_, m0⟩, ?_⟩
  · have e' : M' q = some o := by
      rcases f.sub q with z | z
      · rw [<- z]; exact e
      · rw [z.2] at e; cases e
    have hr : ∀ r, vZ r o -> M'' r ≠ none := by
      rcases f.cl q o e with z | z
      · exact fun r hr => m0 r (refs0 q o z r hr)
      · exact z
    have := w.mo q o e'
    cases o with
    | lst l => obtain ⟨xs, h1, rr⟩ := this; exact ⟨xs, h1, avs rr hr⟩
    | dK l => obtain ⟨xs, h1, rr⟩ := this; exact ⟨xs, h1, rr.1, avs rr.2 hr⟩
    | ins C l =>
      obtain ⟨dx, xs, h1, rr, h2, h3, h4⟩ := this
      refine ⟨dx, xs, h1, ⟨rr.1, avs rr.2 hr⟩, ⟨h2, fun z => z.1 h3⟩, ?_, h4⟩
      rcases f.sub dx with z | z
      · rw [z]; exact h3
      · exact z.2
  · refine ⟨w.own a ?_, fun z => h z.2⟩
    rcases f.sub a with z | z
    · rw [<- z]; exact h
    · exact absurd z.2 h
  · obtain ⟨x1, x2⟩ := k.fix a u h e
    exact ⟨x1, fun z => x2 z.1⟩
  · obtain ⟨x1, x2, x3⟩ := k.prv a h e
    refine ⟨x1, ⟨x2, fun z => z.1 x3⟩, ?_⟩
    rcases f.sub a with z | z
    · rw [z]; exact x3
    · exact z.2
  · rcases f.res with ⟨rfl, hp⟩ | ⟨p, l, ds, rfl, hm, hp, hn, rfl⟩
    · cases x' with
      | d d => exact Rep.imp ks r
      | ref a => exact ⟨r.1, hp a rfl⟩
    · obtain ⟨xs, hx, rx⟩ := w.mo p _ hm
      rw [jf hp] at rx
      have rp := rx.pure
      rw [r.1]
      exact Rep.lst (fun z => z.2 ⟨qS hm, hn⟩) hx rp.1 fun i x d e1 e2 => (rp.2 i x d e1 e2).imp ks
def Fr (M0 M : MH) : Prop := ∀ q, M0 q ≠ none -> M q = M0 q
theorem Fr.refl {M : MH} : Fr M M := fun _ _ => rfl
theorem Fr.mup {M0 M : MH} (f : Fr M0 M) {p : Addr} (h : M0 p = none) (o : MO) : Fr M0 (mup M p o) := fun q hq => by rw [zB (fun z => hq (by rw [z]; exact h))]; exact f q hq
theorem Fr.sub {M0 M : MH} (f : Fr M0 M) (q : Addr) : M0 q = M q \/ (M0 q = none /\ M0 q = none) := by
 cases e : M0 q with
 | none => exact .inr ⟨rfl, rfl⟩
 | some o => exact .inl (by rw [f q (by rw [e]; exact fun z => nomatch z), e])
theorem VL {M0 M : MH} (f : Fr M0 M) (d : Dat) : wA M0 M (.d d) (.d d) M0 := ⟨f.sub, fun q o e => .inl e, .inl ⟨rfl, fun p z => nomatch z⟩⟩
theorem xO {M0 M : MH} (f : Fr M0 M) {p : Addr} {l : List AV} {ds : List Dat} (h0 : M0 p = none) (h : M p = some (.lst l)) (hp : pur l = some ds) : wA M0 M (.ref p) (.d (.lst ds)) M0 := ⟨f.sub, fun q o e => .inl e, .inr ⟨p, l, ds, rfl, h, hp, h0, rfl⟩⟩
theorem yh {l : List AV} {ds : List Dat} (h : pur l = some ds) (r : Addr) : AV.ref r ∉ l := by
 rw [jf h]; intro z
 obtain ⟨d, _, e⟩ := List.mem_map.mp z
 cases e
theorem Kz {M0 M : MH} (f : Fr M0 M) {p : Addr} {l : List AV} {ds : List Dat} (h0 : M0 p = none) (h : M p = some (.lst l)) (hp : pur l = some ds) : wA M0 M (.ref p) (.ref p) (mup M0 p (.lst l)) := by
 refine ⟨fun q => ?_, fun q o e => ?_, .inl ⟨rfl, fun q z => by cases z; rw [zm]; exact fun z => nomatch z⟩⟩
 ·by_cases c : q = p
  ·rw [c, zm, h]; exact .inl rfl
  ·rw [zB c]; exact f.sub q
 ·by_cases c : q = p
  ·rw [c, zm] at e
   cases e
   exact .inr fun r hr => absurd hr (yh hp r)
  ·rw [zB c] at e; exact .inl e
def zz (N : List Str) (xs : List AV) : ASt := xs.map some ++ List.replicate (N.length - xs.length) none
theorem Jc {H : Hp} {O : Own} {M : MH} {vs : List V} {xs : List AV} (r : ze H O M vs xs) (N : List Str) : Er H O M (qv N vs) (zz N xs) := by
 unfold qv zz
 refine ⟨by simp [r.1], fun i x h => ?_⟩
 by_cases c : i < xs.length
 ·rw [List.getElem?_append_left (by simpa using c), List.getElem?_map] at h
  cases e : xs[i]? with
  | none => rw [e] at h; cases h
  | some y =>
   rw [e] at h
   cases h
   obtain ⟨v, hv, rv⟩ := r.get e
   exact ⟨v, by rw [List.getElem?_append_left (by rw [List.length_map, r.1]; exact c), List.getElem?_map, hv]; rfl, rv⟩
 ·rw [List.getElem?_append_right (by simp; omega), List.getElem?_replicate] at h
  split at h <;> cases h
def rtA (M0 : MH) (Q : AK) : AK := fun x M' => ∃ x' M'', wA M0 M' x x' M'' /\ Q x' M''
theorem dfA {P : Program} {w : World} {K : PySem.W.Frag} {mg : Str -> Option Value} {base : Heap} {x : Str} {st : Stmt} {N ps : List Str} {k : Nat} {a : ASp} (at_ : At K mg x st) (S : zq N ps (zf st))
  (hb : ∀ (kV doc pm : Value) (an : Option Addr) (cdv ct : Value) (us : List Value), us.length = ps.length -> bindArgs (PySem.W.fnOf x x (qu st) (zV st) (zf st) .none kV doc pm an cdv ct) ⟨us, []⟩ = pure (ps.zip us))
  (len : ∀ xs M Q, a xs M Q -> xs.length = ps.length)
  (hbody : ∀ (f : Addr) (cdv : Value) (A : Around) (outer : List Env) (s : Shared) (H : Hp) (E : XK), qC k (A.deeper (envOfC x (zf st) s.heap.objs.size f cdv)) ->
   ∃ t, PSs (yc CX0 P w K mg base N x (zf st) f cdv A outer s H E).nox (zV st) t /\ ∃ b, jt t b /\ ∀ xs M Q, a xs M Q -> b M { nx := fun _ M' => rtA M Q (.d .non) M', rt := rtA M Q } (zz N xs) M) : Df P w K mg base x ps (k + 1) (cSp a) := by
 refine v4 at_ S hb (fun vs H Q E h => ?_) (fun f cdv A outer s H vs Q E hr h => ?_)
 ·obtain ⟨xs, M, O, Q', w, r, q, _⟩ := h
  rw [r.1]; exact len xs M Q' q
 ·obtain ⟨t, ht, b, hb, hq⟩ := hbody f cdv A outer s H E hr
  refine ⟨t, ht, ?_⟩
  obtain ⟨xs, M, O, Q', w, r, q, kk⟩ := h
  refine hb.go w w (Jc r N) .refl (hq xs M Q' q) ⟨fun σ H' O' ρ M' w' e' x' q' => ?_, fun v y H' O' M' w' x' r' q' => ?_, fun _ _ _ _ _ _ _ _ z => z.elim, fun _ _ _ _ _ _ _ _ z => z.elim⟩
  ·obtain ⟨y', M'', f, q2⟩ := q'
   obtain ⟨O'', w2, k2, r2⟩ := vg w w' x' (show zp H' O' M' .non (.d .non) from .non) f
   exact kk _ _ _ _ _ q2 k2 w2 r2
  ·obtain ⟨y', M'', f, q2⟩ := q'
   obtain ⟨O'', w2, k2, r2⟩ := vg w w' x' r' f
   exact kk _ _ _ _ _ q2 k2 w2 r2
end L2
set_option Elab.async false
set_option linter.all false
set_option maxRecDepth 100000
set_option maxHeartbeats 4000000
namespace L2
open PySem PySem.Spec PyProof.Rows
structure xU (tr : Addr -> TR) (a : ATR) : Prop where
 go : ∀ D, xh D (tr D) a
theorem Zg {t : TE} {a : AE} (h : zY t a) : xU (kN t) (jV a) := ⟨fun D => kL h⟩
theorem w8 {wi : TI} {g : TG} {tt : TT} {tr : Addr -> TR} {ai : AI} {ag : AG} {at_ : AT} {atr : ATR} (hi : yb wi ai) (hg : jS g ag) (ht : qV tt at_) (hr : xU tr atr) : xU (xE wi g tt tr) (vN ai ag at_ atr) := ⟨fun D => xg hi hg ht (hr.go D)⟩
theorem vF {ts : List Nat} {wi : TI} {g : TG} {tt : TT} {tr : Addr -> TR} {ai : AI} {ag : AG} {at_ : AT} {atr : ATR} (hi : yb wi ai) (hg : jS g ag) (ht : qV tt at_) (hr : xU tr atr) : yO (jH ts wi g tt tr) (v0 ts ai ag at_ atr) := kM hi hg ht hr.go
theorem ZY {t u : TE} {a b : AE} (h1 : zY t a) (h2 : zY u b) : zY (tOp Kv t u) (aFz (fOp XI a b)) := wl (wv yM h1 h2)
theorem ex2 {t : TS} {q : AS -> Prop} {b : AS} (h : jt t b) (k : q b) : ∃ b, jt t b /\ q b := ⟨b, h, k⟩
section
variable {X : Cx} {K : PySem.W.Frag}
theorem Ya {tg l : Expr} {tl : TE} (h : X.K = K) (hl : PE X l tl) : PI X tg l (iLT K tl) := h ▸ kX hl
end
theorem vL {τ : Type} (R : τ -> ASt) (f : AV -> AV) {ag : AG} {ae : AE} {G : MH -> Prop} {N : List AV -> ASt -> MH -> Prop} {l : List AV} {ρ : ASt} {M : MH} (h0 : ∃ o, ρ = R o) (hG : G M) (hl : l.length <= 100000)
  (hs : ∀ (o : τ) (x : AV) (Q : AV -> ASt -> MH -> Prop), x ∈ l -> (∀ o', Q (f x) (R o') M) -> ag x (R o) M fun ρ2 M2 => ae ρ2 M2 fun y M3 => Q y ρ2 M3) (hN : ∀ o, N (l.map f) (R o) M) : yH ag kj (jV ae) G N l [] ρ M := by
 have hsl : 100000 < sizeLine := by rw [sizeLine_eq]; decide
 refine ⟨fun i acc ρ' M' => i <= l.length /\ acc = (l.take i).map f /\ M' = M /\ ∃ o, ρ' = R o, ⟨Nat.zero_le _, rfl, rfl, h0⟩, ?_, ?_⟩
 ·rintro i x acc ρ' M' hx ⟨hi, rfl, rfl, o, rfl⟩
  have hil := (List.getElem?_eq_some_iff.mp hx).1
  refine ⟨hG, ?_⟩
  refine hs o x (fun y ρ2 M3 => ((l.take i).map f).length < sizeLine /\ (i + 1 <= l.length /\ (l.take i).map f ++ [y] = (l.take (i + 1)).map f /\ M3 = M' /\ ∃ o, ρ2 = R o)) (List.mem_of_getElem? hx) fun o' => ⟨by rw [List.length_map, List.length_take]; omega, hil, ?_, rfl, o', rfl⟩
  rw [List.take_add_one, hx, List.map_append]; rfl
 ·rintro acc ρ' M' ⟨_, rfl, rfl, o, rfl⟩
  rw [List.take_length]
  exact ⟨hG, hN o⟩
theorem J8 {τ : Type} (R : τ -> ASt) (f : Nat -> AV) {ag : AG} {ae : AE} {G : MH -> Prop} {N : List AV -> ASt -> MH -> Prop} {l : List AV} {ρ : ASt} {M : MH} (h0 : ∃ o, ρ = R o) (hG : G M) (hl : l.length <= 100000)
  (hs : ∀ (o : τ) (i : Nat) (x : AV) (Q : AV -> ASt -> MH -> Prop), l[i]? = some x -> (∀ o', Q (f i) (R o') M) -> ag x (R o) M fun ρ2 M2 => ae ρ2 M2 fun y M3 => Q y ρ2 M3) (hN : ∀ o, N ((List.range l.length).map f) (R o) M) : yH ag kj (jV ae) G N l [] ρ M := by
 have hsl : 100000 < sizeLine := by rw [sizeLine_eq]; decide
 refine ⟨fun i acc ρ' M' => i <= l.length /\ acc = (List.range i).map f /\ M' = M /\ ∃ o, ρ' = R o, ⟨Nat.zero_le _, rfl, rfl, h0⟩, ?_, ?_⟩
 ·rintro i x acc ρ' M' hx ⟨hi, rfl, rfl, o, rfl⟩
  have hil := (List.getElem?_eq_some_iff.mp hx).1
  refine ⟨hG, ?_⟩
  refine hs o i x (fun y ρ2 M3 => ((List.range i).map f).length < sizeLine /\ (i + 1 <= l.length /\ (List.range i).map f ++ [y] = (List.range (i + 1)).map f /\ M3 = M' /\ ∃ o, ρ2 = R o)) hx fun o' => ⟨by rw [List.length_map, List.length_range]; omega, hil, ?_, rfl, o', rfl⟩
  rw [List.range_succ, List.map_append]; rfl
 ·rintro acc ρ' M' ⟨_, rfl, rfl, o, rfl⟩
  exact ⟨hG, hN o⟩
theorem Xd : isT "int" "int" = some true := by decide +kernel
theorem X4 : isT "int" "bool" = some false := by decide +kernel
theorem X2 : isT "int" "str" = some false := by decide +kernel
theorem Yr : isT "int" "list" = some false := by decide +kernel
theorem YR : isT "int" "tuple" = some false := by decide +kernel
theorem Yd : isT "bool" "int" = some true := by decide +kernel
theorem Y1 : isT "bool" "bool" = some true := by decide +kernel
theorem Xu : isT "bool" "str" = some false := by decide +kernel
theorem X5 : isT "bool" "list" = some false := by decide +kernel
theorem Yb : isT "bool" "tuple" = some false := by decide +kernel
theorem YG : isT "str" "int" = some false := by decide +kernel
theorem Xq : isT "str" "bool" = some false := by decide +kernel
theorem Y4 : isT "str" "str" = some true := by decide +kernel
theorem Xk : isT "str" "list" = some false := by decide +kernel
theorem Xx : isT "str" "tuple" = some false := by decide +kernel
theorem YB : isT "NoneType" "int" = some false := by decide +kernel
theorem Yj : isT "NoneType" "bool" = some false := by decide +kernel
theorem XT : isT "NoneType" "str" = some false := by decide +kernel
theorem Yi : isT "NoneType" "list" = some false := by decide +kernel
theorem XJ : isT "NoneType" "tuple" = some false := by decide +kernel
theorem YW : isT "list" "int" = some false := by decide +kernel
theorem Xr : isT "list" "bool" = some false := by decide +kernel
theorem YA : isT "list" "str" = some false := by decide +kernel
theorem Ys : isT "list" "list" = some true := by decide +kernel
theorem YU : isT "list" "tuple" = some false := by decide +kernel
theorem X6 : isT "tuple" "int" = some false := by decide +kernel
theorem X3 : isT "tuple" "bool" = some false := by decide +kernel
theorem YT : isT "tuple" "str" = some false := by decide +kernel
theorem Y6 : isT "tuple" "list" = some false := by decide +kernel
theorem Y2 : isT "tuple" "tuple" = some true := by decide +kernel
theorem Y5 : vq "int" ["list", "tuple"] = some false := by decide +kernel
theorem XN : vq "bool" ["list", "tuple"] = some false := by decide +kernel
theorem XC : vq "str" ["list", "tuple"] = some false := by decide +kernel
theorem Xh : vq "NoneType" ["list", "tuple"] = some false := by decide +kernel
theorem XM : vq "list" ["list", "tuple"] = some true := by decide +kernel
theorem YZ : vq "tuple" ["list", "tuple"] = some true := by decide +kernel
theorem Qo : Kw [] = some [] := rfl
theorem wJ {n : String} {r : List Dat} : Kw (.ty n :: r) = (Kw r).map (n :: ·) := rfl
theorem VR (M : MH) : tyA (.d .non) M = some "NoneType" := rfl
theorem Vu (b : Bool) (M : MH) : tyA (.d (.bl b)) M = some "bool" := rfl
theorem VJ (i : Int) (M : MH) : tyA (.d (.int i)) M = some "int" := rfl
theorem VV (s : Str) (M : MH) : tyA (.d (.str s)) M = some "str" := rfl
theorem Ve (l : List Dat) (M : MH) : tyA (.d (.lst l)) M = some "list" := rfl
theorem Vo (l : List Dat) (M : MH) : tyA (.d (.tup l)) M = some "tuple" := rfl
theorem wD (x : Dat) (r : List AV) : pur (.d x :: r) = match pur r with | some l => some (x :: l) | none => none := rfl
theorem XS (i j : Int) : eqS (.int i) (.int j) = some (decide (i = j)) := rfl
theorem Yn (i j : Bool) : eqS (.bl i) (.bl j) = some (decide (i = j)) := rfl
theorem Yc (i j : Str) : eqS (.str i) (.str j) = some (decide (i = j)) := rfl
theorem Ko : kl (.d .non) = true := rfl
theorem Ke (i : Int) : kl (.d (.int i)) = false := rfl
theorem JR (i : List Dat) : kl (.d (.lst i)) = false := rfl
theorem JK (i : List Dat) : kl (.d (.tup i)) = false := rfl
theorem Kx (i : Addr) : kl (.ref i) = false := rfl
theorem J0 (i : Str) : kl (.d (.str i)) = false := rfl
theorem J5 (i : Bool) : kl (.d (.bl i)) = false := rfl
end L2
set_option Elab.async false
set_option linter.all false
set_option maxRecDepth 100000
set_option maxHeartbeats 4000000
namespace L2
open PySem PySem.Spec PyProof.Rows
theorem QF {H H' : Hp} {O : Own} {M : MH} (w : Wf H O M) (k : Kp [] H H') : Ext H O M H' O M /\ Wf H' O M := by
 have e : Ext H O M H' O M := ⟨fun a o h e => ⟨k a o (by simp) e, h⟩, fun a h e => ⟨by
  obtain ⟨o, ho, _⟩ := w.al a h
  rw [ho]; exact k a o (by simp) ho, h, e⟩, fun _ h => h⟩
 refine ⟨e, ⟨fun a o h => qm.ext e ?_ (w.mo a o h), w.own, fun a h => ?_⟩⟩
 ·obtain ⟨u, hu, _⟩ := w.al a (w.own a (by rw [h]; exact fun z => nomatch z))
  rw [hu]; exact k a u (by simp) hu
 ·obtain ⟨o, ho, hn⟩ := w.al a h
  exact ⟨o, k a o (by simp) ho, hn⟩
theorem XH {H H' : Hp} {O : Own} {M : MH} (w : Wf H O M) {b : Addr} {l : List AV} (hb : M b = some (.lst l)) (k : Kp [b] H H') {ns : List Int} (h : H' b = some (.lst (ns.map V.int))) :
  Ext H O M H' O (mup M b (.lst (ns.map fun i => .d (.int i)))) /\ Wf H' O (mup M b (.lst (ns.map fun i => .d (.int i)))) := by
 have hOb := w.own b (qS hb)
 have kk : ∀ a o, a ≠ b -> H a = some o -> H' a = some o := fun a o ha e => k a o (by simpa using ha) e
 have e : Ext H O M H' O (mup M b (.lst (ns.map fun i => .d (.int i)))) := ⟨fun a o h e => ⟨kk a o (fun z => h (by rw [z]; exact hOb)) e, h⟩, fun a ha e => by
  have hne : a ≠ b := fun z => by rw [z, hb] at e; cases e
  obtain ⟨o, ho, _⟩ := w.al a ha
  exact ⟨by rw [ho]; exact kk a o hne ho, ha, by rw [zB hne]; exact e⟩, fun a ha => by
  by_cases c : a = b
  ·rw [c, zm]; exact fun z => nomatch z
  ·rw [zB c]; exact ha⟩
 refine ⟨e, ⟨fun a o ho => ?_, fun a ha => ?_, fun a ha => ?_⟩⟩
 ·by_cases c : a = b
  ·subst c; rw [zm] at ho; cases ho; exact ⟨_, h, vd ns⟩
  ·rw [zB c] at ho
   refine qm.ext e ?_ (w.mo a o ho)
   obtain ⟨u, hu, _⟩ := w.al a (w.own a (qS ho))
   rw [hu]; exact kk a u c hu
 ·by_cases c : a = b
  ·rw [c]; exact hOb
  ·rw [zB c] at ha; exact w.own a ha
 ·by_cases c : a = b
  ·rw [c]; exact ⟨_, h, fun xs z => nomatch z⟩
  ·obtain ⟨o, ho, hn⟩ := w.al a ha
   exact ⟨o, kk a o c ho, hn⟩
theorem Jq {H : Hp} {O : Own} {p : Addr} {ns : List Int} (ho : ¬ O p) (h : H p = some (.lst (ns.map V.int))) : Rep H O (.ref p) (.lst (ns.map .int)) :=
 Rep.lst ho h (by simp) fun i x d e1 e2 => by
  rw [List.getElem?_map] at e1 e2
  cases e : ns[i]? with
  | none => rw [e] at e1; cases e1
  | some n => rw [e] at e1 e2; cases e1; cases e2; exact .int
theorem Qe {H : Hp} {O : Own} {M : MH} {v : V} {x : AV} {ns : List Int} (w : Wf H O M) (r : zp H O M v x) (h : je x M = some (ns.map fun i => .d (.int i))) : ∃ a, v = .ref a /\ H a = some (.lst (ns.map V.int)) := by
 obtain ⟨a, xs, rfl, h1, r1⟩ := qy w r h
 rw [jB r1] at h1
 exact ⟨a, rfl, h1⟩
theorem Df.imp' {P : Program} {w : World} {K : PySem.W.Frag} {mg : Str -> Option Value} {base : Heap} {x : Str} {ps : List Str} {sp sp' : Sp} {k : Nat} (D : Df P w K mg base x ps k sp) (h : ∀ vs H Q E, sp' vs H Q E -> sp vs H Q E) : Df P w K mg base x ps k sp' :=
 let ⟨f, fd, F, r⟩ := D
 ⟨f, fd, F.imp h, r⟩
mutual
def wdt : Dat -> Nat
 | .lst l => max l.length (Z7 l)
 | .tup l => max l.length (Z7 l)
 | _ => 0
def Z7 : List Dat -> Nat
 | [] => 0
 | a :: r => max (wdt a) (Z7 r)
end
theorem JD {l : List Dat} {n : Nat} (h : ∀ d ∈ l, wdt d <= n) : Z7 l <= n := by
 induction l with
 | nil => exact Nat.zero_le _
 | cons a r ih => rw [Z7]; exact Nat.max_le.mpr ⟨h a (by simp), ih fun d hd => h d (by simp [hd])⟩
def Kh (n : Nat) (d : Dat) : Prop := dp d <= n /\ wdt d <= 100000
theorem Ji {n : Nat} {l : List Dat} (hl : l.length <= 100000) (h : ∀ d ∈ l, Kh n d) : Kh (n + 1) (.tup l) := ⟨by rw [dp]; exact Nat.succ_le_succ (vH fun d hd => (h d hd).1), by rw [wdt]; exact Nat.max_le.mpr ⟨hl, JD fun d hd => (h d hd).2⟩⟩
theorem QA (n : Nat) (i : Int) : Kh n (.int i) := ⟨by simp [dp], by simp [wdt]⟩
theorem vv {ns : List Int} (h : ns.length <= 100000) : Kh 1 (.tup (ns.map .int)) := Ji (by simpa using h) fun d hd => by obtain ⟨i, _, rfl⟩ := List.mem_map.mp hd; exact QA 0 i
theorem Vp (b : Bool) : dp (.bl b) = 0 := by simp [dp]
theorem Xf (b : Str) : dp (.str b) = 0 := by simp [dp]
theorem X9 : dp .non = 0 := by simp [dp]
theorem XA (a b : Bool) : eqD (.bl a) (.bl b) = decide (a = b) := by rw [eqD]; cases a <;> cases b <;> rfl
theorem xX (a b : Int) : eqD (.int a) (.int b) = decide (a = b) := by rw [eqD]; by_cases h : a = b <;> simp [h]
theorem XY (a b : Str) : eqD (.str a) (.str b) = decide (a = b) := by rw [eqD]; by_cases h : a = b <;> simp [h]
theorem X0 : eqD .non .non = true := by simp [eqD]
theorem Yz (i : Int) : eqD .non (.int i) = false := by simp [eqD]
theorem Yf (i : Int) : eqD (.int i) .non = false := by simp [eqD]
theorem Xi (i : Int) (s : Str) : eqD (.int i) (.str s) = false := by simp [eqD]
theorem XR (i : Int) (s : Str) : eqD (.str s) (.int i) = false := by simp [eqD]
theorem YE (s : Str) : eqD (.str s) .non = false := by simp [eqD]
theorem XD (s : Str) : eqD .non (.str s) = false := by simp [eqD]
theorem jW (ns : List Int) : List.map AV.d (List.map Dat.int ns) = List.map (fun i => AV.d (.int i)) ns := by rw [List.map_map]; rfl
theorem KY (ns : List Bool) : List.map AV.d (List.map Dat.bl ns) = List.map (fun i => AV.d (.bl i)) ns := by rw [List.map_map]; rfl
theorem zA (ns : List Int) : pur (List.map (fun i => AV.d (.int i)) ns) = some (ns.map Dat.int) := by rw [<- jW, z0]
theorem JF (ns : List Bool) : pur (List.map (fun i => AV.d (.bl i)) ns) = some (ns.map Dat.bl) := by rw [<- KY, z0]
theorem ww {α β : Type} (f : α -> β) (l : List α) (i : Int) : atI (l.map f) i = (atI l i).map f := by
 unfold atI
 rw [List.length_map]
 cases ixN l.length i with
 | none => rfl
 | some j => exact List.getElem?_map ..
theorem x9 {n : Nat} {i : Int} (h0 : 0 <= i) (h1 : i < n) : ixN n i = some i.toNat := by unfold ixN; rw [if_pos h0, if_pos h1]
theorem Jb {α : Type} {l : List α} {i : Int} (h0 : 0 <= i) (h1 : i < l.length) (d : α) : atI l i = some (l.getD i.toNat d) := by
 unfold atI
 rw [x9 h0 h1]
 show l[i.toNat]? = _
 rw [List.getD_eq_getElem?_getD, List.getElem?_eq_getElem (by omega)]; rfl
theorem QP {ns : List Int} {i : Int} (h0 : 0 <= i) (h1 : i < ns.length) : atI (ns.map fun i => AV.d (.int i)) i = some (.d (.int (ns.getD i.toNat 0))) := by rw [ww, Jb h0 h1 0]; rfl
theorem zj {a qc : AS} {B : MH} {D : xi} {ρ : ASt} {M : MH} (h : ∀ r, r = qc -> Z2 a r B D ρ M) : Z2 a qc B D ρ M := h qc rfl
theorem Fr.non {M M' : MH} (f : Fr M M') {p : Addr} (h : M' p = none) : M p = none := by
 cases e : M p with
 | none => rfl
 | some o => rw [f p (by rw [e]; exact fun z => nomatch z), e] at h; cases h
abbrev ilD (os : List Int) : Dat := .lst (os.map .int)
theorem JQ (ns : List Int) (M : MH) : je (.d (ilD ns)) M = some (ns.map fun i => .d (.int i)) := by rw [ZO, jW]
theorem ye (ns : List Int) (M : MH) : qM (.d (ilD ns)) M = some (ns.map fun i => .d (.int i)) := by rw [vh, jW]
def BxM (M : MH) (b : Addr) (N : Nat) : Prop := ∃ x y z : Int, M b = some (.lst [.d (.int x), .d (.int y), .d (.int z)]) /\ 0 <= x /\ 0 <= y /\ y < 2147483648 /\ 0 <= z /\ z <= N
theorem BxM.mono {M : MH} {b : Addr} {N N' : Nat} (h : BxM M b N) (hn : N <= N') : BxM M b N' := by
 obtain ⟨x, y, z, h1, h2, h3, h4, h5, h6⟩ := h
 exact ⟨x, y, z, h1, h2, h3, h4, h5, by omega⟩
theorem BxM.ne {M : MH} {b : Addr} {N : Nat} (h : BxM M b N) : M b ≠ none := by obtain ⟨x, y, z, h1, _⟩ := h; exact qS h1
theorem BxM.bx {H : Hp} {O : Own} {M : MH} {b : Addr} {N : Nat} (w : Wf H O M) (h : BxM M b N) : Bx H b N := by
 obtain ⟨x, y, z, h1, h2⟩ := h
 obtain ⟨xs, hx, rx⟩ := w.mo b _ h1
 rw [jB (ns := [x, y, z]) rx] at hx
 exact ⟨x, y, z, hx, h2⟩
def BxS (M M' : MH) (b : Addr) (N : Nat) : Prop := BxM M' b N /\ ∃ o, M' = mup M b o
theorem BxS.at {M M' : MH} {b : Addr} {N : Nat} (h : BxS M M' b N) {q : Addr} (hq : q ≠ b) : M' q = M q := by
 obtain ⟨_, o, rfl⟩ := h
 exact zB hq
theorem Yt {H H' : Hp} {O : Own} {M : MH} (w : Wf H O M) {b : Addr} {N N' : Nat} (hb : BxM M b N) (k : Kp [b] H H') (h : Bx H' b N') : ∃ M', BxS M M' b N' /\ Ext H O M H' O M' /\ Wf H' O M' := by
 obtain ⟨x, y, z, h1, _⟩ := hb
 obtain ⟨x', y', z', g1, g2⟩ := h
 obtain ⟨e1, e2⟩ := XH w h1 k (ns := [x', y', z']) g1
 exact ⟨_, ⟨⟨x', y', z', zm, g2⟩, _, rfl⟩, e1, e2⟩
end L2
set_option Elab.async false
set_option linter.all false
set_option maxRecDepth 100000
set_option maxHeartbeats 4000000
namespace L2
open PySem PySem.Spec PyProof.Rows
mutual
def pdD : Dat -> PyData
 | .bl b => .bool b
 | .int i => .int i
 | .str x => .str x
 | .lst l => .list (xN l)
 | .tup l => .tuple (xN l)
 | _ => .none
def xN : List Dat -> List PyData
 | [] => []
 | a :: r => pdD a :: xN r
end
section
variable {X : Cx} {pins : List (Addr × Obj)} {s : Shared} {σ : St} {H : Hp} {O : Own}
mutual
theorem Yu : ∀ d : Dat, (pdD d).hasDict = false
 | .non => by simp [pdD, PyData.hasDict]
 | .bl _ => by simp [pdD, PyData.hasDict]
 | .int _ => by simp [pdD, PyData.hasDict]
 | .str _ => by simp [pdD, PyData.hasDict]
 | .ty _ => by simp [pdD, PyData.hasDict]
 | .rng _ _ _ => by simp [pdD, PyData.hasDict]
 | .scr _ _ => by simp [pdD, PyData.hasDict]
 | .lst l => by rw [pdD, PyData.hasDict]; exact yf l
 | .tup l => by rw [pdD, PyData.hasDict]; exact yf l
theorem yf : ∀ l : List Dat, PyData.hasDictAll (xN l) = false
 | [] => by simp [xN, PyData.hasDictAll]
 | a :: r => by rw [xN, PyData.hasDictAll, Yu a, yf r]; rfl
end
mutual
theorem Js : ∀ d : Dat, (pdD d).depth <= dp d
 | .non => by simp [pdD, PyData.depth]
 | .bl _ => by simp [pdD, PyData.depth]
 | .int _ => by simp [pdD, PyData.depth]
 | .str _ => by simp [pdD, PyData.depth]
 | .ty _ => by simp [pdD, PyData.depth]
 | .rng _ _ _ => by simp [pdD, PyData.depth]
 | .scr _ _ => by simp [pdD, PyData.depth]
 | .lst l => by rw [pdD, PyData.depth, dp]; exact Nat.succ_le_succ (jT l)
 | .tup l => by rw [pdD, PyData.depth, dp]; exact Nat.succ_le_succ (jT l)
theorem jT : ∀ l : List Dat, PyData.depthAll (xN l) <= dps l
 | [] => by simp [xN, PyData.depthAll]
 | a :: r => by rw [xN, PyData.depthAll, dps]; exact Nat.max_le.mpr ⟨Nat.le_trans (Js a) (Nat.le_max_left _ _), Nat.le_trans (jT r) (Nat.le_max_right _ _)⟩
end
end
section
variable {X : Cx}
end
structure Sh (b : Nat) (d : Dat) : Prop where
 s : (pdD d).showable = true
 l : (pdD d).shown.length <= b
theorem J7 {a b : ASp} (h : ∀ xs M Q, b xs M Q -> a xs M (rtA M Q)) (vs : List V) (H : Hp) (Q : VK) (E : XK) (q : cSp b vs H Q E) : cSp a vs H Q E := by
 obtain ⟨xs, M, O, Q', w, r, q, k⟩ := q
 refine ⟨xs, M, O, _, w, r, h xs M Q' q, fun x M' v H' O' q' e' w' r' => ?_⟩
 obtain ⟨y', M'', f, q2⟩ := q'
 obtain ⟨O'', w2, k2, r2⟩ := vg w w' e' r' f
 exact k _ _ _ _ _ q2 k2 w2 r2
end L2
set_option Elab.async false
set_option linter.all false
set_option maxRecDepth 100000
set_option maxHeartbeats 4000000
namespace L2
open PySem PySem.Spec PyProof.Rows
theorem BxM.refs {M : MH} {b : Addr} {N : Nat} (h : BxM M b N) {o : MO} (e : M b = some o) (r : Addr) : ¬ vZ r o := by
 obtain ⟨x, y, z, h1, _⟩ := h
 rw [h1] at e
 cases e
 exact yh (l := [AV.d (.int x), AV.d (.int y), AV.d (.int z)]) (ds := [.int x, .int y, .int z]) rfl r
structure SB (M0 M : MH) (b : Addr) (N : Nat) : Prop where
 bx : BxM M b N
 fr : ∀ q, M0 q ≠ none -> q ≠ b -> M q = M0 q
 b0 : M0 b ≠ none
theorem SB.refl {M : MH} {b : Addr} {N : Nat} (h : BxM M b N) : SB M M b N := ⟨h, fun _ _ _ => rfl, h.ne⟩
theorem SB.go {M0 M M' : MH} {b : Addr} {N N' : Nat} (s : SB M0 M b N) (t : BxS M M' b N') : SB M0 M' b N' := ⟨t.1, fun q hq hb => (t.at hb).trans (s.fr q hq hb), s.b0⟩
theorem SB.mono {M0 M : MH} {b : Addr} {N N' : Nat} (s : SB M0 M b N) (h : N <= N') : SB M0 M b N' := ⟨s.bx.mono h, s.fr, s.b0⟩
theorem BxM.put {M : MH} {b p : Addr} {N : Nat} (h : BxM M b N) (n : b ≠ p) (o : MO) : BxM (mup M p o) b N := by
 obtain ⟨x, y, z, h1, h2⟩ := h
 exact ⟨x, y, z, by rw [zB n]; exact h1, h2⟩
theorem SB.new {M0 M : MH} {b p : Addr} {N : Nat} (s : SB M0 M b N) (hp : M p = none) : M0 p = none /\ p ≠ b := by
 have hb : p ≠ b := fun z => s.bx.ne (by rw [<- z]; exact hp)
 refine ⟨?_, hb⟩
 cases e : M0 p with
 | none => rfl
 | some o => rw [s.fr p (by rw [e]; exact fun z => nomatch z) hb, e] at hp; cases hp
theorem SB.put {M0 M : MH} {b p : Addr} {N : Nat} (s : SB M0 M b N) (h0 : M0 p = none) (hb : p ≠ b) (o : MO) : SB M0 (mup M p o) b N :=
 ⟨s.bx.put (Ne.symm hb) o, fun q hq hqb => by rw [zB (fun z => hq (by rw [z]; exact h0))]; exact s.fr q hq hqb, s.b0⟩
theorem SB.fin {M0 M : MH} {b : Addr} {N : Nat} (s : SB M0 M b N) (d : Dat) : ∃ M'', wA M0 M (.d d) (.d d) M'' /\ BxS M0 M'' b N := by
 obtain ⟨x, y, z, h1, h2⟩ := s.bx
 refine ⟨mup M0 b (.lst [.d (.int x), .d (.int y), .d (.int z)]), ⟨fun q => ?_, fun q o e => ?_, .inl ⟨rfl, fun p z => nomatch z⟩⟩, ⟨x, y, z, zm, h2⟩, _, rfl⟩
 ·by_cases c : q = b
  ·rw [c, zm, h1]; exact .inl rfl
  ·rw [zB c]
   cases e : M0 q with
   | none => exact .inr ⟨rfl, rfl⟩
   | some o => exact .inl (by rw [s.fr q (by rw [e]; exact fun z => nomatch z) c, e])
 ·by_cases c : q = b
  ·rw [c, zm] at e
   cases e
   exact .inr fun r hr => absurd hr (yh (ds := [.int x, .int y, .int z]) rfl r)
  ·rw [zB c] at e; exact .inl e
theorem SB.rt {M0 M : MH} {b : Addr} {N : Nat} {Q : AK} {d : Dat} (s : SB M0 M b N) (q : ∀ M', BxS M0 M' b N -> Q (.d d) M') : rtA M0 Q (.d d) M := by
 obtain ⟨M'', f, t⟩ := s.fin d
 exact ⟨_, _, f, q M'' t⟩
theorem SB.frz {M0 M : MH} {b p : Addr} {N : Nat} {Q : AK} {l : List AV} {ds : List Dat} (s : SB M0 M b N) (h0 : M0 p = none) (hpb : p ≠ b) (h : M p = some (.lst l)) (hp : pur l = some ds) (q : ∀ M', BxS M0 M' b N -> Q (.d (.lst ds)) M') : rtA M0 Q (.ref p) M := by
 obtain ⟨M'', f, t⟩ := s.fin (.lst ds)
 refine ⟨_, M'', ⟨f.sub, f.cl, .inr ⟨p, l, ds, rfl, h, hp, ?_, rfl⟩⟩, q M'' t⟩
 rw [t.at hpb]; exact h0
theorem jx {M0 M : MH} {Q : AK} {d : Dat} (f : Fr M0 M) (q : Q (.d d) M0) : rtA M0 Q (.d d) M := ⟨_, _, VL f d, q⟩
theorem SB.frm {M M2 M' : MH} {b : Addr} {N : Nat} (f : Fr M M2) (hb : M b = none) (s : SB M2 M' b N) : Fr M M' := fun q hq => by
 have h1 : q ≠ b := fun z => hq (by rw [z]; exact hb)
 rw [s.fr q (by rw [f q hq]; exact hq) h1, f q hq]
theorem Vd {l : List Dat} {i : Int} (h0 : 0 <= i) (h1 : i < l.length) : ∃ d ∈ l, atI (l.map AV.d) i = some (.d d) := by
 have h2 : i.toNat < l.length := by omega
 refine ⟨l[i.toNat], List.getElem_mem h2, ?_⟩
 rw [ww, Jb h0 h1 .non, List.getD_eq_getElem?_getD, List.getElem?_eq_getElem h2]; rfl
theorem KA (l m : List Dat) : pur (l.map AV.d ++ m.map AV.d) = some (l ++ m) := by rw [<- List.map_append, z0]
section
variable {X : Cx}
end
theorem jj {τ : Type} (R : τ -> ASt) (g : AV -> List AV) {ag : AG} {tr : ATR} {G : MH -> Prop} {N : List AV -> ASt -> MH -> Prop} {l acc0 : List AV} {ρ : ASt} {M : MH} (h0 : ∃ o, ρ = R o) (hG : G M) (hl : acc0.length + (l.flatMap g).length <= 100000)
  (hs : ∀ (o : τ) (x : AV) (acc : List AV) (N' : List AV -> ASt -> MH -> Prop), x ∈ l -> acc.length + (g x).length <= 100000 -> (∀ o', N' (acc ++ g x) (R o') M) -> ag x (R o) M fun ρ2 M2 => tr acc ρ2 M2 N') (hN : ∀ o, N (acc0 ++ l.flatMap g) (R o) M) : yH ag kj tr G N l acc0 ρ M := by
 refine ⟨fun i acc ρ' M' => i <= l.length /\ acc = acc0 ++ (l.take i).flatMap g /\ M' = M /\ ∃ o, ρ' = R o, ⟨Nat.zero_le _, by simp, rfl, h0⟩, ?_, ?_⟩
 ·rintro i x acc ρ' M' hx ⟨hi, rfl, rfl, o, rfl⟩
  have hil := (List.getElem?_eq_some_iff.mp hx).1
  have tk : l.take (i + 1) = l.take i ++ [x] := by rw [List.take_add_one, hx]; rfl
  have e1 : (l.take (i + 1)).flatMap g = (l.take i).flatMap g ++ g x := by rw [tk, List.flatMap_append]; simp
  have hle : ((l.take (i + 1)).flatMap g).length <= (l.flatMap g).length := by
   conv => rhs; rw [<- List.take_append_drop (i + 1) l, List.flatMap_append, List.length_append]
   omega
  refine ⟨hG, ?_⟩
  refine hs o x _ _ (List.mem_of_getElem? hx) ?_ fun o' => ⟨hil, ?_, rfl, o', rfl⟩
  ·rw [e1, List.length_append] at hle; rw [List.length_append]; omega
  ·rw [e1, List.append_assoc]
 ·rintro acc ρ' M' ⟨_, rfl, rfl, o, rfl⟩
  rw [List.take_length]
  exact ⟨hG, hN o⟩
theorem qG (a b : Nat) : List.range (a * b) = (List.range a).flatMap fun i => (List.range b).map fun j => i * b + j := by
 induction a with
 | zero => simp
 | succ a ih =>
  rw [Nat.succ_mul, List.range_add, ih, List.range_succ, List.flatMap_append]
  simp
def VI (K : PySem.W.Frag) (n : Nat) (t : TGs) : TG := fun v σ H Q => ∃ a xs, v = .ref a /\ (SqL K H a xs \/ SqT K H a xs) /\ xs.length = n /\ t xs σ H Q
theorem Ka {X : Cx} {es : List Expr} {k : Nat} {pos : Pos} {t : TGs} {K : PySem.W.Frag} (n : Nat) (h : X.K = K) (hc : X.calm = true) (hs : PGs X es t) (hn : (assignEach es X.env).length = n := by rfl) (hst : (assignEach es X.env).findIdx? (·.1) = none := by rfl) : PG X (.Tuple es k pos) (VI K n t) := by
 intro pins s σ H v x Q I r q
 obtain ⟨a, xs, e1, h1 | h1, e2, q⟩ := q
 ·exact JM n h hc hs hn hst pins s σ H v x Q I r ⟨a, xs, e1, h1, e2, q⟩
 ·exact qO n h hc hs hn hst pins s σ H v x Q I r ⟨a, xs, e1, h1, e2, q⟩
def K0 (n : Nat) (b : AGs) : AG := fun x ρ M Q => ∃ l, qM x M = some l /\ l.length = n /\ b l ρ M Q
theorem Qm {K : PySem.W.Frag} {n : Nat} {u : TGs} {b : AGs} (h : yv u b) : jS (VI K n u) (K0 n b) := ⟨fun w e r q k => by
 obtain ⟨l, e1, ln, q⟩ := q
 obtain ⟨a, xs, rfl, h1, r1⟩ := vA w r e1
 exact ⟨a, xs, rfl, h1.elim (fun h => .inl (SqL.of h)) (fun h => .inr (SqT.of h)), r1.1.trans ln, h.go w e r1 q k⟩⟩
section
open PySem.SeqAt
open PySem.AutoSeq1 (wpAny_loadPart')
open PySem.MeetsSeq PySem.MeetsSeq2 PySem.MeetsSeq3 PySem.SeqRoads2
theorem j6 {M : Model} {A : Around} {E : Value -> Shared -> Prop} {s : Shared} {β : Type} (f : Nat -> β -> Sem (ForInStep β)) (I : Nat -> β -> Shared -> Prop) (Q : β -> Shared -> Prop) (n : Nat)
  (turn : ∀ i b s, i < n -> I i b s -> wpAny M A (f i b) (fun r s' => match r with | .yield b' => I (i + 1) b' s' | .done b' => Q b' s') E s)
  (fin : ∀ b s, I n b s -> Q b s) (b : β) (h : I 0 b s) : wpAny M A (forIn [0:n] b f) Q E s := by
 rw [Std.Legacy.Range.forIn_eq_forIn_range']
 have e : ([0:n] : Std.Legacy.Range).size = n := by simp [Std.Legacy.Range.size]
 rw [e]
 refine wpAny_forIn_list f (fun qc b s => ∃ i, i <= n /\ qc = List.range' i (n - i) 1 /\ I i b s) Q ?_ ?_ _ _ ⟨0, Nat.zero_le _, rfl, h⟩
 ·rintro x qc b s ⟨i, hi, hr, hI⟩
  cases e2 : n - i with
  | zero => rw [e2] at hr; cases hr
  | succ k =>
   rw [e2, List.range'_succ] at hr
   injection hr with h1 h2
   subst h1
   refine wpAny_mono (turn x b s (by omega) hI) (fun r s' hr => ?_) fun _ _ h' => h'
   cases r with
   | done b' => exact hr
   | yield b' => exact ⟨x + 1, by omega, by rw [h2]; congr 1; omega, hr⟩
 ·rintro b s ⟨i, hi, hr, hI⟩
  have : n - i = 0 := by
   cases e2 : n - i with
   | zero => rfl
   | succ k => rw [e2, List.range'_succ] at hr; cases hr
  obtain rfl : i = n := by omega
  exact fin b s hI
theorem kP (l : Addr) (items : Array Value) (n : Nat) (dd : Option Addr) (sl : Array (Option Value)) (x : Value) (e : Value -> Bool) (j : Nat) (hj : j < items.size) (hit : e items[j] = true) (hno : ∀ m (hm : m < items.size), m < j -> e items[m] = false) :
  Meets (Builtin.«tuple.index» ⟨[.ref l, x], []⟩)
   (fun A R s => s.heap.get? l = some { cls := .type "tuple", dict := dd, data := .seq items n, slots := sl } /\ (∀ y, y ∈ items -> EqAt A.in1 s y x (e y)) /\ R (.ok (.ret (.int j s.toks))) { s with toks := s.toks + 1 }) :=
 .of_wp fun prog w A R s h => by
  obtain ⟨hp, g, d, tk, os⟩ := s; obtain ⟨hl, he, h⟩ := h
  wp_walk using wpAny_loadPart' hl, j6 _ (fun i b s' => b.1 = none /\ s' = ⟨hp, g, d, tk, os⟩ /\ i <= j) _ _
  case turn =>
   rintro i b s' hi ⟨hb, rfl, hij⟩
   have hi' : i < items.size := by omega
   rw [Array.getElem?_eq_getElem hi']
   dsimp only
   refine wpAny_bind (he _ (Array.getElem_mem hi') prog w _ _ ?_)
   by_cases c : i = j
   ·subst c
    rw [hit]
    wp_walk
    exact ⟨_, rfl, h⟩
   ·rw [hno i hi' (by omega)]
    wp_walk
    exact ⟨rfl, rfl, by omega⟩
  case fin =>
   rintro ⟨b1, b2⟩ s' ⟨hb, rfl, hij⟩
   omega
  case h =>
   exact ⟨rfl, rfl, Nat.zero_le _⟩
end
def v8 : V -> List V -> Hp -> VK -> Prop := fun x vs H Q => ∃ (l : Addr) (ns : List Int) (i : Int) (j : Nat), x = .ref l /\ vs = [.int i] /\ H l = some (.tup (ns.map V.int)) /\ j < ns.length /\ ns.getD j 0 = i /\ (∀ m, m < j -> ns.getD m 0 ≠ i) /\ Q (.int (j : Nat)) H
section
variable {X : Cx}
theorem Zd : MtR X "tuple.index" v8 := by
 intro pins s σ H x vs v us Q I rx rv h
 obtain ⟨l, ns, i, j, rfl, rfl, hH, hj, hji, hm, q⟩ := h
 cases rx
 obtain ⟨u, rfl, ⟨t, rfl⟩⟩ := rv.one
 obtain ⟨hl, its, r, o, e, hc, ⟨n, hd⟩, hdn⟩ := (show qd X.prog X.w H s.heap l (.tup (ns.map V.int)) from I.hok _ _ hH)
 obtain ⟨oc, od, odt, osl⟩ := o
 simp only at hc hd hdn
 subst hc hd hdn
 have hlen := r.length
 rw [List.length_map] at hlen
 have item : ∀ m (hmm : m < its.length), ∃ tm, its[m] = Value.int (ns.getD m 0) tm := fun m hmm => by
  have e1 : (ns.map V.int)[m]? = some (.int (ns.getD m 0)) := by
   rw [List.getElem?_map, List.getD_eq_getElem?_getD, List.getElem?_eq_getElem (by omega)]; rfl
  obtain ⟨u, hu, ⟨tm, ru⟩⟩ := r.get e1
  have := (List.getElem?_eq_some_iff.mp hu).2
  exact ⟨tm, by rw [this]; exact ru⟩
 have fl : (ns.map V.int).all xk = true := by
  rw [List.all_eq_true]
  intro x hx
  obtain ⟨k, _, rfl⟩ := List.mem_map.mp hx
  rfl
 refine call_meets F.slot_tuple_index ⟨_, e, rfl⟩ F.entry_tuple_index (F.args_tuple_index_2 _ _) (kP l its.toArray n none _ (.int i t) (eqU (.int i)) j (by rw [List.size_toArray]; omega) ?_ ?_) ⟨e, ?_, ?_⟩
 ·obtain ⟨tm, em⟩ := item j (by omega)
  rw [List.getElem_toArray, em, hji]
  show (i == i) = true
  simp
 ·intro m hmm hmj
  obtain ⟨tm, em⟩ := item m (by rw [List.size_toArray] at hmm; exact hmm)
  rw [List.getElem_toArray, em]
  show (ns.getD m 0 == i) = false
  simpa using hm m hmj
 ·intro y hy
  exact yR (x := .int i) ⟨t, rfl⟩ rfl r fl y (by simpa using hy)
 ·exact ⟨.int (j : Nat), H, I.kept (t' := s.toks + 1) fun b o e => e, ⟨_, rfl⟩, q⟩
end
def VE (r : AV -> List AV -> MH -> AK -> Prop) (a : AE) (b : AA) : AE := fun ρ M Q => a ρ M fun x M1 => (∃ l, x = .d (.tup l)) /\ b ρ M1 fun xs M2 => r x xs M2 Q
theorem J1 {K : PySem.W.Frag} {r : V -> List V -> Hp -> VK -> Prop} {ra : AV -> List AV -> MH -> AK -> Prop} {t : TE} {u : TA} {a : AE} {b : AA} (hr : Vx r ra) (h1 : zY t a) (h2 : kE u b) : zY (tBM K "tuple" r t u) (VE ra a b) :=
 ⟨fun w e q k => h1.go w e q fun x M1 v H1 O1 ⟨⟨l, hl⟩, q1⟩ k1 w1 r1 => ⟨by
  subst hl
  obtain ⟨a, xs, rfl, hx, _⟩ := qX (l := l.map .d) r1 rfl
  exact .inr (.inl ⟨rfl, .inl ⟨xs, .inl hx⟩⟩), h2.go w1 (e.ext k1) q1 fun y M2 u H2 O2 q2 k2 w2 r2 => hr.go w2 (r1.ext k2) r2 q2 fun z M3 v3 H3 O3 q3 k3 w3 r3 => k z M3 v3 H3 O3 q3 ((k1.trans k2).trans k3) w3 r3⟩⟩
def v6 : AV -> List AV -> MH -> AK -> Prop := fun x xs M Q => ∃ ns i j, x = .d (.tup (List.map Dat.int ns)) /\ xs = [.d (.int i)] /\ j < ns.length /\ ns.getD j 0 = i /\ (∀ m, m < j -> ns.getD m 0 ≠ i) /\ Q (.d (.int (j : Nat))) M
theorem vn : Vx v8 v6 := ⟨fun w r1 r2 ⟨ns, i, j, hl, e, h1, h2, h3, q⟩ k => by
 subst e hl
 obtain ⟨u, rfl, ru⟩ := ju r2
 obtain ⟨a, xs, rfl, hx, p1⟩ := qX (l := (ns.map Dat.int).map .d) r1 rfl
 rw [jW] at p1
 rw [jB p1] at hx
 exact ⟨a, ns, i, j, rfl, by rw [zG ru], hx, h1, h2, h3, k _ _ _ _ _ q .refl w .int⟩⟩
end L2
set_option Elab.async false
set_option linter.all false
set_option maxRecDepth 100000
set_option maxHeartbeats 4000000
namespace L2
open PySem PySem.Spec PyProof.Rows
section
variable {X : Cx} {pins : List (Addr × Obj)} {σ : St} {H : Hp} {s : Shared} {a b : Addr} {kvs : List (List Key × V)} {k : List Key} {v : V} {r : Value} {A : Around} {E : Value -> Shared -> Prop}
end
end L2
set_option Elab.async false
set_option linter.all false
set_option maxRecDepth 100000
set_option maxHeartbeats 4000000
namespace Ot
open PySem PySem.Spec PyProof.Rows L2
def top (i : Nat) : Stmt := PySem.Challenge.pw_ownturn_k65_whole_one_order_by_many_name.main.body.getD i (.Pass ⟨0, 0, 0, 0⟩)
section
variable {P : Program} {w : World} {K : PySem.W.Frag} {mg : Str -> Option Value} {base : Heap} {k : Nat}
local macro_rules | `(tactic| walk_at "rd") => `(tactic| try simp only [Qf, Xb, YJ, QJ, tOp, JO, tC, tB, VS, Vj, vQ, rI0, rI, Zl, xv, XG, Qy, JG, QG, YO, YD, tCB, ZG, X1, wf, KQ, vC, Kv, YS, Yy, Yq, tBM, vU, wt, Xo, wO, vk, Zv, Zw, tOr, YK, Xj, vR, QB, cxK, Z0, iLT, K6, yd, tSl, KP, v5, Y8, List.append_nil,
 List.getElem?_cons_zero, List.getElem?_cons_succ, Option.some.injEq, exists_eq_left', exists_eq_left, V.int.injEq, V.ref.injEq, V.bl.injEq, List.cons.injEq, and_true, true_and, and_assoc, decide_eq_true_eq, Bool.not_eq_true', decide_eq_false_iff_not, Bool.false_eq_true, if_false, if_true, reduceIte, exists_and_left, exists_and_right, List.set_cons_zero, List.set_cons_succ, List.nil_append, List.cons_append])
theorem qZ {H : Hp} {a b : Addr} {o : HO} (h' : H b = none) (h : H a = some o) : a ≠ b := zl h h'
theorem yY {H H' : Hp} {l : Addr} (h : H' l = none) (e : Kp [] H H') : H l = none := e.free h
theorem vb {K : PySem.W.Frag} {H H' : Hp} {a : Addr} {xs : List V} (h : SqL K H a xs) (e : Kp [] H H') : SqL K H' a xs := by
 rcases h with (h | ⟨o, h⟩) | h
 ·exact .inl (.inl (e _ _ (by simp) h))
 ·exact .inl (.inr ⟨o, e _ _ (by simp) h⟩)
 ·exact .inr h
theorem hsl : 100000 < sizeLine := by rw [sizeLine_eq]; decide
theorem Ym {α : Type} (k : Nat) (v : α) : (List.replicate k [v]).flatten = List.replicate k v := by simp
theorem qw (i : Int) {j : Int} (h : 0 < j) : 0 <= i % j /\ i % j < j := ⟨Int.emod_nonneg _ (by omega), Int.emod_lt_of_pos _ h⟩
theorem kf {i j : Int} (h1 : 0 <= i) (h2 : i < 18446744073709551616) : ZZ i j := .inl ⟨by omega, by omega⟩
theorem qh {i j : Int} (h1 : 0 <= j) (h2 : j < 18446744073709551616) : ZZ i j := .inr ⟨by omega, by omega⟩
theorem b01 (c : Prop) [Decidable c] : 0 <= (if c then (1 : Int) else 0) := by split <;> decide
theorem j8 {i j : Int} (h1 : 0 < j) (h2 : j < 1073741824) : Yl i j := ⟨h1, h2⟩
local macro_rules | `(tactic| walk_at "ne") => `(tactic| first | (with_reducible assumption) | exact Ne.symm (by with_reducible assumption) | exact qZ (by with_reducible assumption) (by walk_at "hp") | exact Ne.symm (qZ (by with_reducible assumption) (by walk_at "hp")))
local macro_rules | `(tactic| walk_at "hp") => `(tactic| first | (with_reducible assumption) | (with_reducible exact zt) | ((with_reducible refine Eq.trans (zk ?ne) ?_); (case ne => walk_at "ne"); walk_at "hp"))
local macro_rules | `(tactic| walk_at "kp") => `(tactic| first | (with_reducible assumption) | (with_reducible exact Kp.refl) | ((with_reducible refine Kp.trans ?_ (Kp.new _ ?h)); (case h => with_reducible assumption); walk_at "kp") | ((with_reducible refine Kp.trans ?_ (Kp.set _ ?h)); (case h => (simp; done)); walk_at "kp"))
local macro_rules | `(tactic| walk_at "fr") => `(tactic| first | (with_reducible assumption) | exact yY (by with_reducible assumption) (by walk_at "kp"))
local macro_rules | `(tactic| walk_at "sz") => `(tactic| (simp only [List.length_cons, List.length_nil, List.length_map, List.length_append, List.length_replicate, List.length_take, List.length_drop, ql, Ym, Nat.zero_add, Nat.one_mul]; omega))
local macro_rules | `(tactic| walk_at "fact") => `(tactic| first | (with_reducible assumption) | exact rfl | exact SqL.of (by walk_at "hp") | exact SqT.of (by walk_at "hp") | exact Or.inl (SqL.of (by walk_at "hp")) | exact Or.inr (SqT.of (by walk_at "hp")) | exact Or.inl (by with_reducible assumption) | exact vb (by with_reducible assumption) (by walk_at "kp") | exact Or.inl (vb (by with_reducible assumption) (by walk_at "kp")) | exact Exists.intro _ (SqL.of (by walk_at "hp")) | exact Exists.intro _ (vb (by with_reducible assumption) (by walk_at "kp")) | (walk_at "hp") | decide | omega | exact kf (by omega) (by omega) | exact qh (by omega) (by omega) | exact j8 (by omega) (by omega) | exact ⟨by omega, by omega⟩ | (walk_at "sz") | exact ⟨by decide, by decide, by decide⟩ | exact qh (b01 _) (b01' _) | (walk_at "fr"))
local macro_rules | `(tactic| walk_at "x1") => `(tactic| first
 | ((with_reducible refine Exists.intro ?w (And.intro ?h ?_)); (case h => walk_at "fact"))
 | ((with_reducible refine And.intro ?h ?_); (case h => walk_at "fact"))
 | ((with_reducible refine Exists.intro ?w (Exists.intro ?w2 (And.intro ?h ?_))); (case h => walk_at "fact")))
local macro_rules | `(tactic| walk_at "xs") => `(tactic| repeat walk_at "x1")
local macro_rules | `(tactic| walk_at "sim1") => `(tactic| first
 | (with_reducible apply ZR) | with_reducible exact Kn | with_reducible exact Xg | with_reducible exact YY | with_reducible exact Kf | with_reducible exact Q1 | with_reducible exact wM | with_reducible exact Qw
 | with_reducible exact Z1 | with_reducible exact wU | with_reducible exact Kl | with_reducible exact XX | with_reducible exact JN | with_reducible exact Jx | with_reducible exact Qj
 | with_reducible exact ZM | with_reducible exact JT
 | with_reducible exact Xt | with_reducible exact QT | with_reducible exact Zo | with_reducible exact QK
 | with_reducible exact vn | with_reducible exact yM | with_reducible exact Z8
 | with_reducible exact wV
 | (with_reducible apply JE) | (with_reducible apply JX) | (with_reducible apply Kg) | (with_reducible apply J9) | (with_reducible apply KB) | (with_reducible apply Jt) | (with_reducible apply Qm)
 | (with_reducible apply Zu) | (with_reducible apply Qd) | (with_reducible apply QL) | (with_reducible apply Vl) | (with_reducible apply KM) | (with_reducible apply YQ) | (with_reducible apply KH) | (with_reducible apply Yh) | (with_reducible apply J4)
 | (with_reducible apply YI) | (with_reducible apply Z5) | (with_reducible apply KC)
 | (with_reducible apply J1) | (with_reducible apply kL) | (with_reducible apply xg) | (with_reducible apply QE) | (with_reducible apply wv)
 | (with_reducible apply JJ) | (with_reducible apply Zx) | (with_reducible apply JL) | (with_reducible apply ZY) | (with_reducible apply Xs) | (with_reducible apply Yg)
 | (with_reducible apply vF) | (with_reducible apply Zg) | (with_reducible apply w8)
 | (with_reducible apply wl))
local macro_rules | `(tactic| walk_at "sim") => `(tactic| repeat' walk_at "sim1")
local macro_rules | `(tactic| walk_at "ra") => `(tactic| try simp only [VT, aC, aOp, VF, KR, aCB, K7, aFz, aOw, Vi, Vk, aB, kj, VQ, aOr, Vw, ZS, Z2, VD, Vb, QD, ZN, KU, Q4, KS, K0, K2, asL, VH, VM, aiS, Vc, aiE, jV, vN, v0, aI, aI0, aIx, fOp, XI, VG, Vg, Vz, bI2, K5, Q9, fCB, K1, KW, VE, v6, Kt, Xm, ZO, Xy, vh, Xn, VR, Vu, VJ, VV, Ve, Vo, Qo, wJ, Option.map_some, Y5, XN, XC, Xh, XM, YZ, Xd, X4, X2, Yr, YR, Yd, Y1, Xu, X5, Yb, YG, Xq, Y4, Xk, Xx, YB, Yj, XT, Yi, XJ, YW, Xr, YA, Ys, YU, X6, X3, YT, Y6, Y2, Kd, wD, z0, zA, JF, jW, KY, XS, Yn, Yc, Ko, Ke, JR, JK, Kx, J0, J5, jI, Vp, Xf, X9, XA, xX, XY, X0, Yz, Yf, Xi, XR, YE, XD, id, decide_true, decide_false, Bool.decide_eq_true, not_true_eq_false, not_false_eq_true, KE,
 List.getElem?_cons_zero, List.getElem?_cons_succ, Option.some.injEq, exists_eq_left', exists_eq_left, AV.d.injEq, AV.ref.injEq, Dat.int.injEq, Dat.bl.injEq, Dat.str.injEq, Dat.lst.injEq, Dat.tup.injEq, Dat.ty.injEq, List.cons.injEq, and_true, true_and, and_assoc, decide_eq_true_eq, Bool.not_eq_true', decide_eq_false_iff_not, Bool.false_eq_true, if_false, if_true, reduceIte, exists_and_left, exists_and_right, List.set_cons_zero, List.set_cons_succ, List.nil_append, List.cons_append, List.length_map, List.map_cons, List.map_nil, Nat.zero_le, Bool.not_true, Bool.not_false, Bool.true_eq_false, eq_self, List.length_cons, List.length_nil])
theorem yZ (ns : List Int) (lo hi : Option Int) : wB (ns.map V.int) lo hi = List.map V.int ((ns.drop (HT.sIx ns.length 0 lo)).take (HT.sIx ns.length ns.length hi - HT.sIx ns.length 0 lo)) := by
 unfold wB
 rw [List.length_map, <- List.map_drop, <- List.map_take]
theorem wg (cs : List Int) (j : Nat) (v : Int) : (cs.map V.int).set j (.int v) = (cs.set j v).map V.int := by rw [List.map_set]
theorem yk {cs : List Int} {k : Int} (h0 : 0 <= k) (h1 : k < cs.length) : ixN (cs.map V.int).length k = some k.toNat /\ atI (cs.map V.int) k = some (.int (cs.getD k.toNat 0)) := by
 have hk : k.toNat < cs.length := by omega
 have e1 : ixN (cs.map V.int).length k = some k.toNat := by unfold ixN; rw [List.length_map, if_pos h0, if_pos h1]
 refine ⟨e1, ?_⟩
 unfold atI
 rw [e1]
 show (cs.map V.int)[k.toNat]? = _
 rw [List.getElem?_map, List.getD_eq_getElem?_getD, List.getElem?_eq_getElem hk]; rfl
theorem xL {ns : List Int} {i : Nat} {x : V} (h : (ns.map V.int)[i]? = some x) : x = .int (ns.getD i 0) /\ i < ns.length := by
 rw [List.getElem?_map] at h
 cases e : ns[i]? with
 | none => rw [e] at h; cases h
 | some v =>
  rw [e] at h
  cases h
  exact ⟨by rw [List.getD_eq_getElem?_getD, e]; rfl, (List.getElem?_eq_some_iff.mp e).1⟩
abbrev va : Stmt := top 25
theorem wn : zq ["_law_box_here", "_law_many", "_law_once", "_law_found"] ["_law_box_here", "_law_many"] (zf va) := ⟨rfl, rfl, rfl, by decide +kernel, rfl, by decide +kernel, by decide +kernel⟩
def Jp : Sp := fun vs H Q _ => ∃ (b : Addr) (many : Int) (N : Nat), vs = [.ref b, .int many] /\ Bx H b N /\ N < 1000000000 /\ 0 < many /\ many < 1073741824 /\ ∀ r H', Kp [b] H H' -> Bx H' b (N + 1) -> 0 <= r -> r < many -> Q (.int r) H'
theorem JP (a : At K mg "_law_take" va) (B : Blt mg) : Df P w K mg base "_law_take" ["_law_box_here", "_law_many"] 1 Jp := by
 refine v4 (k := 0) a wn (fun _ _ _ _ _ _ us hl => match us, hl with | [_, _], _ => rfl) (fun vs H Q E h => ?_) (fun f cdv A outer s H vs Q E hr h => ?_)
 ·obtain ⟨b, m, N, rfl, _⟩ := h; rfl
 obtain ⟨b, m, N, rfl, ⟨x, y, z, hb, hx, hy, hy', hz, hz'⟩, hN, hm, hm', q⟩ := h
 have sc := wn
 refine ⟨_, (zd (qk (zE Qs (zQ zT (pv 0) zc (fun _ _ => rfl)) zc (zD _)) (zd (qz (zW yr rfl B.divmod Zk (za (zQ zT (pv 0) zc (fun _ _ => rfl)) (za (pv 1) zb))) (qO (K := K) 2 rfl rfl (zC (jw (pv 0) zc qf) (zC (zn (i := 3) sc.nd rfl (by first | exact Or.inl rfl | exact Or.inr rfl)) qP))))
  (zi (zo (pv 3)))) zK)
  (zd (qz (zg zv (zQ zT (pv 0) zc (fun _ _ => rfl)) zc) (jw (pv 0) zc qf))
  (zd (zO (i := 2) sc.nd rfl (by first | exact Or.inl rfl | exact Or.inr rfl) (zg qb (zg zF (zg zv (zQ zT (pv 0) zc (fun _ _ => rfl)) (zg zF zc (zQ zT (pv 0) zc (fun _ _ => rfl)))) (zg zv zc (zQ zT (pv 0) zc (fun _ _ => rfl)))) zc))
  (zd (qz (zg qb (zg zv (zg zF (pv 2) (zg zv (zg qb (pv 2) zc) zc)) (zQ zT (pv 0) zc (fun _ _ => rfl))) zc) (jw (pv 0) zc qf))
  (zi (zo (zg qb (zg ka (zg qb (zg zF (zQ zT (pv 0) zc (fun _ _ => rfl)) (zg zv (zg qb (zQ zT (pv 0) zc (fun _ _ => rfl)) zc) zc)) zc) zc) (pv 1)))))))), ?_⟩
 rw [show qv ["_law_box_here", "_law_many", "_law_once", "_law_found"] [V.ref b, V.int m] = [some (.ref b), some (.int m), none, none] from rfl]
 walk_at "rd"
 walk_at "xs"
 refine V1 (fun c => ?_) (fun c => ?_)
 ·walk_at "xs"
  refine fun p hp => ?_
  walk_at "xs"
  refine q _ _ ((Kp.new _ hp).trans (Kp.set _ (by simp))) ⟨_, _, _, zt, Int.ediv_nonneg hx (by omega), hy, hy', hz, by omega⟩ (qw x hm).1 (qw x hm).2
 ·walk_at "xs"
  refine q _ _ ((Kp.set _ (by simp)).trans (Kp.set _ (by simp))) ⟨_, _, _, zt, hx, ?_, ?_, ?_, ?_⟩ (qw _ hm).1 (qw _ hm).2
  ·exact (qw _ (by decide)).1
  ·exact Int.lt_trans (qw _ (by decide)).2 (by decide)
  ·omega
  ·omega
abbrev ZD : Stmt := top 24
theorem Jr : zq ["_law_script", "_law_k", "_law_cell"] ["_law_script", "_law_k"] (zf ZD) := ⟨rfl, rfl, rfl, by decide +kernel, rfl, by decide +kernel, by decide +kernel⟩
def K4 : Sp := fun vs H Q _ => ∃ (a : Addr) (k : Int) (cs : List Int), vs = [.ref a, .int k] /\ H a = some (il cs) /\ 0 <= k /\ k <= 1000 /\ cs.length <= 1000 /\ ∀ p H', Kp [] H H' -> H p = none -> Bx H' p 0 -> Q (.ref p) H'
theorem JZ {cs : List Int} {k : Int} (h0 : 0 <= k) : ∃ c : Int, atI (cs.map V.int ++ List.replicate (k + 1).toNat (V.int 0)) k = some (.int c) := by
 have e : cs.map V.int ++ List.replicate (k + 1).toNat (V.int 0) = (cs ++ List.replicate (k + 1).toNat 0).map V.int := by simp
 have ek : k = ((k.toNat : Nat) : Int) := by omega
 have hk : k.toNat < (cs ++ List.replicate (k + 1).toNat (0 : Int)).length := by rw [List.length_append, List.length_replicate]; omega
 refine ⟨(cs ++ List.replicate (k + 1).toNat 0)[k.toNat], ?_⟩
 rw [e]
 have q : atI ((cs ++ List.replicate (k + 1).toNat (0 : Int)).map V.int) ((k.toNat : Nat) : Int) = some (.int (cs ++ List.replicate (k + 1).toNat 0)[k.toNat]) := Kk (by rw [List.getElem?_map, List.getElem?_eq_getElem hk] <;> rfl)
 rw [<- ek] at q
 exact q
theorem YX (a : At K mg "_law_box" ZD) (B : Blt mg) : Df P w K mg base "_law_box" ["_law_script", "_law_k"] 1 K4 := by
 refine v4 (k := 0) a Jr (fun _ _ _ _ _ _ us hl => match us, hl with | [_, _], _ => rfl) (fun vs H Q E h => ?_) (fun f cdv A outer s H vs Q E hr h => ?_)
 ·obtain ⟨a, k, cs, rfl, _⟩ := h; rfl
 obtain ⟨a, k, cs, rfl, ha, hk, hk', hcs, q⟩ := h
 have sc := Jr
 have hsl := hsl
 refine ⟨_, (zd (zO (i := 2) sc.nd rfl (by first | exact Or.inl rfl | exact Or.inr rfl) (zQ zT (zg Jm (pv 0) (zg QY (js (za zc zb)) (zg zv (pv 1) zc))) (pv 1) (fun _ _ => rfl)))
  (zi (zo (js (za (zg zF (zW yA rfl B.abs QH (za (pv 2) zb)) (zP xq rfl B.int QM (za (jD Vh (zW yA rfl B.abs QH (za (pv 2) zb)) (zg X7 zc zc) (zD _)) zb))) (za (zg qb (zg zF (zg zv (zg zv (zg qb (pv 2) zc) (zg zF zc (pv 1))) zc) zc) zc) (za zc zb))))))), ?_⟩
 rw [show qv ["_law_script", "_law_k", "_law_cell"] [V.ref a, V.int k] = [some (.ref a), some (.int k), none] from rfl]
 walk_at "rd"
 walk_at "xs"
 intro p1 hp1
 walk_at "xs"
 intro p2 hp2
 walk_at "xs"
 intro p3 hp3
 simp only [Ym] at hp3 ⊢
 obtain ⟨c, hc⟩ := JZ (cs := cs) hk
 walk_at "xs"
 intro p4 hp4
 refine q _ _ (by walk_at "kp") (by walk_at "fr") ⟨_, _, _, zt, ?_, ?_, ?_, ?_, ?_⟩
 ·exact Int.mul_nonneg (by split <;> omega) (b01 _)
 ·exact (qw _ (by decide)).1
 ·exact Int.lt_trans (qw _ (by decide)).2 (by decide)
 ·decide
 ·decide
abbrev kq : Stmt := top 26
theorem xB : zq ["_law_script", "_law_many", "_law_cells", "_law_k", "_law_cell"] ["_law_script", "_law_many"] (zf kq) := ⟨rfl, rfl, rfl, by decide +kernel, rfl, by decide +kernel, by decide +kernel⟩
def yS (K : PySem.W.Frag) : Sp := fun vs H Q _ => ∃ (a : Addr) (m : Int) (ns : List Int), vs = [.ref a, .int m] /\ SqL K H a (ns.map V.int) /\ 0 < m /\ m <= 60 /\ ns.length <= 63 /\ ∀ p H' cs, Kp [] H H' -> H p = none -> H' p = some (il cs) -> cs.length <= 1000 -> Q (.ref p) H'
theorem wZ (a : At K mg "_law_folded" kq) (B : Blt mg) : Df P w K mg base "_law_folded" ["_law_script", "_law_many"] 1 (yS K) := by
 refine v4 (k := 0) a xB (fun _ _ _ _ _ _ us hl => match us, hl with | [_, _], _ => rfl) (fun vs H Q E h => ?_) (fun f cdv A outer s H vs Q E hr h => ?_)
 ·obtain ⟨a, k, cs, rfl, _⟩ := h; rfl
 obtain ⟨a, m, ns, rfl, ha, hm, hm', hns, q⟩ := h
 obtain ⟨M, rfl⟩ : ∃ M : Nat, m = M := ⟨m.toNat, by omega⟩
 have sc := xB
 have hsl := hsl
 refine ⟨_, (zd (zO (i := 2) sc.nd rfl (by first | exact Or.inl rfl | exact Or.inr rfl) (zP xR rfl B.list wa (za (yT wd (pv 0) JU (xV (pv 1))) zb)))
  (zd (xT PassesOwn.never rfl (KI rfl B.enumerate (za (yT wd (pv 0) (xV (pv 1)) (xV zc)) zb)) (qO (K := K) 2 rfl rfl (zC (zn (i := 3) sc.nd rfl (by first | exact Or.inl rfl | exact Or.inr rfl)) (zC (zn (i := 4) sc.nd rfl (by first | exact Or.inl rfl | exact Or.inr rfl)) qP))) (zi (qz (zg zv (zQ zT (pv 2) (zg qb (pv 3) (pv 1)) (fun _ _ => rfl)) (zg zF (pv 4) (zg zv (pv 3) zc))) (jw (pv 2) (zg qb (pv 3) (pv 1)) qf))))
  (zi (zo (pv 2))))), ?_⟩
 rw [show qv ["_law_script", "_law_many", "_law_cells", "_law_k", "_law_cell"] [V.ref a, V.int M] = [some (.ref a), some (.int M), none, none, none] from rfl]
 walk_at "rd"
 walk_at "xs"
 intro p1 hp1
 rw [yZ]
 walk_at "xs"
 intro p2 hp2
 walk_at "xs"
 intro p3 hp3
 rw [yZ]
 have e63 : (63 : Int) = ((63 : Nat) : Int) := rfl
 simp only [HT.sIx_none, HT.sIx_nat, e63, List.drop_zero, Nat.sub_zero] at hp2 hp3 ⊢
 walk_at "xs"
 generalize hc0 : ns.take (min M ns.length) = c0 at hp2 hp3 ⊢
 generalize hd0 : (ns.drop (min M ns.length)).take (min 63 ns.length - min M ns.length) = d0 at hp2 hp3 ⊢
 have lc : c0.length = min M ns.length := by rw [<- hc0, List.length_take]; omega
 have ld : d0.length <= ns.length - M := by rw [<- hd0, List.length_take, List.length_drop]; omega
 have n23 : p2 ≠ p3 := by walk_at "ne"
 refine Km (xs := d0.map V.int) (fun i τ H' => ∃ u v cs, τ = [some (.ref a), some (.int M), some (.ref p2), u, v] /\ Kp [p2] (upd (upd (upd H p1 (HO.lst (List.map V.int c0))) p2 (HO.lst (List.map V.int c0))) p3 (HO.lst (List.map V.int d0))) H' /\ H' p2 = some (il cs) /\ cs.length = c0.length) ?_ ?_ ?_ ?_
 ·exact ⟨none, none, c0, rfl, Kp.refl, by walk_at "hp", rfl⟩
 ·rintro i τ H' _ ⟨u, v, cs, rfl, kp, _⟩
  exact SqL.of (kp _ _ (by simp [Ne.symm n23]) (by walk_at "hp"))
 ·rintro i x pp τ H' hx hpp ⟨u, v, cs, rfl, kp, hcs, hl⟩
  obtain ⟨rfl, hi⟩ := xL hx
  have b1 := qw (i : Int) hm
  obtain ⟨g1, g2⟩ := yk (cs := cs) (k := (i : Int) % (M : Int)) b1.1 (by omega)
  have hcs' : upd H' pp (HO.tup [V.int i, V.int (d0.getD i 0)]) p2 = some (il cs) := by walk_at "hp"
  walk_at "rd"
  walk_at "xs"
  refine ⟨(kp.trans (Kp.new _ hpp)).trans (Kp.set _ (by simp)), _, zt.trans (congrArg some (congrArg HO.lst (wg _ _ _))), by rw [List.length_set]; exact hl⟩
 ·rintro τ H' ⟨u, v, cs, rfl, kp, hcs, hl⟩
  walk_at "rd"
  refine q _ _ cs (fun c o hc hh => kp c o ?_ ((((Kp.new _ hp1).trans (Kp.new _ hp2)).trans (Kp.new _ hp3)) c o hc hh)) (by walk_at "fr") hcs (by omega)
  have : c ≠ p2 := qZ (yY hp2 (Kp.new _ hp1)) hh
  simpa using this
def xa : ASp := fun xs M Q => ∃ (b : Addr) (many : Int) (N : Nat), xs = [.ref b, .d (.int many)] /\ BxM M b N /\ N < 1000000000 /\ 0 < many /\ many < 1073741824 /\ ∀ r M', BxS M M' b (N + 1) -> 0 <= r -> r < many -> Q (.d (.int r)) M'
theorem JY (vs : List V) (H : Hp) (Q : VK) (E : XK) (h : cSp xa vs H Q E) : Jp vs H Q E := by
 obtain ⟨xs, M, O, Q', w, r, ⟨b, many, N, rfl, hb, h1, h2, h3, q⟩, k⟩ := h
 obtain ⟨v, u, rfl, rv, ru⟩ := xM r
 rw [zG ru, rv.1]
 refine ⟨b, many, N, rfl, hb.bx w, h1, h2, h3, fun r H' kp hb' r0 r1 => ?_⟩
 obtain ⟨M', s, e, w'⟩ := Yt w hb kp hb'
 exact k _ _ _ _ _ (q r M' s r0 r1) e w' .int
def VC : ASp := fun xs M Q => ∃ (x : AV) (k : Int) (cs : List Int), xs = [x, .d (.int k)] /\ je x M = some (cs.map fun i => .d (.int i)) /\ 0 <= k /\ k <= 1000 /\ cs.length <= 1000 /\ ∀ p o, M p = none -> BxM (mup M p o) p 0 -> Q (.ref p) (mup M p o)
theorem YV (vs : List V) (H : Hp) (Q : VK) (E : XK) (h : cSp VC vs H Q E) : K4 vs H Q E := by
 obtain ⟨xs, M, O, Q', w, r, ⟨x, n, cs, rfl, hx, h1, h2, h3, q⟩, k⟩ := h
 obtain ⟨v, u, rfl, rv, ru⟩ := xM r
 rw [zG ru]
 obtain ⟨a, rfl, ha⟩ := Qe w rv hx
 refine ⟨a, n, cs, rfl, ha, h1, h2, h3, fun p H' kp hp hb' => ?_⟩
 obtain ⟨x', y', z', g1, g2⟩ := hb'
 obtain ⟨e1, w1⟩ := QF w kp
 have fr := w.fresh hp
 have e2 := Ext.owned (O' := Zc O p) (p := p) w ⟨fun a o h e => ⟨(e1.fix a o h e).1, fun z => z.elim (zl e hp) h⟩, fun a h e => ⟨(e1.prv a h e).1, .inr h, e⟩, fun _ h => h⟩ hp (.lst ([x', y', z'].map fun i => .d (.int i)))
 refine k _ _ _ _ _ (q p _ fr.2 ⟨x', y', z', zm, g2⟩) e2 (yu (O := Zc O p) (xs := [V.int x', V.int y', V.int z']) ⟨fun a o h => ?_, fun a h => .inr (w1.own a h), fun a h => ?_⟩ (.inl rfl) fr.2 g1 (vd [x', y', z'])) ⟨rfl, by rw [zm]; exact fun z => nomatch z⟩
 ·have e3 : Ext H O M H' (Zc O p) M := ⟨fun a o h e => ⟨(e1.fix a o h e).1, fun z => z.elim (zl e hp) h⟩, fun a h e => ⟨(e1.prv a h e).1, .inr h, e⟩, fun _ h => h⟩
  refine qm.ext e3 ?_ (w.mo a o h)
  obtain ⟨u, hu, _⟩ := w.al a (w.own a (qS h))
  rw [hu]; exact kp a u (by simp) hu
 ·rcases h with rfl | h
  ·exact ⟨_, g1, fun xs z => nomatch z⟩
  ·exact w1.al a h
def wm (K : PySem.W.Frag) : ASp := fun xs M Q => ∃ (m : Int) (ns : List Int), xs = [.d (.scr K ns), .d (.int m)] /\ 0 < m /\ m <= 60 /\ ns.length <= 63 /\ ∀ cs : List Int, cs.length <= 1000 -> Q (.d (.lst (cs.map .int))) M
theorem Zq (vs : List V) (H : Hp) (Q : VK) (E : XK) (h : cSp (wm K) vs H Q E) : yS K vs H Q E := by
 obtain ⟨xs, M, O, Q', w, r, ⟨m, ns, rfl, h1, h2, h3, q⟩, k⟩ := h
 obtain ⟨v, u, rfl, rv, ru⟩ := xM r
 rw [zG ru]
 obtain ⟨a, rfl, ha⟩ := J3 rv
 refine ⟨a, m, ns, rfl, ha, h1, h2, h3, fun p H' cs kp hp hc lc => ?_⟩
 obtain ⟨e1, w1⟩ := QF w kp
 exact k _ _ _ _ _ (q cs lc) e1 w1 (Jq (w.fresh hp).1 hc)
def j0 : Dat -> Option (List Dat)
 | .lst l => some l
 | .tup l => some l
 | _ => none
theorem kg {d : Dat} {l : List Dat} (h : j0 d = some l) (M : MH) : qM (.d d) M = some (l.map .d) := by
 cases d with
 | lst m => cases h; rfl
 | tup m => cases h; rfl
 | _ => cases h
theorem qL {d : Dat} {os : List Int} (h : j0 d = some (os.map .int)) (M : MH) : qM (.d d) M = some (os.map fun i => .d (.int i)) := by rw [kg h, jW]
abbrev jR : Stmt := top 10
theorem ku : zq ["n"] ["n"] (zf jR) := ⟨rfl, rfl, rfl, by decide +kernel, rfl, by decide +kernel, by decide +kernel⟩
def jO : ASp := fun xs M Q => ∃ n : Nat, xs = [.d (.int n)] /\ n <= 1000 /\ ∀ p, M p = none -> Q (.ref p) (mup M p (.lst ((qR 0 1 n).map fun i => .d (.int i))))
theorem yl (a : At K mg "staying" jR) (B : Blt mg) : Df P w K mg base "staying" ["n"] 1 (cSp jO) := by
 refine dfA (k := 0) a ku (fun _ _ _ _ _ _ us hl => match us, hl with | [_], _ => rfl) (fun xs M Q h => ?_) (fun f cdv A outer s H E hr => ?_)
 ·obtain ⟨_, rfl, _⟩ := h; rfl
 have sc := ku
 have hsl := hsl
 refine ⟨_, (zi (zo (x8 (zP (kO rfl) rfl B.list wa (za (zP yU rfl B.range Z6 (za (pv 0) zb)) zb))))), ?_⟩
 refine ex2 (by walk_at "sim") ?_
 rintro xs M Q ⟨n, rfl, hn, q⟩
 rw [show zz ["n"] [.d (.int n)] = [some (.d (.int n))] from rfl]
 walk_at "ra"
 refine ⟨_, _, _, rfl, small_one (by omega) (by omega) (by omega) (by omega), n, by rw [rangeSize_one]; split <;> omega, by omega, fun p hp _ => ?_⟩
 exact ⟨_, _, Kz (Fr.refl.mup hp _) hp zm (zA _), q p hp⟩
def yW : ASp := fun xs M Q => ∃ n : Nat, xs = [.d (.int n)] /\ n <= 1000 /\ Q (.d (ilD (qR 0 1 n))) M
theorem y9 (vs : List V) (H : Hp) (Q : VK) (E : XK) : cSp yW vs H Q E -> cSp jO vs H Q E := J7 (fun xs M Q ⟨n, e, h1, q⟩ => ⟨n, e, h1, fun p hp => ⟨_, _, xO (Fr.refl.mup hp _) hp zm (zA _), q⟩⟩) vs H Q E
theorem Q3 (n : Nat) : qR 0 1 n = (List.range n).map fun (i : Nat) => (i : Int) := by
 unfold qR
 exact List.map_congr_left fun i _ => by omega
theorem jl (n : Nat) : jA 0 1 n = (List.range n).map fun (i : Nat) => AV.d (.int (i : Int)) := by
 unfold jA
 exact List.map_congr_left fun i _ => by rw [Int.zero_add, Int.mul_one]
theorem jQ {τ : Type} (R : τ -> ASt) (f : Nat -> Int) {ag : AG} {ae : AE} {G : MH -> Prop} {N : List AV -> ASt -> MH -> Prop} {n : Nat} {ρ : ASt} {M : MH} (h0 : ∃ o, ρ = R o) (hG : G M) (hl : n <= 100000)
  (hs : ∀ (o : τ) (i : Nat) (Q : AV -> ASt -> MH -> Prop), i < n -> (∀ o', Q (.d (.int (f i))) (R o') M) -> ag (.d (.int (i : Int))) (R o) M fun ρ2 M2 => ae ρ2 M2 fun y M3 => Q y ρ2 M3) (hN : ∀ o, N (((List.range n).map f).map fun i => AV.d (.int i)) (R o) M) : yH ag kj (jV ae) G N (jA 0 1 n) [] ρ M := by
 refine J8 R (fun i => .d (.int (f i))) h0 hG (by rw [jd]; exact hl) (fun o i x Q hx q => ?_) fun o => ?_
 ·obtain ⟨hi, rfl⟩ := kI hx
  rw [Int.zero_add, Int.mul_one]
  exact hs o i Q hi q
 ·rw [jd]
  have := hN o
  rw [List.map_map] at this
  exact this
theorem zr (ns : List Int) : dp (ilD ns) <= 40 := by
 have : ∀ ns : List Int, dps (ns.map .int) <= 0 := fun ns => vH fun d hd => by obtain ⟨i, _, rfl⟩ := List.mem_map.mp hd; simp [dp]
 rw [dp]; have := this ns; omega
def qe (n : Nat) (k : Int) : List Int := (List.range n).map fun (i : Nat) => ((i : Int) + k) % (n : Int)
def zw (r c : Nat) : List Int := (List.range (r * c)).map fun (p : Nat) => ((p % c * r + p / c : Nat) : Int)
def kJ (m f : Nat) : List Int := ((List.range m).map fun (i : Nat) => ((2 * i + f : Nat) : Int)) ++ (List.range m).map fun (i : Nat) => ((2 * i + 1 - f : Nat) : Int)
def j4 (one other : List Int) : List Int := one.map fun p => other.getD p.toNat 0
def ZI : ASp := fun xs M Q => ∃ (n : Nat) (k : Int), xs = [.d (.int n), .d (.int k)] /\ n <= 2000 /\ Q (.d (ilD (qe n k))) M
abbrev vi : Stmt := top 14
theorem vV : zq ["n", "k", "place"] ["n", "k"] (zf vi) := ⟨rfl, rfl, rfl, by decide +kernel, rfl, by decide +kernel, by decide +kernel⟩
theorem Kj (a : At K mg "roll_order" vi) (B : Blt mg) : Df P w K mg base "roll_order" ["n", "k"] 1 (cSp ZI) := by
 refine dfA (k := 0) a vV (fun _ _ _ _ _ _ us hl => match us, hl with | [_, _], _ => rfl) (fun xs M Q h => ?_) (fun f cdv A outer s H E hr => ?_)
 ·obtain ⟨_, _, rfl, _⟩ := h; rfl
 have sc := vV
 have hsl := hsl
 refine ⟨_, (zi (zo (qQ (ts := [2]) rfl rfl (zI rfl B.range (za (pv 0) zb)) (fun _ _ _ _ => (zn (i := 2) sc.nd rfl (by first | exact Or.inl rfl | exact Or.inr rfl))) (fun _ _ _ _ => zL) (fun _ _ _ _ => (zg qb (zg zv (pv 2) (pv 1)) (pv 0)))))), ?_⟩
 refine ex2 (by walk_at "sim") ?_
 rintro xs M Q ⟨n, k, rfl, hn, q⟩
 rw [show zz ["n", "k", "place"] [.d (.int n), .d (.int k)] = [some (.d (.int n)), some (.d (.int k)), none] from rfl]
 walk_at "ra"
 refine ⟨by omega, by omega, ?_⟩
 rw [Int.toNat_natCast]
 refine jQ (fun o => [some (.d (.int n)), some (.d (.int k)), o]) (fun i => ((i : Int) + k) % (n : Int)) ⟨_, rfl⟩ trivial (by omega) (fun o i Q hi q => ?_) fun o => ⟨_, zA _, jx Fr.refl q⟩
 walk_at "ra"
 exact ⟨by omega, q _⟩
def QV : ASp := fun xs M Q => ∃ (r c p : Nat), xs = [.d (.int r), .d (.int c), .d (.int p)] /\ 0 < c /\ r <= 100000 /\ c <= 100000 /\ p <= 100000 /\ Q (.d (.int ((p % c * r + p / c : Nat) : Int))) M
abbrev xY : Stmt := top 17
theorem yy : zq ["rows", "columns", "place"] ["rows", "columns", "place"] (zf xY) := ⟨rfl, rfl, rfl, by decide +kernel, rfl, by decide +kernel, by decide +kernel⟩
theorem QR (a : At K mg "turn_place" xY) (B : Blt mg) : Df P w K mg base "turn_place" ["rows", "columns", "place"] 1 (cSp QV) := by
 refine dfA (k := 0) a yy (fun _ _ _ _ _ _ us hl => match us, hl with | [_, _, _], _ => rfl) (fun xs M Q h => ?_) (fun f cdv A outer s H E hr => ?_)
 ·obtain ⟨_, _, _, rfl, _⟩ := h; rfl
 have sc := yy
 have hsl := hsl
 refine ⟨_, (zi (zo (zg zv (zg zF (zg qb (pv 2) (pv 1)) (pv 0)) (zg ka (pv 2) (pv 1))))), ?_⟩
 refine ex2 (by walk_at "sim") ?_
 rintro xs M Q ⟨r, c, p, rfl, hc, h1, h2, h3, q⟩
 rw [show zz ["rows", "columns", "place"] [.d (.int r), .d (.int c), .d (.int p)] = [some (.d (.int r)), some (.d (.int c)), some (.d (.int p))] from rfl]
 walk_at "ra"
 refine ⟨by omega, qh (by omega) (by omega), j8 (by omega) (by omega), ?_⟩
 refine jx Fr.refl ?_
 rw [show (p : Int) % c * r + p / c = ((p % c * r + p / c : Nat) : Int) by push_cast; rfl]
 exact q
def yP : ASp := fun xs M Q => ∃ (r c : Nat), xs = [.d (.int r), .d (.int c)] /\ r <= 2000 /\ c <= 2000 /\ r * c <= 2000 /\ Q (.d (ilD (zw r c))) M
abbrev vJ : Stmt := top 18
theorem wq : zq ["rows", "columns", "place"] ["rows", "columns"] (zf vJ) := ⟨rfl, rfl, rfl, by decide +kernel, rfl, by decide +kernel, by decide +kernel⟩
theorem KL (a : At K mg "turn_order" vJ) (B : Blt mg) (D_turn_place : Df P w K mg base "turn_place" ["rows", "columns", "place"] 1 (cSp QV)) : Df P w K mg base "turn_order" ["rows", "columns"] 2 (cSp yP) := by
 refine dfA (k := 1) a wq (fun _ _ _ _ _ _ us hl => match us, hl with | [_, _], _ => rfl) (fun xs M Q h => ?_) (fun f cdv A outer s H E hr => ?_)
 ·obtain ⟨_, _, rfl, _⟩ := h; rfl
 have sc := wq
 have hsl := hsl
 refine ⟨_, (zi (zo (qQ (ts := [2]) rfl rfl (zI rfl B.range (za (zg zF (pv 0) (pv 1)) zb)) (fun _ _ _ _ => (zn (i := 2) sc.nd rfl (by first | exact Or.inl rfl | exact Or.inr rfl))) (fun _ _ _ _ => zL) (fun _ _ _ _ => (zh D_turn_place hr rfl (za (pv 0) (za (pv 1) (za (pv 2) zb)))))))), ?_⟩
 refine ex2 (by walk_at "sim") ?_
 rintro xs M Q ⟨r, c, rfl, h1, h2, h3, q⟩
 rw [show zz ["rows", "columns", "place"] [.d (.int r), .d (.int c)] = [some (.d (.int r)), some (.d (.int c)), none] from rfl]
 walk_at "ra"
 refine ⟨qh (by omega) (by omega), ?_⟩
 rw [show (r : Int) * c = ((r * c : Nat) : Int) by push_cast; rfl]
 refine ⟨by omega, by omega, ?_⟩
 rw [Int.toNat_natCast]
 refine jQ (fun o => [some (.d (.int r)), some (.d (.int c)), o]) (fun p => ((p % c * r + p / c : Nat) : Int)) ⟨_, rfl⟩ trivial (by omega) (fun o i Q hi q => ?_) fun o => ⟨_, zA _, jx Fr.refl q⟩
 walk_at "ra"
 exact ⟨r, c, i, rfl, Nat.pos_of_ne_zero (fun z => by rw [z] at hi; simp at hi), by omega, by omega, by omega, q _⟩
def vf : ASp := fun xs M Q => ∃ (m f : Nat), xs = [.d (.int m), .d (.int f)] /\ m <= 1000 /\ f <= 1 /\ Q (.d (ilD (kJ m f))) M
abbrev xJ : Stmt := top 21
theorem yN : zq ["many", "first", "one", "other", "at"] ["many", "first"] (zf xJ) := ⟨rfl, rfl, rfl, by decide +kernel, rfl, by decide +kernel, by decide +kernel⟩
theorem Q6 (a : At K mg "weave_order" xJ) (B : Blt mg) : Df P w K mg base "weave_order" ["many", "first"] 1 (cSp vf) := by
 refine dfA (k := 0) a yN (fun _ _ _ _ _ _ us hl => match us, hl with | [_, _], _ => rfl) (fun xs M Q h => ?_) (fun f cdv A outer s H E hr => ?_)
 ·obtain ⟨_, _, rfl, _⟩ := h; rfl
 have sc := yN
 have hsl := hsl
 refine ⟨_, (zd (xG (j := 2) rfl sc.nd rfl (by first | exact Or.inl rfl | exact Or.inr rfl) (ts := [4]) rfl (zI rfl B.range (za (pv 0) zb)) (fun _ _ _ _ => (zn (i := 4) sc.nd rfl (by first | exact Or.inl rfl | exact Or.inr rfl))) (fun _ _ _ _ => zL) (fun _ _ _ _ => (zg zv (zg zF zc (pv 4)) (pv 1))))
  (zd (xG (j := 3) rfl sc.nd rfl (by first | exact Or.inl rfl | exact Or.inr rfl) (ts := [4]) rfl (zI rfl B.range (za (pv 0) zb)) (fun _ _ _ _ => (zn (i := 4) sc.nd rfl (by first | exact Or.inl rfl | exact Or.inr rfl))) (fun _ _ _ _ => zL) (fun _ _ _ _ => (zg jM (zg zv (zg zF zc (pv 4)) zc) (pv 1))))
  (zi (zo (zg Jm (pv 2) (pv 3)))))), ?_⟩
 refine ex2 (by walk_at "sim") ?_
 rintro xs M Q ⟨m, f, rfl, h1, h2, q⟩
 rw [show zz ["many", "first", "one", "other", "at"] [.d (.int m), .d (.int f)] = [some (.d (.int m)), some (.d (.int f)), none, none, none] from rfl]
 refine zj fun r hr0 => ?_
 walk_at "ra"
 refine ⟨by omega, by omega, ?_⟩
 rw [Int.toNat_natCast]
 refine jQ (fun o => [some (.d (.int m)), some (.d (.int f)), none, none, o]) (fun (i : Nat) => ((2 * i + f : Nat) : Int)) ⟨_, rfl⟩ trivial (by omega) (fun o i Q hi q => ?_) fun o => ⟨_, zA _, ?_⟩
 ·walk_at "ra"
  exact ⟨kf (by omega) (by omega), by rw [show 2 * (i : Int) + f = ((2 * i + f : Nat) : Int) by push_cast; rfl]; exact q _⟩
 subst hr0
 refine zj fun r hr0 => ?_
 walk_at "ra"
 refine ⟨by omega, by omega, ?_⟩
 rw [Int.toNat_natCast]
 refine jQ (fun o => [some (.d (.int m)), some (.d (.int f)), some (.d (ilD ((List.range m).map fun (i : Nat) => ((2 * i + f : Nat) : Int)))), none, o]) (fun (i : Nat) => ((2 * i + 1 - f : Nat) : Int)) ⟨_, rfl⟩ trivial (by omega) (fun o i Q hi q => ?_) fun o => ⟨_, zA _, ?_⟩
 ·walk_at "ra"
  exact ⟨kf (by omega) (by omega), by rw [show 2 * (i : Int) + 1 - f = ((2 * i + 1 - f : Nat) : Int) by omega]; exact q _⟩
 subst hr0
 walk_at "ra"
 refine ⟨by simp only [List.length_map, List.length_range]; omega, (kJ m f).map .int, ?_, jx Fr.refl q⟩
 unfold kJ
 rw [List.map_append, <- KA, jW, jW]
def xP : ASp := fun xs M Q => ∃ (dx dy : Dat) (a b : List Int), xs = [.d dx, .d dy] /\ j0 dx = some (a.map .int) /\ j0 dy = some (b.map .int) /\ a.length = b.length /\ b.length <= 2000 /\ (∀ p ∈ a, 0 <= p /\ p < (b.length : Int)) /\ Q (.d (ilD (j4 a b))) M
def VN (b : List Int) : AV -> AV
 | .d (.int p) => .d (.int (b.getD p.toNat 0))
 | x => x
abbrev x6 : Stmt := top 11
theorem yw : zq ["one", "other", "place"] ["one", "other"] (zf x6) := ⟨rfl, rfl, rfl, by decide +kernel, rfl, by decide +kernel, by decide +kernel⟩
theorem ZH (a : At K mg "after" x6) (B : Blt mg) : Df P w K mg base "after" ["one", "other"] 1 (cSp xP) := by
 refine dfA (k := 0) a yw (fun _ _ _ _ _ _ us hl => match us, hl with | [_, _], _ => rfl) (fun xs M Q h => ?_) (fun f cdv A outer s H E hr => ?_)
 ·obtain ⟨_, _, _, _, rfl, _⟩ := h; rfl
 have sc := yw
 have hsl := hsl
 refine ⟨_, (zd (qk (zE (qi hr.units) (zW zX rfl B.len kz (za (pv 0) zb)) (zW zX rfl B.len kz (za (pv 1) zb)) (zD _)) (zi ZC) zK)
  (zi (zo (qQ (ts := [2]) rfl rfl (kX (pv 0)) (fun _ _ _ _ => (zn (i := 2) sc.nd rfl (by first | exact Or.inl rfl | exact Or.inr rfl))) (fun _ _ _ _ => zL) (fun _ _ _ _ => (zQ (Qz (K := K) rfl) (pv 1) (pv 2) (fun _ _ => rfl))))))), ?_⟩
 refine ex2 (by walk_at "sim") ?_
 rintro xs M Q ⟨dx, dy, a, b, rfl, hx, hy, hl, hb, hp, q⟩
 rw [show zz ["one", "other", "place"] [.d dx, .d dy] = [some (.d dx), some (.d dy), none] from rfl]
 walk_at "ra"
 refine ⟨_, qL hx M, _, qL hy M, ?_⟩
 rw [List.length_map, List.length_map, if_neg (by omega)]
 refine ⟨_, qL hx M, ?_⟩
 refine vL (fun o => [some (.d dx), some (.d dy), o]) (VN b) ⟨_, rfl⟩ (qL hx M) (by rw [List.length_map]; omega) (fun o y Q hy2 q => ?_) fun o => ?_
 ·obtain ⟨p, hp2, rfl⟩ := List.mem_map.mp hy2
  have hb2 := hp p hp2
  walk_at "ra"
  exact ⟨_, qL hy M, _, QP hb2.1 hb2.2, q _⟩
 ·rw [show (a.map fun i => AV.d (.int i)).map (VN b) = (j4 a b).map fun i => AV.d (.int i) by unfold j4; rw [List.map_map, List.map_map]; rfl]
  exact ⟨_, zA _, jx Fr.refl q⟩
def ZA : ASp := fun xs M Q => ∃ (dx : Dat) (n : Nat) (os : List Int), xs = [.d dx] /\ j0 dx = some (os.map .int) /\ qI n os /\ n <= 2000 /\ ∀ bs, kn os bs -> Q (.d (ilD bs)) M
abbrev vK : Stmt := top 12
theorem vS : zq ["order", "back", "place", "goal"] ["order"] (zf vK) := ⟨rfl, rfl, rfl, by decide +kernel, rfl, by decide +kernel, by decide +kernel⟩
theorem KN (a : At K mg "back_of" vK) (B : Blt mg) : Df P w K mg base "back_of" ["order"] 1 (cSp ZA) := by
 refine dfA (k := 0) a vS (fun _ _ _ _ _ _ us hl => match us, hl with | [_], _ => rfl) (fun xs M Q h => ?_) (fun f cdv A outer s H E hr => ?_)
 ·obtain ⟨_, _, _, rfl, _⟩ := h; rfl
 have sc := vS
 have hsl := hsl
 refine ⟨_, (zd (zO (i := 1) sc.nd rfl (by first | exact Or.inl rfl | exact Or.inr rfl) (x8 (zg QY (js (za zc zb)) (zW zX rfl B.len kz (za (pv 0) zb)))))
  (zd (xT PassesOwn.never rfl (xx rfl B.enumerate (za (pv 0) zb)) (qO (K := K) 2 rfl rfl (zC (zn (i := 2) sc.nd rfl (by first | exact Or.inl rfl | exact Or.inr rfl)) (zC (zn (i := 3) sc.nd rfl (by first | exact Or.inl rfl | exact Or.inr rfl)) qP))) (zi (qz (pv 2) (jw (pv 1) (pv 3) qf))))
  (zi (zo (pv 1))))), ?_⟩
 refine ex2 (by walk_at "sim") ?_
 rintro xs M Q ⟨dx, n, os, rfl, hx, ho, hn, q⟩
 rw [show zz ["order", "back", "place", "goal"] [.d dx] = [some (.d dx), none, none, none] from rfl]
 have h1 := ho.1
 refine zj fun r hr0 => ?_
 walk_at "ra"
 refine ⟨by omega, _, qL hx M, by rw [List.length_map]; omega, by rw [List.length_map]; omega, by rw [List.length_map]; omega, fun p hp _ => ?_⟩
 rw [List.length_map, h1, Int.toNat_natCast, Ym]
 have hp1 := zm (M := M) (a := p) (o := .lst (List.replicate n (AV.d (.int 0))))
 have f1 := (Fr.refl (M := M)).mup hp (.lst (List.replicate n (AV.d (.int 0))))
 subst hr0
 refine zj fun r hr0 => ?_
 walk_at "ra"
 refine ⟨_, qL hx _, _, zA _, ?_⟩
 refine ⟨fun i ρ M' => ∃ u v bs, ρ = [some (.d dx), some (.ref p), u, v] /\ M' = mup M p (.lst (bs.map fun i => AV.d (.int i))) /\ bs.length = n /\ ∀ j, j < i -> bs.getD (os.getD j 0).toNat 0 = (j : Int), ⟨none, none, List.replicate n 0, rfl, by rw [List.map_replicate], by simp, fun j hj => nomatch hj⟩, ?_, ?_⟩
 ·rintro i y ρ M' hy ⟨u, v, bs, rfl, rfl, lb, hj⟩
  refine ⟨qL hx _, ?_⟩
  obtain ⟨d, hd, rfl⟩ := ji hy
  rw [List.getElem?_map] at hd
  cases e : os[i]? with
  | none => rw [e] at hd; cases hd
  | some k =>
   rw [e] at hd
   cases hd
   have hi := (List.getElem?_eq_some_iff.mp e).1
   have hk : os.getD i 0 = k := by rw [List.getD_eq_getElem?_getD, e]; rfl
   have kb := ho.2.2 k (List.mem_of_getElem? e)
   walk_at "ra"
   refine ⟨_, zm, k.toNat, by rw [List.length_map, x9 kb.1 (by omega)], bs.set k.toNat (i : Int), ?_, by rw [List.length_set]; exact lb, fun j hj' => ?_⟩
   ·rw [List.map_set]
   ·rw [Qa (by omega)]
    by_cases c : j = i
    ·subst c; rw [hk, if_pos rfl]
    ·rw [if_neg, hj j (by omega)]
     intro z
     have gj := ho.getD (i := j) (by omega)
     exact c (ho.inj (by omega) (by omega) (by rw [hk]; omega))
 ·rintro ρ M' ⟨u, v, bs, rfl, rfl, lb, hj⟩
  refine ⟨qL hx _, ?_⟩
  subst hr0
  walk_at "ra"
  refine ⟨_, _, xO (Fr.refl.mup hp _) hp zm (zA _), q bs ⟨by omega, fun i hi => hj i ?_⟩⟩
  simp only [qF, List.length_map]
  exact hi
def jU (n b m e : Nat) : List Int := (List.range n).map fun (p : Nat) => ((if b <= p /\ p < e then b + (p - b + (e - m)) % (e - b) else p : Nat) : Int)
def JA : ASp := fun xs M Q => ∃ (n b m e : Nat), xs = [.d (.int n), .d (.int b), .d (.int m), .d (.int e)] /\ b <= m /\ m <= e /\ e <= n /\ n <= 1000 /\ Q (.d (ilD (jU n b m e))) M
abbrev vw : Stmt := top 15
theorem v7 : zq ["n", "begin", "middle", "end", "order", "at", "goal"] ["n", "begin", "middle", "end"] (zf vw) := ⟨rfl, rfl, rfl, by decide +kernel, rfl, by decide +kernel, by decide +kernel⟩
theorem Ks (a : At K mg "exchange_order" vw) (B : Blt mg) (D_roll_order : Df P w K mg base "roll_order" ["n", "k"] 1 (cSp ZI)) (D_staying_o : Df P w K mg base "staying" ["n"] 1 (cSp jO)) : Df P w K mg base "exchange_order" ["n", "begin", "middle", "end"] 2 (cSp JA) := by
 refine dfA (k := 1) a v7 (fun _ _ _ _ _ _ us hl => match us, hl with | [_, _, _, _], _ => rfl) (fun xs M Q h => ?_) (fun f cdv A outer s H E hr => ?_)
 ·obtain ⟨_, _, _, _, rfl, _⟩ := h; rfl
 have sc := v7
 have hsl := hsl
 refine ⟨_, (zd (zO (i := 4) sc.nd rfl (by first | exact Or.inl rfl | exact Or.inr rfl) (zh D_staying_o hr rfl (za (pv 0) zb)))
  (zd (xT PassesOwn.never rfl (xx rfl B.enumerate (za (zh D_roll_order hr rfl (za (zg jM (pv 3) (pv 1)) (za (zg jM (pv 3) (pv 2)) zb))) zb)) (qO (K := K) 2 rfl rfl (zC (zn (i := 5) sc.nd rfl (by first | exact Or.inl rfl | exact Or.inr rfl)) (zC (zn (i := 6) sc.nd rfl (by first | exact Or.inl rfl | exact Or.inr rfl)) qP))) (zi (qz (zg zv (pv 1) (pv 6)) (jw (pv 4) (zg zv (pv 1) (pv 5)) qf))))
  (zi (zo (pv 4))))), ?_⟩
 refine ex2 (by walk_at "sim") ?_
 rintro xs M Q ⟨n, b, m, e, rfl, h1, h2, h3, hn, q⟩
 rw [show zz ["n", "begin", "middle", "end", "order", "at", "goal"] [.d (.int n), .d (.int b), .d (.int m), .d (.int e)] = [some (.d (.int n)), some (.d (.int b)), some (.d (.int m)), some (.d (.int e)), none, none, none] from rfl]
 refine zj fun r hr0 => ?_
 walk_at "ra"
 refine ⟨n, rfl, hn, fun p hp => ?_⟩
 subst hr0
 refine zj fun r hr0 => ?_
 walk_at "ra"
 rw [show (e : Int) - b = ((e - b : Nat) : Int) by omega, show (e : Int) - m = ((e - m : Nat) : Int) by omega]
 refine ⟨e - b, _, rfl, by omega, _, ye _ _, _, zA _, ?_⟩
 refine ⟨fun i ρ M' => ∃ u v, ρ = [some (.d (.int n)), some (.d (.int b)), some (.d (.int m)), some (.d (.int e)), some (.ref p), u, v] /\ i <= e - b /\ M' = mup M p (.lst (((List.range n).map fun (p : Nat) => ((if b <= p /\ p < b + i then b + (p - b + (e - m)) % (e - b) else p : Nat) : Int)).map fun i => AV.d (.int i))), ⟨none, none, rfl, by omega, ?_⟩, ?_, ?_⟩
 ·rw [Q3]
  congr 3
  refine List.map_congr_left fun x _ => ?_
  rw [if_neg (by omega)]
 ·rintro i y ρ M' hy ⟨u, v, rfl, hi, rfl⟩
  refine ⟨ye _ _, ?_⟩
  obtain ⟨d, hd, rfl⟩ := ji hy
  unfold qe at hd
  rw [List.map_map, List.getElem?_map] at hd
  cases eg : (List.range (e - b))[i]? with
  | none => rw [eg] at hd; cases hd
  | some k =>
   rw [eg] at hd
   obtain rfl : Dat.int ((((k : Nat) : Int) + ((e - m : Nat) : Int)) % ((e - b : Nat) : Int)) = d := Option.some.inj hd
   obtain ⟨hi', hk⟩ := List.getElem?_eq_some_iff.mp eg
   rw [List.getElem_range] at hk
   rw [List.length_range] at hi'
   subst hk
   walk_at "ra"
   refine ⟨_, zm, b + i, by rw [List.length_map, List.length_map, List.length_range, x9 (by omega) (by omega)]; congr 1, by omega, ?_⟩
   rw [<- List.map_set]
   congr 3
   refine List.ext_getElem (by simp) fun x hx1 hx2 => ?_
   rw [List.getElem_set, List.getElem_map, List.getElem_map, List.getElem_range]
   have hm : ((i : Int) + ((e - m : Nat) : Int)) % ((e - b : Nat) : Int) = (((i + (e - m)) % (e - b) : Nat) : Int) := by push_cast; rfl
   by_cases c : b + i = x
   ·subst c
    rw [if_pos rfl, if_pos (by omega), show b + i - b = i by omega]
    show (b : Int) + ((i : Int) + ((e - m : Nat) : Int)) % ((e - b : Nat) : Int) = _
    rw [hm]; push_cast; rfl
   ·rw [if_neg c]
    by_cases c2 : b <= x /\ x < b + i
    ·rw [if_pos c2, if_pos (by omega)]
    ·rw [if_neg c2, if_neg (by omega)]
 ·rintro ρ M' ⟨u, v, rfl, hi, rfl⟩
  refine ⟨ye _ _, ?_⟩
  subst hr0
  walk_at "ra"
  refine ⟨_, _, xO (Fr.refl.mup hp _) hp zm (zA _), ?_⟩
  rw [show (jX (List.map Dat.int (qe (e - b) ((e - m : Nat) : Int)))).length = e - b by rw [qF, List.length_map]; unfold qe; rw [List.length_map, List.length_range], show b + (e - b) = e by omega]
  exact q
def qT : AV -> Int
 | .d (.int i) => i
 | _ => 0
theorem qJ {α : Type} (n : Nat) (g : Int -> List α) : (jA 0 1 n).flatMap (fun x => g (qT x)) = (List.range n).flatMap fun (i : Nat) => g (i : Int) := by
 rw [jl, List.flatMap_map]
 rfl
theorem xl {α : Type} (ns : List Int) (g : Int -> List α) : (ns.map fun i => AV.d (.int i)).flatMap (fun x => g (qT x)) = ns.flatMap g := by
 rw [List.flatMap_map]
 rfl
theorem xA {α : Type} (l : List α) (g : α -> List Int) : (l.flatMap fun x => (g x).map fun i => AV.d (.int i)) = (l.flatMap g).map fun i => AV.d (.int i) := by
 rw [List.map_flatMap]
theorem jz {α β : Type} (l : List α) (g : α -> List β) (k : Nat) (h : ∀ x ∈ l, (g x).length <= k) : (l.flatMap g).length <= l.length * k := by
 induction l with
 | nil => simp
 | cons a r ih =>
  rw [List.flatMap_cons, List.length_append, List.length_cons, Nat.succ_mul]
  have h1 := h a (by simp)
  have h2 := ih fun x hx => h x (by simp [hx])
  omega
theorem wb {τ : Type} (R : τ -> ASt) (f : Int -> Int) {ag : AG} {ae : AE} {G : MH -> Prop} {N : List AV -> ASt -> MH -> Prop} {ns : List Int} {l acc : List AV} {ρ : ASt} {M : MH} (hl0 : l = ns.map fun i => AV.d (.int i)) (h0 : ∃ o, ρ = R o) (hG : G M) (hl : acc.length + ns.length <= 100000)
  (hs : ∀ (o : τ) (i : Int) (Q : AV -> ASt -> MH -> Prop), i ∈ ns -> (∀ o', Q (.d (.int (f i))) (R o') M) -> ag (.d (.int i)) (R o) M fun ρ2 M2 => ae ρ2 M2 fun y M3 => Q y ρ2 M3) (hN : ∀ o, N (acc ++ (ns.map f).map fun i => AV.d (.int i)) (R o) M) : yH ag kj (jV ae) G N l acc ρ M := by
 subst hl0
 have hsl : 100000 < sizeLine := by rw [sizeLine_eq]; decide
 have e : ((ns.map fun i => AV.d (.int i)).flatMap fun x => [AV.d (.int (f (qT x)))]) = (ns.map f).map fun i => AV.d (.int i) := by
  rw [xl ns (fun i => [AV.d (.int (f i))]), List.map_map]
  exact List.map_eq_flatMap.symm
 refine jj R (fun x => [AV.d (.int (f (qT x)))]) h0 hG (by rw [e]; simp; omega) (fun o x acc N' hx hle q => ?_) fun o => by rw [e]; exact hN o
 obtain ⟨i, hi, rfl⟩ := List.mem_map.mp hx
 refine hs o i (fun y ρ2 M3 => acc.length < sizeLine /\ N' (acc ++ [y]) ρ2 M3) hi fun o' => ⟨?_, q o'⟩
 simp only [List.length_cons, List.length_nil] at hle
 omega
def qx (o r c i : Nat) : List Int := ((List.range o).flatMap fun (t : Nat) => (zw r c).map fun g => (t : Int) * ((r * c : Nat) : Int) + g).flatMap fun cell => (List.range i).map fun (a : Nat) => cell * (i : Int) + (a : Int)
def Jv : ASp := fun xs M Q => ∃ (o r c i : Nat), xs = [.d (.int o), .d (.int r), .d (.int c), .d (.int i)] /\ o <= 1000 /\ r <= 1000 /\ c <= 1000 /\ i <= 1000 /\ r * c <= 1000 /\ o * (r * c) <= 1000 /\ o * (r * c) * i <= 1000 /\ Q (.d (ilD (qx o r c i))) M
theorem qq (r c : Nat) : (zw r c).length = r * c := by unfold zw; rw [List.length_map, List.length_range]
theorem y6 {r c : Nat} {g : Int} (h : g ∈ zw r c) : 0 <= g /\ g < ((r * c : Nat) : Int) := by
 unfold zw at h
 obtain ⟨p, hp, rfl⟩ := List.mem_map.mp h
 rw [List.mem_range] at hp
 have hc : 0 < c := Nat.pos_of_ne_zero fun z => by rw [z] at hp; simp at hp
 have h1 : p / c < r := Nat.div_lt_of_lt_mul (by rw [Nat.mul_comm]; exact hp)
 have h2 : p % c + 1 <= c := Nat.mod_lt _ hc
 have h3 : (p % c + 1) * r <= c * r := Nat.mul_le_mul_right r h2
 rw [Nat.add_mul, Nat.one_mul, Nat.mul_comm c r] at h3
 exact ⟨Int.natCast_nonneg _, Int.ofNat_lt.mpr (by omega)⟩
abbrev xS : Stmt := top 19
theorem yC : zq ["outer", "rows", "columns", "inner", "goals", "cells", "table", "goal", "cell", "at"] ["outer", "rows", "columns", "inner"] (zf xS) := ⟨rfl, rfl, rfl, by decide +kernel, rfl, by decide +kernel, by decide +kernel⟩
theorem ZE (a : At K mg "block_order" xS) (B : Blt mg) (D_turn_order : Df P w K mg base "turn_order" ["rows", "columns"] 2 (cSp yP)) : Df P w K mg base "block_order" ["outer", "rows", "columns", "inner"] 3 (cSp Jv) := by
 refine dfA (k := 2) a yC (fun _ _ _ _ _ _ us hl => match us, hl with | [_, _, _, _], _ => rfl) (fun xs M Q h => ?_) (fun f cdv A outer s H E hr => ?_)
 ·obtain ⟨_, _, _, _, rfl, _⟩ := h; rfl
 have sc := yC
 have hsl := hsl
 refine ⟨_, (zd (zO (i := 4) sc.nd rfl (by first | exact Or.inl rfl | exact Or.inr rfl) (zh D_turn_order hr rfl (za (pv 1) (za (pv 2) zb))))
  (zd (yF (j := 5) rfl sc.nd rfl (by first | exact Or.inl rfl | exact Or.inr rfl) (ts := [6, 7]) rfl (zI rfl B.range (za (pv 0) zb)) (fun _ _ _ _ => (zn (i := 6) sc.nd rfl (by first | exact Or.inl rfl | exact Or.inr rfl))) (fun _ _ _ _ => zL) (fun _ _ _ _ _ => (ke rfl rfl (by intro _ e; cases e <;> rfl) (Ya (K := K) rfl (pv 4)) (fun _ => rfl) (zn (i := 7) sc.nd rfl (by first | exact Or.inl rfl | exact Or.inr rfl)) zL (x5 rfl (zg zv (zg zF (pv 6) (zW (kR (K := K) rfl) rfl B.len kz (za (pv 4) zb))) (pv 7)) (fun _ _ z => z)) (fun _ _ z => z))))
  (zi (zo (Z4 (ts := [8, 9]) rfl rfl (kX (pv 5)) (fun _ _ _ _ => (zn (i := 8) sc.nd rfl (by first | exact Or.inl rfl | exact Or.inr rfl))) (fun _ _ _ _ => zL) (fun _ _ _ _ _ => (ke rfl rfl (by intro _ e; cases e <;> rfl) (zI rfl B.range (za (pv 3) zb)) (fun _ => rfl) (zn (i := 9) sc.nd rfl (by first | exact Or.inl rfl | exact Or.inr rfl)) zL (x5 rfl (zg zv (zg zF (pv 8) (pv 3)) (pv 9)) (fun _ _ z => z)) (fun _ _ z => z)))))))), ?_⟩
 refine ex2 (by walk_at "sim") ?_
 rintro xs M Q ⟨o, r, c, i, rfl, h1, h2, h3, h4, h5, h6, h7, q⟩
 rw [show zz ["outer", "rows", "columns", "inner", "goals", "cells", "table", "goal", "cell", "at"] [.d (.int o), .d (.int r), .d (.int c), .d (.int i)] = [some (.d (.int o)), some (.d (.int r)), some (.d (.int c)), some (.d (.int i)), none, none, none, none, none, none] from rfl]
 refine zj fun rr hr0 => ?_
 walk_at "ra"
 refine ⟨r, c, rfl, by omega, by omega, by omega, ?_⟩
 subst hr0
 refine zj fun rr hr0 => ?_
 walk_at "ra"
 refine ⟨by omega, by omega, ?_⟩
 rw [Int.toNat_natCast]
 have tl := qq r c
 have e1 : (jA 0 1 o).flatMap (fun x => ((zw r c).map fun g => qT x * ((r * c : Nat) : Int) + g).map fun i => AV.d (.int i)) = ((List.range o).flatMap fun (t : Nat) => (zw r c).map fun g => (t : Int) * ((r * c : Nat) : Int) + g).map fun i => AV.d (.int i) := by
  rw [qJ o (fun t => ((zw r c).map fun g => t * ((r * c : Nat) : Int) + g).map fun i => AV.d (.int i)), xA]
 generalize hcs : (List.range o).flatMap (fun (t : Nat) => (zw r c).map fun g => (t : Int) * ((r * c : Nat) : Int) + g) = cs at e1
 have lcs : cs.length <= o * (r * c) := by
  rw [<- hcs]
  have := jz (List.range o) (fun (t : Nat) => (zw r c).map fun g => (t : Int) * ((r * c : Nat) : Int) + g) (r * c) fun x _ => by rw [List.length_map, tl]; exact Nat.le_refl _
  rwa [List.length_range] at this
 have bcs : ∀ x ∈ cs, 0 <= x /\ x < 2000000 := fun x hx => by
  rw [<- hcs] at hx
  obtain ⟨t, ht, hx⟩ := List.mem_flatMap.mp hx
  obtain ⟨g, hg, rfl⟩ := List.mem_map.mp hx
  rw [List.mem_range] at ht
  have := y6 hg
  have h8 : (t : Int) * ((r * c : Nat) : Int) = ((t * (r * c) : Nat) : Int) := by push_cast; rfl
  have h9 : t * (r * c) <= 1000 * 1000 := Nat.mul_le_mul (by omega) (by omega)
  rw [h8]; omega
 have lq : ∀ x, ((fun x => ((zw r c).map fun g => qT x * ((r * c : Nat) : Int) + g).map fun i => AV.d (.int i)) x).length = r * c := fun x => by simp [tl]
 refine jj (fun (z : Option AV × Option AV) => [some (.d (.int o)), some (.d (.int r)), some (.d (.int c)), some (.d (.int i)), some (.d (ilD (zw r c))), none, z.1, z.2, none, none]) (fun x => ((zw r c).map fun g => qT x * ((r * c : Nat) : Int) + g).map fun i => AV.d (.int i)) ⟨(_, _), rfl⟩ trivial (by rw [e1, List.length_map]; simp; omega) (fun z x acc N' hx hle q => ?_) fun z => ?_
 ·rw [jl] at hx
  obtain ⟨t, ht, rfl⟩ := List.mem_map.mp hx
  rw [List.mem_range] at ht
  walk_at "ra"
  refine wb (fun y => [some (.d (.int o)), some (.d (.int r)), some (.d (.int c)), some (.d (.int i)), some (.d (ilD (zw r c))), none, some (.d (.int t)), y, none, none]) (fun g => (t : Int) * ((r * c : Nat) : Int) + g) (ns := zw r c) rfl ⟨_, rfl⟩ trivial (by simp at hle; omega) (fun y g Q hg q => ?_) fun y => q (_, _)
  walk_at "ra"
  rw [tl]
  exact ⟨qh (by omega) (by omega), q _⟩
 rw [e1]
 refine ⟨_, zA _, ?_⟩
 subst hr0
 walk_at "ra"
 have e2 : (cs.map fun i => AV.d (.int i)).flatMap (fun x => ((List.range i).map fun (a : Nat) => qT x * (i : Int) + (a : Int)).map fun i => AV.d (.int i)) = (qx o r c i).map fun i => AV.d (.int i) := by
  rw [xl cs (fun x => ((List.range i).map fun (a : Nat) => x * (i : Int) + (a : Int)).map fun i => AV.d (.int i)), xA]
  unfold qx
  rw [hcs]
 have le2 : ((qx o r c i).map fun i => AV.d (.int i)).length <= 1000 := by
  rw [<- e2]
  have := jz (cs.map fun i => AV.d (.int i)) (fun x => ((List.range i).map fun (a : Nat) => qT x * (i : Int) + (a : Int)).map fun i => AV.d (.int i)) i fun x _ => by simp
  have h8 : (cs.map fun i => AV.d (.int i)).length * i <= o * (r * c) * i := Nat.mul_le_mul_right i (by rw [List.length_map]; exact lcs)
  omega
 refine jj (fun (z : Option AV × Option AV) => [some (.d (.int o)), some (.d (.int r)), some (.d (.int c)), some (.d (.int i)), some (.d (ilD (zw r c))), some (.d (ilD cs)), none, none, z.1, z.2]) (fun x => ((List.range i).map fun (a : Nat) => qT x * (i : Int) + (a : Int)).map fun i => AV.d (.int i)) ⟨(_, _), rfl⟩ trivial (by rw [e2]; simp only [List.length_nil]; omega) (fun z x acc N' hx hle q => ?_) fun z => ?_
 ·obtain ⟨cell, hcell, rfl⟩ := List.mem_map.mp hx
  have hb := bcs cell hcell
  walk_at "ra"
  refine ⟨by omega, by omega, ?_⟩
  rw [Int.toNat_natCast]
  refine wb (fun y => [some (.d (.int o)), some (.d (.int r)), some (.d (.int c)), some (.d (.int i)), some (.d (ilD (zw r c))), some (.d (ilD cs)), none, none, some (.d (.int cell)), y]) (fun a => cell * (i : Int) + a) (ns := (List.range i).map fun (a : Nat) => (a : Int)) (by rw [jl, List.map_map]; rfl) ⟨_, rfl⟩ trivial (by simp at hle ⊢; omega) (fun y g Q hg q => ?_) fun y => ?_
  ·walk_at "ra"
   exact ⟨qh (by omega) (by omega), q _⟩
  ·have := q (some (.d (.int cell)), y)
   rw [List.map_map] at this ⊢
   rw [List.map_map]
   exact this
 rw [e2]
 exact ⟨_, zA _, jx Fr.refl q⟩
def zN (s : Nat -> Nat) : List Dat := [.int (s 0), .int (s 1), .int (s 2)]
def W3 (w : Nat -> Nat) : Prop := w 0 < 3 /\ w 1 < 3 /\ w 2 < 3
theorem jk (s : Nat -> Nat) {k : Nat} (h : k < 3) (M : MH) {x : Dat} (hx : j0 x = some (zN s)) : ∃ l, qM (.d x) M = some l /\ atI l (k : Int) = some (.d (.int (s k))) := by
 refine ⟨_, kg hx M, ?_⟩
 match k, h with
 | 0, _ => rfl
 | 1, _ => rfl
 | 2, _ => rfl
def yE : ASp := fun xs M Q => ∃ (x y : Dat) (s w : Nat -> Nat), xs = [.d x, .d y] /\ j0 x = some (zN s) /\ j0 y = some (zN w) /\ W3 w /\ Q (.d (.tup (zN fun i => s (w i)))) M
def byA (s : Nat -> Nat) : AV -> AV
 | .d (.int i) => .d (.int (s i.toNat))
 | x => x
abbrev ZV : Stmt := top 1
theorem Jn : zq ["three", "ways", "way"] ["three", "ways"] (zf ZV) := ⟨rfl, rfl, rfl, by decide +kernel, rfl, by decide +kernel, by decide +kernel⟩
theorem Xl (a : At K mg "by_ways" ZV) (B : Blt mg) : Df P w K mg base "by_ways" ["three", "ways"] 1 (cSp yE) := by
  refine dfA (k := 0) a Jn (fun _ _ _ _ _ _ us hl => match us, hl with | [_, _], _ => rfl) (fun xs M Q h => ?_) (fun f cdv A outer s H E hr => ?_)
  · obtain ⟨_, _, _, _, rfl, _⟩ := h; rfl
  have sc := Jn
  have hsl := hsl
  refine ⟨_, (zi (zo (zP qj rfl B.tuple jE (za (qQ (ts := [2]) rfl rfl (kX (pv 1)) (fun _ _ _ _ => (zn (i := 2) sc.nd rfl (by first | exact Or.inl rfl | exact Or.inr rfl))) (fun _ _ _ _ => zL) (fun _ _ _ _ => (zQ (Qz (K := K) rfl) (pv 0) (pv 2) (fun _ _ => rfl)))) zb)))), ?_⟩
  refine ex2 (by walk_at "sim") ?_
  rintro xs M Q ⟨x, y, s, w, rfl, hx, hy, hw, q⟩
  rw [show zz ["three", "ways", "way"] [.d x, .d y] = [some (.d x), some (.d y), none] from rfl]
  walk_at "ra"
  refine ⟨_, kg hy M, ?_⟩
  refine vL (fun o => [some (.d x), some (.d y), o]) (byA s) ⟨_, rfl⟩ (kg hy M) (by simp [zN]) (fun o z Q hz q => ?_) fun o => ?_
  · obtain ⟨k, hk, rfl⟩ : ∃ k : Nat, k < 3 /\ z = .d (.int k) := by
      unfold zN at hz
      simp only [List.map_cons, List.map_nil, List.mem_cons, List.not_mem_nil, or_false] at hz
      rcases hz with rfl | rfl | rfl
      · exact ⟨_, hw.1, rfl⟩
      · exact ⟨_, hw.2.1, rfl⟩
      · exact ⟨_, hw.2.2, rfl⟩
    obtain ⟨l, hl, hat⟩ := jk s hk M hx
    walk_at "ra"
    exact ⟨_, hl, _, hat, q _⟩
  · exact ⟨_, rfl, jx Fr.refl q⟩
abbrev kh : Stmt := top 3
theorem xo : zq ["sizes", "ways"] ["sizes", "ways"] (zf kh) := ⟨rfl, rfl, rfl, by decide +kernel, rfl, by decide +kernel, by decide +kernel⟩
theorem wW (a : At K mg "deep_sizes" kh) (B : Blt mg) (D_by_ways : Df P w K mg base "by_ways" ["three", "ways"] 1 (cSp yE)) : Df P w K mg base "deep_sizes" ["sizes", "ways"] 2 (cSp yE) := by
 refine dfA (k := 1) a xo (fun _ _ _ _ _ _ us hl => match us, hl with | [_, _], _ => rfl) (fun xs M Q h => ?_) (fun f cdv A outer s H E hr => ?_)
 ·obtain ⟨_, _, _, _, rfl, _⟩ := h; rfl
 have sc := xo
 have hsl := hsl
 refine ⟨_, (zi (zo (zh D_by_ways hr rfl (za (pv 0) (za (pv 1) zb))))), ?_⟩
 refine ex2 (by walk_at "sim") ?_
 rintro xs M Q ⟨x, y, s, w, rfl, hx, hy, hw, q⟩
 rw [show zz ["sizes", "ways"] [.d x, .d y] = [some (.d x), some (.d y)] from rfl]
 walk_at "ra"
 exact ⟨x, y, s, w, rfl, hx, hy, hw, jx Fr.refl q⟩
abbrev ky : Stmt := top 5
theorem kW : zq ["one", "other"] ["one", "other"] (zf ky) := ⟨rfl, rfl, rfl, by decide +kernel, rfl, by decide +kernel, by decide +kernel⟩
theorem wX (a : At K mg "deep_after" ky) (B : Blt mg) (D_by_ways : Df P w K mg base "by_ways" ["three", "ways"] 1 (cSp yE)) : Df P w K mg base "deep_after" ["one", "other"] 2 (cSp yE) := by
 refine dfA (k := 1) a kW (fun _ _ _ _ _ _ us hl => match us, hl with | [_, _], _ => rfl) (fun xs M Q h => ?_) (fun f cdv A outer s H E hr => ?_)
 ·obtain ⟨_, _, _, _, rfl, _⟩ := h; rfl
 have sc := kW
 have hsl := hsl
 refine ⟨_, (zi (zo (zh D_by_ways hr rfl (za (pv 0) (za (pv 1) zb))))), ?_⟩
 refine ex2 (by walk_at "sim") ?_
 rintro xs M Q ⟨x, y, s, w, rfl, hx, hy, hw, q⟩
 rw [show zz ["one", "other"] [.d x, .d y] = [some (.d x), some (.d y)] from rfl]
 walk_at "ra"
 exact ⟨x, y, s, w, rfl, hx, hy, hw, jx Fr.refl q⟩
def plc (s c : Nat -> Nat) : Nat := (c 0 * s 1 + c 1) * s 2 + c 2
def Vf : ASp := fun xs M Q => ∃ (x y : Dat) (s c : Nat -> Nat), xs = [.d x, .d y] /\ j0 x = some (zN s) /\ j0 y = some (zN c) /\ (∀ i, s i <= 10000) /\ Q (.d (.int (plc s c : Nat))) M
abbrev Q2 : Stmt := top 2
theorem QZ : zq ["sizes", "cell"] ["sizes", "cell"] (zf Q2) := ⟨rfl, rfl, rfl, by decide +kernel, rfl, by decide +kernel, by decide +kernel⟩
theorem YH (a : At K mg "deep_place" Q2) (B : Blt mg) : Df P w K mg base "deep_place" ["sizes", "cell"] 1 (cSp Vf) := by
 refine dfA (k := 0) a QZ (fun _ _ _ _ _ _ us hl => match us, hl with | [_, _], _ => rfl) (fun xs M Q h => ?_) (fun f cdv A outer s H E hr => ?_)
 ·obtain ⟨_, _, _, _, rfl, _⟩ := h; rfl
 have sc := QZ
 have hsl := hsl
 refine ⟨_, (zi (zo (zg zv (zg zF (zg zv (zg zF (zQ jr (pv 1) zc (fun _ _ => rfl)) (zQ jr (pv 0) zc (fun _ _ => rfl))) (zQ jr (pv 1) zc (fun _ _ => rfl))) (zQ jr (pv 0) zc (fun _ _ => rfl))) (zQ jr (pv 1) zc (fun _ _ => rfl))))), ?_⟩
 refine ex2 (by walk_at "sim") ?_
 rintro xs M Q ⟨x, y, s, c, rfl, hx, hy, hb, q⟩
 rw [show zz ["sizes", "cell"] [.d x, .d y] = [some (.d x), some (.d y)] from rfl]
 obtain ⟨l0, g0, c0⟩ := jk c (k := 0) (by omega) M hy
 obtain ⟨l1, g1, c1⟩ := jk c (k := 1) (by omega) M hy
 obtain ⟨l2, g2, c2⟩ := jk c (k := 2) (by omega) M hy
 obtain ⟨m1, k1, d1⟩ := jk s (k := 1) (by omega) M hx
 obtain ⟨m2, k2, d2⟩ := jk s (k := 2) (by omega) M hx
 have b1 := hb 1
 have b2 := hb 2
 walk_at "ra"
 refine ⟨_, g0, _, c0, _, k1, _, d1, _, rfl, _, rfl, qh (by omega) (by omega), _, g1, _, c1, _, rfl, _, k2, _, d2, _, rfl, qh (by omega) (by omega), _, g2, _, c2, _, rfl, jx Fr.refl ?_⟩
 rw [show ((c 0 : Int) * s 1 + c 1) * s 2 + c 2 = ((plc s c : Nat) : Int) by unfold plc; push_cast; rfl]
 exact q
def cel (x0 x1 x2 : Nat) : Nat -> Nat
 | 0 => x0
 | 1 => x1
 | _ => x2
def zM (s w : Nat -> Nat) : List Int := (List.range (s 0)).flatMap fun x0 => (List.range (s 1)).flatMap fun x1 => (List.range (s 2)).map fun x2 => ((plc (fun i => s (w i)) (fun i => cel x0 x1 x2 (w i)) : Nat) : Int)
def KZ : ASp := fun xs M Q => ∃ (x y : Dat) (s w : Nat -> Nat), xs = [.d x, .d y] /\ j0 x = some (zN s) /\ j0 y = some (zN w) /\ W3 w /\ (∀ i, s i <= 1000) /\ s 0 * (s 1 * s 2) <= 1000 /\ Q (.d (ilD (zM s w))) M
def qN (x0 x1 x2 : Nat) : Dat := .tup (zN (cel x0 x1 x2))
def jy (s : Nat -> Nat) : List Dat := (List.range (s 0)).flatMap fun x0 => (List.range (s 1)).flatMap fun x1 => (List.range (s 2)).map fun x2 => qN x0 x1 x2
def YM (s w : Nat -> Nat) : AV -> AV
 | .d (.tup [.int a, .int b, .int c]) => .d (.int (plc (fun i => s (w i)) (fun i => cel a.toNat b.toNat c.toNat (w i)) : Nat))
 | x => x
abbrev vc : Stmt := top 4
theorem vX : zq ["sizes", "ways", "reached", "cells", "size0", "size1", "size2", "x0", "x1", "x2", "cell"] ["sizes", "ways"] (zf vc) := ⟨rfl, rfl, rfl, by decide +kernel, rfl, by decide +kernel, by decide +kernel⟩
theorem JS (a : At K mg "deep_order" vc) (B : Blt mg) (D_by_ways : Df P w K mg base "by_ways" ["three", "ways"] 1 (cSp yE)) (D_deep_place : Df P w K mg base "deep_place" ["sizes", "cell"] 1 (cSp Vf)) : Df P w K mg base "deep_order" ["sizes", "ways"] 2 (cSp KZ) := by
  refine dfA (k := 1) a vX (fun _ _ _ _ _ _ us hl => match us, hl with | [_, _], _ => rfl) (fun xs M Q h => ?_) (fun f cdv A outer s H E hr => ?_)
  · obtain ⟨_, _, _, _, rfl, _⟩ := h; rfl
  have sc := vX
  have hsl := hsl
  refine ⟨_, (zd (zO (i := 2) sc.nd rfl (by first | exact Or.inl rfl | exact Or.inr rfl) (zh D_by_ways hr rfl (za (pv 0) (za (pv 1) zb))))
    (zd (qz (pv 0) (Ka (K := K) 3 rfl rfl (zC (zn (i := 4) sc.nd rfl (by first | exact Or.inl rfl | exact Or.inr rfl)) (zC (zn (i := 5) sc.nd rfl (by first | exact Or.inl rfl | exact Or.inr rfl)) (zC (zn (i := 6) sc.nd rfl (by first | exact Or.inl rfl | exact Or.inr rfl)) qP)))))
    (zd (yF (j := 3) rfl sc.nd rfl (by first | exact Or.inl rfl | exact Or.inr rfl) (ts := [7, 8, 9]) rfl (zI rfl B.range (za (pv 4) zb)) (fun _ _ _ _ => (zn (i := 7) sc.nd rfl (by first | exact Or.inl rfl | exact Or.inr rfl))) (fun _ _ _ _ => zL) (fun _ _ _ _ _ => (ke rfl rfl (by intro _ e; cases e <;> rfl) (zI rfl B.range (za (pv 5) zb)) (fun _ => rfl) (zn (i := 8) sc.nd rfl (by first | exact Or.inl rfl | exact Or.inr rfl)) zL (ke rfl rfl (by intro _ e; cases e <;> rfl) (zI rfl B.range (za (pv 6) zb)) (fun _ => rfl) (zn (i := 9) sc.nd rfl (by first | exact Or.inl rfl | exact Or.inr rfl)) zL (x5 rfl (qa (za (pv 7) (za (pv 8) (za (pv 9) zb)))) (fun _ _ z => z)) (fun _ _ z => z)) (fun _ _ z => z))))
    (zi (zo (qQ (ts := [10]) rfl rfl (kX (pv 3)) (fun _ _ _ _ => (zn (i := 10) sc.nd rfl (by first | exact Or.inl rfl | exact Or.inr rfl))) (fun _ _ _ _ => zL) (fun _ _ _ _ => (zh D_deep_place hr rfl (za (pv 2) (za (zh D_by_ways hr rfl (za (pv 10) (za (pv 1) zb))) zb)))))))))), ?_⟩
  refine ex2 (by walk_at "sim") ?_
  rintro xs M Q ⟨x, y, s, w, rfl, hx, hy, hw, hb, hsz, q⟩
  rw [show zz ["sizes", "ways", "reached", "cells", "size0", "size1", "size2", "x0", "x1", "x2", "cell"] [.d x, .d y] = [some (.d x), some (.d y), none, none, none, none, none, none, none, none, none] from rfl]
  refine zj fun r hr0 => ?_
  walk_at "ra"
  refine ⟨x, y, s, w, rfl, hx, hy, hw, ?_⟩
  subst hr0
  refine zj fun r hr0 => ?_
  walk_at "ra"
  refine ⟨_, kg hx M, rfl, _, _, rfl, _, _, rfl, _, _, rfl, rfl, ?_⟩
  have b0 := hb 0
  have b1 := hb 1
  have b2 := hb 2
  subst hr0
  refine zj fun r hr0 => ?_
  walk_at "ra"
  refine ⟨by omega, by omega, ?_⟩
  rw [Int.toNat_natCast]
  have e3 : ∀ x0 x1 : Nat, (jA 0 1 (s 2)).flatMap (fun z => [AV.d (qN x0 x1 (qT z).toNat)]) = (List.range (s 2)).map fun x2 => AV.d (qN x0 x1 x2) := fun x0 x1 => by
    rw [qJ (s 2) (fun z => [AV.d (qN x0 x1 z.toNat)]), List.map_eq_flatMap]
    simp only [Int.toNat_natCast]
  have e2 : ∀ x0 : Nat, (jA 0 1 (s 1)).flatMap (fun z => (List.range (s 2)).map fun x2 => AV.d (qN x0 (qT z).toNat x2)) = (List.range (s 1)).flatMap fun x1 => (List.range (s 2)).map fun x2 => AV.d (qN x0 x1 x2) := fun x0 => by
    rw [qJ (s 1) (fun z => (List.range (s 2)).map fun x2 => AV.d (qN x0 z.toNat x2))]
    simp only [Int.toNat_natCast]
  have e1 : (jA 0 1 (s 0)).flatMap (fun z => (List.range (s 1)).flatMap fun x1 => (List.range (s 2)).map fun x2 => AV.d (qN (qT z).toNat x1 x2)) = (jy s).map AV.d := by
    rw [qJ (s 0) (fun z => (List.range (s 1)).flatMap fun x1 => (List.range (s 2)).map fun x2 => AV.d (qN z.toNat x1 x2))]
    unfold jy
    simp only [Int.toNat_natCast, List.map_flatMap, List.map_map]
    rfl
  have l2 : ∀ x0 : Nat, ((List.range (s 1)).flatMap fun x1 => (List.range (s 2)).map fun x2 => AV.d (qN x0 x1 x2)).length <= s 1 * s 2 := fun x0 => by
    have := jz (List.range (s 1)) (fun x1 => (List.range (s 2)).map fun x2 => AV.d (qN x0 x1 x2)) (s 2) fun x _ => by simp
    rwa [List.length_range] at this
  have l1 : ((jy s).map AV.d).length <= 1000 := by
    rw [<- e1, qJ (s 0) (fun z => (List.range (s 1)).flatMap fun x1 => (List.range (s 2)).map fun x2 => AV.d (qN z.toNat x1 x2))]
    have := jz (List.range (s 0)) (fun (z : Nat) => (List.range (s 1)).flatMap fun x1 => (List.range (s 2)).map fun x2 => AV.d (qN ((z : Int)).toNat x1 x2)) (s 1 * s 2) fun x _ => l2 _
    rw [List.length_range] at this
    omega
  refine jj (fun (z : Option AV × Option AV × Option AV) => [some (.d x), some (.d y), some (.d (.tup (zN fun i => s (w i)))), none, some (.d (.int (s 0))), some (.d (.int (s 1))), some (.d (.int (s 2))), z.1, z.2.1, z.2.2, none]) (fun z => (List.range (s 1)).flatMap fun x1 => (List.range (s 2)).map fun x2 => AV.d (qN (qT z).toNat x1 x2)) ⟨(_, _, _), rfl⟩ trivial (by rw [e1]; simp only [List.length_nil]; omega) (fun z a acc N' ha hle q => ?_) fun z => ?_
  · rw [jl] at ha
    obtain ⟨x0, _, rfl⟩ := List.mem_map.mp ha
    simp only [qT, Int.toNat_natCast] at hle q
    walk_at "ra"
    refine ⟨by omega, by omega, ?_⟩
    rw [Int.toNat_natCast]
    refine jj (fun (z : Option AV × Option AV) => [some (.d x), some (.d y), some (.d (.tup (zN fun i => s (w i)))), none, some (.d (.int (s 0))), some (.d (.int (s 1))), some (.d (.int (s 2))), some (.d (.int x0)), z.1, z.2, none]) (fun z => (List.range (s 2)).map fun x2 => AV.d (qN x0 (qT z).toNat x2)) ⟨(_, _), rfl⟩ trivial (by rw [e2]; exact hle) (fun z a acc N' ha hle q => ?_) fun z => by rw [e2]; exact q (_, _, _)
    rw [jl] at ha
    obtain ⟨x1, _, rfl⟩ := List.mem_map.mp ha
    simp only [qT, Int.toNat_natCast] at hle q
    walk_at "ra"
    refine ⟨by omega, by omega, ?_⟩
    rw [Int.toNat_natCast]
    refine jj (fun (z : Option AV) => [some (.d x), some (.d y), some (.d (.tup (zN fun i => s (w i)))), none, some (.d (.int (s 0))), some (.d (.int (s 1))), some (.d (.int (s 2))), some (.d (.int x0)), some (.d (.int x1)), z, none]) (fun z => [AV.d (qN x0 x1 (qT z).toNat)]) ⟨_, rfl⟩ trivial (by rw [e3]; exact hle) (fun z a acc N' ha hle q => ?_) fun z => by rw [e3]; exact q (_, _)
    rw [jl] at ha
    obtain ⟨x2, _, rfl⟩ := List.mem_map.mp ha
    simp only [qT, Int.toNat_natCast, List.length_cons, List.length_nil] at hle q
    walk_at "ra"
    exact ⟨by omega, by omega, q _⟩
  rw [e1]
  refine ⟨_, z0 _, ?_⟩
  subst hr0
  walk_at "ra"
  refine vL (fun o => [some (.d x), some (.d y), some (.d (.tup (zN fun i => s (w i)))), some (.d (.lst (jy s))), some (.d (.int (s 0))), some (.d (.int (s 1))), some (.d (.int (s 2))), none, none, none, o]) (YM s w) ⟨_, rfl⟩ trivial (by omega) (fun o z Q hz q => ?_) fun o => ?_
  · obtain ⟨d, hd, rfl⟩ := List.mem_map.mp hz
    unfold jy at hd
    obtain ⟨x0, _, hd⟩ := List.mem_flatMap.mp hd
    obtain ⟨x1, _, hd⟩ := List.mem_flatMap.mp hd
    obtain ⟨x2, _, rfl⟩ := List.mem_map.mp hd
    have q := q (some (.d (qN x0 x1 x2)))
    rw [show YM s w (.d (qN x0 x1 x2)) = .d (.int (plc (fun i => s (w i)) (fun i => cel x0 x1 x2 (w i)) : Nat)) by
      show AV.d (.int (plc (fun i => s (w i)) (fun i => cel ((x0 : Nat) : Int).toNat ((x1 : Nat) : Int).toNat ((x2 : Nat) : Int).toNat (w i)) : Nat)) = _
      simp only [Int.toNat_natCast]] at q
    walk_at "ra"
    exact ⟨qN x0 x1 x2, y, cel x0 x1 x2, w, rfl, rfl, hy, hw, _, _, (fun i => s (w i)), (fun i => cel x0 x1 x2 (w i)), rfl, rfl, rfl, (fun i => Nat.le_trans (hb (w i)) (by omega)), q⟩
  · rw [show ((jy s).map AV.d).map (YM s w) = (zM s w).map fun i => AV.d (.int i) by
      unfold jy zM
      simp only [List.map_flatMap, List.map_map]
      refine congrArg (fun g => (List.range (s 0)).flatMap g) (funext fun x0 => congrArg (fun g => (List.range (s 1)).flatMap g) (funext fun x1 => List.map_congr_left fun x2 _ => ?_))
      show AV.d (.int (plc (fun i => s (w i)) (fun i => cel ((x0 : Nat) : Int).toNat ((x1 : Nat) : Int).toNat ((x2 : Nat) : Int).toNat (w i)) : Nat)) = _
      simp only [Int.toNat_natCast]
      rfl]
    exact ⟨_, zA _, jx Fr.refl q⟩
def kS (m f : Nat) : List Int := (List.range (2 * m)).map fun (j : Nat) => if j % 2 = f then ((j / 2 : Nat) : Int) else ((m + j / 2 : Nat) : Int)
def qU (m f : Nat) : List Int := (List.range (2 * m)).map fun (i : Nat) => if i < m then ((2 * i + f : Nat) : Int) else ((2 * (i - m) + 1 - f : Nat) : Int)
theorem qs (m f : Nat) : (kS m f).length = 2 * m := by simp [kS]
theorem zS (m f : Nat) : (qU m f).length = 2 * m := by simp [qU]
theorem jC {m f j : Nat} (h : j < 2 * m) : (kS m f).getD j 0 = if j % 2 = f then ((j / 2 : Nat) : Int) else ((m + j / 2 : Nat) : Int) := by
 rw [qo (by rw [qs]; exact h)]; simp [kS]
theorem qB {m f i : Nat} (h : i < 2 * m) : (qU m f).getD i 0 = if i < m then ((2 * i + f : Nat) : Int) else ((2 * (i - m) + 1 - f : Nat) : Int) := by
 rw [qo (by rw [zS]; exact h)]; simp [qU]
theorem xy {m f : Nat} (hf : f < 2) : kn (kS m f) (qU m f) := by
 refine ⟨by rw [qs, zS], fun j hj => ?_⟩
 rw [qs] at hj
 rw [jC hj]
 by_cases e : j % 2 = f
 ·rw [if_pos e, Int.toNat_natCast, qB (by omega), if_pos (by omega)]
  omega
 ·rw [if_neg e, Int.toNat_natCast, qB (by omega), if_neg (by omega)]
  omega
theorem jh {m f : Nat} (hf : f < 2) : kn (qU m f) (kS m f) := by
 refine ⟨by rw [qs, zS], fun i hi => ?_⟩
 rw [zS] at hi
 rw [qB hi]
 by_cases e : i < m
 ·rw [if_pos e, Int.toNat_natCast, jC (by omega), if_pos (by omega)]
  omega
 ·rw [if_neg e, Int.toNat_natCast, jC (by omega), if_neg (by omega)]
  omega
theorem Vm {m f : Nat} (hf : f < 2) : qI (2 * m) (kS m f) := by
 refine yL (qs m f) (fun i hi => ?_) (fun i k hi hk e => ?_)
 ·rw [jC hi]; split <;> omega
 ·have h1 := (xy (m := m) hf).2 i (by rw [qs]; exact hi)
  have h2 := (xy (m := m) hf).2 k (by rw [qs]; exact hk)
  rw [e, h2] at h1
  omega
theorem kx {m f : Nat} (hf : f < 2) : qI (2 * m) (qU m f) := by
 refine yL (zS m f) (fun i hi => ?_) (fun i k hi hk e => ?_)
 ·rw [qB hi]; split <;> omega
 ·have h1 := (jh (m := m) hf).2 i (by rw [zS]; exact hi)
  have h2 := (jh (m := m) hf).2 k (by rw [zS]; exact hk)
  rw [e, h2] at h1
  omega
theorem zx {α β : Type} {l : List α} {f g : α -> List β} (h : ∀ x ∈ l, f x = g x) : l.flatMap f = l.flatMap g := by
 induction l with
 | nil => rfl
 | cons a r ih => rw [List.flatMap_cons, List.flatMap_cons, h a (by simp), ih fun x hx => h x (by simp [hx])]
theorem zH {i j c : Nat} (h : j < c) : (i * c + j) % c = j /\ (i * c + j) / c = i := by
 constructor
 ·rw [Nat.add_comm, Nat.add_mul_mod_self_right, Nat.mod_eq_of_lt h]
 ·rw [Nat.add_comm, Nat.add_mul_div_right _ _ (by omega), Nat.div_eq_of_lt h, Nat.zero_add]
theorem zU (r c : Nat) : zw r c = (List.range r).flatMap fun i => (List.range c).map fun j => ((j * r + i : Nat) : Int) := by
 unfold zw
 rw [qG, List.map_flatMap]
 refine zx fun i _ => ?_
 rw [List.map_map]
 refine List.map_congr_left fun j hj => ?_
 rw [List.mem_range] at hj
 show ((( (i * c + j) % c * r + (i * c + j) / c : Nat)) : Int) = _
 rw [(zH hj).1, (zH hj).2]
theorem qH (m f : Nat) : kJ m f = qU m f := by
 unfold kJ qU
 rw [show 2 * m = m + m by omega, List.range_add, List.map_append, List.map_map]
 congr 1
 ·refine List.map_congr_left fun i hi => ?_
  rw [List.mem_range] at hi
  rw [if_pos hi]
 ·refine List.map_congr_left fun i hi => ?_
  show _ = if m + i < m then _ else _
  rw [if_neg (by omega), show m + i - m = i by omega]
theorem Ky {f : Nat -> Int} {n p : Nat} (h : p < n) : ((List.range n).map f).getD p 0 = f p := by
 rw [List.getD_eq_getElem?_getD, List.getElem?_map, List.getElem?_range h]; rfl
theorem Qi (m : Nat) : qU m 0 = zw 2 m := by
 unfold qU zw
 refine List.map_congr_left fun p hp => ?_
 rw [List.mem_range] at hp
 by_cases c : p < m
 ·rw [if_pos c, Nat.mod_eq_of_lt c, Nat.div_eq_of_lt c]; omega
 ·rw [if_neg c]
  have := zH (i := 1) (j := p - m) (c := m) (by omega)
  rw [show 1 * m + (p - m) = p by omega] at this
  rw [this.1, this.2]; omega
theorem wY (m : Nat) : kS m 0 = zw m 2 := by
 unfold kS zw
 rw [show m * 2 = 2 * m by omega]
 refine List.map_congr_left fun p hp => ?_
 by_cases c : p % 2 = 0
 ·rw [if_pos c, c]; omega
 ·rw [if_neg c, show p % 2 = 1 by omega]; omega
theorem ZQ (m : Nat) : qU m 1 = j4 (jU (2 * m) 0 m (2 * m)) (qU m 0) := by
  unfold j4 jU
  rw [List.map_map]
  conv => lhs; unfold qU
  refine List.map_congr_left fun p hp => ?_
  rw [List.mem_range] at hp
  show _ = (qU m 0).getD (((if 0 <= p /\ p < 2 * m then 0 + (p - 0 + (2 * m - m)) % (2 * m - 0) else p : Nat) : Int)).toNat 0
  have e0 : (if 0 <= p /\ p < 2 * m then 0 + (p - 0 + (2 * m - m)) % (2 * m - 0) else p) = (p + m) % (2 * m) := by
    rw [if_pos ⟨Nat.zero_le _, hp⟩, Nat.zero_add]; congr 1; omega
  rw [e0, Int.toNat_natCast]
  by_cases c : p < m
  · rw [if_pos c, Nat.mod_eq_of_lt (by omega), qB (by omega), if_neg (by omega)]; omega
  · rw [if_neg c, show (p + m) % (2 * m) = p - m by
      have := zH (i := 1) (j := p - m) (c := 2 * m) (by omega)
      rw [show 1 * (2 * m) + (p - m) = p + m by omega] at this
      exact this.1, qB (by omega), if_pos (by omega)]; omega
theorem Zy {n k : Nat} (h : k <= n) : qe n k = jU n 0 (n - k) n := by
 unfold qe jU
 refine List.map_congr_left fun p hp => ?_
 rw [List.mem_range] at hp
 rw [if_pos ⟨Nat.zero_le _, hp⟩, show 0 + (p - 0 + (n - (n - k))) % (n - 0) = (p + k) % n by rw [Nat.zero_add]; congr 1; omega]
 push_cast; rfl
theorem wQ (n : Nat) (k : Int) : qe n (k - n) = qe n k := by
 unfold qe
 refine List.map_congr_left fun p _ => ?_
 show ((p : Int) + (k - n)) % n = ((p : Int) + k) % n
 rw [show (p : Int) + (k - n) = (p + k) - n by omega, Int.sub_emod_right]
theorem Zj (r c : Nat) : j4 (zw r c) (zw c r) = qR 0 1 (r * c) := by
 rw [Q3, qG, List.map_flatMap, j4, zU r c, List.map_flatMap]
 refine zx fun i hi => ?_
 rw [List.mem_range] at hi
 rw [List.map_map, List.map_map]
 refine List.map_congr_left fun j hj => ?_
 rw [List.mem_range] at hj
 show (zw c r).getD (((j * r + i : Nat) : Int)).toNat 0 = ((i * c + j : Nat) : Int)
 have hlt : j * r + i < c * r := by have : (j + 1) * r <= c * r := Nat.mul_le_mul_right r hj; rw [Nat.add_mul, Nat.one_mul] at this; omega
 rw [Int.toNat_natCast]
 unfold zw
 rw [Ky hlt, (zH hi).1, (zH hi).2]
theorem wG {r c i j : Nat} (hi : i < r) (hj : j < c) : (zw r c).getD (i * c + j) 0 = ((j * r + i : Nat) : Int) := by
 have hlt : i * c + j < r * c := by have : (i + 1) * c <= r * c := Nat.mul_le_mul_right c hi; rw [Nat.add_mul, Nat.one_mul] at this; omega
 unfold zw
 rw [Ky hlt, (zH hj).1, (zH hj).2]
def jY (r c b : Nat) : List Int := (List.range (r * c)).map fun (p : Nat) => ((p / r * r + (p % r + b) % r : Nat) : Int)
theorem Zh (r c b : Nat) : j4 (qe (r * c) ((c * b : Nat) : Int)) (zw r c) = j4 (zw r c) (jY r c b) := by
 unfold j4
 rw [zU r c, List.map_flatMap]
 unfold qe
 rw [qG, List.map_flatMap, List.map_flatMap]
 refine zx fun i hi => ?_
 rw [List.mem_range] at hi
 rw [List.map_map, List.map_map, List.map_map]
 refine List.map_congr_left fun j hj => ?_
 rw [List.mem_range] at hj
 have hr : 0 < r := by omega
 show ((List.range r).flatMap fun i => (List.range c).map fun j => ((j * r + i : Nat) : Int)).getD ((((i * c + j : Nat) : Int) + ((c * b : Nat) : Int)) % ((r * c : Nat) : Int)).toNat 0 = (jY r c b).getD (((j * r + i : Nat) : Int)).toNat 0
 rw [<- zU, show (((i * c + j : Nat) : Int) + ((c * b : Nat) : Int)) % ((r * c : Nat) : Int) = (((i * c + j + c * b) % (r * c) : Nat) : Int) by push_cast; rfl, Int.toNat_natCast, Int.toNat_natCast]
 have e1 : i * c + j + c * b = (i + b) * c + j := by rw [Nat.add_mul, Nat.mul_comm c b]; omega
 have e2 : ((i + b) * c + j) % (r * c) = (i + b) % r * c + j := by
  rw [Nat.mul_comm r c, Nat.mod_mul, (zH hj).1, (zH hj).2, Nat.mul_comm c, Nat.add_comm]
 rw [e1, e2, wG (Nat.mod_lt _ hr) hj]
 have hlt : j * r + i < r * c := by have : (j + 1) * r <= c * r := Nat.mul_le_mul_right r hj; rw [Nat.add_mul, Nat.one_mul, Nat.mul_comm c r] at this; omega
 unfold jY
 rw [Ky hlt, (zH hi).1, (zH hi).2]
def wy (a b c : Nat) : Nat -> Nat := cel a b c
theorem wI (a b c : Nat) : qx a b c 1 = (List.range a).flatMap fun x0 => (List.range b).flatMap fun x1 => (List.range c).map fun x2 => (((x0 * c + x2) * b + x1 : Nat) : Int) := by
 unfold qx
 have : ∀ l : List Int, (l.flatMap fun cell => (List.range 1).map fun (k : Nat) => cell * ((1 : Nat) : Int) + (k : Int)) = l := fun l => by
  induction l with
  | nil => rfl
  | cons x r ih => rw [List.flatMap_cons, ih]; simp
 rw [this, zU]
 refine zx fun x0 _ => ?_
 rw [List.map_flatMap]
 refine zx fun x1 _ => ?_
 rw [List.map_map]
 refine List.map_congr_left fun x2 _ => ?_
 show (x0 : Int) * ((b * c : Nat) : Int) + ((x2 * b + x1 : Nat) : Int) = _
 rw [show (x0 * c + x2) * b + x1 = x0 * (b * c) + (x2 * b + x1) by grind]
 push_cast; rfl
theorem Zp (a b c : Nat) : qx 1 a b c = (List.range a).flatMap fun x0 => (List.range b).flatMap fun x1 => (List.range c).map fun x2 => (((x1 * a + x0) * c + x2 : Nat) : Int) := by
 unfold qx
 rw [show List.range 1 = [0] from rfl, List.flatMap_cons, List.flatMap_nil, List.append_nil, zU, List.map_flatMap, List.flatMap_assoc]
 refine zx fun x0 _ => ?_
 rw [List.map_map, List.flatMap_map]
 refine zx fun x1 _ => ?_
 refine List.map_congr_left fun x2 _ => ?_
 show (((0 : Nat) : Int) * ((a * b : Nat) : Int) + ((x1 * a + x0 : Nat) : Int)) * (c : Int) + (x2 : Int) = _
 push_cast
 rw [Int.zero_mul, Int.zero_add]
theorem QN (a b c : Nat) : zM (cel a b c) (wy 0 2 1) = qx a b c 1 := by rw [wI]; rfl
theorem Jw (a b c : Nat) : zM (cel a b c) (wy 1 0 2) = qx 1 a b c := by rw [Zp]; rfl
theorem Q5 (a b c : Nat) : zM (cel a b c) (wy 1 2 0) = zw a (b * c) := by
 rw [zU]
 show (List.range a).flatMap _ = _
 refine zx fun x0 _ => ?_
 rw [qG, List.map_flatMap]
 refine zx fun x1 _ => ?_
 rw [List.map_map]
 rfl
theorem Q8 (a b c : Nat) : zM (cel a b c) (wy 2 0 1) = zw (a * b) c := by
 rw [zU, qG, List.flatMap_assoc]
 show (List.range a).flatMap _ = _
 refine zx fun x0 _ => ?_
 rw [List.flatMap_map]
 refine zx fun x1 _ => ?_
 refine List.map_congr_left fun x2 _ => ?_
 show (((x2 * a + x0) * b + x1 : Nat) : Int) = ((x2 * (a * b) + (x0 * b + x1) : Nat) : Int)
 rw [show (x2 * a + x0) * b + x1 = x2 * (a * b) + (x0 * b + x1) by grind]
theorem jN {α β : Type} (l : List α) (g : α -> List β) (k : Nat) (h : ∀ x ∈ l, (g x).length = k) : (l.flatMap g).length = l.length * k := by
 induction l with
 | nil => simp
 | cons a r ih => rw [List.flatMap_cons, List.length_append, List.length_cons, Nat.succ_mul, h a (by simp), ih fun x hx => h x (by simp [hx])]; omega
theorem y4 {a m : Nat} {g : Nat -> List Int} (hg : ∀ i, i < a -> (g i).length = m) {i j : Nat} (hi : i < a) (hj : j < m) : ((List.range a).flatMap g).getD (i * m + j) 0 = (g i).getD j 0 := by
 induction a with
 | zero => omega
 | succ a ih =>
  have hlen : ((List.range a).flatMap g).length = a * m := by
   have : ∀ k, k <= a -> ((List.range k).flatMap g).length = k * m := fun k => by
    induction k with
    | zero => intro _; simp
    | succ k ih2 => intro hk; rw [List.range_succ, List.flatMap_append, List.length_append, ih2 (by omega), Nat.succ_mul]; simp [hg k (by omega)]
   exact this a (Nat.le_refl _)
  rw [List.range_succ, List.flatMap_append, List.getD_eq_getElem?_getD]
  by_cases c : i < a
  ·have : i * m + j < a * m := by have : (i + 1) * m <= a * m := Nat.mul_le_mul_right m c; rw [Nat.add_mul, Nat.one_mul] at this; omega
   rw [List.getElem?_append_left (by rw [hlen]; exact this), <- List.getD_eq_getElem?_getD]
   exact ih (fun i h => hg i (by omega)) c
  ·obtain rfl : i = a := by omega
   rw [List.getElem?_append_right (by rw [hlen]; omega), hlen, show i * m + j - i * m = j by omega]
   simp [List.getD_eq_getElem?_getD]
theorem qK (s w : Nat -> Nat) : (zM s w).length = s 0 * (s 1 * s 2) := by
 unfold zM
 have h1 : ∀ x0, ((List.range (s 1)).flatMap fun x1 => (List.range (s 2)).map fun x2 => ((plc (fun i => s (w i)) (fun i => cel x0 x1 x2 (w i)) : Nat) : Int)).length = s 1 * s 2 := fun x0 => by
  rw [jN _ _ (s 2) fun x _ => by simp, List.length_range]
 rw [jN _ _ (s 1 * s 2) fun x _ => h1 x, List.length_range]
theorem Qg {s w : Nat -> Nat} {y0 y1 y2 : Nat} (h0 : y0 < s 0) (h1 : y1 < s 1) (h2 : y2 < s 2) : (zM s w).getD (plc s (cel y0 y1 y2)) 0 = ((plc (fun i => s (w i)) (fun i => cel y0 y1 y2 (w i)) : Nat) : Int) := by
 have hl : ∀ x0, ((List.range (s 1)).flatMap fun x1 => (List.range (s 2)).map fun x2 => ((plc (fun i => s (w i)) (fun i => cel x0 x1 x2 (w i)) : Nat) : Int)).length = s 1 * s 2 := fun x0 => by
  rw [jN _ _ (s 2) fun x _ => by simp, List.length_range]
 have e : plc s (cel y0 y1 y2) = y0 * (s 1 * s 2) + (y1 * s 2 + y2) := by show (y0 * s 1 + y1) * s 2 + y2 = _; grind
 have hlt : y1 * s 2 + y2 < s 1 * s 2 := by have : (y1 + 1) * s 2 <= s 1 * s 2 := Nat.mul_le_mul_right _ h1; rw [Nat.add_mul, Nat.one_mul] at this; omega
 unfold zM
 rw [e, y4 (m := s 1 * s 2) (fun i _ => hl i) h0 hlt, y4 (m := s 2) (fun i _ => by simp) h1 h2, Ky h2]
theorem vt {s s' c c' : Nat -> Nat} (h1 : ∀ i, i < 3 -> s i = s' i) (h2 : ∀ i, i < 3 -> c i = c' i) : plc s c = plc s' c' := by
 unfold plc
 rw [h1 1 (by omega), h1 2 (by omega), h2 0 (by omega), h2 1 (by omega), h2 2 (by omega)]
theorem QQ {s : Nat -> Nat} {x0 x1 x2 : Nat} (h0 : x0 < s 0) (h1 : x1 < s 1) (h2 : x2 < s 2) {k : Nat} (hk : k < 3) : cel x0 x1 x2 k < s k := by
 match k, hk with
 | 0, _ => exact h0
 | 1, _ => exact h1
 | 2, _ => exact h2
theorem vE (f : Nat -> Nat) {k : Nat} (hk : k < 3) : cel (f 0) (f 1) (f 2) k = f k := by
 match k, hk with
 | 0, _ => rfl
 | 1, _ => rfl
 | 2, _ => rfl
theorem W3.at {w : Nat -> Nat} (h : W3 w) {k : Nat} (hk : k < 3) : w k < 3 := by
 match k, hk with
 | 0, _ => exact h.1
 | 1, _ => exact h.2.1
 | 2, _ => exact h.2.2
theorem Zf {s w o : Nat -> Nat} (hw : W3 w) (ho : W3 o) : j4 (zM s w) (zM (fun i => s (w i)) o) = zM s fun i => w (o i) := by
 conv => lhs; unfold j4; arg 2; unfold zM
 rw [List.map_flatMap]
 refine zx fun x0 h0 => ?_
 rw [List.map_flatMap]
 refine zx fun x1 h1 => ?_
 rw [List.map_map]
 refine List.map_congr_left fun x2 h2 => ?_
 rw [List.mem_range] at h0 h1 h2
 have b : ∀ k, k < 3 -> cel x0 x1 x2 (w k) < s (w k) := fun k hk => QQ h0 h1 h2 (hw.at hk)
 show (zM (fun i => s (w i)) o).getD (((plc (fun i => s (w i)) (fun i => cel x0 x1 x2 (w i)) : Nat) : Int)).toNat 0 = _
 rw [Int.toNat_natCast, vt (s := fun i => s (w i)) (s' := fun i => s (w i)) (c' := cel (cel x0 x1 x2 (w 0)) (cel x0 x1 x2 (w 1)) (cel x0 x1 x2 (w 2))) (fun _ _ => rfl) fun i hi => (vE (fun i => cel x0 x1 x2 (w i)) hi).symm, Qg (b 0 (by omega)) (b 1 (by omega)) (b 2 (by omega))]
 congr 1
 exact vt (fun _ _ => rfl) fun i hi => vE (fun i => cel x0 x1 x2 (w i)) (ho.at hi)
theorem QU {s w : Nat -> Nat} (hw : W3 w) {p : Int} (h : p ∈ zM s w) : 0 <= p /\ p < ((s (w 0) * (s (w 1) * s (w 2)) : Nat) : Int) := by
 unfold zM at h
 obtain ⟨x0, h0, h⟩ := List.mem_flatMap.mp h
 obtain ⟨x1, h1, h⟩ := List.mem_flatMap.mp h
 obtain ⟨x2, h2, rfl⟩ := List.mem_map.mp h
 rw [List.mem_range] at h0 h1 h2
 refine ⟨Int.natCast_nonneg _, Int.ofNat_lt.mpr ?_⟩
 have b : ∀ k, k < 3 -> cel x0 x1 x2 (w k) < s (w k) := fun k hk => QQ h0 h1 h2 (hw.at hk)
 have b0 := b 0 (by omega)
 have b1 := b 1 (by omega)
 have b2 := b 2 (by omega)
 show (cel x0 x1 x2 (w 0) * s (w 1) + cel x0 x1 x2 (w 1)) * s (w 2) + cel x0 x1 x2 (w 2) < _
 have e1 : (cel x0 x1 x2 (w 0) + 1) * s (w 1) <= s (w 0) * s (w 1) := Nat.mul_le_mul_right _ b0
 rw [Nat.add_mul, Nat.one_mul] at e1
 have e2 : (cel x0 x1 x2 (w 0) * s (w 1) + cel x0 x1 x2 (w 1) + 1) * s (w 2) <= s (w 0) * s (w 1) * s (w 2) := Nat.mul_le_mul_right _ (by omega)
 rw [Nat.add_mul, Nat.one_mul, Nat.mul_assoc (s (w 0))] at e2
 omega
theorem xu {n : Nat} {os bs bs' : List Int} (ho : qI n os) (h : kn os bs) (h' : kn os bs') : bs = bs' := by
 have h1 := ho.1
 refine List.ext_getElem (by rw [h.1, h'.1]) fun i hi hi' => ?_
 obtain ⟨j, hj, e⟩ := ho.ex (j := i) (by rw [h.1] at hi; omega)
 have a := h.2 j (by omega)
 have b := h'.2 j (by omega)
 rw [e, Int.toNat_natCast, qo (by omega)] at a b
 exact a.trans b.symm
def Qk (K : PySem.W.Frag) : ASp := fun xs M Q => ∃ (m : Int) (ns : List Int), xs = [.d (.scr K ns), .d (.int m)] /\ 0 < m /\ m <= 60 /\ ns.length <= 63 /\ ∀ p M' (bs : List Addr), Fr M M' -> M p = none -> M' p = some (.lst (bs.map AV.ref)) -> bs.Nodup -> (∀ b ∈ bs, BxM M' b 0 /\ b ≠ p /\ M b = none) -> bs.length <= 1000 -> Q (.ref p) M'
abbrev xH : Stmt := top 27
theorem yq : zq ["_law_script", "_law_many", "_law_cells", "_law_k"] ["_law_script", "_law_many"] (zf xH) := ⟨rfl, rfl, rfl, by decide +kernel, rfl, by decide +kernel, by decide +kernel⟩
theorem ZU (a : At K mg "_law_boxes" xH) (B : Blt mg) (D_law_folded : Df P w K mg base "_law_folded" ["_law_script", "_law_many"] 1 (cSp (wm K))) (D_law_box : Df P w K mg base "_law_box" ["_law_script", "_law_k"] 1 (cSp VC)) : Df P w K mg base "_law_boxes" ["_law_script", "_law_many"] 2 (cSp (Qk K)) := by
 refine dfA (k := 1) a yq (fun _ _ _ _ _ _ us hl => match us, hl with | [_, _], _ => rfl) (fun xs M Q h => ?_) (fun f cdv A outer s H E hr => ?_)
 ·obtain ⟨_, _, rfl, _⟩ := h; rfl
 have sc := yq
 have hsl := hsl
 refine ⟨_, (zd (zO (i := 2) sc.nd rfl (by first | exact Or.inl rfl | exact Or.inr rfl) (zh D_law_folded hr rfl (za (pv 0) (za (pv 1) zb))))
  (zi (zo (x8 (qQ (ts := [3]) rfl rfl (zI rfl B.range (za (zW (Zm rfl) rfl B.max Xe (za zc (za (zW zX rfl B.len kz (za (pv 2) zb)) zb))) zb)) (fun _ _ _ _ => (zn (i := 3) sc.nd rfl (by first | exact Or.inl rfl | exact Or.inr rfl))) (fun _ _ _ _ => zL) (fun _ _ _ _ => (zh D_law_box hr rfl (za (pv 2) (za (pv 3) zb))))))))), ?_⟩
 refine ex2 (by walk_at "sim") ?_
 rintro xs M Q ⟨m, ns, rfl, h1, h2, hn, q⟩
 rw [show zz ["_law_script", "_law_many", "_law_cells", "_law_k"] [.d (.scr K ns), .d (.int m)] = [some (.d (.scr K ns)), some (.d (.int m)), none, none] from rfl]
 refine zj fun r hr0 => ?_
 walk_at "ra"
 refine ⟨m, ns, rfl, h1, h2, hn, fun cs lc => ?_⟩
 subst hr0
 walk_at "ra"
 obtain ⟨z, hz, hz'⟩ : ∃ z : Nat, (if (cs.length : Int) > 1 then (cs.length : Int) else 1) = (z : Int) /\ z <= 1000 := by
  split
  ·exact ⟨cs.length, rfl, by omega⟩
  ·exact ⟨1, rfl, by omega⟩
 rw [hz, Int.toNat_natCast]
 refine ⟨by omega, by omega, ?_⟩
 refine ⟨fun i acc ρ M' => ∃ u bs, ρ = [some (.d (.scr K ns)), some (.d (.int m)), some (.d (ilD cs)), u] /\ acc = bs.map AV.ref /\ bs.length = i /\ bs.Nodup /\ Fr M M' /\ (∀ q o, M' q = some o -> M q = some o \/ q ∈ bs) /\ ∀ b ∈ bs, BxM M' b 0 /\ M b = none, ⟨none, [], rfl, rfl, rfl, List.nodup_nil, Fr.refl, (fun q o e => .inl e), fun b hb => nomatch hb⟩, ?_, ?_⟩
 ·rintro i y acc ρ M' hy ⟨u, bs, rfl, rfl, lb, nd, f, ho, hb⟩
  obtain ⟨hi, rfl⟩ := kI hy
  refine ⟨trivial, ?_⟩
  walk_at "ra"
  refine ⟨_, _, cs, rfl, JQ _ _, by omega, by omega, by omega, fun b o hbn bx => ⟨by omega, bs ++ [b], by rw [List.map_append]; rfl, by rw [List.length_append, lb]; rfl, ?_, f.mup (f.non hbn) o, (fun q o' e => ?_), fun x hx => ?_⟩⟩
  ·refine List.nodup_append.mpr ⟨nd, by simp, fun x hx y hy e => ?_⟩
   rw [List.mem_singleton.mp hy] at e
   exact (hb x hx).1.ne (by rw [e]; exact hbn)
  ·by_cases c : q = b
   ·exact .inr (by simp [c])
   ·rw [zB c] at e
    exact (ho q o' e).imp (fun z => z) (fun z => by simp [z])
  ·rcases List.mem_append.mp hx with hx | hx
   ·exact ⟨(hb x hx).1.put (fun z => (hb x hx).1.ne (by rw [z]; exact hbn)) o, (hb x hx).2⟩
   ·rw [List.mem_singleton.mp hx]; exact ⟨bx, f.non hbn⟩
 ·rintro acc ρ M' ⟨u, bs, rfl, rfl, lb, nd, f, ho, hb⟩
  rw [jd] at lb
  refine ⟨trivial, fun p hp hp' => ?_⟩
  have hbp : ∀ b ∈ bs, b ≠ p := fun b h z => (hb b h).1.ne (by rw [z]; exact hp')
  refine ⟨.ref p, mup M' p (.lst (bs.map AV.ref)), ⟨fun _ => .inl rfl, fun q' o e => ?_, .inl ⟨rfl, fun p' z => by cases z; rw [zm]; exact fun z => nomatch z⟩⟩, q p _ bs (f.mup hp _) hp zm nd (fun b h => ⟨(hb b h).1.put (hbp b h) _, hbp b h, (hb b h).2⟩) (by omega)⟩
  by_cases c : q' = p
  ·rw [c, zm] at e
   cases e
   refine .inr fun r hr => ?_
   obtain ⟨b, hb', e2⟩ := List.mem_map.mp (show AV.ref r ∈ bs.map AV.ref from hr)
   cases e2
   rw [zB (hbp r hb')]
   exact (hb r hb').1.ne
  ·rw [zB c] at e
   rcases ho q' o e with z | z
   ·exact .inl z
   ·exact .inr fun r hr => absurd hr ((hb q' z).1.refs e r)
def vP : ASp := fun xs M Q => ∃ (b : Addr) (N : Nat), xs = [.ref b, .d (.int 400)] /\ BxM M b N /\ N < 100000 /\ ∀ (r c : Nat) M', BxS M M' b (N + 4) -> 1 <= r -> 1 <= c -> r * c <= 400 -> r <= 400 -> c <= 400 -> Q (.d (.tup [.int r, .int c])) M'
abbrev Qp : Stmt := top 28
theorem Qq : zq ["_law_box_here", "_law_most", "_law_rows"] ["_law_box_here", "_law_most"] (zf Qp) := ⟨rfl, rfl, rfl, by decide +kernel, rfl, by decide +kernel, by decide +kernel⟩
theorem XE (a : At K mg "_law_table_sizes" Qp) (B : Blt mg) (D_law_take : Df P w K mg base "_law_take" ["_law_box_here", "_law_many"] 1 (cSp xa)) : Df P w K mg base "_law_table_sizes" ["_law_box_here", "_law_most"] 2 (cSp vP) := by
 refine dfA (k := 1) a Qq (fun _ _ _ _ _ _ us hl => match us, hl with | [_, _], _ => rfl) (fun xs M Q h => ?_) (fun f cdv A outer s H E hr => ?_)
 ·obtain ⟨_, _, rfl, _⟩ := h; rfl
 have sc := Qq
 have hsl := hsl
 refine ⟨_, (zd (qk (zE (jv hr.units) (zh D_law_take hr rfl (za (pv 0) (za zc zb))) zc (zD _)) (zd (zO (i := 2) sc.nd rfl (by first | exact Or.inl rfl | exact Or.inr rfl) (zg zv zc (zh D_law_take hr rfl (za (pv 0) (za (zQ jr (js (za zc (za (pv 1) zb))) (zh D_law_take hr rfl (za (pv 0) (za zc zb))) (fun _ _ => rfl)) zb)))))
  (zi (zo (qa (za (pv 2) (za (zg zv zc (zh D_law_take hr rfl (za (pv 0) (za (zg ka (pv 1) (pv 2)) zb)))) zb)))))) zK)
  (zi (zo (qa (za (zg zv zc (zh D_law_take hr rfl (za (pv 0) (za zc zb)))) (za (zg zv zc (zh D_law_take hr rfl (za (pv 0) (za zc zb)))) zb)))))), ?_⟩
 refine ex2 (by walk_at "sim") ?_
 rintro xs M Q ⟨b, N, rfl, hb, hN, q⟩
 rw [show zz ["_law_box_here", "_law_most", "_law_rows"] [.ref b, .d (.int 400)] = [some (.ref b), some (.d (.int 400)), none] from rfl]
 refine zj fun r hr0 => ?_
 walk_at "ra"
 have sb := SB.refl hb
 refine ⟨b, 6, N, rfl, hb, by omega, by omega, by omega, fun c1 M1 s1 c10 c11 => ⟨_, rfl, by rw [jI]; omega, ?_⟩⟩
 have sb := sb.go s1
 rw [xX]
 by_cases c : c1 = 0
 ·rw [if_pos (decide_eq_true c)]
  refine ⟨by omega, b, 2, _, rfl, sb.bx, by omega, by omega, by omega, fun c2 M2 s2 c20 c21 => ⟨c2, rfl, ?_⟩⟩
  have sb := sb.go s2
  obtain ⟨t, ht, ht1, ht2⟩ : ∃ t : Int, atI [AV.d (Dat.int 20), AV.d (Dat.int 400)] c2 = some (.d (.int t)) /\ 20 <= t /\ t <= 400 := by
   obtain ⟨d, hd, e⟩ := Vd (l := [Dat.int 20, Dat.int 400]) c20 c21
   simp only [List.mem_cons, List.not_mem_nil, or_false] at hd
   rcases hd with rfl | rfl
   ·exact ⟨20, e, by omega, by omega⟩
   ·exact ⟨400, e, by omega, by omega⟩
  refine ⟨_, ht, b, t, _, rfl, sb.bx, by omega, by omega, by omega, fun c3 M3 s3 c30 c31 => ?_⟩
  have sb := sb.go s3
  obtain ⟨k, rfl⟩ : ∃ k : Nat, c3 = k := ⟨c3.toNat, by omega⟩
  have e0 : (400 : Int) / (1 + (k : Int)) = ((400 / (1 + k) : Nat) : Int) := by push_cast; rfl
  have h1 : 1 <= 400 / (1 + k) := Nat.div_pos (by omega) (by omega)
  have h2 : 400 / (1 + k) <= 400 := Nat.div_le_self _ _
  refine ⟨_, rfl, j8 (by omega) (by omega), b, _, _, rfl, sb.bx, by omega, by rw [e0]; omega, by rw [e0]; omega, fun c4 M4 s4 c40 c41 => ⟨_, rfl, by omega, ?_⟩⟩
  rw [e0] at c41
  have sb := sb.go s4
  obtain ⟨j, rfl⟩ : ∃ j : Nat, c4 = j := ⟨c4.toNat, by omega⟩
  have h3 : (1 + k) * (1 + j) <= 400 := Nat.le_trans (Nat.mul_le_mul_left _ (show 1 + j <= 400 / (1 + k) by omega)) (Nat.mul_div_le _ _)
  refine sb.rt fun M' t' => ?_
  rw [show (1 : Int) + (k : Int) = ((1 + k : Nat) : Int) by omega, show (1 : Int) + (j : Int) = ((1 + j : Nat) : Int) by omega]
  exact q (1 + k) (1 + j) M' t' (by omega) (by omega) h3 (by omega) (by omega)
 ·rw [if_neg (by simp [c])]
  subst hr0
  walk_at "ra"
  refine ⟨b, 7, _, rfl, sb.bx, by omega, by omega, by omega, fun c2 M2 s2 c20 c21 => ⟨_, rfl, b, 7, _, rfl, s2.1, by omega, by omega, by omega, fun c3 M3 s3 c30 c31 => ⟨_, rfl, by omega, ?_⟩⟩⟩
  have sb := (sb.go s2).go s3
  obtain ⟨k, rfl⟩ : ∃ k : Nat, c2 = k := ⟨c2.toNat, by omega⟩
  obtain ⟨j, rfl⟩ : ∃ k : Nat, c3 = k := ⟨c3.toNat, by omega⟩
  have h3 : (1 + k) * (1 + j) <= 20 * 20 := Nat.mul_le_mul (by omega) (by omega)
  refine (sb.mono (show N + 1 + 1 + 1 <= N + 4 by omega)).rt fun M' t' => ?_
  rw [show (1 : Int) + (k : Int) = ((1 + k : Nat) : Int) by omega, show (1 : Int) + (j : Int) = ((1 + j : Nat) : Int) by omega]
  exact q (1 + k) (1 + j) M' t' (by omega) (by omega) (by omega) (by omega) (by omega)
def wu : ASp := fun xs M Q => ∃ (b : Addr) (N : Nat), xs = [.ref b] /\ BxM M b N /\ N < 100000 /\ ∀ (m : Nat) M', BxS M M' b (N + 4) -> m <= 100 -> Q (.d (.int m)) M'
abbrev kr : Stmt := top 30
theorem xt : zq ["_law_box_here"] ["_law_box_here"] (zf kr) := ⟨rfl, rfl, rfl, by decide +kernel, rfl, by decide +kernel, by decide +kernel⟩
theorem Zn (a : At K mg "_law_halves" kr) (B : Blt mg) (D_law_take : Df P w K mg base "_law_take" ["_law_box_here", "_law_many"] 1 (cSp xa)) : Df P w K mg base "_law_halves" ["_law_box_here"] 2 (cSp wu) := by
 refine dfA (k := 1) a xt (fun _ _ _ _ _ _ us hl => match us, hl with | [_], _ => rfl) (fun xs M Q h => ?_) (fun f cdv A outer s H E hr => ?_)
 ·obtain ⟨_, _, rfl, _⟩ := h; rfl
 have sc := xt
 have hsl := hsl
 refine ⟨_, (zd (qk (zE (jv hr.units) (zh D_law_take hr rfl (za (pv 0) (za zc zb))) zc (zD _)) (zi (zo (zg jM zc (zh D_law_take hr rfl (za (pv 0) (za zc zb)))))) zK)
  (zi (zo (zQ jr (js (za (zh D_law_take hr rfl (za (pv 0) (za zc zb))) (za (zg zv zc (zh D_law_take hr rfl (za (pv 0) (za zc zb)))) zb))) (zP xq rfl B.int QM (za (jD (jv hr.units) (zh D_law_take hr rfl (za (pv 0) (za zc zb))) zc (zD _)) zb)) (fun _ _ => rfl))))), ?_⟩
 refine ex2 (by walk_at "sim") ?_
 rintro xs M Q ⟨b, N, rfl, hb, hN, q⟩
 rw [show zz ["_law_box_here"] [.ref b] = [some (.ref b)] from rfl]
 refine zj fun r hr0 => ?_
 walk_at "ra"
 have sb := SB.refl hb
 refine ⟨b, 12, N, rfl, hb, by omega, by omega, by omega, fun c1 M1 s1 c10 c11 => ⟨_, rfl, by rw [jI]; omega, ?_⟩⟩
 have sb := sb.go s1
 rw [xX]
 by_cases c : c1 = 0
 ·rw [if_pos (decide_eq_true c)]
  refine ⟨b, 60, _, rfl, sb.bx, by omega, by omega, by omega, fun c2 M2 s2 c20 c21 => ?_⟩
  have sb := sb.go s2
  refine ⟨_, rfl, (sb.mono (show N + 1 + 1 <= N + 4 by omega)).rt fun M' t' => ?_⟩
  rw [show (100 : Int) - c2 = ((100 - c2.toNat : Nat) : Int) by omega]
  exact q _ M' t' (by omega)
 ·rw [if_neg (by simp [c])]
  subst hr0
  walk_at "ra"
  refine ⟨b, 8, _, rfl, sb.bx, by omega, by omega, by omega, fun c2 M2 s2 c20 c21 => ⟨b, 33, _, rfl, s2.1, by omega, by omega, by omega, fun c3 M3 s3 c30 c31 => ⟨_, rfl, by omega, _, rfl, b, 5, _, rfl, s3.1, by omega, by omega, by omega, fun c4 M4 s4 c40 c41 => ?_⟩⟩⟩
  have sb := ((sb.go s2).go s3).go s4
  refine ⟨_, rfl, by rw [jI]; omega, ?_⟩
  obtain ⟨t, ht, ht1⟩ : ∃ t : Nat, atI (List.map AV.d [Dat.int c2, Dat.int (8 + c3)]) (if eqD (Dat.int c4) (Dat.int 0) = true then 1 else 0) = some (.d (.int t)) /\ t <= 100 := by
   split
   ·exact ⟨(8 + c3).toNat, by rw [show (((8 + c3).toNat : Nat) : Int) = 8 + c3 by omega]; rfl, by omega⟩
   ·exact ⟨c2.toNat, by rw [show ((c2.toNat : Nat) : Int) = c2 by omega]; rfl, by omega⟩
  exact ⟨_, ht, sb.rt fun M' t' => q t M' t' ht1⟩
def Qu : ASp := fun xs M Q => ∃ (b : Addr) (N : Nat), xs = [.ref b] /\ BxM M b N /\ N < 100000 /\ ∀ (s : Nat -> Nat) M', BxS M M' b (N + 6) -> (∀ i, s i <= 1000) -> s 0 * (s 1 * s 2) <= 400 -> (∀ i, 1 <= s i) -> Q (.d (.lst (zN s))) M'
abbrev yg : Stmt := top 29
theorem yp : zq ["_law_box_here", "_law_some"] ["_law_box_here"] (zf yg) := ⟨rfl, rfl, rfl, by decide +kernel, rfl, by decide +kernel, by decide +kernel⟩
theorem ZT (a : At K mg "_law_three" yg) (B : Blt mg) (D_law_take : Df P w K mg base "_law_take" ["_law_box_here", "_law_many"] 1 (cSp xa)) : Df P w K mg base "_law_three" ["_law_box_here"] 2 (cSp Qu) := by
 refine dfA (k := 1) a yp (fun _ _ _ _ _ _ us hl => match us, hl with | [_], _ => rfl) (fun xs M Q h => ?_) (fun f cdv A outer s H E hr => ?_)
 ·obtain ⟨_, _, rfl, _⟩ := h; rfl
 have sc := yp
 have hsl := hsl
 refine ⟨_, (zd (zO (i := 1) sc.nd rfl (by first | exact Or.inl rfl | exact Or.inr rfl) (x8 (js (za (zg zv zc (zh D_law_take hr rfl (za (pv 0) (za zc zb)))) (za (zg zv zc (zh D_law_take hr rfl (za (pv 0) (za zc zb)))) (za (zg zv zc (zh D_law_take hr rfl (za (pv 0) (za zc zb)))) zb))))))
  (zd (qk (zE (jv hr.units) (zh D_law_take hr rfl (za (pv 0) (za zc zb))) zc (zD _)) (zi (qz (zg zv zc (zh D_law_take hr rfl (za (pv 0) (za zc zb)))) (jw (pv 1) (zh D_law_take hr rfl (za (pv 0) (za zc zb))) qf))) zK)
  (zi (zo (pv 1))))), ?_⟩
 refine ex2 (by walk_at "sim") ?_
 rintro xs M Q ⟨b, N, rfl, hb, hN, q⟩
 rw [show zz ["_law_box_here", "_law_some"] [.ref b] = [some (.ref b), none] from rfl]
 refine zj fun r hr0 => ?_
 walk_at "ra"
 have sb := SB.refl hb
 refine ⟨b, 5, N, rfl, hb, by omega, by omega, by omega, fun c1 M1 s1 c10 c11 => ?_⟩
 have sb := sb.go s1
 refine ⟨_, rfl, b, 5, _, rfl, sb.bx, by omega, by omega, by omega, fun c2 M2 s2 c20 c21 => ⟨_, rfl, b, 5, _, rfl, s2.1, by omega, by omega, by omega, fun c3 M3 s3 c30 c31 => ⟨_, rfl, by omega, fun p p0 hp => ?_⟩⟩⟩
 have sb := (sb.go s2).go s3
 obtain ⟨_, hpb⟩ := sb.new hp
 obtain ⟨a0, rfl⟩ : ∃ k : Nat, c1 = k := ⟨c1.toNat, by omega⟩
 obtain ⟨a1, rfl⟩ : ∃ k : Nat, c2 = k := ⟨c2.toNat, by omega⟩
 obtain ⟨a2, rfl⟩ : ∃ k : Nat, c3 = k := ⟨c3.toNat, by omega⟩
 rw [show (1 : Int) + (a0 : Int) = ((1 + a0 : Nat) : Int) by omega, show (1 : Int) + (a1 : Int) = ((1 + a1 : Nat) : Int) by omega, show (1 : Int) + (a2 : Int) = ((1 + a2 : Nat) : Int) by omega]
 have hp4 := zm (M := M3) (a := p) (o := .lst [AV.d (.int ((1 + a0 : Nat) : Int)), AV.d (.int ((1 + a1 : Nat) : Int)), AV.d (.int ((1 + a2 : Nat) : Int))])
 have sb := sb.put p0 hpb (.lst [AV.d (.int ((1 + a0 : Nat) : Int)), AV.d (.int ((1 + a1 : Nat) : Int)), AV.d (.int ((1 + a2 : Nat) : Int))])
 generalize mup M3 p (.lst [AV.d (.int ((1 + a0 : Nat) : Int)), AV.d (.int ((1 + a1 : Nat) : Int)), AV.d (.int ((1 + a2 : Nat) : Int))]) = M4 at *
 have fin : ∀ (t : Nat -> Nat) M5, SB M M5 b (N + 6) -> M5 p = some (.lst ((zN t).map .d)) -> (∀ i, t i <= 12) -> t 0 * (t 1 * t 2) <= 400 -> (∀ i, 1 <= t i) -> rtA M Q (.ref p) M5 := fun t M5 s5 h5 h1 h2 h3 => s5.frz p0 hpb h5 (z0 _) fun M' t' => q t M' t' (fun i => by have := h1 i; omega) h2 h3
 subst hr0
 refine zj fun r hr0 => ?_
 walk_at "ra"
 refine ⟨b, 6, _, rfl, sb.bx, by omega, by omega, by omega, fun c4 M5 s5 c40 c41 => ⟨_, rfl, by rw [jI]; omega, ?_⟩⟩
 have hp5 : M5 p = _ := (s5.at hpb).trans hp4
 have sb := sb.go s5
 have h5 : ∀ i, cel (1 + a0) (1 + a1) (1 + a2) i <= 5 /\ 1 <= cel (1 + a0) (1 + a1) (1 + a2) i := fun i => by
  unfold cel; split <;> omega
 rw [xX]
 by_cases c : c4 = 0
 ·rw [if_pos (decide_eq_true c)]
  refine ⟨b, 6, _, rfl, sb.bx, by omega, by omega, by omega, fun c5 M6 s6 c50 c51 => ⟨_, rfl, b, 3, _, rfl, s6.1, by omega, by omega, by omega, fun c6 M7 s7 c60 c61 => ?_⟩⟩
  have hp7 : M7 p = _ := (s7.at hpb).trans ((s6.at hpb).trans hp5)
  have sb := (sb.go s6).go s7
  obtain ⟨k, rfl⟩ : ∃ k : Nat, c5 = k := ⟨c5.toNat, by omega⟩
  obtain ⟨j, rfl⟩ : ∃ j : Nat, c6 = j := ⟨c6.toNat, by omega⟩
  rw [show (7 : Int) + (k : Int) = ((7 + k : Nat) : Int) by omega]
  refine ⟨_, _, rfl, hp7, j, x9 (by omega) (by simp only [List.length_cons, List.length_nil]; omega), ?_⟩
  have sb := sb.put p0 hpb (.lst ([AV.d (.int ((1 + a0 : Nat) : Int)), AV.d (.int ((1 + a1 : Nat) : Int)), AV.d (.int ((1 + a2 : Nat) : Int))].set j (AV.d (.int ((7 + k : Nat) : Int)))))
  have hp8 := zm (M := M7) (a := p) (o := .lst ([AV.d (.int ((1 + a0 : Nat) : Int)), AV.d (.int ((1 + a1 : Nat) : Int)), AV.d (.int ((1 + a2 : Nat) : Int))].set j (AV.d (.int ((7 + k : Nat) : Int)))))
  generalize mup M7 p _ = M8 at *
  subst hr0
  walk_at "ra"
  have hj : j < 3 := by omega
  match j, hj with
  | 0, _ =>
   have m1 : (1 + a1) * (1 + a2) <= 5 * 5 := Nat.mul_le_mul (by omega) (by omega)
   have m2 : (7 + k) * ((1 + a1) * (1 + a2)) <= 12 * 25 := Nat.mul_le_mul (by omega) (by omega)
   exact fin (cel (7 + k) (1 + a1) (1 + a2)) M8 sb hp8 (fun i => by unfold cel; split <;> omega) (Nat.le_trans m2 (by omega)) (fun i => by unfold cel; split <;> omega)
  | 1, _ =>
   have m1 : (7 + k) * (1 + a2) <= 12 * 5 := Nat.mul_le_mul (by omega) (by omega)
   have m2 : (1 + a0) * ((7 + k) * (1 + a2)) <= 5 * 60 := Nat.mul_le_mul (by omega) (by omega)
   exact fin (cel (1 + a0) (7 + k) (1 + a2)) M8 sb hp8 (fun i => by unfold cel; split <;> omega) (Nat.le_trans m2 (by omega)) (fun i => by unfold cel; split <;> omega)
  | 2, _ =>
   have m1 : (1 + a1) * (7 + k) <= 5 * 12 := Nat.mul_le_mul (by omega) (by omega)
   have m2 : (1 + a0) * ((1 + a1) * (7 + k)) <= 5 * 60 := Nat.mul_le_mul (by omega) (by omega)
   exact fin (cel (1 + a0) (1 + a1) (7 + k)) M8 sb hp8 (fun i => by unfold cel; split <;> omega) (Nat.le_trans m2 (by omega)) (fun i => by unfold cel; split <;> omega)
 ·rw [if_neg (by simp [c])]
  subst hr0
  walk_at "ra"
  have m1 : (1 + a1) * (1 + a2) <= 5 * 5 := Nat.mul_le_mul (by omega) (by omega)
  have m2 : (1 + a0) * ((1 + a1) * (1 + a2)) <= 5 * 25 := Nat.mul_le_mul (by omega) (by omega)
  exact fin (cel (1 + a0) (1 + a1) (1 + a2)) M5 (sb.mono (by omega)) hp5 (fun i => by have := h5 i; omega) (Nat.le_trans m2 (by omega)) fun i => (h5 i).2
def VX : ASp := fun xs M Q => ∃ (m f : Nat), xs = [.d (.int m), .d (.int f)] /\ m <= 1000 /\ f <= 1 /\ Q (.d (ilD (kS m f))) M
abbrev Qb : Stmt := top 22
theorem Qh : zq ["many", "first"] ["many", "first"] (zf Qb) := ⟨rfl, rfl, rfl, by decide +kernel, rfl, by decide +kernel, by decide +kernel⟩
theorem Yk (a : At K mg "unweave_order" Qb) (B : Blt mg) (D_weave_order : Df P w K mg base "weave_order" ["many", "first"] 1 (cSp vf)) (D_back_of : Df P w K mg base "back_of" ["order"] 1 (cSp ZA)) : Df P w K mg base "unweave_order" ["many", "first"] 2 (cSp VX) := by
 refine dfA (k := 1) a Qh (fun _ _ _ _ _ _ us hl => match us, hl with | [_, _], _ => rfl) (fun xs M Q h => ?_) (fun f cdv A outer s H E hr => ?_)
 ·obtain ⟨_, _, rfl, _⟩ := h; rfl
 have sc := Qh
 have hsl := hsl
 refine ⟨_, (zi (zo (zh D_back_of hr rfl (za (zh D_weave_order hr rfl (za (pv 0) (za (pv 1) zb))) zb)))), ?_⟩
 refine ex2 (by walk_at "sim") ?_
 rintro xs M Q ⟨m, f, rfl, h1, h2, q⟩
 rw [show zz ["many", "first"] [.d (.int m), .d (.int f)] = [some (.d (.int m)), some (.d (.int f))] from rfl]
 walk_at "ra"
 have ho := kx (m := m) (f := f) (by omega)
 refine ⟨m, f, rfl, h1, h2, ?_⟩
 rw [qH]
 refine ⟨_, 2 * m, qU m f, rfl, rfl, ho, by omega, fun bs hb => jx Fr.refl ?_⟩
 rw [xu ho hb (jh (by omega))]
 exact q
def Vv : ASp := fun xs M Q => ∃ m : Nat, xs = [.d (.int m)] /\ m <= 100 /\ Q (.d (.bl true)) M
abbrev Je : Stmt := top 31
theorem QS : zq ["_law_many"] ["_law_many"] (zf Je) := ⟨rfl, rfl, rfl, by decide +kernel, rfl, by decide +kernel, by decide +kernel⟩
theorem YC (a : At K mg "_law_woven_right" Je) (B : Blt mg) (D_weave_order : Df P w K mg base "weave_order" ["many", "first"] 2 (cSp vf)) (D_unweave_order : Df P w K mg base "unweave_order" ["many", "first"] 2 (cSp VX)) (D_turn_order : Df P w K mg base "turn_order" ["rows", "columns"] 2 (cSp yP)) (D_after : Df P w K mg base "after" ["one", "other"] 2 (cSp xP)) (D_exchange_order : Df P w K mg base "exchange_order" ["n", "begin", "middle", "end"] 2 (cSp JA)) (D_back_of : Df P w K mg base "back_of" ["order"] 2 (cSp ZA)) : Df P w K mg base "_law_woven_right" ["_law_many"] 3 (cSp Vv) := by
 refine dfA (k := 2) a QS (fun _ _ _ _ _ _ us hl => match us, hl with | [_], _ => rfl) (fun xs M Q h => ?_) (fun f cdv A outer s H E hr => ?_)
 ·obtain ⟨_, rfl, _⟩ := h; rfl
 have sc := QS
 have hsl := hsl
 refine ⟨_, (zd (qk (PW.pt (Jg (zE Qs (pv 0) zc (zD _)) (vT (zE (qi hr.units) (zh D_weave_order hr rfl (za (pv 0) (za zc zb))) (zh D_turn_order hr rfl (za zc (za (pv 0) zb))) (zD _))))) (zi (zo qD)) zK)
  (zd (qk (PW.pt (Jg (zE Qs (pv 0) zc (zD _)) (vT (zE (qi hr.units) (zh D_unweave_order hr rfl (za (pv 0) (za zc zb))) (zh D_turn_order hr rfl (za (pv 0) (za zc zb))) (zD _))))) (zi (zo qD)) zK)
  (zd (qk (zE (qi hr.units) (zh D_weave_order hr rfl (za (pv 0) (za zc zb))) (zh D_after hr rfl (za (zh D_exchange_order hr rfl (za (zg zF zc (pv 0)) (za zc (za (pv 0) (za (zg zF zc (pv 0)) zb))))) (za (zh D_weave_order hr rfl (za (pv 0) (za zc zb))) zb))) (zD _)) (zi (zo qD)) zK)
  (zi (zo (jD (jv hr.units) (zh D_unweave_order hr rfl (za (pv 0) (za zc zb))) (zh D_back_of hr rfl (za (zh D_weave_order hr rfl (za (pv 0) (za zc zb))) zb)) (zD _))))))), ?_⟩
 refine ex2 (by walk_at "sim") ?_
 rintro xs M Q ⟨m, rfl, h1, q⟩
 rw [show zz ["_law_many"] [.d (.int m)] = [some (.d (.int m))] from rfl]
 have ho := kx (m := m) (f := 1) (by omega)
 have ho0 := kx (m := m) (f := 0) (by omega)
 have eqq : ∀ ns : List Int, eqD (ilD ns) (ilD ns) = true := fun ns => by rw [kC]; simp
 refine zj fun r hr0 => ?_
 walk_at "ra"
 have key1 : r M { nx := fun _ M' => rtA M Q (.d .non) M', rt := rtA M Q } [some (.d (.int m))] M := by
  subst hr0
  refine zj fun r hr0 => ?_
  have key2 : r M { nx := fun _ M' => rtA M Q (.d .non) M', rt := rtA M Q } [some (.d (.int m))] M := by
   subst hr0
   refine zj fun r hr0 => ?_
   walk_at "ra"
   refine ⟨m, 1, rfl, by omega, by omega, kf (by omega) (by omega), kf (by omega) (by omega), ?_⟩
   rw [qH, show (2 : Int) * (m : Int) = ((2 * m : Nat) : Int) by push_cast; rfl]
   refine ⟨2 * m, 0, m, 2 * m, rfl, by omega, by omega, by omega, by omega, m, 0, rfl, by omega, by omega, ?_⟩
   rw [qH]
   refine ⟨_, _, jU (2 * m) 0 m (2 * m), qU m 0, rfl, rfl, rfl, by unfold jU; rw [zS, List.length_map, List.length_range], by rw [zS]; omega, fun p hp => ?_, ?_⟩
   ·unfold jU at hp
    obtain ⟨x, hx, rfl⟩ := List.mem_map.mp hp
    rw [List.mem_range] at hx
    rw [zS]
    refine ⟨Int.natCast_nonneg _, Int.ofNat_lt.mpr ?_⟩
    rw [if_pos ⟨Nat.zero_le _, hx⟩, Nat.zero_add]
    exact Nat.mod_lt _ (by omega)
   rw [<- ZQ]
   refine ⟨_, rfl, _, rfl, zr _, zr _, ?_⟩
   rw [eqq, if_neg (by decide)]
   subst hr0
   walk_at "ra"
   refine ⟨m, 1, rfl, by omega, by omega, m, 1, rfl, by omega, by omega, ?_⟩
   rw [qH]
   refine ⟨_, 2 * m, qU m 1, rfl, rfl, ho, by omega, fun bs hb => ?_⟩
   rw [xu ho hb (jh (by omega))]
   refine ⟨_, rfl, _, rfl, zr _, zr _, ?_⟩
   rw [eqq]
   exact jx Fr.refl q
  walk_at "ra"
  by_cases c : 0 < m
  ·rw [if_pos (by omega)]
   refine ⟨m, 0, rfl, by omega, by omega, m, 2, rfl, by omega, by omega, by omega, ?_⟩
   rw [<- wY]
   refine ⟨_, rfl, _, rfl, zr _, zr _, ?_⟩
   rw [eqq, if_neg (by decide)]
   exact key2
  ·rw [if_neg (by omega)]
   exact key2
 by_cases c : 0 < m
 ·rw [if_pos (by omega)]
  refine ⟨m, 0, rfl, by omega, by omega, 2, m, rfl, by omega, by omega, by omega, ?_⟩
  rw [qH, <- Qi]
  refine ⟨_, rfl, _, rfl, zr _, zr _, ?_⟩
  rw [eqq, if_neg (by decide)]
  exact key1
 ·rw [if_neg (by omega)]
  exact key1
def VB : ASp := fun xs M Q => ∃ (b : Addr) (N r c : Nat), xs = [.ref b, .d (.int r), .d (.int c)] /\ BxM M b N /\ N < 100000 /\ 1 <= r /\ 1 <= c /\ r * c <= 400 /\ r <= 400 /\ c <= 400 /\ ∀ M', BxS M M' b (N + 2) -> Q (.d (.bl true)) M'
abbrev Ja : Stmt := top 33
theorem Qc : zq ["_law_box_here", "_law_rows", "_law_columns", "_law_n", "_law_by", "_law_each", "_law_turned", "_law_some", "_law_place"] ["_law_box_here", "_law_rows", "_law_columns"] (zf Ja) := ⟨rfl, rfl, rfl, by decide +kernel, rfl, by decide +kernel, by decide +kernel⟩
theorem XO (a : At K mg "_law_rolled_right" Ja) (B : Blt mg) (D_law_take : Df P w K mg base "_law_take" ["_law_box_here", "_law_many"] 2 (cSp xa)) (D_turn_order : Df P w K mg base "turn_order" ["rows", "columns"] 2 (cSp yP)) (D_roll_order : Df P w K mg base "roll_order" ["n", "k"] 2 (cSp ZI)) (D_after : Df P w K mg base "after" ["one", "other"] 2 (cSp xP)) (D_exchange_order : Df P w K mg base "exchange_order" ["n", "begin", "middle", "end"] 2 (cSp JA)) (D_staying : Df P w K mg base "staying" ["n"] 2 (cSp yW)) : Df P w K mg base "_law_rolled_right" ["_law_box_here", "_law_rows", "_law_columns"] 3 (cSp VB) := by
 refine dfA (k := 2) a Qc (fun _ _ _ _ _ _ us hl => match us, hl with | [_, _, _], _ => rfl) (fun xs M Q h => ?_) (fun f cdv A outer s H E hr => ?_)
 ·obtain ⟨_, _, _, _, rfl, _⟩ := h; rfl
 have sc := Qc
 have hsl := hsl
 refine ⟨_, (zd (zO (i := 3) sc.nd rfl (by first | exact Or.inl rfl | exact Or.inr rfl) (zg zF (pv 1) (pv 2)))
  (zd (zO (i := 4) sc.nd rfl (by first | exact Or.inl rfl | exact Or.inr rfl) (zh D_law_take hr rfl (za (pv 0) (za (pv 1) zb))))
  (zd (xG (j := 5) rfl sc.nd rfl (by first | exact Or.inl rfl | exact Or.inr rfl) (ts := [8]) rfl (zI rfl B.range (za (pv 3) zb)) (fun _ _ _ _ => (zn (i := 8) sc.nd rfl (by first | exact Or.inl rfl | exact Or.inr rfl))) (fun _ _ _ _ => zL) (fun _ _ _ _ => (zg zv (zg zF (zg ka (pv 8) (pv 1)) (pv 1)) (zg qb (zg zv (zg qb (pv 8) (pv 1)) (pv 4)) (pv 1)))))
  (zd (zO (i := 6) sc.nd rfl (by first | exact Or.inl rfl | exact Or.inr rfl) (zh D_turn_order hr rfl (za (pv 1) (za (pv 2) zb))))
  (zd (qk (zE (qi hr.units) (zh D_after hr rfl (za (zh D_roll_order hr rfl (za (pv 3) (za (zg zF (pv 2) (pv 4)) zb))) (za (pv 6) zb))) (zh D_after hr rfl (za (pv 6) (za (pv 5) zb))) (zD _)) (zi (zo qD)) zK)
  (zd (zO (i := 7) sc.nd rfl (by first | exact Or.inl rfl | exact Or.inr rfl) (zh D_law_take hr rfl (za (pv 0) (za (zg zv (pv 3) zc) zb))))
  (zd (qk (PW.pt (Jo (zE (qi hr.units) (zh D_roll_order hr rfl (za (pv 3) (za (pv 7) zb))) (zh D_exchange_order hr rfl (za (pv 3) (za zc (za (zg jM (pv 3) (pv 7)) (za (pv 3) zb))))) (zD _)) (vy (zE (qi hr.units) (zh D_roll_order hr rfl (za (pv 3) (za (zg jM (pv 7) (pv 3)) zb))) (zh D_roll_order hr rfl (za (pv 3) (za (pv 7) zb))) (zD _))))) (zi (zo qD)) zK)
  (zi (zo (jD (jv hr.units) (zh D_after hr rfl (za (pv 6) (za (zh D_turn_order hr rfl (za (pv 2) (za (pv 1) zb))) zb))) (zh D_staying hr rfl (za (pv 3) zb)) (zD _))))))))))), ?_⟩
 refine ex2 (by walk_at "sim") ?_
 rintro xs M Q ⟨b, N, r, c, rfl, hb, hN, h1, h2, h3, h4, h5, q⟩
 rw [show zz ["_law_box_here", "_law_rows", "_law_columns", "_law_n", "_law_by", "_law_each", "_law_turned", "_law_some", "_law_place"] [.ref b, .d (.int r), .d (.int c)] = [some (.ref b), some (.d (.int r)), some (.d (.int c)), none, none, none, none, none, none] from rfl]
 have eqq : ∀ ns : List Int, eqD (ilD ns) (ilD ns) = true := fun ns => by rw [kC]; simp
 have tl := qq r c
 have tb : ∀ p ∈ zw r c, 0 <= p /\ p < ((r * c : Nat) : Int) := fun p hp => y6 hp
 refine zj fun rr hr0 => ?_
 walk_at "ra"
 rw [show (r : Int) * (c : Int) = ((r * c : Nat) : Int) by push_cast; rfl]
 refine ⟨qh (by omega) (by omega), ?_⟩
 generalize hn : r * c = n at *
 have hn1 : 1 <= n := by rw [<- hn]; exact Nat.mul_pos (by omega) (by omega)
 subst hr0
 refine zj fun rr hr0 => ?_
 walk_at "ra"
 refine ⟨b, r, N, rfl, hb, by omega, by omega, by omega, fun by_ M1 s1 b0 b1 => ?_⟩
 have sb := (SB.refl hb).go s1
 obtain ⟨y, rfl⟩ : ∃ y : Nat, by_ = y := ⟨by_.toNat, by omega⟩
 subst hr0
 refine zj fun rr hr0 => ?_
 walk_at "ra"
 refine ⟨by omega, by omega, ?_⟩
 rw [Int.toNat_natCast]
 refine jQ (fun o => [some (.ref b), some (.d (.int r)), some (.d (.int c)), some (.d (.int n)), some (.d (.int y)), none, none, none, o]) (fun p => ((p / r * r + (p % r + y) % r : Nat) : Int)) ⟨_, rfl⟩ trivial (by omega) (fun o i Q hi q => ?_) fun o => ⟨_, zA _, ?_⟩
 ·walk_at "ra"
  refine ⟨j8 (by omega) (by omega), qh (by omega) (by omega), by omega, by omega, ?_⟩
  rw [show (i : Int) / r * r + ((i : Int) % r + y) % r = ((i / r * r + (i % r + y) % r : Nat) : Int) by push_cast; rfl]
  exact q _
 rw [show (List.range n).map (fun (p : Nat) => ((p / r * r + (p % r + y) % r : Nat) : Int)) = jY r c y by unfold jY; rw [hn]]
 subst hr0
 refine zj fun rr hr0 => ?_
 walk_at "ra"
 refine ⟨r, c, rfl, by omega, by omega, by omega, ?_⟩
 subst hr0
 refine zj fun rr hr0 => ?_
 walk_at "ra"
 have rl : ∀ k, (qe n k).length = n := fun k => by unfold qe; rw [List.length_map, List.length_range]
 have rb : ∀ k, ∀ p ∈ qe n k, 0 <= p /\ p < (n : Int) := fun k p hp => by
  unfold qe at hp
  obtain ⟨x, _, rfl⟩ := List.mem_map.mp hp
  exact qw _ (by omega)
 have el : (jY r c y).length = n := by unfold jY; rw [List.length_map, List.length_range, hn]
 refine ⟨qh (by omega) (by omega), n, _, rfl, by omega, _, _, qe n ((c : Int) * (y : Int)), zw r c, rfl, rfl, rfl, by rw [rl, tl], by omega, (by rw [tl]; exact rb _), _, _, zw r c, jY r c y, rfl, rfl, rfl, by rw [tl, el], by omega, (by rw [el]; exact tb), ?_⟩
 rw [show (c : Int) * (y : Int) = ((c * y : Nat) : Int) by push_cast; rfl, show qe n ((c * y : Nat) : Int) = qe (r * c) ((c * y : Nat) : Int) by rw [hn], Zh]
 refine ⟨_, rfl, _, rfl, zr _, zr _, ?_⟩
 rw [eqq, if_neg (by decide)]
 subst hr0
 refine zj fun rr hr0 => ?_
 walk_at "ra"
 refine ⟨b, _, _, rfl, sb.bx, by omega, by omega, by omega, fun sm M2 s2 s20 s21 => ?_⟩
 have sb := sb.go s2
 obtain ⟨k, rfl⟩ : ∃ k : Nat, sm = k := ⟨sm.toNat, by omega⟩
 subst hr0
 refine zj fun rr hr0 => ?_
 walk_at "ra"
 rw [show (n : Int) - (k : Int) = ((n - k : Nat) : Int) by omega]
 refine ⟨n, _, rfl, by omega, n, 0, n - k, n, rfl, by omega, by omega, by omega, by omega, ?_⟩
 rw [<- Zy (by omega)]
 refine ⟨_, rfl, _, rfl, zr _, zr _, ?_⟩
 rw [eqq, if_neg (by decide)]
 refine ⟨n, _, rfl, by omega, n, _, rfl, by omega, ?_⟩
 rw [wQ]
 refine ⟨_, rfl, _, rfl, zr _, zr _, ?_⟩
 rw [eqq, if_neg (by decide)]
 subst hr0
 walk_at "ra"
 refine ⟨c, r, rfl, by omega, by omega, by rw [Nat.mul_comm]; omega, _, _, zw r c, zw c r, rfl, rfl, rfl, by rw [tl, qq, Nat.mul_comm, hn], by rw [qq, Nat.mul_comm]; omega, (by rw [qq, Nat.mul_comm c r, hn]; exact tb), n, rfl, by omega, ?_⟩
 rw [Zj, hn]
 refine ⟨_, rfl, _, rfl, zr _, zr _, ?_⟩
 rw [eqq]
 exact sb.rt q
def Pm (w v : Nat -> Nat) : Prop := W3 w /\ W3 v /\ (∀ i, i < 3 -> v (w i) = i) /\ ∀ i, i < 3 -> w (v i) = i
def VW : ASp := fun xs M Q => ∃ (s w v o : Nat -> Nat), xs = [.d (.tup (zN s)), .d (.tup (zN w)), .d (.tup (zN o))] /\ Pm w v /\ W3 o /\ (∀ i, s i <= 1000) /\ s 0 * (s 1 * s 2) <= 400 /\ (∀ i, 1 <= s i) /\ Q (.d (.bl true)) M
theorem Vy {s w v : Nat -> Nat} (h : Pm w v) : s (w 0) * (s (w 1) * s (w 2)) = s 0 * (s 1 * s 2) := by
 obtain ⟨h1, h2, h3, h4⟩ := h
 have a0 := h3 0 (by omega)
 have a1 := h3 1 (by omega)
 have a2 := h3 2 (by omega)
 obtain ⟨b0, b1, b2⟩ := h1
 have n01 : w 0 ≠ w 1 := fun z => by rw [z, a1] at a0; omega
 have n02 : w 0 ≠ w 2 := fun z => by rw [z, a2] at a0; omega
 have n12 : w 1 ≠ w 2 := fun z => by rw [z, a2] at a1; omega
 have c0 : w 0 = 0 \/ w 0 = 1 \/ w 0 = 2 := by omega
 have c1 : w 1 = 0 \/ w 1 = 1 \/ w 1 = 2 := by omega
 have c2 : w 2 = 0 \/ w 2 = 1 \/ w 2 = 2 := by omega
 rcases c0 with e0 | e0 | e0 <;> rcases c1 with e1 | e1 | e1 <;> rcases c2 with e2 | e2 | e2 <;> first | (exfalso; omega) | (rw [e0, e1, e2]; done) | (rw [e0, e1, e2]; grind)
theorem wk {s t : Nat -> Nat} (h : ∀ i, i < 3 -> s i = t i) : zN s = zN t := by unfold zN; rw [h 0 (by omega), h 1 (by omega), h 2 (by omega)]
theorem Jz {s t w v : Nat -> Nat} (h : ∀ i, i < 3 -> s i = t i) (hw : ∀ i, i < 3 -> w i = v i) (h3 : W3 w) : zM s w = zM t v := by
 unfold zM
 rw [h 0 (by omega), h 1 (by omega), h 2 (by omega)]
 refine zx fun x0 _ => zx fun x1 _ => List.map_congr_left fun x2 _ => ?_
 congr 1
 exact vt (fun i hi => by rw [hw i hi, h _ (by rw [<- hw i hi]; exact h3.at hi)]) fun i hi => by rw [hw i hi]
theorem kd (s : Nat -> Nat) : dp (.tup (zN s)) <= 40 := Nat.le_trans (vv (ns := [(s 0 : Int), (s 1 : Int), (s 2 : Int)]) (by simp)).1 (by omega)
theorem vW (w : Nat -> Nat) {k : Nat} (h : k < 3) : [(w 0 : Int), (w 1 : Int), (w 2 : Int)].getD k 0 = (w k : Int) := by
 match k, h with
 | 0, _ => rfl
 | 1, _ => rfl
 | 2, _ => rfl
abbrev Q7 : Stmt := top 32
theorem Jd : zq ["_law_sizes", "_law_ways", "_law_other", "_law_back", "_law_behind", "_law_one", "_law_two", "_law_three_here", "_law_way"] ["_law_sizes", "_law_ways", "_law_other"] (zf Q7) := ⟨rfl, rfl, rfl, by decide +kernel, rfl, by decide +kernel, by decide +kernel⟩
theorem XW (a : At K mg "_law_deep_right" Q7) (B : Blt mg) (D_deep_order : Df P w K mg base "deep_order" ["sizes", "ways"] 3 (cSp KZ)) (D_block_order : Df P w K mg base "block_order" ["outer", "rows", "columns", "inner"] 3 (cSp Jv)) (D_turn_order : Df P w K mg base "turn_order" ["rows", "columns"] 3 (cSp yP)) (D_deep_after : Df P w K mg base "deep_after" ["one", "other"] 3 (cSp yE)) (D_deep_sizes : Df P w K mg base "deep_sizes" ["sizes", "ways"] 3 (cSp yE)) (D_after : Df P w K mg base "after" ["one", "other"] 3 (cSp xP)) : Df P w K mg base "_law_deep_right" ["_law_sizes", "_law_ways", "_law_other"] 4 (cSp VW) := by
 refine dfA (k := 3) a Jd (fun _ _ _ _ _ _ us hl => match us, hl with | [_, _, _], _ => rfl) (fun xs M Q h => ?_) (fun f cdv A outer s H E hr => ?_)
 ·obtain ⟨_, _, _, _, rfl, _⟩ := h; rfl
 have sc := Jd
 have hsl := hsl
 refine ⟨_, (zd (qz (pv 0) (qO (K := K) 3 rfl rfl (zC (zn (i := 5) sc.nd rfl (by first | exact Or.inl rfl | exact Or.inr rfl)) (zC (zn (i := 6) sc.nd rfl (by first | exact Or.inl rfl | exact Or.inr rfl)) (zC (zn (i := 7) sc.nd rfl (by first | exact Or.inl rfl | exact Or.inr rfl)) qP)))))
  (zd (qk (zE (qi hr.units) (zh D_deep_order hr rfl (za (pv 0) (za (qa (za zc (za zc (za zc zb)))) zb))) (zh D_block_order hr rfl (za (pv 5) (za (pv 6) (za (pv 7) (za zc zb))))) (zD _)) (zi (zo qD)) zK)
  (zd (qk (zE (qi hr.units) (zh D_deep_order hr rfl (za (pv 0) (za (qa (za zc (za zc (za zc zb)))) zb))) (zh D_block_order hr rfl (za zc (za (pv 5) (za (pv 6) (za (pv 7) zb))))) (zD _)) (zi (zo qD)) zK)
  (zd (qk (zE (qi hr.units) (zh D_deep_order hr rfl (za (pv 0) (za (qa (za zc (za zc (za zc zb)))) zb))) (zh D_turn_order hr rfl (za (pv 5) (za (zg zF (pv 6) (pv 7)) zb))) (zD _)) (zi (zo qD)) zK)
  (zd (qk (zE (qi hr.units) (zh D_deep_order hr rfl (za (pv 0) (za (qa (za zc (za zc (za zc zb)))) zb))) (zh D_turn_order hr rfl (za (zg zF (pv 5) (pv 6)) (za (pv 7) zb))) (zD _)) (zi (zo qD)) zK)
  (zd (zO (i := 3) sc.nd rfl (by first | exact Or.inl rfl | exact Or.inr rfl) (zP qj rfl B.tuple jE (za (qQ (ts := [8]) rfl rfl (zI rfl B.range (za zc zb)) (fun _ _ _ _ => (zn (i := 8) sc.nd rfl (by first | exact Or.inl rfl | exact Or.inr rfl))) (fun _ _ _ _ => zL) (fun _ _ _ _ => (Xw (K := K) rfl PySem.F.plainAttrs_tuple PySem.F.slot_tuple_index PySem.F.type_tuple_index Zd (pv 1) (za (pv 8) zb)))) zb)))
  (zd (qk (PW.pt (Jo (zE (qi hr.units) (zh D_deep_after hr rfl (za (pv 1) (za (pv 3) zb))) (qa (za zc (za zc (za zc zb)))) (zD _)) (vy (zE (qi hr.units) (zh D_deep_sizes hr rfl (za (zh D_deep_sizes hr rfl (za (pv 0) (za (pv 1) zb))) (za (pv 3) zb))) (zP qj rfl B.tuple jE (za (pv 0) zb)) (zD _))))) (zi (zo qD)) zK)
  (zd (zO (i := 4) sc.nd rfl (by first | exact Or.inl rfl | exact Or.inr rfl) (zh D_after hr rfl (za (zh D_deep_order hr rfl (za (pv 0) (za (pv 1) zb))) (za (zh D_deep_order hr rfl (za (zh D_deep_sizes hr rfl (za (pv 0) (za (pv 1) zb))) (za (pv 2) zb))) zb))))
  (zi (zo (jD (jv hr.units) (pv 4) (zh D_deep_order hr rfl (za (pv 0) (za (zh D_deep_after hr rfl (za (pv 1) (za (pv 2) zb))) zb))) (zD _)))))))))))), ?_⟩
 refine ex2 (by walk_at "sim") ?_
 rintro xs M Q ⟨s, w, v, o, rfl, hp, ho, hs, hsz, hs1, q⟩
 rw [show zz ["_law_sizes", "_law_ways", "_law_other", "_law_back", "_law_behind", "_law_one", "_law_two", "_law_three_here", "_law_way"] [.d (.tup (zN s)), .d (.tup (zN w)), .d (.tup (zN o))] = [some (.d (.tup (zN s))), some (.d (.tup (zN w))), some (.d (.tup (zN o))), none, none, none, none, none, none] from rfl]
 have eqq : ∀ ns : List Int, eqD (ilD ns) (ilD ns) = true := fun ns => by rw [kC]; simp
 have s0 := hs 0
 have s1 := hs 1
 have s2 := hs 2
 have sc : ∀ i, i < 3 -> s i = cel (s 0) (s 1) (s 2) i := fun i hi => (vE s hi).symm
 have dl := qK
 refine zj fun r hr0 => ?_
 walk_at "ra"
 refine ⟨rfl, _, _, rfl, _, _, rfl, _, _, rfl, rfl, ?_⟩
 have w021 : W3 (wy 0 2 1) := ⟨by decide, by decide, by decide⟩
 have w102 : W3 (wy 1 0 2) := ⟨by decide, by decide, by decide⟩
 have w120 : W3 (wy 1 2 0) := ⟨by decide, by decide, by decide⟩
 have w201 : W3 (wy 2 0 1) := ⟨by decide, by decide, by decide⟩
 have hc : ∀ u, W3 u -> zM s u = zM (cel (s 0) (s 1) (s 2)) u := fun u hu => Jz sc (fun _ _ => rfl) hu
 have m12 : s 1 * s 2 <= 400 := by have := Nat.le_mul_of_pos_left (s 1 * s 2) (show 0 < s 0 from hs1 0); omega
 have m01 : s 0 * s 1 <= 400 := by have := Nat.le_mul_of_pos_right (s 0 * s 1) (show 0 < s 2 from hs1 2); rw [Nat.mul_assoc] at this; omega
 have e01 : s 0 * s 1 * s 2 = s 0 * (s 1 * s 2) := Nat.mul_assoc _ _ _
 subst hr0
 refine zj fun r hr0 => ?_
 walk_at "ra"
 refine ⟨by omega, _, _, s, wy 0 2 1, rfl, rfl, rfl, w021, hs, by omega, ?_⟩
 refine ⟨s 0, s 1, s 2, 1, rfl, by omega, by omega, by omega, by omega, by omega, by omega, by omega, ?_⟩
 rw [hc _ w021, QN]
 refine ⟨_, rfl, _, rfl, zr _, zr _, ?_⟩
 rw [eqq, if_neg (by decide)]
 subst hr0
 refine zj fun r hr0 => ?_
 walk_at "ra"
 refine ⟨by omega, _, _, s, wy 1 0 2, rfl, rfl, rfl, w102, hs, by omega, ?_⟩
 refine ⟨1, s 0, s 1, s 2, rfl, by omega, by omega, by omega, by omega, by omega, by omega, by rw [Nat.one_mul, e01]; omega, ?_⟩
 rw [hc _ w102, Jw]
 refine ⟨_, rfl, _, rfl, zr _, zr _, ?_⟩
 rw [eqq, if_neg (by decide)]
 subst hr0
 refine zj fun r hr0 => ?_
 walk_at "ra"
 refine ⟨by omega, _, _, s, wy 1 2 0, rfl, rfl, rfl, w120, hs, by omega, qh (by omega) (by omega), ?_⟩
 rw [show (s 1 : Int) * (s 2 : Int) = ((s 1 * s 2 : Nat) : Int) by push_cast; rfl]
 refine ⟨s 0, s 1 * s 2, rfl, by omega, by omega, by omega, ?_⟩
 rw [hc _ w120, Q5]
 refine ⟨_, rfl, _, rfl, zr _, zr _, ?_⟩
 rw [eqq, if_neg (by decide)]
 subst hr0
 refine zj fun r hr0 => ?_
 walk_at "ra"
 refine ⟨by omega, _, _, s, wy 2 0 1, rfl, rfl, rfl, w201, hs, by omega, qh (by omega) (by omega), ?_⟩
 rw [show (s 0 : Int) * (s 1 : Int) = ((s 0 * s 1 : Nat) : Int) by push_cast; rfl]
 refine ⟨s 0 * s 1, s 2, rfl, by omega, by omega, by omega, ?_⟩
 rw [hc _ w201, Q8]
 refine ⟨_, rfl, _, rfl, zr _, zr _, ?_⟩
 rw [eqq, if_neg (by decide)]
 obtain ⟨hw, hv, hvw, hwv⟩ := id hp
 subst hr0
 refine zj fun r hr0 => ?_
 walk_at "ra"
 refine ⟨by omega, by omega, ?_⟩
 rw [show Int.toNat 3 = 3 from rfl]
 refine jQ (fun z => [some (.d (.tup (zN s))), some (.d (.tup (zN w))), some (.d (.tup (zN o))), none, none, some (.d (.int (s 0))), some (.d (.int (s 1))), some (.d (.int (s 2))), z]) (fun i => ((v i : Nat) : Int)) ⟨_, rfl⟩ trivial (by omega) (fun z i Q hi q => ?_) fun z => ⟨_, zA _, ?_⟩
 ·walk_at "ra"
  refine ⟨⟨_, rfl⟩, [(w 0 : Int), (w 1 : Int), (w 2 : Int)], rfl, v i, hv.at hi, by rw [vW w (hv.at hi), hwv i hi], fun m hm e => ?_, q _⟩
  have hm3 : m < 3 := Nat.lt_trans hm (hv.at hi)
  rw [vW w hm3] at e
  have e2 : w m = i := by omega
  have := hvw m hm3
  rw [e2] at this
  omega
 rw [show (((List.range 3).map fun (i : Nat) => ((v i : Nat) : Int)).map Dat.int) = zN v from rfl]
 subst hr0
 refine zj fun r hr0 => ?_
 walk_at "ra"
 refine ⟨_, _, w, v, rfl, rfl, rfl, hv, by omega, _, rfl, kd _, by decide +kernel, ?_⟩
 rw [wk (t := fun i => i) hwv, show zN (fun i => i) = [Dat.int 0, Dat.int 1, Dat.int 2] from rfl, kG (by decide +kernel), if_neg (by decide)]
 refine ⟨_, _, s, w, rfl, rfl, rfl, hw, _, _, (fun i => s (w i)), v, rfl, rfl, rfl, hv, _, rfl, kd _, kd _, ?_⟩
 rw [wk (s := fun i => s (w (v i))) (t := s) fun i hi => by rw [hwv i hi], kG (by have := kd s; omega), if_neg (by decide)]
 subst hr0
 refine zj fun r hr0 => ?_
 walk_at "ra"
 have pr := Vy (s := s) hp
 refine ⟨_, _, s, w, rfl, rfl, rfl, hw, hs, by omega, _, _, s, w, rfl, rfl, rfl, hw, _, _, (fun i => s (w i)), o, rfl, rfl, rfl, ho, (fun i => hs (w i)), (by show s (w 0) * (s (w 1) * s (w 2)) <= 1000; omega), ?_⟩
 refine ⟨_, _, zM s w, zM (fun i => s (w i)) o, rfl, rfl, rfl, by rw [qK, qK]; exact pr.symm, by rw [qK]; omega, (fun p hp => by rw [qK]; exact QU hw hp), ?_⟩
 rw [Zf hw ho]
 subst hr0
 walk_at "ra"
 refine ⟨_, _, w, o, rfl, rfl, rfl, ho, _, _, s, (fun i => w (o i)), rfl, rfl, rfl, ⟨hw.at ho.1, hw.at ho.2.1, hw.at ho.2.2⟩, hs, by omega, ?_⟩
 refine ⟨_, rfl, zr _, zr _, ?_⟩
 rw [eqq]
 exact jx Fr.refl q
abbrev Qn : Stmt := top 34
theorem JB : zq ["_law_script", "_law_some", "_law_box_here", "_law_rows", "_law_columns"] ["_law_script"] (zf Qn) := ⟨rfl, rfl, rfl, by decide +kernel, rfl, by decide +kernel, by decide +kernel⟩
def v9 (K : PySem.W.Frag) : Sp := fun vs H Q _ => ∃ (a : Addr) (ns : List Int), vs = [.ref a] /\ SqL K H a (ns.map V.int) /\ ns.length <= 63 /\ ∀ H', Q (.bl true) H'
def Vn (K : PySem.W.Frag) : ASp := fun xs M Q => ∃ ns : List Int, xs = [.d (.scr K ns)] /\ ns.length <= 63 /\ Q (.d (.bl true)) M
theorem sp_law (vs : List V) (H : Hp) (Q : VK) (E : XK) (h : v9 K vs H Q E) : cSp (Vn K) vs H Q E := by
 obtain ⟨a, ns, rfl, ha, hn, q⟩ := h
 refine ⟨[.d (.scr K ns)], fun _ => none, fun _ => False, fun x _ => x = .d (.bl true), ⟨(fun a o e => nomatch e), (fun a h => h rfl), fun a h => h.elim⟩, .cons (JH (fun _ z => z) ha) .nil, ⟨ns, rfl, hn, rfl⟩, fun x M' v H' O' hx _ _ r => ?_⟩
 subst hx
 rw [xW r]
 exact q H'
def QO : List ((Nat -> Nat) × (Nat -> Nat)) := [(wy 0 1 2, wy 0 1 2), (wy 0 2 1, wy 0 2 1), (wy 1 0 2, wy 1 0 2), (wy 1 2 0, wy 2 0 1), (wy 2 0 1, wy 1 2 0), (wy 2 1 0, wy 2 1 0)]
theorem lt3 {P : Nat -> Prop} (h0 : P 0) (h1 : P 1) (h2 : P 2) : ∀ i, i < 3 -> P i := fun i hi => by
 match i, hi with
 | 0, _ => exact h0
 | 1, _ => exact h1
 | 2, _ => exact h2
theorem JI : ∀ x ∈ QO, Pm x.1 x.2 := by
 intro x hx
 unfold QO at hx
 simp only [List.mem_cons, List.not_mem_nil, or_false] at hx
 rcases hx with rfl | rfl | rfl | rfl | rfl | rfl <;> exact ⟨⟨by decide, by decide, by decide⟩, ⟨by decide, by decide, by decide⟩, lt3 rfl rfl rfl, lt3 rfl rfl rfl⟩
abbrev wc : List Dat := [.tup [.int 0, .int 1, .int 2], .tup [.int 0, .int 2, .int 1], .tup [.int 1, .int 0, .int 2], .tup [.int 1, .int 2, .int 0], .tup [.int 2, .int 0, .int 1], .tup [.int 2, .int 1, .int 0]]
theorem JC : wc = QO.map fun x => .tup (zN x.1) := rfl
theorem yX {i : Int} (h0 : 0 <= i) (h1 : i < 6) : ∃ w v, Pm w v /\ atI (wc.map AV.d) i = some (.d (.tup (zN w))) := by
 obtain ⟨d, hd, e⟩ := Vd (l := wc) h0 h1
 rw [JC] at hd
 obtain ⟨x, hx, rfl⟩ := List.mem_map.mp hd
 exact ⟨x.1, x.2, JI x hx, e⟩
theorem Xp (a : At K mg "law" Qn) (B : Blt mg) (D_law_boxes : Df P w K mg base "_law_boxes" ["_law_script", "_law_many"] 19 (cSp (Qk K))) (D_law_table_sizes : Df P w K mg base "_law_table_sizes" ["_law_box_here", "_law_most"] 19 (cSp vP)) (D_law_halves : Df P w K mg base "_law_halves" ["_law_box_here"] 19 (cSp wu)) (D_law_three : Df P w K mg base "_law_three" ["_law_box_here"] 19 (cSp Qu)) (D_law_take : Df P w K mg base "_law_take" ["_law_box_here", "_law_many"] 19 (cSp xa))
  (D_law_woven_right : Df P w K mg base "_law_woven_right" ["_law_many"] 19 (cSp Vv)) (D_law_rolled_right : Df P w K mg base "_law_rolled_right" ["_law_box_here", "_law_rows", "_law_columns"] 19 (cSp VB)) (D_law_deep_right : Df P w K mg base "_law_deep_right" ["_law_sizes", "_law_ways", "_law_other"] 19 (cSp VW)) :
  Df P w K mg base "law" ["_law_script"] 20 (cSp (Vn K)) := by
 refine dfA (k := 19) a JB (fun _ _ _ _ _ _ us hl => match us, hl with | [_], _ => rfl) (fun xs M Q h => ?_) (fun f cdv A outer s H E hr => ?_)
 ·obtain ⟨_, rfl, _⟩ := h; rfl
 have sc := JB
 have hsl := hsl
 refine' ⟨_, ?q0, ?qr⟩
 (case q0 =>
  refine' zd ?q1 ?q2
  (case q1 =>
   refine' zO (i := 1) ?q3 ?q4 ?q5 ?q6
   (case q3 => exact sc.nd)
   (case q4 => exact rfl)
   (case q5 => exact (by first | exact Or.inl rfl | exact Or.inr rfl))
   (case q6 =>
    refine' js ?q7
    (case q7 =>
     refine' za ?q8 ?q9
     (case q8 => exact (qa (za zc (za zc (za zc zb)))))
     (case q9 =>
      refine' za ?q10 ?q11
      (case q10 => exact (qa (za zc (za zc (za zc zb)))))
      (case q11 =>
       refine' za ?q12 ?q13
       (case q12 => exact (qa (za zc (za zc (za zc zb)))))
       (case q13 =>
        refine' za ?q14 ?q15
        (case q14 => exact (qa (za zc (za zc (za zc zb)))))
        (case q15 =>
         refine' za ?q16 ?q17
         (case q16 => exact (qa (za zc (za zc (za zc zb)))))
         (case q17 =>
          refine' za ?q18 ?q19
          (case q18 => exact (qa (za zc (za zc (za zc zb)))))
          (case q19 => exact zb)))))))))
  (case q2 => exact (zd (xT PassesOwn.never rfl (kX (zh D_law_boxes hr rfl (za (pv 0) (za zc zb)))) (zn (i := 2) sc.nd rfl (by first | exact Or.inl rfl | exact Or.inr rfl)) (zd (qz (zh D_law_table_sizes hr rfl (za (pv 2) (za zc zb))) (qO (K := K) 2 rfl rfl (zC (zn (i := 3) sc.nd rfl (by first | exact Or.inl rfl | exact Or.inr rfl)) (zC (zn (i := 4) sc.nd rfl (by first | exact Or.inl rfl | exact Or.inr rfl)) qP)))) (zd (qk (PW.pt (Jo (vz (vp (zh D_law_woven_right hr rfl (za (zh D_law_halves hr rfl (za (pv 2) zb)) zb)) (fun _ => rfl))) (vy (vz (vp (zh D_law_rolled_right hr rfl (za (pv 2) (za (pv 3) (za (pv 4) zb)))) (fun _ => rfl)))))) (zi (zo qD)) zK) (zi (qk (vz (vp (zh D_law_deep_right hr rfl (za (zP qj rfl B.tuple jE (za (zh D_law_three hr rfl (za (pv 2) zb)) zb)) (za (zQ jr (pv 1) (zh D_law_take hr rfl (za (pv 2) (za zc zb))) (fun _ _ => rfl)) (za (zQ jr (pv 1) (zh D_law_take hr rfl (za (pv 2) (za zc zb))) (fun _ _ => rfl)) zb)))) (fun _ => rfl))) (zi (zo qD)) zK))))) (zi (zo qD)))))
 refine ex2 (by walk_at "sim") ?_
 rintro xs M Q ⟨ns, rfl, hn, q⟩
 rw [show zz ["_law_script", "_law_some", "_law_box_here", "_law_rows", "_law_columns"] [.d (.scr K ns)] = [some (.d (.scr K ns)), none, none, none, none] from rfl]
 refine zj fun r hr0 => ?_
 walk_at "ra"
 repeat (refine And.intro (by omega) ?_)
 subst hr0
 refine zj fun r hr0 => ?_
 walk_at "ra"
 refine ⟨6, ns, rfl, by omega, by omega, hn, fun p M1 bs f1 hp hp1 nd hb lb => ?_⟩
 refine ⟨_, kH hp1, ?_⟩
 refine ⟨fun i ρ M' => (∃ x2 x3 x4, ρ = [some (.d (.scr K ns)), some (.d (.lst wc)), x2, x3, x4]) /\ Fr M M' /\ M' p = some (.lst (bs.map AV.ref)) /\ ∀ (j : Nat) b, i <= j -> bs[j]? = some b -> BxM M' b 0 /\ b ≠ p /\ M b = none, ⟨⟨_, _, _, rfl⟩, f1, hp1, fun j b _ e => hb b (List.mem_of_getElem? e)⟩, ?_, ?_⟩
 ·rintro i y ρ M2 hy ⟨⟨x2, x3, x4, rfl⟩, f2, hp2, hb2⟩
  rw [List.getElem?_map] at hy
  cases e : bs[i]? with
  | none => rw [e] at hy; cases hy
  | some b =>
   rw [e] at hy
   cases hy
   obtain ⟨bx, hbp, b0⟩ := hb2 i b (Nat.le_refl _) e
   refine ⟨kH hp2, ?_⟩
   have sb := SB.refl bx
   have hlast : ∀ M', SB M2 M' b 1000 -> Fr M M' /\ M' p = some (.lst (bs.map AV.ref)) /\ ∀ (j : Nat) b', i + 1 <= j -> bs[j]? = some b' -> BxM M' b' 0 /\ b' ≠ p /\ M b' = none := fun M' s' => by
    refine ⟨SB.frm f2 b0 s', by rw [s'.fr p (qS hp2) (Ne.symm hbp)]; exact hp2, fun j b' hj e' => ?_⟩
    obtain ⟨z1, z2, z3⟩ := hb2 j b' (by omega) e'
    have hbb : b' ≠ b := fun z => by
     obtain ⟨i1, e1⟩ := List.getElem?_eq_some_iff.mp e
     obtain ⟨i2, e2⟩ := List.getElem?_eq_some_iff.mp e'
     have := (List.getElem_inj (h₀ := i1) (h₁ := i2) nd).mp (e1.trans (z.symm.trans e2.symm))
     omega
    refine ⟨?_, z2, z3⟩
    obtain ⟨a1, a2, a3, a4, a5⟩ := z1
    exact ⟨a1, a2, a3, by rw [s'.fr b' (by rw [a4]; exact fun z => nomatch z) hbb]; exact a4, a5⟩
   show Z2 _ _ _ _ _ _
   refine zj fun r2 hr2 => ?_
   walk_at "ra"
   refine ⟨b, 0, rfl, sb.bx, by omega, fun rw_ cl M3 s3 h1 h2 h3 h4 h5 => ?_⟩
   have sb := sb.go s3
   refine ⟨_, rfl, rfl, ?_⟩
   walk_at "ra"
   subst hr2
   refine zj fun r2 hr2 => ?_
   walk_at "ra"
   refine ⟨b, _, rfl, sb.bx, by omega, fun m M4 s4 hm => ?_⟩
   have sb := sb.go s4
   refine ⟨m, rfl, hm, ?_⟩
   walk_at "ra"
   refine ⟨b, _, rw_, cl, rfl, sb.bx, by omega, h1, h2, h3, h4, h5, fun M5 s5 => ?_⟩
   have sb := sb.go s5
   walk_at "ra"
   subst hr2
   walk_at "ra"
   refine ⟨b, _, rfl, sb.bx, by omega, fun sz M6 s6 z1 z2 z3 => ?_⟩
   have sb := sb.go s6
   refine ⟨_, vh _ _, _, z0 _, b, 6, _, rfl, sb.bx, by omega, by omega, by omega, fun c1 M7 s7 c10 c11 => ⟨_, rfl, ?_⟩⟩
   have sb := sb.go s7
   obtain ⟨w1, v1, pm1, e1⟩ := yX c10 c11
   refine ⟨_, e1, b, 6, _, rfl, sb.bx, by omega, by omega, by omega, fun c2 M8 s8 c20 c21 => ⟨_, rfl, ?_⟩⟩
   have sb := sb.go s8
   obtain ⟨w2, v2, pm2, e2⟩ := yX c20 c21
   refine ⟨_, e2, sz, w1, v1, w2, rfl, pm1, pm2.1, z1, z2, z3, _, rfl, ?_⟩
   rw [if_neg (by decide)]
   exact ⟨⟨_, rfl⟩, hlast M8 (sb.mono (by omega))⟩
 ·rintro ρ M2 ⟨⟨x2, x3, x4, rfl⟩, f2, hp2, hb2⟩
  refine ⟨kH hp2, ?_⟩
  subst hr0
  walk_at "ra"
  exact jx f2 q
end
theorem all_mk {l : PySem.W.OpenLaw} {w : World} {K : PySem.W.Frag} {h : Heap} {mg : Str -> Option Value} {fa : Addr} (X : K.In h) (G : h.Ns mainGlobals mg) (hfa : mg "law" = some (.ref fa)) (a : At K mg "law" Qn) (B : Blt mg)
  (a__law_take : At K mg "_law_take" va) (a__law_box : At K mg "_law_box" ZD) (a__law_folded : At K mg "_law_folded" kq) (a__law_boxes : At K mg "_law_boxes" xH) (a__law_table_sizes : At K mg "_law_table_sizes" Qp) (a__law_halves : At K mg "_law_halves" kr) (a__law_three : At K mg "_law_three" yg) (a__law_woven_right : At K mg "_law_woven_right" Je) (a__law_rolled_right : At K mg "_law_rolled_right" Ja) (a__law_deep_right : At K mg "_law_deep_right" Q7) (a_staying : At K mg "staying" jR) (a_after : At K mg "after" x6) (a_back_of : At K mg "back_of" vK) (a_roll_order : At K mg "roll_order" vi) (a_exchange_order : At K mg "exchange_order" vw) (a_turn_place : At K mg "turn_place" xY) (a_turn_order : At K mg "turn_order" vJ) (a_block_order : At K mg "block_order" xS) (a_weave_order : At K mg "weave_order" xJ) (a_unweave_order : At K mg "unweave_order" Qb) (a_by_ways : At K mg "by_ways" ZV) (a_deep_place : At K mg "deep_place" Q2) (a_deep_sizes : At K mg "deep_sizes" kh) (a_deep_after : At K mg "deep_after" ky) (a_deep_order : At K mg "deep_order" vc)
  : ∃ fd : FuncData, (∀ (s : Shared) (v : Value), BindsTo s fd ⟨[v], []⟩ [("_law_script", v)]) /\ ∀ base : Heap, K.In base -> base.Ns mainGlobals mg -> jn l.prog w K mg base CX0 20 fa fd ["_law_script"] (v9 K) := by
 obtain ⟨f, fd, F, m⟩ := id a
 obtain rfl : fa = f := by rw [hfa] at m; cases m; rfl
 obtain ⟨oc, od, kV, doc, pm, an, cdv, ct, osl, e, lk, hcd⟩ := F.ex
 refine ⟨fd, fun s v => ?_, fun base _ _ => ?_⟩
 ·subst e; exact .of_eq rfl
 ·have T := JP (P := l.prog) (w := w) (base := base) a__law_take B
  have t1 := T.imp' JY
  have so := yl (P := l.prog) (w := w) (base := base) a_staying B
  have ro := Kj (P := l.prog) (w := w) (base := base) a_roll_order B
  have tu := KL (P := l.prog) (w := w) (base := base) a_turn_order B (QR a_turn_place B)
  have we := Q6 (P := l.prog) (w := w) (base := base) a_weave_order B
  have ba := KN (P := l.prog) (w := w) (base := base) a_back_of B
  have un := Yk (P := l.prog) (w := w) (base := base) a_unweave_order B we ba
  have af := ZH (P := l.prog) (w := w) (base := base) a_after B
  have ex := Ks (P := l.prog) (w := w) (base := base) a_exchange_order B ro so
  have by_ := Xl (P := l.prog) (w := w) (base := base) a_by_ways B
  have de := JS (P := l.prog) (w := w) (base := base) a_deep_order B by_ (YH a_deep_place B)
  have bl := ZE (P := l.prog) (w := w) (base := base) a_block_order B (tu.mono (by decide))
  have bx := ZU (P := l.prog) (w := w) (base := base) a__law_boxes B ((wZ a__law_folded B).imp' Zq) ((YX a__law_box B).imp' YV)
  have wr := YC (P := l.prog) (w := w) (base := base) a__law_woven_right B (we.mono (by decide)) (un.mono (by decide)) (tu.mono (by decide)) (af.mono (by decide)) (ex.mono (by decide)) (ba.mono (by decide))
  have rr := XO (P := l.prog) (w := w) (base := base) a__law_rolled_right B (t1.mono (by decide)) (tu.mono (by decide)) (ro.mono (by decide)) (af.mono (by decide)) (ex.mono (by decide)) ((so.imp' y9).mono (by decide))
  have dr := XW (P := l.prog) (w := w) (base := base) a__law_deep_right B (de.mono (by decide)) (bl.mono (by decide)) (tu.mono (by decide)) ((wX a_deep_after B by_).mono (by decide)) ((wW a_deep_sizes B by_).mono (by decide)) (af.mono (by decide))
  have L := Xp (P := l.prog) (w := w) (base := base) a B (bx.mono (by decide)) ((XE a__law_table_sizes B t1).mono (by decide)) ((Zn a__law_halves B t1).mono (by decide)) ((ZT a__law_three B t1).mono (by decide)) (t1.mono (by decide)) (wr.mono (by decide)) (rr.mono (by decide)) (dr.mono (by decide))
  exact (L.imp' (sp_law (K := K))).fn m lk
theorem walk {l : PySem.W.OpenLaw} {q : Program} {loose : List Str} {XP : (Str -> Option Value) -> Heap -> Prop} {YP : World -> Heap -> Prop} {d : DefRec} {K : Params -> PySem.W.Frag} (hn : l.most = some 63) (hdf : d.params.defaults = [])
  (hY : ∀ (w : World) (h : Heap), YP w h -> (K w.params).In h)
  (F : ∀ (w : World) (mg : Str -> Option Value) (fa : Addr) (h : Heap), (K w.params).In h -> h.Ns mainGlobals mg -> mg d.name = some (.ref fa) ->
   ∃ fd : FuncData, (∀ (s : Shared) (u : Value), BindsTo s fd ⟨[u], []⟩ [("_law_script", u)]) /\ ∀ base : Heap, (K w.params).In base -> base.Ns mainGlobals mg -> jn l.prog w (K w.params) mg base CX0 20 fa fd ["_law_script"] (v9 (K w.params))) :
  PySem.W.WalkO q loose XP YP l.row.toRowW d [] (fun f vs => PySem.call f vs) :=
 L2.walk_of (n := 63) (k := 20) (x := "_law_script") (CX := fun _ => CX0) (sp := fun w => v9 (K w.params)) hn (by decide) hdf ⟨rfl, rfl, by decide, by decide⟩ hY F (fun _ _ a ns hl _ hS => ⟨a, ns, rfl, hS, hl, fun _ => rfl⟩) fun _ _ _ _ _ z => z
end Ot
open PySem PySem.W PyProof.Rows
set_option maxRecDepth 100000 in
set_option maxHeartbeats 0 in
theorem PySem.Challenge.cw_ownturn_k65_whole_one_order_by_many_name_holds : PySem.Challenge.rw_ownturn_k65_whole_one_order_by_many_name.Holds := by
 w_on; o_law; k_head; (case hw => w_witness2)
 k_fill
 refine Ot.walk (l := PySem.Challenge.rw_ownturn_k65_whole_one_order_by_many_name) rfl rfl (fun w h Y => PySem.W.kIn_of Y) ?F
 case F =>
  intro w mg fa h KX G hmg
  refine' Ot.all_mk KX G hmg (L2.at_mk KX G ?a0 ?l0 ?c0 ?k0) (L2.blt_mk KX G ?z1 ?z2 ?z3 ?z4 ?z5 ?z6 ?z7 ?z8 ?z9 ?z10 ?z11 ?z12 ?z13 ?z14 ?z15 ?z16) (L2.at_mk KX G ?a1 ?l1 ?c1 ?k1) (L2.at_mk KX G ?a2 ?l2 ?c2 ?k2) (L2.at_mk KX G ?a3 ?l3 ?c3 ?k3) (L2.at_mk KX G ?a4 ?l4 ?c4 ?k4) (L2.at_mk KX G ?a5 ?l5 ?c5 ?k5) (L2.at_mk KX G ?a6 ?l6 ?c6 ?k6) (L2.at_mk KX G ?a7 ?l7 ?c7 ?k7) (L2.at_mk KX G ?a8 ?l8 ?c8 ?k8) (L2.at_mk KX G ?a9 ?l9 ?c9 ?k9) (L2.at_mk KX G ?a10 ?l10 ?c10 ?k10) (L2.at_mk KX G ?a11 ?l11 ?c11 ?k11) (L2.at_mk KX G ?a12 ?l12 ?c12 ?k12) (L2.at_mk KX G ?a13 ?l13 ?c13 ?k13) (L2.at_mk KX G ?a14 ?l14 ?c14 ?k14) (L2.at_mk KX G ?a15 ?l15 ?c15 ?k15) (L2.at_mk KX G ?a16 ?l16 ?c16 ?k16) (L2.at_mk KX G ?a17 ?l17 ?c17 ?k17) (L2.at_mk KX G ?a18 ?l18 ?c18 ?k18) (L2.at_mk KX G ?a19 ?l19 ?c19 ?k19) (L2.at_mk KX G ?a20 ?l20 ?c20 ?k20) (L2.at_mk KX G ?a21 ?l21 ?c21 ?k21) (L2.at_mk KX G ?a22 ?l22 ?c22 ?k22) (L2.at_mk KX G ?a23 ?l23 ?c23 ?k23) (L2.at_mk KX G ?a24 ?l24 ?c24 ?k24) (L2.at_mk KX G ?a25 ?l25 ?c25 ?k25)
  (case a0 => k_is); (case l0 => k_is); (case c0 => k_is); (case k0 => k_is)
  (case a1 => k_is); (case l1 => k_is); (case c1 => k_is); (case k1 => k_is)
  (case a2 => k_is); (case l2 => k_is); (case c2 => k_is); (case k2 => k_is)
  (case a3 => k_is); (case l3 => k_is); (case c3 => k_is); (case k3 => k_is)
  (case a4 => k_is); (case l4 => k_is); (case c4 => k_is); (case k4 => k_is)
  (case a5 => k_is); (case l5 => k_is); (case c5 => k_is); (case k5 => k_is)
  (case a6 => k_is); (case l6 => k_is); (case c6 => k_is); (case k6 => k_is)
  (case a7 => k_is); (case l7 => k_is); (case c7 => k_is); (case k7 => k_is)
  (case a8 => k_is); (case l8 => k_is); (case c8 => k_is); (case k8 => k_is)
  (case a9 => k_is); (case l9 => k_is); (case c9 => k_is); (case k9 => k_is)
  (case a10 => k_is); (case l10 => k_is); (case c10 => k_is); (case k10 => k_is)
  (case a11 => k_is); (case l11 => k_is); (case c11 => k_is); (case k11 => k_is)
  (case a12 => k_is); (case l12 => k_is); (case c12 => k_is); (case k12 => k_is)
  (case a13 => k_is); (case l13 => k_is); (case c13 => k_is); (case k13 => k_is)
  (case a14 => k_is); (case l14 => k_is); (case c14 => k_is); (case k14 => k_is)
  (case a15 => k_is); (case l15 => k_is); (case c15 => k_is); (case k15 => k_is)
  (case a16 => k_is); (case l16 => k_is); (case c16 => k_is); (case k16 => k_is)
  (case a17 => k_is); (case l17 => k_is); (case c17 => k_is); (case k17 => k_is)
  (case a18 => k_is); (case l18 => k_is); (case c18 => k_is); (case k18 => k_is)
  (case a19 => k_is); (case l19 => k_is); (case c19 => k_is); (case k19 => k_is)
  (case a20 => k_is); (case l20 => k_is); (case c20 => k_is); (case k20 => k_is)
  (case a21 => k_is); (case l21 => k_is); (case c21 => k_is); (case k21 => k_is)
  (case a22 => k_is); (case l22 => k_is); (case c22 => k_is); (case k22 => k_is)
  (case a23 => k_is); (case l23 => k_is); (case c23 => k_is); (case k23 => k_is)
  (case a24 => k_is); (case l24 => k_is); (case c24 => k_is); (case k24 => k_is)
  (case a25 => k_is); (case l25 => k_is); (case c25 => k_is); (case k25 => k_is)
  (case z1 => k_is)
  (case z2 => k_is)
  (case z3 => k_is)
  (case z4 => k_is)
  (case z5 => k_is)
  (case z6 => k_is)
  (case z7 => k_is)
  (case z8 => k_is)
  (case z9 => k_is)
  (case z10 => k_is)
  (case z11 => k_is)
  (case z12 => k_is)
  (case z13 => k_is)
  (case z14 => k_is)
  (case z15 => k_is)
  (case z16 => k_is)
