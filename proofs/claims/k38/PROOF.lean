import PyProof.Rows.All
import Wide.All
import OpenK.AllK
import Wide.FinOn
import Lean
import PyProof.EqAt
import PyProof.EqKinds
import PyProof.TupleCall
import PySem.Challenge.RW_ownturn_k38_ways_put_together
set_option Elab.async false
set_option linter.all false
set_option maxRecDepth 100000
namespace L2
open PySem PySem.Spec PyProof.Rows
abbrev Key := Sum Int Str
def xN : Key -> Value -> Bool
 | .inl k, v => Value.isInt k v
 | .inr x, v => Value.isStrOf x v
def Wz (w : World) : Key -> Int
 | .inl k => hashInt k
 | .inr x => hashStr w x
theorem zJ : ∀ {k : Key} {v : Value}, xN k v = true -> (∃ i t, k = Sum.inl i /\ v = Value.int i t) \/ (∃ x t, k = Sum.inr x /\ v = Value.str x t)
 | .inl i, v, h => by
  obtain ⟨t, e⟩ := Value.isInt_shape (k := i) (v := v) h
  exact .inl ⟨i, t, rfl, e⟩
 | .inr x, v, h => by
  obtain ⟨t, e⟩ := Value.isStrOf_shape (x := x) (v := v) h
  exact .inr ⟨x, t, rfl, e⟩
theorem Zz (i : Int) (t : Tok) : xN (.inl i) (.int i t) = true := by simp [xN, Value.isInt]
theorem Zc (x : Str) (t : Tok) : xN (.inr x) (.str x t) = true := by simp [xN, Value.isStrOf]
theorem YQ (a b : Int) : decide ((Sum.inl a : Key) = Sum.inl b) = (a == b) := by
 by_cases e : a = b
 ·subst e; simp
 ·have h : ¬ (Sum.inl a : Key) = Sum.inl b := fun q => e (Sum.inl.inj q)
  rw [decide_eq_false h]
  exact (beq_eq_false_iff_ne.mpr e).symm
theorem Y2 (a b : Str) : decide ((Sum.inr a : Key) = Sum.inr b) = decide (a = b) := by
 by_cases e : a = b
 ·subst e; simp
 ·have h : ¬ (Sum.inr a : Key) = Sum.inr b := fun q => e (Sum.inr.inj q)
  rw [decide_eq_false h, decide_eq_false e]
theorem Yz (a : Int) (b : Str) : decide ((Sum.inl a : Key) = Sum.inr b) = false := decide_eq_false (fun q => nomatch q)
theorem Vf (a : Str) (b : Int) : decide ((Sum.inr a : Key) = Sum.inl b) = false := decide_eq_false (fun q => nomatch q)
def zO (prog : Program) (w : World) : PySem.KeyKind prog w Key where
 is := xN
 hash := Wz w
 inj := fun v a b ha hb => by
  rcases zJ ha with ⟨i, t, rfl, rfl⟩ | ⟨x, t, rfl, rfl⟩
  ·rcases zJ hb with ⟨j, u, rfl, e⟩ | ⟨y, u, rfl, e⟩
   ·injection e with e1 _; rw [e1]
   ·exact nomatch e
  ·rcases zJ hb with ⟨j, u, rfl, e⟩ | ⟨y, u, rfl, e⟩
   ·exact nomatch e
   ·injection e with e1 _; rw [e1]
 byValue := fun k v h => by
  rcases zJ h with ⟨i, t, rfl, rfl⟩ | ⟨x, t, rfl, rfl⟩ <;> rfl
 pyHash := fun hv h => by
  rcases zJ hv with ⟨i, t, rfl, rfl⟩ | ⟨x, t, rfl, rfl⟩
  ·exact wpAny_pyHash_int h
  ·exact wpAny_pyHash_str h
 eqBool := fun hu hv h => by
  rcases zJ hu with ⟨i, t, rfl, rfl⟩ | ⟨x, t, rfl, rfl⟩
  ·rcases zJ hv with ⟨j, u, rfl, rfl⟩ | ⟨y, u, rfl, rfl⟩
   ·rw [YQ] at h; exact wpAny_eqBool_int h
   ·rw [Yz] at h; exact SeqAt.EqAt.int_str i t y u _ _ _ _ h
  ·rcases zJ hv with ⟨j, u, rfl, rfl⟩ | ⟨y, u, rfl, rfl⟩
   ·rw [Vf] at h; exact SeqAt.EqAt.str_int x t j u _ _ _ _ h
   ·rw [Y2] at h; exact wpAny_eqBool_str h
 «strs» := fun k x t v h => by
  rcases zJ h with ⟨i, u, rfl, e⟩ | ⟨y, u, rfl, e⟩
  ·exact nomatch e
  ·injection e with e1 _
   subst e1
   cases v <;> rfl
theorem vI (prog : Program) (w : World) (i : Int) (t : Tok) : (zO prog w).is (.inl i) (.int i t) = true := Zz i t
theorem vA (prog : Program) (w : World) (x : Str) (t : Tok) : (zO prog w).is (.inr x) (.str x t) = true := Zc x t
end L2
namespace L2
open PySem PySem.Spec PyProof.Rows
inductive V where
 | non | bl (b : Bool) | int (i : Int) | str (x : Str) | byt (b : Array UInt8) | flt (b : UInt64) | ref (a : Addr) | ty (n : String)
 deriving DecidableEq
def zt : V -> Value -> Prop
 | .non, u => u = Value.none
 | .bl b, u => u = Value.bool b
 | .int i, u => ∃ t, u = Value.int i t
 | .str x, u => ∃ t, u = Value.str x t
 | .byt b, u => ∃ t, u = Value.bytes b t
 | .flt b, u => ∃ t, u = Value.float b t
 | .ref a, u => u = Value.ref a
 | .ty n, u => u = Value.type n
abbrev zv : List V -> List Value -> Prop := Paired zt
theorem zv.length {xs : List V} {us : List Value} (r : zv xs us) : xs.length = us.length := Paired.length r
theorem zv.get : ∀ {xs : List V} {us : List Value} {i : Nat} {x : V}, zv xs us -> xs[i]? = some x -> ∃ u, us[i]? = some u /\ zt x u
 | _, _, _, _, .nil, e => by simp at e
 | _, _, 0, _, .cons r _, e => by simp at e; subst e; exact ⟨_, rfl, r⟩
 | _, _, i + 1, x, .cons _ t, e => by
  obtain ⟨u, h1, h2⟩ := zv.get (i := i) (x := x) t (by simpa using e)
  exact ⟨u, by simpa using h1, h2⟩
theorem zv.set {x : V} {u : Value} (r : zt x u) : ∀ {xs : List V} {us : List Value} (i : Nat), zv xs us -> zv (xs.set i x) (us.set i u)
 | _, _, _, .nil => .nil
 | _, _, 0, .cons _ t => .cons r t
 | _, _, i + 1, .cons q t => .cons q (zv.set r i t)
theorem zv.append : ∀ {xs ys : List V} {us ws : List Value}, zv xs us -> zv ys ws -> zv (xs ++ ys) (us ++ ws)
 | _, _, _, _, .nil, s => s
 | _, _, _, _, .cons r t, s => .cons r (zv.append t s)
theorem zv.take : ∀ {xs : List V} {us : List Value} (n : Nat), zv xs us -> zv (xs.take n) (us.take n)
 | _, _, 0, _ => .nil
 | _, _, _ + 1, .nil => .nil
 | _, _, n + 1, .cons r t => .cons r (zv.take n t)
theorem zv.drop : ∀ {xs : List V} {us : List Value} (n : Nat), zv xs us -> zv (xs.drop n) (us.drop n)
 | _, _, 0, r => r
 | _, _, _ + 1, .nil => .nil
 | _, _, n + 1, .cons _ t => zv.drop n t
def yx : Option V -> Option Value -> Prop
 | some v, some u => zt v u
 | none, none => True
 | _, _ => False
def KV {κ : Type} : List (κ × V) -> List (κ × Value) -> Prop := Paired fun (p : κ × V) (q : κ × Value) => p.1 = q.1 /\ zt p.2 q.2
def kV : Key -> V
 | .inl i => .int i
 | .inr x => .str x
inductive HO where
  | lst (xs : List V)
  | tup (xs : List V)
  | dK (kvs : List (Key × V)) | dT (kvs : List (List Key × V))
  | set (S : Int -> Bool) (n : Nat)
  | ins (C dx : Addr) (fs : List (Str × V))
  | own (x : Addr)
  | xd (fs : List (Str × V))
  | met (f x : Addr)
  | rng (lo hi : Int)
  | frz (o : Obj) (u : HO)
  | tbl (ps : Array Value)
  | ext (φ : Heap -> Prop)
abbrev Hp := Addr -> Option HO
def upd (H : Hp) (a : Addr) (o : HO) : Hp := fun b => if b = a then some o else H b
theorem zo {H : Hp} {a : Addr} {o : HO} : upd H a o a = some o := by unfold upd; rw [if_pos rfl]
theorem zf {H : Hp} {a b : Addr} {o : HO} (h : b ≠ a) : upd H a o b = H b := by unfold upd; rw [if_neg h]
theorem Kc {H : Hp} {a : Addr} {o u : HO} : upd (upd H a o) a u = upd H a u := by
 funext b; unfold upd; split <;> rfl
theorem kI {H : Hp} {a b : Addr} {o u : HO} (h : H a = some o) (h' : H b = some u) (d : o ≠ u) : a ≠ b := by
 intro e; subst e; rw [h] at h'; exact d (Option.some.inj h')
theorem zk {H : Hp} {a b : Addr} {o : HO} (h : H a = some o) (h' : H b = none) : a ≠ b := by
 intro e; subst e; rw [h] at h'; cases h'
def vx (h : Heap) (a : Addr) (items : Array Value) : Prop := ∃ o, h.get? a = some o /\ o.cls = .type "tuple" /\ (∃ n, o.data = .seq items n) /\ o.dict = none
theorem vx.is {h : Heap} {a : Addr} {items : Array Value} (x : vx h a items) : IsTup h a items := let ⟨o, e, c, n, _⟩ := x; ⟨o, e, c, n⟩
theorem vx.lt {h : Heap} {a : Addr} {items : Array Value} (x : vx h a items) : a < h.objs.size := x.is.lt
theorem vx.new (h : Heap) (items : Array Value) : vx (h.push { cls := .type "tuple", data := .seq items }) h.objs.size items := ⟨_, Heap.get?_push_size _ rfl, rfl, ⟨_, rfl⟩, rfl⟩
section
variable (P : Program) (w : World)
def zB (H : Hp) (h : Heap) (a : Addr) : HO -> Prop
  | .lst xs => xs.length <= sizeLine /\ ∃ (its : List Value) (n : Nat), zv xs its /\ h.get? a = some { cls := .type "list", data := .seq its.toArray n }
  | .tup xs => xs.length <= sizeLine /\ ∃ its : List Value, zv xs its /\ vx h a its.toArray
  | .dK kvs => kvs.length <= sizeLine /\ (a == sysModules) = false /\ ∃ vs, KV kvs vs /\ h.DictOf (zO P w) a vs
  | .dT kvs => kvs.length <= sizeLine /\ (a == sysModules) = false /\ ∃ xs : List (List Key × Addr × Value),
      Paired (fun (p : List Key × V) (q : List Key × Addr × Value) => p.1 = q.1 /\ H q.2.1 = some (.tup (p.1.map kV)) /\ zt p.2 q.2.2) kvs xs /\
      ∃ o es ep, h.get? a = some o /\ o.ExactDict /\ o.data = .dict es ep /\ es.toList = xs.map (entryOfKey (tupleKind (zO P w))) /\ (xs.map (·.1)).Nodup
  | .set S n => h.SetOf (intKind P w) a S n
  | .ins C dx fs => H dx = some (.own a) /\ fs.length <= 1000 /\ dx ≠ a /\ h.get? a = some (PySem.W.instObj C dx) /\
      ∃ mA, h.Ns1 dx mA /\ (∀ f, yx (fs.lookup f) (mA f)) /\ PySem.Within mA (fs.map (·.1))
  | .own _ => ∃ o, h.get? a = some o
  | .xd fs => ∃ mA, h.Ns1 a mA /\ ∀ f, yx (fs.lookup f) (mA f)
  | .rng lo hi => ∃ t u v, h.get? a = some { cls := .type "range", data := .fields #[.int lo t, .int hi u, .int 1 v] }
  | .frz o u => h.get? a = some o /\ zB H h a u
  | .tbl ps => h.get? a = some { cls := .none, data := .fields ps }
  | .met f x => h.get? a = some (PySem.W.methodObj (.ref f) (.ref x))
  | .ext φ => φ h /\ (∃ o, h.get? a = some o) /\ ∀ h1 h2 : Heap, φ h1 -> (∀ o, h1.get? a = some o -> h2.get? a = some o) -> φ h2
def HOk (H : Hp) (h : Heap) : Prop := ∀ a o, H a = some o -> zB P w H h a o
end
section
variable {P : Program} {w : World} {H H' : Hp} {h h' : Heap} {a : Addr} {o : HO}
theorem zB.lt (x : zB P w H h a o) : a < h.objs.size := by
 cases o with
 | lst xs => obtain ⟨_, _, _, _, e⟩ := x; exact Heap.lt_size e
 | tup xs => obtain ⟨_, _, _, p⟩ := x; exact p.lt
 | dK kvs => obtain ⟨_, _, _, _, o, _, _, e, _⟩ := x; exact Heap.lt_size e
 | dT kvs => obtain ⟨_, _, _, _, o, _, _, e, _⟩ := x; exact Heap.lt_size e
 | set S n => obtain ⟨o, _, _, _, e, _⟩ := x; exact Heap.lt_size e
 | ins C dx fs => obtain ⟨_, _, _, e, _⟩ := x; exact Heap.lt_size e
 | own y => obtain ⟨_, e⟩ := x; exact Heap.lt_size e
 | xd fs => obtain ⟨_, ⟨_, _, _, e, _⟩, _⟩ := x; exact Heap.lt_size e
 | rng lo hi => obtain ⟨_, _, _, e⟩ := x; exact Heap.lt_size e
 | frz ob u => obtain ⟨e, _⟩ := x; exact Heap.lt_size e
 | tbl ps => exact Heap.lt_size (show h.get? a = some _ from x)
 | met f y => exact Heap.lt_size (show h.get? a = some _ from x)
 | ext φ => obtain ⟨_, ⟨_, e⟩, _⟩ := x; exact Heap.lt_size e
theorem Paired.mapP {α β : Type} {F G : α -> β -> Prop} : ∀ {l₁ : List α} {l₂ : List β}, Paired F l₁ l₂ -> (∀ a b, F a b -> G a b) -> Paired G l₁ l₂
 | _, _, .nil, _ => .nil
 | _, _, .cons r t, f => .cons (f _ _ r) (Paired.mapP t f)
theorem zB.stay (x : zB P w H h a o) (k : ∀ b u, (b = a \/ H b = some (.own a)) -> h.get? b = some u -> h'.get? b = some u)
  (ho : ∀ b, H b = some (.own a) -> H' b = some (.own a)) (ht : ∀ b xs, H b = some (.tup xs) -> H' b = some (.tup xs)) : zB P w H' h' a o := by
 induction o with
 | lst xs => obtain ⟨z, its, n, r, e⟩ := x; exact ⟨z, its, n, r, k _ _ (.inl rfl) e⟩
 | tup xs => obtain ⟨z, its, r, ob, e, c⟩ := x; exact ⟨z, its, r, ob, k _ _ (.inl rfl) e, c⟩
 | dK kvs => obtain ⟨z, y, vs, r, ob, es, ep, e, c⟩ := x; exact ⟨z, y, vs, r, ob, es, ep, k _ _ (.inl rfl) e, c⟩
 | dT kvs =>
  obtain ⟨z, y, xs, r, ob, es, ep, e, c⟩ := x
  exact ⟨z, y, xs, Paired.mapP r fun p q z => ⟨z.1, ht _ _ z.2.1, z.2.2⟩, ob, es, ep, k _ _ (.inl rfl) e, c⟩
 | set S n => obtain ⟨ob, es, ep, t, e, c⟩ := x; exact ⟨ob, es, ep, t, k _ _ (.inl rfl) e, c⟩
 | ins C dx fs =>
  obtain ⟨d, z, ne, e, mA, ⟨od, es, ep, e2, c⟩, r⟩ := x
  exact ⟨ho _ d, z, ne, k _ _ (.inl rfl) e, mA, ⟨od, es, ep, k _ _ (.inr d) e2, c⟩, r⟩
 | own y => obtain ⟨ob, e⟩ := x; exact ⟨ob, k _ _ (.inl rfl) e⟩
 | xd fs => obtain ⟨mA, ⟨od, es, ep, e, c⟩, r⟩ := x; exact ⟨mA, ⟨od, es, ep, k _ _ (.inl rfl) e, c⟩, r⟩
 | rng lo hi => obtain ⟨t, u, v, e⟩ := x; exact ⟨t, u, v, k _ _ (.inl rfl) e⟩
 | frz ob u ih => obtain ⟨e, q⟩ := x; exact ⟨k _ _ (.inl rfl) e, ih q⟩
 | tbl ps =>
  have e : h.get? a = some { cls := .none, data := .fields ps } := x
  show h'.get? a = some { cls := .none, data := .fields ps }
  exact k a _ (.inl rfl) e
 | met f y =>
  have e : h.get? a = some (PySem.W.methodObj (.ref f) (.ref y)) := x
  show h'.get? a = some (PySem.W.methodObj (.ref f) (.ref y))
  exact k a _ (.inl rfl) e
 | ext φ => obtain ⟨p, ⟨o, e⟩, st⟩ := x; exact ⟨st _ _ p fun o q => k _ _ (.inl rfl) q, ⟨o, k _ _ (.inl rfl) e⟩, st⟩
theorem HOk.lt (x : HOk P w H h) (e : H a = some o) : a < h.objs.size := (x a o e).lt
theorem HOk.fresh (x : HOk P w H h) (e : h.objs.size <= a) : H a = none := by
 cases q : H a with
 | none => rfl
 | some u => exact absurd (Nat.lt_of_lt_of_le (x.lt q) e) (Nat.lt_irrefl _)
theorem HOk.kept (x : HOk P w H h) (k : ∀ b u, h.get? b = some u -> h'.get? b = some u) : HOk P w H h' := fun a o e =>
 (x a o e).stay (fun b u _ q => k b u q) (fun _ q => q) fun _ _ q => q
theorem HOk.laid (x : HOk P w H h) (k : ∀ b u, h.get? b = some u -> h'.get? b = some u) (hp : h.objs.size <= a) (new : zB P w (upd H a o) h' a o) : HOk P w (upd H a o) h' := fun b u e => by
 have hn := x.fresh hp
 by_cases hb : b = a
 ·subst hb; rw [zo] at e; cases e; exact new
 ·rw [zf hb] at e
  exact (x b u e).stay (fun c v _ q => k c v q) (fun c q => by rw [zf (zk q hn)]; exact q) fun c xs q => by rw [zf (zk q hn)]; exact q
end
def Rd (H : Hp) (a : Addr) (u : HO) : Prop := H a = some u \/ ∃ o, H a = some (.frz o u)
theorem Rd.ok {P : Program} {w : World} {H : Hp} {h : Heap} {a : Addr} {u : HO} (r : Rd H a u) (x : HOk P w H h) : zB P w H h a u := by
 rcases r with r | ⟨o, r⟩
 ·exact x a u r
 ·obtain ⟨_, q⟩ := x a _ r
  exact q
def Mut : Option HO -> Prop
 | some (.lst _) => True
 | some (.dK _) => True
 | some (.dT _) => True
 | some (.set _ _) => True
 | some (.ins _ _ _) => True
 | some (.ext _) => True
 | _ => False
section
variable {P : Program} {w : World} {H : Hp} {h h' : Heap} {x e : Addr} {o' : HO}
theorem HOk.write (ok : HOk P w H h) (mu : Mut (H x)) (he : e = x \/ H e = some (.own x)) (k : ∀ b u, b ≠ e -> h.get? b = some u -> h'.get? b = some u) (heo : ∃ u, h'.get? e = some u)
    (new : zB P w (upd H x o') h' x o') : HOk P w (upd H x o') h' := fun b u q => by
  have nown : ∀ c y, H c = some (.own y) -> c ≠ x := fun c y r z => by subst z; rw [r] at mu; exact mu
  have ntup : ∀ c xs, H c = some (.tup xs) -> c ≠ x := fun c xs r z => by subst z; rw [r] at mu; exact mu
  by_cases hb : b = x
  · subst hb; rw [zo] at q; cases q; exact new
  · rw [zf hb] at q
    by_cases hbe : b = e
    · have q' : H b = some (.own x) := by
        rcases he with z | z
        · exact absurd (hbe.trans z) hb
        · rw [hbe]; exact z
      rw [q] at q'; cases q'
      obtain ⟨v, hv⟩ := heo
      exact ⟨v, by rw [hbe]; exact hv⟩
    · refine (ok b u q).stay (fun c v hc r => k c v ?_ r) (fun c r => by rw [zf (nown c b r)]; exact r) fun c xs r => by rw [zf (ntup c xs r)]; exact r
      rcases hc with rfl | hc
      · exact hbe
      · rintro rfl
        rcases he with z | z
        · exact nown c b hc z
        · rw [hc] at z; cases z; exact hb rfl
end
structure Un (fs ex : List Addr) (H H' : Hp) (h h' : Heap) : Prop where
 keep : ∀ b o, h.get? b = some o -> H b = none -> b ∉ fs -> b ∉ ex -> h'.get? b = some o
 slot : ∀ b o, h.get? b = some o -> H b = none -> b ∈ fs -> b ∉ ex -> ∃ sl, h'.get? b = some { o with slots := sl }
 free : ∀ b o, h.get? b = some o -> H b = none -> b ∉ ex -> H' b = none
 there : ∀ b o, h.get? b = some o -> b ∉ ex -> ∃ o', h'.get? b = some o'
 tups : ∀ b xs, H b = some (.tup xs) -> H' b = some (.tup xs)
 frzs : ∀ b o u, H b = some (.frz o u) -> H' b = some (.frz o u)
 tbls : ∀ b ps, H b = some (.tbl ps) -> ∃ more, H' b = some (.tbl (ps ++ more))
section
variable {fs fs' ex ex' : List Addr} {H H1 H2 : Hp} {h h1 h2 h' : Heap} {a x e : Addr} {o : HO}
theorem Un.any (u : Un fs ex H H1 h h1) {b : Addr} {ob : Obj} (q : h.get? b = some ob) (n : H b = none) (hx : b ∉ ex) : ∃ sl, h1.get? b = some { ob with slots := sl } := by
 by_cases hb : b ∈ fs
 ·exact u.slot b ob q n hb hx
 ·exact ⟨ob.slots, u.keep b ob q n hb hx⟩
theorem Un.kept (k : ∀ b u, h.get? b = some u -> h'.get? b = some u) : Un fs ex H H h h' :=
 ⟨fun b ob q _ _ _ => k b ob q, fun b ob q _ _ _ => ⟨ob.slots, k b ob q⟩, fun _ _ _ n _ => n, fun b ob q _ => ⟨ob, k b ob q⟩, fun _ _ q => q, fun _ _ _ q => q, fun _ ps q => ⟨#[], by rw [q]; simp⟩⟩
theorem Un.refl : Un fs ex H H h h := Un.kept fun _ _ q => q
theorem Un.laid (k : ∀ b u, h.get? b = some u -> h'.get? b = some u) (hp : h.objs.size <= a) (hn : H a = none) : Un fs ex H (upd H a o) h h' where
 keep := fun b u q _ _ _ => k b u q
 slot := fun b u q _ _ _ => ⟨u.slots, k b u q⟩
 free := fun b u q n _ => by rw [zf (Nat.ne_of_lt (Nat.lt_of_lt_of_le (Heap.lt_size q) hp))]; exact n
 there := fun b u q _ => ⟨u, k b u q⟩
 tups := fun b xs q => by rw [zf (zk q hn)]; exact q
 frzs := fun b u xs q => by rw [zf (zk q hn)]; exact q
 tbls := fun b ps q => ⟨#[], by rw [zf (zk q hn), q]; simp⟩
theorem Un.write (mu : Mut (H x)) (he : e = x \/ H e = some (.own x)) (k : ∀ b u, b ≠ e -> h.get? b = some u -> h'.get? b = some u) (heo : ∃ u, h'.get? e = some u) : Un fs ex H (upd H x o) h h' := by
 have hx : ∀ b, H b = none -> b ≠ x := fun b n z => by subst z; rw [n] at mu; exact mu
 have hb : ∀ b, H b = none -> b ≠ e := fun b n z => by
  subst z
  rcases he with r | r
  ·exact hx b n r
  ·rw [n] at r; cases r
 have hm : ∀ b u, H b = some u -> ¬ Mut (some u) -> b ≠ x := fun b u q nm z => by subst z; rw [q] at mu; exact nm mu
 refine ⟨fun b u q n _ _ => k b u (hb b n) q, fun b u q n _ _ => ⟨u.slots, k b u (hb b n) q⟩, fun b u q n _ => by rw [zf (hx b n)]; exact n, fun b u q _ => ?_,
  fun b xs q => by rw [zf (hm b _ q fun z => z)]; exact q, fun b u xs q => by rw [zf (hm b _ q fun z => z)]; exact q, fun b ps q => ⟨#[], by rw [zf (hm b _ q fun z => z), q]; simp⟩⟩
 by_cases hbe : b = e
 ·subst hbe; exact heo
 ·exact ⟨u, k b u hbe q⟩
end
def trk (h : Heap) (H : Hp) : List Addr := (List.range h.objs.size).filter fun a => (H a).isSome
def xZ (h : Heap) (H : Hp) : Heap := PySem.W.hideAll h (trk h H)
theorem Zu (h : Heap) (H : Hp) : (xZ h H).objs.size = h.objs.size := PySem.W.hideAll_size _ _
theorem Q7 {h : Heap} {H : Hp} {b : Addr} {o : Obj} (e : h.get? b = some o) (n : H b = none) : (xZ h H).get? b = some o :=
 PySem.W.hideAll_get _ e fun hm => by
  have q : (H b).isSome = true := (List.mem_filter.mp hm).2
  rw [n] at q; simp at q
theorem KA {h : Heap} {H : Hp} {b : Addr} {o : Obj} (e : (xZ h H).get? b = some o) : h.get? b = some o /\ H b = none := by
 have e' : h.get? b = some o := PySem.W.of_hideAll (trk h H) e
 refine ⟨e', ?_⟩
 cases q : H b with
 | none => rfl
 | some x =>
  have hm : b ∈ trk h H := List.mem_filter.mpr ⟨List.mem_range.mpr (Heap.lt_size e'), by simp [q]⟩
  have z : (xZ h H).get? b = none := PySem.W.hideAll_none (trk h H) hm
  rw [z] at e; cases e
def KB (g h : Heap) (L : Addr) : List (Addr × Obj) := (List.range h.objs.size).filterMap fun a => if a = L \/ (g.get? a).isSome = true then none else (h.get? a).map fun o => (a, o)
def qt (g h : Heap) (L d : Addr) : List (Addr × Obj) := (KB g h L).filter fun p => decide (p.1 ≠ d)
end L2
namespace L2
open PySem PySem.Spec PyProof.Rows
structure Mod (K : PySem.W.Frag) (mg : Str -> Option Value) (base : Heap) : Prop where
 kin : K.In base
 glob : base.Ns mainGlobals mg
 blt : ∃ mb, base.Ns builtinsNs mb /\ ∀ x : Str, x ≠ "__name__" -> mb x = bootBuiltins x
 nolimit : base.NoLimit
structure Cx where
 prog : Program
 w : World
 K : PySem.W.Frag
 mg : Str -> Option Value
 base : Heap
 A : Around
 N : List Str
 s₀ : Shared
 H₀ : Hp
 env : Env
 outer : List Env
 stack : List Env
 ex : List Addr
 fn : Str -> Bool
 calm : Bool
 pn : List (Addr × Obj)
 xe : Value -> Shared -> Prop
def frs (l : List Env) : List Addr := l.filterMap (·.frame)
abbrev Cx.fs (X : Cx) : List Addr := frs X.outer
def Vis (sc : Scope) (x : Str) : Prop := sc.names.lookup x = some .local \/ sc.names.lookup x = some .cell \/ sc.names.lookup x = some .free
def Loc (sc : Scope) (x : Str) : Prop := sc.names.lookup x = some .local \/ sc.names.lookup x = some .cell
def Wy (env : Env) (h : Heap) (m : Str -> Option Value) (x : Str) (u : Value) : Prop :=
 (env.kindOf x = some .local /\ m x = some u) \/ ((env.kindOf x = some .cell \/ env.kindOf x = some .free) /\ ∃ c, env.cells.lookup x = some c /\ h.IsCell c (some u))
structure Cx.Ok (X : Cx) : Prop where
 mod : Mod X.K X.mg X.base
 kind : X.env.scope.kind = .function
 glob : X.env.globals = mainGlobals
 blt : X.env.builtins = builtinsNs
 above : X.s₀.heap.objs.size <= X.env.locals
 inj : ∀ x y c, X.env.cells.lookup x = some c -> X.env.cells.lookup y = some c -> x = y
 has : ∀ x, (X.env.kindOf x = some .cell \/ X.env.kindOf x = some .free) -> ∃ c, X.env.cells.lookup x = some c
 cab : ∀ x c, X.fn x = true -> X.env.cells.lookup x = some c -> X.s₀.heap.objs.size <= c
 hd : X.calm = true -> X.A.handled = none
 frames : X.A.frames = some X.stack
 stk : X.stack = X.outer \/ (X.stack = X.env :: X.outer /\ X.env.frame = some X.env.locals)
 exf : ∀ b ∈ X.ex, b ≠ X.env.locals /\ ∀ x c, X.env.cells.lookup x = some c -> c ≠ b
 bs : ∀ b o, X.base.get? b = some o -> X.s₀.heap.get? b = some o /\ X.H₀ b = none
 bsz : X.base.objs.size <= X.s₀.heap.objs.size
 noex : ∀ b o, X.base.get? b = some o -> b ∉ X.ex
 exfs : ∀ b ∈ X.ex, b ∉ X.fs
 funs : X.s₀.heap.FunFrames X.base X.outer
 frf : ∀ b ∈ X.fs, X.H₀ b = none
structure Inv (X : Cx) (pins : List (Addr × Obj)) (σ : List (Option V)) (H : Hp) (s : Shared) : Prop where
 ok : X.Ok
 os : s.os = X.s₀.os
 bare : AllBare s.gens
 base : Un X.fs X.ex X.H₀ H X.s₀.heap s.heap
 loc : ∃ m, s.heap.Ns X.env.locals m /\ ∀ (i : Nat) (x : Str) (v : V), X.N[i]? = some x -> σ[i]? = some (some v) -> Vis X.env.scope x -> ∃ u, zt v u /\ Wy X.env s.heap m x u
 cell : ∀ x c, X.env.cells.lookup x = some c -> ∃ v, s.heap.IsCell c v
 free : H X.env.locals = none
 freeC : ∀ x c, X.env.cells.lookup x = some c -> H c = none
 pin : ∀ p ∈ X.pn ++ pins, s.heap.get? p.1 = some p.2 /\ H p.1 = none /\ p.1 ≠ X.env.locals /\ p.1 ∉ X.fs /\ ∀ v, p.2.data ≠ .cell v
 hok : HOk X.prog X.w H s.heap
 len : σ.length = X.N.length
section
variable {X : Cx} {pins : List (Addr × Obj)} {σ : List (Option V)} {H H' : Hp} {s : Shared} {h' : Heap}
theorem Cx.Ok.nofr (ok : X.Ok) {b : Addr} {o : Obj} (e : X.base.get? b = some o) : b ∉ X.fs := fun hb => by
 have := (ok.funs.mem hb).1
 rw [e] at this; cases this
theorem Inv.bs (I : Inv X pins σ H s) : ∀ b o, X.base.get? b = some o -> s.heap.get? b = some o /\ H b = none := fun b o e =>
 ⟨I.base.keep b o (I.ok.bs b o e).1 (I.ok.bs b o e).2 (I.ok.nofr e) (I.ok.noex b o e), I.base.free b o (I.ok.bs b o e).1 (I.ok.bs b o e).2 (I.ok.noex b o e)⟩
theorem Inv.bk (I : Inv X pins σ H s) : ∀ b o, X.base.get? b = some o -> s.heap.get? b = some o := fun b o e => (I.bs b o e).1
theorem Inv.mod (I : Inv X pins σ H s) : Mod X.K X.mg X.base := I.ok.mod
theorem Inv.kIn (I : Inv X pins σ H s) : X.K.In s.heap := I.ok.mod.kin.keeps I.bk
theorem Inv.lt (I : Inv X pins σ H s) : X.env.locals < s.heap.objs.size := let ⟨_, hn, _⟩ := I.loc; hn.lt
theorem Inv.sz (I : Inv X pins σ H s) : X.s₀.heap.objs.size <= s.heap.objs.size := Nat.le_trans I.ok.above (Nat.le_of_lt I.lt)
theorem Inv.nofs (I : Inv X pins σ H s) {a : Addr} (h : s.heap.objs.size <= a) : a ∉ X.fs := fun hb => by
 obtain ⟨_, o, ho, _⟩ := I.ok.funs.mem hb
 exact absurd (Nat.lt_of_lt_of_le (Heap.lt_size ho) (Nat.le_trans I.sz h)) (Nat.lt_irrefl _)
theorem Inv.cne (I : Inv X pins σ H s) : ∀ x c, X.env.cells.lookup x = some c -> c ≠ X.env.locals := fun x c e z => by
 obtain ⟨v, o, ho, hd⟩ := I.cell x c e
 obtain ⟨m, ⟨o', es, ep, ho', hd', _⟩, _⟩ := I.loc
 rw [z, ho'] at ho; cases ho; rw [hd'] at hd; cases hd
theorem Inv.funs (I : Inv X pins σ H s) : s.heap.FunFrames X.base X.outer := by
 have all : ∀ (l : List Env), (∀ b ∈ frs l, b ∈ X.fs) -> X.s₀.heap.FunFrames X.base l -> s.heap.FunFrames X.base l := by
  intro l
  induction l with
  | nil => intro _ _; trivial
  | cons env r ih =>
   intro hs hl
   obtain ⟨hk, ⟨L, o, hf, hn, ho, hd⟩, hr⟩ := hl
   have hL : L ∈ X.fs := hs L (by unfold frs; rw [List.filterMap_cons, hf]; exact List.mem_cons_self)
   obtain ⟨sl, e⟩ := I.base.slot L o ho (I.ok.frf L hL) hL fun z => I.ok.exfs L z hL
   exact ⟨hk, ⟨L, _, hf, hn, e, hd⟩, ih (fun b hb => hs b (by unfold frs; rw [List.filterMap_cons, hf]; exact List.mem_cons_of_mem _ hb)) hr⟩
 exact all X.outer (fun _ hb => hb) I.ok.funs
theorem Inv.stack (I : Inv X pins σ H s) : s.heap.FunFrames X.base X.stack := by
 rcases I.ok.stk with e | ⟨e, hf⟩
 ·rw [e]; exact I.funs
 ·rw [e]
  obtain ⟨m, hn, _⟩ := I.loc
  refine .cons (by rw [I.ok.kind]; decide) hf hn ?_ I.funs
  exact Heap.get?_none_of_le (Nat.le_trans I.ok.bsz I.ok.above)
theorem Inv.stkSub (I : Inv X pins σ H s) : ∀ b ∈ frs X.stack, b ∈ X.env.locals :: X.fs := fun b hb => by
 rcases I.ok.stk with e | ⟨e, hf⟩
 ·rw [e] at hb; exact List.mem_cons_of_mem _ hb
 ·rw [e] at hb
  unfold frs at hb
  rw [List.filterMap_cons, hf] at hb
  exact hb
theorem Inv.stkFree (I : Inv X pins σ H s) : ∀ b ∈ frs X.stack, H b = none := fun b hb => by
 rcases List.mem_cons.mp (I.stkSub b hb) with e | hb
 ·rw [e]; exact I.free
 ·obtain ⟨_, o, ho, _⟩ := I.ok.funs.mem hb
  exact I.base.free b o ho (I.ok.frf b hb) fun z => I.ok.exfs b z hb
theorem Inv.step {g' : Array GenState} {t' : Nat} {d' : Drawn} {ch : List Addr} (I : Inv X pins σ H s)
  (hch : ∀ b ∈ ch, (b ∈ X.ex \/ X.s₀.heap.objs.size <= b) /\ b ≠ X.env.locals /\ (∀ x c, X.env.cells.lookup x = some c -> c ≠ b) /\ ∀ p ∈ X.pn ++ pins, p.1 ≠ b)
  (keep : ∀ b o, b ≠ X.env.locals -> b ∉ X.fs -> b ∉ ch -> s.heap.get? b = some o -> H b = none -> h'.get? b = some o)
  (slot : ∀ b o, b ≠ X.env.locals -> b ∈ X.fs -> b ∉ ch -> s.heap.get? b = some o -> H b = none -> ∃ sl, h'.get? b = some { o with slots := sl }) (free : ∀ b o, b ∉ ch -> s.heap.get? b = some o -> H b = none -> H' b = none)
  (there : ∀ b o, b ∉ ch -> s.heap.get? b = some o -> ∃ o', h'.get? b = some o')
  (tups : ∀ b xs, H b = some (.tup xs) -> H' b = some (.tup xs)) (frzs : ∀ b o u, H b = some (.frz o u) -> H' b = some (.frz o u)) (tbls : ∀ b ps, H b = some (.tbl ps) -> ∃ more, H' b = some (.tbl (ps ++ more)))
  (ns : ∀ m, s.heap.Ns X.env.locals m -> h'.Ns X.env.locals m) (hok : HOk X.prog X.w H' h') (hg : AllBare g') :
  Inv X pins σ H' { s with heap := h', gens := g', drawn := d', toks := t' } := by
 have neL : ∀ b o, X.s₀.heap.get? b = some o -> b ≠ X.env.locals := fun b o e => Nat.ne_of_lt (Nat.lt_of_lt_of_le (Heap.lt_size e) I.ok.above)
 have neC : ∀ b o, X.s₀.heap.get? b = some o -> b ∉ X.ex -> b ∉ ch := fun b o e hx hb => by
  rcases (hch b hb).1 with z | z
  ·exact hx z
  ·exact absurd (Nat.lt_of_lt_of_le (Heap.lt_size e) z) (Nat.lt_irrefl _)
 have cellK : ∀ x c, X.env.cells.lookup x = some c -> ∀ v, s.heap.IsCell c v -> h'.IsCell c v := fun x c e v ⟨o, ho, hd⟩ => by
  have nch : c ∉ ch := fun z => (hch c z).2.2.1 x c e rfl
  by_cases hc : c ∈ X.fs
  ·obtain ⟨sl, q⟩ := slot c o (I.cne x c e) hc nch ho (I.freeC x c e)
   exact ⟨_, q, hd⟩
  ·exact ⟨o, keep c o (I.cne x c e) hc nch ho (I.freeC x c e), hd⟩
 refine ⟨I.ok, I.os, hg, ⟨fun b o e n hb hx => ?_, fun b o e n hb hx => ?_, fun b o e n hx => ?_, fun b o e hx => ?_, fun b xs e => tups b xs (I.base.tups b xs e), fun b o xs e => frzs b o xs (I.base.frzs b o xs e), fun b ps e => ?_⟩, ?_, fun x c e => ?_, ?_, fun x c e => ?_, fun p hp => ?_, hok, I.len⟩
 ·exact keep b o (neL b o e) hb (neC b o e hx) (I.base.keep b o e n hb hx) (I.base.free b o e n hx)
 ·obtain ⟨sl, e1⟩ := I.base.slot b o e n hb hx
  obtain ⟨sl', e2⟩ := slot b _ (neL b o e) hb (neC b o e hx) e1 (I.base.free b o e n hx)
  exact ⟨sl', e2⟩
 ·obtain ⟨o', e1⟩ := I.base.there b o e hx
  exact free b o' (neC b o e hx) e1 (I.base.free b o e n hx)
 ·obtain ⟨o', e1⟩ := I.base.there b o e hx
  exact there b o' (neC b o e hx) e1
 ·obtain ⟨m1, e1⟩ := I.base.tbls b ps e
  obtain ⟨m2, e2⟩ := tbls b _ e1
  exact ⟨m1 ++ m2, by rw [e2, Array.append_assoc]⟩
 ·obtain ⟨m, hn, hl⟩ := I.loc
  refine ⟨m, ns m hn, fun i x v e1 e2 e3 => ?_⟩
  obtain ⟨u, r, l⟩ := hl i x v e1 e2 e3
  refine ⟨u, r, ?_⟩
  rcases l with l | ⟨k, c, e, z⟩
  ·exact .inl l
  ·exact .inr ⟨k, c, e, cellK x c e _ z⟩
 ·obtain ⟨v, z⟩ := I.cell x c e
  exact ⟨v, cellK x c e v z⟩
 ·obtain ⟨m, ⟨o, _, _, ho, _⟩, _⟩ := I.loc
  exact free _ o (fun z => (hch _ z).2.1 rfl) ho I.free
 ·obtain ⟨v, o, ho, hd⟩ := I.cell x c e
  exact free c o (fun z => (hch c z).2.2.1 x c e rfl) ho (I.freeC x c e)
 ·obtain ⟨e, n, ne, nf, d⟩ := I.pin p hp
  have nch : p.1 ∉ ch := fun z => (hch p.1 z).2.2.2 p hp rfl
  exact ⟨keep p.1 p.2 ne nf nch e n, free p.1 p.2 nch e n, ne, nf, d⟩
theorem Inv.un {t' : Nat} (I : Inv X pins σ H s) (u : Un X.fs [] H H' s.heap h') (hok : HOk X.prog X.w H' h') : Inv X pins σ H' { s with heap := h', toks := t' } := by
 obtain ⟨m, ⟨o, es, ep, ho, r⟩, _⟩ := id I.loc
 obtain ⟨sl, hL⟩ := u.any ho I.free (by simp)
 exact I.step (g' := s.gens) (d' := s.drawn) (ch := []) (fun _ z => nomatch z) (fun b o _ hb _ e n => u.keep b o e n hb (by simp)) (fun b o _ hb _ e n => u.slot b o e n hb (by simp)) (fun b o _ e n => u.free b o e n (by simp)) (fun b o _ e => u.there b o e (by simp)) u.tups u.frzs u.tbls (fun m' hm => by
  obtain ⟨o', es', ep', ho', r'⟩ := hm
  rw [ho] at ho'; cases ho'
  exact ⟨_, es', ep', hL, r'⟩) hok I.bare
theorem Inv.call {g' : Array GenState} {t' : Nat} {d' : Drawn} {ch : List Addr} (I : Inv X pins σ H s) (u : Un (frs X.stack) ch H H' s.heap h') (hok : HOk X.prog X.w H' h') (hg : AllBare g')
  (hch : ∀ b ∈ ch, (b ∈ X.ex \/ X.s₀.heap.objs.size <= b) /\ b ≠ X.env.locals /\ (∀ x c, X.env.cells.lookup x = some c -> c ≠ b) /\ ∀ p ∈ X.pn ++ pins, p.1 ≠ b) :
  Inv X pins σ H' { s with heap := h', gens := g', drawn := d', toks := t' } := by
 obtain ⟨m, ⟨o, es, ep, ho, r⟩, _⟩ := id I.loc
 obtain ⟨sl, hL⟩ := u.any ho I.free fun z => (hch _ z).2.1 rfl
 exact I.step (ch := ch) hch (fun b o hL hb hc e n => u.keep b o e n (fun z => (List.mem_cons.mp (I.stkSub b z)).elim hL hb) hc) (fun b o _ _ hc e n => u.any e n hc) (fun b o hc e n => u.free b o e n hc) (fun b o hc e => u.there b o e hc) u.tups u.frzs u.tbls (fun m' hm => by
  obtain ⟨o', es', ep', ho', r'⟩ := hm
  rw [ho] at ho'; cases ho'
  exact ⟨_, es', ep', hL, r'⟩) hok hg
theorem Inv.turned {t' : Nat} {it : Addr} (I : Inv X pins σ H s) (k : ∀ b o, b ≠ it -> s.heap.get? b = some o -> h'.get? b = some o) (hn : H it = none) (hL : it ≠ X.env.locals)
  (h1 : it ∈ X.ex \/ X.s₀.heap.objs.size <= it) (h2 : ∀ x c, X.env.cells.lookup x = some c -> c ≠ it) (h3 : ∀ p ∈ X.pn ++ pins, p.1 ≠ it) : Inv X pins σ H { s with heap := h', toks := t' } := by
 have nit : ∀ b u, H b = some u -> b ≠ it := fun b u e z => by rw [z, hn] at e; cases e
 refine I.step (g' := s.gens) (d' := s.drawn) (ch := [it]) (fun b hb => ?_) (fun b o _ _ hc e _ => k b o (fun z => hc (by simp [z])) e) (fun b o _ _ hc e _ => ⟨o.slots, k b o (fun z => hc (by simp [z])) e⟩) (fun _ _ _ _ n => n)
  (fun b o hc e => ⟨o, k b o (fun z => hc (by simp [z])) e⟩) (fun _ _ e => e) (fun _ _ _ e => e) (fun b ps e => ⟨#[], by rw [e]; simp⟩) (fun m hm => ?_) (fun b u e => ?_) I.bare
 ·have e : b = it := by simpa using hb
  subst e
  exact ⟨h1, hL, h2, h3⟩
 ·obtain ⟨o, es, ep, ho, r⟩ := hm
  exact ⟨o, es, ep, k _ o (Ne.symm hL) ho, r⟩
 ·refine (I.hok b u e).stay (fun c v hc q => k c v ?_ q) (fun _ q => q) fun _ _ q => q
  rcases hc with z | z
  ·rw [z]; exact nit b u e
  ·exact nit c _ z
theorem Inv.tok (I : Inv X pins σ H s) (t : Nat) : Inv X pins σ H { s with toks := t } := I.un (h' := s.heap) (t' := t) Un.refl I.hok
theorem Inv.kept {t' : Nat} (I : Inv X pins σ H s) (k : ∀ b u, s.heap.get? b = some u -> h'.get? b = some u) : Inv X pins σ H { s with heap := h', toks := t' } := I.un (Un.kept k) (I.hok.kept k)
theorem Inv.laid {a : Addr} {o : HO} {t' : Nat} (I : Inv X pins σ H s) (k : ∀ b u, s.heap.get? b = some u -> h'.get? b = some u) (hp : s.heap.objs.size <= a) (new : zB X.prog X.w (upd H a o) h' a o) :
  Inv X pins σ (upd H a o) { s with heap := h', toks := t' } := I.un (Un.laid k hp (I.hok.fresh hp)) (I.hok.laid k hp new)
theorem Inv.write {x e : Addr} {o : HO} {t' : Nat} (I : Inv X pins σ H s) (mu : Mut (H x)) (he : e = x \/ H e = some (.own x)) (k : ∀ b u, b ≠ e -> s.heap.get? b = some u -> h'.get? b = some u) (heo : ∃ u, h'.get? e = some u)
  (new : zB X.prog X.w (upd H x o) h' x o) : Inv X pins σ (upd H x o) { s with heap := h', toks := t' } := I.un (Un.write mu he k heo) (I.hok.write mu he k heo new)
theorem Inv.pins_of {pins' : List (Addr × Obj)} (I : Inv X pins σ H s) (h : ∀ p ∈ pins', s.heap.get? p.1 = some p.2 /\ H p.1 = none /\ p.1 ≠ X.env.locals /\ p.1 ∉ X.fs /\ ∀ v, p.2.data ≠ .cell v) : Inv X pins' σ H s :=
 ⟨I.ok, I.os, I.bare, I.base, I.loc, I.cell, I.free, I.freeC, fun p hp => (List.mem_append.mp hp).elim (fun z => I.pin p (List.mem_append_left _ z)) (h p), I.hok, I.len⟩
theorem vF {N : List Str} (hN : N.Nodup) {i j : Nat} {x : Str} (a : N[i]? = some x) (b : N[j]? = some x) : i = j := by
 obtain ⟨h1, e1⟩ := List.getElem?_eq_some_iff.mp a
 obtain ⟨h2, e2⟩ := List.getElem?_eq_some_iff.mp b
 exact (List.getElem_inj hN).mp (e1.trans e2.symm)
theorem j9 {M : Model} {A : Around} {E : Value -> Shared -> Prop} {i : Nat} {x : Str} {v : V} {u : Value} {Q : Unit -> Shared -> Prop} (I : Inv X pins σ H s) (hN : X.N.Nodup) (hi : X.N[i]? = some x) (hx : Loc X.env.scope x) (r : zt v u)
    (h : ∀ s', Inv X pins (σ.set i (some v)) H s' -> (∃ a, Heap.SameBut a s.heap s'.heap /\ (a = X.env.locals \/ X.env.cells.lookup x = some a)) -> Q () s') (hf : X.fn x = true \/ X.env.scope.names.lookup x = some .local := by first | exact .inl rfl | exact .inr rfl | assumption) : wpAny M A (storeName X.env x u) Q E s := by
  obtain ⟨m, hn, hl⟩ := id I.loc
  have hcls : (X.env.scope.kind == .class || (X.env.scope.kind == .module && X.env.locals != X.env.globals)) = false := by rw [I.ok.kind]; rfl
  have hiσ : i < σ.length := by rw [I.len]; exact (List.getElem?_eq_some_iff.mp hi).1
  have cne := I.cne
  have tracked : ∀ {a : Addr} {h' : Heap}, (∃ o, s.heap.get? a = some o /\ H a = none) -> Heap.SameBut a s.heap h' -> HOk X.prog X.w H h' := fun {a h'} ha hs b ob e => by
    obtain ⟨_, _, hfree⟩ := ha
    refine (I.hok b ob e).stay (fun c w' hc q => (hs.2 c ?_).trans q) (fun _ q => q) fun _ _ q => q
    rintro rfl
    rcases hc with rfl | hc
    · rw [hfree] at e; cases e
    · rw [hfree] at hc; cases hc
  rcases hx with hk | hk
  · refine wpAny_storeName_local hk hn (fun h' hn' hs => ?_) hcls
    obtain ⟨oL, _, _, hoL, _⟩ := id hn
    refine h _ ⟨I.ok, I.os, I.bare, ⟨fun b o e n hb hx => ?_, fun b o e n hb hx => ?_, I.base.free, fun b o e hx => ?_, I.base.tups, I.base.frzs, I.base.tbls⟩, ⟨_, hn', fun j y v' e1 e2 e3 => ?_⟩, fun y c e => ?_, I.free, I.freeC, fun p hp => ?_, tracked ⟨oL, hoL, I.free⟩ hs, by simpa using I.len⟩ ⟨_, hs, .inl rfl⟩
    · exact (hs.2 b (Nat.ne_of_lt (Nat.lt_of_lt_of_le (Heap.lt_size e) I.ok.above))).trans (I.base.keep b o e n hb hx)
    · obtain ⟨sl, e1⟩ := I.base.slot b o e n hb hx
      exact ⟨sl, (hs.2 b (Nat.ne_of_lt (Nat.lt_of_lt_of_le (Heap.lt_size e) I.ok.above))).trans e1⟩
    · obtain ⟨o', e1⟩ := I.base.there b o e hx
      exact ⟨o', (hs.2 b (Nat.ne_of_lt (Nat.lt_of_lt_of_le (Heap.lt_size e) I.ok.above))).trans e1⟩
    · by_cases hj : j = i
      · subst hj
        rw [hi] at e1; cases e1
        rw [List.getElem?_set_self hiσ] at e2
        cases e2
        exact ⟨u, r, .inl ⟨hk, by simp⟩⟩
      · rw [List.getElem?_set_ne (Ne.symm hj)] at e2
        obtain ⟨u', r', q⟩ := hl j y v' e1 e2 e3
        refine ⟨u', r', ?_⟩
        rcases q with ⟨k, e⟩ | ⟨k, c, e, z⟩
        · refine .inl ⟨k, ?_⟩
          have : y ≠ x := fun e => hj (vF hN e1 (e ▸ hi))
          simp [this, e]
        · exact .inr ⟨k, c, e, z.sameBut hs (cne y c e)⟩
    · obtain ⟨w', z⟩ := I.cell y c e
      exact ⟨w', z.sameBut hs (cne y c e)⟩
    · obtain ⟨e, n, ne, nf, d⟩ := I.pin p hp
      exact ⟨(hs.2 p.1 ne).trans e, n, ne, nf, d⟩
  · have hfn : X.fn x = true := by
      rcases hf with z | z
      · exact z
      · rw [z] at hk; cases hk
    obtain ⟨c, hc⟩ := I.ok.has x (.inl hk)
    obtain ⟨w', z⟩ := I.cell x c hc
    refine wpAny_storeName_cell I.ok.kind hk hc z (fun h' hc' hs => ?_)
    obtain ⟨oc, hoc, hocd⟩ := id z
    refine h { s with heap := h' } ⟨I.ok, I.os, I.bare, ⟨fun b o e n hb hx => ?_, fun b o e n hb hx => ?_, I.base.free, fun b o e hx => ?_, I.base.tups, I.base.frzs, I.base.tbls⟩, ⟨m, hn.sameBut hs (Ne.symm (cne x c hc)), fun j y v' e1 e2 e3 => ?_⟩, fun y c' e => ?_, I.free, I.freeC, fun p hp => ?_, tracked ⟨oc, hoc, I.freeC x c hc⟩ hs, by simpa using I.len⟩ ⟨c, hs, .inr hc⟩
    · exact (hs.2 b (Nat.ne_of_lt (Nat.lt_of_lt_of_le (Heap.lt_size e) (I.ok.cab x c hfn hc)))).trans (I.base.keep b o e n hb hx)
    · obtain ⟨sl, e1⟩ := I.base.slot b o e n hb hx
      exact ⟨sl, (hs.2 b (Nat.ne_of_lt (Nat.lt_of_lt_of_le (Heap.lt_size e) (I.ok.cab x c hfn hc)))).trans e1⟩
    · obtain ⟨o', e1⟩ := I.base.there b o e hx
      exact ⟨o', (hs.2 b (Nat.ne_of_lt (Nat.lt_of_lt_of_le (Heap.lt_size e) (I.ok.cab x c hfn hc)))).trans e1⟩
    · by_cases hj : j = i
      · subst hj
        rw [hi] at e1; cases e1
        rw [List.getElem?_set_self hiσ] at e2
        cases e2
        exact ⟨u, r, .inr ⟨.inl hk, c, hc, hc'⟩⟩
      · rw [List.getElem?_set_ne (Ne.symm hj)] at e2
        obtain ⟨u', r', q⟩ := hl j y v' e1 e2 e3
        refine ⟨u', r', ?_⟩
        rcases q with q | ⟨k, c', e, z'⟩
        · exact .inl q
        · refine .inr ⟨k, c', e, z'.sameBut hs ?_⟩
          rintro rfl
          exact hj (vF hN e1 (I.ok.inj _ _ _ e hc ▸ hi))
    · by_cases hcc : c' = c
      · subst hcc; exact ⟨_, hc'⟩
      · obtain ⟨w2, z2⟩ := I.cell y c' e
        exact ⟨w2, z2.sameBut hs hcc⟩
    · obtain ⟨e, n, ne, nf, d⟩ := I.pin p hp
      refine ⟨(hs.2 p.1 ?_).trans e, n, ne, nf, d⟩
      intro q
      rw [q, hoc] at e
      have q' : oc = p.2 := Option.some.inj e
      exact d w' (by rw [<- q']; exact hocd)
theorem yQ {M : Model} {A : Around} {E : Value -> Shared -> Prop} {i : Nat} {x : Str} {v : V} {u : Value} {Q : Unit -> Shared -> Prop} (I : Inv X pins σ H s) (hN : X.N.Nodup) (hi : X.N[i]? = some x) (hx : Loc X.env.scope x) (r : zt v u)
  (h : ∀ s', Inv X pins (σ.set i (some v)) H s' -> Q () s') (hf : X.fn x = true \/ X.env.scope.names.lookup x = some .local := by first | exact .inl rfl | exact .inr rfl | assumption) : wpAny M A (storeName X.env x u) Q E s :=
 j9 I hN hi hx r (fun s' I' _ => h s' I') hf
theorem Inv.call' {s' : Shared} {ch : List Addr} (I : Inv X pins σ H s) (ho : s'.os = s.os) (u : Un (frs X.stack) ch H H' s.heap s'.heap) (hok : HOk X.prog X.w H' s'.heap) (hg : AllBare s'.gens)
  (hch : ∀ b ∈ ch, (b ∈ X.ex \/ X.s₀.heap.objs.size <= b) /\ b ≠ X.env.locals /\ (∀ x c, X.env.cells.lookup x = some c -> c ≠ b) /\ ∀ p ∈ X.pn ++ pins, p.1 ≠ b) : Inv X pins σ H' s' := by
 obtain ⟨h', g', d', t', o'⟩ := s'
 have e : o' = s.os := ho
 subst e
 exact I.call (g' := g') (t' := t') (d' := d') u hok hg hch
end
abbrev XK := Value -> Option Addr -> Hp -> Prop
abbrev St := List (Option V)
abbrev VK := V -> Hp -> Prop
abbrev TE := St -> Hp -> VK -> Prop
abbrev TT := St -> Hp -> (Bool -> Hp -> Prop) -> Prop
abbrev TA := St -> Hp -> (List V -> Hp -> Prop) -> Prop
structure kx where
 nx : St -> Hp -> Prop
 rt : VK
 bk : St -> Hp -> Prop := fun _ _ => False
 ct : St -> Hp -> Prop := fun _ _ => False
abbrev TS := kx -> St -> Hp -> Prop
def EP (X : Cx) (pins : List (Addr × Obj)) (σ : St) (Q : VK) (u : Value) (s' : Shared) : Prop := ∃ v H', Inv X pins σ H' s' /\ zt v u /\ Q v H'
def TP (X : Cx) (pins : List (Addr × Obj)) (σ : St) (Q : Bool -> Hp -> Prop) (b : Bool) (s' : Shared) : Prop := ∃ H', Inv X pins σ H' s' /\ Q b H'
def AP (X : Cx) (pins : List (Addr × Obj)) (σ : St) (Q : List V -> Hp -> Prop) (us : List Value) (s' : Shared) : Prop := ∃ vs H', Inv X pins σ H' s' /\ zv vs us /\ Q vs H'
def SP (X : Cx) (pins : List (Addr × Obj)) (D : kx) (f : Flow) (s' : Shared) : Prop :=
 match f with
 | .next => ∃ σ' H', Inv X pins σ' H' s' /\ D.nx σ' H'
 | .brk => ∃ σ' H', Inv X pins σ' H' s' /\ D.bk σ' H'
 | .cont => ∃ σ' H', Inv X pins σ' H' s' /\ D.ct σ' H'
 | .ret u => ∃ v σ' H', Inv X pins σ' H' s' /\ zt v u /\ D.rt v H'
def PE (X : Cx) (e : Expr) (t : TE) : Prop :=
 ∀ (pins : List (Addr × Obj)) (s : Shared) (σ : St) (H : Hp) (Q : VK), Inv X pins σ H s -> t σ H Q -> wpAny (model X.prog X.w) X.A (eval e X.env) (EP X pins σ Q) X.xe s
def PT (X : Cx) (e : Expr) (t : TT) : Prop :=
 ∀ (pins : List (Addr × Obj)) (s : Shared) (σ : St) (H : Hp) (Q : Bool -> Hp -> Prop), Inv X pins σ H s -> t σ H Q -> wpAny (model X.prog X.w) X.A (isTrue e X.env (eval e X.env)) (TP X pins σ Q) X.xe s
def PW (X : Cx) (e : Expr) (t : TT) : Prop :=
 ∀ (whole : Sem Value) (pins : List (Addr × Obj)) (s : Shared) (σ : St) (H : Hp) (Q : Bool -> Hp -> Prop), Inv X pins σ H s -> t σ H Q -> wpAny (model X.prog X.w) X.A (isTrue e X.env whole) (TP X pins σ Q) X.xe s
theorem PW.pt {X : Cx} {e : Expr} {t : TT} (h : PW X e t) : PT X e t := h _
def PA (X : Cx) (es : List Expr) (t : TA) : Prop :=
 ∀ (pos : Pos) (pins : List (Addr × Obj)) (s : Shared) (σ : St) (H : Hp) (Q : List V -> Hp -> Prop), Inv X pins σ H s -> t σ H Q -> wpAny (model X.prog X.w) X.A (spliced (backTo pos (starEach es X.env))) (AP X pins σ Q) X.xe s
def PS (X : Cx) (st : Stmt) (t : TS) : Prop :=
 ∀ (pins : List (Addr × Obj)) (s : Shared) (σ : St) (H : Hp) (D : kx), Inv X pins σ H s -> t D σ H -> wpAny (model X.prog X.w) X.A (exec st X.env) (SP X pins D) X.xe s
def PSs (X : Cx) (st : List Stmt) (t : TS) : Prop :=
 ∀ (pins : List (Addr × Obj)) (s : Shared) (σ : St) (H : Hp) (D : kx), Inv X pins σ H s -> t D σ H -> wpAny (model X.prog X.w) X.A (execs st X.env) (SP X pins D) X.xe s
theorem thn {α : Type} {t : Sem α} {Q Q' : α -> Shared -> Prop} {M : Model} {A : Around} {E : Value -> Shared -> Prop} {s : Shared} (h : wpAny M A t Q E s) (hQ : ∀ a s, Q a s -> Q' a s) : wpAny M A t Q' E s := wpAny_mono h hQ fun _ _ x => x
end L2
namespace L2
open PySem PySem.Spec PyProof.Rows
section
variable {X : Cx}
theorem bin {a b : Expr} {ta tb : TE} (ha : PE X a ta) (hb : PE X b tb) {pins : List (Addr × Obj)} {s : Shared} {σ : St} {H : Hp} {R : V -> V -> Hp -> Prop} (I : Inv X pins σ H s) (h : ta σ H fun x H1 => tb σ H1 fun y H2 => R x y H2)
  {α : Type} {Q : α -> Shared -> Prop} {f : Value -> Value -> Sem α}
  (hf : ∀ v u s2 x y H2, Inv X pins σ H2 s2 -> zt x v -> zt y u -> R x y H2 -> wpAny (model X.prog X.w) X.A (f v u) Q X.xe s2) :
  wpAny (model X.prog X.w) X.A (eval a X.env) (fun v s₁ => wpAny (model X.prog X.w) X.A (eval b X.env) (fun u s₂ => wpAny (model X.prog X.w) X.A (f v u) Q X.xe s₂) X.xe s₁) X.xe s := by
 refine thn (ha pins s σ H _ I h) fun v s1 ⟨x, H1, I1, r1, q1⟩ => ?_
 refine thn (hb pins s1 σ H1 _ I1 q1) fun u s2 ⟨y, H2, I2, r2, q2⟩ => ?_
 exact hf v u s2 x y H2 I2 r1 r2 q2
def KH (i : Nat) : TE := fun σ H Q => ∃ v, σ[i]? = some (some v) /\ Q v H
def tC (v : V) : TE := fun _ H Q => Q v H
theorem YX {i : Nat} {x : Str} {pos : Pos} (hN : X.N[i]? = some x) (hv : Vis X.env.scope x) (hd : (x == ("__debug__" : Str)) = false := by decide) (hcd : (x == ("__classdict__" : Str)) = false := by decide) : PE X (.Name x pos) (KH i) := by
 intro pins s σ H Q I h
 obtain ⟨v, e, h⟩ := h
 obtain ⟨m, hn, hl⟩ := I.loc
 obtain ⟨u, r, l⟩ := hl i x v hN e hv
 have fin : EP X pins σ Q u s := ⟨v, H, I, r, h⟩
 rcases l with ⟨hk, hm⟩ | ⟨hk, c, hc, hcell⟩
 ·exact wpAny_Name (wpAny_loadName_local I.ok.kind hk hn hm fin) hd
 ·rcases hk with hk | hk
  ·exact wpAny_Name (wpAny_loadName_cell I.ok.kind hk hc hcell fin) hd
  ·exact wpAny_Name (wpAny_loadName_free I.ok.kind hk hc hcell fin hcd) hd
theorem zb {i j pos} : PE X (.Constant (.int i) j pos) (tC (.int i)) := fun _ _ _ H _ I h => wpAny_Constant_int ⟨.int i, H, I.tok _, ⟨_, rfl⟩, h⟩
theorem jU {b j pos} : PE X (.Constant (.bool b) j pos) (tC (.bl b)) := fun _ _ _ H _ I h => Constant_bool ⟨.bl b, H, I, rfl, h⟩
theorem Vx {j pos} : PE X (.Constant .none j pos) (tC .non) := fun _ _ _ H _ I h => Constant_none ⟨.non, H, I, rfl, h⟩
def Gl (X : Cx) (x : Str) : Prop := X.env.kindOf x = some .globalImplicit
theorem Xd {E : Value -> Shared -> Prop} {pins : List (Addr × Obj)} {s : Shared} {σ : St} {H : Hp} {x : Str} {u : Value} {pos : Pos} {Q : Value -> Shared -> Prop} (I : Inv X pins σ H s) (hg : Gl X x) (hm : X.mg x = some u) (h : Q u s)
  (hd : (x == ("__debug__" : Str)) = false := by decide) : wpAny (model X.prog X.w) X.A (eval (.Name x pos) X.env) Q E s :=
 Calls.Name_function_global I.ok.kind hg (Calls.loadGlobal_global (by rw [I.ok.glob]; exact I.mod.glob.keeps I.bk) hm h) hd
theorem ke {E : Value -> Shared -> Prop} {pins : List (Addr × Obj)} {s : Shared} {σ : St} {H : Hp} {x : Str} {u : Value} {pos : Pos} {Q : Value -> Shared -> Prop} (I : Inv X pins σ H s) (hg : Gl X x) (hm : X.mg x = none) (hv : bootBuiltins x = some u) (h : Q u s)
  (hn : x ≠ "__name__" := by decide) (hd : (x == ("__debug__" : Str)) = false := by decide) : wpAny (model X.prog X.w) X.A (eval (.Name x pos) X.env) Q E s := by
 obtain ⟨mb, h1, h2⟩ := I.mod.blt
 exact Calls.Name_function_global I.ok.kind hg (Calls.loadGlobal_builtin (by rw [I.ok.glob]; exact I.mod.glob.keeps I.bk) hm (by rw [I.ok.blt]; exact h1.keeps I.bk) ((h2 x hn).trans hv) h) hd
theorem zH {x : Str} {v : V} {u : Value} {pos : Pos} (hg : Gl X x) (hm : X.mg x = none) (hv : bootBuiltins x = some u) (r : zt v u) (hn : x ≠ "__name__" := by decide) (hd : (x == ("__debug__" : Str)) = false := by decide) : PE X (.Name x pos) (tC v) :=
 fun _ _ _ H _ I h => ke I hg hm hv ⟨v, H, I, r, h⟩ hn hd
variable {a b : Expr} {ta tb : TE} {pos : Pos}
def PC (X : Cx) (op : CmpOp) (a b : Expr) (t : TE) : Prop :=
 ∀ (pins : List (Addr × Obj)) (s : Shared) (σ : St) (H : Hp) (Q : VK), Inv X pins σ H s -> t σ H Q ->
  wpAny (model X.prog X.w) X.A (eval a X.env) (fun v s₁ => wpAny (model X.prog X.w) X.A (eval b X.env) (fun u s₂ => wpAny (model X.prog X.w) X.A (compareOp op v u) (EP X pins σ Q) X.xe s₂) X.xe s₁) X.xe s
theorem Qx (b : Expr) {op : CmpOp} (h : op ≠ .In) (h2 : op ≠ .NotIn) : behindInMarks op b = false := by
 have e1 : (op == CmpOp.In) = false := by cases op <;> first | rfl | exact absurd rfl h
 have e2 : (op == CmpOp.NotIn) = false := by cases op <;> first | rfl | exact absurd rfl h2
 cases b <;> simp [behindInMarks, e1, e2]
def tB (t : TE) : TT := fun σ H Q => t σ H fun x H1 => ∃ c, x = .bl c /\ Q c H1
theorem WG {op : CmpOp} {t : TE} (h : PC X op a b t) (h1 : behindInMarks op b = false := by first | exact Qx _ (by decide) (by decide) | rfl) : PT X (.Compare a [op] [b] pos) (tB t) := by
 intro pins s σ H Q I hw
 refine wpAny_isTrue_Compare1 (thn (h pins s σ H _ I hw) fun v s1 h1 => thn h1 fun u s2 h2 => thn h2 fun c s3 ⟨x, H1, I1, r1, q1⟩ => ?_) h1
 obtain ⟨d, rfl, q⟩ := q1
 cases r1
 exact wpAny_truthy_bool ⟨H1, I1, q⟩
theorem qP {e : Expr} {t : TE} (h : PE X e t) (he : ∀ whole, isTrue e X.env whole = (do let v <- whole; standAt e.pos; holding [v] (truthy v)) := by intro _; rfl) : PT X e (tB t) := by
 intro pins s σ H Q I hw
 refine isTrue_plain (thn (h pins s σ H _ I hw) fun v s1 ⟨x, H1, I1, r1, q1⟩ => ?_) (he _)
 obtain ⟨d, rfl, q⟩ := q1
 cases r1
 exact wpAny_truthy_bool ⟨H1, I1, q⟩
variable {tA tB' : TT} {qt : List Expr}
def tOr (t u : TT) : TT := fun σ H Q => t σ H fun c H1 => if c = true then Q true H1 else u σ H1 Q
def YN (t : TT) : TT := fun σ H Q => t σ H fun c H1 => Q (!c) H1
theorem kZ (ha : PT X a tA) : PW X (.BoolOp .Or [a] pos) tA := by
 intro wh pins s σ H Q I h
 refine isTrue_or (thn (ha pins s σ H Q I h) fun c s1 e => ?_)
 cases c with
 | false => exact isTrue_or_nil e
 | true => exact e
theorem xk (ha : PT X a tA) (hb : PW X (.BoolOp .Or (b :: qt) pos) tB') : PW X (.BoolOp .Or (a :: b :: qt) pos) (tOr tA tB') := by
 intro wh pins s σ H Q I h
 refine isTrue_or (thn (ha pins s σ H _ I h) fun c s1 ⟨H1, I1, q1⟩ => ?_)
 cases c with
 | true => exact ⟨H1, I1, q1⟩
 | false => exact hb wh pins s1 σ H1 Q I1 q1
theorem jf (ha : PT X a tA) : PT X (.UnaryOp .Not a pos) (YN tA) := by
 intro pins s σ H Q I h
 exact isTrue_not (ha pins s σ H (fun c H1 => Q (!c) H1) I h)
def Q4 (ta tb : TE) : TE := fun σ H Q => ta σ H fun x H1 => ∃ c, x = .bl c /\ if c = true then tb σ H1 Q else Q (.bl false) H1
def Ql (ta : TE) : TE := fun σ H Q => ta σ H fun x H1 => ∃ c, x = .bl c /\ Q (.bl (!c)) H1
theorem yo {op} {t : TE} (h : PE X a t) : PE X (.BoolOp op [a] pos) t := fun pins s σ H Q I hw => BoolOp_one (h pins s σ H Q I hw)
theorem j4 (ha : PE X a ta) (hb : PE X (.BoolOp .And (b :: qt) pos) tb) : PE X (.BoolOp .And (a :: b :: qt) pos) (Q4 ta tb) := by
 intro pins s σ H Q I h
 refine BoolOp_and (thn (ha pins s σ H _ I h) fun v s1 ⟨x, H1, I1, r1, q1⟩ => ?_)
 obtain ⟨c, rfl, q1⟩ := q1
 cases r1
 refine wpAny_truthy_bool ?_
 cases c with
 | true => exact hb pins s1 σ H1 Q I1 q1
 | false => exact ⟨.bl false, H1, I1, rfl, q1⟩
theorem YF (ha : PE X a ta) : PE X (.UnaryOp .Not a pos) (Ql ta) := by
 intro pins s σ H Q I h
 refine UnaryOp_ (thn (ha pins s σ H _ I h) fun v s1 ⟨x, H1, I1, r1, q1⟩ => ?_)
 obtain ⟨c, rfl, q1⟩ := q1
 cases r1
 exact not_of (wpAny_truthy_bool ⟨.bl (!c), H1, I1, rfl, q1⟩)
end
end L2
namespace L2
open PySem PySem.Spec PyProof.Rows
def SqL (K : PySem.W.Frag) (H : Hp) (a : Addr) (xs : List V) : Prop :=
 Rd H a (.lst xs) \/
  ∃ (o : Obj) (its : Array Value) (n : Nat), K.lookup a = some o /\ o.cls = .type "list" /\ o.dict = none /\ o.data = .seq its n /\ its.size <= sizeLine /\ zv xs its.toList
def SqT (K : PySem.W.Frag) (H : Hp) (a : Addr) (xs : List V) : Prop :=
 Rd H a (.tup xs) \/
  ∃ (o : Obj) (its : Array Value) (n : Nat), K.lookup a = some o /\ o.cls = .type "tuple" /\ o.data = .seq its n /\ its.size <= sizeLine /\ zv xs its.toList
def WC : Value -> Option V
 | .none => some .non
 | .bool b => some (.bl b)
 | .int i _ => some (.int i)
 | .str x _ => some (.str x)
 | .bytes b _ => some (.byt b)
 | .float b _ => some (.flt b)
 | .ref a => some (.ref a)
 | .type n => some (.ty n)
 | _ => none
theorem zt.abs {x : V} {u : Value} (r : zt x u) : WC u = some x := by
 cases x with
 | non => cases r; rfl
 | bl _ => cases r; rfl
 | int _ => obtain ⟨t, rfl⟩ := r; rfl
 | str _ => obtain ⟨t, rfl⟩ := r; rfl
 | byt _ => obtain ⟨t, rfl⟩ := r; rfl
 | flt _ => obtain ⟨t, rfl⟩ := r; rfl
 | ref _ => cases r; rfl
 | ty _ => cases r; rfl
theorem zt.inj {x y : V} {u : Value} (r : zt x u) (q : zt y u) : x = y := Option.some.inj (r.abs.symm.trans q.abs)
theorem zv.inj : ∀ {xs ys : List V} {us : List Value}, zv xs us -> zv ys us -> xs = ys
 | _, _, _, .nil, .nil => rfl
 | _, _, _, .cons r t, .cons r' t' => by rw [r.inj r', zv.inj t t']
section
variable {X : Cx} {pins : List (Addr × Obj)} {σ : St} {H : Hp} {s : Shared} {a : Addr} {xs ys : List V}
theorem SqL.of {K : PySem.W.Frag} (h : H a = some (.lst xs)) : SqL K H a xs := .inl (.inl h)
theorem SqT.of {K : PySem.W.Frag} (h : H a = some (.tup xs)) : SqT K H a xs := .inl (.inl h)
theorem Inv.list (I : Inv X pins σ H s) (h : SqL X.K H a xs) : ∃ its : List Value, zv xs its /\ PlainL s.heap a its.toArray /\ xs.length <= sizeLine := by
 rcases h with h | ⟨o, its, n, hk, hc, hd, hs, hz, r⟩
 ·obtain ⟨z, its, n, r, e⟩ := h.ok I.hok
  exact ⟨its, r, ⟨_, n, e, rfl, rfl, rfl⟩, z⟩
 ·refine ⟨its.toList, r, ⟨o, n, I.kIn a o hk, hc, hd, by simpa using hs⟩, ?_⟩
  have e := r.length
  simp only [Array.length_toList] at e
  omega
theorem Inv.tuple (I : Inv X pins σ H s) (h : SqT X.K H a xs) : ∃ its : List Value, zv xs its /\ IsTup s.heap a its.toArray /\ xs.length <= sizeLine := by
 rcases h with h | ⟨o, its, n, hk, hc, hs, hz, r⟩
 ·obtain ⟨z, its, r, p⟩ := h.ok I.hok
  exact ⟨its, r, p.is, z⟩
 ·refine ⟨its.toList, r, ⟨o, I.kIn a o hk, hc, n, by simpa using hs⟩, ?_⟩
  have e := r.length
  simp only [Array.length_toList] at e
  omega
theorem Inv.list_inj (I : Inv X pins σ H s) (h : SqL X.K H a xs) (h' : SqL X.K H a ys) : xs = ys := by
 obtain ⟨its, r, ⟨o, n, e, _, _, d⟩, _⟩ := I.list h
 obtain ⟨its', r', ⟨o', n', e', _, _, d'⟩, _⟩ := I.list h'
 rw [e] at e'; cases e'
 rw [d] at d'
 injection d' with d1 _
 have : its = its' := by simpa using congrArg Array.toList d1
 subst this
 exact r.inj r'
theorem Inv.tuple_inj (I : Inv X pins σ H s) (h : SqT X.K H a xs) (h' : SqT X.K H a ys) : xs = ys := by
 obtain ⟨its, r, ⟨o, e, _, n, d⟩, _⟩ := I.tuple h
 obtain ⟨its', r', ⟨o', e', _, n', d'⟩, _⟩ := I.tuple h'
 rw [e] at e'; cases e'
 rw [d] at d'
 injection d' with d1 _
 have : its = its' := by simpa using congrArg Array.toList d1
 subst this
 exact r.inj r'
end
abbrev Cx.wish (X : Cx) (E : Value -> Shared -> Prop) : Cx := { X with xe := E }
abbrev Cx.nox (X : Cx) : Cx := X.wish fun _ _ => False
theorem Cx.Ok.wish {X : Cx} (ok : X.Ok) (E : Value -> Shared -> Prop) : (X.wish E).Ok :=
 ⟨ok.mod, ok.kind, ok.glob, ok.blt, ok.above, ok.inj, ok.has, ok.cab, ok.hd, ok.frames, ok.stk, ok.exf, ok.bs, ok.bsz, ok.noex, ok.exfs, ok.funs, ok.frf⟩
theorem Cx.Ok.unwish {X : Cx} {E : Value -> Shared -> Prop} (ok : (X.wish E).Ok) : X.Ok :=
 ⟨ok.mod, ok.kind, ok.glob, ok.blt, ok.above, ok.inj, ok.has, ok.cab, ok.hd, ok.frames, ok.stk, ok.exf, ok.bs, ok.bsz, ok.noex, ok.exfs, ok.funs, ok.frf⟩
section
variable {X : Cx} {pins : List (Addr × Obj)} {σ : St} {H : Hp} {s : Shared} {E : Value -> Shared -> Prop}
theorem Inv.wish (I : Inv X pins σ H s) (E : Value -> Shared -> Prop) : Inv (X.wish E) pins σ H s := ⟨I.ok.wish E, I.os, I.bare, I.base, I.loc, I.cell, I.free, I.freeC, I.pin, I.hok, I.len⟩
theorem Inv.unwish (I : Inv (X.wish E) pins σ H s) : Inv X pins σ H s := ⟨I.ok.unwish, I.os, I.bare, I.base, I.loc, I.cell, I.free, I.freeC, I.pin, I.hok, I.len⟩
theorem SP.unwish {D : kx} {f : Flow} {s' : Shared} (h : SP (X.wish E) pins D f s') : SP X pins D f s' := by
 cases f with
 | next => obtain ⟨σ', H', I, q⟩ := h; exact ⟨σ', H', I.unwish, q⟩
 | brk => obtain ⟨σ', H', I, q⟩ := h; exact ⟨σ', H', I.unwish, q⟩
 | cont => obtain ⟨σ', H', I, q⟩ := h; exact ⟨σ', H', I.unwish, q⟩
 | ret u => obtain ⟨v, σ', H', I, r, q⟩ := h; exact ⟨v, σ', H', I.unwish, r, q⟩
theorem PSs.nox {st : List Stmt} {t : TS} (h : PSs X.nox st t) : PSs X st t := fun pins s σ H D I hw =>
 wpAny_mono (h pins s σ H D (I.wish _) hw) (fun _ _ q => q.unwish) fun _ _ z => False.elim z
end
section
variable {X : Cx} {st : Stmt} {qt : List Stmt} {t u : TS} {e : Expr} {te : TE} {pos : Pos}
def Z5 : TS := fun D σ H => D.nx σ H
def XE (t u : TS) : TS := fun D σ H => t { D with nx := u D } σ H
theorem zL : PSs X [] Z5 := fun _ _ σ H _ I h => wpAny_execs_nil ⟨σ, H, I, h⟩
theorem zd (h1 : PS X st t) (h2 : PSs X qt u) : PSs X (st :: qt) (XE t u) := by
 intro pins s σ H D I h
 refine wpAny_execs_cons (thn (h1 pins s σ H { D with nx := u D } I h) fun f s1 q => ?_)
 cases f with
 | next =>
  obtain ⟨σ', H', I', q⟩ := q
  exact h2 pins s1 σ' H' D I' q
 | ret v => exact q
 | brk => exact q
 | cont => exact q
theorem zh (h1 : PS X st t) : PSs X [st] t := by
 intro pins s σ H D I h
 refine wpAny_execs_cons (thn (h1 pins s σ H D I h) fun f s1 q => ?_)
 cases f with
 | next => exact wpAny_execs_nil q
 | ret v => exact q
 | brk => exact q
 | cont => exact q
theorem Inv.quiet {pins : List (Addr × Obj)} {σ : St} {H : Hp} {s : Shared} (I : Inv X pins σ H s) : interactive X.env = false := by simp [interactive, I.ok.kind]
def Jz (te : TE) : TS := fun D σ H => te σ H fun _ H1 => D.nx σ H1
theorem KW (he : PE X e te) (hs : swapsWith e none pos.line X.env = pure false := by rfl) : PS X (.Expr e pos) (Jz te) := by
 intro pins s σ H D I h
 exact wpAny_Expr_any (thn (he pins s σ H _ I h) fun v s1 ⟨x, H1, I1, r1, q1⟩ => ⟨σ, H1, I1, q1⟩) I.quiet hs
def Vu (te : TE) : TS := fun D σ H => te σ H D.rt
theorem zu (he : PE X e te) : PS X (.Return (some e) pos) (Vu te) := by
 intro pins s σ H D I h
 exact wpAny_Return_some (thn (he pins s σ H _ I h) fun v s1 ⟨x, H1, I1, r1, q1⟩ => ⟨x, σ, H1, I1, r1, q1⟩)
def X1 (c : TT) (t u : TS) : TS := fun D σ H => c σ H fun b H1 => if b = true then t D σ H1 else u D σ H1
theorem qu {c : Expr} {a b : List Stmt} {tc : TT} (hc : PT X c tc) (ha : PSs X a t) (hb : PSs X b u) : PS X (.If c a b pos) (X1 tc t u) := by
 intro pins s σ H D I h
 refine wpAny_If (thn (hc pins s σ H _ I h) fun d s1 ⟨H1, I1, q1⟩ => ?_)
 cases d with
 | true => exact ha pins s1 σ H1 D I1 q1
 | false => exact hb pins s1 σ H1 D I1 q1
end
abbrev TG := V -> St -> Hp -> (St -> Hp -> Prop) -> Prop
abbrev TGs := List V -> St -> Hp -> (St -> Hp -> Prop) -> Prop
def PG (X : Cx) (target : Expr) (t : TG) : Prop :=
 ∀ (pins : List (Addr × Obj)) (s : Shared) (σ : St) (H : Hp) (v : V) (u : Value) (Q : St -> Hp -> Prop), Inv X pins σ H s -> zt v u -> t v σ H Q ->
  wpAny (model X.prog X.w) X.A (assign target X.env u) (fun _ s' => ∃ σ' H', Inv X pins σ' H' s' /\ Q σ' H') X.xe s
def PGs (X : Cx) (ts : List Expr) (t : TGs) : Prop :=
 ∀ (pins : List (Addr × Obj)) (s : Shared) (σ : St) (H : Hp) (vs : List V) (us : List Value) (Q : St -> Hp -> Prop), Inv X pins σ H s -> zv vs us -> t vs σ H Q ->
  wpAny (model X.prog X.w) X.A (assignInOrder ((assignEach ts X.env).map (·.2)) us) (fun _ s' => ∃ σ' H', Inv X pins σ' H' s' /\ Q σ' H') X.xe s
abbrev Q1 := V -> V -> V -> Hp -> (Hp -> Prop) -> Prop
def XY (X : Cx) (t : Q1) : Prop :=
 ∀ (pins : List (Addr × Obj)) (s : Shared) (σ : St) (H : Hp) (o i v : V) (ov iv u : Value) (Q : Hp -> Prop), Inv X pins σ H s -> zt o ov -> zt i iv -> zt v u -> t o i v H Q ->
  wpAny (model X.prog X.w) X.A (setItem ov iv u) (fun _ s' => ∃ H', Inv X pins σ H' s' /\ Q H') X.xe s
abbrev TIp := V -> V -> Hp -> VK -> Prop
section
variable {X : Cx} {pos : Pos}
def xw (i : Nat) : TG := fun v σ H Q => Q (σ.set i (some v)) H
theorem zr {i : Nat} {x : Str} (hN : X.N.Nodup) (hi : X.N[i]? = some x) (hx : Loc X.env.scope x) (hf : X.fn x = true \/ X.env.scope.names.lookup x = some .local := by first | exact .inl rfl | exact .inr rfl | assumption) : PG X (.Name x pos) (xw i) := by
 intro pins s σ H v u Q I r h
 exact wpAny_assign_Name (yQ I hN hi hx r (fun s' I' => ⟨_, H, I', h⟩) hf)
def Yj : TGs := fun vs σ H Q => vs = [] /\ Q σ H
def Z6 (t : TG) (u : TGs) : TGs := fun vs σ H Q => ∃ v r, vs = v :: r /\ t v σ H fun σ' H' => u r σ' H' Q
theorem jM : PGs X [] Yj := by
 intro pins s σ H vs us Q I r h
 obtain ⟨e, h⟩ := h
 subst e
 cases r
 exact assignInOrder_nil ⟨σ, H, I, h⟩
theorem zX {e : Expr} {es : List Expr} {t : TG} {u : TGs} (h1 : PG X e t) (h2 : PGs X es u)
  (hs : (assignEach (e :: es) X.env).map (·.2) = assign e X.env :: (assignEach es X.env).map (·.2) := by rfl) : PGs X (e :: es) (Z6 t u) := by
 intro pins s σ H vs us Q I r h
 obtain ⟨v, vr, e1, h⟩ := h
 subst e1
 cases r with
 | cons r rr =>
  rw [hs]
  refine assignInOrder_cons (thn (h1 pins s σ H _ _ _ I r h) fun _ s1 ⟨σ1, H1, I1, q1⟩ => ?_)
  exact h2 pins s1 σ1 H1 _ _ Q I1 rr q1
def Xa (K : PySem.W.Frag) (n : Nat) (t : TGs) : TG := fun v σ H Q => ∃ a xs, v = .ref a /\ SqT K H a xs /\ xs.length = n /\ t xs σ H Q
theorem Vp {es : List Expr} {k : Nat} {t : TGs} {n : Nat} (hc : X.calm = true) (h : PGs X es t)
  (hn : (assignEach es X.env).length = n := by rfl) (hst : (assignEach es X.env).findIdx? (·.1) = none := by rfl) : PG X (.Tuple es k pos) (Xa X.K n t) := by
 intro pins s σ H v u Q I r hw
 obtain ⟨a, xs, e1, hq, hl, hw⟩ := hw
 subst e1
 cases r
 obtain ⟨its, rv, ht, hz⟩ := I.tuple hq
 refine assign_Tuple_tuple (I.ok.hd hc) ht (by simp [hn, <- hl, rv.length]) hst fun h' hx => ?_
 have I1 : Inv X pins σ H { s with heap := h' } := I.kept (t' := s.toks) fun b o e => hx b o (Nat.ne_of_lt (Heap.lt_size e)) e
 exact h pins _ σ H xs _ Q I1 (by simpa using rv) hw
def VA (to ti : TE) (t : Q1) : TG := fun v σ H Q => to σ H fun o H1 => ti σ H1 fun i H2 => t o i v H2 fun H3 => Q σ H3
theorem kE {o i : Expr} {to ti : TE} {t : Q1} (ho : PE X o to) (hi : PE X i ti) (hs : XY X t)
  (ha : ∀ v, assign (.Subscript o i pos) X.env v = (do
   let ov <- holding [v] (eval o X.env)
   let iv <- holding [v, ov] (eval i X.env)
   standAt pos
   holding [v, ov, iv] (setItem ov iv v)
   release [v, ov, iv] []) := by intro _; rfl) : PG X (.Subscript o i pos) (VA to ti t) := by
 intro pins s σ H v u Q I r h
 rw [ha]
 refine wpAny_bind (wpAny_holding (thn (ho pins s σ H _ I h) fun ov s1 ⟨x, H1, I1, r1, q1⟩ => ?_))
 refine wpAny_bind (wpAny_holding (thn (hi pins s1 σ H1 _ I1 q1) fun iv s2 ⟨y, H2, I2, r2, q2⟩ => ?_))
 refine wpAny_bind (wpAny_standAt (wpAny_bind (wpAny_holding (thn (hs pins s2 σ H2 x y v ov iv u _ I2 r1 r2 r q2) fun _ s3 ⟨H3, I3, q3⟩ => ?_))))
 exact wpAny_release ⟨σ, H3, I3, q3⟩
def ZA (te : TE) (g : TG) : TS := fun D σ H => te σ H fun x H1 => g x σ H1 D.nx
theorem jI {tg e : Expr} {te : TE} {g : TG} (he : PE X e te) (hg : PG X tg g) (hs : swapsWithSole [tg] e pos.line X.env = pure false := by rfl) (hw : swappedStores [tg] e X.env = pure none := by rfl)
  (h1 : (assignEach [tg] X.env).map (·.2) = [assign tg X.env] := by rfl) : PS X (.Assign [tg] e pos) (ZA te g) := by
 intro pins s σ H D I h
 refine wpAny_Assign_stores (thn (he pins s σ H _ I h) fun v s1 ⟨x, H1, I1, r1, q1⟩ => ?_) hs hw
 rw [h1]
 exact thn (hg pins s1 σ H1 x v _ I1 r1 q1) fun _ s2 q => q
theorem zS {i : Nat} {x : Str} {e : Expr} {te : TE} {pos' : Pos} (hN : X.N.Nodup) (hi : X.N[i]? = some x) (hx : Loc X.env.scope x) (he : PE X e te) (hs : swapsWith e (some (.Name x pos')) pos.line X.env = pure false := by rfl) (hf : X.fn x = true \/ X.env.scope.names.lookup x = some .local := by first | exact .inl rfl | exact .inr rfl | assumption) :
  PS X (.Assign [.Name x pos'] e pos) (ZA te (xw i)) := by
 intro pins s σ H D I h
 refine wpAny_Assign_Name (thn (he pins s σ H _ I h) fun v s1 ⟨y, H1, I1, r1, q1⟩ => ?_) hs
 exact yQ I1 hN hi hx r1 (fun s2 I2 => ⟨_, H1, I2, q1⟩) hf
end
section
variable {X : Cx} {pos : Pos}
end
structure It where
 go : Nat -> Hp -> Prop
 yld : Nat -> Hp -> V -> Hp -> Prop
 stop : Nat -> Hp -> Prop
def jA (X : Cx) (pins : List (Addr × Obj)) (H : Hp) (b : Addr) : Prop :=
 H b = none /\ b ≠ X.env.locals /\ b ∉ X.fs /\ (b ∈ X.ex \/ X.s₀.heap.objs.size <= b) /\ (∀ x c, X.env.cells.lookup x = some c -> c ≠ b) /\ ∀ p ∈ X.pn ++ pins, p.1 ≠ b
theorem Inv.fpOk {X : Cx} {pins : List (Addr × Obj)} {σ : St} {H H' : Hp} {s : Shared} {b : Addr} (I : Inv X pins σ H s) (hb : s.heap.objs.size <= b) (hn : H' b = none) : jA X pins H' b := by
 refine ⟨hn, Nat.ne_of_gt (Nat.lt_of_lt_of_le I.lt hb), I.nofs hb, .inr (Nat.le_trans I.sz hb), fun x c e z => ?_, fun p hp z => ?_⟩
 ·obtain ⟨v, q⟩ := I.cell x c e
  exact absurd (Nat.lt_of_lt_of_le q.lt (by rw [z]; exact hb)) (Nat.lt_irrefl _)
 ·exact absurd (Nat.lt_of_lt_of_le (Heap.lt_size (I.pin p hp).1) (by rw [z]; exact hb)) (Nat.lt_irrefl _)
structure yO (P : Program) (w : World) (K : PySem.W.Frag) (tg : Expr) (J : It) (fp : List Addr) (it : Addr) (tn : Nat -> Heap -> Prop) : Prop where
 mem : it ∈ fp
 obj : ∀ i h, tn i h -> ∀ b ∈ fp, ∃ o, h.get? b = some o /\ ∀ v, o.data ≠ .cell v
 keep : ∀ i h h', tn i h -> (∀ b ∈ fp, ∀ o, h.get? b = some o -> h'.get? b = some o) -> tn i h'
 item : ∀ (X : Cx), X.prog = P -> X.w = w -> X.K = K -> X.calm = true -> ∀ (i : Nat) (pins : List (Addr × Obj)) (s : Shared) (σ : St) (H : Hp) (E : Value -> Shared -> Prop), Inv X pins σ H s -> (∀ b ∈ fp, jA X pins H b) -> tn i s.heap -> J.go i H ->
  wpAny (model P w) X.A (pyNext (.ref it)) (fun r s1 => ∃ u, r = some u /\
   wpAny (model P w) X.A (letOwnedTupleGo tg (.ref it) u) (fun _ s2 => ∃ x H', Inv X pins σ H' s2 /\ zt x u /\ J.yld i H x H' /\ tn (i + 1) s2.heap /\ ∀ b ∈ fp, H' b = none) E s1) E s
 done : ∀ (X : Cx), X.prog = P -> X.w = w -> X.K = K -> X.calm = true -> ∀ (i : Nat) (pins : List (Addr × Obj)) (s : Shared) (σ : St) (H : Hp) (E : Value -> Shared -> Prop), Inv X pins σ H s -> (∀ b ∈ fp, jA X pins H b) -> tn i s.heap -> J.stop i H ->
  wpAny (model P w) X.A (pyNext (.ref it)) (fun r s1 => r = none /\ Inv X pins σ H s1) E s
 self : ∀ (A : Around) (i : Nat) (s : Shared) (Q : Value -> Shared -> Prop) (E : Value -> Shared -> Prop), tn i s.heap -> Q (.ref it) s -> wpAny (model P w) A (pyIter (.ref it)) Q E s
abbrev TI := St -> Hp -> (It -> Hp -> Prop) -> Prop
def PIE (X : Cx) (pins : List (Addr × Obj)) (σ : St) (tg : Expr) (R : It -> Hp -> Prop) (itv : Value) (s2 : Shared) : Prop :=
 ∃ (it : Addr) (fp : List Addr) (tn : Nat -> Heap -> Prop) (J : It) (H' : Hp), itv = .ref it /\ Inv X pins σ H' s2 /\ yO X.prog X.w X.K tg J fp it tn /\ tn 0 s2.heap /\ (∀ b ∈ fp, jA X pins H' b) /\ R J H'
def PI (X : Cx) (tg iter : Expr) (wi : TI) : Prop :=
 ∀ (pins : List (Addr × Obj)) (s : Shared) (σ : St) (H : Hp) (R : It -> Hp -> Prop), Inv X pins σ H s -> wi σ H R ->
  wpAny (model X.prog X.w) X.A (eval iter X.env) (fun v s1 => wpAny (model X.prog X.w) X.A (pyIter v) (PIE X pins σ tg R) X.xe s1) X.xe s
theorem QI {M : Model} {A : Around} {E : Value -> Shared -> Prop} {s : Shared} {tg : Expr} {it : Addr} {u : Value} {o : Obj} {n : String} {vs : Array Value} {Q : Unit -> Shared -> Prop} (ho : s.heap.get? it = some o) (hc : o.cls = .type n) (hd : o.data = .fields vs)
    (hn : ["enumerate", "zip", "dict_itemiterator", "dict_reverseitemiterator", "odict_iterator", "itertools.zip_longest", "itertools.pairwise"].contains n = false) (hQ : Q () s) : wpAny M A (letOwnedTupleGo tg (.ref it) u) Q E s := by
  unfold letOwnedTupleGo
  cases tg <;> first
    | exact wpAny_pure hQ
    | (cases u <;> first
        | exact wpAny_pure hQ
        | (refine wpAny_bind (wpAny_load ho ?_)
           rw [hc, hd]
           show wpAny M A (if (["enumerate", "zip", "dict_itemiterator", "dict_reverseitemiterator", "odict_iterator", "itertools.zip_longest", "itertools.pairwise"].contains n && vs[0]? == some (rawInt _)) = true then _ else _) Q E s
           rw [if_neg (by intro h; rw [hn, Bool.false_and] at h; cases h)]
           exact wpAny_pure hQ))
def Itl (K : PySem.W.Frag) (a : Addr) : It :=
 ⟨fun i H => ∃ xs x, SqL K H a xs /\ xs[i]? = some x, fun i H x H' => H' = H /\ ∀ xs, SqL K H a xs -> xs[i]? = some x, fun i H => ∃ xs, SqL K H a xs /\ xs.length <= i⟩
def Itt (K : PySem.W.Frag) (a : Addr) : It :=
 ⟨fun i H => ∃ xs x, SqT K H a xs /\ xs[i]? = some x, fun i H x H' => H' = H /\ ∀ xs, SqT K H a xs -> xs[i]? = some x, fun i H => ∃ xs, SqT K H a xs /\ xs.length <= i⟩
def Itr (lo : Int) (n : Nat) : It := ⟨fun i _ => i < n, fun i H x H' => H' = H /\ x = .int (lo + i), fun i _ => n <= i⟩
theorem Zq {P : Program} {w : World} {K : PySem.W.Frag} {tg : Expr} (a it : Addr) : yO P w K tg (Itl K a) [it] it (fun i h => h.IsListIter it a i) where
 mem := by simp
 obj := fun i h st b hb => by
  have e : b = it := by simpa using hb
  subst e
  obtain ⟨o, e, c, d⟩ := st
  exact ⟨o, e, fun v z => by rw [d] at z; cases z⟩
 keep := fun i h h' st k => st.at fun o e => k it (by simp) o e
 item := by
  intro X hP hw hK hc i pins s σ H E I hf st hg
  subst hP hw hK
  obtain ⟨xs, x, hq, hx⟩ := hg
  obtain ⟨its, rv, p, hz⟩ := I.list hq
  obtain ⟨u, hu, ru⟩ := rv.get hx
  obtain ⟨f0, f1, f2, f3, f4, f5⟩ := hf it (by simp)
  refine wpAny_pyNext_list_item st p.isList (x := u) (by simpa using hu) fun h' st' sb => ?_
  have I1 : Inv X pins σ H { s with heap := h' } := I.turned (t' := s.toks) (fun b o hb e => (sb.2 b hb).trans e) f0 f1 f3 f4 f5
  obtain ⟨o, e, c, d⟩ := id st'
  exact ⟨u, rfl, QI (s := { s with heap := h' }) e c d (by decide) ⟨x, H, I1, ru, ⟨rfl, fun ys hy => by rw [I.list_inj hy hq]; exact hx⟩, st', fun b hb => (hf b hb).1⟩⟩
 done := by
  intro X hP hw hK hc i pins s σ H E I hf st hg
  subst hP hw hK
  obtain ⟨xs, hq, hx⟩ := hg
  obtain ⟨its, rv, p, hz⟩ := I.list hq
  obtain ⟨f0, f1, f2, f3, f4, f5⟩ := hf it (by simp)
  have hl := rv.length
  exact wpAny_pyNext_list_end (I.ok.hd hc) st p.isList (by simp; omega) fun h' eb => ⟨rfl, I.turned (t' := s.toks) (fun b o hb e => eb b o hb e) f0 f1 f3 f4 f5⟩
 self := fun _ _ _ _ _ st h => wpAny_pyIter_listiter st h
theorem wc {P : Program} {w : World} {K : PySem.W.Frag} {tg : Expr} (a it : Addr) : yO P w K tg (Itt K a) [it] it (fun i h => h.IsTupleIter it a i) where
 mem := by simp
 obj := fun i h st b hb => by
  have e : b = it := by simpa using hb
  subst e
  obtain ⟨o, e, c, d⟩ := st
  exact ⟨o, e, fun v z => by rw [d] at z; cases z⟩
 keep := fun i h h' st k => st.at fun o e => k it (by simp) o e
 item := by
  intro X hP hw hK hc i pins s σ H E I hf st hg
  subst hP hw hK
  obtain ⟨xs, x, hq, hx⟩ := hg
  obtain ⟨its, rv, p, hz⟩ := I.tuple hq
  obtain ⟨u, hu, ru⟩ := rv.get hx
  obtain ⟨f0, f1, f2, f3, f4, f5⟩ := hf it (by simp)
  refine wpAny_pyNext_tuple_item st (show s.heap.IsTuple a its.toArray from p) (x := u) (by simpa using hu) fun h' st' sb => ?_
  have I1 : Inv X pins σ H { s with heap := h' } := I.turned (t' := s.toks) (fun b o hb e => (sb.2 b hb).trans e) f0 f1 f3 f4 f5
  obtain ⟨o, e, c, d⟩ := id st'
  exact ⟨u, rfl, QI (s := { s with heap := h' }) e c d (by decide) ⟨x, H, I1, ru, ⟨rfl, fun ys hy => by rw [I.tuple_inj hy hq]; exact hx⟩, st', fun b hb => (hf b hb).1⟩⟩
 done := by
  intro X hP hw hK hc i pins s σ H E I hf st hg
  subst hP hw hK
  obtain ⟨xs, hq, hx⟩ := hg
  obtain ⟨its, rv, p, hz⟩ := I.tuple hq
  obtain ⟨f0, f1, f2, f3, f4, f5⟩ := hf it (by simp)
  have hl := rv.length
  exact wpAny_pyNext_tuple_end (I.ok.hd hc) st (show s.heap.IsTuple a its.toArray from p) (by simp; omega) fun h' eb => ⟨rfl, I.turned (t' := s.toks) (fun b o hb e => eb b o hb e) f0 f1 f3 f4 f5⟩
 self := fun _ _ _ _ _ st h => wpAny_pyIter_tupleiter st h
theorem we {P : Program} {w : World} {K : PySem.W.Frag} {tg : Expr} (it : Addr) (lo : Int) (n : Nat) : yO P w K tg (Itr lo n) [it] it (fun i h => IsRangeIter h it (lo + (i : Nat) * 1) ((n : Int) - (i : Nat)) 1) where
 mem := by simp
 obj := fun i h st b hb => by
  have e : b = it := by simpa using hb
  subst e
  exact ⟨_, st, fun v z => by
   have z' : Data.fields _ = Data.cell v := z
   cases z'⟩
 keep := fun i h h' st k => k it (by simp) _ st
 item := by
  intro X hP hw hK hc i pins s σ H E I hf st hg
  subst hP hw hK
  obtain ⟨f0, f1, f2, f3, f4, f5⟩ := hf it (by simp)
  have W := Walks.range (prog := X.prog) (w := X.w) (I.ok.hd hc) it lo 1 n
  refine W.item i s _ _ hg st fun v h' tk hv st' kk => ?_
  obtain ⟨t, rfl⟩ := hv
  have I1 : Inv X pins σ H { s with heap := h', toks := tk } := I.turned (fun b o hb e => kk b o (by simpa using hb) e) f0 f1 f3 f4 f5
  refine ⟨_, rfl, QI (s := { s with heap := h', toks := tk }) (n := "range_iterator") st' rfl rfl (by decide) ⟨.int (lo + i), H, I1, ⟨t, ?_⟩, ⟨rfl, rfl⟩, st', fun b hb => (hf b hb).1⟩⟩
  rw [Int.mul_one]
 done := by
  intro X hP hw hK hc i pins s σ H E I hf st hg
  subst hP hw hK
  obtain ⟨f0, f1, f2, f3, f4, f5⟩ := hf it (by simp)
  exact wpAny_pyNext_range_end (I.ok.hd hc) st (by have : n <= i := hg; omega) fun h' eb => ⟨rfl, I.turned (t' := s.toks) (fun b o hb e => eb b o hb e) f0 f1 f3 f4 f5⟩
 self := fun _ _ _ _ _ st h => wpAny_pyIter_rangeiter st h
end L2
namespace L2
open PySem PySem.Spec PyProof.Rows
section
variable {X : Cx} {tg : Expr}
theorem Q2 {pins : List (Addr × Obj)} {σ : St} {H : Hp} {s : Shared} {R : It -> Hp -> Prop} {E : Value -> Shared -> Prop} {lo hi : Int} {t u v : Tok} {tk : Nat} (I : Inv X pins σ H s) (h1 : -(2 ^ 62) <= lo) (h2 : lo < 2 ^ 62) (h3 : -(2 ^ 62) <= hi) (h4 : hi < 2 ^ 62)
  (q : R (Itr lo (hi - lo).toNat) H) : wpAny (model X.prog X.w) X.A (pyIter (.ref s.heap.objs.size)) (PIE X pins σ tg R) E { s with heap := s.heap.push { cls := .type "range", data := .fields #[.int lo t, .int hi u, .int 1 v] }, toks := tk } := by
 refine wpAny_pyIter_range (IsRange.new ..) (small_one h1 h2 h3 h4) ?_
 have I1 : Inv X pins σ H { s with heap := s.heap.push { cls := .type "range", data := .fields #[.int lo t, .int hi u, .int 1 v] }, toks := tk } := I.kept fun b o e => Heap.get?_push_of_some _ e
 refine ⟨(s.heap.push { cls := .type "range", data := .fields #[.int lo t, .int hi u, .int 1 v] }).objs.size, [(s.heap.push { cls := .type "range", data := .fields #[.int lo t, .int hi u, .int 1 v] }).objs.size], _, _, H, rfl,
  I1.kept (t' := tk) fun b o e => Heap.get?_push_of_some _ e, we _ lo (hi - lo).toNat, ?_, fun b hb => ?_, q⟩
 ·have e1 : lo + ((0 : Nat) : Int) * 1 = lo := by simp
  have e2 : (((hi - lo).toNat : Nat) : Int) - ((0 : Nat) : Int) = Builtin.Range.rangeSize lo hi 1 := by rw [rangeSize_one]; split <;> omega
  show IsRangeIter _ _ (lo + ((0 : Nat) : Int) * 1) ((((hi - lo).toNat : Nat) : Int) - ((0 : Nat) : Int)) 1
  rw [e1, e2]
  exact Heap.get?_push_size _ rfl
 ·have e : b = (s.heap.push { cls := .type "range", data := .fields #[.int lo t, .int hi u, .int 1 v] }).objs.size := by simpa using hb
  subst e
  exact I1.fpOk (Nat.le_refl _) (I1.hok.fresh (Nat.le_refl _))
def QQ (ta : TA) : TI := fun σ H R => ta σ H fun vs H1 => ∃ j : Int, vs = [.int j] /\ -(2 ^ 62) <= j /\ j < 2 ^ 62 /\ R (Itr 0 j.toNat) H1
theorem qm {a : Expr} {ta : TA} {p pos : Pos} (hg : Gl X "range") (hm : X.mg "range" = none) (ha : PA X [a] ta) (hs : starEach [a] X.env = [(false, eval a X.env)] := by rfl) : PI X tg (.Call (.Name "range" p) [a] [] pos) (QQ ta) := by
 intro pins s σ H R I h
 refine Call_ (ke I hg hm boot_range (PyProof.Rows.callWith_type1 (thn (ha pos pins s σ H _ I h) fun us s1 ⟨vs, H1, I1, r1, q1⟩ => ?_) hs rfl))
 obtain ⟨j, e, q1, q2, q⟩ := q1
 subst e
 cases r1 with
 | cons r rr =>
  cases rr
  obtain ⟨t, rfl⟩ := r
  exact call_range_1 (Q2 I1 (by omega) (by omega) q1 q2 (by simpa using q))
def YS (wi : TI) (g : TG) (tb : TS) : TS := fun D σ H => wi σ H fun J H1 => ∃ W : Nat -> Nat -> St -> Hp -> Prop, (∃ m, W 0 m σ H1) /\ ∀ i m σ H, W i m σ H ->
 (J.stop i H /\ D.nx σ H) \/ (J.go i H /\ ∃ N : St -> Hp -> Prop, (∀ σ' H', N σ' H' -> ∃ m', m' < m /\ W (i + 1) m' σ' H') /\ ∀ x H', J.yld i H x H' -> g x σ H' fun σ2 H2 => tb { D with nx := N, ct := N, bk := D.nx } σ2 H2)
def j5 (fp : List Addr) (h : Heap) : List (Addr × Obj) := fp.filterMap fun b => (h.get? b).map fun o => (b, o)
theorem ql {fp : List Addr} {h : Heap} {b : Addr} {o : Obj} (hb : b ∈ fp) (e : h.get? b = some o) : (b, o) ∈ j5 fp h := List.mem_filterMap.mpr ⟨b, hb, by rw [e]; rfl⟩
theorem Zw {fp : List Addr} {h : Heap} {p : Addr × Obj} (hp : p ∈ j5 fp h) : p.1 ∈ fp /\ h.get? p.1 = some p.2 := by
 obtain ⟨b, hb, e⟩ := List.mem_filterMap.mp hp
 cases q : h.get? b with
 | none => rw [q] at e; cases e
 | some o =>
  rw [q] at e
  have e' : (b, o) = p := Option.some.inj e
  subst e'
  exact ⟨hb, q⟩
theorem Inv.pinned {pins : List (Addr × Obj)} {σ : St} {H : Hp} {s : Shared} {fp : List Addr} (I : Inv X pins σ H s) (hf : ∀ b ∈ fp, jA X pins H b) (ho : ∀ b ∈ fp, ∃ o, s.heap.get? b = some o /\ ∀ v, o.data ≠ .cell v) : Inv X (pins ++ j5 fp s.heap) σ H s :=
 I.pins_of fun p hp => (List.mem_append.mp hp).elim (fun z => I.pin p (List.mem_append_right _ z)) fun z => by
  obtain ⟨hb, e⟩ := Zw z
  obtain ⟨f0, f1, f2, _⟩ := hf p.1 hb
  obtain ⟨o, e', d⟩ := ho p.1 hb
  rw [e] at e'; cases e'
  exact ⟨e, f0, f1, f2, d⟩
theorem Inv.unpinned {pins pl : List (Addr × Obj)} {σ : St} {H : Hp} {s : Shared} (I : Inv X (pins ++ pl) σ H s) : Inv X pins σ H s := I.pins_of fun p hp => I.pin p (List.mem_append_right _ (List.mem_append_left _ hp))
theorem ym {iter : Expr} {body : List Stmt} {wi : TI} {g : TG} {tb : TS} {pos : Pos} (hp : PassesOwn (model X.prog X.w) X.A X.env X.xe) (hc : X.calm = true) (hi : PI X tg iter wi) (hg : PG X tg g) (hb : PSs X body tb)
  (hs : ∀ x, foldedSetIterable iter X.env x = pure x := by intro _; rfl) : PS X (.For tg iter body [] pos) (YS wi g tb) := by
 intro pins s σ H D I h
 refine wpAny_For (thn (hi pins s σ H _ I h) fun v s1 h1 => thn h1 fun itv s2 h2 => ?_) hs
 obtain ⟨it, fp, tn, J, H2, e, I2, T, st2, f2, W, ⟨m0, w0⟩, turn⟩ := h2
 subst e
 have stat : ∀ {H' : Hp}, (∀ b ∈ fp, H' b = none) -> ∀ b ∈ fp, jA X pins H' b := fun hn b hb => ⟨hn b hb, (f2 b hb).2⟩
 refine codeAny_forLoop_any (fun n s' => ∃ i σ' H', Inv X pins σ' H' s' /\ tn i s'.heap /\ (∀ b ∈ fp, H' b = none) /\ W i n σ' H') ?_ m0 ⟨0, σ, H2, I2, st2, fun b hb => (f2 b hb).1, w0⟩
 rintro n s3 ⟨i, σ3, H3, I3, st3, fr3, w3⟩
 rcases turn i n σ3 H3 w3 with ⟨stop, qn⟩ | ⟨go, N, hN, step⟩
 ·refine wpAny_passesOwn hp (thn (T.done X rfl rfl rfl hc i pins s3 σ3 H3 X.xe I3 (stat fr3) st3 stop) fun r s4 ⟨hr, I4⟩ => ?_)
  subst hr
  exact wpAny_execs_nil ⟨σ3, H3, I4, qn⟩
 ·refine wpAny_passesOwn hp (thn (T.item X rfl rfl rfl hc i pins s3 σ3 H3 X.xe I3 (stat fr3) st3 go) fun r s4 ⟨u, hr, h4⟩ => ?_)
  subst hr
  refine wpAny_passesOwn hp (thn h4 fun _ s5 ⟨x, H5, I5, r5, y5, st5, fr5⟩ => ?_)
  have I5' := I5.pinned (stat fr5) (T.obj _ _ st5)
  refine wpAny_passesOwn hp (thn (hg _ s5 σ3 H5 x u _ I5' r5 (step x H5 y5)) fun _ s6 ⟨σ6, H6, I6, q6⟩ => ?_)
  refine wpAny_passesOwn hp (thn (hb _ s6 σ6 H6 _ I6 q6) fun f s7 q7 => ?_)
  have again : ∀ {σ7 : St} {H7 : Hp}, Inv X (pins ++ j5 fp s5.heap) σ7 H7 s7 -> N σ7 H7 -> ∃ m, m < n /\ ∃ i σ' H', Inv X pins σ' H' s7 /\ tn i s7.heap /\ (∀ b ∈ fp, H' b = none) /\ W i m σ' H' := fun {σ7 H7} I7 n7 => by
   obtain ⟨m', hm, w7⟩ := hN σ7 H7 n7
   refine ⟨m', hm, i + 1, σ7, H7, I7.unpinned, T.keep _ _ _ st5 fun b hb o e => (I7.pin (b, o) (List.mem_append_right _ (List.mem_append_right _ (ql hb e)))).1, fun b hb => ?_, w7⟩
   obtain ⟨o, e, d⟩ := T.obj _ _ st5 b hb
   exact (I7.pin (b, o) (List.mem_append_right _ (List.mem_append_right _ (ql hb e)))).2.1
  cases f with
  | next => obtain ⟨σ7, H7, I7, n7⟩ := q7; exact again I7 n7
  | cont => obtain ⟨σ7, H7, I7, n7⟩ := q7; exact again I7 n7
  | brk => obtain ⟨σ7, H7, I7, q7⟩ := q7; exact ⟨σ7, H7, I7.unpinned, q7⟩
  | ret v => obtain ⟨x7, σ7, H7, I7, r7, q7⟩ := q7; exact ⟨x7, σ7, H7, I7.unpinned, r7, q7⟩
end
end L2
namespace L2
open PySem PySem.Spec PyProof.Rows
abbrev R2 := V -> V -> Hp -> VK -> Prop
def OpR (X : Cx) (f : Value -> Value -> Sem Value) (r : R2) : Prop :=
 ∀ (pins : List (Addr × Obj)) (s : Shared) (σ : St) (H : Hp) (x y : V) (v u : Value) (Q : VK), Inv X pins σ H s -> zt x v -> zt y u -> r x y H Q ->
  wpAny (model X.prog X.w) X.A (f v u) (EP X pins σ Q) X.xe s
def qy (X : Cx) (f : Value) (r : List V -> Hp -> VK -> Prop) : Prop :=
 ∀ (pins : List (Addr × Obj)) (s : Shared) (σ : St) (H : Hp) (xs : List V) (us : List Value) (Q : VK), Inv X pins σ H s -> zv xs us -> r xs H Q ->
  wpAny (model X.prog X.w) X.A (call f us) (EP X pins σ Q) X.xe s
def tOp (r : R2) (ta tb : TE) : TE := fun σ H Q => ta σ H fun x H1 => tb σ H1 fun y H2 => r x y H2 Q
def rI (C : Int -> Int -> Prop) (g : Int -> Int -> V) : R2 := fun x y H Q => ∃ i j, x = .int i /\ y = .int j /\ C i j /\ Q (g i j) H
def rI0 (g : Int -> Int -> V) : R2 := fun x y H Q => ∃ i j, x = .int i /\ y = .int j /\ Q (g i j) H
section
variable {X : Cx} {a b c : Expr} {ta tb tc : TE} {pos : Pos}
theorem Yf (ha : PE X a ta) (hb : PE X b tb) {pins : List (Addr × Obj)} {s : Shared} {σ : St} {H : Hp} {R : V -> V -> Hp -> Prop} (I : Inv X pins σ H s)
  (h : ta σ H fun x H1 => tb σ H1 fun y H2 => R x y H2) {Q : Value -> Shared -> Prop} {f : Value -> Value -> Sem Value}
  (hf : ∀ v u s2 x y H2, Inv X pins σ H2 s2 -> zt x v -> zt y u -> R x y H2 -> wpAny (model X.prog X.w) X.A (f v u) Q X.xe s2) :
  wpAny (model X.prog X.w) X.A (eval a X.env) (fun v s₁ => wpAny (model X.prog X.w) X.A (eval b X.env) (fun u s₂ => wpAny (model X.prog X.w) X.A (f v u) Q X.xe s₂) X.xe s₁) X.xe s := by
 refine thn (ha pins s σ H _ I h) fun v s1 ⟨x, H1, I1, r1, q1⟩ => ?_
 refine thn (hb pins s1 σ H1 _ I1 q1) fun u s2 ⟨y, H2, I2, r2, q2⟩ => ?_
 exact hf v u s2 x y H2 I2 r1 r2 q2
theorem zp {op : Operator} {r : R2} (ho : OpR X (binaryOp op) r) (ha : PE X a ta) (hb : PE X b tb) : PE X (.BinOp a op b pos) (tOp r ta tb) := by
 intro pins s σ H Q I h
 exact wpAny_BinOp (Yf ha hb I h fun v u s2 x y H2 I2 rx ry q => ho pins s2 σ H2 x y v u Q I2 rx ry q)
theorem opI {f : Value -> Value -> Sem Value} {C : Int -> Int -> Prop} {g : Int -> Int -> Int}
  (rule : ∀ (i j : Int) (t u : Tok) (s : Shared) (Q : Value -> Shared -> Prop) (E : Value -> Shared -> Prop), C i j -> Q (.int (g i j) s.toks) { s with toks := s.toks + 1 } -> wpAny (model X.prog X.w) X.A (f (.int i t) (.int j u)) Q E s) :
  OpR X f (rI C fun i j => .int (g i j)) := by
 intro pins s σ H x y v u Q I rx ry h
 obtain ⟨i, j, rfl, rfl, hc, q⟩ := h
 obtain ⟨t, rfl⟩ := rx
 obtain ⟨t', rfl⟩ := ry
 exact rule i j t t' s _ _ hc ⟨.int (g i j), H, I.tok _, ⟨_, rfl⟩, q⟩
theorem Wx {f : Value -> Value -> Sem Value} {g : Int -> Int -> Int}
  (rule : ∀ (i j : Int) (t u : Tok) (s : Shared) (Q : Value -> Shared -> Prop) (E : Value -> Shared -> Prop), Q (.int (g i j) s.toks) { s with toks := s.toks + 1 } -> wpAny (model X.prog X.w) X.A (f (.int i t) (.int j u)) Q E s) :
  OpR X f (rI0 fun i j => .int (g i j)) := by
 intro pins s σ H x y v u Q I rx ry h
 obtain ⟨i, j, rfl, rfl, q⟩ := h
 obtain ⟨t, rfl⟩ := rx
 obtain ⟨t', rfl⟩ := ry
 exact rule i j t t' s _ _ ⟨.int (g i j), H, I.tok _, ⟨_, rfl⟩, q⟩
theorem V4 {f : Value -> Value -> Sem Value} {g : Int -> Int -> Bool}
  (rule : ∀ (i j : Int) (t u : Tok) (s : Shared) (Q : Value -> Shared -> Prop) (E : Value -> Shared -> Prop), Q (.bool (g i j)) s -> wpAny (model X.prog X.w) X.A (f (.int i t) (.int j u)) Q E s) :
  OpR X f (rI0 fun i j => .bl (g i j)) := by
 intro pins s σ H x y v u Q I rx ry h
 obtain ⟨i, j, rfl, rfl, q⟩ := h
 obtain ⟨t, rfl⟩ := rx
 obtain ⟨t', rfl⟩ := ry
 exact rule i j t t' s _ _ ⟨.bl (g i j), H, I, rfl, q⟩
def VD (i j : Int) : Prop := 0 < j /\ j < 1073741824
def WH (i j : Int) : Prop := 0 <= j /\ j <= 1000000 /\ i.natAbs < 2 ^ 64
def JT (i j : Int) : Prop := (-(2 ^ 64) < i /\ i < 2 ^ 64) \/ (-(2 ^ 64) < j /\ j < 2 ^ 64)
theorem JT.ok {i j : Int} (h : JT i j) : IntMulOk i j := by
 rcases h with ⟨h1, h2⟩ | ⟨h1, h2⟩
 ·exact .of_left (intBits_le_64 h1 h2)
 ·exact .of_right (intBits_le_64 h1 h2)
theorem zT : OpR X (binaryOp .Add) (rI0 fun i j => .int (i + j)) := Wx fun _ _ _ _ _ _ _ q => add_int q
theorem zW : OpR X (binaryOp .Mult) (rI JT fun i j => .int (i * j)) := opI fun _ _ _ _ _ _ _ hc q => mul_int q hc.ok
theorem wq : OpR X (binaryOp .FloorDiv) (rI VD fun i j => .int (i / j)) := opI fun i j _ _ _ _ _ hc q => by
 have h1 : (0 : Int) < j := hc.1
 have h2 : j < 1073741824 := hc.2
 exact floordiv_int (by omega) (by rw [Int.fdiv_eq_ediv_of_nonneg i (by omega)]; exact q) (.inl (PyProof.noPylong_small (by omega)))
theorem qF : OpR X (binaryOp .Mod) (rI (fun _ j => 0 < j) fun i j => .int (i % j)) := opI fun i j _ _ _ _ _ hc q => by
 have h1 : (0 : Int) < j := hc
 exact mod_int' (by omega) (by rw [Int.fmod_eq_emod_of_nonneg i (by omega)]; exact q)
theorem YO : OpR X (binaryOp .Pow) (rI WH fun i j => .int (i ^ j.toNat)) := opI fun _ _ _ _ _ _ _ hc q => pow_int_small hc.1 hc.2.1 hc.2.2 q
end
section
variable {X : Cx} {a b c : Expr} {ta tb tc : TE} {pos : Pos}
theorem Vd {pins : List (Addr × Obj)} {σ : St} {H : Hp} {s : Shared} {Q : VK} {k k' : Bool} (I : Inv X pins σ H s) (q : Q (.bl k) H) (e : k = k') : EP X pins σ Q (.bool k') s := by
 subst e
 exact ⟨.bl k, H, I, rfl, q⟩
theorem Xi : OpR X (compareOp .Gt) (rI0 fun i j => .bl (decide (j < i))) := V4 fun _ _ _ _ _ _ _ q => gt_int q
theorem V3 : OpR X (compareOp .GtE) (rI0 fun i j => .bl (decide (j <= i))) := V4 fun _ _ _ _ _ _ _ q => ge_int q
theorem YV : OpR X (compareOp .Is) (fun x y H Q => y = .non /\ Q (.bl (decide (x = .non))) H) := by
 intro pins s σ H x y v u Q I rx ry h
 obtain ⟨rfl, q⟩ := h
 cases ry
 refine is_none_gen (Vd I q ?_)
 cases x <;> first
  | (cases rx; rfl)
  | (obtain ⟨t, rfl⟩ := rx; rfl)
theorem zM (b : Expr) {op : CmpOp} (h : op ≠ .In := by decide) (h2 : op ≠ .NotIn := by decide) : behindInMarks op b = false := by
 have e1 : (op == CmpOp.In) = false := by cases op <;> first | rfl | exact absurd rfl h
 have e2 : (op == CmpOp.NotIn) = false := by cases op <;> first | rfl | exact absurd rfl h2
 cases b <;> simp [behindInMarks, e1, e2]
theorem qH {op : CmpOp} {r : R2} (ho : OpR X (compareOp op) r) (ha : PE X a ta) (hb : PE X b tb) (hm : behindInMarks op b = false) : PE X (.Compare a [op] [b] pos) (tOp r ta tb) := by
 intro pins s σ H Q I h
 exact wpAny_Compare1 (Yf ha hb I h fun v u s2 x y H2 I2 rx ry q => ho pins s2 σ H2 x y v u Q I2 rx ry q) hm
def JK (t : TE) : TT := fun σ H Q => t σ H fun x H' => ∃ k, x = .bl k /\ Q k H'
theorem qf {op : CmpOp} {r : R2} (ho : OpR X (compareOp op) r) (ha : PE X a ta) (hb : PE X b tb) (hm : behindInMarks op b = false) : PT X (.Compare a [op] [b] pos) (JK (tOp r ta tb)) := by
 intro pins s σ H Q I h
 refine wpAny_isTrue_Compare1 (thn (ha pins s σ H _ I h) fun v s1 ⟨x, H1, I1, r1, q1⟩ => thn (hb pins s1 σ H1 _ I1 q1) fun u s2 ⟨y, H2, I2, r2, q2⟩ =>
  thn (ho pins s2 σ H2 x y v u _ I2 r1 r2 q2) fun c s3 ⟨z, H3, I3, r3, k, e, q3⟩ => ?_) hm
 subst e
 cases r3
 exact wpAny_truthy_bool ⟨H3, I3, q3⟩
theorem yz : (sizeLine : Nat) < 2 ^ 63 := by rw [sizeLine_eq]; decide
theorem jE {x : V} {us : List Value} (r : zv [x] us) : ∃ u, us = [u] /\ zt x u := by
 cases r with
 | cons r1 r2 => cases r2; exact ⟨_, rfl, r1⟩
theorem y6 {x y : V} {us : List Value} (r : zv [x, y] us) : ∃ u w', us = [u, w'] /\ zt x u /\ zt y w' := by
 cases r with
 | cons r1 r2 =>
  cases r2 with
  | cons r3 r4 => cases r4; exact ⟨_, _, rfl, r1, r3⟩
theorem vm : qy X (.builtin "abs") (fun xs H Q => ∃ i, xs = [.int i] /\ Q (.int (if i < 0 then -i else i)) H) := by
 intro pins s σ H xs us Q I r h
 obtain ⟨i, rfl, q⟩ := h
 obtain ⟨u, rfl, t, rfl⟩ := jE r
 exact call_abs_int fun u tk => ⟨.int (if i < 0 then -i else i), H, I.tok _, ⟨_, rfl⟩, q⟩
theorem ZD (hc : X.calm = true) : qy X (.builtin "max") (fun xs H Q => ∃ i j, xs = [.int i, .int j] /\ Q (.int (if j > i then j else i)) H) := by
 intro pins s σ H xs us Q I r h
 obtain ⟨i, j, rfl, q⟩ := h
 obtain ⟨u, w', rfl, ⟨t, rfl⟩, ⟨t', rfl⟩⟩ := y6 r
 refine max_two_ints (I.ok.hd hc) fun h' tk k => ⟨_, H, I.kept k, ?_, q⟩
 by_cases hj : j > i
 ·rw [if_pos hj, if_pos hj]; exact ⟨_, rfl⟩
 ·rw [if_neg hj, if_neg hj]; exact ⟨_, rfl⟩
theorem Zl : qy X (.type "int") (fun xs H Q => (∃ i, xs = [.int i] /\ Q (.int i) H) \/ ∃ k, xs = [.bl k] /\ Q (.int (if k then 1 else 0)) H) := by
 intro pins s σ H xs us Q I r h
 rcases h with ⟨i, rfl, q⟩ | ⟨k, rfl, q⟩
 ·obtain ⟨u, rfl, t, rfl⟩ := jE r
  exact call_int_int ⟨.int i, H, I, ⟨_, rfl⟩, q⟩
 ·obtain ⟨u, rfl, r1⟩ := jE r
  cases r1
  exact call_int_bool ⟨.int (if k then 1 else 0), H, I.tok _, ⟨_, rfl⟩, q⟩
theorem vf : qy X (.builtin "divmod") (fun xs H Q => ∃ i j, xs = [.int i, .int j] /\ VD i j /\ ∀ p, H p = none -> Q (.ref p) (upd H p (.tup [.int (i / j), .int (i % j)]))) := by
 intro pins s σ H xs us Q I r h
 obtain ⟨i, j, rfl, ⟨h1, h2⟩, q⟩ := h
 obtain ⟨u, w', rfl, ⟨t, rfl⟩, ⟨t', rfl⟩⟩ := y6 r
 refine divmod_int (by omega) ?_ (.inl (PyProof.noPylong_small (by omega)))
 rw [Int.fdiv_eq_ediv_of_nonneg i (by omega), Int.fmod_eq_emod_of_nonneg i (by omega)]
 have hn : H s.heap.objs.size = none := I.hok.fresh (Nat.le_refl _)
 refine ⟨.ref s.heap.objs.size, _, ?_, rfl, q _ hn⟩
 refine I.laid (fun b o e => Heap.get?_push_of_some _ e) (Nat.le_refl _) ⟨by simp only [List.length_cons, List.length_nil]; rw [sizeLine_eq]; decide, [.int (i / j) s.toks, .int (i % j) (s.toks + 1)], .cons ⟨_, rfl⟩ (.cons ⟨_, rfl⟩ .nil), ?_⟩
 exact ⟨_, Heap.get?_push_size s.heap rfl, rfl, ⟨0, rfl⟩, rfl⟩
end
end L2
namespace L2
open PySem PySem.Spec PyProof.Rows
structure Q3 (h : Heap) (x dx C : Addr) (mA : Str -> Option Value) : Prop where
 obj : h.get? x = some (PySem.W.instObj C dx)
 ns : h.Ns1 dx mA
 ne : dx ≠ x
theorem Zh {h : Heap} {dx : Addr} {mA : Str -> Option Value} (n : h.Ns1 dx mA) : ∃ od, h.get? dx = some od /\ ∀ name, PySem.W.lookIn name od = some (mA name) := by
 obtain ⟨o, es, ep, ho, hd, hk, _, hm⟩ := n
 refine ⟨o, ho, fun name => ?_⟩
 have e := hm name
 unfold nsFind findBy at e
 rw [<- Array.find?_toList] at e
 unfold PySem.W.lookIn
 rw [hd]
 dsimp only
 split
 ·rename_i y q
  rw [q] at e
  exact congrArg some e
 ·rename_i q
  rw [q] at e
  have a : es.toList.any (·.refKey) = false := by
   rw [List.any_eq_false]
   intro y hy
   obtain ⟨z, t, hkey⟩ := hk y (Array.mem_toList_iff.mp hy)
   simp [DictEntry.refKey, hkey]
  have a' : ¬ es.toList.any (·.refKey) = true := by rw [a]; exact Bool.false_ne_true
  rw [if_neg a']
  exact congrArg some e
theorem Q3.look {h : Heap} {x dx C : Addr} {mA : Str -> Option Value} (I : Q3 h x dx C mA) : ∃ od, PySem.W.InstAt h x (PySem.W.instObj C dx) C (some od) /\ ∀ name, PySem.W.lookIn name od = some (mA name) :=
 let ⟨od, ho, hl⟩ := Zh I.ns
 ⟨od, ⟨I.obj, rfl, rfl, ho⟩, hl⟩
section
variable {prog : Program} {w : World} {A : Around} {E : Value -> Shared -> Prop} {s : Shared} {K : PySem.W.Frag} {x dx C f : Addr} {mA : Str -> Option Value} {name : Str} {v : Value}
theorem wn {ns : List Str} {Q : Unit -> Shared -> Prop} (X : K.In s.heap) (I : Q3 s.heap x dx C mA)
  (hs : PySem.W.findIn K (.ref C) "__setattr__" = some (some (.builtin "object.__setattr__"))) (hp : PySem.W.plainOver K C = true) (ht : PySem.W.takerIn K C name = some none) (hh : PySem.W.hasDictIn K C = true)
  (hw : PySem.Within mA ns) (hsz : ns.length <= sizeLine)
  (h : ∀ h', Q3 h' x dx C (fun y => if y = name then some v else mA y) -> Heap.SameBut dx s.heap h' -> Q () { s with heap := h', toks := s.toks + 2 }) :
  wpAny (model prog w) A (setAttr (.ref x) name v) Q E s := by
 obtain ⟨od, J, hl⟩ := I.look
 refine PySem.W.set_plain X J hs (PySem.W.osa_open (s := { s with toks := s.toks + 1 }) (r := none) X J hp ht fun b => ?_)
 obtain ⟨cd, hc, hd'⟩ := PySem.W.any_some hh
 have hx : s.heap.get? x = some ⟨.ref C, some dx, .plain, #[]⟩ := I.obj
 refine wpAny_bind (wpAny_pure (wpAny_bind (wpAny_bind (wpAny_loadPart hx (wpAny_bind (PySem.W.Looks.here (s := { s with toks := s.toks + 1 }) (PySem.W.looks_clsIn X hc) ?_))))))
 rw [hd']
 refine wpAny_pure (a := some dx) (wpAny_bind (wpAny_pure (wpAny_bind ?_)))
 refine wpAny_nsSet1 (s := { s with toks := s.toks + 1 }) I.ns fun h' hn2 hs2 => ?_
 obtain ⟨oD, esD, epD, hoD, hdD, hcD⟩ := hn2.count (PySem.Within.cons name v hw)
 refine wpAny_bind (wpAny_lookBehind hoD (by rw [hdD]; exact pastItsLine_dict (Nat.le_trans hcD (by rw [List.length_cons]; omega))) ?_)
 exact wpAny_pure (h _ ⟨(hs2.2 _ (Ne.symm I.ne)).trans I.obj, hn2, I.ne⟩ hs2)
end
section
variable {P : Program} {w : World} {H H' : Hp} {h h' : Heap} {a C dx : Addr} {fs fs' : List (Str × V)}
theorem Kt (hok : HOk P w H h) (e : H a = some (.ins C dx fs)) : ∃ mA, Q3 h a dx C mA /\ (∀ f, yx (fs.lookup f) (mA f)) /\ PySem.Within mA (fs.map (·.1)) /\ fs.length <= 1000 /\ H dx = some (.own a) := by
 obtain ⟨d, z, ne, ob, mA, n, r, q⟩ := (show zB P w H h a (.ins C dx fs) from hok a _ e)
 exact ⟨mA, ⟨ob, n, ne⟩, r, q, z, d⟩
end
structure Cls (K : PySem.W.Frag) (C : Addr) : Prop where
 pg : PySem.W.plainGet K C Str.empty = true
 hd : PySem.W.hasDictIn K C = true
 po : PySem.W.plainOver K C = true
 sa : PySem.W.findIn K (.ref C) "__setattr__" = some (some (.builtin "object.__setattr__"))
theorem Cls.get {K : PySem.W.Frag} {C : Addr} (c : Cls K C) (f : Str) : PySem.W.plainGet K C f = true := c.pg
structure Con (K : PySem.W.Frag) (C : Addr) (f : Str) (v : V) (u : Value) : Prop where
 at_ : PySem.W.findIn K (.ref C) f = some (some u)
 rel : zt v u
 get : PySem.W.specialIn K u "__get__" = some none
 cp : PySem.W.copiedNames.contains f = false
structure Ww (K : PySem.W.Frag) (C : Addr) (m : Str) (f : Addr) : Prop where
 at_ : PySem.W.findIn K (.ref C) m = some (some (.ref f))
 fn : PySem.W.isFn K (.ref f) = true
 kp : PySem.W.keepIn K (.ref f) = true
section
variable {X : Cx} {pins : List (Addr × Obj)} {σ : St} {H : Hp} {s : Shared} {a C dx : Addr} {fs : List (Str × V)} {f : Str} {v : V} {A : Around} {E : Value -> Shared -> Prop}
end
section
variable {X : Cx} {o e value : Expr} {f : Str} {pos pos' tpos : Pos} {ta tv : TE}
end
section
variable {X : Cx} {pins : List (Addr × Obj)} {σ : St} {H : Hp} {s : Shared} {A : Around} {E : Value -> Shared -> Prop} {Q : Value -> Shared -> Prop} {c : Value} {b : Bool}
inductive jm (K : PySem.W.Frag) (H : Hp) : V -> Value -> Prop where
  | non : jm K H .non (.type "NoneType")
  | bl (x : Bool) : jm K H (.bl x) (.type "bool")
  | int (i : Int) : jm K H (.int i) (.type "int")
  | str (x : Str) : jm K H (.str x) (.type "str")
  | flt (x : UInt64) : jm K H (.flt x) (.type "float")
  | lst {a : Addr} {xs : List V} (e : H a = some (.lst xs)) : jm K H (.ref a) (.type "list")
  | frz {a : Addr} {o : Obj} {xs : List V} (e : H a = some (.frz o (.lst xs))) : jm K H (.ref a) (.type "list")
  | tup {a : Addr} {xs : List V} (e : H a = some (.tup xs)) : jm K H (.ref a) (.type "tuple")
  | dK {a : Addr} {kvs : List (Key × V)} (e : H a = some (.dK kvs)) : jm K H (.ref a) (.type "dict")
  | dT {a : Addr} {kvs : List (List Key × V)} (e : H a = some (.dT kvs)) : jm K H (.ref a) (.type "dict")
  | ins {a C dx : Addr} {fs : List (Str × V)} (e : H a = some (.ins C dx fs)) (cl : Cls K C) (ha : PySem.W.findIn K (.ref C) "__class__" = some (some (.builtin "object.__class__")))
      (hn : PySem.W.specialIn K (.builtin "object.__class__") "__get__" = some (some (.builtin "getset_descriptor.__get__"))) (htk : PySem.W.takesIn K (.builtin "object.__class__") = some true)
      (hm : PySem.W.mroIn K C (.type "object") = some true) : jm K H (.ref a) (.ref C)
theorem ZE {x : V} {u t : Value} (I : Inv X pins σ H s) (rx : zt x u) (ty : jm X.K H x t) (e : PySem.W.kitOne X.K t c = some b) (h : ∀ tk, Q (.bool b) { s with toks := tk }) :
  wpAny (model X.prog X.w) A (call (.builtin "isinstance") [u, c]) Q E s := by
 cases ty with
 | non => cases (show u = Value.none from rx); exact PySem.W.kia_one PySem.W.kitx_none I.kIn True.intro e (fun z => nomatch z) h
 | bl y => cases (show u = Value.bool y from rx); exact PySem.W.kia_one PySem.W.kitx_bool I.kIn True.intro e (fun z => nomatch z) h
 | int i => obtain ⟨t, q⟩ := (show ∃ t, u = Value.int i t from rx); cases q; exact PySem.W.kia_one PySem.W.kitx_int I.kIn True.intro e (fun z => nomatch z) h
 | str y => obtain ⟨t, q⟩ := (show ∃ t, u = Value.str y t from rx); cases q; exact PySem.W.kia_one PySem.W.kitx_str I.kIn True.intro e (fun z => nomatch z) h
 | flt y => obtain ⟨t, q⟩ := (show ∃ t, u = Value.float y t from rx); cases q; exact PySem.W.kia_one PySem.W.kitx_float I.kIn True.intro e (fun z => nomatch z) h
 | @lst a xs ea =>
  cases (show u = Value.ref a from rx)
  obtain ⟨_, _, n, _, h1⟩ := (show zB X.prog X.w H s.heap a (.lst xs) from I.hok a _ ea)
  exact PySem.W.kia_one PySem.W.kitx_list I.kIn ⟨_, h1, rfl⟩ e (fun z => nomatch z) h
 | @frz a ob xs ea =>
  cases (show u = Value.ref a from rx)
  obtain ⟨_, _, _, n, _, h1⟩ := (show zB X.prog X.w H s.heap a (.frz ob (.lst xs)) from I.hok a _ ea)
  exact PySem.W.kia_one PySem.W.kitx_list I.kIn ⟨_, h1, rfl⟩ e (fun z => nomatch z) h
 | @tup a xs ea =>
  cases (show u = Value.ref a from rx)
  obtain ⟨_, _, _, p⟩ := (show zB X.prog X.w H s.heap a (.tup xs) from I.hok a _ ea)
  obtain ⟨o, h1, h2, _⟩ := p
  exact PySem.W.kia_one PySem.W.kitx_tuple I.kIn ⟨o, h1, h2⟩ e (fun z => nomatch z) h
 | @dK a kvs ea =>
  cases (show u = Value.ref a from rx)
  obtain ⟨_, _, vs, _, p⟩ := (show zB X.prog X.w H s.heap a (.dK kvs) from I.hok a _ ea)
  obtain ⟨o, es, ep, h1, h2, _⟩ := p
  exact PySem.W.kia_one PySem.W.kitx_dict I.kIn ⟨o, h1, h2.1⟩ e (fun z => nomatch z) h
 | @dT a kvs ea =>
  cases (show u = Value.ref a from rx)
  obtain ⟨_, _, xs, _, o, es, ep, h1, h2, _⟩ := (show zB X.prog X.w H s.heap a (.dT kvs) from I.hok a _ ea)
  exact PySem.W.kia_one PySem.W.kitx_dict I.kIn ⟨o, h1, h2.1⟩ e (fun z => nomatch z) h
 | @ins a C dx fs ea cl ha hn htk hm =>
  cases (show u = Value.ref a from rx)
  obtain ⟨mA, O, _⟩ := Kt I.hok ea
  obtain ⟨od, J, _⟩ := O.look
  exact PySem.W.kia_one (PySem.W.kitx_own (cl.get _) cl.hd ha hn htk hm) I.kIn J e (fun z => nomatch z) h
end
end L2
namespace L2
open PySem PySem.Spec PyProof.Rows
structure qM (k : Nat) (A : Around) : Prop where
 hd : A.handled = none
 gd : A.guards = some []
 dp : A.depth + 3 * k + 5 < recursionLimit
 un : A.units + 16 * k + 200 < cLine
theorem qM.mono {j k : Nat} {A : Around} (r : qM k A) (h : j <= k) : qM j A := ⟨r.hd, r.gd, by have := r.dp; omega, by have := r.un; omega⟩
theorem qM.deeper {k : Nat} {A : Around} (r : qM (k + 1) A) (env : Env) : qM k (A.deeper env) :=
 ⟨r.hd, r.gd, by have := r.dp; show A.depth + 1 + 3 * k + 5 < _; omega, by have := r.un; show A.units + 3 + 16 * k + 200 < _; omega⟩
theorem qM.depth {k : Nat} {A : Around} (r : qM k A) : A.depth < recursionLimit := by have := r.dp; omega
theorem qM.units {k : Nat} {A : Around} (r : qM k A) : A.units + 64 < cLine := by have := r.un; omega
def Vj : TA := fun _ H Q => Q [] H
def Jq (ta : TE) (tr : TA) : TA := fun σ H Q => ta σ H fun x H1 => tr σ H1 fun xs H2 => Q (x :: xs) H2
section
variable {X : Cx} {e : Expr} {es : List Expr} {te : TE} {t : TA} {pos : Pos}
theorem zc : PA X [] Vj := fun _ _ _ _ H Q I h => Calls.spliced_nil ⟨[], H, I, .nil, h⟩
theorem za (ha : PE X e te) (hr : PA X es t) (hs : starEach (e :: es) X.env = (false, eval e X.env) :: starEach es X.env := by rfl) : PA X (e :: es) (Jq te t) := by
 intro pos pins s σ H Q I h
 rw [hs]
 show wpAny _ _ (spliced ((false, eval e X.env) :: backTo pos (starEach es X.env))) _ _ s
 refine Calls.spliced_cons (thn (ha pins s σ H _ I h) fun u s1 ⟨x, H1, I1, r1, q1⟩ => ?_)
 exact thn (hr pos pins s1 σ H1 _ I1 q1) fun us s2 ⟨xs, H2, I2, r2, q2⟩ => ⟨x :: xs, H2, I2, .cons r1 r2, q2⟩
def YC (t : TA) : TE := fun σ H Q => t σ H fun xs H1 => xs.length <= sizeLine /\ ∀ p, H1 p = none -> Q (.ref p) (upd H1 p (.tup xs))
def Yu (t : TA) : TE := fun σ H Q => t σ H fun xs H1 => xs.length <= sizeLine /\ ∀ p, H1 p = none -> Q (.ref p) (upd H1 p (.lst xs))
theorem zG {x1} (h : PA X es t) : PE X (.Tuple es x1 pos) (YC t) := by
 intro pins s σ H Q I hq
 refine wpAny_Tuple_spliced (thn (h pos pins s σ H _ I hq) fun us s1 ⟨xs, H1, I1, r, z, q⟩ => ⟨by rw [<- r.length]; exact z, ?_⟩)
 have hf : H1 s1.heap.objs.size = none := I1.hok.fresh (Nat.le_refl _)
 refine ⟨.ref s1.heap.objs.size, upd H1 s1.heap.objs.size (.tup xs), I1.laid (t' := s1.toks) (fun b u e => Heap.get?_push_of_some _ e) (Nat.le_refl _) ?_, rfl, q _ hf⟩
 exact ⟨z, us, r, ⟨_, Heap.get?_push_size _ rfl, rfl, ⟨_, rfl⟩, rfl⟩⟩
theorem qN (h : PA X es t) : PE X (.List es pos) (Yu t) := by
 intro pins s σ H Q I hq
 refine wpAny_List_spliced (thn (h pos pins s σ H _ I hq) fun us s1 ⟨xs, H1, I1, r, z, q⟩ => ⟨by rw [<- r.length]; exact z, ?_⟩)
 have hf : H1 s1.heap.objs.size = none := I1.hok.fresh (Nat.le_refl _)
 refine ⟨.ref s1.heap.objs.size, upd H1 s1.heap.objs.size (.lst xs), I1.laid (t' := s1.toks) (fun b u e => Heap.get?_push_of_some _ e) (Nat.le_refl _) ?_, rfl, q _ hf⟩
 exact ⟨z, us, 0, r, Heap.get?_push_size _ rfl⟩
end
abbrev Sp := List V -> Hp -> VK -> XK -> Prop
abbrev CXT := List Env -> Hp -> Shared -> XK -> Value -> Shared -> Prop
structure J4 (P : Program) (w : World) (K : PySem.W.Frag) (mg : Str -> Option Value) (base : Heap) (A : Around) (outer : List Env) (s : Shared) (H : Hp) : Prop where
 frames : A.frames = some outer
 mod : Mod K mg base
 bs : ∀ b o, base.get? b = some o -> s.heap.get? b = some o /\ H b = none
 bsz : base.objs.size <= s.heap.objs.size
 funs : s.heap.FunFrames base outer
 frf : ∀ b ∈ frs outer, H b = none
 hok : HOk P w H s.heap
 bare : AllBare s.gens
def CE (outer : List Env) (P : Program) (w : World) (H : Hp) (s : Shared) (Q : VK) (u : Value) (s' : Shared) : Prop :=
 ∃ v H', s'.os = s.os /\ AllBare s'.gens /\ Un (frs outer) [] H H' s.heap s'.heap /\ HOk P w H' s'.heap /\ zt v u /\ Q v H'
def CR (CX : CXT) (outer : List Env) (P : Program) (w : World) (H : Hp) (s : Shared) (Q : VK) (E : XK) (r : Result) (s' : Shared) : Prop :=
 match r with
 | .ok (.ret u) => CE outer P w H s Q u s'
 | .ok _ => False
 | .error e => CX outer H s E e s'
structure jC (P : Program) (w : World) (K : PySem.W.Frag) (mg : Str -> Option Value) (base : Heap) (CX : CXT) (k : Nat) (f : Addr) (fd : FuncData) (ps : List Str) (sp : Sp) : Prop where
 len : ∀ vs H Q E, sp vs H Q E -> vs.length = ps.length
 run : ∀ (A : Around) (outer : List Env) (s : Shared) (H : Hp) (args : Args) (us : List Value) (vs : List V) (Q : VK) (E : XK), qM k A -> J4 P w K mg base A outer s H -> BindsTo s fd args (ps.zip us) -> zv vs us -> sp vs H Q E ->
  codeAny (model P w) A (.call (.ref f) args) (CR CX outer P w H s Q E) s
theorem jC.mono {P : Program} {w : World} {K : PySem.W.Frag} {mg : Str -> Option Value} {base : Heap} {CX : CXT} {j k : Nat} {f : Addr} {fd : FuncData} {ps : List Str} {sp : Sp} (F : jC P w K mg base CX j f fd ps sp) (h : j <= k) :
  jC P w K mg base CX k f fd ps sp := ⟨F.len, fun A outer s H args us vs Q E hr => F.run A outer s H args us vs Q E (hr.mono h)⟩
theorem jC.imp {P : Program} {w : World} {K : PySem.W.Frag} {mg : Str -> Option Value} {base : Heap} {CX : CXT} {k : Nat} {f : Addr} {fd : FuncData} {ps : List Str} {sp sp' : Sp} (F : jC P w K mg base CX k f fd ps sp)
  (h : ∀ vs H Q E, sp' vs H Q E -> sp vs H Q E) : jC P w K mg base CX k f fd ps sp' :=
 ⟨fun vs H Q E q => F.len vs H Q E (h _ _ _ _ q), fun A outer s H args us vs Q E hr he hb hv hs => F.run A outer s H args us vs Q E hr he hb hv (h _ _ _ _ hs)⟩
section
variable {X : Cx} {pins : List (Addr × Obj)} {σ : St} {H : Hp} {s s' : Shared}
theorem Inv.env0 (I : Inv X pins σ H s) : J4 X.prog X.w X.K X.mg X.base X.A X.stack s H :=
 ⟨I.ok.frames, I.ok.mod, I.bs, Nat.le_trans I.ok.bsz I.sz, I.stack, I.stkFree, I.hok, I.bare⟩
theorem Inv.after {Q : VK} {u : Value} (I : Inv X pins σ H s) (h : CE X.stack X.prog X.w H s Q u s') : EP X pins σ Q u s' := by
 obtain ⟨v, H', os, bare, un, hok, r, q⟩ := h
 obtain ⟨hh, g, d, t, os'⟩ := s'
 obtain rfl : os' = s.os := os
 exact ⟨v, H', I.call (h' := hh) (g' := g) (d' := d) (t' := t) (ch := []) un hok bare (fun b z => absurd z (by simp)), r, q⟩
end
def wU (sp : Sp) (dvs : List V) (E : XK) (t : TA) : TE := fun σ H Q => t σ H fun vs H1 => sp (vs ++ dvs) H1 Q E
def xD (K : PySem.W.Frag) (fd : FuncData) (ps : List Str) (ds : List Value) : Prop :=
 ∀ (s : Shared) (us : List Value), K.In s.heap -> (us ++ ds).length = ps.length -> BindsTo s fd ⟨us, []⟩ (ps.zip (us ++ ds))
theorem xD.all {K : PySem.W.Frag} {fd : FuncData} {ps : List Str} (h : ∀ us : List Value, us.length = ps.length -> bindArgs fd ⟨us, []⟩ = pure (ps.zip us)) : xD K fd ps [] := fun s us _ hl => by
 rw [List.append_nil] at hl ⊢
 exact .of_eq (h us hl)
def wd (CX : CXT) (X : Cx) (E : XK) : Prop := ∀ (pins : List (Addr × Obj)) (σ : St) (H : Hp) (s : Shared) (e : Value) (s' : Shared), Inv X pins σ H s -> CX X.stack H s E e s' -> X.xe e s'
section
variable {X : Cx} {CX : CXT} {k : Nat} {f C : Addr} {fd : FuncData} {ps : List Str} {sp : Sp} {dvs : List V} {ds : List Value} {E : XK} {x m : Str} {p pos apos : Pos} {e o : Expr} {es : List Expr} {ta : TE} {t : TA}
theorem Vm {pins : List (Addr × Obj)} {σ : St} {H : Hp} {s : Shared} {Q : VK} {us : List Value} {vs : List V} (F : jC X.prog X.w X.K X.mg X.base CX k f fd ps sp) (hr : qM k X.A) (hb : xD X.K fd ps ds) (hd : zv dvs ds) (hx : wd CX X E)
  (I : Inv X pins σ H s) (r : zv vs us) (h : sp (vs ++ dvs) H Q E) : wpAny (model X.prog X.w) X.A (call (.ref f) us) (EP X pins σ Q) X.xe s := by
 have r2 : zv (vs ++ dvs) (us ++ ds) := r.append hd
 have hl : (us ++ ds).length = ps.length := by rw [<- r2.length]; exact F.len _ _ _ _ h
 refine wpAny_call (codeAny_mono (F.run X.A X.stack s H ⟨us, []⟩ (us ++ ds) (vs ++ dvs) Q E hr I.env0 (hb s us I.kIn hl) r2 h) fun r s' hq => ?_)
 cases r with
 | error e => exact hx pins σ H s e s' I hq
 | ok fl =>
  cases fl with
  | ret u => exact I.after hq
  | next => exact False.elim hq
  | brk => exact False.elim hq
  | cont => exact False.elim hq
theorem Ko (F : jC X.prog X.w X.K X.mg X.base CX k f fd ps sp) (hr : qM k X.A) (hg : Gl X x) (hm : X.mg x = some (.ref f)) (hk : PySem.W.keepIn X.K (.ref f) = true) (hb : xD X.K fd ps ds) (hd : zv dvs ds) (hx : wd CX X E)
  (ha : PA X (e :: es) t) (hdb : (x == ("__debug__" : Str)) = false := by decide) (he : starEach (e :: es) X.env = (false, eval e X.env) :: starEach es X.env := by rfl) (hpl : (backTo pos (starEach es X.env)).any (·.1) = false := by rfl) :
  PE X (.Call (.Name x p) (e :: es) [] pos) (wU sp dvs E t) := by
 intro pins s σ H Q I h
 refine wpAny_Call_Name_kw (Xd I hg hm ?_ hdb)
 refine PySem.W.callWith_K (h₀ := X.base) I.ok.mod.kin hk (thn (ha pos pins s σ H _ I h) fun us s1 ⟨vs, H1, I1, r, q⟩ => ⟨I1.kIn, ?_⟩) he hpl
 exact Vm F hr hb hd hx I1 r q
structure Mk (K : PySem.W.Frag) (C f : Addr) : Prop where
 makes : PySem.W.makesIn K C = true
 init : PySem.W.findIn K (.ref C) "__init__" = some (some (.ref f))
 fn : PySem.W.isFn K (.ref f) = true
 kp : PySem.W.keepIn K (.ref C) = true
end
section
variable {X : Cx} {CX : CXT} {k : Nat} {f C : Addr} {fd : FuncData} {ps ks : List Str} {sp : Sp} {E : XK} {x m : Str} {p pos apos kpos : Pos} {e o : Expr} {es : List Expr} {kws : List Keyword} {te ta : TE} {t tk : TA} {nm : Option Str}
structure Wu (K : PySem.W.Frag) (fd : FuncData) (ps ks : List Str) (g : List Value -> List Value -> List Value) (gV : List V -> List V -> List V) : Prop where
 to : ∀ (s : Shared) (us ws : List Value), K.In s.heap -> (g us ws).length = ps.length -> BindsTo s fd ⟨us, ks.zip ws⟩ (ps.zip (g us ws))
 rel : ∀ {vs : List V} {us : List Value} {zs : List V} {ws : List Value}, zv vs us -> zv zs ws -> zv (gV vs zs) (g us ws)
variable {g : List Value -> List Value -> List Value} {gV : List V -> List V -> List V}
end
structure zy (N P : List Str) (sc : Scope) : Prop where
 kind : sc.kind = .function
 co : sc.isCoroutine = false
 gen : sc.isGenerator = false
 nd : N.Nodup
 pre : N.take P.length = P
 par : ∀ x ∈ P, sc.names.lookup x = some .local \/ sc.names.lookup x = some .cell
 nofree : ∀ y ∈ sc.names, y.2 ≠ .free
theorem xI {kindOf : Str -> Option NameKind} {x : Str} : ∀ {binds : List (Str × Value)} {m : Str -> Option Value}, (∀ v, (x, v) ∉ binds) -> bindL kindOf binds m x = m x
 | [], _, _ => rfl
 | (n, v) :: r, m, h => by
  unfold bindL
  rw [xI fun w hw => h w (List.mem_cons_of_mem _ hw)]
  split
  ·have : x ≠ n := by rintro rfl; exact h v List.mem_cons_self
   simp [this]
  ·rfl
theorem xo {kindOf : Str -> Option NameKind} {x : Str} : ∀ {binds : List (Str × Value)} {m : Str -> Option Value}, (∀ v, (x, v) ∉ binds) -> bindC kindOf binds m x = m x
 | [], _, _ => rfl
 | (n, v) :: r, m, h => by
  unfold bindC
  rw [xo fun w hw => h w (List.mem_cons_of_mem _ hw)]
  split
  ·rfl
  ·have : x ≠ n := by rintro rfl; exact h v List.mem_cons_self
   simp [this]
theorem xu {kindOf : Str -> Option NameKind} {x : Str} {v : Value} : ∀ {P : List Str} {vs : List Value} {i : Nat} {m : Str -> Option Value}, P.Nodup -> P[i]? = some x -> vs[i]? = some v -> kindOf x = some .local ->
  bindL kindOf (P.zip vs) m x = some v
 | [], _, _, _, _, h, _, _ => by simp at h
 | _ :: _, [], _, _, _, _, h, _ => by simp at h
 | p :: P, w :: vs, 0, m, nd, h1, h2, hk => by
  simp at h1 h2; subst h1; subst h2
  show bindL kindOf ((p, w) :: P.zip vs) m p = _
  unfold bindL
  rw [xI fun v hv => (List.nodup_cons.mp nd).1 (List.of_mem_zip hv).1, if_pos hk]
  simp
 | p :: P, w :: vs, i + 1, m, nd, h1, h2, hk => by
  show bindL kindOf ((p, w) :: P.zip vs) m x = _
  unfold bindL
  exact xu (i := i) (List.nodup_cons.mp nd).2 (by simpa using h1) (by simpa using h2) hk
theorem xl {kindOf : Str -> Option NameKind} {x : Str} {v : Value} : ∀ {P : List Str} {vs : List Value} {i : Nat} {m : Str -> Option Value}, P.Nodup -> P[i]? = some x -> vs[i]? = some v -> kindOf x ≠ some .local ->
  bindC kindOf (P.zip vs) m x = some v
 | [], _, _, _, _, h, _, _ => by simp at h
 | _ :: _, [], _, _, _, _, h, _ => by simp at h
 | p :: P, w :: vs, 0, m, nd, h1, h2, hk => by
  simp at h1 h2; subst h1; subst h2
  show bindC kindOf ((p, w) :: P.zip vs) m p = _
  unfold bindC
  rw [xo fun v hv => (List.nodup_cons.mp nd).1 (List.of_mem_zip hv).1, if_neg hk]
  simp
 | p :: P, w :: vs, i + 1, m, nd, h1, h2, hk => by
  show bindC kindOf ((p, w) :: P.zip vs) m x = _
  unfold bindC
  exact xl (i := i) (List.nodup_cons.mp nd).2 (by simpa using h1) (by simpa using h2) hk
def qK (N : List Str) (vs : List V) : St := vs.map some ++ List.replicate (N.length - vs.length) none
def xU (CX : CXT) (P : Program) (w : World) (K : PySem.W.Frag) (mg : Str -> Option Value) (base : Heap) (N : List Str) (qual : Str) (scope : Scope) (f : Addr) (cd : Value) (A : Around) (outer : List Env) (s : Shared) (H : Hp) (E : XK) : Cx where
 prog := P
 w := w
 K := K
 mg := mg
 base := base
 A := A.deeper (envOfC qual scope s.heap.objs.size f cd)
 N := N
 s₀ := s
 H₀ := H
 env := envOfC qual scope s.heap.objs.size f cd
 outer := outer
 stack := envOfC qual scope s.heap.objs.size f cd :: outer
 ex := []
 calm := true
 fn := fun _ => true
 pn := []
 xe := fun e s' => wpAny (model P w) (A.deeper (envOfC qual scope s.heap.objs.size f cd)) (leaving (envOfC qual scope s.heap.objs.size f cd) e) (fun _ s'' => CX outer H s E e s'') (fun e' s'' => CX outer H s E e' s'') s'
theorem vv {sc : Scope} {n : Nat} {x : Str} (h : sc.names.lookup x = some .cell) : ∃ c, (cellsFrom n sc.names []).lookup x = some c := by
 have q := PySem.W.cellsFrom_some sc.names n [] (.inl h)
 exact Option.isSome_iff_exists.mp q
theorem Zk {CX : CXT} {P : Program} {w : World} {K : PySem.W.Frag} {mg : Str -> Option Value} {base : Heap} {N ps : List Str} {qual : Str} {scope : Scope} {f : Addr} {cd : Value} {A : Around} {outer : List Env} {s s1 : Shared} {H : Hp} {E : XK} {us : List Value} {vs : List V}
    (S : zy N ps scope) (hd : A.handled = none) (e0 : J4 P w K mg base A outer s H) (hl : vs.length = ps.length) (r : zv vs us)
    (x : InCallC s s.heap.objs.size (bindL (envOfC qual scope s.heap.objs.size f cd).kindOf (ps.zip us) fun _ => none) (cellsFrom (s.heap.objs.size + 1) scope.names []) (bindC (envOfC qual scope s.heap.objs.size f cd).kindOf (ps.zip us) fun _ => none) s1) :
    Inv (xU CX P w K mg base N qual scope f cd A outer s H E) [] (qK N vs) H s1 := by
  have hpl : ps.length <= N.length := by have := congrArg List.length S.pre; rw [List.length_take] at this; omega
  obtain ⟨h1, tk, rfl, hk⟩ := x.done
  have noA : ∀ b : Addr, b ∉ (xU CX P w K mg base N qual scope f cd A outer s H E).ex := fun b z => absurd (show b ∈ ([] : List Addr) from z) (by simp)
  refine ⟨⟨e0.mod, S.kind, rfl, rfl, Nat.le_refl _, fun y z c h1 h2 => ?_, fun y hy => ?_, fun y c _ h => ?_, fun _ => hd, Around.frames_deeper e0.frames, .inr ⟨rfl, rfl⟩, fun b z => absurd z (noA b), e0.bs, e0.bsz, fun b _ _ => noA b, fun b z => absurd z (noA b), e0.funs, e0.frf⟩,
    rfl, e0.bare, Un.kept hk, ⟨_, x.toInCall.ns, fun i y v h1 h2 h3 => ?_⟩, fun y c h => ⟨_, x.cell y c h⟩, e0.hok.fresh (Nat.le_refl _), fun y c h => ?_, fun p hp => absurd (show p ∈ ([] : List (Addr × Obj)) from hp) (by simp), e0.hok.kept hk, ?_⟩
  · exact name_of_addr x.apart (PySem.mem_of_lookup h1) (PySem.mem_of_lookup h2)
  · have hy : scope.names.lookup y = some .cell \/ scope.names.lookup y = some .free := hy
    rcases hy with hy | hy
    · exact vv hy
    · exact absurd rfl (S.nofree _ (PySem.mem_of_lookup hy))
  · exact Nat.le_of_lt (x.above y c (PySem.mem_of_lookup h))
  · have hi : i < vs.length := by
      unfold qK at h2
      by_cases hi : i < vs.length
      · exact hi
      · rw [List.getElem?_append_right (by simpa using hi)] at h2
        rw [List.getElem?_replicate] at h2
        split at h2 <;> cases h2
    have ha : vs[i]? = some v := by
      unfold qK at h2
      rw [List.getElem?_append_left (by simpa using hi), List.getElem?_map] at h2
      cases e : vs[i]? with
      | none => rw [e] at h2; cases h2
      | some a => rw [e] at h2; cases h2; rfl
    obtain ⟨u, hu, rv⟩ := r.get ha
    have hp : ps[i]? = some y := by
      rw [<- S.pre, List.getElem?_take_of_lt (by omega)]; exact h1
    have ndP : ps.Nodup := by rw [<- S.pre]; exact S.nd.sublist (List.take_sublist _ _)
    refine ⟨u, rv, ?_⟩
    rcases S.par y (List.mem_of_getElem? hp) with k | k
    · exact .inl ⟨k, xu ndP hp hu k⟩
    · obtain ⟨c, e⟩ := vv (n := s.heap.objs.size + 1) k
      refine .inr ⟨.inl k, c, e, ?_⟩
      have q := x.cell y c e
      rw [xl ndP hp hu (by show scope.names.lookup y ≠ _; rw [k]; decide)] at q
      exact q
  · exact e0.hok.fresh (Nat.le_of_lt (x.above y c (PySem.mem_of_lookup h)))
  · unfold qK
    show _ = N.length
    rw [List.length_append, List.length_map, List.length_replicate]
    omega
theorem Wi {CX : CXT} {P : Program} {w : World} {K : PySem.W.Frag} {mg : Str -> Option Value} {base : Heap} {k : Nat} {f : Addr} {name qual : Str} {params : Arguments} {body : List Stmt} {scope : Scope} {dV kV doc pm cdv ct oc : Value} {an od : Option Addr}
  {osl : Array (Option Value)} {N ps : List Str} {sp : Sp} (lk : K.lookup f = some ⟨oc, od, .func (PySem.W.fnOf name qual params body scope dV kV doc pm an cdv ct), osl⟩) (hcd : PySem.W.codeIn K cdv qual = true) (S : zy N ps scope)
  (len : ∀ vs H Q E, sp vs H Q E -> vs.length = ps.length)
  (hbody : ∀ (A : Around) (outer : List Env) (s : Shared) (H : Hp) (vs : List V) (Q : VK) (E : XK), qM k (A.deeper (envOfC qual scope s.heap.objs.size f cdv)) -> sp vs H Q E ->
   ∃ t, PSs (xU CX P w K mg base N qual scope f cdv A outer s H E) body t /\ t { nx := fun _ H' => Q .non H', rt := Q } (qK N vs) H) :
  jC P w K mg base CX (k + 1) f (PySem.W.fnOf name qual params body scope dV kV doc pm an cdv ct) ps sp := by
 refine ⟨len, fun A outer s H args us vs Q E hr e0 hb r hsp => ?_⟩
 have hl := len _ _ _ _ hsp
 have KX : K.In s.heap := e0.mod.kin.keeps fun b o e => (e0.bs b o e).1
 have lim : s.heap.NoLimit := e0.mod.nolimit.keeps fun b o e => (e0.bs b o e).1
 have hkind : ∀ y ∈ ps.zip us, scope.names.lookup y.1 = some .local \/ (scope.names.lookup y.1 = some .cell /\ ((cellsFrom (s.heap.objs.size + 1) scope.names []).lookup y.1).isSome = true) := fun ⟨n, v⟩ hy => by
  rcases S.par n (List.of_mem_zip hy).1 with q | q
  ·exact .inl q
  ·exact .inr ⟨q, PySem.W.cellsFrom_some _ _ _ (.inl q)⟩
 refine codeAny_call_function hr.depth (KX _ _ lk) rfl S.co S.gen rfl (PySem.W.codeRec_of KX hcd) (hb _ _ _ _ ?_)
 refine wpAny_newFunctionEnv_cells S.kind hkind fun env he s1 x => ?_
 subst he
 refine ⟨lim.keeps x.toInCall.keep, codeAny_func ?_⟩
 obtain ⟨t, ht, hq⟩ := hbody A outer s H vs Q E (hr.deeper _) hsp
 have I : Inv (xU CX P w K mg base N qual scope f cdv A outer s H E) [] (qK N vs) H s1 := Zk S hr.hd e0 hl r x
 refine wpAny_mono (ht [] s1 (qK N vs) H _ I hq) (fun fl s' hs => ?_) fun e s' hs => hs
 have fin : ∀ {σ' : St} {H' : Hp} {v : V} {u : Value}, Inv (xU CX P w K mg base N qual scope f cdv A outer s H E) [] σ' H' s' -> zt v u -> Q v H' -> CE outer P w H s Q u s' :=
  fun {σ' H' v u} J rv q => ⟨v, H', J.os, J.bare, J.base, J.hok, rv, q⟩
 cases fl with
 | ret u =>
  obtain ⟨v, σ', H', J, rv, q⟩ := hs
  exact fin J rv q
 | next =>
  obtain ⟨σ', H', J, q⟩ := hs
  exact fin (v := V.non) (u := Value.none) J rfl q
 | brk =>
  obtain ⟨_, _, _, q⟩ := hs
  exact False.elim q
 | cont =>
  obtain ⟨_, _, _, q⟩ := hs
  exact False.elim q
end L2
namespace L2
open PySem PySem.Spec PyProof.Rows
section
variable {X : Cx} {x : Str} {p pos : Pos} {e : Expr} {es : List Expr} {t : TA} {id T : String} {r : List V -> Hp -> VK -> Prop}
def tCB (r : List V -> Hp -> VK -> Prop) (t : TA) : TE := fun σ H Q => t σ H fun vs H1 => r vs H1 Q
theorem zm (hc : qy X (.builtin id) r) (hg : Gl X x) (hm : X.mg x = none) (hv : bootBuiltins x = some (.builtin id)) (ha : PA X (e :: es) t) (hn : x ≠ "__name__" := by decide) (hdb : (x == ("__debug__" : Str)) = false := by decide)
  (he : starEach (e :: es) X.env = (false, eval e X.env) :: starEach es X.env := by rfl) (hpl : (backTo pos (starEach es X.env)).any (·.1) = false := by rfl) : PE X (.Call (.Name x p) (e :: es) [] pos) (tCB r t) := by
 intro pins s σ H Q I h
 refine wpAny_Call_Name_kw (ke I hg hm hv ?_ hn hdb)
 exact PyProof.Rows.callWith_builtin1 (thn (ha pos pins s σ H _ I h) fun us s1 ⟨vs, H1, I1, r1, q1⟩ => hc pins s1 σ H1 vs us Q I1 r1 q1) he hpl
theorem zE (hc : qy X (.type T) r) (hg : Gl X x) (hm : X.mg x = none) (hv : bootBuiltins x = some (.type T)) (ha : PA X (e :: es) t) (hn : x ≠ "__name__" := by decide) (hdb : (x == ("__debug__" : Str)) = false := by decide)
  (he : starEach (e :: es) X.env = (false, eval e X.env) :: starEach es X.env := by rfl) (hpl : (backTo pos (starEach es X.env)).any (·.1) = false := by rfl) : PE X (.Call (.Name x p) (e :: es) [] pos) (tCB r t) := by
 intro pins s σ H Q I h
 refine wpAny_Call_Name_kw (ke I hg hm hv ?_ hn hdb)
 exact PyProof.Rows.callWith_type1 (thn (ha pos pins s σ H _ I h) fun us s1 ⟨vs, H1, I1, r1, q1⟩ => hc pins s1 σ H1 vs us Q I1 r1 q1) he hpl
end
end L2
namespace HT
open PySem PyProof.Rows
section
open PySem.SeqAt
open PySem.AutoSeq1 (wpAny_loadPart')
open PySem.MeetsSeq PySem.MeetsSeq2 PySem.MeetsSeq3
end
section
variable {prog : Program} {w : World} {A : Around} {E : Value -> Shared -> Prop} {s : Shared}
def sIx (n d : Nat) : Option Int -> Nat
 | none => d
 | some v => if v < 0 then (v + (n : Int)).toNat else min v.toNat n
theorem sIx_none (n d : Nat) : sIx n d none = d := rfl
theorem sIx_nat (n d k : Nat) : sIx n d (some (k : Int)) = min k n := by
 show (if (k : Int) < 0 then ((k : Int) + (n : Int)).toNat else min (k : Int).toNat n) = min k n
 rw [if_neg (by omega), Int.toNat_natCast]
end
end HT
namespace L2
open PySem PySem.Spec PyProof.Rows
abbrev TO := St -> Hp -> (Option Int -> Hp -> Prop) -> Prop
def PO (X : Cx) (e : Option Expr) (t : TO) : Prop :=
 ∀ (pins : List (Addr × Obj)) (s : Shared) (σ : St) (H : Hp) (Q : Option Int -> Hp -> Prop), Inv X pins σ H s -> t σ H Q ->
  wpAny (model X.prog X.w) X.A (evalPart e X.env) (fun u s' => ∃ o H', Inv X pins σ H' s' /\ IsPart u o /\ Q o H') X.xe s
def wr : TO := fun _ H Q => Q none H
def XB (t : TE) : TO := fun σ H Q => t σ H fun x H1 => ∃ i, x = .int i /\ Q (some i) H1
section
variable {X : Cx} {e : Expr} {te : TE} {lo hi : Option Expr} {tl th : TO} {pos p2 : Pos}
theorem Kz : PO X none wr := by
 intro pins s σ H Q I h
 rw [evalPart_none]
 exact wpAny_pure ⟨none, H, I, .none, h⟩
theorem xW (h : PE X e te) : PO X (some e) (XB te) := by
 intro pins s σ H Q I hw
 rw [evalPart_some]
 refine thn (h pins s σ H _ I hw) fun u s1 ⟨x, H1, I1, r1, q1⟩ => ?_
 obtain ⟨i, rfl, q⟩ := q1
 obtain ⟨t, rfl⟩ := r1
 exact ⟨some i, H1, I1, .int i t, q⟩
def SlR (X : Cx) (r : V -> Option Int -> Option Int -> Hp -> VK -> Prop) : Prop :=
 ∀ (pins : List (Addr × Obj)) (s : Shared) (σ : St) (H : Hp) (x : V) (v vl vu : Value) (lo hi : Option Int) (sl : Addr) (Q : VK), Inv X pins σ H s -> zt x v -> s.heap.IsSliceOf sl vl vu .none -> IsPart vl lo -> IsPart vu hi -> r x lo hi H Q ->
  ∃ T id, typeLookup (.type T) "__getitem__" = pure (some (.builtin id)) /\ s.TypeIs v T /\ wpAny (model X.prog X.w) X.A (getItem v (.ref sl)) (EP X pins σ Q) X.xe s
def tSl (r : V -> Option Int -> Option Int -> Hp -> VK -> Prop) (te : TE) (tl th : TO) : TE := fun σ H Q => te σ H fun x H1 => tl σ H1 fun l H2 => th σ H2 fun u H3 => r x l u H3 Q
theorem vy {r : V -> Option Int -> Option Int -> Hp -> VK -> Prop} (hr : SlR X r) (he : PE X e te) (hl : PO X lo tl) (hu : PO X hi th) : PE X (.Subscript e (.Slice lo hi none p2) pos) (tSl r te tl th) := by
 intro pins s σ H Q I h
 refine Subscript_ (thn (he pins s σ H _ I h) fun v s1 ⟨x, H1, I1, r1, q1⟩ => ?_)
 refine wpAny_Slice (thn (hl pins s1 σ H1 _ I1 q1) fun vl s2 ⟨l, H2, I2, pl, q2⟩ => thn (hu pins s2 σ H2 _ I2 q2) fun vu s3 ⟨u, H3, I3, pu, q3⟩ => ?_)
 rw [evalPart_none]
 refine wpAny_pure ?_
 have I4 : Inv X pins σ H3 { s3 with heap := s3.heap.push { cls := .type "slice", data := .fields #[vl, vu, .none] } } := I3.kept (t' := s3.toks) fun b ob q => Heap.get?_push_of_some _ q
 obtain ⟨T, id, hT, ht, hg⟩ := hr pins { s3 with heap := s3.heap.push { cls := .type "slice", data := .fields #[vl, vu, .none] } } σ H3 x v vl vu l u s3.heap.objs.size Q I4 r1 (Heap.IsSliceOf.new ..) pl pu q3
 show wpAny (model X.prog X.w) X.A (subscriptTail e (.Slice lo hi none p2) v (.ref s3.heap.objs.size)) (EP X pins σ Q) X.xe { s3 with heap := s3.heap.push { cls := .type "slice", data := .fields #[vl, vu, .none] } }
 exact tail_any (ops := [.ref s3.heap.objs.size, v]) ht hT hg (by with_unfolding_all rfl)
def ZP (xs : List V) (lo hi : Option Int) : List V := (xs.drop (HT.sIx xs.length 0 lo)).take (HT.sIx xs.length xs.length hi - HT.sIx xs.length 0 lo)
theorem yK (xs : List V) (lo hi : Option Int) : (ZP xs lo hi).length <= xs.length := by
 unfold ZP
 rw [List.length_take, List.length_drop]
 omega
end
end L2
namespace L2
open PySem PySem.Spec PyProof.Rows
def ixN (n : Nat) (i : Int) : Option Nat := if 0 <= i then (if i < n then some i.toNat else none) else if -(n : Int) <= i then some (i + n).toNat else none
def atI {α : Type} (xs : List α) (i : Int) : Option α := (ixN xs.length i).bind fun j => xs[j]?
theorem wF {n : Nat} {i : Int} {j : Nat} (h : ixN n i = some j) : seqIndex? i n = some j /\ j < n /\ -(n : Int) <= i /\ i < n := by
 unfold ixN at h
 by_cases h0 : 0 <= i
 ·rw [if_pos h0] at h
  by_cases h1 : i < n
  ·rw [if_pos h1] at h
   have e : i.toNat = j := Option.some.inj h
   exact ⟨by rw [seqIndex_of h0 h1, e], by omega, by omega, h1⟩
  ·rw [if_neg h1] at h; cases h
 ·rw [if_neg h0] at h
  by_cases h1 : -(n : Int) <= i
  ·rw [if_pos h1] at h
   have e : (i + n).toNat = j := Option.some.inj h
   exact ⟨by rw [seqIndex_neg (by omega) h1, e], by omega, h1, by omega⟩
  ·rw [if_neg h1] at h; cases h
theorem wm {α : Type} {xs : List α} {i : Int} {v : α} (h : atI xs i = some v) : ∃ j, seqIndex? i xs.length = some j /\ xs[j]? = some v /\ j < xs.length /\ -(xs.length : Int) <= i /\ i < xs.length := by
 unfold atI at h
 cases e : ixN xs.length i with
 | none => rw [e] at h; cases h
 | some j =>
  rw [e] at h
  obtain ⟨h1, h2, h3, h4⟩ := wF e
  exact ⟨j, h1, h, h2, h3, h4⟩
theorem Kd {α : Type} {xs : List α} {j : Nat} {v : α} (h : xs[j]? = some v) : atI xs (j : Int) = some v := by
 have hj : j < xs.length := (List.getElem?_eq_some_iff.mp h).1
 have e : ixN xs.length (j : Int) = some j := by
  unfold ixN
  rw [if_pos (by omega), if_pos (by omega)]; simp
 unfold atI; rw [e]; exact h
def K9 (b : Expr) : Prop := ∀ o i, subscripted b false o i = operate [o, i] (getItem o i)
def IxR (X : Cx) (r : R2) : Prop :=
 ∀ (value slice : Expr) (pins : List (Addr × Obj)) (s : Shared) (σ : St) (H : Hp) (x y : V) (v u : Value) (Q : VK), Inv X pins σ H s -> zt x v -> zt y u -> r x y H Q ->
  subscripted slice false v u = operate [v, u] (getItem v u) -> wpAny (model X.prog X.w) X.A (subscriptTail value slice v u) (EP X pins σ Q) X.xe s
def MtR (X : Cx) (id : String) (r : V -> List V -> Hp -> VK -> Prop) : Prop :=
 ∀ (pins : List (Addr × Obj)) (s : Shared) (σ : St) (H : Hp) (x : V) (xs : List V) (v : Value) (us : List Value) (Q : VK), Inv X pins σ H s -> zt x v -> zv xs us -> r x xs H Q ->
  wpAny (model X.prog X.w) X.A (call (.builtin id) (v :: us)) (EP X pins σ Q) X.xe s
section
variable {X : Cx} {a b : Expr} {ta tb : TE} {pos : Pos}
theorem zK {r : R2} (hr : IxR X r) (ha : PE X a ta) (hb : PE X b tb) (hs : K9 b) : PE X (.Subscript a b pos) (tOp r ta tb) := by
 intro pins s σ H Q I h
 exact Subscript_ (Yf ha hb I h fun v u s2 x y H2 I2 rx ry q => hr a b pins s2 σ H2 x y v u Q I2 rx ry q (hs _ _))
def Wr (K : PySem.W.Frag) : R2 := fun x y H Q => ∃ p xs i v, x = .ref p /\ y = .int i /\ SqL K H p xs /\ atI xs i = some v /\ Q v H
def V6 (K : PySem.W.Frag) : R2 := fun x y H Q => ∃ p xs i v, x = .ref p /\ y = .int i /\ SqT K H p xs /\ atI xs i = some v /\ Q v H
theorem qg : IxR X (Wr X.K) := by
  intro value slice pins s σ H x y v u Q I rx ry h hs
  obtain ⟨p, xs, i, z, rfl, rfl, hq, he, q⟩ := h
  cases rx
  obtain ⟨t, rfl⟩ := ry
  obtain ⟨its, r, pl, hz⟩ := I.list hq
  obtain ⟨j, h1, h2, h3, h4, h5⟩ := wm he
  obtain ⟨w, ew, rw'⟩ := r.get h2
  have hl := r.length
  have hn := yz
  have fin : EP X pins σ Q w s := ⟨z, H, I, rw', q⟩
  by_cases h0 : 0 <= i
  · have hj : i.toNat = j := by
      rw [seqIndex_of h0 h5] at h1
      exact Option.some.inj h1
    exact item_listR pl.isList h0 (by omega) (by rw [hj]; simpa using ew) fin hs
  · have hj : (i + (its.toArray.size : Int)).toNat = j := by
      rw [seqIndex_neg (by omega) h4] at h1
      rw [List.size_toArray, <- hl]
      exact Option.some.inj h1
    exact subscriptTail_builtinR (x := w) pl.isList.typeIs slot_list_getitem.lookup
      (wpAny_getItem_list_neg (Q := fun r s' => r = w /\ EP X pins σ Q r s') pl.isList (by omega) (by rw [List.size_toArray] <;> omega) (by omega) (by rw [hj]; simpa using ew) ⟨rfl, fin⟩) hs
theorem Vt : IxR X (V6 X.K) := by
 intro value slice pins s σ H x y v u Q I rx ry h hs
 obtain ⟨p, xs, i, z, rfl, rfl, hq, he, q⟩ := h
 cases rx
 obtain ⟨t, rfl⟩ := ry
 obtain ⟨its, r, pl, hz⟩ := I.tuple hq
 obtain ⟨j, h1, h2, h3, h4, h5⟩ := wm he
 obtain ⟨w, ew, rw'⟩ := r.get h2
 have hl := r.length
 have hn := yz
 have fin : EP X pins σ Q w s := ⟨z, H, I, rw', q⟩
 exact subscriptTail_builtinR (x := w) pl.typeIs slot_tuple_getitem.lookup
  (getItem_tuple (j := j) (Q := fun r s' => r = w /\ EP X pins σ Q r s') pl (by omega) (by omega) (by rw [List.size_toArray, <- hl]; exact h1) (by simpa using ew) ⟨rfl, fin⟩) hs
theorem vM (its : List Value) (n j : Nat) (u : Value) : Obj.mapSeq (·.setIfInBounds j u) { cls := .type "list", data := .seq its.toArray n } = { cls := .type "list", data := .seq (its.set j u).toArray n } := by
 simp [Obj.mapSeq]
theorem Inv.lst {pins : List (Addr × Obj)} {σ : St} {H : Hp} {s : Shared} {p : Addr} {xs : List V} (I : Inv X pins σ H s) (h : H p = some (.lst xs)) :
  ∃ (its : List Value) (n : Nat), zv xs its /\ s.heap.get? p = some { cls := .type "list", data := .seq its.toArray n } /\ xs.length <= sizeLine := by
 obtain ⟨z, its, n, r, e⟩ := I.hok p _ h
 exact ⟨its, n, r, e, z⟩
theorem Inv.lstUpd {pins : List (Addr × Obj)} {σ : St} {H : Hp} {s : Shared} {p : Addr} {xs ys : List V} {its its' : List Value} {n n' : Nat} {f : Obj -> Obj} (I : Inv X pins σ H s) (h : H p = some (.lst xs))
  (ho : s.heap.get? p = some { cls := .type "list", data := .seq its.toArray n }) (hf : f { cls := .type "list", data := .seq its.toArray n } = { cls := .type "list", data := .seq its'.toArray n' }) (r : zv ys its') (hz : ys.length <= sizeLine) (t : Nat) :
  Inv X pins σ (upd H p (.lst ys)) { s with heap := s.heap.update p f, toks := t } := by
 have e : (s.heap.update p f).get? p = some { cls := .type "list", data := .seq its'.toArray n' } := by
  rw [Heap.get?_update_self f ho (by rw [hf] <;> rfl), hf]
 refine I.write (x := p) (e := p) (by rw [h]; trivial) (.inl rfl) (fun b u hb q => (Heap.get?_update_other _ _ (Ne.symm hb)).trans q) ⟨_, e⟩ ?_
 exact ⟨hz, its', n', r, e⟩
def Xm : V -> V -> V -> Hp -> (Hp -> Prop) -> Prop := fun o i v H Q => ∃ p xs k j, o = .ref p /\ i = .int k /\ H p = some (.lst xs) /\ ixN xs.length k = some j /\ Q (upd H p (.lst (xs.set j v)))
theorem Qp : XY X Xm := by
  intro pins s σ H o i v ov iv u Q I ro ri rv h
  obtain ⟨p, xs, k, j, rfl, rfl, hp, hj, q⟩ := h
  cases ro
  obtain ⟨t, rfl⟩ := ri
  obtain ⟨its, n, r, ho, hz⟩ := I.lst hp
  obtain ⟨h1, h2, h3, h4⟩ := wF hj
  have hl := r.length
  have hn := yz
  have I' : Inv X pins σ (upd H p (.lst (xs.set j v))) { s with heap := s.heap.update p (Obj.mapSeq (·.setIfInBounds j u)) } :=
    I.lstUpd hp ho (vM its n j u) (r.set rv j) (by rw [List.length_set]; exact hz) s.toks
  by_cases h0 : 0 <= k
  · have hk : k.toNat = j := by
      rw [seqIndex_of h0 h4] at h1
      exact Option.some.inj h1
    exact PySem.W.ki_setAt ho h0 (by omega) (by rw [List.size_toArray, <- hl]; exact h4) (by rw [hk]; exact ⟨_, I', q⟩)
  · have hk : (k + (its.toArray.size : Int)).toNat = j := by
      rw [seqIndex_neg (by omega) h3] at h1
      rw [List.size_toArray, <- hl]
      exact Option.some.inj h1
    exact PySem.W.ki_setBack ho (by omega) (by rw [List.size_toArray, <- hl]; exact h3) (by omega) (by rw [hk]; exact ⟨_, I', q⟩)
theorem yf (lo hi : Option Int) (n : Nat) : (sliceBounds lo hi none n).1 = ((HT.sIx n 0 lo : Nat) : Int) /\ (sliceBounds lo hi none n).2.1 = ((HT.sIx n n hi : Nat) : Int) /\ (sliceBounds lo hi none n).2.2 = 1 := by
 refine ⟨?_, ?_, rfl⟩
 ·cases lo with
  | none => simp [sliceBounds, HT.sIx]
  | some i =>
   simp only [sliceBounds, HT.sIx, Option.getD_none, show (1 : Int) > 0 by decide, if_true]
   by_cases h : i < 0
   ·simp only [h, if_true] <;> omega
   ·simp only [h, if_false] <;> omega
 ·cases hi with
  | none => simp [sliceBounds, HT.sIx]
  | some i =>
   simp only [sliceBounds, HT.sIx, Option.getD_none, show (1 : Int) > 0 by decide, if_true]
   by_cases h : i < 0
   ·simp only [h, if_true] <;> omega
   ·simp only [h, if_false] <;> omega
theorem xc (its : List Value) (lo hi : Option Int) : slicePick its.toArray lo hi none = ((its.drop (HT.sIx its.length 0 lo)).take (HT.sIx its.length its.length hi - HT.sIx its.length 0 lo)).toArray := by
 obtain ⟨h1, h2, h3⟩ := yf lo hi its.toArray.size
 unfold slicePick
 rw [h1, h2, h3]
 simp only [sliceRange_one, pick_run, List.size_toArray] <;> rfl
def VF (K : PySem.W.Frag) : V -> Option Int -> Option Int -> Hp -> VK -> Prop := fun x lo hi H Q => ∃ a xs, x = .ref a /\ SqL K H a xs /\ ∀ p, H p = none -> Q (.ref p) (upd H p (.lst (ZP xs lo hi)))
theorem wx : SlR X (VF X.K) := by
 intro pins s σ H x v vl vu lo hi sl Q I rx hs pl pu h
 obtain ⟨a, xs, rfl, hx, q⟩ := h
 cases rx
 obtain ⟨its, r, ht, hz⟩ := I.list hx
 have hlen := r.length
 refine ⟨"list", _, slot_list_getitem.lookup, ht.isList.typeIs, ?_⟩
 refine wpAny_getItem_list_slice ht.isList hs pl pu .none (by simp) ?_ (by rw [List.size_toArray] <;> omega)
 rw [xc, <- hlen]
 refine ⟨.ref s.heap.objs.size, _, I.laid (t' := s.toks) (o := .lst (ZP xs lo hi)) (fun b ob q => Heap.get?_push_of_some _ q) (Nat.le_refl _) ?_, rfl, q _ (I.hok.fresh (Nat.le_refl _))⟩
 exact ⟨Nat.le_trans (yK xs lo hi) hz, _, 0, (r.drop (HT.sIx xs.length 0 lo)).take (HT.sIx xs.length xs.length hi - HT.sIx xs.length 0 lo), Heap.get?_push_size _ rfl⟩
theorem zI : qy X (.builtin "len") (fun xs H Q => ∃ p ys, xs = [.ref p] /\ (SqL X.K H p ys \/ SqT X.K H p ys) /\ Q (.int ys.length) H) := by
 intro pins s σ H xs us Q I r h
 obtain ⟨p, ys, rfl, hq, q⟩ := h
 obtain ⟨u, rfl, rx⟩ := jE r
 cases rx
 have hn := yz
 rcases hq with hq | hq
 ·obtain ⟨its, r', pl, hz⟩ := I.list hq
  have hlen := r'.length
  exact Calls.call_len_list pl.isList (by simp only [List.size_toArray] <;> omega) ⟨.int ys.length, H, I.tok _, ⟨s.toks + 1, by rw [List.size_toArray, hlen]⟩, q⟩
 ·obtain ⟨its, r', pl, hz⟩ := I.tuple hq
  have hlen := r'.length
  exact len_tuple pl (by simp only [List.size_toArray] <;> omega) ⟨.int ys.length, H, I.tok _, ⟨s.toks + 1, by rw [List.size_toArray, hlen]⟩, q⟩
theorem qe : qy X (.type "list") (fun xs H Q => ∃ p ys, xs = [.ref p] /\ (SqL X.K H p ys \/ SqT X.K H p ys) /\ ∀ l, H l = none -> Q (.ref l) (upd H l (.lst ys))) := by
 intro pins s σ H xs us Q I r h
 obtain ⟨p, ys, rfl, hq, q⟩ := h
 obtain ⟨u, rfl, rx⟩ := jE r
 cases rx
 have fin : ∀ (its : List Value), zv ys its -> ys.length <= sizeLine -> ∀ (h' : Heap) (c' : Nat), (∀ b o', s.heap.get? b = some o' -> h'.get? b = some o') ->
   h'.get? s.heap.objs.size = some { cls := .type "list", dict := none, data := .seq its.toArray c', slots := #[] } -> EP X pins σ Q (.ref s.heap.objs.size) { s with heap := h' } := fun its r' hz h' c' kp e =>
  ⟨.ref s.heap.objs.size, _, I.laid (t' := s.toks) kp (Nat.le_refl _) (show zB X.prog X.w _ h' _ (.lst ys) from ⟨hz, its, c', r', e⟩), rfl, q _ (I.hok.fresh (Nat.le_refl _))⟩
 rcases hq with hq | hq
 ·obtain ⟨its, r', pl, hz⟩ := I.list hq
  have hlen := r'.length
  obtain ⟨o, ho, hc, n, hd⟩ := pl.isList
  exact call_list_seq p (.inl rfl) ho hc hd (fun h' c' kp e => fin its r' hz h' c' kp e) (by simp only [List.size_toArray] <;> omega)
 ·obtain ⟨its, r', pl, hz⟩ := I.tuple hq
  have hlen := r'.length
  obtain ⟨o, ho, hc, n, hd⟩ := pl
  exact call_list_seq p (.inr rfl) ho hc hd (fun h' c' kp e => fin its r' hz h' c' kp e) (by simp only [List.size_toArray] <;> omega)
theorem qp : qy X (.type "tuple") (fun xs H Q => ∃ p ys, xs = [.ref p] /\ ((SqL X.K H p ys /\ ∀ l, H l = none -> Q (.ref l) (upd H l (.tup ys))) \/ (SqT X.K H p ys /\ Q (.ref p) H))) := by
 intro pins s σ H xs us Q I r h
 obtain ⟨p, ys, rfl, h⟩ := h
 obtain ⟨u, rfl, rx⟩ := jE r
 cases rx
 rcases h with ⟨hq, q⟩ | ⟨hq, q⟩
 ·obtain ⟨its, r', pl, hz⟩ := I.list hq
  have hlen := r'.length
  refine call_tuple_list pl.isList (fun h' kp => ?_) (by simp only [List.size_toArray] <;> omega)
  have I1 : Inv X pins σ H { s with heap := h' } := I.kept (t' := s.toks) kp
  have I2 : Inv X pins σ (upd H h'.objs.size (.tup ys)) { s with heap := h'.push { cls := .type "tuple", data := .seq its.toArray } } :=
   I1.laid (t' := s.toks) (fun b o e => Heap.get?_push_of_some _ e) (Nat.le_refl _) (show zB X.prog X.w _ _ _ (.tup ys) from ⟨hz, its, r', vx.new _ _⟩)
  exact ⟨.ref h'.objs.size, _, I2, rfl, q _ (I1.hok.fresh (Nat.le_refl _))⟩
 ·obtain ⟨its, r', pl, hz⟩ := I.tuple hq
  exact call_tuple_same pl ⟨.ref p, H, I, rfl, q⟩
def tyV (K : PySem.W.Frag) (T : String) (x : V) (H : Hp) : Prop := match x with
  | .str _ => T = "str"
  | .int _ => T = "int"
  | .ref p => (T = "list" /\ ∃ xs, SqL K H p xs) \/ (T = "tuple" /\ ((∃ xs, Rd H p (.tup xs)) \/ ∃ o, K.lookup p = some o /\ o.cls = .type "tuple" /\ o.dict = none)) \/
      (T = "dict" /\ ((∃ kvs, H p = some (.dK kvs)) \/ ∃ kvs, H p = some (.dT kvs))) \/ (T = "set" /\ ∃ S n, H p = some (.set S n))
  | _ => False
theorem XW {pins : List (Addr × Obj)} {σ : St} {H : Hp} {s : Shared} {T : String} {x : V} {v : Value} (I : Inv X pins σ H s) (r : zt x v) (ty : tyV X.K T x H) :
    s.TypeIs v T /\ ∀ a, v = .ref a -> ∃ ob, s.heap.get? a = some ob /\ ob.dict = none := by
  cases x with
  | str z =>
    obtain ⟨t, rfl⟩ := r
    cases (show T = "str" from ty)
    exact ⟨typeIs_str s z t, fun _ e => nomatch e⟩
  | int i =>
    obtain ⟨t, rfl⟩ := r
    cases (show T = "int" from ty)
    exact ⟨typeIs_int s i t, fun _ e => nomatch e⟩
  | ref p =>
    cases r
    rcases ty with ⟨rfl, xs, hq⟩ | ⟨rfl, ⟨xs, hx⟩ | ⟨o, hk, hc, hd⟩⟩ | ⟨rfl, hk⟩ | ⟨rfl, S, n, hk⟩
    · obtain ⟨its, _, pl, _⟩ := I.list hq
      refine ⟨pl.isList.typeIs, fun a e => ?_⟩
      cases e
      obtain ⟨o, n, e, c, hd, _⟩ := pl
      exact ⟨o, e, hd⟩
    · obtain ⟨_, its, _, o, e, c, _, hd⟩ := hx.ok I.hok
      refine ⟨⟨o, e, c⟩, fun a e2 => ?_⟩
      cases e2
      exact ⟨o, e, hd⟩
    · refine ⟨⟨o, I.kIn p o hk, hc⟩, fun a e => ?_⟩
      cases e
      exact ⟨o, I.kIn _ o hk, hd⟩
    · have z : ∃ o, s.heap.get? p = some o /\ o.ExactDict := by
        rcases hk with ⟨kvs, hk⟩ | ⟨kvs, hk⟩
        · obtain ⟨_, _, _, _, o, _, _, e, ex, _⟩ := I.hok p _ hk
          exact ⟨o, e, ex⟩
        · obtain ⟨_, _, _, _, o, _, _, e, ex, _⟩ := I.hok p _ hk
          exact ⟨o, e, ex⟩
      obtain ⟨o, e, ex⟩ := z
      refine ⟨⟨o, e, ex.1⟩, fun a e2 => ?_⟩
      cases e2
      exact ⟨o, e, ex.2.1⟩
    · obtain ⟨o, _, _, _, e, ex, _⟩ := I.hok p _ hk
      refine ⟨⟨o, e, ex.1⟩, fun a e2 => ?_⟩
      cases e2
      exact ⟨o, e, ex.2.1⟩
  | _ => exact False.elim ty
def tBM (K : PySem.W.Frag) (T : String) (r : V -> List V -> Hp -> VK -> Prop) (to : TE) (t : TA) : TE := fun σ H Q => to σ H fun x H1 => tyV K T x H1 /\ t σ H1 fun xs H2 => r x xs H2 Q
variable {o e : Expr} {es : List Expr} {to : TE} {t : TA} {name : Str} {apos cpos : Pos} {T id : String} {r : V -> List V -> Hp -> VK -> Prop}
theorem Wd (pa : PlainAttrs T) (slot : Slot T name id) (hty : typeOf (.builtin id) = pure (.type "method_descriptor")) (hm : MtR X id r) (ho : PE X o to) (ha : PA X (e :: es) t)
  (hbase : attributeBase o name X.env (eval o X.env) = eval o X.env := by rfl)
  (hfew : ((backTo cpos (starEach (e :: es) X.env)).all (fun x => !x.1) && (backToKw cpos (keywordEach [] X.env)).all (fun x => x.1.isSome)
   && decide ((e :: es).length + ([] : List Keyword).length + (if ([] : List Keyword).isEmpty then 0 else 1) < 30)) = true := by rfl)
  (hline : (apos.endLine == cpos.line) = true := by rfl) (hs : starEach (e :: es) X.env = (false, eval e X.env) :: starEach es X.env := by rfl) (hplain : (backTo cpos (starEach es X.env)).any (·.1) = false := by rfl) :
  PE X (.Call (.Attribute o name apos) (e :: es) [] cpos) (tBM X.K T r to t) := by
 intro pins s σ H Q I h
 refine wpAny_Call_method_late hbase hfew hline rfl (thn (ho pins s σ H _ I h) fun v s1 ⟨x, H1, I1, r1, ty, q1⟩ => ?_)
 obtain ⟨h1, h2⟩ := XW I1 r1 ty
 refine ⟨T, id, pa, slot, hty, h1, h2, ?_⟩
 have hA := ha cpos pins s1 σ H1 _ I1 q1
 rw [hs] at hA ⊢
 refine Calls.callWith_builtin (by show (false || (backTo cpos (starEach es X.env)).any (·.1)) = false; rw [hplain] <;> rfl) (Calls.evalArgs_plain ?_)
 exact thn hA fun us s2 ⟨vs, H2, I2, r2, q2⟩ => hm pins s2 σ H2 x vs v us Q I2 r1 r2 q2
/- xs.append(e), list.index on a module's tuple .. are MtR facts of 06m -/
end
end L2
namespace L2
open PySem PySem.Spec PyProof.Rows
def MtM (X : Cx) (id : String) (r : V -> List V -> Hp -> VK -> Prop) : Prop :=
 ∀ (pins : List (Addr × Obj)) (s : Shared) (σ : St) (H : Hp) (x : V) (xs : List V) (v : Value) (us : List Value) (Q : VK), Inv X pins σ H s -> zt x v -> zv xs us -> r x xs H Q ->
  wpAny (model X.prog X.w) X.A (call (.builtin id) (v :: us)) (EP X pins σ Q) X.xe s
theorem zv.one : ∀ {x : V} {us : List Value}, zv [x] us -> ∃ u, us = [u] /\ zt x u
 | _, _, .cons r .nil => ⟨_, rfl, r⟩
theorem zv.rep {xs : List V} {us : List Value} (h : zv xs us) : ∀ k : Nat, zv (List.replicate k xs).flatten (List.replicate k us).flatten
 | 0 => .nil
 | k + 1 => by
  rw [List.replicate_succ, List.replicate_succ, List.flatten_cons, List.flatten_cons]
  exact zv.append h (zv.rep h k)
theorem xj (its : List Value) : ∀ (k : Nat) (acc : List Value),
  List.foldl (fun x1 x2 => x1 ++ x2) acc.toArray (List.replicate k its.toArray) = (acc ++ (List.replicate k its).flatten).toArray
 | 0, acc => by simp
 | k + 1, acc => by
  have e : acc.toArray ++ its.toArray = (acc ++ its).toArray := by simp
  have e2 : (acc ++ its) ++ (List.replicate k its).flatten = acc ++ (List.replicate (k + 1) its).flatten := by
   rw [List.replicate_succ, List.flatten_cons, List.append_assoc]
  rw [<- e2, <- xj its k (acc ++ its), <- e, List.replicate_succ, List.foldl_cons]
section
variable {X : Cx} {pins : List (Addr × Obj)} {σ : St} {H : Hp} {s : Shared} {l b : Addr} {xs ys zs : List V}
theorem Inv.lset {its its' : List Value} {n : Nat} {f : Array Value -> Array Value} {t' : Nat} (I : Inv X pins σ H s) (hH : H l = some (.lst xs))
  (e : s.heap.get? l = some { cls := .type "list", data := .seq its.toArray n }) (hf : f its.toArray = its'.toArray) (hv : zv ys its') (hz : ys.length <= sizeLine) :
  Inv X pins σ (upd H l (.lst ys)) { s with heap := s.heap.update l (Obj.mapSeq f), toks := t' } := by
 have q := PySem.IsL.update e f
 rw [hf] at q
 refine I.write (x := l) (e := l) (by rw [hH]; exact trivial) (.inl rfl) (fun b' u hb hu => (Heap.get?_update_other s.heap (Obj.mapSeq f) (Ne.symm hb)).trans hu) ⟨_, q⟩ ?_
 exact ⟨hz, its', _, hv, q⟩
theorem Inv.lnew {its : List Value} {t' : Nat} (I : Inv X pins σ H s) (hv : zv ys its) (hz : ys.length <= sizeLine) :
  Inv X pins σ (upd H s.heap.objs.size (.lst ys)) { s with heap := s.heap.push { cls := .type "list", data := .seq its.toArray }, toks := t' } :=
 I.laid (fun _ _ q => Heap.get?_push_of_some _ q) (Nat.le_refl _) ⟨hz, its, 0, hv, Heap.get?_push_size _ rfl⟩
theorem Inv.fresh (I : Inv X pins σ H s) : H s.heap.objs.size = none := I.hok.fresh (Nat.le_refl _)
theorem Inv.lstM (I : Inv X pins σ H s) (hH : H l = some (.lst xs)) : xs.length <= sizeLine /\ ∃ (its : List Value) (n : Nat), zv xs its /\ xs.length = its.length /\ s.heap.get? l = some { cls := .type "list", data := .seq its.toArray n } := by
 obtain ⟨z, its, n, r, e⟩ := I.hok l _ hH
 exact ⟨z, its, n, r, r.length, e⟩
theorem vt {n : Nat} (h : n <= sizeLine) : Builtin.List.listTooLong n = false := by
 unfold Builtin.List.listTooLong
 exact decide_eq_false (by omega)
end
section
variable {X : Cx}
def kB : V -> List V -> Hp -> VK -> Prop := fun x vs H Q => ∃ l xs y, x = .ref l /\ vs = [y] /\ H l = some (.lst xs) /\ xs.length < sizeLine /\ Q .non (upd H l (.lst (xs ++ [y])))
theorem kn : MtM X "list.append" kB := by
 intro pins s σ H x vs v us Q I rx rv h
 obtain ⟨l, xs, y, rfl, rfl, hH, hz, q⟩ := h
 cases rx
 obtain ⟨u, rfl, ru⟩ := rv.one
 obtain ⟨z, its, n, r, hl, e⟩ := I.lstM hH
 refine call_meets F.slot_list_append ⟨_, e, rfl⟩ F.entry_list_append (F.args_list_append_2 _ _) (PySem.list_append l its.toArray n u (by rw [List.size_toArray]; omega)) ⟨e, ?_⟩
 refine ⟨.non, _, I.lset (its' := its ++ [u]) hH e (by simp) (r.append (.cons ru .nil)) ?_, rfl, q⟩
 rw [List.length_append, List.length_singleton]
 omega
def w8 : V -> List V -> Hp -> VK -> Prop := fun x vs H Q => ∃ l b xs zs, x = .ref l /\ vs = [.ref b] /\ H l = some (.lst xs) /\ H b = some (.lst zs) /\ xs.length + zs.length <= sizeLine /\ Q .non (upd H l (.lst (xs ++ zs)))
theorem VE : MtM X "list.extend" w8 := by
 intro pins s σ H x vs v us Q I rx rv h
 obtain ⟨l, b, xs, zs, rfl, rfl, hH, hB, hz, q⟩ := h
 cases rx
 obtain ⟨u, rfl, ru⟩ := rv.one
 cases ru
 obtain ⟨z, its, n, r, hl, e⟩ := I.lstM hH
 obtain ⟨z2, its2, n2, r2, hl2, e2⟩ := I.lstM hB
 have hsz : its.toArray.size + its2.toArray.size <= sizeLine := by rw [List.size_toArray, List.size_toArray]; omega
 have hlong : ¬ (!its.toArray.isEmpty && Builtin.List.listTooLong (its.toArray.size + its2.toArray.size)) = true := by
  rw [vt hsz, Bool.and_false]
  exact Bool.false_ne_true
 refine call_meets F.slot_list_extend ⟨_, e, rfl⟩ F.entry_list_extend (F.args_list_extend_2 _ _)
  (AutoSeq1.list_extend_list_list_0 l its.toArray n b its2.toArray n2 hlong (by rw [List.size_toArray]; omega) (by omega)) ⟨e, e2, ?_⟩
 refine ⟨.non, _, I.lset (its' := its ++ its2) hH e (by simp) (r.append r2) ?_, rfl, q⟩
 rw [List.length_append]
 omega
def We : R2 := fun x y H Q => ∃ l b xs zs, x = .ref l /\ y = .ref b /\ H l = some (.lst xs) /\ H b = some (.lst zs) /\ xs.length + zs.length <= sizeLine /\ ∀ p, H p = none -> Q (.ref p) (upd H p (.lst (xs ++ zs)))
theorem Yp : OpR X (binaryOp .Add) We := by
 intro pins s σ H x y v u Q I rx ry h
 obtain ⟨l, b, xs, zs, rfl, rfl, hH, hB, hz, q⟩ := h
 cases rx
 cases ry
 obtain ⟨z, its, n, r, hl, e⟩ := I.lstM hH
 obtain ⟨z2, its2, n2, r2, hl2, e2⟩ := I.lstM hB
 refine PySem.P.add_list e e2 ?_ (by rw [List.size_toArray, List.size_toArray]; omega)
 have ea : its.toArray ++ its2.toArray = (its ++ its2).toArray := by simp
 rw [ea]
 exact ⟨.ref _, _, I.lnew (t' := s.toks) (r.append r2) (by rw [List.length_append]; omega), rfl, q _ I.fresh⟩
def VX : R2 := fun x y H Q => ∃ l k xs, x = .ref l /\ y = .int k /\ H l = some (.lst xs) /\ -(2 ^ 63) <= k /\ k < 2 ^ 63 /\ xs.length * k.toNat <= sizeLine /\
 ∀ p, H p = none -> Q (.ref p) (upd H p (.lst (List.replicate k.toNat xs).flatten))
theorem J0 {α : Type} (xs : List α) (k : Nat) : (List.replicate k xs).flatten.length = k * xs.length := by
 induction k with
 | zero => simp
 | succ k ih => rw [List.replicate_succ, List.flatten_cons, List.length_append, ih, Nat.succ_mul, Nat.add_comm]
theorem XJ : OpR X (binaryOp .Mult) VX := by
 intro pins s σ H x y v u Q I rx ry h
 obtain ⟨l, k, xs, rfl, rfl, hH, h1, h2, hz, q⟩ := h
 cases rx
 obtain ⟨t, rfl⟩ := ry
 obtain ⟨z, its, n, r, hl, e⟩ := I.lstM hH
 have hlen : its.toArray.size * k.toNat <= sizeLine := by rw [List.size_toArray, <- hl]; exact hz
 have hcap : ¬ its.toArray.size * k.toNat > (2 ^ 63 - 1) / 8 := by
  have : (sizeLine : Nat) <= (2 ^ 63 - 1) / 8 := by decide
  omega
 have hfit : ¬ (!Builtin.List.listFitsIndex k) = true := by
  rw [fitsIndex_both h1 h2]
  exact Bool.false_ne_true
 have hlong : ¬ Builtin.List.listTooLong (its.toArray.size * k.toNat) = true := by
  rw [vt hlen]
  exact Bool.false_ne_true
 have hnew : List.foldl (fun x1 x2 => x1 ++ x2) #[] (List.replicate (if its.toArray.isEmpty = true then 0 else k.toNat) its.toArray) = (List.replicate k.toNat its).flatten.toArray := by
  have f0 : ∀ m : Nat, List.foldl (fun x1 x2 => x1 ++ x2) #[] (List.replicate m its.toArray) = (List.replicate m its).flatten.toArray := fun m => by
   have := xj its m []
   rw [List.nil_append] at this
   exact this
  rw [f0]
  cases its with
  | nil => simp
  | cons a r' => rw [if_neg (by simp)]
 refine wpAny_binaryOp_repeat_ref (T := "list") (U := "int") (by decide) ⟨_, e, rfl⟩ (fun s' => typeIs_int s' k t) noFill_list_mul F.fills_int_mul F.slot_int_rmul repeat_list F.slot_int_index.lookup
  (call_meets F.slot_int_rmul (typeIs_int s k t) F.entry_int_rmul (F.args_int_rmul_2 _ _) (int___rmul___int_list k t l its.toArray n)
   ⟨e, rfl, ⟨_, e, rfl⟩, call_meets F.slot_list_mul ⟨_, e, rfl⟩ F.entry_list_mul (F.args_list_mul_2 _ _) (AutoListH.list___mul___list_int_3 l its.toArray n k t hfit hcap hlong) ⟨e, ?_⟩⟩)
 rw [hnew]
 exact ⟨.ref _, _, I.lnew (t' := s.toks) (r.rep k.toNat) (by rw [J0, Nat.mul_comm]; exact hz), rfl, q _ I.fresh⟩
end
section
variable {prog : Program} {w : World} {A : Around} {E : Value -> Shared -> Prop} {s : Shared}
end
section
variable {X : Cx}
end
end L2
namespace Att
open PySem PySem.W PySem.Calls PyProof.Rows
theorem ku {P : Params} {h : Heap} : ∀ (ns : List Int) (vs : List Value), WellAll P h vs (ns.map WData.int) -> IntsAre vs ns := by
 intro ns
 induction ns with
 | nil =>
  intro vs w
  rw [List.map_nil] at w
  cases w
  exact .nil
 | cons n ns ih =>
  intro vs w
  rw [List.map_cons] at w
  cases w with
  | cons a b =>
   cases a
   exact .cons _ _ (ih _ b)
theorem Zy {l : OpenLaw} {n : Nat} (hn : l.most = some n) {P : Params} {h : Heap} {args : List WData} {vals : List Value}
  (hpre : l.row.toRowW.claim.pre args = true) (hwl : WellAll P h vals args) :
  ∃ a vs ns, vals = [Value.ref a] /\ args = [WData.list (ns.map WData.int)] /\ h.get? a = some { cls := .type "list", data := .seq vs.toArray } /\ IntsAre vs ns /\ ns.length <= n := by
 have hsh : WShape.hasAll [] args [.list .int] = true := (pre_splitW hpre).1
 have hc : l.pre.holds [] { args := args } = true := (pre_splitW hpre).2
 obtain ⟨d, r, rfl, h1, h2⟩ := hasAllW_cons hsh
 obtain rfl := hasAllW_nil h2
 obtain ⟨xs, rfl, h3⟩ := hasW_list h1
 obtain ⟨ns, rfl⟩ := items_int h3
 have hlen : ns.length <= n := by
  unfold OpenLaw.pre at hc
  have h4 : (WTm.not (.lt (.lit (.int (n : Int))) (.len (.arg 0)))).holds [] { args := [.list (ns.map .int)] } = true := by
   have h4 := (holds_andW hc).1
   rw [hn] at h4
   exact h4
  have h5 := condW_of h4 (w_not (w_lt w_lit (w_len_list (w_arg rfl))))
  rw [List.length_map] at h5
  refine Nat.le_of_not_lt fun q => ?_
  have q' : (n : Int) < ((ns.length : Nat) : Int) := by omega
  first
   | (rw [decide_eq_true q'] at h5; exact absurd h5 (by decide))
   | (simp at h5; omega)
 cases hwl with
 | cons w1 w2 =>
  cases w2
  cases w1 with
  | list ho hall => exact ⟨_, _, ns, rfl, rfl, ho, ku ns _ hall, hlen⟩
theorem ZS (l : OpenLaw) (args : List WData) : l.row.toRowW.claim.post args (.bool true) args = true :=
 postW_of (r := l.row.toRowW) (X := (true == true))
  (show WShape.has [] (.bool true) .bool = true by first | rfl | decide | simp [WShape.has, WShape.arms, WShape.armsAll])
  (show (WTm.eq .res (.lit (.bool true))).value [] { args := args, res := some (.bool true), after := args } = some (.bool (true == true)) from w_eq_bool (w_res rfl) w_lit) rfl
theorem attach_call {l : OpenLaw} {n : Nat} {q : Program} {loose : List Str} {XP : (Str -> Option Value) -> Heap -> Prop} {YP : World -> Heap -> Prop} {d : DefRec}
  (hn : l.most = some n) (hdf : d.params.defaults = [])
  (call : ∀ (w : World) (s₀ s₁ : Shared) (mg mb : Str -> Option Value) (fa : Addr) (o : Obj) (pm cd doc : Value) (a : Addr) (vs : List Value) (ns : List Int),
   Ground q loose [] XP w s₀ mg mb s₁.heap -> YP w s₁.heap ->
   s₁.heap.get? fa = some o -> o.data = .func (docDef d.name d.params d.body d.scope pm cd doc) -> s₁.heap.CodeRec cd d.name -> mg d.name = some (.ref fa) ->
   s₁.heap.get? a = some { cls := .type "list", data := .seq vs.toArray } -> IntsAre vs ns -> ns.length <= n -> s₁.gens = #[] ->
   codeAny (model l.prog w) callerA (.call (.ref fa) ⟨[.ref a], []⟩) (fun r s' => r = .ok (.ret (.bool true)) /\ OldK s₁.heap s'.heap /\ s'.os = s₁.os /\ AllBare s'.gens) s₁) :
  WalkO q loose XP YP l.row.toRowW d [] (fun f vs => PySem.call f vs) := by
 intro w s₀ s₁ mg mb G Y fa o pm cd doc dV kV ho hd hcd hD hmg hg args vals as hpre hlay hrd hwl hlo
 obtain rfl : dV = .none := Dflts.none hD hdf
 obtain rfl : kV = .none := Dflts.noKw hD
 obtain ⟨a, vs, ns, rfl, rfl, hobj, hints, hlen⟩ := Zy hn hpre hwl
 refine enter_call (codeAny_mono (call w s₀ s₁ mg mb fa o pm cd doc a vs ns G Y ho (fd_plain hd) hcd hmg hobj hints hlen hg) fun r s' hq => ?_)
 obtain ⟨rfl, h2, h3, h4⟩ := hq
 exact ⟨.inl ⟨.bool true, .bool true, [], rfl, fun _ => rfl, .bool true, ZS l _, fun _ => ⟨List.Pairwise.nil, fun _ hm => (nomatch hm)⟩⟩, h2, h3, h4⟩
section
variable {prog : Program} {w : World} {A : Around} {E : Value -> Shared -> Prop} {s : Shared} {K : Frag}
def WB (h : Heap) (L d : Addr) : List (Addr × Obj) := (List.range h.objs.size).filterMap fun a => if a = L \/ a = d then none else (h.get? a).map fun o => (a, o)
end
end Att
namespace L2
open PySem PySem.Spec PyProof.Rows
theorem xK : ∀ {vs : List Value} {ns : List Int}, IntsAre vs ns -> zv (ns.map V.int) vs
 | _, _, .nil => .nil
 | _, _, .cons n t h => .cons ⟨t, rfl⟩ (xK h)
def Y4 (H : Hp) : Prop := ∀ b, H b = none \/ ∃ o xs, H b = some (.frz o (.lst xs))
theorem Z1 {P : Program} {w : World} {K : PySem.W.Frag} {mg mb : Str -> Option Value} {CX : CXT} {k : Nat} {fa a : Addr} {fd : FuncData} {x : Str} {sp : Sp} {s₁ : Shared} {vs : List Value} {ns : List Int}
  (KX : K.In s₁.heap) (hns : s₁.heap.Ns mainGlobals mg) (hb : s₁.heap.Ns builtinsNs mb) (hbb : ∀ x : Str, x ≠ "__name__" -> mb x = bootBuiltins x) (hlim : s₁.heap.NoLimit) (hg : s₁.gens = #[])
  (ha : s₁.heap.get? a = some { cls := .type "list", data := .seq vs.toArray }) (hi : IntsAre vs ns) (hl : ns.length <= sizeLine) (hr : qM k callerA)
  (F : ∀ base : Heap, K.In base -> base.Ns mainGlobals mg -> jC P w K mg base CX k fa fd [x] sp) (hbind : ∀ (s : Shared) (u : Value), BindsTo s fd ⟨[u], []⟩ [(x, u)])
  (hsp : ∀ H : Hp, Y4 H -> SqL K H a (ns.map V.int) -> sp [.ref a] H (fun v _ => v = .bl true) fun _ _ _ => False)
  (hCX : ∀ H e s', CX [] H s₁ (fun _ _ _ => False) e s' -> False) :
  codeAny (model P w) callerA (.call (.ref fa) ⟨[.ref a], []⟩) (fun r s' => r = .ok (.ret (.bool true)) /\ OldK s₁.heap s'.heap /\ s'.os = s₁.os /\ AllBare s'.gens) s₁ := by
 have rv := xK hi
 have lenV := hi.length
 have core : ∀ H : Hp, Y4 H -> SqL K H a (ns.map V.int) -> HOk P w H s₁.heap -> (∀ b, H b ≠ none -> b = a) -> (H a ≠ none -> K.lookup a = none) ->
   codeAny (model P w) callerA (.call (.ref fa) ⟨[.ref a], []⟩) (fun r s' => r = .ok (.ret (.bool true)) /\ OldK s₁.heap s'.heap /\ s'.os = s₁.os /\ AllBare s'.gens) s₁ := by
  intro H hO hS hok hA hK
  have base_of : ∀ {b : Addr} {o : Obj}, s₁.heap.get? b = some o -> H b = none -> (xZ s₁.heap H).get? b = some o := fun e n => Q7 e n
  have noA : ∀ {b : Addr} {o : Obj} {es : Array DictEntry} {ep : Nat}, s₁.heap.get? b = some o -> o.data = .dict es ep -> H b = none := fun {b o es ep} e d => by
   cases q : H b with
   | none => rfl
   | some u =>
    have e' : b = a := hA b (by rw [q]; simp)
    subst e'
    rw [ha] at e; cases e
    have d' : Data.seq vs.toArray _ = Data.dict es ep := d
    cases d'
  have nsK : ∀ {b : Addr} {m : Str -> Option Value}, s₁.heap.Ns b m -> (xZ s₁.heap H).Ns b m := fun {b m} ⟨o, es, ep, e, d, r⟩ => ⟨o, es, ep, base_of e (noA e d), d, r⟩
  have hKb : K.In (xZ s₁.heap H) := fun b o e => base_of (KX b o e) (by
   cases q : H b with
   | none => rfl
   | some u =>
    have e' : b = a := hA b (by rw [q]; simp)
    subst e'
    rw [hK (by rw [q]; simp)] at e; cases e)
  have hM : Mod K mg (xZ s₁.heap H) := ⟨hKb, nsK hns, ⟨mb, nsK hb, hbb⟩, let ⟨mc, h1, h2⟩ := hlim; ⟨mc, nsK h1, h2⟩⟩
  have e0 : J4 P w K mg (xZ s₁.heap H) callerA [] s₁ H := ⟨rfl, hM, fun b o e => KA e, Nat.le_of_eq (Zu _ _), trivial, fun b hb => absurd (show b ∈ ([] : List Addr) from hb) (by simp), hok, .of_eq hg⟩
  refine codeAny_mono ((F _ hKb (nsK hns)).run callerA [] s₁ H ⟨[.ref a], []⟩ [.ref a] [.ref a] _ _ hr e0 (hbind s₁ (.ref a)) (.cons rfl .nil) (hsp H hO hS)) fun r s' h => ?_
  cases r with
  | error e => exact (hCX H e s' h).elim
  | ok fl =>
   cases fl with
   | next => exact False.elim h
   | brk => exact False.elim h
   | cont => exact False.elim h
   | ret u =>
    obtain ⟨v, H', os, bare, un, hok', r', q⟩ := h
    have q' : v = .bl true := q
    subst q'
    obtain rfl : u = Value.bool true := r'
    refine ⟨rfl, OldK.of_keep fun b o e => ?_, os, bare⟩
    cases q : H b with
    | none => exact un.keep b o e q (by intro z; exact absurd (show b ∈ ([] : List Addr) from z) (by simp)) (by simp)
    | some u =>
     rcases hO b with z | ⟨ob, xs, z⟩
     ·rw [q] at z; cases z
     ·have z2 := un.frzs b ob _ z
      obtain ⟨e1, _⟩ := hok b _ z
      obtain ⟨e2, _⟩ := hok' b _ z2
      rw [e] at e1; cases e1
      exact e2
 cases hk : K.lookup a with
 | some o =>
  have e := KX a o hk
  rw [ha] at e
  cases e
  refine core (fun _ => none) (fun _ => .inl rfl) (.inr ⟨_, vs.toArray, _, hk, rfl, rfl, rfl, by rw [List.size_toArray, lenV]; exact hl, by simpa using rv⟩) (fun b u z => by have z' : (none : Option HO) = some u := z; cases z') (fun b z => absurd rfl z) fun z => absurd rfl z
 | none =>
  refine core (fun b => if b = a then some (.frz { cls := .type "list", data := .seq vs.toArray } (.lst (ns.map V.int))) else none) (fun b => ?_) (.inl (.inr ⟨{ cls := .type "list", data := .seq vs.toArray }, if_pos rfl⟩)) (fun b u z => ?_) (fun b z => ?_) fun _ => hk
  ·by_cases hb : b = a
   ·exact .inr ⟨_, _, if_pos hb⟩
   ·exact .inl (if_neg hb)
  ·by_cases hb : b = a
   ·have z' := (if_pos hb).symm.trans z
    cases z'
    subst hb
    exact ⟨ha, by rw [List.length_map]; exact hl, vs, _, rv, ha⟩
   ·have z' := (if_neg hb).symm.trans z
    cases z'
  ·by_cases hb : b = a
   ·exact hb
   ·exact absurd (if_neg hb) z
end L2
namespace L2
open PySem PySem.Spec PyProof.Rows
abbrev KOf {K : PySem.W.Frag} {h : Heap} (_ : K.In h) : PySem.W.Frag := K
theorem walk_of {l : PySem.W.OpenLaw} {n k : Nat} {q : Program} {loose : List Str} {XP : (Str -> Option Value) -> Heap -> Prop} {YP : World -> Heap -> Prop} {d : DefRec} {K : Params -> PySem.W.Frag} {CX : World -> CXT} {sp : World -> Sp} {x : Str}
  (hn : l.most = some n) (hn2 : n <= sizeLine) (hdf : d.params.defaults = []) (hr : qM k callerA)
  (hY : ∀ (w : World) (h : Heap), YP w h -> (K w.params).In h)
  (F : ∀ (w : World) (mg : Str -> Option Value) (fa : Addr) (h : Heap), (K w.params).In h -> h.Ns mainGlobals mg -> mg d.name = some (.ref fa) ->
   ∃ fd : FuncData, (∀ (s : Shared) (u : Value), BindsTo s fd ⟨[u], []⟩ [(x, u)]) /\
    ∀ base : Heap, (K w.params).In base -> base.Ns mainGlobals mg -> jC l.prog w (K w.params) mg base (CX w) k fa fd [x] (sp w))
  (hsp : ∀ (w : World) (H : Hp) (a : Addr) (ns : List Int), ns.length <= n -> Y4 H -> SqL (K w.params) H a (ns.map V.int) -> sp w [.ref a] H (fun v _ => v = .bl true) fun _ _ _ => False)
  (hCX : ∀ (w : World) (H : Hp) (s : Shared) (e : Value) (s' : Shared), CX w [] H s (fun _ _ _ => False) e s' -> False) :
  PySem.W.WalkO q loose XP YP l.row.toRowW d [] (fun f vs => PySem.call f vs) := by
 refine Att.attach_call hn hdf fun w s₀ s₁ mg mb fa o pm cd doc a vs ns G Y ho hd hcd hmg hobj hints hlen hg => ?_
 have KX := hY w _ Y
 obtain ⟨fd, hb, hF⟩ := F w mg fa _ KX G.T.g hmg
 exact Z1 KX G.T.g G.T.b G.T.builtins G.T.nolimit hg hobj hints (Nat.le_trans hlen hn2) hr hF hb (fun H hO hS => hsp w H a ns hlen hO hS) fun H e s' => hCX w H s₁ e s'
end L2
/- THE LAST THEOREM (shape; LID, My.* are yours):
   My.Adr: a structure of the addresses that your layer names (classes, functions); My.Txt K t: a structure (Prop) of the equations over K;
   My.txt_mk : {K} {implicit addresses ..} (e1 : nsIn K mainGlobals "law" = some (some (.ref f))) (e2 : K.lookup f = some ⟨oc, od, .func (fnOf "law" "law" params body scope dV kV doc pm an cdv ct), sl⟩) (e3 : codeIn K cdv "law" = true) .. : ∃ t, My.Txt K t
set_option maxRecDepth 100000 in
set_option maxHeartbeats 0 in
theorem PySem.Challenge.cw_LID_holds : PySem.Challenge.rw_LID.Holds := by
 w_on; o_law; k_head; (case hw => w_witness2)
 k_fill
 refine L2.walk_of (l := PySem.Challenge.rw_LID) (n := 63) (k := 40) (x := "script") (CX := fun w => ..) (sp := fun _ => My.sp_law) rfl (by decide) rfl ⟨rfl, by decide, by decide⟩ (fun w h Y => PySem.W.kIn_of Y) ?F ?S ?C
 case F =>
  intro w mg fa h KX G hmg
  have T : ∃ t, My.Txt (L2.KOf KX) t := by
   dsimp only [L2.KOf]                          -- K must stand as «<heap const> w.params» for k_is
   refine' My.txt_mk ?e1 ?e2 ?e3 ..
   (case e1 => PySem.W.k_is)                    -- in the order: a name -> its address -> its object -> its parts
   (case e2 => PySem.W.k_is)
   ..
  obtain ⟨t, T⟩ := T
  have e0 := hmg.symm.trans (PySem.W.mg_of KX G T.law)
  cases e0                                       -- fa is the law's own address
  exact ⟨_, fun s u => .of_eq rfl, fun base kb nb => My.law_fn T kb nb⟩     -- if «.of_eq rfl» comes too early: refine' ⟨_, ?b, fun base kb nb => My.law_fn T kb nb⟩; exact fun s u => .of_eq rfl
 case S => exact fun w H a ns hl hO hS => ..
 case C => exact ..
(the tactic k_is has no namespace: write k_is) -/
namespace L2
open PySem PySem.Spec PyProof.Rows
def qJ (s : Stmt) : Arguments := match s with
 | .FunctionDef _ a _ _ _ _ _ _ _ _ => a
 | _ => { posonlyargs := [], args := [], vararg := none, kwonlyargs := [], kw_defaults := [], kwarg := none, defaults := [] }
def qj (s : Stmt) : List Stmt := match s with
 | .FunctionDef _ _ b _ _ _ _ _ _ _ => b
 | _ => []
def zg (s : Stmt) : Scope := match s with
 | .FunctionDef _ _ _ _ _ _ sc _ _ _ => sc
 | _ => { kind := .function, names := [], isGenerator := false, isCoroutine := false }
abbrev CX0 : CXT := fun _ _ _ _ _ _ => False
abbrev E0 : XK := fun _ _ _ => False
theorem Wh {X : Cx} : wd CX0 X E0 := fun _ _ _ _ _ _ _ h => h.elim
structure Fun (K : PySem.W.Frag) (x qual : Str) (st : Stmt) (f : Addr) (fd : FuncData) : Prop where
 ex : ∃ (oc : Value) (od : Option Addr) (kV doc pm : Value) (an : Option Addr) (cdv ct : Value) (osl : Array (Option Value)),
  fd = PySem.W.fnOf x qual (qJ st) (qj st) (zg st) .none kV doc pm an cdv ct /\ K.lookup f = some ⟨oc, od, .func fd, osl⟩ /\ PySem.W.codeIn K cdv qual = true
 kp : PySem.W.keepIn K (.ref f) = true
section
variable {P : Program} {w : World} {K : PySem.W.Frag} {mg : Str -> Option Value} {base : Heap}
theorem Fun.ok {x qual : Str} {st : Stmt} {f : Addr} {fd : FuncData} {N ps : List Str} {k : Nat} {sp : Sp} (F : Fun K x qual st f fd) (S : zy N ps (zg st)) (len : ∀ vs H Q E, sp vs H Q E -> vs.length = ps.length)
  (hbody : ∀ (cdv : Value) (A : Around) (outer : List Env) (s : Shared) (H : Hp) (vs : List V) (Q : VK) (E : XK), qM k (A.deeper (envOfC qual (zg st) s.heap.objs.size f cdv)) -> sp vs H Q E ->
   ∃ t, PSs (xU CX0 P w K mg base N qual (zg st) f cdv A outer s H E).nox (qj st) t /\ t { nx := fun _ H' => Q .non H', rt := Q } (qK N vs) H) : jC P w K mg base CX0 (k + 1) f fd ps sp := by
 obtain ⟨oc, od, kV, doc, pm, an, cdv, ct, osl, rfl, lk, hcd⟩ := F.ex
 refine Wi lk hcd S len fun A outer s H vs Q E hr hsp => ?_
 obtain ⟨t, h, q⟩ := hbody cdv A outer s H vs Q E hr hsp
 exact ⟨t, h.nox, q⟩
theorem Fun.binds {x qual : Str} {st : Stmt} {f : Addr} {fd : FuncData} {ps : List Str} (F : Fun K x qual st f fd)
  (h : ∀ (kV doc pm : Value) (an : Option Addr) (cdv ct : Value) (us : List Value), us.length = ps.length -> bindArgs (PySem.W.fnOf x qual (qJ st) (qj st) (zg st) .none kV doc pm an cdv ct) ⟨us, []⟩ = pure (ps.zip us)) : xD K fd ps [] := by
 obtain ⟨oc, od, kV, doc, pm, an, cdv, ct, osl, rfl, lk, hcd⟩ := F.ex
 exact .all (h kV doc pm an cdv ct)
theorem Jl {x qual : Str} {st : Stmt} {f : Addr} {oc : Value} {od an : Option Addr} {osl : Array (Option Value)} {kV doc pm cdv ct : Value} (l : K.lookup f = some ⟨oc, od, .func (PySem.W.fnOf x qual (qJ st) (qj st) (zg st) .none kV doc pm an cdv ct), osl⟩)
  (c : PySem.W.codeIn K cdv qual = true) (k : PySem.W.keepIn K (.ref f) = true) : Fun K x qual st f (PySem.W.fnOf x qual (qJ st) (qj st) (zg st) .none kV doc pm an cdv ct) := ⟨⟨oc, od, kV, doc, pm, an, cdv, ct, osl, rfl, l, c⟩, k⟩
end
theorem Xp {A : Around} {k : Nat} (hr : qM k A) : A.units + 1 < cLine := Nat.lt_of_le_of_lt (Nat.add_le_add_left (by decide : 1 <= 64) _) hr.units
section
variable {X : Cx}
theorem pv (i : Nat) {x : Str} {pos : Pos} (hN : X.N[i]? = some x := by rfl) (hv : Vis X.env.scope x := by first | exact Or.inl rfl | exact Or.inr (Or.inl rfl) | exact Or.inr (Or.inr rfl)) (hd : (x == ("__debug__" : Str)) = false := by decide)
  (hcd : (x == ("__classdict__" : Str)) = false := by decide) : PE X (.Name x pos) (KH i) := YX hN hv hd hcd
end
theorem WE {c A B : Prop} [Decidable c] (h1 : c -> A) (h2 : ¬ c -> B) : if c then A else B := by
 by_cases h : c
 ·rw [if_pos h]
  exact h1 h
 ·rw [if_neg h]
  exact h2 h
end L2
namespace L2
open PySem PySem.Spec PyProof.Rows
section
variable {κ : Type} [DecidableEq κ]
def qO (kvs : List (κ × V)) (k : κ) : Option V := (kvs.find? fun kv => decide (kv.1 = k)).map (·.2)
def kl (kvs : List (κ × V)) (k : κ) (v : V) : List (κ × V) :=
 if (kvs.any fun kv => decide (kv.1 = k)) = true then kvs.map (fun kv => if kv.1 = k then (kv.1, v) else kv) else kvs ++ [(k, v)]
theorem Qf {k : κ} : qO ([] : List (κ × V)) k = none := rfl
theorem qb {p : κ × V} {r : List (κ × V)} {k : κ} (e : p.1 = k) : qO (p :: r) k = some p.2 := by simp [qO, List.find?_cons, e]
theorem qa {p : κ × V} {r : List (κ × V)} {k : κ} (e : ¬ p.1 = k) : qO (p :: r) k = qO r k := by simp [qO, List.find?_cons, e]
theorem jT (k : κ) : ∀ kvs : List (κ × V), (kvs.any fun kv => decide (kv.1 = k)) = (qO kvs k).isSome
 | [] => rfl
 | p :: r => by
  rw [List.any_cons]
  by_cases e : p.1 = k
  ·simp only [qb e, decide_eq_true e, Bool.true_or, Option.isSome_some]
  ·rw [qa e, decide_eq_false e, Bool.false_or]; exact jT k r
theorem vc (k j : κ) (y : V) : ∀ kvs : List (κ × V), qO (kvs.map fun kv => if kv.1 = k then (kv.1, y) else kv) j = (qO kvs j).map fun x => if j = k then y else x
 | [] => rfl
 | p :: r => by
  have ih := vc k j y r
  rw [List.map_cons]
  by_cases h : p.1 = k
  ·rw [if_pos h]
   by_cases e : p.1 = j
   ·rw [qb (p := (p.1, y)) e, qb e, Option.map_some, if_pos (e.symm.trans h)]
   ·rw [qa (p := (p.1, y)) e, qa e, ih]
  ·rw [if_neg h]
   by_cases e : p.1 = j
   ·rw [qb (p := p) e, qb e, Option.map_some, if_neg (fun z => h (e.trans z))]
   ·rw [qa (p := p) e, qa e, ih]
theorem xF (k j : κ) (y : V) : ∀ kvs : List (κ × V), qO kvs k = none -> qO (kvs ++ [(k, y)]) j = if j = k then some y else qO kvs j
 | [], _ => by
  by_cases e : k = j
  ·rw [if_pos e.symm]; exact qb (p := (k, y)) e
  ·rw [if_neg (fun z => e z.symm)]; exact qa (p := (k, y)) e
 | p :: r, hn => by
  rw [List.cons_append]
  have hk : ¬ p.1 = k := fun z => by rw [qb z] at hn; cases hn
  rw [qa hk] at hn
  have ih := xF k j y r hn
  by_cases e : p.1 = j
  ·rw [qb e, qb e, if_neg (fun z => hk (e.trans z))]
  ·rw [qa e, qa e, ih]
theorem vj (kvs : List (κ × V)) (k j : κ) (y : V) : qO (kl kvs k y) j = if j = k then some y else qO kvs j := by
 unfold kl
 by_cases a : (kvs.any fun kv => decide (kv.1 = k)) = true
 ·rw [if_pos a, vc]
  rw [jT] at a
  by_cases e : j = k
  ·obtain ⟨x, hx⟩ := Option.isSome_iff_exists.mp a
   rw [if_pos e, e, hx, Option.map_some, if_pos rfl]
  ·rw [if_neg e]
   cases qO kvs j with
   | none => rfl
   | some x => rw [Option.map_some, if_neg e]
 ·rw [if_neg a]
  refine xF k j y kvs ?_
  rw [jT] at a
  cases q : qO kvs k with
  | none => rfl
  | some x => rw [q] at a; exact (a rfl).elim
theorem kq (kvs : List (κ × V)) (k : κ) (v : V) : (kl kvs k v).length <= kvs.length + 1 := by
 unfold kl
 split
 ·rw [List.length_map]; omega
 ·rw [List.length_append, List.length_cons, List.length_nil]; omega
theorem yx.isSome_eq {o : Option V} {u : Option Value} (r : yx o u) : o.isSome = u.isSome := by
 cases o with
 | none => cases u with
  | none => rfl
  | some _ => exact (show False from r).elim
 | some _ => cases u with
  | none => exact (show False from r).elim
  | some _ => rfl
theorem yx.getD {o : Option V} {u : Option Value} {d : V} {d' : Value} (r : yx o u) (rd : zt d d') : zt (o.getD d) (u.getD d') := by
 cases o with
 | none => cases u with
  | none => exact rd
  | some _ => exact (show False from r).elim
 | some _ => cases u with
  | none => exact (show False from r).elim
  | some _ => exact r
theorem KV.val {kvs : List (κ × V)} {vs : List (κ × Value)} (r : KV kvs vs) (k : κ) : yx (qO kvs k) (valueAt vs k) := by
 unfold KV at r
 induction r with
 | nil => exact True.intro
 | @cons p q ps qs h t ih =>
  obtain ⟨h1, h2⟩ := h
  by_cases e : p.1 = k
  ·have e' : q.1 = k := h1.symm.trans e
   have b : valueAt (q :: qs) k = some q.2 := by simp [valueAt, List.find?_cons, e']
   rw [qb e, b]; exact h2
  ·have e' : ¬ q.1 = k := fun z => e (h1.trans z)
   have b : valueAt (q :: qs) k = valueAt qs k := by simp [valueAt, List.find?_cons, e']
   rw [qa e, b]; exact ih
end
theorem Xo {P : Program} {w : World} {k : Key} {u : Value} (r : zt (kV k) u) : (zO P w).is k u = true := by
 cases k with
 | inl i => obtain ⟨t, e⟩ := (show ∃ t, u = Value.int i t from r); subst e; exact vI P w i t
 | inr x => obtain ⟨t, e⟩ := (show ∃ t, u = Value.str x t from r); subst e; exact vA P w x t
theorem xC {P : Program} {w : World} : ∀ {ks : List Key} {us : List Value}, zv (ks.map kV) us -> ItemsAre (zO P w) ks us
 | [], _, r => by rw [List.map_nil] at r; cases r; exact .nil
 | k :: ks, _, r => by
  rw [List.map_cons] at r
  cases r with
  | cons h t => exact .cons (Xo h) (xC t)
abbrev KT (H : Hp) : List (List Key × V) -> List (List Key × Addr × Value) -> Prop := Paired fun p q => p.1 = q.1 /\ H q.2.1 = some (.tup (p.1.map kV)) /\ zt p.2 q.2.2
theorem KT.val {H : Hp} {kvs : List (List Key × V)} {xs : List (List Key × Addr × Value)} (r : KT H kvs xs) (k : List Key) : yx (qO kvs k) ((atKey xs k).map (·.2)) := by
 induction r with
 | nil => exact True.intro
 | @cons p q ps qs h t ih =>
  obtain ⟨h1, _, h2⟩ := h
  by_cases e : p.1 = k
  ·have e' : q.1 = k := h1.symm.trans e
   have b : atKey (q :: qs) k = some q.2 := by simp [atKey, List.find?_cons, e']
   rw [qb e, b]; exact h2
  ·have e' : ¬ q.1 = k := fun z => e (h1.trans z)
   have b : atKey (q :: qs) k = atKey qs k := by simp [atKey, List.find?_cons, e']
   rw [qa e, b]; exact ih
theorem KT.repl {H : Hp} {kvs : List (List Key × V)} {xs : List (List Key × Addr × Value)} (r : KT H kvs xs) (k : List Key) {y : V} {u : Value} (ry : zt y u) :
  KT H (kvs.map fun kv => if kv.1 = k then (kv.1, y) else kv) (xs.map (putAt k u)) := by
 induction r with
 | nil => exact .nil
 | @cons p q ps qs h t ih =>
  rw [List.map_cons, List.map_cons]
  refine .cons ?_ ih
  obtain ⟨h1, h2, h3⟩ := h
  unfold putAt
  by_cases e : p.1 = k
  ·rw [if_pos e, if_pos (h1.symm.trans e)]; exact ⟨h1, h2, ry⟩
  ·rw [if_neg e, if_neg (fun z => e (h1.trans z))]; exact ⟨h1, h2, h3⟩
theorem KT.put {H : Hp} {kvs : List (List Key × V)} {xs : List (List Key × Addr × Value)} (r : KT H kvs xs) (k : List Key) {b : Addr} {y : V} {u : Value} (hb : H b = some (.tup (k.map kV))) (ry : zt y u) :
  KT H (kl kvs k y) (storedH xs k b u) := by
 have e : (kvs.any fun kv => decide (kv.1 = k)) = (atKey xs k).isSome := by
  rw [jT, (r.val k).isSome_eq, Option.isSome_map]
 unfold kl storedH
 rw [e]
 by_cases q : (atKey xs k).isSome = true
 ·rw [if_pos q, if_pos q]; exact r.repl k ry
 ·rw [if_neg q, if_neg q]; exact Paired.snoc r ⟨rfl, hb, ry⟩
theorem KT.keeps {H H' : Hp} {kvs : List (List Key × V)} {xs : List (List Key × Addr × Value)} (r : KT H kvs xs) (ht : ∀ b ys, H b = some (.tup ys) -> H' b = some (.tup ys)) : KT H' kvs xs :=
 Paired.mapP r fun _ _ z => ⟨z.1, ht _ _ z.2.1, z.2.2⟩
section
variable {P : Program} {w : World} {H : Hp} {h : Heap} {a : Addr}
theorem Xy {u : HO} (ok : HOk P w H h) (e : Rd H a u) : zB P w H h a u := e.ok ok
theorem Xs {kvs : List (Key × V)} (ok : HOk P w H h) (e : Rd H a (.dK kvs)) : kvs.length <= sizeLine /\ (a == sysModules) = false /\ ∃ vs, KV kvs vs /\ h.DictOf (zO P w) a vs :=
 show zB P w H h a (.dK kvs) from Xy ok e
theorem v4 {ks : List Key} (ok : HOk P w H h) (e : H a = some (.tup (ks.map kV))) : (tupleKind (zO P w)).is h ks a := by
 obtain ⟨_, its, r, o, h1, h2, ⟨n, h3⟩, _⟩ := (show zB P w H h a (.tup (ks.map kV)) from ok a _ e)
 exact ⟨o, its.toArray, n, h1, h2, h3, by simpa using xC r⟩
theorem Ju {kvs : List (List Key × V)} (ok : HOk P w H h) (e : Rd H a (.dT kvs)) : kvs.length <= sizeLine /\ (a == sysModules) = false /\
  ∃ xs, KT H kvs xs /\ h.DictOfH (tupleKind (zO P w)) a xs := by
 obtain ⟨z, y, xs, r, o, es, ep, h1, h2, h3, h4, h5⟩ := (show zB P w H h a (.dT kvs) from Xy ok e)
 refine ⟨z, y, xs, r, o, es, ep, h1, h2, h3, h4, fun x hx => ?_, h5⟩
 have all : ∀ {l : List (List Key × V)} {m : List (List Key × Addr × Value)}, KT H l m -> ∀ x ∈ m, (tupleKind (zO P w)).is h x.1 x.2.1 := by
  intro l m q
  induction q with
  | nil => intro x hx; exact nomatch hx
  | @cons p q ps qs hq t ih =>
   intro x hx
   rcases List.mem_cons.mp hx with e | hx
   ·subst e
    exact v4 ok (by rw [<- hq.1]; exact hq.2.1)
   ·exact ih x hx
 exact all r x hx
theorem VR {kvs : List (List Key × V)} (ok : HOk P w H h) (e : H a = some (.dT kvs)) : kvs.length <= sizeLine /\ (a == sysModules) = false /\
  ∃ xs, KT H kvs xs /\ h.DictOfH (tupleKind (zO P w)) a xs := Ju ok (.inl e)
end
def Jx (H : Hp) (a : Addr) (y : V) (r : Option V) : Prop :=
 (∃ kvs k, Rd H a (.dK kvs) /\ y = kV k /\ r = qO kvs k) \/ ∃ kvs k b, Rd H a (.dT kvs) /\ y = .ref b /\ H b = some (.tup (k.map kV)) /\ r = qO kvs k
theorem Jx.t {H : Hp} {a b : Addr} {kvs : List (List Key × V)} {k : List Key} (e : H a = some (.dT kvs)) (eb : H b = some (.tup (k.map kV))) : Jx H a (.ref b) (qO kvs k) := .inr ⟨kvs, k, b, .inl e, rfl, eb, rfl⟩
section
variable {X : Cx} {pins : List (Addr × Obj)} {σ : St} {H : Hp} {s : Shared} {a : Addr} {y v : V} {u r : Value} {o : Option V} {A : Around} {E : Value -> Shared -> Prop}
theorem Inv.big (I : Inv X pins σ H s) : sysModules < s.heap.objs.size := by
 have h : mainGlobals < s.heap.objs.size := (I.mod.glob.keeps I.bk).lt
 exact Nat.lt_trans (by decide) h
theorem J5 {h' : Heap} {t' : Nat} {ob : HO} (I : Inv X pins σ H s) (mu : Mut (H a)) (hs : Heap.SameBut a s.heap h') (he : ∃ q, h'.get? a = some q) (new : zB X.prog X.w (upd H a ob) h' a ob) :
  Inv X pins σ (upd H a ob) { s with heap := h', toks := t' } :=
 I.write (x := a) (e := a) mu (.inl rfl) (fun b q hb z => (hs.2 b hb).trans z) he new
end
section
variable {X : Cx} {pins : List (Addr × Obj)} {σ : St} {H : Hp} {s : Shared} {a : Addr} {kvs : List (Key × V)} {k : Key} {u : Value} {A : Around} {E : Value -> Shared -> Prop}
end
section
variable {X : Cx} {o i e value : Expr} {pos pos' tpos : Pos} {td ty tv : TE}
end
theorem JD {P : Program} {w : World} {H : Hp} (h : Heap) (hb : sysModules < h.objs.size) : zB P w H (h.push { cls := .type "dict", data := .dict #[] }) h.objs.size (.dT []) :=
 ⟨Nat.zero_le _, beq_eq_false_iff_ne.mpr (Ne.symm (Nat.ne_of_lt hb)), [], .nil, _, #[], 0, Heap.get?_push_size _ rfl, ⟨rfl, rfl, rfl⟩, rfl, rfl, List.nodup_nil⟩
section
variable {X : Cx} {pos : Pos}
end
def yk : List (TE × TE) -> St -> Hp -> (List (V × V) -> Hp -> Prop) -> Prop
 | [], _, H, Q => Q [] H
 | (tk, tv) :: r, σ, H, Q => tk σ H fun x H1 => tv σ H1 fun y H2 => yk r σ H2 fun ps H3 => Q ((x, y) :: ps) H3
abbrev VV : List (V × V) -> List (Value × Value) -> Prop := Paired fun p q => zt p.1 q.1 /\ zt p.2 q.2
def PPs (X : Cx) (pos : Pos) (keys : List (Option Expr)) (values : List Expr) (trs : List (TE × TE)) : Prop :=
 ∀ (pins : List (Addr × Obj)) (s : Shared) (σ : St) (H : Hp) (Q : List (V × V) -> Hp -> Prop), Inv X pins σ H s -> yk trs σ H Q ->
  wpAny (model X.prog X.w) X.A (evalPairs (pairTrees keys values X.env pos)) (fun vs s' => ∃ ps H', Inv X pins σ H' s' /\ VV ps vs /\ Q ps H') X.xe s
theorem K5 {X : Cx} {pos : Pos} : PPs X pos [] [] [] := fun pins s σ H Q I h => pairTrees_nil_walk ⟨[], H, I, .nil, h⟩
theorem vk {X : Cx} {pos : Pos} {k v : Expr} {ks : List (Option Expr)} {vs : List Expr} {tk tv : TE} {trs : List (TE × TE)} (hk : PE X k tk) (hv : PE X v tv) (hr : PPs X pos ks vs trs) :
  PPs X pos (some k :: ks) (v :: vs) ((tk, tv) :: trs) := fun pins s σ H Q I h =>
 pairTrees_cons_walk (thn (hk pins s σ H _ I h) fun u s1 ⟨x, H1, I1, rx, q1⟩ => thn (hv pins s1 σ H1 _ I1 q1) fun w2 s2 ⟨y, H2, I2, ry, q2⟩ =>
  thn (hr pins s2 σ H2 _ I2 q2) fun ws s3 ⟨ps, H3, I3, rel, q3⟩ => ⟨(x, y) :: ps, H3, I3, .cons ⟨rx, ry⟩ rel, q3⟩)
structure M1 (X : Cx) (o : Expr) (m : Str) (apos : Pos) (e : Expr) (cpos : Pos) : Prop where
 base : attributeBase o m X.env (eval o X.env) = eval o X.env
 few : ((backTo cpos (starEach [e] X.env)).all (fun x => !x.1) && (backToKw cpos (keywordEach [] X.env)).all (fun x => x.1.isSome)
  && decide (([e] : List Expr).length + ([] : List Keyword).length + (if ([] : List Keyword).isEmpty then 0 else 1) < 30)) = true
 line : (apos.endLine == cpos.line) = true
 trees : backTo cpos (starEach [e] X.env) = [(false, eval e X.env)]
structure M2 (X : Cx) (o : Expr) (m : Str) (apos : Pos) (e f : Expr) (cpos : Pos) : Prop where
 base : attributeBase o m X.env (eval o X.env) = eval o X.env
 few : ((backTo cpos (starEach [e, f] X.env)).all (fun x => !x.1) && (backToKw cpos (keywordEach [] X.env)).all (fun x => x.1.isSome)
  && decide (([e, f] : List Expr).length + ([] : List Keyword).length + (if ([] : List Keyword).isEmpty then 0 else 1) < 30)) = true
 line : (apos.endLine == cpos.line) = true
 trees : backTo cpos (starEach [e, f] X.env) = [(false, eval e X.env), (false, eval f X.env)]
def IsD (H : Hp) (a : Addr) : Prop := (∃ kvs, Rd H a (.dK kvs)) \/ ∃ kvs, Rd H a (.dT kvs)
theorem Yo {X : Cx} {pins : List (Addr × Obj)} {σ : St} {H : Hp} {s : Shared} {a : Addr} (I : Inv X pins σ H s) (d : IsD H a) :
  s.TypeIs (.ref a) "dict" /\ (∀ b, Value.ref a = .ref b -> ∃ ob, s.heap.get? b = some ob /\ ob.dict = none) /\ (a == sysModules) = false := by
 rcases d with ⟨kvs, e⟩ | ⟨kvs, e⟩
 ·obtain ⟨_, hd, vs, _, dd⟩ := Xs I.hok e
  refine ⟨dd.typeIs, fun b q => ?_, hd⟩
  cases q
  obtain ⟨ob, _, _, h1, h2, _⟩ := dd
  exact ⟨ob, h1, h2.2.1⟩
 ·obtain ⟨_, hd, xs, _, dd⟩ := Ju I.hok e
  refine ⟨dd.typeIs, fun b q => ?_, hd⟩
  cases q
  obtain ⟨ob, _, _, h1, h2, _⟩ := dd
  exact ⟨ob, h1, h2.2.1⟩
section
variable {X : Cx} {pins : List (Addr × Obj)} {σ : St} {H : Hp} {s : Shared} {a : Addr} {y d : V} {u r : Value} {o : Option V} {A : Around} {E : Value -> Shared -> Prop}
theorem YE {Q : Value -> Shared -> Prop} (hu : A.units + 1 < cLine) (I : Inv X pins σ H s) (g : Jx H a y o) (ry : zt y u) (rd : zt d r) (h : ∀ w' s', Inv X pins σ H s' -> zt (o.getD d) w' -> Q w' s') :
  wpAny (model X.prog X.w) A (call (.builtin "dict.get") [.ref a, u, r]) Q E s := by
 rcases g with ⟨kvs, k, e, ey, l⟩ | ⟨kvs, k, b, e, ey, eb, l⟩
 ·subst ey
  obtain ⟨z, hd, vs, rel, dd⟩ := Xs I.hok e
  refine call_meetsIn PySem.F.slot_dict_get dd.typeIs PySem.F.entry_dict_get (PySem.F.args_dict_get_3 _ _ _) (meets_dict_get_default (zO X.prog X.w) a (Xo ry) hd r) ⟨_, dd.mapOf, h _ _ (I.tok _) ?_⟩
  rw [l]
  exact (rel.val k).getD rd
 ·subst ey
  cases (show u = Value.ref b from ry)
  obtain ⟨z, hd, xs, rel, dd⟩ := Ju I.hok e
  refine call_meetsIn PySem.F.slot_dict_get dd.typeIs PySem.F.entry_dict_get (PySem.F.args_dict_get_3 _ _ _) (meetsH_dict_get_default (tupleKind (zO X.prog X.w)) a b hd r) ⟨tupleKind_room_in1 hu, k, xs, v4 I.hok eb, dd, h _ _ (I.tok _) ?_⟩
  rw [l]
  exact (rel.val k).getD rd
end
def JB (td ty tx : TE) : TE := fun σ H Q => td σ H fun x H1 => ∃ a, x = .ref a /\ IsD H1 a /\ ty σ H1 fun y H2 => tx σ H2 fun z H3 => ∃ o, Jx H3 a y o /\ Q (o.getD z) H3
section
variable {X : Cx} {o e f : Expr} {apos cpos : Pos} {td ty tx : TE}
theorem JU (hu : X.A.units + 1 < cLine) (ho : PE X o td) (he : PE X e ty) (hf : PE X f tx) (m : M2 X o "get" apos e f cpos) : PE X (.Call (.Attribute o "get" apos) [e, f] [] cpos) (JB td ty tx) := by
 intro pins s σ H Q I h
 refine wpAny_Call_method m.base m.few m.line PySem.F.plainAttrs_dict PySem.F.slot_dict_get PySem.F.type_dict_get (thn (ho pins s σ H _ I h) fun u s1 ⟨x, H1, I1, rx, a, ex, d, q1⟩ => ?_)
 subst ex
 obtain rfl : u = Value.ref a := rx
 obtain ⟨t1, t2, _⟩ := Yo I1 d
 refine ⟨t1, t2, ?_⟩
 rw [m.trees]
 refine Calls.callWith_builtin rfl (Calls.evalArgs_plain (Calls.spliced_cons (thn (he pins s1 σ H1 _ I1 q1) fun iv s2 ⟨y, H2, I2, ry, q2⟩ =>
  Calls.spliced_cons (thn (hf pins s2 σ H2 _ I2 q2) fun fv s3 ⟨z, H3, I3, rz, ov, g, q3⟩ => Calls.spliced_nil ?_))))
 exact YE hu I3 g ry rz fun w' s4 I4 rw' => ⟨_, H3, I4, rw', q3⟩
end
section
variable {X : Cx} {pins : List (Addr × Obj)} {σ : St} {H : Hp} {s : Shared} {a : Addr} {kvs : List (Key × V)} {A : Around} {E : Value -> Shared -> Prop}
end
section
variable {X : Cx} {pins : List (Addr × Obj)} {σ : St} {H : Hp} {s : Shared} {a : Addr} {y : V} {u : Value} {A : Around} {E : Value -> Shared -> Prop}
end
end L2
namespace L2
open PySem PySem.Spec PyProof.Rows
section
variable {κ : Type} [DecidableEq κ]
end
end L2
set_option Elab.async false
set_option linter.all false
set_option maxRecDepth 100000
set_option maxHeartbeats 4000000
namespace L2
open PySem PySem.Spec PyProof.Rows
def vE (N : List Str) (ts : List Nat) (sc : Scope) (kind : Str -> Option NameKind) : Bool :=
 sc.kind == .function && sc.names.all (fun y => y.2 != .cell && (y.2 != .local || sc.names.lookup y.1 == some .local) && (y.2 != .free || kind y.1 == some .cell || kind y.1 == some .free)) &&
  N.zipIdx.all (fun p => sc.names.lookup p.1 != some .local || ts.contains p.2)
def qk (cells : List (Str × Addr)) : List (Str × NameKind) -> List (Str × Addr) -> List (Str × Addr)
 | [], acc => acc
 | (n, k) :: r, acc => qk cells r (if k = .free then (n, (cells.lookup n).getD 0) :: acc else acc)
theorem yb {env : Env} : ∀ (names : List (Str × NameKind)) (acc : List (Str × Addr)), (∀ y ∈ names, y.2 = .free -> ∃ c, env.cells.lookup y.1 = some c) ->
  (forIn names acc fun (x : Str × NameKind) (cs : List (Str × Addr)) => (match x with | (name, kind) => if (kind == NameKind.free) = true then (do let c <- cellOf env name; pure (ForInStep.yield ((name, c) :: cs))) else pure (ForInStep.yield cs) : Sem (ForInStep (List (Str × Addr))))) = pure (qk env.cells names acc)
 | [], acc, _ => rfl
 | (n, k) :: r, acc, h => by
  rw [List.forIn_cons]
  by_cases hk : k = .free
  ·subst hk
   obtain ⟨c, hc⟩ := h (n, .free) List.mem_cons_self rfl
   have e1 : cellOf env n = pure c := by unfold cellOf; rw [hc]
   simp only [beq_self_eq_true, if_true, e1, pure_bind]
   rw [yb r _ fun y hy => h y (List.mem_cons_of_mem _ hy)]
   show _ = pure (qk env.cells r (if NameKind.free = .free then _ else _))
   rw [if_pos rfl, hc]; rfl
  ·have hb : (k == NameKind.free) = false := by simpa using hk
   simp only [hb, Bool.false_eq_true, if_false, pure_bind]
   rw [yb r _ fun y hy => h y (List.mem_cons_of_mem _ hy)]
   show _ = pure (qk env.cells r (if k = .free then _ else _))
   rw [if_neg hk]
theorem j3 {cells : List (Str × Addr)} : ∀ (names : List (Str × NameKind)) (acc : List (Str × Addr)), (∀ y ∈ names, y.2 = .free -> ∃ c, cells.lookup y.1 = some c) -> (∀ x c, acc.lookup x = some c -> cells.lookup x = some c) ->
    (∀ x c, (qk cells names acc).lookup x = some c -> cells.lookup x = some c) /\ (∀ x c, acc.lookup x = some c -> ∃ c', (qk cells names acc).lookup x = some c') /\ ∀ y ∈ names, y.2 = .free -> ∃ c, (qk cells names acc).lookup y.1 = some c
  | [], acc, _, h2 => ⟨h2, fun x c e => ⟨c, e⟩, fun y hy => nomatch hy⟩
  | (n, k) :: r, acc, h1, h2 => by
    by_cases hk : k = .free
    · subst hk
      obtain ⟨c, hc⟩ := h1 (n, .free) List.mem_cons_self rfl
      have hc : cells.lookup n = some c := hc
      have e : qk cells ((n, .free) :: r) acc = qk cells r ((n, c) :: acc) := by
        show qk cells r (if NameKind.free = .free then _ else _) = _
        rw [if_pos rfl, hc]; rfl
      rw [e]
      obtain ⟨q1, q2, q3⟩ := j3 (cells := cells) r ((n, c) :: acc) (fun y hy => h1 y (List.mem_cons_of_mem _ hy)) (fun x c' e' => by
        rw [List.lookup_cons] at e'
        cases hx : x == n with
        | true => rw [hx] at e'; have : x = n := by simpa using hx
                  subst this; cases e'; exact hc
        | false => rw [hx] at e'; exact h2 x c' e')
      refine ⟨q1, fun x c' e' => ?_, fun y hy hf => ?_⟩
      · cases hx : x == n with
        | true => exact q2 x c (by rw [List.lookup_cons, hx])
        | false => exact q2 x c' (by rw [List.lookup_cons, hx]; exact e')
      · rcases List.mem_cons.mp hy with rfl | hy
        · exact q2 n c (by rw [List.lookup_cons, beq_self_eq_true])
        · exact q3 y hy hf
    · have e : qk cells ((n, k) :: r) acc = qk cells r acc := by
        show qk cells r (if k = .free then _ else _) = _
        rw [if_neg hk]
      rw [e]
      obtain ⟨q1, q2, q3⟩ := j3 (cells := cells) r acc (fun y hy => h1 y (List.mem_cons_of_mem _ hy)) h2
      refine ⟨q1, q2, fun y hy hf => ?_⟩
      rcases List.mem_cons.mp hy with rfl | hy
      · exact absurd hf hk
      · exact q3 y hy hf
theorem kY {scope : Scope} {env : Env} (h : ∀ y ∈ scope.names, y.2 = .free -> ∃ c, env.cells.lookup y.1 = some c) :
  ∃ cl, closureFor scope env = pure cl /\ (∀ x c, cl.lookup x = some c -> env.cells.lookup x = some c) /\ ∀ y ∈ scope.names, y.2 = .free -> ∃ c, cl.lookup y.1 = some c := by
 obtain ⟨q1, _, q3⟩ := j3 (cells := env.cells) scope.names [] h (fun x c e => nomatch e)
 refine ⟨qk env.cells scope.names [], ?_, q1, q3⟩
 unfold closureFor
 have := yb (env := env) scope.names [] h
 first
  | exact this
  | (simp only [bind_pure]; exact this)
  | (refine Eq.trans ?_ this; simp)
theorem jZ {env : Env} : ∀ {names : List (Str × NameKind)} {x : Str}, (names.map fun (n, k) => if (k == NameKind.free && env.scope.kind == .function && env.kindOf n == some .cell) then (n, NameKind.cell) else (n, k)).lookup x =
  (names.lookup x).map fun k => if (k == NameKind.free && env.scope.kind == .function && env.kindOf x == some .cell) then NameKind.cell else k
 | [], _ => rfl
 | (n, k) :: r, x => by
  have ih := @jZ env r x
  rw [List.map_cons]
  cases hx : x == n with
  | true =>
   have e : x = n := by simpa using hx
   subst e
   rw [List.lookup_cons (as := r), beq_self_eq_true]
   show List.lookup x ((if (k == NameKind.free && env.scope.kind == .function && env.kindOf x == some .cell) = true then (x, NameKind.cell) else (x, k)) :: _) = some _
   by_cases hc : (k == NameKind.free && env.scope.kind == .function && env.kindOf x == some .cell) = true
   ·rw [if_pos hc, List.lookup_cons, beq_self_eq_true]; dsimp only; rw [if_pos hc]
   ·rw [if_neg hc, List.lookup_cons, beq_self_eq_true]; dsimp only; rw [if_neg hc]
  | false =>
   rw [List.lookup_cons (as := r), hx]
   show List.lookup x ((if (k == NameKind.free && env.scope.kind == .function && env.kindOf n == some .cell) = true then (n, NameKind.cell) else (n, k)) :: _) = _
   by_cases hc : (k == NameKind.free && env.scope.kind == .function && env.kindOf n == some .cell) = true
   ·rw [if_pos hc, List.lookup_cons, hx]; exact ih
   ·rw [if_neg hc, List.lookup_cons, hx]; exact ih
abbrev cxC (X : Cx) (scope : Scope) (cl : List (Str × Addr)) (s : Shared) (H : Hp) (fp : List Addr) : Cx :=
 { X with s₀ := s, H₀ := H, env := compEnvC scope cl s.heap.objs.size X.env, outer := X.stack, ex := fp, fn := fun _ => false, pn := [], xe := fun _ _ => False }
def clr : List Nat -> St -> St
 | [], σ => σ
 | j :: r, σ => clr r (σ.set j none)
theorem ww : ∀ (ts : List Nat) (σ : St), (clr ts σ).length = σ.length
 | [], _ => rfl
 | j :: r, σ => by show (clr r (σ.set j none)).length = _; rw [ww r]; simp
theorem yI : ∀ (ts : List Nat) (σ : St) (i : Nat) (v : V), (clr ts σ)[i]? = some (some v) -> i ∉ ts /\ σ[i]? = some (some v)
 | [], _, _, _, h => ⟨by simp, h⟩
 | j :: r, σ, i, v, h => by
  obtain ⟨h1, h2⟩ := yI r (σ.set j none) i v h
  by_cases e : j = i
  ·subst e
   rw [List.getElem?_set] at h2
   simp at h2
  ·rw [List.getElem?_set_ne e] at h2
   exact ⟨by simp [h1, Ne.symm e], h2⟩
structure ScF (X : Cx) (ts : List Nat) (scope : Scope) : Prop where
 kind : scope.kind = .function
 cell : ∀ y ∈ scope.names, y.2 ≠ .cell
 loc : ∀ y ∈ scope.names, y.2 = .local -> scope.names.lookup y.1 = some .local
 free : ∀ y ∈ scope.names, y.2 = .free -> X.env.kindOf y.1 = some .cell \/ X.env.kindOf y.1 = some .free
 ts : ∀ (i : Nat) x, X.N[i]? = some x -> scope.names.lookup x = some .local -> i ∈ ts
theorem QV {X : Cx} {ts : List Nat} {scope : Scope} (h : vE X.N ts scope X.env.kindOf = true) : ScF X ts scope := by
  unfold vE at h
  simp only [Bool.and_eq_true, List.all_eq_true, bne_iff_ne, ne_eq, Bool.or_eq_true, beq_iff_eq] at h
  obtain ⟨⟨h1, h2⟩, h3⟩ := h
  refine ⟨h1, fun y hy => (h2 y hy).1.1, fun y hy e => ?_, fun y hy e => ?_, fun i x e1 e2 => ?_⟩
  · rcases (h2 y hy).1.2 with z | z
    · exact absurd e z
    · exact z
  · rcases (h2 y hy).2 with (z | z) | z
    · exact absurd e z
    · exact .inl z
    · exact .inr z
  · have hm : (x, i) ∈ X.N.zipIdx := by
      rw [List.mem_zipIdx_iff_getElem?]; exact e1
    rcases h3 _ hm with z | z
    · exact absurd e2 z
    · simpa using z
section
variable {X : Cx} {ts : List Nat} {scope : Scope} {pins : List (Addr × Obj)} {σ : St} {H : Hp} {s : Shared} {fp : List Addr}
theorem kD (I : Inv X pins σ H s) (S : ScF X ts scope) (hf : ∀ b ∈ fp, jA X pins H b) (hfl : ∀ b ∈ fp, b < s.heap.objs.size) {cl : List (Str × Addr)} (c1 : ∀ x c, cl.lookup x = some c -> X.env.cells.lookup x = some c)
  (c2 : ∀ y ∈ scope.names, y.2 = .free -> ∃ c, cl.lookup y.1 = some c) {h1 : Heap} {t1 : Nat} (hns : h1.Ns s.heap.objs.size (fun x => ([] : List (Str × Value)).reverse.lookup x))
  (hk : ∀ b o, s.heap.get? b = some o -> h1.get? b = some o) : Inv (cxC X scope cl s H fp) [] (clr ts σ) H { s with heap := h1, toks := t1 } := by
 have hlk : ∀ x, (relabel scope X.env).names.lookup x = (scope.names.lookup x).map fun k => if (k == NameKind.free && X.env.scope.kind == .function && X.env.kindOf x == some .cell) then NameKind.cell else k := fun x => jZ
 have cfree : ∀ x, ((relabel scope X.env).names.lookup x = some .cell \/ (relabel scope X.env).names.lookup x = some .free) -> (x, NameKind.free) ∈ scope.names := fun x hx => by
  rw [hlk] at hx
  cases e : scope.names.lookup x with
  | none => rw [e] at hx; rcases hx with hx | hx <;> cases hx
  | some k =>
   have hm := mem_of_lookup_some e
   cases k with
   | free => exact hm
   | cell => exact absurd rfl (S.cell _ hm)
   | «local» => rw [e] at hx; rcases hx with hx | hx <;> cases hx
   | globalExplicit => rw [e] at hx; rcases hx with hx | hx <;> cases hx
   | globalImplicit => rw [e] at hx; rcases hx with hx | hx <;> cases hx
 have ccell : ∀ x c, cl.lookup x = some c -> ∃ v, s.heap.IsCell c v := fun x c e => I.cell x c (c1 x c e)
 have fpne : ∀ b ∈ fp, b ∉ frs X.stack := fun b hb z => by
  obtain ⟨_, f1, f2, _⟩ := hf b hb
  rcases List.mem_cons.mp (I.stkSub b z) with e | e
  ·exact f1 e
  ·exact f2 e
 refine ⟨⟨I.ok.mod, S.kind, I.ok.glob, I.ok.blt, Nat.le_refl _, fun x y c e1 e2 => I.ok.inj x y c (c1 x c e1) (c1 y c e2), fun x hx => c2 (x, .free) (cfree x hx) rfl, (fun x c hx => nomatch hx), I.ok.hd, I.ok.frames, .inl rfl, fun b hb => ⟨Nat.ne_of_lt (hfl b hb), fun x c e => (hf b hb).2.2.2.2.1 x c (c1 x c e)⟩,
  I.bs, Nat.le_trans I.ok.bsz I.sz, fun b o e hb => ?_, fpne, I.stack, I.stkFree⟩, rfl, I.bare, Un.kept hk, ⟨_, hns, fun i x v e1 e2 e3 => ?_⟩, fun x c e => ?_, I.hok.fresh (Nat.le_refl _), fun x c e => I.freeC x c (c1 x c e), fun p hp => absurd hp (by simp), I.hok.kept hk, by rw [ww]; exact I.len⟩
 ·rcases (hf b hb).2.2.2.1 with z | z
  ·exact I.ok.noex b o e z
  ·exact absurd (Nat.lt_of_lt_of_le (Heap.lt_size e) (Nat.le_trans I.ok.bsz z)) (Nat.lt_irrefl _)
 ·obtain ⟨nt, e2⟩ := yI ts σ i v e2
  have e3' : (relabel scope X.env).names.lookup x = some .local \/ (relabel scope X.env).names.lookup x = some .cell \/ (relabel scope X.env).names.lookup x = some .free := e3
  rcases e3' with z | z
  ·rw [hlk] at z
   cases e : scope.names.lookup x with
   | none => rw [e] at z; cases z
   | some k =>
    rw [e] at z
    have z' : (if (k == NameKind.free && X.env.scope.kind == .function && X.env.kindOf x == some .cell) = true then NameKind.cell else k) = .local := Option.some.inj z
    split at z'
    ·cases z'
    ·subst z'
     exact absurd (S.ts i x e1 e) nt
  ·have hm := cfree x z
   obtain ⟨c, hc⟩ := c2 _ hm rfl
   obtain ⟨m, hn, hl⟩ := I.loc
   have vis : Vis X.env.scope x := by
    rcases S.free _ hm rfl with q | q
    ·exact .inr (.inl q)
    ·exact .inr (.inr q)
   obtain ⟨u, r, l⟩ := hl i x v e1 e2 vis
   refine ⟨u, r, .inr ⟨z, c, hc, ?_⟩⟩
   rcases l with ⟨q, _⟩ | ⟨_, c', hc', hcell⟩
   ·rcases S.free _ hm rfl with q' | q'
    ·rw [q'] at q; cases q
    ·rw [q'] at q; cases q
   ·rw [c1 x c hc] at hc'
    cases hc'
    obtain ⟨o, ho, hd⟩ := hcell
    exact ⟨o, hk _ _ ho, hd⟩
 ·obtain ⟨v, o, ho, hd⟩ := ccell x c e
  exact ⟨v, o, hk _ _ ho, hd⟩
end
section
variable {prog : Program} {w : World} {A : Around} {R : Result -> Shared -> Prop} {s : Shared}
theorem jz {elt target iter : Expr} {ifs : List Expr} {scope : Scope} {pos : Pos} {it acc : Value} {env : Env} (I : Nat -> Shared -> Prop)
    (turn : ∀ n s, I n s -> wpAny (model prog w) A (pyNext it) (fun r s₁ => match r with
      | none => R (.ok .next) s₁
      | some v => wpAny (model prog w) A (letOwnedTupleGo target it v) (fun _ s₀ => wpAny (model prog w) A (assign target env v) (fun _ s₂ =>
          wpAny (model prog w) A (forIn ifs true fun c r => if r = true then do let ok <- isTrue c env (eval c env); pure (ForInStep.yield ok) else pure (ForInStep.yield r)) (fun ok s₃ =>
            if ok = true then wpAny (model prog w) A (eval elt env) (fun x s₄ =>
              wpAny (model prog w) A (call (.builtin "list.append") [acc, x]) (fun _ s₅ => ∃ m, m < n /\ I m s₅) (fun _ _ => False) s₄) (fun _ _ => False) s₃
            else ∃ m, m < n /\ I m s₃) (fun _ _ => False) s₂) (fun _ _ => False) s₀) (fun _ _ => False) s₁) (fun _ _ => False) s)
    (n : Nat) (h : I n s) :
    codeAny (model prog w) A (.compLoop (.ListComp elt [⟨target, iter, ifs, 0⟩] scope pos) 0 it acc env) R s := by
  refine codeAny_loop rfl I (fun n s hI => ?_) n h
  show wpAny _ A ((compTurn (.ListComp elt [⟨target, iter, ifs, 0⟩] scope pos) 0 it acc env).onRaise (fun x => do noteFrame x env; theTreesLotGoes x)) _ _ s
  refine wpAny_noted ?_
  rw [compTurn_list]
  refine wpAny_bind (wpAny_standAt (wpAny_bind (wpAny_mono (turn n s hI) (fun r s₁ h₁ => ?_) fun _ _ h' => h'.elim)))
  cases r with
  | none => exact wpAny_pure h₁
  | some v =>
    refine wpAny_bind (wpAny_mono h₁ (fun _ s₀ h₀ => ?_) fun _ _ h' => h'.elim)
    refine wpAny_bind (wpAny_mono h₀ (fun _ s₂ h₂ => wpAny_bind (wpAny_mono h₂ (fun ok s₃ h₃ => ?_) fun _ _ h' => h'.elim)) fun _ _ h' => h'.elim)
    cases ok with
    | false => exact wpAny_pure ⟨rfl, h₃⟩
    | true =>
      exact wpAny_bind (wpAny_bind (wpAny_mono h₃ (fun x s₄ h₄ => wpAny_bind (wpAny_mono h₄ (fun _ s₅ h₅ => wpAny_pure (wpAny_pure ⟨rfl, h₅⟩)) fun _ _ h' => h'.elim)) fun _ _ h' => h'.elim))
end
def QS : TT := fun _ H Q => Q true H
def PIf (X : Cx) (ifs : List Expr) (t : TT) : Prop :=
 ∀ (pins : List (Addr × Obj)) (s : Shared) (σ : St) (H : Hp) (Q : Bool -> Hp -> Prop), Inv X pins σ H s -> t σ H Q ->
  wpAny (model X.prog X.w) X.A (forIn ifs true fun c r => if r = true then do let ok <- isTrue c X.env (eval c X.env); pure (ForInStep.yield ok) else pure (ForInStep.yield r)) (TP X pins σ Q) X.xe s
theorem zP {X : Cx} : PIf X [] QS := fun _ _ _ H _ I h => wpAny_tests_nil ⟨H, I, h⟩
def vH (ts : List Nat) (wi : TI) (g : TG) (tt : TT) (te : TE) : TE := fun σ H Q => wi σ H fun J H1 => ∀ D, H1 D = none -> ∃ W : Nat -> Nat -> St -> Hp -> Prop, (∃ m, W 0 m (clr ts σ) (upd H1 D (.lst []))) /\ ∀ i m τ H2, W i m τ H2 ->
 (J.stop i H2 /\ Q (.ref D) H2) \/ (J.go i H2 /\ ∃ N : St -> Hp -> Prop, (∀ τ' H', N τ' H' -> ∃ m', m' < m /\ W (i + 1) m' τ' H') /\ ∀ x H', J.yld i H2 x H' -> g x τ H' fun τ2 H3 => tt τ2 H3 fun b H4 =>
  if b = true then te τ2 H4 fun v H5 => ∃ ys, H5 D = some (.lst ys) /\ ys.length < sizeLine /\ N τ2 (upd H5 D (.lst (ys ++ [v]))) else N τ2 H4)
section
variable {X : Cx} {ts : List Nat} {scope : Scope} {tg iter elt : Expr} {ifs : List Expr} {wi : TI} {g : TG} {tt : TT} {te : TE} {pos : Pos}
theorem y9 (hc : X.calm = true) (hsc : vE X.N ts scope X.env.kindOf = true) (hi : PI X tg iter wi) (hg : ∀ cl s H fp, PG (cxC X scope cl s H fp) tg g) (ht : ∀ cl s H fp, PIf (cxC X scope cl s H fp) ifs tt) (he : ∀ cl s H fp, PE (cxC X scope cl s H fp) elt te)
  {pins : List (Addr × Obj)} {s : Shared} {σ : St} {H : Hp} {Q : VK} (I : Inv X pins σ H s) (h : vH ts wi g tt te σ H Q) {use : Option (Value -> Sem Unit)} {Q' : Value -> Shared -> Prop}
  (fin : ∀ (D C : Addr) (H' : Hp) (s' : Shared), Inv X pins σ H' s' -> (∃ m, s'.heap.Ns C m) -> H' C = none -> C ≠ X.env.locals -> (∀ x c, X.env.cells.lookup x = some c -> c ≠ C) -> X.s₀.heap.objs.size <= C -> (∀ p ∈ X.pn ++ pins, p.1 ≠ C) -> C ∉ X.fs -> Q (.ref D) H' ->
   compPost (model X.prog X.w) X.A X.xe use Q' (.ref D) C (.ok .next) s')
  (hs : ∀ x, foldedSetIterable iter X.env x = pure x) :
  wpAny (model X.prog X.w) X.A (comprehension (.ListComp elt [⟨tg, iter, ifs, 0⟩] scope pos) scope X.env (firstIterPos [⟨tg, iter, ifs, 0⟩] pos) (newList []) false (eval iter X.env) use) Q' X.xe s := by
 have S := QV hsc
 obtain ⟨cl, hcl, c1, c2⟩ := kY (scope := scope) (env := X.env) fun y hy e => I.ok.has y.1 (S.free y hy e)
 refine wpAny_comprehension_free (use := use) rfl hs hcl S.kind S.loc ?_
 refine wpAny_mono (hi pins s σ H _ I h) (fun v s1 h1 => wpAny_mono h1 (fun itv s2 h2 => ?_) fun _ _ e => e) fun _ _ e => e
 obtain ⟨it, fp, tn, J, H2, e, I2, T, st2, f2, q2⟩ := h2
 subst e
 have hD : H2 s2.heap.objs.size = none := I2.hok.fresh (Nat.le_refl _)
 obtain ⟨W, ⟨m0, w0⟩, turn⟩ := q2 _ hD
 refine wpAny_newObj_type (wpAny_newFunctionEnv S.cell (by intro y hy; simp at hy) (fun h₁ hns₁ hsb₁ => ?_) S.kind)
 dsimp only at hns₁ hsb₁ ⊢
 generalize hh3 : s2.heap.push { cls := .type "list", dict := none, data := .seq ([] : List Value).toArray } = g3 at hns₁ hsb₁ ⊢
 have I3 : Inv X pins σ (upd H2 s2.heap.objs.size (.lst [])) { s2 with heap := g3 } := by
  rw [<- hh3]
  exact I2.laid (t' := s2.toks) (fun b u e => Heap.get?_push_of_some _ e) (Nat.le_refl _) ⟨Nat.zero_le _, [], _, .nil, Heap.get?_push_size _ rfl⟩
 have st3 : tn 0 g3 := T.keep _ _ _ st2 fun b _ o e => by rw [<- hh3]; exact Heap.get?_push_of_some _ e
 have lt2 : ∀ b ∈ fp, b < s2.heap.objs.size := fun b hb => by obtain ⟨o, e, _⟩ := T.obj _ _ st2 b hb; exact Heap.lt_size e
 have hsz3 : g3.objs.size = s2.heap.objs.size + 1 := by rw [<- hh3, Heap.size_push]
 have f3 : ∀ b ∈ fp, jA X pins (upd H2 s2.heap.objs.size (.lst [])) b := fun b hb => ⟨by rw [zf (Nat.ne_of_lt (lt2 b hb))]; exact (f2 b hb).1, (f2 b hb).2⟩
 have lt3 : ∀ b ∈ fp, b < g3.objs.size := fun b hb => by rw [hsz3]; exact Nat.lt_succ_of_lt (lt2 b hb)
 have old : ∀ b o, g3.get? b = some o -> h₁.get? b = some o := fun b o e => hsb₁.extBut b o (Nat.ne_of_lt (Heap.lt_size e)) (Heap.get?_push_of_some _ e)
 have hns : h₁.Ns g3.objs.size (fun x => ([] : List (Str × Value)).reverse.lookup x) := hns₁
 have I4 : ∀ t, Inv (cxC X scope cl { s2 with heap := g3 } (upd H2 s2.heap.objs.size (.lst [])) fp) [] (clr ts σ) (upd H2 s2.heap.objs.size (.lst [])) { s2 with heap := h₁, toks := t } := fun t => kD I3 S f3 lt3 c1 c2 hns old
 have fpne : ∀ b ∈ fp, b ∉ frs X.stack := fun b hb z => by
  obtain ⟨_, f1, f2, _⟩ := f3 b hb
  rcases List.mem_cons.mp (I3.stkSub b z) with e | e
  ·exact f1 e
  ·exact f2 e
 have stat : ∀ {H' : Hp}, (∀ b ∈ fp, H' b = none) -> ∀ b ∈ fp, jA (cxC X scope cl { s2 with heap := g3 } (upd H2 s2.heap.objs.size (.lst [])) fp) [] H' b := fun hn b hb =>
  ⟨hn b hb, Nat.ne_of_lt (lt3 b hb), fpne b hb, .inl hb, fun x c e => (f2 b hb).2.2.2.2.1 x c (c1 x c e), fun p hp => absurd hp (by simp)⟩
 have loop : ∀ t, codeAny (model X.prog X.w) X.A (.compLoop (.ListComp elt [⟨tg, iter, ifs, 0⟩] scope pos) 0 (.ref it) (.ref s2.heap.objs.size) (compEnvC scope cl g3.objs.size X.env))
   (compPost (model X.prog X.w) X.A X.xe use Q' (.ref s2.heap.objs.size) g3.objs.size) { s2 with heap := h₁, toks := t } := by
  intro t
  refine jz (fun n s' => ∃ i τ H', Inv (cxC X scope cl { s2 with heap := g3 } (upd H2 s2.heap.objs.size (.lst [])) fp) [] τ H' s' /\ tn i s'.heap /\ (∀ b ∈ fp, H' b = none) /\ W i n τ H') ?_ m0
   ⟨0, clr ts σ, _, I4 t, T.keep _ _ _ st3 fun b _ o e => old b o e, fun b hb => (f3 b hb).1, w0⟩
  rintro n s5 ⟨i, τ, H5, I5, st5, fr5, w5⟩
  rcases turn i n τ H5 w5 with ⟨stop, qn⟩ | ⟨go, N, hN, step⟩
  ·refine thn (T.done (cxC X scope cl { s2 with heap := g3 } (upd H2 s2.heap.objs.size (.lst [])) fp) rfl rfl rfl hc i [] s5 τ H5 _ I5 (stat fr5) st5 stop) fun r s6 ⟨hr, I6⟩ => ?_
   subst hr
   have base : Un (frs X.stack) fp (upd H2 s2.heap.objs.size (.lst [])) H5 g3 s6.heap := I6.base
   have J6 : Inv X pins σ H5 s6 := I3.call' (ch := fp) I6.os base I6.hok I6.bare fun b hb => ⟨(f3 b hb).2.2.2.1, (f3 b hb).2.1, (f3 b hb).2.2.2.2.1, (f3 b hb).2.2.2.2.2⟩
   obtain ⟨m6, n6, _⟩ := I6.loc
   have hC : g3.get? g3.objs.size = none := Heap.get?_none_of_le (Nat.le_refl _)
   refine fin _ g3.objs.size H5 s6 J6 ⟨m6, n6⟩ I6.free (Nat.ne_of_gt I3.lt) (fun x c e z => ?_) I3.sz (fun p hp z => ?_) (I3.nofs (Nat.le_refl _)) qn
   ·obtain ⟨v, q⟩ := I3.cell x c e
    exact absurd q.lt (by rw [z]; exact Nat.lt_irrefl _)
   ·exact absurd (Heap.lt_size (I3.pin p hp).1) (by rw [z]; exact Nat.lt_irrefl _)
  ·refine thn (T.item (cxC X scope cl { s2 with heap := g3 } (upd H2 s2.heap.objs.size (.lst [])) fp) rfl rfl rfl hc i [] s5 τ H5 _ I5 (stat fr5) st5 go) fun r s6 ⟨u, hr, h6⟩ => ?_
   subst hr
   refine thn h6 fun _ s7 ⟨x, H7, I7, r7, y7, st7, fr7⟩ => ?_
   have I7' := I7.pinned (stat fr7) (T.obj _ _ st7)
   refine thn (hg cl { s2 with heap := g3 } _ fp _ s7 τ H7 x u _ I7' r7 (step x H7 y7)) fun _ s8 ⟨τ8, H8, I8, q8⟩ => ?_
   refine thn (ht cl { s2 with heap := g3 } _ fp _ s8 τ8 H8 _ I8 q8) fun b s9 ⟨H9, I9, q9⟩ => ?_
   have again : ∀ {τ9 : St} {H9 : Hp} {s9 : Shared}, Inv (cxC X scope cl { s2 with heap := g3 } (upd H2 s2.heap.objs.size (.lst [])) fp) ([] ++ j5 fp s7.heap) τ9 H9 s9 -> N τ9 H9 ->
     ∃ m, m < n /\ ∃ i τ H', Inv (cxC X scope cl { s2 with heap := g3 } (upd H2 s2.heap.objs.size (.lst [])) fp) [] τ H' s9 /\ tn i s9.heap /\ (∀ b ∈ fp, H' b = none) /\ W i m τ H' := fun {τ9 H9 s9} I9 n9 => by
    obtain ⟨m', hm, w9⟩ := hN _ _ n9
    refine ⟨m', hm, i + 1, τ9, H9, I9.unpinned, T.keep _ _ _ st7 fun b hb o e => (I9.pin (b, o) (List.mem_append_right _ (List.mem_append_right _ (ql hb e)))).1, fun b hb => ?_, w9⟩
    obtain ⟨o, e, d⟩ := T.obj _ _ st7 b hb
    exact (I9.pin (b, o) (List.mem_append_right _ (List.mem_append_right _ (ql hb e)))).2.1
   cases b with
   | false =>
    rw [if_neg Bool.false_ne_true] at q9 ⊢
    exact again I9 q9
   | true =>
    rw [if_pos rfl] at q9 ⊢
    refine thn (he cl { s2 with heap := g3 } _ fp _ s9 τ8 H9 _ I9 q9) fun y s10 ⟨v, H10, I10, r10, ys, hys, hlen, n10⟩ => ?_
    exact thn (kn (X := cxC X scope cl { s2 with heap := g3 } (upd H2 s2.heap.objs.size (.lst [])) fp) _ s10 τ8 H10 (.ref s2.heap.objs.size) [v] (.ref s2.heap.objs.size) [y] (fun _ H11 => N τ8 H11) I10 rfl (.cons r10 .nil) ⟨_, ys, v, rfl, rfl, hys, hlen, n10⟩) fun _ s11 ⟨_, H11, I11, _, n11⟩ => again I11 n11
 have LW := loop (s2.toks + ([] : List (Str × Value)).length)
 exact codeAny_compStart_list LW (T.self _ 0 _ _ _ (T.keep _ _ _ st3 fun b _ o e => old b o e) LW)
end
end L2
set_option Elab.async false
set_option linter.all false
set_option maxRecDepth 100000
set_option maxHeartbeats 4000000
namespace L2
open PySem PySem.Spec PyProof.Rows
section
variable {X : Cx} {ts : List Nat} {scope : Scope} {tg iter elt : Expr} {ifs : List Expr} {wi : TI} {g : TG} {tt : TT} {te : TE} {pos : Pos}
theorem qL (hc : X.calm = true) (hsc : vE X.N ts scope X.env.kindOf = true) (hi : PI X tg iter wi) (hg : ∀ cl s H fp, PG (cxC X scope cl s H fp) tg g) (ht : ∀ cl s H fp, PIf (cxC X scope cl s H fp) ifs tt) (he : ∀ cl s H fp, PE (cxC X scope cl s H fp) elt te)
  (hs : ∀ x, foldedSetIterable iter X.env x = pure x := by intro _; rfl) : PE X (.ListComp elt [⟨tg, iter, ifs, 0⟩] scope pos) (vH ts wi g tt te) := by
 intro pins s σ H Q I h
 rw [eval_ListComp]
 refine y9 hc hsc hi hg ht he I h (use := none) (fun D C H' s' I' ⟨m, hn⟩ hC hL hce hsz hp hfs q => ⟨m, hn, fun h' hs' => ?_⟩) hs
 exact ⟨.ref D, H', I'.turned (t' := s'.toks) (it := C) (fun b o hb e => (hs'.2 b hb).trans e) hC hL (.inr hsz) hce hp, rfl, q⟩
theorem Xc {j : Nat} {y : Str} {py spos : Pos} (hc : X.calm = true) (hN : X.N.Nodup) (hj : X.N[j]? = some y) (hy : Loc X.env.scope y) (hsc : vE X.N ts scope X.env.kindOf = true) (hi : PI X tg iter wi) (hg : ∀ cl s H fp, PG (cxC X scope cl s H fp) tg g) (ht : ∀ cl s H fp, PIf (cxC X scope cl s H fp) ifs tt) (he : ∀ cl s H fp, PE (cxC X scope cl s H fp) elt te)
  (hsw : swapsWith (.ListComp elt [⟨tg, iter, ifs, 0⟩] scope pos) (some (.Name y py)) spos.line X.env = pure true := by rfl)
  (hs : ∀ x, foldedSetIterable iter X.env x = pure x := by intro _; rfl) (hf : X.fn y = true \/ X.env.scope.names.lookup y = some .local := by first | exact .inl rfl | exact .inr rfl | assumption) :
  PS X (.Assign [.Name y py] (.ListComp elt [⟨tg, iter, ifs, 0⟩] scope pos) spos) (ZA (vH ts wi g tt te) (xw j)) := by
 intro pins s σ H D I h
 rw [exec_Assign_Name_used _ _ _ _ hsw]
 refine wpAny_bind (wpAny_standAt (wpAny_bind ?_))
 show wpAny _ _ (do let _ <- comprehension (.ListComp elt [⟨tg, iter, ifs, 0⟩] scope pos) scope X.env _ (newList []) false (eval iter X.env) (some (assign (.Name y py) X.env))) _ _ s
 refine wpAny_bind (wpAny_mono (y9 hc hsc hi hg ht he I h (use := some (assign (.Name y py) X.env)) (Q' := fun _ s' => SP X pins D .next s') (fun D' C H' s' I' ⟨m, hn⟩ hC hL hce hsz hp hfs q => ?_) hs) (fun _ s' hq => wpAny_pure (wpAny_pure hq)) fun _ _ e => e)
 show wpAny _ _ (assign (.Name y py) X.env (.ref D')) _ _ _
 refine wpAny_assign_Name (j9 (v := .ref D') I' hN hj hy rfl (fun s2 I2 ⟨a, hsb, ha⟩ => ?_) hf)
 have hCa : C ≠ a := by
  rcases ha with rfl | ha
  ·exact hL
  ·exact Ne.symm (hce y a ha)
 refine ⟨m, hn.sameBut hsb hCa, fun h' hs' => ?_⟩
 exact ⟨_, H', I2.turned (t' := s2.toks) (it := C) (fun b o hb e => (hs'.2 b hb).trans e) hC hL (.inr hsz) hce hp, q⟩
end
def Ite (K : PySem.W.Frag) (a : Addr) : It :=
 ⟨fun i H => ∃ xs x, SqL K H a xs /\ xs[i]? = some x, fun i H y H' => ∃ p x, H p = none /\ y = .ref p /\ (∀ xs, SqL K H a xs -> xs[i]? = some x) /\ H' = upd H p (.tup [.int i, x]), fun i H => ∃ xs, SqL K H a xs /\ xs.length <= i⟩
theorem ZT {P : Program} {w : World} {K : PySem.W.Frag} {es : List Expr} {kt : Nat} {tp : Pos} (a e it : Addr) (hei : e ≠ it) : yO P w K (.Tuple es kt tp) (Ite K a) [e, it] e (fun i h => (∃ old, IsEnum h e it (i : Nat) old) /\ h.IsListIter it a i) where
 mem := by simp
 obj := fun i h st b hb => by
  obtain ⟨⟨old, he⟩, ⟨o, e1, c, d⟩⟩ := st
  rcases List.mem_cons.mp hb with rfl | hb
  ·exact ⟨_, he, fun v z => by have z' : Data.fields _ = Data.cell v := z; cases z'⟩
  ·have e2 : b = it := by simpa using hb
   subst e2
   exact ⟨o, e1, fun v z => by rw [d] at z; cases z⟩
 keep := fun i h h' st k => by
  obtain ⟨⟨old, he⟩, st⟩ := st
  exact ⟨⟨old, k e (by simp) _ he⟩, st.at fun o e => k it (by simp) o e⟩
 item := by
  intro X hP hw hK hc i pins s σ H E I hf st hg
  subst hP hw hK
  obtain ⟨⟨old, he⟩, st⟩ := st
  obtain ⟨xs, x, hq, hx⟩ := hg
  obtain ⟨its, rv, p, hz⟩ := I.list hq
  obtain ⟨u, hu, ru⟩ := rv.get hx
  have fe := hf e (by simp)
  have fi := hf it (by simp)
  refine wpAny_pyNext_enum_item he st p.isList (x := u) (by simpa using hu) hei fun h1 heo hit1 ht1 hz1 hk1 => ?_
  refine ⟨.ref s.heap.objs.size, rfl, wpAny_letOwnedTupleGo_enum heo fun h2 he2 hs2 => ?_⟩
  replace hs2 : Heap.SameBut e h1 h2 := hs2
  have elt : e < s.heap.objs.size := Heap.lt_size he
  have hfr : H s.heap.objs.size = none := I.hok.fresh (Nat.le_refl _)
  have ht2 : h2.get? s.heap.objs.size = some { cls := .type "tuple", data := .seq #[.int i s.toks, u] } := (hs2.2 _ (Nat.ne_of_gt elt)).trans ht1
  have kk : ∀ b o, b ∉ [e, it] -> s.heap.get? b = some o -> h2.get? b = some o := fun b o hc q => by
   have n1 : b ≠ e := fun z => hc (by simp [z])
   have n2 : b ≠ it := fun z => hc (by simp [z])
   exact (hs2.2 b n1).trans (hk1 b o n1 n2 q)
  have nb : ∀ c v, H c = some v -> c ∉ [e, it] := fun c v z hm => by
   rcases List.mem_cons.mp hm with z' | z'
   ·rw [z', fe.1] at z; cases z
   ·have e2 : c = it := by simpa using z'
    rw [e2, fi.1] at z; cases z
  have I2 : Inv X pins σ (upd H s.heap.objs.size (.tup [.int i, x])) { s with heap := h2, toks := s.toks + 1 } := by
   refine I.step (g' := s.gens) (d' := s.drawn) (ch := [e, it]) (fun b hb => ?_) (fun b o _ _ hc q _ => kk b o hc q) (fun b o _ _ hc q _ => ⟨o.slots, kk b o hc q⟩) (fun b o _ q n => by rw [zf (Nat.ne_of_lt (Heap.lt_size q))]; exact n) (fun b o hc q => ⟨o, kk b o hc q⟩)
    (fun b xs q => by rw [zf (zk q hfr)]; exact q) (fun b o u q => by rw [zf (zk q hfr)]; exact q) (fun b ps q => ⟨#[], by rw [zf (zk q hfr), q]; simp⟩) (fun m hm => ?_) (fun b v q => ?_) I.bare
   ·rcases List.mem_cons.mp hb with z | hb
    ·rw [z]; exact ⟨fe.2.2.2.1, fe.2.1, fe.2.2.2.2.1, fe.2.2.2.2.2⟩
    ·have e2 : b = it := by simpa using hb
     rw [e2]; exact ⟨fi.2.2.2.1, fi.2.1, fi.2.2.2.2.1, fi.2.2.2.2.2⟩
   ·obtain ⟨o, es, ep, ho, r⟩ := hm
    exact ⟨o, es, ep, kk _ o (by simp [Ne.symm fe.2.1, Ne.symm fi.2.1]) ho, r⟩
   ·by_cases hb : b = s.heap.objs.size
    ·subst hb
     rw [zo] at q
     cases q
     exact ⟨by show 2 <= sizeLine; decide, [.int i s.toks, u], .cons ⟨_, rfl⟩ (.cons ru .nil), _, ht2, rfl, ⟨_, rfl⟩, rfl⟩
    ·rw [zf hb] at q
     refine (I.hok b v q).stay (fun c o hc q' => kk c o ?_ q') (fun c z => by rw [zf (zk z hfr)]; exact z) fun c xs z => by rw [zf (zk z hfr)]; exact z
     rcases hc with z | z
     ·rw [z]; exact nb b v q
     ·exact nb c _ z
  refine ⟨.ref s.heap.objs.size, _, I2, rfl, ⟨s.heap.objs.size, x, hfr, rfl, fun ys hy => by rw [I.list_inj hy hq]; exact hx, rfl⟩, ⟨⟨_, by simpa using he2⟩, hit1.extBut hs2.extBut (Ne.symm hei)⟩, fun b hb => ?_⟩
  have hlt : b < s.heap.objs.size := by
   rcases List.mem_cons.mp hb with rfl | hb
   ·exact elt
   ·have e2 : b = it := by simpa using hb
    subst e2
    obtain ⟨o, e1, _⟩ := st
    exact Heap.lt_size e1
  rw [zf (Nat.ne_of_lt hlt)]
  exact (hf b hb).1
 done := by
  intro X hP hw hK hc i pins s σ H E I hf st hg
  subst hP hw hK
  obtain ⟨⟨old, he⟩, st⟩ := st
  obtain ⟨xs, hq, hx⟩ := hg
  obtain ⟨its, rv, p, hz⟩ := I.list hq
  obtain ⟨f0, f1, f2, f3, f4, f5⟩ := hf it (by simp)
  have hl := rv.length
  exact wpAny_pyNext_enum_end (I.ok.hd hc) he st p.isList (by simp; omega) fun h' eb => ⟨rfl, I.turned (t' := s.toks) (fun b o hb e => eb b o hb e) f0 f1 f3 f4 f5⟩
 self := fun _ _ _ _ _ st h => by
  obtain ⟨⟨old, he⟩, _⟩ := st
  exact wpAny_pyIter_enum he h
end L2
set_option Elab.async false
set_option linter.all false
set_option maxRecDepth 100000
set_option maxHeartbeats 4000000
namespace L2
open PySem PySem.Spec PyProof.Rows
section
variable {X : Cx} {pins : List (Addr × Obj)} {σ : St} {H : Hp} {s : Shared}
theorem Inv.yieldTup {ch : List Addr} {h2 : Heap} {tk : Nat} {T : Addr} {xs : List V} {us : List Value} (I : Inv X pins σ H s) (hf : ∀ b ∈ ch, jA X pins H b) (kk : ∀ b o, b ∉ ch -> s.heap.get? b = some o -> h2.get? b = some o) (hT : s.heap.objs.size <= T)
  (ht2 : h2.get? T = some { cls := .type "tuple", data := .seq us.toArray }) (rv : zv xs us) (hz : xs.length <= sizeLine) : Inv X pins σ (upd H T (.tup xs)) { s with heap := h2, toks := tk } := by
 have hfr : H T = none := I.hok.fresh hT
 have nb : ∀ c v, H c = some v -> c ∉ ch := fun c v z hm => by rw [(hf c hm).1] at z; cases z
 refine I.step (g' := s.gens) (d' := s.drawn) (ch := ch) (fun b hb => ⟨(hf b hb).2.2.2.1, (hf b hb).2.1, (hf b hb).2.2.2.2.1, (hf b hb).2.2.2.2.2⟩) (fun b o _ _ hc q _ => kk b o hc q) (fun b o _ _ hc q _ => ⟨o.slots, kk b o hc q⟩)
  (fun b o _ q n => by rw [zf (Nat.ne_of_lt (Nat.lt_of_lt_of_le (Heap.lt_size q) hT))]; exact n) (fun b o hc q => ⟨o, kk b o hc q⟩)
  (fun b xs q => by rw [zf (zk q hfr)]; exact q) (fun b o u q => by rw [zf (zk q hfr)]; exact q) (fun b ps q => ⟨#[], by rw [zf (zk q hfr), q]; simp⟩) (fun m hm => ?_) (fun b v q => ?_) I.bare
 ·obtain ⟨o, es, ep, ho, r⟩ := hm
  exact ⟨o, es, ep, kk _ o (fun z => (hf _ z).2.1 rfl) ho, r⟩
 ·by_cases hb : b = T
  ·subst hb
   rw [zo] at q
   cases q
   exact ⟨hz, us, rv, _, ht2, rfl, ⟨_, rfl⟩, rfl⟩
  ·rw [zf hb] at q
   refine (I.hok b v q).stay (fun c o hc q' => kk c o ?_ q') (fun c z => by rw [zf (zk z hfr)]; exact z) fun c xs z => by rw [zf (zk z hfr)]; exact z
   rcases hc with z | z
   ·rw [z]; exact nb b v q
   ·exact nb c _ z
theorem Inv.turnedL {ch : List Addr} {h2 : Heap} {tk : Nat} (I : Inv X pins σ H s) (hf : ∀ b ∈ ch, jA X pins H b) (kk : ∀ b o, b ∉ ch -> s.heap.get? b = some o -> h2.get? b = some o) : Inv X pins σ H { s with heap := h2, toks := tk } := by
 have nb : ∀ c v, H c = some v -> c ∉ ch := fun c v z hm => by rw [(hf c hm).1] at z; cases z
 refine I.step (g' := s.gens) (d' := s.drawn) (ch := ch) (fun b hb => ⟨(hf b hb).2.2.2.1, (hf b hb).2.1, (hf b hb).2.2.2.2.1, (hf b hb).2.2.2.2.2⟩) (fun b o _ _ hc q _ => kk b o hc q) (fun b o _ _ hc q _ => ⟨o.slots, kk b o hc q⟩)
  (fun b o _ q n => n) (fun b o hc q => ⟨o, kk b o hc q⟩) (fun b xs q => q) (fun b o u q => q) (fun b ps q => ⟨#[], by rw [q]; simp⟩) (fun m hm => ?_) (fun b v q => ?_) I.bare
 ·obtain ⟨o, es, ep, ho, r⟩ := hm
  exact ⟨o, es, ep, kk _ o (fun z => (hf _ z).2.1 rfl) ho, r⟩
 ·refine (I.hok b v q).stay (fun c o hc q' => kk c o ?_ q') (fun c z => z) fun c xs z => z
  rcases hc with z | z
  ·rw [z]; exact nb b v q
  ·exact nb c _ z
end
def Itz (K : PySem.W.Frag) (a b : Addr) : It :=
 ⟨fun i H => ∃ xs ys x y, SqL K H a xs /\ SqL K H b ys /\ xs[i]? = some x /\ ys[i]? = some y, fun i H z H' => ∃ p x y, H p = none /\ z = .ref p /\ (∀ xs, SqL K H a xs -> xs[i]? = some x) /\ (∀ ys, SqL K H b ys -> ys[i]? = some y) /\ H' = upd H p (.tup [x, y]),
  fun i H => ∃ xs ys, SqL K H a xs /\ SqL K H b ys /\ (xs.length <= i \/ ys.length <= i)⟩
theorem Q0 {P : Program} {w : World} {K : PySem.W.Frag} {es : List Expr} {kt : Nat} {tp : Pos} (l1 l2 z TI TO i1 i2 : Addr) (D : ZipApart z TI TO i1 i2 l1 l2) :
  yO P w K (.Tuple es kt tp) (Itz K l1 l2) [z, TI, TO, i1, i2] z (fun i h => IsZip h z TI TO .none /\ IsPair h TI (.ref i1) (.ref i2) /\ (∃ a b, IsPair h TO a b) /\ h.IsListIter i1 l1 i /\ h.IsListIter i2 l2 i) where
 mem := by simp
 obj := fun i h st b hb => by
  obtain ⟨hz, hTI, ⟨a, c, hTO⟩, ⟨o1, e1, c1, d1⟩, ⟨o2, e2, c2, d2⟩⟩ := st
  simp only [List.mem_cons, List.not_mem_nil, or_false] at hb
  rcases hb with rfl | rfl | rfl | rfl | rfl
  ·exact ⟨_, hz, fun v q => by have q' : Data.fields _ = Data.cell v := q; cases q'⟩
  ·exact ⟨_, hTI, fun v q => by have q' : Data.seq _ _ = Data.cell v := q; cases q'⟩
  ·exact ⟨_, hTO, fun v q => by have q' : Data.seq _ _ = Data.cell v := q; cases q'⟩
  ·exact ⟨o1, e1, fun v q => by rw [d1] at q; cases q⟩
  ·exact ⟨o2, e2, fun v q => by rw [d2] at q; cases q⟩
 keep := fun i h h' st k => by
  obtain ⟨hz, hTI, ⟨a, c, hTO⟩, h1, h2⟩ := st
  exact ⟨k _ (by simp) _ hz, k _ (by simp) _ hTI, ⟨a, c, k _ (by simp) _ hTO⟩, h1.at fun o e => k _ (by simp) o e, h2.at fun o e => k _ (by simp) o e⟩
 item := by
  intro X hP hw hK hc i pins s σ H E I hf st hg
  subst hP hw hK
  obtain ⟨hz, hTI, ⟨a, c, hTO⟩, h1, h2⟩ := st
  obtain ⟨xs, ys, x, y, hq1, hq2, hx, hy⟩ := hg
  obtain ⟨its1, rv1, p1, hz1⟩ := I.list hq1
  obtain ⟨its2, rv2, p2, hz2⟩ := I.list hq2
  obtain ⟨u, hu, ru⟩ := rv1.get hx
  obtain ⟨v, hv, rvv⟩ := rv2.get hy
  refine wpAny_pyNext_zip_item D hz hTI hTO h1 h2 p1.isList p2.isList (x := u) (y := v) (by simpa using hu) (by simpa using hv) fun g1 b1 b2 b3 b4 b5 b6 hk => ?_
  refine ⟨.ref s.heap.objs.size, rfl, wpAny_letOwnedTupleGo_zip b1 fun g2 hz2' hs2 => ?_⟩
  replace hs2 : Heap.SameBut z g1 g2 := hs2
  have zlt : z < s.heap.objs.size := Heap.lt_size hz
  have I2 : Inv X pins σ (upd H s.heap.objs.size (.tup [x, y])) { s with heap := g2, toks := s.toks } := by
   refine I.yieldTup (us := [u, v]) hf (fun b o hb e => ?_) (Nat.le_refl _) ((hs2.2 _ (Nat.ne_of_gt zlt)).trans b5) (.cons ru (.cons rvv .nil)) (by show 2 <= sizeLine; decide)
   simp only [List.mem_cons, List.not_mem_nil, or_false, not_or] at hb
   exact (hs2.2 b hb.1).trans (hk b o hb.1 hb.2.2.1 hb.2.2.2.1 hb.2.2.2.2 e)
  refine ⟨.ref s.heap.objs.size, _, I2, rfl, ⟨s.heap.objs.size, x, y, I.hok.fresh (Nat.le_refl _), rfl, fun xs' h' => by rw [I.list_inj h' hq1]; exact hx, fun ys' h' => by rw [I.list_inj h' hq2]; exact hy, rfl⟩,
   ⟨hz2', (hs2.2 _ D.TIz).trans (hk _ _ D.TIz D.TITO D.TIi1 D.TIi2 hTI), ⟨_, _, (hs2.2 _ D.TOz).trans b2⟩, b3.extBut hs2.extBut D.i1z, b4.extBut hs2.extBut D.i2z⟩, fun b hb => ?_⟩
  have hlt : b < s.heap.objs.size := by
   simp only [List.mem_cons, List.not_mem_nil, or_false] at hb
   rcases hb with rfl | rfl | rfl | rfl | rfl
   ·exact zlt
   ·exact Heap.lt_size hTI
   ·exact Heap.lt_size hTO
   ·obtain ⟨o, e, _⟩ := h1; exact Heap.lt_size e
   ·obtain ⟨o, e, _⟩ := h2; exact Heap.lt_size e
  rw [zf (Nat.ne_of_lt hlt)]
  exact (hf b hb).1
 done := by
  intro X hP hw hK hc i pins s σ H E I hf st hg
  subst hP hw hK
  obtain ⟨hz, hTI, ⟨a, c, hTO⟩, h1, h2⟩ := st
  obtain ⟨xs, ys, hq1, hq2, hend⟩ := hg
  obtain ⟨its1, rv1, p1, hz1⟩ := I.list hq1
  obtain ⟨its2, rv2, p2, hz2⟩ := I.list hq2
  have l1 := rv1.length
  have l2 := rv2.length
  refine wpAny_pyNext_zip_end (I.ok.hd hc) D hz hTI hTO h1 h2 p1.isList p2.isList (by simp; omega) fun h' hk => ⟨rfl, I.turnedL (tk := s.toks) hf fun b o hb e => ?_⟩
  simp only [List.mem_cons, List.not_mem_nil, or_false, not_or] at hb
  exact hk b o hb.1 hb.2.2.1 hb.2.2.2.1 hb.2.2.2.2 e
 self := fun _ _ _ _ _ st h => wpAny_pyIter_zip st.1 h
theorem wg : bootBuiltins "enumerate" = some (.type "enumerate") := by decide +kernel
theorem ZJ : bootBuiltins "zip" = some (.type "zip") := by decide +kernel
section
variable {X : Cx} {es : List Expr} {kt : Nat} {tp : Pos}
def Xj (K : PySem.W.Frag) (ta : TA) : TI := fun σ H R => ta σ H fun vs H1 => ∃ a, vs = [.ref a] /\ (∃ xs, SqL K H1 a xs) /\ R (Ite K a) H1
theorem Kf {e : Expr} {ta : TA} {p pos : Pos} (hg : Gl X "enumerate") (hm : X.mg "enumerate" = none) (ha : PA X [e] ta) (hs : starEach [e] X.env = [(false, eval e X.env)] := by rfl) :
  PI X (.Tuple es kt tp) (.Call (.Name "enumerate" p) [e] [] pos) (Xj X.K ta) := by
 intro pins s σ H R I h
 refine Call_ (ke I hg hm (wg) (PyProof.Rows.callWith_type1 (thn (ha pos pins s σ H _ I h) fun us s1 ⟨vs, H1, I1, r1, q1⟩ => ?_) hs rfl))
 obtain ⟨a, e, ⟨xs, hq⟩, q⟩ := q1
 subst e
 obtain ⟨u, rfl, ru⟩ := jE r1
 cases ru
 obtain ⟨its, rv, pl, hz⟩ := I1.list hq
 refine call_enumerate_list pl.isList fun h' he hit hsz hk => wpAny_pyIter_enum he ?_
 have I2 : Inv X pins σ H1 { s1 with heap := h' } := I1.kept (t' := s1.toks) hk
 refine ⟨s1.heap.objs.size + 1, [s1.heap.objs.size + 1, s1.heap.objs.size], _, _, H1, rfl, I2, ZT a _ _ (Nat.succ_ne_self _), ⟨⟨_, he⟩, hit⟩, fun b hb => ?_, q⟩
 have hb' : s1.heap.objs.size <= b := by
  simp only [List.mem_cons, List.not_mem_nil, or_false] at hb
  rcases hb with rfl | rfl
  ·exact Nat.le_succ _
  ·exact Nat.le_refl _
 exact I1.fpOk hb' (I1.hok.fresh hb')
end
theorem Z8 {K : PySem.W.Frag} {a : Addr} {xs : List V} {g : TG} {tb : TS} {D : kx} {σ : St} {H : Hp} (Pv : Nat -> St -> Hp -> Prop) (h0 : Pv 0 σ H) (hl : ∀ i σ H, i <= xs.length -> Pv i σ H -> SqL K H a xs)
  (hs : ∀ i x p σ H, xs[i]? = some x -> H p = none -> Pv i σ H -> g (.ref p) σ (upd H p (.tup [.int i, x])) fun σ2 H2 => tb { D with nx := Pv (i + 1), ct := Pv (i + 1), bk := D.nx } σ2 H2) (hd : ∀ σ H, Pv xs.length σ H -> D.nx σ H) :
  ∃ W : Nat -> Nat -> St -> Hp -> Prop, (∃ m, W 0 m σ H) /\ ∀ i m σ H, W i m σ H ->
   ((Ite K a).stop i H /\ D.nx σ H) \/ ((Ite K a).go i H /\ ∃ N : St -> Hp -> Prop, (∀ σ' H', N σ' H' -> ∃ m', m' < m /\ W (i + 1) m' σ' H') /\ ∀ x H', (Ite K a).yld i H x H' -> g x σ H' fun σ2 H2 => tb { D with nx := N, ct := N, bk := D.nx } σ2 H2) := by
 refine ⟨fun i m σ H => m = xs.length - i /\ i <= xs.length /\ Pv i σ H, ⟨xs.length, by simp, Nat.zero_le _, h0⟩, ?_⟩
 rintro i m σ H ⟨rfl, hi, p⟩
 have q := hl i σ H hi p
 by_cases hlt : i < xs.length
 ·refine .inr ⟨⟨xs, xs[i], q, by simp [hlt]⟩, Pv (i + 1), fun σ' H' p' => ⟨xs.length - (i + 1), by omega, rfl, hlt, p'⟩, fun x H' y => ?_⟩
  obtain ⟨pp, x', hp, rfl, y, rfl⟩ := y
  exact hs i x' pp σ _ (y xs q) hp p
 ·have e : i = xs.length := by omega
  subst e
  exact .inl ⟨⟨xs, q, Nat.le_refl _⟩, hd σ H p⟩
end L2
set_option Elab.async false
set_option linter.all false
set_option maxRecDepth 100000
set_option maxHeartbeats 4000000
namespace L2
open PySem PySem.Spec PyProof.Rows
def yE (p : Addr) (a b c : Int) : HO := .ext fun h => ∃ t u v, h.get? p = some { cls := .type "range", data := .fields #[.int a t, .int b u, .int c v] }
theorem YT {P : Program} {w : World} {H : Hp} {h : Heap} {p : Addr} {a b c : Int} {t u v : Tok} (e : h.get? p = some { cls := .type "range", data := .fields #[.int a t, .int b u, .int c v] }) : zB P w H h p (yE p a b c) :=
 ⟨⟨t, u, v, e⟩, ⟨_, e⟩, fun h1 h2 ⟨t, u, v, q⟩ k => ⟨t, u, v, k _ q⟩⟩
def qx (a c : Int) (n : Nat) : List Int := (List.range n).map fun (i : Nat) => a + (i : Int) * c
theorem zV (a c : Int) (n : Nat) : (qx a c n).length = n := by simp [qx]
theorem wf {a c : Int} : ∀ {n : Nat} {acc : Array Value}, ItemsOf (fun (i : Nat) (v : Value) => ∃ t, v = Value.int (a + (i : Int) * c) t) acc n -> zv ((qx a c n).map V.int) acc.toList := by
 intro n acc ⟨hs, hi⟩
 have key : ∀ (k : Nat) (l : List Value), l.length = k -> (∀ (j : Nat) v, l[j]? = some v -> ∃ t, v = Value.int (a + (j : Int) * c) t) -> zv ((qx a c k).map V.int) l := by
  intro k
  induction k with
  | zero => intro l hl _; cases l with
   | nil => exact .nil
   | cons => simp at hl
  | succ k ih =>
   intro l hl hv
   obtain ⟨l', x, rfl⟩ : ∃ l' x, l = l' ++ [x] := ⟨l.dropLast, l.getLast (by intro e; rw [e] at hl; simp at hl), (List.dropLast_concat_getLast _).symm⟩
   have hl' : l'.length = k := by simpa using hl
   have e : (qx a c (k + 1)).map V.int = (qx a c k).map V.int ++ [.int (a + (k : Int) * c)] := by simp [qx, List.range_succ]
   rw [e]
   refine (ih l' hl' fun j v hj => hv j v ?_).append (.cons ?_ .nil)
   ·rw [List.getElem?_append_left (List.getElem?_eq_some_iff.mp hj).1]; exact hj
   ·obtain ⟨t, rfl⟩ := hv k x (by rw [List.getElem?_append_right (by omega), hl']; simp)
    exact ⟨t, rfl⟩
 exact key n acc.toList (by simpa using hs) fun j v hj => hi j v (by simpa using hj)
section
variable {X : Cx}
theorem va : qy X (.type "range") (fun xs H Q => ∃ b : Int, xs = [.int b] /\ ∀ p, H p = none -> Q (.ref p) (upd H p (yE p 0 b 1))) := by
 intro pins s σ H xs us Q I r h
 obtain ⟨b, rfl, q⟩ := h
 obtain ⟨u, rfl, t, rfl⟩ := jE r
 refine call_range_1 ⟨.ref s.heap.objs.size, _, I.laid (fun b o e => Heap.get?_push_of_some _ e) (Nat.le_refl _) ?_, rfl, q _ (I.hok.fresh (Nat.le_refl _))⟩
 exact YT (Heap.get?_push_size _ rfl)
theorem xf (hc : X.calm = true) : qy X (.type "list") (fun xs H Q => ∃ p a b c n, xs = [.ref p] /\ H p = some (yE p a b c) /\ Builtin.Range.small a b c = true /\ Builtin.Range.rangeSize a b c = ((n : Nat) : Int) /\ n <= 100000 /\ ∀ l, H l = none -> Q (.ref l) (upd H l (.lst ((qx a c n).map V.int)))) := by
 intro pins s σ H xs us Q I r h
 obtain ⟨p, a, b, c, n, rfl, hp, hs, hn, hz, q⟩ := h
 obtain ⟨u, rfl, rx⟩ := jE r
 cases rx
 obtain ⟨⟨t, u, v, e⟩, _⟩ := (show zB X.prog X.w H s.heap p (yE p a b c) from I.hok _ _ hp)
 refine call_list_range (I.ok.hd hc) e hs hn (Nat.le_trans hz (by decide)) fun h' tk acc c' hk he hi => ?_
 refine ⟨.ref s.heap.objs.size, _, I.laid hk (Nat.le_refl _) (show zB X.prog X.w _ h' _ (.lst ((qx a c n).map V.int)) from ⟨?_, acc.toList, c', wf hi, by simpa using he⟩), rfl, q _ (I.hok.fresh (Nat.le_refl _))⟩
 rw [List.length_map, zV]
 exact Nat.le_trans hz (by decide)
end
end L2
set_option Elab.async false
set_option linter.all false
set_option maxRecDepth 100000
set_option maxHeartbeats 4000000
namespace L2
open PySem PySem.Spec PyProof.Rows
section
variable {X : Cx}
def isT (t c : String) : Option Bool := if (Value.type t == Value.type c) = true then some true else if PySem.W.kitMeta c = true then (fastBuiltinMro t).map (·.contains (Value.type c)) else none
theorem wG (K : PySem.W.Frag) (t c : String) : PySem.W.kitOne K (.type t) (.type c) = isT t c := rfl
def kK (t : String) : List String -> Option Bool
 | [] => some false
 | c :: r => match isT t c with
  | some true => some true
  | some false => kK t r
  | none => none
theorem yT (K : PySem.W.Frag) (t : String) : ∀ cs : List String, PySem.W.kitAny K (.type t) (cs.map Value.type) = kK t cs
 | [] => rfl
 | c :: r => by
  show (match PySem.W.kitOne K (.type t) (.type c) with | some true => some true | some false => PySem.W.kitAny K (.type t) (r.map Value.type) | none => none) = _
  rw [wG, yT K t r]; rfl
theorem zR : qy X (.builtin "isinstance") (fun xs H Q => ∃ x t c b, xs = [x, .ty c] /\ jm X.K H x (.type t) /\ isT t c = some b /\ Q (.bl b) H) := by
 intro pins s σ H xs us Q I r h
 obtain ⟨x, t, c, b, rfl, ty, e, q⟩ := h
 obtain ⟨u, v, rfl, ru, rv⟩ := y6 r
 cases rv
 exact ZE I ru ty (by rw [wG]; exact e) fun tk => ⟨.bl b, H, I.tok _, rfl, q⟩
theorem yB : ∀ {cs : List String} {us : List Value}, zv (cs.map V.ty) us -> us = cs.map Value.type
 | [], _, .nil => rfl
 | c :: cs, _, .cons r t => by rw [yB t]; cases r; rfl
theorem xx : qy X (.builtin "isinstance") (fun xs H Q => ∃ x t p cs b, xs = [x, .ref p] /\ H p = some (.tup (List.map V.ty cs)) /\ jm X.K H x (.type t) /\ kK t cs = some b /\ Q (.bl b) H) := by
 intro pins s σ H xs us Q I r h
 obtain ⟨x, t, p, cs, b, rfl, hp, ty, e, q⟩ := h
 obtain ⟨u, v, rfl, rx, rv⟩ := y6 r
 cases rv
 obtain ⟨_, its, rt, o, ho, hc, ⟨n, hd⟩, _⟩ := (show zB X.prog X.w H s.heap p (.tup (List.map V.ty cs)) from I.hok _ _ hp)
 obtain ⟨oc, od, odt, osl⟩ := o
 simp only at hc hd
 subst hc hd
 have e' : PySem.W.kitAny X.K (.type t) its = some b := by rw [yB rt, yT]; exact e
 have fin : ∀ tk, EP X pins σ Q (.bool b) { s with toks := tk } := fun tk => ⟨.bl b, H, I.tok _, rfl, q⟩
 cases ty with
 | non => cases (show u = Value.none from rx); exact PySem.W.kia_tup PySem.W.kitx_none I.kIn True.intro ho e' (fun z => nomatch z) fin
 | bl y => cases (show u = Value.bool y from rx); exact PySem.W.kia_tup PySem.W.kitx_bool I.kIn True.intro ho e' (fun z => nomatch z) fin
 | int i => obtain ⟨t, q⟩ := (show ∃ t, u = Value.int i t from rx); cases q; exact PySem.W.kia_tup PySem.W.kitx_int I.kIn True.intro ho e' (fun z => nomatch z) fin
 | str y => obtain ⟨t, q⟩ := (show ∃ t, u = Value.str y t from rx); cases q; exact PySem.W.kia_tup PySem.W.kitx_str I.kIn True.intro ho e' (fun z => nomatch z) fin
 | flt y => obtain ⟨t, q⟩ := (show ∃ t, u = Value.float y t from rx); cases q; exact PySem.W.kia_tup PySem.W.kitx_float I.kIn True.intro ho e' (fun z => nomatch z) fin
 | @lst a xs ea =>
  cases (show u = Value.ref a from rx)
  obtain ⟨_, _, n, _, h1⟩ := (show zB X.prog X.w H s.heap a (.lst xs) from I.hok a _ ea)
  exact PySem.W.kia_tup PySem.W.kitx_list I.kIn ⟨_, h1, rfl⟩ ho e' (fun z => nomatch z) fin
 | @frz a ob xs ea =>
  cases (show u = Value.ref a from rx)
  obtain ⟨_, _, _, n, _, h1⟩ := (show zB X.prog X.w H s.heap a (.frz ob (.lst xs)) from I.hok a _ ea)
  exact PySem.W.kia_tup PySem.W.kitx_list I.kIn ⟨_, h1, rfl⟩ ho e' (fun z => nomatch z) fin
 | @tup a xs ea =>
  cases (show u = Value.ref a from rx)
  obtain ⟨_, _, _, p⟩ := (show zB X.prog X.w H s.heap a (.tup xs) from I.hok a _ ea)
  obtain ⟨o, h1, h2, _⟩ := p
  exact PySem.W.kia_tup PySem.W.kitx_tuple I.kIn ⟨o, h1, h2⟩ ho e' (fun z => nomatch z) fin
 | @dK a kvs ea =>
  cases (show u = Value.ref a from rx)
  obtain ⟨_, _, vs, _, p⟩ := (show zB X.prog X.w H s.heap a (.dK kvs) from I.hok a _ ea)
  obtain ⟨o, es, ep, h1, h2, _⟩ := p
  exact PySem.W.kia_tup PySem.W.kitx_dict I.kIn ⟨o, h1, h2.1⟩ ho e' (fun z => nomatch z) fin
 | @dT a kvs ea =>
  cases (show u = Value.ref a from rx)
  obtain ⟨_, _, xs, _, o, es, ep, h1, h2, _⟩ := (show zB X.prog X.w H s.heap a (.dT kvs) from I.hok a _ ea)
  exact PySem.W.kia_tup PySem.W.kitx_dict I.kIn ⟨o, h1, h2.1⟩ ho e' (fun z => nomatch z) fin
end
end L2
set_option Elab.async false
set_option linter.all false
set_option maxRecDepth 100000
set_option maxHeartbeats 4000000
namespace L2
open PySem PySem.Spec PyProof.Rows
def At (K : PySem.W.Frag) (mg : Str -> Option Value) (x : Str) (st : Stmt) : Prop := ∃ f fd, Fun K x x st f fd /\ mg x = some (.ref f)
def Df (P : Program) (w : World) (K : PySem.W.Frag) (mg : Str -> Option Value) (base : Heap) (x : Str) (ps : List Str) (k : Nat) (sp : Sp) : Prop :=
 ∃ f fd, jC P w K mg base CX0 k f fd ps sp /\ xD K fd ps [] /\ PySem.W.keepIn K (.ref f) = true /\ mg x = some (.ref f) /\ ∃ oc od osl, K.lookup f = some ⟨oc, od, .func fd, osl⟩
theorem Df.mono {P : Program} {w : World} {K : PySem.W.Frag} {mg : Str -> Option Value} {base : Heap} {x : Str} {ps : List Str} {j k : Nat} {sp : Sp} (D : Df P w K mg base x ps j sp) (h : j <= k) : Df P w K mg base x ps k sp :=
 let ⟨f, fd, F, r⟩ := D
 ⟨f, fd, F.mono h, r⟩
section
variable {X : Cx} {k : Nat} {x : Str} {ps : List Str} {sp : Sp} {p pos : Pos} {e : Expr} {es : List Expr} {t : TA}
theorem zD (D : Df X.prog X.w X.K X.mg X.base x ps k sp) (hr : qM k X.A) (hg : Gl X x) (ha : PA X (e :: es) t) (hdb : (x == ("__debug__" : Str)) = false := by decide)
  (he : starEach (e :: es) X.env = (false, eval e X.env) :: starEach es X.env := by rfl) (hpl : (backTo pos (starEach es X.env)).any (·.1) = false := by rfl) : PE X (.Call (.Name x p) (e :: es) [] pos) (wU sp [] E0 t) := by
 obtain ⟨f, fd, F, b, kp, m, _⟩ := D
 exact Ko F hr hg m kp b .nil Wh ha hdb he hpl
end
theorem vq {P : Program} {w : World} {K : PySem.W.Frag} {mg : Str -> Option Value} {base : Heap} {x : Str} {st : Stmt} {N ps : List Str} {k : Nat} {sp : Sp} (a : At K mg x st) (S : zy N ps (zg st))
  (hb : ∀ (kV doc pm : Value) (an : Option Addr) (cdv ct : Value) (us : List Value), us.length = ps.length -> bindArgs (PySem.W.fnOf x x (qJ st) (qj st) (zg st) .none kV doc pm an cdv ct) ⟨us, []⟩ = pure (ps.zip us))
  (len : ∀ vs H Q E, sp vs H Q E -> vs.length = ps.length)
  (hbody : ∀ (f : Addr) (cdv : Value) (A : Around) (outer : List Env) (s : Shared) (H : Hp) (vs : List V) (Q : VK) (E : XK), qM k (A.deeper (envOfC x (zg st) s.heap.objs.size f cdv)) -> sp vs H Q E ->
   ∃ t, PSs (xU CX0 P w K mg base N x (zg st) f cdv A outer s H E).nox (qj st) t /\ t { nx := fun _ H' => Q .non H', rt := Q } (qK N vs) H) : Df P w K mg base x ps (k + 1) sp := by
 obtain ⟨f, fd, F, m⟩ := a
 obtain ⟨oc, od, kV, doc, pm, an, cdv, ct, osl, _, lk, _⟩ := id F.ex
 exact ⟨f, fd, F.ok S len fun cdv A outer s H vs Q E => hbody f cdv A outer s H vs Q E, F.binds hb, F.kp, m, oc, od, osl, lk⟩
theorem at_mk {K : PySem.W.Frag} {mg : Str -> Option Value} {h : Heap} {x : Str} {st : Stmt} {f : Addr} {oc : Value} {od an : Option Addr} {osl : Array (Option Value)} {kV doc pm cdv ct : Value} (X : K.In h) (G : h.Ns mainGlobals mg) (a : PySem.W.nsIn K mainGlobals x = some (some (.ref f)))
  (l : K.lookup f = some ⟨oc, od, .func (PySem.W.fnOf x x (qJ st) (qj st) (zg st) .none kV doc pm an cdv ct), osl⟩) (c : PySem.W.codeIn K cdv x = true) (k : PySem.W.keepIn K (.ref f) = true) : At K mg x st := ⟨f, _, Jl l c k, PySem.W.mg_of X G a⟩
theorem Df.fn {P : Program} {w : World} {K : PySem.W.Frag} {mg : Str -> Option Value} {base : Heap} {x : Str} {ps : List Str} {k : Nat} {sp : Sp} {f : Addr} {fd : FuncData} {oc : Value} {od : Option Addr} {osl : Array (Option Value)} (D : Df P w K mg base x ps k sp) (m : mg x = some (.ref f)) (l : K.lookup f = some ⟨oc, od, .func fd, osl⟩) : jC P w K mg base CX0 k f fd ps sp := by
 obtain ⟨f', fd', F, _, _, m', oc', od', osl', l'⟩ := D
 rw [m] at m'
 cases m'
 rw [l] at l'
 cases l'
 exact F
structure Blt (mg : Str -> Option Value) : Prop where
 len : mg "len" = none
 range : mg "range" = none
 list : mg "list" = none
 tuple : mg "tuple" = none
 int : mg "int" = none
 bool : mg "bool" = none
 str : mg "str" = none
 abs : mg "abs" = none
 divmod : mg "divmod" = none
 enumerate : mg "enumerate" = none
 zip : mg "zip" = none
 sorted : mg "sorted" = none
 max : mg "max" = none
 min : mg "min" = none
 isinstance : mg "isinstance" = none
 all : mg "all" = none
theorem blt_mk {K : PySem.W.Frag} {mg : Str -> Option Value} {h : Heap} (X : K.In h) (G : h.Ns mainGlobals mg) (z1 : PySem.W.nsIn K mainGlobals "len" = some none) (z2 : PySem.W.nsIn K mainGlobals "range" = some none) (z3 : PySem.W.nsIn K mainGlobals "list" = some none) (z4 : PySem.W.nsIn K mainGlobals "tuple" = some none) (z5 : PySem.W.nsIn K mainGlobals "int" = some none) (z6 : PySem.W.nsIn K mainGlobals "bool" = some none) (z7 : PySem.W.nsIn K mainGlobals "str" = some none) (z8 : PySem.W.nsIn K mainGlobals "abs" = some none)
  (z9 : PySem.W.nsIn K mainGlobals "divmod" = some none) (z10 : PySem.W.nsIn K mainGlobals "enumerate" = some none) (z11 : PySem.W.nsIn K mainGlobals "zip" = some none) (z12 : PySem.W.nsIn K mainGlobals "sorted" = some none) (z13 : PySem.W.nsIn K mainGlobals "max" = some none) (z14 : PySem.W.nsIn K mainGlobals "min" = some none) (z15 : PySem.W.nsIn K mainGlobals "isinstance" = some none) (z16 : PySem.W.nsIn K mainGlobals "all" = some none) : Blt mg :=
 ⟨PySem.W.mg_none_of X G z1, PySem.W.mg_none_of X G z2, PySem.W.mg_none_of X G z3, PySem.W.mg_none_of X G z4, PySem.W.mg_none_of X G z5, PySem.W.mg_none_of X G z6, PySem.W.mg_none_of X G z7, PySem.W.mg_none_of X G z8, PySem.W.mg_none_of X G z9, PySem.W.mg_none_of X G z10, PySem.W.mg_none_of X G z11, PySem.W.mg_none_of X G z12, PySem.W.mg_none_of X G z13, PySem.W.mg_none_of X G z14, PySem.W.mg_none_of X G z15, PySem.W.mg_none_of X G z16⟩
theorem zn : bootBuiltins "isinstance" = some (.builtin "isinstance") := by decide +kernel
theorem Qd : bootBuiltins "abs" = some (.builtin "abs") := by decide +kernel
theorem ZR : bootBuiltins "divmod" = some (.builtin "divmod") := by decide +kernel
theorem VC : bootBuiltins "max" = some (.builtin "max") := by decide +kernel
theorem jr : bootBuiltins "len" = some (.builtin "len") := by decide +kernel
theorem qh : bootBuiltins "list" = some (.type "list") := by decide +kernel
theorem qq : bootBuiltins "tuple" = some (.type "tuple") := by decide +kernel
theorem vK : bootBuiltins "int" = some (.type "int") := by decide +kernel
theorem yy : bootBuiltins "bool" = some (.type "bool") := by decide +kernel
theorem wl : bootBuiltins "str" = some (.type "str") := by decide +kernel
theorem QD : bootBuiltins "range" = some (.type "range") := by decide +kernel
def Kp (bs : List Addr) (H H' : Hp) : Prop := ∀ c o, c ∉ bs -> H c = some o -> H' c = some o
theorem Kp.refl {bs : List Addr} {H : Hp} : Kp bs H H := fun _ _ _ h => h
theorem Kp.trans {bs : List Addr} {H H1 H2 : Hp} (a : Kp bs H H1) (b : Kp bs H1 H2) : Kp bs H H2 := fun c o n h => b c o n (a c o n h)
theorem Kp.new {bs : List Addr} {H : Hp} {p : Addr} (o : HO) (h : H p = none) : Kp bs H (upd H p o) := fun c u _ q => by rw [zf (zk q h)]; exact q
theorem Kp.set {bs : List Addr} {H : Hp} {p : Addr} (o : HO) (h : p ∈ bs) : Kp bs H (upd H p o) := fun c u n q => by have hne : c ≠ p := (fun e => n (by rw [e]; exact h)); rw [zf hne]; exact q
theorem Kp.free {H H' : Hp} (e : Kp [] H H') {l : Addr} (h : H' l = Option.none) : H l = Option.none := by
 cases q : H l with
 | none => rfl
 | some o => rw [e l o (by simp) q] at h; cases h
def Bx (H : Hp) (b : Addr) (N : Nat) : Prop := ∃ x y z : Int, H b = some (.lst [.int x, .int y, .int z]) /\ 0 <= x /\ 0 <= y /\ y < 2147483648 /\ 0 <= z /\ z <= N
abbrev il (ns : List Int) : HO := .lst (ns.map V.int)
end L2
set_option Elab.async false
set_option linter.all false
set_option maxRecDepth 100000
set_option maxHeartbeats 4000000
namespace L2
open PySem PySem.Spec PyProof.Rows
theorem cxK {CX : CXT} {P : Program} {w : World} {K : PySem.W.Frag} {mg : Str -> Option Value} {base : Heap} {N : List Str} {qual : Str} {scope : Scope} {f : Addr} {cd : Value} {A : Around} {outer : List Env} {s : Shared} {H : Hp} {E : XK} :
  (xU CX P w K mg base N qual scope f cd A outer s H E).K = K := rfl
def Wb (J : It) (g : TG) (tb : TS) (D : kx) (σ : St) (H : Hp) : Prop := ∃ W : Nat -> Nat -> St -> Hp -> Prop, (∃ m, W 0 m σ H) /\ ∀ i m σ H, W i m σ H ->
 (J.stop i H /\ D.nx σ H) \/ (J.go i H /\ ∃ N : St -> Hp -> Prop, (∀ σ' H', N σ' H' -> ∃ m', m' < m /\ W (i + 1) m' σ' H') /\ ∀ x H', J.yld i H x H' -> g x σ H' fun σ2 H2 => tb { D with nx := N, ct := N, bk := D.nx } σ2 H2)
theorem wu {wi : TI} {g : TG} {tb : TS} {D : kx} {σ : St} {H : Hp} : YS wi g tb D σ H = wi σ H (fun J H1 => Wb J g tb D σ H1) := rfl
def Wk (J : It) (g : TG) (tt : TT) (te : TE) (D : Addr) (Q : VK) (τ : St) (H : Hp) : Prop := ∃ W : Nat -> Nat -> St -> Hp -> Prop, (∃ m, W 0 m τ H) /\ ∀ i m τ H2, W i m τ H2 ->
 (J.stop i H2 /\ Q (.ref D) H2) \/ (J.go i H2 /\ ∃ N : St -> Hp -> Prop, (∀ τ' H', N τ' H' -> ∃ m', m' < m /\ W (i + 1) m' τ' H') /\ ∀ x H', J.yld i H2 x H' -> g x τ H' fun τ2 H3 => tt τ2 H3 fun b H4 =>
  if b = true then te τ2 H4 fun v H5 => ∃ ys, H5 D = some (.lst ys) /\ ys.length < sizeLine /\ N τ2 (upd H5 D (.lst (ys ++ [v]))) else N τ2 H4)
theorem QW {ts : List Nat} {wi : TI} {g : TG} {tt : TT} {te : TE} {σ : St} {H : Hp} {Q : VK} :
  vH ts wi g tt te σ H Q = wi σ H (fun J H1 => ∀ D, H1 D = none -> Wk J g tt te D Q (clr ts σ) (upd H1 D (.lst []))) := rfl
theorem Kl {K : PySem.W.Frag} {a : Addr} {xs : List V} {g : TG} {tb : TS} {D : kx} {σ : St} {H : Hp} (Pv : Nat -> St -> Hp -> Prop) (h0 : Pv 0 σ H) (hl : ∀ i σ H, i <= xs.length -> Pv i σ H -> SqL K H a xs)
  (hs : ∀ i x p σ H, xs[i]? = some x -> H p = none -> Pv i σ H -> g (.ref p) σ (upd H p (.tup [.int i, x])) fun σ2 H2 => tb { D with nx := Pv (i + 1), ct := Pv (i + 1), bk := D.nx } σ2 H2) (hd : ∀ σ H, Pv xs.length σ H -> D.nx σ H) : Wb (Ite K a) g tb D σ H := Z8 Pv h0 hl hs hd
end L2
set_option Elab.async false
set_option linter.all false
set_option maxRecDepth 100000
set_option maxHeartbeats 4000000
namespace L2
open PySem PySem.Spec PyProof.Rows
theorem ZF {X : Cx} : qy X (.type "int") (fun xs H Q => ∃ k, xs = [.bl k] /\ Q (.int (if k then 1 else 0)) H) := by
 intro pins s σ H xs us Q I r h
 exact Zl pins s σ H xs us Q I r (.inr h)
end L2
set_option Elab.async false
set_option linter.all false
set_option maxRecDepth 100000
set_option maxHeartbeats 4000000
namespace L2
open PySem PySem.Spec PyProof.Rows
def wZ (n : Nat) (ns : List Int) : Prop := ns.length = n /\ ns.Nodup /\ ∀ x ∈ ns, 0 <= x /\ x < (n : Int)
theorem kC {ns : List Int} {i : Nat} (h : i < ns.length) : ns.getD i 0 = ns[i] := by rw [List.getD_eq_getElem?_getD, List.getElem?_eq_getElem h]; rfl
theorem Jb {n : Nat} {ns : List Int} (l : ns.length = n) (b : ∀ i, i < n -> 0 <= ns.getD i 0 /\ ns.getD i 0 < n) (j : ∀ i k, i < n -> k < n -> ns.getD i 0 = ns.getD k 0 -> i = k) : wZ n ns := by
 refine ⟨l, ?_, fun x hx => ?_⟩
 ·rw [List.nodup_iff_pairwise_ne, List.pairwise_iff_getElem]
  intro i k hi hk hik e
  have := j i k (by omega) (by omega) (by rw [kC hi, kC hk]; exact e)
  omega
 ·obtain ⟨i, hi, rfl⟩ := List.mem_iff_getElem.mp hx
  have := b i (by omega)
  rwa [kC hi] at this
theorem j8 (n : Nat) {i : Nat} (h : i < n) : (qx 0 1 n).getD i 0 = (i : Int) := by
 rw [kC (by rw [zV]; exact h)]
 simp [qx]
theorem wZ.rng (n : Nat) : wZ n (qx 0 1 n) := by
 refine Jb (zV 0 1 n) (fun i hi => ?_) (fun i k hi hk e => ?_)
 ·rw [j8 n hi]; omega
 ·rw [j8 n hi, j8 n hk] at e; omega
def vV : V -> V -> V -> Hp -> (Hp -> Prop) -> Prop := fun o i v H Q => ∃ k, i = .int k /\ ∃ p, o = .ref p /\ ∃ xs, H p = some (.lst xs) /\ ∃ j, ixN xs.length k = some j /\ Q (upd H p (.lst (xs.set j v)))
section
variable {X : Cx}
theorem Zm : MtR X "list.append" kB := kn
theorem kz {es : List Expr} {k : Nat} {t : TGs} {pos : Pos} {K : PySem.W.Frag} (n : Nat) (h : X.K = K) (hc : X.calm = true) (hs : PGs X es t) (hn : (assignEach es X.env).length = n := by rfl) (hst : (assignEach es X.env).findIdx? (·.1) = none := by rfl) : PG X (.Tuple es k pos) (Xa K n t) := h ▸ Vp hc hs hn hst
theorem qR : XY X vV := by
 intro pins s σ H o i v ov iv u Q I ro ri rv h
 obtain ⟨k, e1, p, e2, xs, h1, j, h2, q⟩ := h
 exact Qp pins s σ H o i v ov iv u Q I ro ri rv ⟨p, xs, k, j, e2, e1, h1, h2, q⟩
theorem xg {K : PySem.W.Frag} (h : X.K = K) : qy X (.builtin "len") (fun xs H Q => ∃ p ys, xs = [.ref p] /\ (SqL K H p ys \/ SqT K H p ys) /\ Q (.int ys.length) H) := h ▸ zI
end
end L2
set_option Elab.async false
set_option linter.all false
set_option maxRecDepth 100000
set_option maxHeartbeats 4000000
namespace L2
open PySem PySem.Spec PyProof.Rows
end L2
set_option Elab.async false
set_option linter.all false
set_option maxRecDepth 100000
set_option maxHeartbeats 4000000
namespace L2
open PySem PySem.Spec PyProof.Rows
section
variable {X : Cx}
def wD (K : PySem.W.Frag) : R2 := fun x y H Q => ∃ p xs i v, x = .ref p /\ y = .int i /\ (SqL K H p xs \/ SqT K H p xs) /\ atI xs i = some v /\ Q v H
theorem qE : IxR X (wD X.K) := by
 intro value slice pins s σ H x y v u Q I rx ry h hs
 obtain ⟨p, xs, i, z, e1, e2, hq | hq, he, q⟩ := h
 ·exact qg value slice pins s σ H x y v u Q I rx ry ⟨p, xs, i, z, e1, e2, hq, he, q⟩ hs
 ·exact Vt value slice pins s σ H x y v u Q I rx ry ⟨p, xs, i, z, e1, e2, hq, he, q⟩ hs
theorem xT {K : PySem.W.Frag} (h : X.K = K) : IxR X (wD K) := h ▸ qE
theorem Qv : bootBuiltins "all" = some (.builtin "all") := by decide +kernel
theorem kJ : ∀ {bs : List Bool} {us : List Value}, zv (bs.map V.bl) us -> us = bs.map Value.bool
 | [], _, h => by cases h; rfl
 | b :: bs, _, h => by
  cases h with
  | cons r rs => cases r; rw [kJ rs]; rfl
theorem v6 (bs : List Bool) : ((List.range bs.length).all fun i => (bs[i]?).getD true) = bs.all id := by
 rw [Bool.eq_iff_iff, List.all_eq_true, List.all_eq_true]
 constructor
 ·intro h x hx
  obtain ⟨i, hi, rfl⟩ := List.getElem_of_mem hx
  have := h i (by simpa using hi)
  simpa [List.getElem?_eq_getElem hi] using this
 ·intro h i hi
  have hi' : i < bs.length := by simpa using hi
  simpa [List.getElem?_eq_getElem hi'] using h bs[i] (List.getElem_mem hi')
theorem xr (hc : X.calm = true) : qy X (.builtin "all") (fun xs H Q => ∃ p bs, xs = [.ref p] /\ SqL X.K H p (List.map V.bl bs) /\ Q (.bl (bs.all id)) H) := by
  intro pins s σ H xs us Q I r h
  obtain ⟨p, bs, rfl, hq, q⟩ := h
  obtain ⟨u, rfl, rx⟩ := jE r
  cases rx
  obtain ⟨its, rv, pl, hz⟩ := I.list hq
  have hu := kJ rv
  subst hu
  have hlt : p < s.heap.objs.size := by obtain ⟨_, e, _⟩ := pl.isList; exact Heap.lt_size e
  refine call_all_walk (wpAny_pyIter_list pl.isList ?_)
  refine ⟨s.heap.objs.size, [s.heap.objs.size, p], [s.heap.objs.size], (bs.map Value.bool).toArray.size, _, _, fun i => (bs[i]?).getD true, rfl, Walks.list (A := X.A.in1) (I.ok.hd hc) _ p (Nat.ne_of_lt hlt) (bs.map Value.bool).toArray,
    ⟨⟨_, Heap.get?_push_size _ rfl, rfl, rfl⟩, pl.isList.push _⟩, fun i v s' Q' E' hP hQ => ?_, fun h' tk hk => ?_⟩
  · have hP' : (bs.map Value.bool)[i]? = some v := by simpa using hP
    rw [List.getElem?_map] at hP'
    cases e : bs[i]? with
    | none => rw [e] at hP'; cases hP'
    | some b =>
      rw [e] at hP'
      cases hP'
      simp only [e, Option.getD_some] at hQ
      exact wpAny_truthy_bool hQ
  · have e : ((List.range (bs.map Value.bool).toArray.size).all fun i => (bs[i]?).getD true) = bs.all id := by
      rw [List.size_toArray, List.length_map]; exact v6 bs
    rw [e]
    refine ⟨.bl (bs.all id), H, I.turnedL (ch := []) (tk := tk) (fun b hb => nomatch hb) (fun b o _ eb => ?_), rfl, q⟩
    exact hk b o (fun hm => by rw [List.mem_singleton.mp hm] at eb; exact Nat.lt_irrefl _ (Heap.lt_size eb)) (Heap.get?_push_of_some _ eb)
end
end L2
set_option Elab.async false
set_option linter.all false
set_option maxRecDepth 100000
set_option maxHeartbeats 4000000
namespace L2
open PySem PySem.Spec PyProof.Rows
def nxt (os : List Int) (p : Int) : Int := os.getD p.toNat 0
end L2
set_option Elab.async false
set_option linter.all false
set_option maxRecDepth 100000
set_option maxHeartbeats 4000000
namespace L2
open PySem PySem.Spec PyProof.Rows
end L2
set_option Elab.async false
set_option linter.all false
set_option maxRecDepth 100000
set_option maxHeartbeats 4000000
namespace L2
open PySem PySem.Spec PyProof.Rows
section
variable {P : Program} {w : World} {A : Around} {E : Value -> Shared -> Prop} {s : Shared} {j t : Addr} {i : Nat} {its : Array Value} {Q : Value -> Shared -> Prop}
theorem jP {x : Value} (hj : s.heap.IsTupleIter j t i) (ht : s.heap.IsTuple t its) (hx : its[i]? = some x) (hQ : ∀ h', h'.IsTupleIter j t (i + 1) -> Heap.SameBut j s.heap h' -> Q x { s with heap := h' }) : wpAny (model P w) A (Builtin.SmallTypes.nextOf (.ref j)) Q E s := by
 obtain ⟨o, ho, hc, hd⟩ := id hj
 obtain ⟨ot, hot, _, nt, hdt⟩ := ht
 unfold Builtin.SmallTypes.nextOf
 refine wpAny_bind (wpAny_callSpecial?_slot (name := Str.ofString "__next__") hj.typeIs F.slot_tuple_iterator_next (wpAny_call_entry F.slot_tuple_iterator_next hj.typeIs F.entry_tuple_iterator_next ?_ (F.args_tuple_iterator_next_1 _)))
 refine wpAny_bind (m := field (.ref j) 0) (wpAny_field ho hd (x := .ref t) rfl ?_); show wpAny _ _ (if (Value.ref t == Value.none) = true then _ else _) _ _ s; rw [if_neg (show ¬ ((Value.ref t == Value.none) = true) from Bool.false_ne_true)]
 refine wpAny_bind (m := field (.ref j) 1) (wpAny_field ho hd (x := .int i 0) rfl ?_); refine wpAny_bind (m := seqItems? (.ref t)) (wpAny_seqItems hot hdt ?_); simp only [Int.toNat_natCast, hx]
 refine wpAny_bind (wpAny_setField ho hd (by simp) (wpAny_pure ⟨x, rfl, wpAny_pure (hQ _ ⟨_, Heap.get?_update_self _ ho (Obj.isFreed_of_fields (Obj.data_mapFields hd _)), (Obj.cls_mapFields ..).trans hc, by rw [Obj.data_mapFields hd]; simp [rawInt]⟩ (Heap.SameBut.update ..))⟩))
theorem vC (hh : A.handled = none) (hj : s.heap.IsTupleIter j t i) (ht : s.heap.IsTuple t its) (hx : its[i]? = none) (hE : ∀ h' e, Heap.ExtBut j s.heap h' -> (∃ o, h'.get? e = some o /\ o.cls = .type "StopIteration") -> E (.ref e) { s with heap := h' }) : wpAny (model P w) A (Builtin.SmallTypes.nextOf (.ref j)) Q E s := by
 obtain ⟨o, ho, hc, hd⟩ := id hj
 obtain ⟨ot, hot, _, nt, hdt⟩ := ht
 unfold Builtin.SmallTypes.nextOf
 refine wpAny_bind (wpAny_callSpecial?_slot (name := Str.ofString "__next__") hj.typeIs F.slot_tuple_iterator_next (wpAny_call_entry F.slot_tuple_iterator_next hj.typeIs F.entry_tuple_iterator_next ?_ (F.args_tuple_iterator_next_1 _)))
 refine wpAny_bind (m := field (.ref j) 0) (wpAny_field ho hd (x := .ref t) rfl ?_); show wpAny _ _ (if (Value.ref t == Value.none) = true then _ else _) _ _ s; rw [if_neg (show ¬ ((Value.ref t == Value.none) = true) from Bool.false_ne_true)]
 refine wpAny_bind (m := field (.ref j) 1) (wpAny_field ho hd (x := .int i 0) rfl ?_); refine wpAny_bind (m := seqItems? (.ref t)) (wpAny_seqItems hot hdt ?_); simp only [Int.toNat_natCast, hx]
 refine wpAny_bind (wpAny_rule (wpAny_bind (wpAny_setField ho hd (by simp) ?_))); refine wpAny_bind (m := newExc (.type "StopIteration") []) ?_; simp only [newExc, newTuple]; refine wpAny_bind (wpAny_newObj_type ?_ (by size_fits)); refine wpAny_bind (m := firstArgMember _ _) (wpAny_of_eq (a := Value.none) (by first | rfl | (simp only [firstArgMember]; rfl)) ?_); refine wpAny_newObj_type ?_ (by size_fits); simp only [raiseNew]; refine wpAny_bind (wpAny_handled ?_)
 (first | rw [show A.in1.handled = none from hh] | rw [hh]); refine wpAny_bind (wpAny_pure (wpAny_throw ?_)); exact hE _ _ (((Heap.SameBut.update ..).extBut.push _).push _) ⟨_, Heap.get?_push_size _ rfl, rfl⟩
end
open AutoSeq1 (wpAny_loadPart') in
section
variable {X : Cx} {es : List Expr} {kt : Nat} {tp : Pos}
end
end L2
set_option Elab.async false
set_option linter.all false
set_option maxRecDepth 100000
set_option maxHeartbeats 4000000
namespace L2
open PySem PySem.Spec PyProof.Rows
end L2
set_option Elab.async false
set_option linter.all false
set_option maxRecDepth 100000
set_option maxHeartbeats 4000000
namespace L2
open PySem PySem.Spec PyProof.Rows
end L2
set_option Elab.async false
set_option linter.all false
set_option maxRecDepth 100000
set_option maxHeartbeats 4000000
namespace L2
open PySem PySem.Spec PyProof.Rows
end L2
set_option Elab.async false
set_option linter.all false
set_option maxRecDepth 100000
set_option maxHeartbeats 4000000
namespace L2
open PySem PySem.Spec PyProof.Rows
def iLT (K : PySem.W.Frag) (tl : TE) : TI := fun σ H R => tl σ H fun x H1 => ∃ a, x = .ref a /\ (((∃ xs, SqL K H1 a xs) /\ R (Itl K a) H1) \/ ((∃ xs, SqT K H1 a xs) /\ R (Itt K a) H1))
theorem jq {X : Cx} {tg : Expr} {l : Expr} {tl : TE} (hl : PE X l tl) : PI X tg l (iLT X.K tl) := by
 intro pins s σ H R I h
 refine thn (hl pins s σ H _ I h) fun v s1 ⟨x, H1, I1, r1, q1⟩ => ?_
 obtain ⟨a, e, q⟩ := q1
 subst e
 cases r1
 have fo : ∀ b ∈ [s1.heap.objs.size], jA X pins H1 b := fun b hb => by
  have e : b = s1.heap.objs.size := by simpa using hb
  subst e
  exact I1.fpOk (Nat.le_refl _) (I1.hok.fresh (Nat.le_refl _))
 rcases q with ⟨⟨xs, hq⟩, q⟩ | ⟨⟨xs, hq⟩, q⟩
 ·obtain ⟨its, rv, p, hz⟩ := I1.list hq
  refine wpAny_pyIter_list p.isList ?_
  exact ⟨s1.heap.objs.size, [s1.heap.objs.size], _, _, H1, rfl, I1.kept (t' := s1.toks) fun b o e => Heap.get?_push_of_some _ e, Zq a _, ⟨_, Heap.get?_push_size _ rfl, rfl, rfl⟩, fo, q⟩
 ·obtain ⟨its, rv, p, hz⟩ := I1.tuple hq
  refine wpAny_pyIter_tuple (show s1.heap.IsTuple a its.toArray from p) ?_
  exact ⟨s1.heap.objs.size, [s1.heap.objs.size], _, _, H1, rfl, I1.kept (t' := s1.toks) fun b o e => Heap.get?_push_of_some _ e, wc a _, ⟨_, Heap.get?_push_size _ rfl, rfl, rfl⟩, fo, q⟩
end L2
set_option Elab.async false
set_option linter.all false
set_option maxRecDepth 100000
set_option maxHeartbeats 4000000
namespace L2
open PySem PySem.Spec PyProof.Rows
end L2
set_option Elab.async false
set_option linter.all false
set_option maxRecDepth 100000
set_option maxHeartbeats 4000000
namespace L2
open PySem PySem.Spec PyProof.Rows
section
variable {X : Cx}
end
end L2
set_option Elab.async false
set_option linter.all false
set_option maxRecDepth 100000
set_option maxHeartbeats 4000000
namespace L2
open PySem PySem.Spec PyProof.Rows
section
variable {X : Cx}
end
end L2
set_option Elab.async false
set_option linter.all false
set_option maxRecDepth 100000
set_option maxHeartbeats 4000000
namespace L2
open PySem PySem.Spec PyProof.Rows
end L2
set_option Elab.async false
set_option linter.all false
set_option maxRecDepth 100000
set_option maxHeartbeats 4000000
namespace L2
open PySem PySem.Spec PyProof.Rows
def jt (prog : Program) (w : World) (A : Around) (elt : Expr) (gens : List Comprehension) (scope : Scope) (pos : Pos) (d : Nat) (acc : Value) (env : Env) (Q : Shared -> Prop) (s : Shared) : Prop :=
  match gens[d + 1]? with
  | some g' => wpAny (model prog w) A (eval g'.iter env) (fun x s1 => wpAny (model prog w) A (foldedSetIterable g'.iter env x) (fun x s2 => wpAny (model prog w) A (pyIter x) (fun it s3 =>
      wpAny (model prog w) A (runOwn (Code.compStart (.ListComp elt gens scope pos) (d + 1) it acc env) env) (fun _ s4 => Q s4) (fun _ _ => False) s3) (fun _ _ => False) s2) (fun _ _ => False) s1) (fun _ _ => False) s
  | none => wpAny (model prog w) A (eval elt env) (fun v s1 => wpAny (model prog w) A (call (.builtin "list.append") [acc, v]) (fun _ s2 => Q s2) (fun _ _ => False) s1) (fun _ _ => False) s
section
variable {prog : Program} {w : World} {A : Around} {R : Result -> Shared -> Prop} {s : Shared}
theorem yZ {elt : Expr} {gens : List Comprehension} {d : Nat} {scope : Scope} {pos : Pos} {acc : Value} {env : Env} {Q Q' : Shared -> Prop} (h : jt prog w A elt gens scope pos d acc env Q s) (hq : ∀ s, Q s -> Q' s) : jt prog w A elt gens scope pos d acc env Q' s := by
 unfold jt at h ⊢
 cases e : gens[d + 1]? with
 | none =>
  simp only [e] at h ⊢
  exact wpAny_mono h (fun x s₄ h₄ => wpAny_mono h₄ (fun _ s₅ h₅ => hq _ h₅) fun _ _ h' => h') fun _ _ h' => h'
 | some g' =>
  simp only [e] at h ⊢
  exact wpAny_mono h (fun x s₄ h₄ => wpAny_mono h₄ (fun x s₅ h₅ => wpAny_mono h₅ (fun it s₆ h₆ => wpAny_mono h₆ (fun _ s₇ h₇ => hq _ h₇) fun _ _ h' => h') fun _ _ h' => h') fun _ _ h' => h') fun _ _ h' => h'
theorem jo {elt target iter : Expr} {ifs : List Expr} {gens : List Comprehension} {d : Nat} {scope : Scope} {pos : Pos} {it acc : Value} {env : Env} (hg : gens[d]? = some ⟨target, iter, ifs, 0⟩) (hn : ∀ g', gens[d + 1]? = some g' -> g'.is_async = 0) (I : Nat -> Shared -> Prop)
    (turn : ∀ n s, I n s -> wpAny (model prog w) A (pyNext it) (fun r s₁ => match r with
      | none => R (.ok .next) s₁
      | some v => wpAny (model prog w) A (letOwnedTupleGo target it v) (fun _ s₀ => wpAny (model prog w) A (assign target env v) (fun _ s₂ =>
          wpAny (model prog w) A (forIn ifs true fun c r => if r = true then do let ok <- isTrue c env (eval c env); pure (ForInStep.yield ok) else pure (ForInStep.yield r)) (fun ok s₃ =>
            if ok = true then jt prog w A elt gens scope pos d acc env (fun s₅ => ∃ m, m < n /\ I m s₅) s₃
            else ∃ m, m < n /\ I m s₃) (fun _ _ => False) s₂) (fun _ _ => False) s₀) (fun _ _ => False) s₁) (fun _ _ => False) s)
    (n : Nat) (h : I n s) :
    codeAny (model prog w) A (.compLoop (.ListComp elt gens scope pos) d it acc env) R s := by
  refine codeAny_loop rfl I (fun n s hI => ?_) n h
  show wpAny _ A ((compTurn (.ListComp elt gens scope pos) d it acc env).onRaise (fun x => do noteFrame x env; theTreesLotGoes x)) _ _ s
  refine wpAny_noted ?_
  unfold compTurn
  simp only [hg]
  refine wpAny_bind (wpAny_standAt ?_)
  rw [if_neg (by decide)]
  refine wpAny_bind (wpAny_mono (turn n s hI) (fun r s₁ h₁ => ?_) fun _ _ h' => h'.elim)
  cases r with
  | none => exact wpAny_pure h₁
  | some v =>
    refine wpAny_bind (wpAny_mono h₁ (fun _ s₀ h₀ => ?_) fun _ _ h' => h'.elim)
    refine wpAny_bind (wpAny_mono h₀ (fun _ s₂ h₂ => wpAny_bind (wpAny_mono h₂ (fun ok s₃ h₃ => ?_) fun _ _ h' => h'.elim)) fun _ _ h' => h'.elim)
    cases ok with
    | false => exact wpAny_pure ⟨rfl, h₃⟩
    | true =>
      rw [if_pos rfl] at h₃ ⊢
      unfold jt at h₃
      cases e : gens[d + 1]? with
      | none =>
        simp only [e] at h₃ ⊢
        exact wpAny_bind (wpAny_bind (wpAny_mono h₃ (fun x s₄ h₄ => wpAny_bind (wpAny_mono h₄ (fun _ s₅ h₅ => wpAny_pure (wpAny_pure ⟨rfl, h₅⟩)) fun _ _ h' => h'.elim)) fun _ _ h' => h'.elim))
      | some g' =>
        simp only [e] at h₃ ⊢
        have ha := hn g' e
        refine wpAny_bind (wpAny_mono h₃ (fun x s₄ h₄ => ?_) fun _ _ h' => h'.elim)
        refine wpAny_bind (wpAny_standAt ?_)
        rw [if_neg (by rw [ha]; decide)]
        refine wpAny_bind (wpAny_mono h₄ (fun x s₅ h₅ => ?_) fun _ _ h' => h'.elim)
        refine wpAny_bind (wpAny_holding ?_)
        rw [if_neg (by rw [ha]; decide)]
        refine wpAny_mono h₅ (fun it s₆ h₆ => ?_) fun _ _ h' => h'.elim
        exact wpAny_bind (wpAny_mono h₆ (fun _ s₇ h₇ => wpAny_pure ⟨rfl, h₇⟩) fun _ _ h' => h'.elim)
theorem jd {elt target iter : Expr} {ifs : List Expr} {gens : List Comprehension} {d : Nat} {scope : Scope} {pos : Pos} {it acc : Value} {env : Env} (hg : gens[d]? = some ⟨target, iter, ifs, 0⟩)
  (h1 : codeAny (model prog w) A (.compLoop (.ListComp elt gens scope pos) d it acc env) R s)
  (h2 : wpAny (model prog w) A (pyIter it) (fun it' s' => codeAny (model prog w) A (.compLoop (.ListComp elt gens scope pos) d it' acc env) R s') (fun _ _ => False) s) :
  codeAny (model prog w) A (.compStart (.ListComp elt gens scope pos) d it acc env) R s := by
 refine codeAny_loop' rfl (fun _ s' => s' = s) (fun n s' hI => ?_) 0 rfl
 subst hI
 show wpAny _ A ((compStart (.ListComp elt gens scope pos) d it acc env).onRaise (fun x => do noteFrame x env; standAt theWindowsPlace)) _ _ _
 refine wpAny_onRaise ?_
 unfold compStart
 have hc : (clausesOf (.ListComp elt gens scope pos))[d]? = some ⟨target, iter, ifs, 0⟩ := hg
 simp only [hc]
 rw [if_neg (by show ¬ ((0 : Nat) != 0) = true; decide)]
 refine wpAny_bind (wpAny_askSetting ?_)
 split
 ·exact wpAny_pure (.inr ⟨rfl, h1⟩)
 ·refine wpAny_bind (wpAny_rule ?_)
  refine wpAny_bind (wpAny_standAt ?_)
  exact wpAny_bind (wpAny_mono h2 (fun it' s' h' => wpAny_pure (.inr ⟨rfl, h'⟩)) fun _ _ h' => h'.elim)
end
def CL (J : It) (g : TG) (tt : TT) (tr : St -> Hp -> (St -> Hp -> Prop) -> Prop) (N : St -> Hp -> Prop) (σ : St) (H : Hp) : Prop := ∃ W : Nat -> Nat -> St -> Hp -> Prop, (∃ m, W 0 m σ H) /\ ∀ i m τ H2, W i m τ H2 ->
 (J.stop i H2 /\ N τ H2) \/ (J.go i H2 /\ ∃ N1 : St -> Hp -> Prop, (∀ τ' H', N1 τ' H' -> ∃ m', m' < m /\ W (i + 1) m' τ' H') /\ ∀ x H', J.yld i H2 x H' -> g x τ H' fun τ2 H3 => tt τ2 H3 fun b H4 =>
  if b = true then tr τ2 H4 N1 else N1 τ2 H4)
abbrev TR := St -> Hp -> (St -> Hp -> Prop) -> Prop
def kQ (te : TE) (D : Addr) : TR := fun σ H N => te σ H fun v H5 => ∃ ys, H5 D = some (.lst ys) /\ ys.length < sizeLine /\ N σ (upd H5 D (.lst (ys ++ [v])))
def yi (wi : TI) (g : TG) (tt : TT) (tr : Addr -> TR) (D : Addr) : TR := fun σ H N => wi σ H fun J H1 => CL J g tt (tr D) N σ H1
def PR (C : Cx) (elt : Expr) (gens : List Comprehension) (scope : Scope) (pos : Pos) (d : Nat) (D : Addr) (tr : TR) : Prop :=
 ∀ (pins : List (Addr × Obj)) (s : Shared) (σ : St) (H : Hp) (N : St -> Hp -> Prop), Inv C pins σ H s -> tr σ H N -> jt C.prog C.w C.A elt gens scope pos d (.ref D) C.env (fun s' => ∃ σ' H', Inv C pins σ' H' s' /\ N σ' H') s
section
variable {C : Cx} {elt tg iter : Expr} {ifs : List Expr} {gens : List Comprehension} {scope : Scope} {pos : Pos} {d : Nat} {D : Addr} {g : TG} {tt : TT} {te : TE} {tr : TR}
theorem wC (hc : C.calm = true) (hgd : gens[d]? = some ⟨tg, iter, ifs, 0⟩) (hn : ∀ g', gens[d + 1]? = some g' -> g'.is_async = 0) (hg : PG C tg g) (ht : PIf C ifs tt) (hr : PR C elt gens scope pos d D tr) (hxe : ∀ e s, ¬ C.xe e s)
  {it : Addr} {fp : List Addr} {tn : Nat -> Heap -> Prop} {J : It} (T : yO C.prog C.w C.K tg J fp it tn) {pins : List (Addr × Obj)} {s : Shared} {σ : St} {H : Hp} (I : Inv C pins σ H s) (st : tn 0 s.heap) (hf : ∀ b ∈ fp, jA C pins H b) {N : St -> Hp -> Prop} (h : CL J g tt tr N σ H)
  {R : Result -> Shared -> Prop} (fin : ∀ s' σ' H', Inv C pins σ' H' s' -> N σ' H' -> R (.ok .next) s') :
  codeAny (model C.prog C.w) C.A (.compLoop (.ListComp elt gens scope pos) d (.ref it) (.ref D) C.env) R s := by
 obtain ⟨W, ⟨m0, w0⟩, turn⟩ := h
 have no : ∀ {α : Type} {m : Sem α} {Q : α -> Shared -> Prop} {s : Shared}, wpAny (model C.prog C.w) C.A m Q C.xe s -> wpAny (model C.prog C.w) C.A m Q (fun _ _ => False) s := fun h => wpAny_mono h (fun _ _ q => q) fun e s q => hxe e s q
 have stat : ∀ {H' : Hp}, (∀ b ∈ fp, H' b = none) -> ∀ b ∈ fp, jA C pins H' b := fun hn b hb => ⟨hn b hb, (hf b hb).2⟩
 refine jo hgd hn (fun n s' => ∃ i τ H', Inv C pins τ H' s' /\ tn i s'.heap /\ (∀ b ∈ fp, H' b = none) /\ W i n τ H') ?_ m0 ⟨0, σ, H, I, st, fun b hb => (hf b hb).1, w0⟩
 rintro n s5 ⟨i, τ, H5, I5, st5, fr5, w5⟩
 rcases turn i n τ H5 w5 with ⟨stop, qn⟩ | ⟨go, N1, hN, step⟩
 ·refine thn (T.done C rfl rfl rfl hc i pins s5 τ H5 _ I5 (stat fr5) st5 stop) fun r s6 ⟨hr, I6⟩ => ?_
  subst hr
  exact fin s6 τ H5 I6 qn
 ·refine thn (T.item C rfl rfl rfl hc i pins s5 τ H5 _ I5 (stat fr5) st5 go) fun r s6 ⟨u, hr', h6⟩ => ?_
  subst hr'
  refine thn h6 fun _ s7 ⟨x, H7, I7, r7, y7, st7, fr7⟩ => ?_
  have I7' := I7.pinned (stat fr7) (T.obj _ _ st7)
  refine thn (no (hg _ s7 τ H7 x u _ I7' r7 (step x H7 y7))) fun _ s8 ⟨τ8, H8, I8, q8⟩ => ?_
  refine thn (no (ht _ s8 τ8 H8 _ I8 q8)) fun b s9 ⟨H9, I9, q9⟩ => ?_
  have again : ∀ {τ9 : St} {H9 : Hp} {s9 : Shared}, Inv C (pins ++ j5 fp s7.heap) τ9 H9 s9 -> N1 τ9 H9 ->
    ∃ m, m < n /\ ∃ i τ H', Inv C pins τ H' s9 /\ tn i s9.heap /\ (∀ b ∈ fp, H' b = none) /\ W i m τ H' := fun {τ9 H9 s9} I9 n9 => by
   obtain ⟨m', hm, w9⟩ := hN _ _ n9
   refine ⟨m', hm, i + 1, τ9, H9, I9.unpinned, T.keep _ _ _ st7 fun b hb o e => (I9.pin (b, o) (List.mem_append_right _ (List.mem_append_right _ (ql hb e)))).1, fun b hb => ?_, w9⟩
   obtain ⟨o, e, d⟩ := T.obj _ _ st7 b hb
   exact (I9.pin (b, o) (List.mem_append_right _ (List.mem_append_right _ (ql hb e)))).2.1
  cases b with
  | false =>
   rw [if_neg Bool.false_ne_true] at q9 ⊢
   exact again I9 q9
  | true =>
   rw [if_pos rfl] at q9 ⊢
   exact yZ (hr _ s9 τ8 H9 _ I9 q9) fun s11 ⟨τ9, H11, I11, n11⟩ => again I11 n11
theorem yn (hg2 : gens[d + 1]? = none) (he : PE C elt te) (hxe : ∀ e s, ¬ C.xe e s) : PR C elt gens scope pos d D (kQ te D) := by
 intro pins s σ H N I h
 have no : ∀ {α : Type} {m : Sem α} {Q : α -> Shared -> Prop} {s : Shared}, wpAny (model C.prog C.w) C.A m Q C.xe s -> wpAny (model C.prog C.w) C.A m Q (fun _ _ => False) s := fun h => wpAny_mono h (fun _ _ q => q) fun e s q => hxe e s q
 unfold jt
 simp only [hg2]
 refine thn (no (he pins s σ H _ I h)) fun y s10 ⟨v, H10, I10, r10, ys, hys, hlen, n10⟩ => ?_
 exact thn (no (kn (X := C) _ s10 σ H10 (.ref D) [v] (.ref D) [y] (fun _ H11 => N σ H11) I10 rfl (.cons r10 .nil) ⟨_, ys, v, rfl, rfl, hys, hlen, n10⟩)) fun _ s11 ⟨_, H11, I11, _, n11⟩ => ⟨σ, H11, I11, n11⟩
theorem kA {tr : Addr -> TR} {wi : TI} (hc : C.calm = true) (hgd : gens[d + 1]? = some ⟨tg, iter, ifs, 0⟩) (hn : ∀ g', gens[d + 2]? = some g' -> g'.is_async = 0) (hi : PI C tg iter wi) (hs : ∀ x, foldedSetIterable iter C.env x = pure x) (hg : PG C tg g) (ht : PIf C ifs tt)
  (hr : PR C elt gens scope pos (d + 1) D (tr D)) (hxe : ∀ e s, ¬ C.xe e s) : PR C elt gens scope pos d D (yi wi g tt tr D) := by
 intro pins s σ H N I h
 have no : ∀ {α : Type} {m : Sem α} {Q : α -> Shared -> Prop} {s : Shared}, wpAny (model C.prog C.w) C.A m Q C.xe s -> wpAny (model C.prog C.w) C.A m Q (fun _ _ => False) s := fun h => wpAny_mono h (fun _ _ q => q) fun e s q => hxe e s q
 unfold jt
 simp only [hgd]
 refine thn (no (hi pins s σ H _ I h)) fun v s1 h1 => ?_
 rw [hs v]
 refine wpAny_pure (thn (no h1) fun itv s2 h2 => ?_)
 obtain ⟨it, fp, tn, J, H2, e, I2, T, st2, f2, q2⟩ := h2
 subst e
 refine wpAny_runOwn ?_
 show codeAny _ C.A _ _ _
 have loop := wC (R := fun r s' => match r with | .ok f => (∃ σ' H', Inv C pins σ' H' s' /\ N σ' H') | .error e => cameBackBy (model C.prog C.w) C.A C.env (fun _ _ => False) e s') hc hgd hn hg ht hr hxe T I2 st2 f2 q2 fun s' σ' H' I' n' => ⟨σ', H', I', n'⟩
 exact jd hgd loop (T.self _ 0 _ _ _ st2 loop)
end
def kh (ts : List Nat) (wi : TI) (g : TG) (tt : TT) (tr : Addr -> TR) : TE := fun σ H Q => wi σ H fun J H1 => ∀ D, H1 D = none -> CL J g tt (tr D) (fun _ H2 => Q (.ref D) H2) (clr ts σ) (upd H1 D (.lst []))
section
variable {X : Cx} {ts : List Nat} {scope : Scope} {tg iter elt : Expr} {ifs : List Expr} {qt : List Comprehension} {wi : TI} {g : TG} {tt : TT} {tr : Addr -> TR} {pos : Pos}
theorem xH (hc : X.calm = true) (hsc : vE X.N ts scope X.env.kindOf = true) (hi : PI X tg iter wi) (hn : ∀ g', qt[0]? = some g' -> g'.is_async = 0) (hg : ∀ cl s H fp, PG (cxC X scope cl s H fp) tg g) (ht : ∀ cl s H fp, PIf (cxC X scope cl s H fp) ifs tt)
  (hr : ∀ cl s H fp D, PR (cxC X scope cl s H fp) elt (⟨tg, iter, ifs, 0⟩ :: qt) scope pos 0 D (tr D))
  {pins : List (Addr × Obj)} {s : Shared} {σ : St} {H : Hp} {Q : VK} (I : Inv X pins σ H s) (h : kh ts wi g tt tr σ H Q) {use : Option (Value -> Sem Unit)} {Q' : Value -> Shared -> Prop}
  (fin : ∀ (D C : Addr) (H' : Hp) (s' : Shared), Inv X pins σ H' s' -> (∃ m, s'.heap.Ns C m) -> H' C = none -> C ≠ X.env.locals -> (∀ x c, X.env.cells.lookup x = some c -> c ≠ C) -> X.s₀.heap.objs.size <= C -> (∀ p ∈ X.pn ++ pins, p.1 ≠ C) -> C ∉ X.fs -> Q (.ref D) H' ->
   compPost (model X.prog X.w) X.A X.xe use Q' (.ref D) C (.ok .next) s')
  (hs : ∀ x, foldedSetIterable iter X.env x = pure x) :
  wpAny (model X.prog X.w) X.A (comprehension (.ListComp elt (⟨tg, iter, ifs, 0⟩ :: qt) scope pos) scope X.env (firstIterPos (⟨tg, iter, ifs, 0⟩ :: qt) pos) (newList []) false (eval iter X.env) use) Q' X.xe s := by
 have S := QV hsc
 obtain ⟨cl, hcl, c1, c2⟩ := kY (scope := scope) (env := X.env) fun y hy e => I.ok.has y.1 (S.free y hy e)
 refine wpAny_comprehension_free (use := use) rfl hs hcl S.kind S.loc ?_
 refine wpAny_mono (hi pins s σ H _ I h) (fun v s1 h1 => wpAny_mono h1 (fun itv s2 h2 => ?_) fun _ _ e => e) fun _ _ e => e
 obtain ⟨it, fp, tn, J, H2, e, I2, T, st2, f2, q2⟩ := h2
 subst e
 have hD : H2 s2.heap.objs.size = none := I2.hok.fresh (Nat.le_refl _)
 have q3 := q2 _ hD
 refine wpAny_newObj_type (wpAny_newFunctionEnv S.cell (by intro y hy; simp at hy) (fun h₁ hns₁ hsb₁ => ?_) S.kind)
 dsimp only at hns₁ hsb₁ ⊢
 generalize hh3 : s2.heap.push { cls := .type "list", dict := none, data := .seq ([] : List Value).toArray } = g3 at hns₁ hsb₁ ⊢
 have I3 : Inv X pins σ (upd H2 s2.heap.objs.size (.lst [])) { s2 with heap := g3 } := by
  rw [<- hh3]
  exact I2.laid (t' := s2.toks) (fun b u e => Heap.get?_push_of_some _ e) (Nat.le_refl _) ⟨Nat.zero_le _, [], _, .nil, Heap.get?_push_size _ rfl⟩
 have st3 : tn 0 g3 := T.keep _ _ _ st2 fun b _ o e => by rw [<- hh3]; exact Heap.get?_push_of_some _ e
 have lt2 : ∀ b ∈ fp, b < s2.heap.objs.size := fun b hb => by obtain ⟨o, e, _⟩ := T.obj _ _ st2 b hb; exact Heap.lt_size e
 have hsz3 : g3.objs.size = s2.heap.objs.size + 1 := by rw [<- hh3, Heap.size_push]
 have f3 : ∀ b ∈ fp, jA X pins (upd H2 s2.heap.objs.size (.lst [])) b := fun b hb => ⟨by rw [zf (Nat.ne_of_lt (lt2 b hb))]; exact (f2 b hb).1, (f2 b hb).2⟩
 have lt3 : ∀ b ∈ fp, b < g3.objs.size := fun b hb => by rw [hsz3]; exact Nat.lt_succ_of_lt (lt2 b hb)
 have old : ∀ b o, g3.get? b = some o -> h₁.get? b = some o := fun b o e => hsb₁.extBut b o (Nat.ne_of_lt (Heap.lt_size e)) (Heap.get?_push_of_some _ e)
 have hns : h₁.Ns g3.objs.size (fun x => ([] : List (Str × Value)).reverse.lookup x) := hns₁
 have I4 : ∀ t, Inv (cxC X scope cl { s2 with heap := g3 } (upd H2 s2.heap.objs.size (.lst [])) fp) [] (clr ts σ) (upd H2 s2.heap.objs.size (.lst [])) { s2 with heap := h₁, toks := t } := fun t => kD I3 S f3 lt3 c1 c2 hns old
 have fpne : ∀ b ∈ fp, b ∉ frs X.stack := fun b hb z => by
  obtain ⟨_, f1, f2, _⟩ := f3 b hb
  rcases List.mem_cons.mp (I3.stkSub b z) with e | e
  ·exact f1 e
  ·exact f2 e
 have stat : ∀ {H' : Hp}, (∀ b ∈ fp, H' b = none) -> ∀ b ∈ fp, jA (cxC X scope cl { s2 with heap := g3 } (upd H2 s2.heap.objs.size (.lst [])) fp) [] H' b := fun hn b hb =>
  ⟨hn b hb, Nat.ne_of_lt (lt3 b hb), fpne b hb, .inl hb, fun x c e => (f2 b hb).2.2.2.2.1 x c (c1 x c e), fun p hp => absurd hp (by simp)⟩
 have loop : ∀ t, codeAny (model X.prog X.w) X.A (.compLoop (.ListComp elt (⟨tg, iter, ifs, 0⟩ :: qt) scope pos) 0 (.ref it) (.ref s2.heap.objs.size) (compEnvC scope cl g3.objs.size X.env))
   (compPost (model X.prog X.w) X.A X.xe use Q' (.ref s2.heap.objs.size) g3.objs.size) { s2 with heap := h₁, toks := t } := by
  intro t
  refine wC (C := cxC X scope cl { s2 with heap := g3 } (upd H2 s2.heap.objs.size (.lst [])) fp) hc rfl (fun g' e => hn g' (by simpa using e)) (hg _ _ _ _) (ht _ _ _ _) (hr _ _ _ _ _) (fun _ _ z => z) T (I4 t) (T.keep _ _ _ st3 fun b _ o e => old b o e) (stat fun b hb => (f3 b hb).1) q3 fun s6 σ6 H5 I6 qn => ?_
  have base : Un (frs X.stack) fp (upd H2 s2.heap.objs.size (.lst [])) H5 g3 s6.heap := I6.base
  have J6 : Inv X pins σ H5 s6 := I3.call' (ch := fp) I6.os base I6.hok I6.bare fun b hb => ⟨(f3 b hb).2.2.2.1, (f3 b hb).2.1, (f3 b hb).2.2.2.2.1, (f3 b hb).2.2.2.2.2⟩
  obtain ⟨m6, n6, _⟩ := I6.loc
  refine fin _ g3.objs.size H5 s6 J6 ⟨m6, n6⟩ I6.free (Nat.ne_of_gt I3.lt) (fun x c e z => ?_) I3.sz (fun p hp z => ?_) (I3.nofs (Nat.le_refl _)) qn
  ·obtain ⟨v, q⟩ := I3.cell x c e
   exact absurd q.lt (by rw [z]; exact Nat.lt_irrefl _)
  ·exact absurd (Heap.lt_size (I3.pin p hp).1) (by rw [z]; exact Nat.lt_irrefl _)
 have LW := loop (s2.toks + ([] : List (Str × Value)).length)
 exact codeAny_compStart_list LW (T.self _ 0 _ _ _ (T.keep _ _ _ st3 fun b _ o e => old b o e) LW)
theorem JH (hc : X.calm = true) (hsc : vE X.N ts scope X.env.kindOf = true) (hi : PI X tg iter wi) (hg : ∀ cl s H fp, PG (cxC X scope cl s H fp) tg g) (ht : ∀ cl s H fp, PIf (cxC X scope cl s H fp) ifs tt)
  (hr : ∀ cl s H fp D, PR (cxC X scope cl s H fp) elt (⟨tg, iter, ifs, 0⟩ :: qt) scope pos 0 D (tr D)) (hn : ∀ g', qt[0]? = some g' -> g'.is_async = 0 := by intro _ e; cases e; rfl)
  (hs : ∀ x, foldedSetIterable iter X.env x = pure x := by intro _; rfl) : PE X (.ListComp elt (⟨tg, iter, ifs, 0⟩ :: qt) scope pos) (kh ts wi g tt tr) := by
 intro pins s σ H Q I h
 rw [eval_ListComp]
 refine xH hc hsc hi hn hg ht hr I h (use := none) (fun D C H' s' I' ⟨m, hn⟩ hC hL hce hsz hp hfs q => ⟨m, hn, fun h' hs' => ?_⟩) hs
 exact ⟨.ref D, H', I'.turned (t' := s'.toks) (it := C) (fun b o hb e => (hs'.2 b hb).trans e) hC hL (.inr hsz) hce hp, rfl, q⟩
theorem vp {j : Nat} {y : Str} {py spos : Pos} (hc : X.calm = true) (hN : X.N.Nodup) (hj : X.N[j]? = some y) (hy : Loc X.env.scope y) (hsc : vE X.N ts scope X.env.kindOf = true) (hi : PI X tg iter wi) (hg : ∀ cl s H fp, PG (cxC X scope cl s H fp) tg g) (ht : ∀ cl s H fp, PIf (cxC X scope cl s H fp) ifs tt)
  (hr : ∀ cl s H fp D, PR (cxC X scope cl s H fp) elt (⟨tg, iter, ifs, 0⟩ :: qt) scope pos 0 D (tr D)) (hn : ∀ g', qt[0]? = some g' -> g'.is_async = 0 := by intro _ e; cases e; rfl)
  (hsw : swapsWith (.ListComp elt (⟨tg, iter, ifs, 0⟩ :: qt) scope pos) (some (.Name y py)) spos.line X.env = pure true := by rfl)
  (hs : ∀ x, foldedSetIterable iter X.env x = pure x := by intro _; rfl) (hf : X.fn y = true \/ X.env.scope.names.lookup y = some .local := by first | exact .inl rfl | exact .inr rfl | assumption) :
  PS X (.Assign [.Name y py] (.ListComp elt (⟨tg, iter, ifs, 0⟩ :: qt) scope pos) spos) (ZA (kh ts wi g tt tr) (xw j)) := by
 intro pins s σ H D I h
 rw [exec_Assign_Name_used _ _ _ _ hsw]
 refine wpAny_bind (wpAny_standAt (wpAny_bind ?_))
 show wpAny _ _ (do let _ <- comprehension (.ListComp elt (⟨tg, iter, ifs, 0⟩ :: qt) scope pos) scope X.env _ (newList []) false (eval iter X.env) (some (assign (.Name y py) X.env))) _ _ s
 refine wpAny_bind (wpAny_mono (xH hc hsc hi hn hg ht hr I h (use := some (assign (.Name y py) X.env)) (Q' := fun _ s' => SP X pins D .next s') (fun D' C H' s' I' ⟨m, hn⟩ hC hL hce hsz hp hfs q => ?_) hs) (fun _ s' hq => wpAny_pure (wpAny_pure hq)) fun _ _ e => e)
 show wpAny _ _ (assign (.Name y py) X.env (.ref D')) _ _ _
 refine wpAny_assign_Name (j9 (v := .ref D') I' hN hj hy rfl (fun s2 I2 ⟨a, hsb, ha⟩ => ?_) hf)
 have hCa : C ≠ a := by
  rcases ha with rfl | ha
  ·exact hL
  ·exact Ne.symm (hce y a ha)
 refine ⟨m, hn.sameBut hsb hCa, fun h' hs' => ?_⟩
 exact ⟨_, H', I2.turned (t' := s2.toks) (it := C) (fun b o hb e => (hs'.2 b hb).trans e) hC hL (.inr hsz) hce hp, q⟩
end
theorem Zs {ts : List Nat} {wi : TI} {g : TG} {tt : TT} {tr : Addr -> TR} {σ : St} {H : Hp} {Q : VK} :
  kh ts wi g tt tr σ H Q = wi σ H (fun J H1 => ∀ D, H1 D = none -> CL J g tt (tr D) (fun _ H2 => Q (.ref D) H2) (clr ts σ) (upd H1 D (.lst []))) := rfl
theorem Zg {wi : TI} {g : TG} {tt : TT} {tr : Addr -> TR} {D : Addr} {σ : St} {H : Hp} {N : St -> Hp -> Prop} : yi wi g tt tr D σ H N = wi σ H (fun J H1 => CL J g tt (tr D) N σ H1) := rfl
theorem Zp {te : TE} {D : Addr} {σ : St} {H : Hp} {N : St -> Hp -> Prop} : kQ te D σ H N = te σ H (fun v H5 => ∃ ys, H5 D = some (.lst ys) /\ ys.length < sizeLine /\ N σ (upd H5 D (.lst (ys ++ [v])))) := rfl
end L2
set_option Elab.async false
set_option linter.all false
set_option maxRecDepth 100000
set_option maxHeartbeats 4000000
namespace L2
open PySem PySem.Spec PyProof.Rows
section
variable {P : Program} {w : World} {A : Around} {E : Value -> Shared -> Prop} {it l : Addr} {items : Array Value}
theorem xq (hne : l ≠ it) : ∀ (n i : Nat) (s : Shared) (Q : List Value -> Shared -> Prop), s.heap.IsListIter it l i -> s.heap.IsList l items -> i + n <= items.size ->
  (∀ h', h'.IsListIter it l (i + n) -> Heap.SameBut it s.heap h' -> Q ((items.toList.drop i).take n) { s with heap := h' }) -> wpAny (model P w) A (draw (.ref it) n) Q E s
 | 0, i, s, Q, hi, hl, hn, hQ => by
  rw [draw.eq_1]
  have := hQ s.heap (by simpa using hi) (Heap.SameBut.refl ..)
  simp only [List.take_zero] at this
  exact wpAny_pure this
 | n + 1, i, s, Q, hi, hl, hn, hQ => by
  rw [draw.eq_2]
  have hlt : i < items.size := by omega
  refine wpAny_bind (wpAny_pyNext_list_item hi hl (x := items[i]) (by simp [hlt]) fun h' hi' hs' => ?_)
  refine wpAny_bind (wpAny_holding ?_)
  have hl' : h'.IsList l items := by obtain ⟨o, ho, r⟩ := hl; exact ⟨o, (hs'.2 l hne).trans ho, r⟩
  refine xq hne n (i + 1) { s with heap := h' } _ hi' hl' (by omega) fun h2 hi2 hs2 => wpAny_pure ?_
  have e : (items.toList.drop i).take (n + 1) = items[i] :: (items.toList.drop (i + 1)).take n := by
   rw [List.drop_eq_getElem_cons (by simpa using hlt), List.take_succ_cons]; simp
  have := hQ h2 (by rw [show i + (n + 1) = i + 1 + n by omega]; exact hi2) (hs'.trans hs2)
  rw [e] at this
  exact this
theorem ki {s : Shared} {Q : List Value -> Shared -> Prop} (hh : A.handled = none) (hl : s.heap.IsList l items) (hQ : ∀ h', Heap.ExtBut s.heap.objs.size s.heap h' -> Q items.toList { s with heap := h' }) : wpAny (model P w) A (unpackItems (.ref l) items.size none) Q E s := by
 have hT : s.TypeIs (.ref l) "list" := by obtain ⟨o, ho, hc, _⟩ := hl; exact ⟨o, ho, hc⟩
 have hlt : l < s.heap.objs.size := by obtain ⟨o, ho, _⟩ := hl; exact Heap.lt_size ho
 unfold unpackItems
 refine wpAny_bind ?_
 unfold notIterableAtAll
 refine wpAny_bind (wpAny_specialOf hT F.slot_list_iter.lookup ?_)
 refine wpAny_pure ?_
 show wpAny _ _ (holding [Value.ref l] (pyIter (Value.ref l)) >>= _) _ _ _
 refine wpAny_bind (wpAny_holding (wpAny_pyIter_list hl ?_))
 have hi : Heap.IsListIter (s.heap.push { cls := Value.type "list_iterator", data := Data.fields #[Value.ref l, Value.int 0 0] }) s.heap.objs.size l 0 := ⟨_, Heap.get?_push_size _ rfl, rfl, rfl⟩
 have hl1 := hl.push { cls := Value.type "list_iterator", data := Data.fields #[Value.ref l, Value.int 0 0] }
 refine wpAny_bind (wpAny_holding (xq (Nat.ne_of_lt hlt) items.size 0 _ _ hi hl1 (by omega) fun h2 hi2 hs2 => ?_))
 have e : (items.toList.drop 0).take items.size = items.toList := by rw [List.drop_zero, List.take_of_length_le (by simp)]
 rw [e]
 dsimp only
 rw [if_neg (by simp)]
 have hl2 : h2.IsList l items := by obtain ⟨o, ho, r⟩ := hl1; exact ⟨o, (hs2.2 l (Nat.ne_of_lt hlt)).trans ho, r⟩
 refine wpAny_bind (wpAny_holding (wpAny_pyNext_list_end hh hi2 hl2 (by simp) fun h3 hx3 => ?_))
 refine wpAny_pure (hQ _ ?_)
 intro b o hb ho
 exact hx3 b o hb ((hs2.2 b hb).trans (Heap.get?_push_of_some _ ho))
theorem yH {s : Shared} {targets : List (Bool × (Value -> Sem Unit))} {Q : Unit -> Shared -> Prop} (hh : A.handled = none) (hl : s.heap.IsList l items) (hn : targets.length = items.size) (hf : targets.findIdx? (·.1) = none)
  (hQ : ∀ h', Heap.ExtBut s.heap.objs.size s.heap h' -> wpAny (model P w) A (assignInOrder (targets.map (·.2)) items.toList) Q E { s with heap := h' }) : wpAny (model P w) A (unpack (.ref l) targets) Q E s := by
 unfold unpack
 rw [hf, hn]
 exact wpAny_bind (wpAny_holding (ki hh hl hQ))
end
section
variable {X : Cx} {pos : Pos}
def YK (K : PySem.W.Frag) (n : Nat) (t : TGs) : TG := fun v σ H Q => ∃ a xs, v = .ref a /\ SqL K H a xs /\ xs.length = n /\ t xs σ H Q
theorem XG {es : List Expr} {k : Nat} {t : TGs} {n : Nat} (hc : X.calm = true) (h : PGs X es t)
  (hn : (assignEach es X.env).length = n := by rfl) (hst : (assignEach es X.env).findIdx? (·.1) = none := by rfl) : PG X (.Tuple es k pos) (YK X.K n t) := by
 intro pins s σ H v u Q I r hw
 obtain ⟨a, xs, e1, hq, hl, hw⟩ := hw
 subst e1
 cases r
 obtain ⟨its, rv, ht, hz⟩ := I.list hq
 rw [PyProof.Rows.assign_Tuple]
 refine wpAny_bind (wpAny_standAt ?_)
 refine yH (I.ok.hd hc) ht.isList (by simp [hn, <- hl, rv.length]) hst fun h' hx => ?_
 have I1 : Inv X pins σ H { s with heap := h' } := I.kept (t' := s.toks) fun b o e => hx b o (Nat.ne_of_lt (Heap.lt_size e)) e
 exact h pins _ σ H xs _ Q I1 (by simpa using rv) hw
theorem Kn {es : List Expr} {k : Nat} {t : TGs} {K : PySem.W.Frag} (n : Nat) (h : X.K = K) (hc : X.calm = true) (hs : PGs X es t) (hn : (assignEach es X.env).length = n := by rfl) (hst : (assignEach es X.env).findIdx? (·.1) = none := by rfl) : PG X (.Tuple es k pos) (YK K n t) := h ▸ XG hc hs hn hst
end
end L2
set_option Elab.async false
set_option linter.all false
set_option maxRecDepth 100000
set_option maxHeartbeats 4000000
namespace L2
open PySem PySem.Spec PyProof.Rows
def rep (o : Nat) (G : List Int) : List Int := (List.range (o * G.length)).map fun (i : Nat) => ((i / G.length * G.length : Nat) : Int) + G.getD (i % G.length) 0
end L2
set_option Elab.async false
set_option linter.all false
set_option maxRecDepth 100000
set_option maxHeartbeats 4000000
namespace L2
open PySem PySem.Spec PyProof.Rows
section
variable {P : Program} {w : World} {A : Around} {E : Value -> Shared -> Prop} {s : Shared} {z TI TO i1 i2 l1 l2 : Addr} {k : Nat} {xs ys : Array Value} {x y a b : Value} {Q : Option Value -> Shared -> Prop}
theorem Zb (D : ZipApart z TI TO i1 i2 l1 l2) (hz : IsZip s.heap z TI TO .none) (hTI : IsPair s.heap TI (.ref i1) (.ref i2)) (hTO : IsPair s.heap TO a b) (h1 : s.heap.IsTupleIter i1 l1 k) (h2 : s.heap.IsTupleIter i2 l2 k) (p1 : s.heap.IsTuple l1 xs) (p2 : s.heap.IsTuple l2 ys) (hx : xs[k]? = some x) (hy : ys[k]? = some y)
  (hQ : ∀ h', IsZip h' z TI TO (rawInt s.heap.objs.size) -> IsPair h' TO x y -> h'.IsTupleIter i1 l1 (k + 1) -> h'.IsTupleIter i2 l2 (k + 1) -> IsPair h' s.heap.objs.size x y -> h'.objs.size = s.heap.objs.size + 1 -> (∀ c o, c ≠ z -> c ≠ TO -> c ≠ i1 -> c ≠ i2 -> s.heap.get? c = some o -> h'.get? c = some o) -> Q (some (.ref s.heap.objs.size)) { s with heap := h' }) :
  wpAny (model P w) A (pyNext (.ref z)) Q E s := by
 have hT : s.TypeIs (.ref z) "zip" := ⟨_, hz, rfl⟩
 unfold pyNext
 refine wpAny_bind (wpAny_attempt (wpAny_callSpecial?_slot (name := Str.ofString "__next__") hT F.slot_zip_next (wpAny_call_entry F.slot_zip_next hT F.entry_zip_next ?_ (F.args_zip_next_1 _))))
 refine wpAny_bind (m := field (.ref z) 2) (wpAny_field hz rfl (x := .bool false) rfl ?_)
 refine wpAny_bind (m := field (.ref z) 3) (wpAny_field hz rfl (x := .ref TI) rfl ?_)
 refine wpAny_bind (m := seqItems? (.ref TI)) (wpAny_seqItems hTI rfl ?_)
 refine wpAny_bind (m := Builtin.SmallTypes.ownedTupleIsFree (.ref z)) ?_
 unfold Builtin.SmallTypes.ownedTupleIsFree
 refine wpAny_bind (wpAny_field hz rfl (x := .none) rfl (wpAny_pure ?_))
 refine wpAny_bind (m := rule "zip.__next__.owned-tuple-again") (wpAny_rule ?_)
 refine wpAny_bind (m := field (.ref z) 4) (wpAny_field hz rfl (x := .ref TO) rfl ?_)
 refine wpAny_bind (m := setField (.ref z) 0 .ellipsis) (wpAny_setField hz rfl (by simp) ?_)
 have sb1 := Heap.SameBut.update s.heap z (Obj.mapFields fun x_1 => x_1.setIfInBounds 0 Value.ellipsis)
 have g1 : (s.heap.update z (Obj.mapFields fun x_1 => x_1.setIfInBounds 0 Value.ellipsis)).get? z = some { cls := Value.type "zip", data := Data.fields #[.ellipsis, Value.bool false, Value.bool false, Value.ref TI, Value.ref TO] } := Heap.get?_update_self _ hz (Obj.isFreed_of_fields (Obj.data_mapFields rfl _))
 generalize s.heap.update z (Obj.mapFields fun x_1 => x_1.setIfInBounds 0 Value.ellipsis) = h1' at *
 refine wpAny_bind ?_
 rw [show (#[Value.ref i1, Value.ref i2].toList.zipIdx : List (Value × Nat)) = [(.ref i1, 0), (.ref i2, 1)] from rfl, List.forIn_cons]
 dsimp only
 have it1 : h1'.IsTupleIter i1 l1 k := by obtain ⟨o, ho, r⟩ := h1; exact ⟨o, (sb1.2 i1 D.i1z).trans ho, r⟩
 have tp1 : h1'.IsTuple l1 xs := by obtain ⟨o, ho, r⟩ := p1; exact ⟨o, (sb1.2 l1 D.l1z).trans ho, r⟩
 refine wpAny_bind (wpAny_bind (wpAny_onRaise ?_))
 show wpAny _ _ (Builtin.SmallTypes.nextOf (.ref i1) >>= fun v => pure (some v)) _ _ _
 refine wpAny_bind (jP it1 tp1 hx fun h2' it2 sb2 => wpAny_pure ?_)
 dsimp only
 have gTO2 : IsPair h2' TO a b := ((sb2.2 TO D.TOi1).trans (sb1.2 TO D.TOz)).trans hTO
 refine wpAny_bind (wpAny_seqItems gTO2 rfl ?_)
 dsimp only
 refine wpAny_bind (wpAny_updateSeq_pair gTO2 fun h3' g3 sb3 => ?_)
 refine wpAny_bind (wpAny_letGo (wpAny_pure ?_))
 dsimp only
 have g3' : IsPair h3' TO x b := g3
 have it3 : h3'.IsTupleIter i2 l2 k := by obtain ⟨o, ho, r⟩ := h2; exact ⟨o, (((sb3.2 i2 (Ne.symm D.TOi2)).trans (sb2.2 i2 (Ne.symm D.i12))).trans (sb1.2 i2 D.i2z)).trans ho, r⟩
 have tp3 : h3'.IsTuple l2 ys := by obtain ⟨o, ho, r⟩ := p2; exact ⟨o, (((sb3.2 l2 D.l2TO).trans (sb2.2 l2 D.l2i1)).trans (sb1.2 l2 D.l2z)).trans ho, r⟩
 rw [List.forIn_cons]
 refine wpAny_bind (wpAny_bind (wpAny_onRaise ?_))
 show wpAny _ _ (Builtin.SmallTypes.nextOf (.ref i2) >>= fun v => pure (some v)) _ _ _
 refine wpAny_bind (jP it3 tp3 hy fun h4' it4 sb4 => wpAny_pure ?_)
 dsimp only
 have gTO4 : IsPair h4' TO x b := (sb4.2 TO D.TOi2).trans g3'
 refine wpAny_bind (wpAny_seqItems gTO4 rfl ?_)
 dsimp only
 refine wpAny_bind (wpAny_updateSeq_pair gTO4 fun h5' g5 sb5 => ?_)
 refine wpAny_bind (wpAny_letGo (wpAny_pure ?_))
 dsimp only
 have g5' : IsPair h5' TO x y := g5
 rw [List.forIn_nil]
 refine wpAny_pure ?_
 dsimp only
 refine wpAny_bind (wpAny_seqItems g5' rfl ?_)
 dsimp only
 have sz5 : h5'.objs.size = s.heap.objs.size := ((((sb5.1).trans sb4.1).trans sb3.1).trans sb2.1).trans sb1.1
 refine wpAny_bind (wpAny_newTuple ?_ (by show 2 <= sizeLine; decide))
 have gz5 : h5'.get? z = some { cls := Value.type "zip", data := Data.fields #[.ellipsis, Value.bool false, Value.bool false, Value.ref TI, Value.ref TO] } := ((((sb5.2 z (Ne.symm D.TOz)).trans (sb4.2 z (Ne.symm D.i2z))).trans (sb3.2 z (Ne.symm D.TOz))).trans (sb2.2 z (Ne.symm D.i1z))).trans g1
 have zlt : z < h5'.objs.size := Heap.lt_size gz5
 have g6 : (h5'.push { cls := Value.type "tuple", data := Data.seq #[x, y] }).get? z = _ := Heap.get?_push_of_some _ gz5
 have n6 : (h5'.push { cls := Value.type "tuple", data := Data.seq #[x, y] }).get? h5'.objs.size = some { cls := Value.type "tuple", data := Data.seq #[x, y] } := Heap.get?_push_size _ rfl
 have ex6 : ∀ c o, h5'.get? c = some o -> (h5'.push { cls := Value.type "tuple", data := Data.seq #[x, y] }).get? c = some o := fun c o e => Heap.get?_push_of_some _ e
 have sz6 : (h5'.push { cls := Value.type "tuple", data := Data.seq #[x, y] }).objs.size = h5'.objs.size + 1 := Heap.size_push ..
 show wpAny _ _ (Builtin.SmallTypes.ownedTupleHandOut (.ref z) (.ref h5'.objs.size) >>= _) _ _ { s with heap := h5'.push { cls := Value.type "tuple", data := Data.seq #[x, y] } }
 generalize h5'.push { cls := Value.type "tuple", data := Data.seq #[x, y] } = h6' at *
 unfold Builtin.SmallTypes.ownedTupleHandOut
 refine wpAny_bind (wpAny_bind (wpAny_setField g6 rfl (by simp) (wpAny_setField (Heap.get?_update_self _ g6 (Obj.isFreed_of_fields (Obj.data_mapFields rfl _))) rfl (by simp) ?_)))
 have sb7 := Heap.SameBut.update h6' z (Obj.mapFields fun x_1 => x_1.setIfInBounds 0 (rawInt h5'.objs.size))
 have g7 : (h6'.update z (Obj.mapFields fun x_1 => x_1.setIfInBounds 0 (rawInt h5'.objs.size))).get? z = some { cls := Value.type "zip", data := Data.fields #[rawInt h5'.objs.size, Value.bool false, Value.bool false, Value.ref TI, Value.ref TO] } := Heap.get?_update_self _ g6 (Obj.isFreed_of_fields (Obj.data_mapFields rfl _))
 dsimp only
 generalize h6'.update z (Obj.mapFields fun x_1 => x_1.setIfInBounds 0 (rawInt h5'.objs.size)) = h7' at *
 have sb8 := Heap.SameBut.update h7' z (Obj.mapFields fun x_1 => x_1.setIfInBounds 1 (Value.bool false))
 have g8 : (h7'.update z (Obj.mapFields fun x_1 => x_1.setIfInBounds 1 (Value.bool false))).get? z = some { cls := Value.type "zip", data := Data.fields #[rawInt h5'.objs.size, Value.bool false, Value.bool false, Value.ref TI, Value.ref TO] } := Heap.get?_update_self _ g7 (Obj.isFreed_of_fields (Obj.data_mapFields rfl _))
 generalize h7'.update z (Obj.mapFields fun x_1 => x_1.setIfInBounds 1 (Value.bool false)) = h8' at *
 have far : ∀ c o, c ≠ z -> h6'.get? c = some o -> h8'.get? c = some o := fun c o hc e => ((sb8.2 c hc).trans (sb7.2 c hc)).trans e
 refine wpAny_pure ⟨_, rfl, wpAny_pure ?_⟩
 rw [sz5] at g8 n6 sz6 zlt ⊢
 refine hQ h8' g8 (far _ _ D.TOz (ex6 _ _ g5')) ?_ ?_ (far _ _ (Nat.ne_of_gt zlt) n6) (by rw [sb8.1, sb7.1, sz6]) fun c o c1 c2 c3 c4 e => ?_
 ·obtain ⟨o, ho, r⟩ := it2
  exact ⟨o, far _ _ D.i1z (ex6 _ _ (((sb5.2 i1 (Ne.symm D.TOi1)).trans (sb4.2 i1 D.i12)).trans ((sb3.2 i1 (Ne.symm D.TOi1)).trans ho))), r⟩
 ·obtain ⟨o, ho, r⟩ := it4
  exact ⟨o, far _ _ D.i2z (ex6 _ _ ((sb5.2 i2 (Ne.symm D.TOi2)).trans ho)), r⟩
 ·exact far _ _ c1 (ex6 _ _ ((sb5.2 c c2).trans ((sb4.2 c c4).trans ((sb3.2 c c2).trans ((sb2.2 c c3).trans ((sb1.2 c c1).trans e))))))
theorem Z0 (hh : A.handled = none) (D : ZipApart z TI TO i1 i2 l1 l2) (hz : IsZip s.heap z TI TO .none) (hTI : IsPair s.heap TI (.ref i1) (.ref i2)) (h1 : s.heap.IsTupleIter i1 l1 k) (p1 : s.heap.IsTuple l1 xs) (hx : xs[k]? = none)
  (hQ : ∀ h', (∀ c o, c ≠ z -> c ≠ TO -> c ≠ i1 -> c ≠ i2 -> s.heap.get? c = some o -> h'.get? c = some o) -> Q none { s with heap := h' }) : wpAny (model P w) A (pyNext (.ref z)) Q E s := by
 have hT : s.TypeIs (.ref z) "zip" := ⟨_, hz, rfl⟩
 unfold pyNext
 refine wpAny_bind (wpAny_attempt (wpAny_callSpecial?_slot (name := Str.ofString "__next__") hT F.slot_zip_next (wpAny_call_entry F.slot_zip_next hT F.entry_zip_next ?_ (F.args_zip_next_1 _))))
 refine wpAny_bind (m := field (.ref z) 2) (wpAny_field hz rfl (x := .bool false) rfl ?_)
 refine wpAny_bind (m := field (.ref z) 3) (wpAny_field hz rfl (x := .ref TI) rfl ?_)
 refine wpAny_bind (m := seqItems? (.ref TI)) (wpAny_seqItems hTI rfl ?_)
 refine wpAny_bind (m := Builtin.SmallTypes.ownedTupleIsFree (.ref z)) ?_
 unfold Builtin.SmallTypes.ownedTupleIsFree
 refine wpAny_bind (wpAny_field hz rfl (x := .none) rfl (wpAny_pure ?_))
 refine wpAny_bind (m := rule "zip.__next__.owned-tuple-again") (wpAny_rule ?_)
 refine wpAny_bind (m := field (.ref z) 4) (wpAny_field hz rfl (x := .ref TO) rfl ?_)
 refine wpAny_bind (m := setField (.ref z) 0 .ellipsis) (wpAny_setField hz rfl (by simp) ?_)
 have sb1 := Heap.SameBut.update s.heap z (Obj.mapFields fun x_1 => x_1.setIfInBounds 0 Value.ellipsis)
 have g1 : (s.heap.update z (Obj.mapFields fun x_1 => x_1.setIfInBounds 0 Value.ellipsis)).get? z = some { cls := Value.type "zip", data := Data.fields #[.ellipsis, Value.bool false, Value.bool false, Value.ref TI, Value.ref TO] } := Heap.get?_update_self _ hz (Obj.isFreed_of_fields (Obj.data_mapFields rfl _))
 generalize s.heap.update z (Obj.mapFields fun x_1 => x_1.setIfInBounds 0 Value.ellipsis) = h1' at *
 refine wpAny_bind ?_
 rw [show (#[Value.ref i1, Value.ref i2].toList.zipIdx : List (Value × Nat)) = [(.ref i1, 0), (.ref i2, 1)] from rfl, List.forIn_cons]
 dsimp only
 have it1 : h1'.IsTupleIter i1 l1 k := by obtain ⟨o, ho, r⟩ := h1; exact ⟨o, (sb1.2 i1 D.i1z).trans ho, r⟩
 have tp1 : h1'.IsTuple l1 xs := by obtain ⟨o, ho, r⟩ := p1; exact ⟨o, (sb1.2 l1 D.l1z).trans ho, r⟩
 refine wpAny_bind (wpAny_bind (wpAny_onRaise ?_))
 show wpAny _ _ (Builtin.SmallTypes.nextOf (.ref i1) >>= fun v => pure (some v)) _ _ _
 refine wpAny_bind (vC (by first | exact hh | (show A.in1.handled = none; exact hh)) it1 tp1 hx fun h2' e ex2 ⟨oe, hoe, hce⟩ => ?_)
 have gz2 : h2'.get? z = some { cls := Value.type "zip", data := Data.fields #[.ellipsis, Value.bool false, Value.bool false, Value.ref TI, Value.ref TO] } := ex2 z _ (Ne.symm D.i1z) g1
 have hez : e ≠ z := by
  intro h
  subst h
  have hoe' : h2'.get? e = some oe := hoe
  rw [gz2] at hoe'
  cases hoe'
  exact absurd (show Value.type "zip" = Value.type "StopIteration" from hce) (by decide)
 refine wpAny_setField gz2 rfl (by simp) ?_
 have sb3 := Heap.SameBut.update h2' z (Obj.mapFields fun x_1 => x_1.setIfInBounds 0 Value.none)
 dsimp only
 generalize h2'.update z (Obj.mapFields fun x_1 => x_1.setIfInBounds 0 Value.none) = h3' at *
 refine wpAny_bind (wpAny_isInstance (T := "StopIteration") (b := true) ⟨oe, (sb3.2 e hez).trans hoe, hce⟩ isSubtype_stop ?_)
 refine wpAny_pure (hQ h3' fun c o c1 c2 c3 c4 ec => ?_)
 exact (sb3.2 c c1).trans (ex2 c o c3 ((sb1.2 c c1).trans ec))
end
open AutoSeq1 (wpAny_loadPart') in
theorem Z3 (l1 l2 : Addr) (xs ys : Array Value) (n1 n2 : Nat) (d1 d2 : Option Addr) (s1 s2 : Array (Option Value)) :
  Meets (Builtin.«zip.__new__» ⟨[.type "zip", .ref l1, .ref l2], []⟩) (fun _ R s => s.heap.get? l1 = some { cls := .type "tuple", dict := d1, data := .seq xs n1, slots := s1 } /\ s.heap.get? l2 = some { cls := .type "tuple", dict := d2, data := .seq ys n2, slots := s2 } /\
   ∀ g1 g2 g3 g4 g5, g1 = s.heap.push { cls := .type "tuple_iterator", data := .fields #[.ref l1, .int 0 0] } -> g2 = g1.push { cls := .type "tuple_iterator", data := .fields #[.ref l2, .int 0 0] } -> g3 = g2.push { cls := .type "tuple", data := .seq #[.ref s.heap.objs.size, .ref g1.objs.size] } -> g4 = g3.push { cls := .type "tuple", data := .seq #[.none, .none] } -> g5 = g4.push { cls := .type "zip", data := .fields #[.none, .bool false, .bool false, .ref g2.objs.size, .ref g3.objs.size] } -> R (.ok (.ret (.ref g4.objs.size))) { s with heap := g5 }) :=
 .of_wp fun prog w A R s h => by
  obtain ⟨hp, g, d, tk, os⟩ := s
  obtain ⟨hl1, hl2, h⟩ := h
  have hT1 : Heap.IsTuple (Shared.heap ⟨hp, g, d, tk, os⟩) l1 xs := ⟨_, hl1, rfl, n1, rfl⟩
  have hT2 : Heap.IsTuple (hp.push { cls := .type "tuple_iterator", data := .fields #[.ref l1, .int 0 0] }) l2 ys := ⟨_, Heap.get?_push_of_some _ hl2, rfl, n2, rfl⟩
  have hsub : isSubtype (Value.type "zip") (Value.type "zip") = pure true := by first | exact sub_zip | rfl
  wp_walk using wpAny_loadPart' hl1, wpAny_pyIter_tuple hT1, wpAny_pyIter_tuple hT2
  exact ⟨_, rfl, h _ _ _ _ _ rfl rfl rfl rfl rfl⟩
theorem Ze {P : Program} {w : World} {A : Around} {E : Value -> Shared -> Prop} {s : Shared} {l1 l2 : Addr} {xs ys : Array Value} {Q : Value -> Shared -> Prop} (hT1 : s.heap.IsTuple l1 xs) (hT2 : s.heap.IsTuple l2 ys)
  (h : ∀ h', IsZip h' (s.heap.objs.size + 4) (s.heap.objs.size + 2) (s.heap.objs.size + 3) .none -> IsPair h' (s.heap.objs.size + 2) (.ref s.heap.objs.size) (.ref (s.heap.objs.size + 1)) -> IsPair h' (s.heap.objs.size + 3) .none .none -> h'.IsTupleIter s.heap.objs.size l1 0 -> h'.IsTupleIter (s.heap.objs.size + 1) l2 0 -> (∀ b o, s.heap.get? b = some o -> h'.get? b = some o) -> Q (.ref (s.heap.objs.size + 4)) { s with heap := h' }) :
  wpAny (model P w) A (call (.type "zip") [.ref l1, .ref l2]) Q E s := by
 obtain ⟨⟨c1, d1, dt1, sl1⟩, hl1, hc1, n1, hd1⟩ := hT1
 replace hc1 : c1 = .type "tuple" := hc1
 replace hd1 : dt1 = .seq xs n1 := hd1
 subst hc1 hd1
 obtain ⟨⟨c2, d2, dt2, sl2⟩, hl2, hc2, n2, hd2⟩ := hT2
 replace hc2 : c2 = .type "tuple" := hc2
 replace hd2 : dt2 = .seq ys n2 := hd2
 subst hc2 hd2
 refine callType_new F.called_zip (by decide) (F.typeCall_zip_2 _ _) (F.newCall_zip_2 _ _) (fun obj => F.args_object_init_3 obj _ _) F.entry_zip_new (Z3 l1 l2 xs ys n1 n2 d1 d2 sl1 sl2) ⟨hl1, hl2, ?_⟩
 intro g1 g2 g3 g4 g5 e1 e2 e3 e4 e5
 have z1 : g1.objs.size = s.heap.objs.size + 1 := by rw [e1, Heap.size_push]
 have z2 : g2.objs.size = s.heap.objs.size + 2 := by rw [e2, Heap.size_push, z1]
 have z3 : g3.objs.size = s.heap.objs.size + 3 := by rw [e3, Heap.size_push, z2]
 have z4 : g4.objs.size = s.heap.objs.size + 4 := by rw [e4, Heap.size_push, z3]
 have k1 : ∀ b o, s.heap.get? b = some o -> g1.get? b = some o := fun b o x => by rw [e1]; exact Heap.get?_push_of_some _ x
 have k2 : ∀ b o, g1.get? b = some o -> g2.get? b = some o := fun b o x => by rw [e2]; exact Heap.get?_push_of_some _ x
 have k3 : ∀ b o, g2.get? b = some o -> g3.get? b = some o := fun b o x => by rw [e3]; exact Heap.get?_push_of_some _ x
 have k4 : ∀ b o, g3.get? b = some o -> g4.get? b = some o := fun b o x => by rw [e4]; exact Heap.get?_push_of_some _ x
 have k5 : ∀ b o, g4.get? b = some o -> g5.get? b = some o := fun b o x => by rw [e5]; exact Heap.get?_push_of_some _ x
 have p1 : g1.get? s.heap.objs.size = some { cls := .type "tuple_iterator", data := .fields #[.ref l1, .int 0 0] } := by rw [e1]; exact Heap.get?_push_size _ rfl
 have p2 : g2.get? (s.heap.objs.size + 1) = some { cls := .type "tuple_iterator", data := .fields #[.ref l2, .int 0 0] } := by
  have := Heap.get?_push_size g1 (o := { cls := .type "tuple_iterator", data := .fields #[.ref l2, .int 0 0] }) rfl
  rw [z1] at this; rw [e2]; exact this
 have p3 : g3.get? (s.heap.objs.size + 2) = some { cls := .type "tuple", data := .seq #[.ref s.heap.objs.size, .ref (s.heap.objs.size + 1)] } := by
  have := Heap.get?_push_size g2 (o := { cls := .type "tuple", data := .seq #[.ref s.heap.objs.size, .ref g1.objs.size] }) rfl
  rw [z2] at this; rw [e3, this, z1]
 have p4 : g4.get? (s.heap.objs.size + 3) = some { cls := .type "tuple", data := .seq #[.none, .none] } := by
  have := Heap.get?_push_size g3 (o := { cls := .type "tuple", data := .seq #[.none, .none] }) rfl
  rw [z3] at this; rw [e4, this]
 have p5 : g5.get? (s.heap.objs.size + 4) = some { cls := .type "zip", data := .fields #[.none, .bool false, .bool false, .ref (s.heap.objs.size + 2), .ref (s.heap.objs.size + 3)] } := by
  have := Heap.get?_push_size g4 (o := { cls := .type "zip", data := .fields #[.none, .bool false, .bool false, .ref g2.objs.size, .ref g3.objs.size] }) rfl
  rw [z4] at this; rw [e5, this, z2, z3]
 show _ /\ _
 rw [z4]
 exact ⟨⟨_, p5, rfl⟩, h _ p5 (k5 _ _ (k4 _ _ p3)) (k5 _ _ p4) ⟨_, k5 _ _ (k4 _ _ (k3 _ _ (k2 _ _ p1))), rfl, rfl⟩ ⟨_, k5 _ _ (k4 _ _ (k3 _ _ p2)), rfl, rfl⟩ fun b o x => k5 _ _ (k4 _ _ (k3 _ _ (k2 _ _ (k1 _ _ x))))⟩
def YL (K : PySem.W.Frag) (a b : Addr) : It :=
 ⟨fun i H => ∃ xs ys x y, SqT K H a xs /\ SqT K H b ys /\ xs[i]? = some x /\ ys[i]? = some y, fun i H z H' => ∃ p x y, H p = none /\ z = .ref p /\ (∀ xs, SqT K H a xs -> xs[i]? = some x) /\ (∀ ys, SqT K H b ys -> ys[i]? = some y) /\ H' = upd H p (.tup [x, y]),
  fun i H => ∃ xs, SqT K H a xs /\ xs.length <= i⟩
theorem Zr {P : Program} {w : World} {K : PySem.W.Frag} {es : List Expr} {kt : Nat} {tp : Pos} (l1 l2 z TI TO i1 i2 : Addr) (D : ZipApart z TI TO i1 i2 l1 l2) :
  yO P w K (.Tuple es kt tp) (YL K l1 l2) [z, TI, TO, i1, i2] z (fun i h => IsZip h z TI TO .none /\ IsPair h TI (.ref i1) (.ref i2) /\ (∃ a b, IsPair h TO a b) /\ h.IsTupleIter i1 l1 i /\ h.IsTupleIter i2 l2 i) where
 mem := by simp
 obj := fun i h st b hb => by
  obtain ⟨hz, hTI, ⟨a, c, hTO⟩, ⟨o1, e1, c1, d1⟩, ⟨o2, e2, c2, d2⟩⟩ := st
  simp only [List.mem_cons, List.not_mem_nil, or_false] at hb
  rcases hb with rfl | rfl | rfl | rfl | rfl
  ·exact ⟨_, hz, fun v q => by have q' : Data.fields _ = Data.cell v := q; cases q'⟩
  ·exact ⟨_, hTI, fun v q => by have q' : Data.seq _ _ = Data.cell v := q; cases q'⟩
  ·exact ⟨_, hTO, fun v q => by have q' : Data.seq _ _ = Data.cell v := q; cases q'⟩
  ·exact ⟨o1, e1, fun v q => by rw [d1] at q; cases q⟩
  ·exact ⟨o2, e2, fun v q => by rw [d2] at q; cases q⟩
 keep := fun i h h' st k => by
  obtain ⟨hz, hTI, ⟨a, c, hTO⟩, h1, h2⟩ := st
  exact ⟨k _ (by simp) _ hz, k _ (by simp) _ hTI, ⟨a, c, k _ (by simp) _ hTO⟩, h1.at fun o e => k _ (by simp) o e, h2.at fun o e => k _ (by simp) o e⟩
 item := by
  intro X hP hw hK hc i pins s σ H E I hf st hg
  subst hP hw hK
  obtain ⟨hz, hTI, ⟨a, c, hTO⟩, h1, h2⟩ := st
  obtain ⟨xs, ys, x, y, hq1, hq2, hx, hy⟩ := hg
  obtain ⟨its1, rv1, p1, hz1⟩ := I.tuple hq1
  obtain ⟨its2, rv2, p2, hz2⟩ := I.tuple hq2
  obtain ⟨u, hu, ru⟩ := rv1.get hx
  obtain ⟨v, hv, rvv⟩ := rv2.get hy
  refine Zb D hz hTI hTO h1 h2 p1 p2 (x := u) (y := v) (by simpa using hu) (by simpa using hv) fun g1 b1 b2 b3 b4 b5 b6 hk => ?_
  refine ⟨.ref s.heap.objs.size, rfl, wpAny_letOwnedTupleGo_zip b1 fun g2 hz2' hs2 => ?_⟩
  replace hs2 : Heap.SameBut z g1 g2 := hs2
  have zlt : z < s.heap.objs.size := Heap.lt_size hz
  have I2 : Inv X pins σ (upd H s.heap.objs.size (.tup [x, y])) { s with heap := g2, toks := s.toks } := by
   refine I.yieldTup (us := [u, v]) hf (fun b o hb e => ?_) (Nat.le_refl _) ((hs2.2 _ (Nat.ne_of_gt zlt)).trans b5) (.cons ru (.cons rvv .nil)) (by show 2 <= sizeLine; decide)
   simp only [List.mem_cons, List.not_mem_nil, or_false, not_or] at hb
   exact (hs2.2 b hb.1).trans (hk b o hb.1 hb.2.2.1 hb.2.2.2.1 hb.2.2.2.2 e)
  refine ⟨.ref s.heap.objs.size, _, I2, rfl, ⟨s.heap.objs.size, x, y, I.hok.fresh (Nat.le_refl _), rfl, fun xs' h' => by rw [I.tuple_inj h' hq1]; exact hx, fun ys' h' => by rw [I.tuple_inj h' hq2]; exact hy, rfl⟩,
   ⟨hz2', (hs2.2 _ D.TIz).trans (hk _ _ D.TIz D.TITO D.TIi1 D.TIi2 hTI), ⟨_, _, (hs2.2 _ D.TOz).trans b2⟩, b3.extBut hs2.extBut D.i1z, b4.extBut hs2.extBut D.i2z⟩, fun b hb => ?_⟩
  have hlt : b < s.heap.objs.size := by
   simp only [List.mem_cons, List.not_mem_nil, or_false] at hb
   rcases hb with rfl | rfl | rfl | rfl | rfl
   ·exact zlt
   ·exact Heap.lt_size hTI
   ·exact Heap.lt_size hTO
   ·obtain ⟨o, e, _⟩ := h1; exact Heap.lt_size e
   ·obtain ⟨o, e, _⟩ := h2; exact Heap.lt_size e
  rw [zf (Nat.ne_of_lt hlt)]
  exact (hf b hb).1
 done := by
  intro X hP hw hK hc i pins s σ H E I hf st hg
  subst hP hw hK
  obtain ⟨hz, hTI, ⟨a, c, hTO⟩, h1, h2⟩ := st
  obtain ⟨xs, hq1, hend⟩ := hg
  obtain ⟨its1, rv1, p1, hz1⟩ := I.tuple hq1
  have l1 := rv1.length
  refine Z0 (I.ok.hd hc) D hz hTI h1 p1 (by simp; omega) fun h' hk => ⟨rfl, I.turnedL (tk := s.toks) hf fun b o hb e => ?_⟩
  simp only [List.mem_cons, List.not_mem_nil, or_false, not_or] at hb
  exact hk b o hb.1 hb.2.2.1 hb.2.2.2.1 hb.2.2.2.2 e
 self := fun _ _ _ _ _ st h => wpAny_pyIter_zip st.1 h
section
variable {X : Cx} {es : List Expr} {kt : Nat} {tp : Pos}
def v0 (K : PySem.W.Frag) (ta : TA) : TI := fun σ H R => ta σ H fun vs H1 => ∃ a b, vs = [.ref a, .ref b] /\ (((∃ xs, SqL K H1 a xs) /\ (∃ ys, SqL K H1 b ys) /\ R (Itz K a b) H1) \/ ((∃ xs, SqT K H1 a xs) /\ (∃ ys, SqT K H1 b ys) /\ R (YL K a b) H1))
theorem JV {e1 e2 : Expr} {ta : TA} {p pos : Pos} (hg : Gl X "zip") (hm : X.mg "zip" = none) (ha : PA X [e1, e2] ta) (hs : starEach [e1, e2] X.env = [(false, eval e1 X.env), (false, eval e2 X.env)] := by rfl) (hs2 : starEach [e2] X.env = [(false, eval e2 X.env)] := by rfl) :
  PI X (.Tuple es kt tp) (.Call (.Name "zip" p) [e1, e2] [] pos) (v0 X.K ta) := by
 intro pins s σ H R I h
 refine Call_ (ke I hg hm ZJ (PyProof.Rows.callWith_type1 (thn (ha pos pins s σ H _ I h) fun us s1 ⟨vs, H1, I1, r1, q1⟩ => ?_) (by rw [hs, hs2]) (by rw [hs2]; rfl)))
 obtain ⟨a, b, e, q1⟩ := q1
 subst e
 obtain ⟨u, v, rfl, ru, rv⟩ := y6 r1
 cases ru
 cases rv
 rcases q1 with ⟨⟨xs, hq1⟩, ⟨ys, hq2⟩, q⟩ | ⟨⟨xs, hq1⟩, ⟨ys, hq2⟩, q⟩
 ·obtain ⟨its1, rv1, p1, hz1⟩ := I1.list hq1
  obtain ⟨its2, rv2, p2, hz2⟩ := I1.list hq2
  have la : a < s1.heap.objs.size := by obtain ⟨o, e, _⟩ := p1.isList; exact Heap.lt_size e
  have lb : b < s1.heap.objs.size := by obtain ⟨o, e, _⟩ := p2.isList; exact Heap.lt_size e
  refine call_zip_2 p1.isList p2.isList fun h' b1 b2 b3 b4 b5 hsz hk => wpAny_pyIter_zip b1 ?_
  have I2 : Inv X pins σ H1 { s1 with heap := h' } := I1.kept (t' := s1.toks) hk
  refine ⟨s1.heap.objs.size + 4, [s1.heap.objs.size + 4, s1.heap.objs.size + 2, s1.heap.objs.size + 3, s1.heap.objs.size, s1.heap.objs.size + 1], _, _, H1, rfl, I2, Q0 a b _ _ _ _ _ (zipApart_new la lb), ⟨b1, b2, ⟨_, _, b3⟩, b4, b5⟩, fun c hb => ?_, q⟩
  have hb' : s1.heap.objs.size <= c := by
   simp only [List.mem_cons, List.not_mem_nil, or_false] at hb
   rcases hb with rfl | rfl | rfl | rfl | rfl <;> first | exact Nat.le_refl _ | exact Nat.le_add_right _ _
  exact I1.fpOk hb' (I1.hok.fresh hb')
 ·obtain ⟨its1, rv1, p1, hz1⟩ := I1.tuple hq1
  obtain ⟨its2, rv2, p2, hz2⟩ := I1.tuple hq2
  have la : a < s1.heap.objs.size := by obtain ⟨o, e, _⟩ := p1; exact Heap.lt_size e
  have lb : b < s1.heap.objs.size := by obtain ⟨o, e, _⟩ := p2; exact Heap.lt_size e
  refine Ze p1 p2 fun h' b1 b2 b3 b4 b5 hk => wpAny_pyIter_zip b1 ?_
  have I2 : Inv X pins σ H1 { s1 with heap := h' } := I1.kept (t' := s1.toks) hk
  refine ⟨s1.heap.objs.size + 4, [s1.heap.objs.size + 4, s1.heap.objs.size + 2, s1.heap.objs.size + 3, s1.heap.objs.size, s1.heap.objs.size + 1], _, _, H1, rfl, I2, Zr a b _ _ _ _ _ (zipApart_new la lb), ⟨b1, b2, ⟨_, _, b3⟩, b4, b5⟩, fun c hb => ?_, q⟩
  have hb' : s1.heap.objs.size <= c := by
   simp only [List.mem_cons, List.not_mem_nil, or_false] at hb
   rcases hb with rfl | rfl | rfl | rfl | rfl <;> first | exact Nat.le_refl _ | exact Nat.le_add_right _ _
  exact I1.fpOk hb' (I1.hok.fresh hb')
end
end L2
set_option Elab.async false
set_option linter.all false
set_option maxRecDepth 100000
set_option maxHeartbeats 4000000
namespace L2
open PySem PySem.Spec PyProof.Rows
section
variable {X : Cx} {e st : Expr} {te : TE} {lo hi : Option Expr} {tl th ts : TO} {p2 pos : Pos}
end
end L2
set_option Elab.async false
set_option linter.all false
set_option maxRecDepth 100000
set_option maxHeartbeats 4000000
namespace L2
open PySem PySem.Spec PyProof.Rows
end L2
set_option Elab.async false
set_option linter.all false
set_option maxRecDepth 100000
set_option maxHeartbeats 4000000
namespace L2
open PySem PySem.Spec PyProof.Rows
end L2
set_option Elab.async false
set_option linter.all false
set_option maxRecDepth 100000
set_option maxHeartbeats 4000000
namespace L2
open PySem PySem.Spec PyProof.Rows
def zU (n b e : Nat) : List Int := qx 0 1 b ++ qx ((e : Int) - 1) (-1) (e - b) ++ qx (e : Int) 1 (n - e)
theorem kc {n b e : Nat} (h1 : b <= e) (h2 : e <= n) : (zU n b e).length = n := by
 unfold zU
 rw [List.length_append, List.length_append, zV, zV, zV]; omega
end L2
set_option Elab.async false
set_option linter.all false
set_option maxRecDepth 100000
set_option maxHeartbeats 4000000
namespace L2
open PySem PySem.Spec PyProof.Rows
section
variable {X : Cx}
variable {o e : Expr} {es : List Expr} {to : TE} {t : TA} {name : Str} {apos cpos : Pos} {T id : String} {r : V -> List V -> Hp -> VK -> Prop} {K : PySem.W.Frag}
end
end L2
set_option Elab.async false
set_option linter.all false
set_option maxRecDepth 100000
set_option maxHeartbeats 4000000
namespace L2
open PySem PySem.Spec PyProof.Rows
section
variable {X : Cx} {tg : Expr}
end
inductive Dd where
 | take (p : Nat) | move (p g : Nat) | lay (g : Nat)
abbrev RS := List (Option Int) × Option Int × List Int
def inc (mv : List Int) (x : Int) : List Int := mv.set x.toNat (mv.getD x.toNat 0 + 1)
inductive Do : Dd -> RS -> RS -> Prop
 | take {p : Nat} {row : List (Option Int)} {mv : List Int} {x : Int} : row[p]? = some (some x) -> Do (.take p) (row, none, mv) (row.set p none, some x, inc mv x)
 | move {p g : Nat} {row : List (Option Int)} {h : Option Int} {mv : List Int} {x : Int} : row[p]? = some (some x) -> row[g]? = some none -> Do (.move p g) (row, h, mv) ((row.set p none).set g (some x), h, inc mv x)
 | lay {g : Nat} {row : List (Option Int)} {mv : List Int} {x : Int} : row[g]? = some none -> Do (.lay g) (row, some x, mv) (row.set g (some x), none, inc mv x)
inductive Dos : List Dd -> RS -> RS -> Prop
 | nil {s : RS} : Dos [] s s
 | cons {d : Dd} {l : List Dd} {s t u : RS} : Do d s t -> Dos l t u -> Dos (d :: l) s u
end L2
set_option Elab.async false
set_option linter.all false
set_option maxRecDepth 100000
set_option maxHeartbeats 4000000
namespace L2
open PySem PySem.Spec PyProof.Rows
section
variable {X : Cx} {K : PySem.W.Frag}
end
end L2
set_option Elab.async false
set_option linter.all false
set_option maxRecDepth 100000
set_option maxHeartbeats 4000000
namespace L2
open PySem PySem.Spec PyProof.Rows
section
variable {X : Cx}
end
end L2
set_option Elab.async false
set_option linter.all false
set_option maxRecDepth 100000
set_option maxHeartbeats 4000000
namespace L2
open PySem PySem.Spec PyProof.Rows
section
variable {X : Cx}
end
section
variable {X : Cx} {e st : Expr} {te : TE} {ts : TO} {p2 pos : Pos}
end
end L2
set_option Elab.async false
set_option linter.all false
set_option maxRecDepth 100000
set_option maxHeartbeats 4000000
namespace L2
open PySem PySem.Spec PyProof.Rows
section
variable {X : Cx}
end
end L2
set_option Elab.async false
set_option linter.all false
set_option maxRecDepth 100000
set_option maxHeartbeats 4000000
namespace L2
open PySem PySem.Spec PyProof.Rows
def AtM (K : PySem.W.Frag) (C : Addr) (m qual : Str) (st : Stmt) : Prop := ∃ f fd, Fun K m qual st f fd /\ Ww K C m f
section
variable {X : Cx} {k : Nat} {C : Addr} {m x : Str} {ps : List Str} {sp : Sp} {p pos apos : Pos} {o e : Expr} {es : List Expr} {t : TA} {to : TE}
end
structure KD (K : PySem.W.Frag) (w : World) (a : Addr) (kvs : List (Key × V)) : Prop where
 ex : ∃ es ep, K.lookup a = some ⟨.type "dict", none, .dict es ep, #[]⟩ /\ ∀ P : Program, PySem.KeysOf (zO P w) es /\ ∃ vs, KV kvs vs /\ Pairs (zO P w) es.toList vs /\ (vs.map (·.1)).Nodup
 ns : (a == sysModules) = false
section
variable {X : Cx} {e : Expr} {ty : TE} {p apos cpos : Pos} {x : Str} {a : Addr} {kvs : List (Key × V)}
end
end L2
set_option Elab.async false
set_option linter.all false
set_option maxRecDepth 100000
set_option maxHeartbeats 4000000
namespace L2
open PySem PySem.Spec PyProof.Rows
section
variable {X : Cx}
end
theorem Wv {K : PySem.W.Frag} {C f : Addr} {m qual : Str} {st : Stmt} {oc kV dc pm cd ct : Value} {od an : Option Addr} {sl : Array (Option Value)} (a1 : PySem.W.findIn K (.ref C) m = some (some (.ref f))) (i1 : PySem.W.isFn K (.ref f) = true)
  (l1 : K.lookup f = some ⟨oc, od, .func (PySem.W.fnOf m qual (qJ st) (qj st) (zg st) .none kV dc pm an cd ct), sl⟩) (c1 : PySem.W.codeIn K cd qual = true) (k1 : PySem.W.keepIn K (.ref f) = true) : AtM K C m qual st := ⟨f, _, Jl l1 c1 k1, ⟨a1, i1, k1⟩⟩
end L2
set_option Elab.async false
set_option linter.all false
set_option maxRecDepth 100000
set_option maxHeartbeats 4000000
namespace L2
open PySem PySem.Spec PyProof.Rows
section
variable {X : Cx}
end
end L2
set_option Elab.async false
set_option linter.all false
set_option maxRecDepth 100000
set_option maxHeartbeats 4000000
namespace L2
open PySem PySem.Spec PyProof.Rows
structure ScG (X : Cx) (ts : List Nat) (scope : Scope) : Prop where
 kind : scope.kind = .function
 cell : ∀ y ∈ scope.names, y.2 = .cell -> scope.names.lookup y.1 = some .cell
 loc : ∀ y ∈ scope.names, y.2 = .local -> scope.names.lookup y.1 = some .local
 free : ∀ y ∈ scope.names, y.2 = .free -> X.env.kindOf y.1 = some .cell \/ X.env.kindOf y.1 = some .free
 ts : ∀ (i : Nat) x, X.N[i]? = some x -> scope.names.lookup x = some .local \/ scope.names.lookup x = some .cell -> i ∈ ts
section
variable {X : Cx} {ts : List Nat} {scope : Scope} {pins : List (Addr × Obj)} {σ : St} {H : Hp} {s : Shared} {fp : List Addr}
end
section
variable {X : Cx} {ts : List Nat} {scope : Scope} {tg iter elt : Expr} {ifs : List Expr} {wi : TI} {g : TG} {tt : TT} {te : TE} {pos : Pos}
end
end L2
set_option Elab.async false
set_option linter.all false
set_option maxRecDepth 100000
set_option maxHeartbeats 4000000
namespace L2
open PySem PySem.Spec PyProof.Rows
section
variable {X : Cx}
end
end L2
set_option Elab.async false
set_option linter.all false
set_option maxRecDepth 100000
set_option maxHeartbeats 4000000
namespace L2
open PySem PySem.Spec PyProof.Rows
inductive Dat where
 | non | bl (b : Bool) | int (i : Int) | str (x : Str) | ty (n : String) | lst (l : List Dat) | tup (l : List Dat) | rng (lo hi c : Int) | scr (K : PySem.W.Frag) (l : List Int)
inductive AV where
 | d (x : Dat) | ref (a : Addr)
inductive MO where
 | lst (l : List AV) | dK (kvs : List (Key × AV)) | ins (C : Addr) (fs : List (Str × AV))
abbrev MH := Addr -> Option MO
abbrev ASt := List (Option AV)
def mup (M : MH) (a : Addr) (o : MO) : MH := fun b => if b = a then some o else M b
theorem zi {M : MH} {a : Addr} {o : MO} : mup M a o a = some o := if_pos rfl
theorem zC {M : MH} {a b : Addr} {o : MO} (h : b ≠ a) : mup M a o b = M b := if_neg h
theorem J8 {M : MH} {a : Addr} {o u : MO} : mup (mup M a o) a u = mup M a u := by
 funext b; unfold mup; split <;> rfl
abbrev Own := Addr -> Prop
inductive Rep (H : Hp) (O : Own) : V -> Dat -> Prop
 | non : Rep H O .non .non
 | bl {b : Bool} : Rep H O (.bl b) (.bl b)
 | int {i : Int} : Rep H O (.int i) (.int i)
 | str {x : Str} : Rep H O (.str x) (.str x)
 | ty {n : String} : Rep H O (.ty n) (.ty n)
 | lst {a : Addr} {xs : List V} {l : List Dat} : ¬ O a -> H a = some (.lst xs) -> xs.length = l.length -> (∀ (i : Nat) x d, xs[i]? = some x -> l[i]? = some d -> Rep H O x d) -> Rep H O (.ref a) (.lst l)
 | tup {a : Addr} {xs : List V} {l : List Dat} : ¬ O a -> H a = some (.tup xs) -> xs.length = l.length -> (∀ (i : Nat) x d, xs[i]? = some x -> l[i]? = some d -> Rep H O x d) -> Rep H O (.ref a) (.tup l)
 | rng {a : Addr} {lo hi c : Int} : ¬ O a -> H a = some (yE a lo hi c) -> Rep H O (.ref a) (.rng lo hi c)
 | scr {a : Addr} {K : PySem.W.Frag} {l : List Int} : ¬ O a -> Rd H a (.lst (l.map V.int)) -> Rep H O (.ref a) (.scr K l)
 | scrK {a : Addr} {K : PySem.W.Frag} {l : List Int} : SqL K (fun _ => none) a (l.map V.int) -> Rep H O (.ref a) (.scr K l)
def vQ (H : Hp) (O : Own) (xs : List V) (l : List Dat) : Prop := xs.length = l.length /\ ∀ (i : Nat) x d, xs[i]? = some x -> l[i]? = some d -> Rep H O x d
def zl (H : Hp) (O : Own) (M : MH) (v : V) : AV -> Prop
 | .d x => Rep H O v x
 | .ref a => v = .ref a /\ M a ≠ none
def ze (H : Hp) (O : Own) (M : MH) (xs : List V) (l : List AV) : Prop := xs.length = l.length /\ ∀ (i : Nat) x d, xs[i]? = some x -> l[i]? = some d -> zl H O M x d
def yS {κ : Type} (H : Hp) (O : Own) (M : MH) (xs : List (κ × V)) (l : List (κ × AV)) : Prop := xs.map (·.1) = l.map (·.1) /\ ze H O M (xs.map (·.2)) (l.map (·.2))
def qv (H : Hp) (O : Own) (M : MH) (a : Addr) : MO -> Prop
 | .lst l => ∃ xs, H a = some (.lst xs) /\ ze H O M xs l
 | .dK kvs => ∃ xs, H a = some (.dK xs) /\ yS H O M xs kvs
 | .ins C fs => ∃ dx xs, H a = some (.ins C dx xs) /\ yS H O M xs fs /\ O dx /\ M dx = none /\ H dx = some (.own a)
structure Wf (H : Hp) (O : Own) (M : MH) : Prop where
 mo : ∀ a o, M a = some o -> qv H O M a o
 own : ∀ a, M a ≠ none -> O a
 al : ∀ a, O a -> ∃ o, H a = some o /\ ∀ xs, o ≠ .tup xs
theorem Wf.ne {H : Hp} {O : Own} {M : MH} (w : Wf H O M) (a : Addr) (h : O a) : H a ≠ none := by obtain ⟨o, e, _⟩ := w.al a h; rw [e]; exact fun z => nomatch z
structure Ext (H : Hp) (O : Own) (M : MH) (H' : Hp) (O' : Own) (M' : MH) : Prop where
 fix : ∀ a o, ¬ O a -> H a = some o -> H' a = some o /\ ¬ O' a
 prv : ∀ a, O a -> M a = none -> H' a = H a /\ O' a /\ M' a = none
 mst : ∀ a, M a ≠ none -> M' a ≠ none
theorem Ext.refl {H : Hp} {O : Own} {M : MH} : Ext H O M H O M := ⟨fun _ _ h e => ⟨e, h⟩, fun _ h e => ⟨rfl, h, e⟩, fun _ h => h⟩
theorem Ext.trans {H H1 H2 : Hp} {O O1 O2 : Own} {M M1 M2 : MH} (a : Ext H O M H1 O1 M1) (b : Ext H1 O1 M1 H2 O2 M2) : Ext H O M H2 O2 M2 :=
 ⟨fun x o h e => let ⟨e1, h1⟩ := a.fix x o h e; b.fix x o h1 e1, fun x h e => by
  obtain ⟨e1, h1, n1⟩ := a.prv x h e
  obtain ⟨e2, h2, n2⟩ := b.prv x h1 n1
  exact ⟨e2.trans e1, h2, n2⟩, fun x h => b.mst x (a.mst x h)⟩
theorem Rep.imp {H H' : Hp} {O O' : Own} (k : ∀ a o, ¬ O a -> H a = some o -> H' a = some o /\ ¬ O' a) {v : V} {d : Dat} (r : Rep H O v d) : Rep H' O' v d := by
 induction r with
 | non => exact .non
 | bl => exact .bl
 | int => exact .int
 | str => exact .str
 | ty => exact .ty
 | lst h e l _ ih => exact .lst (k _ _ h e).2 (k _ _ h e).1 l ih
 | tup h e l _ ih => exact .tup (k _ _ h e).2 (k _ _ h e).1 l ih
 | rng h e => exact .rng (k _ _ h e).2 (k _ _ h e).1
 | scr h e =>
  rcases e with e | ⟨o, e⟩
  ·exact .scr (k _ _ h e).2 (.inl (k _ _ h e).1)
  ·exact .scr (k _ _ h e).2 (.inr ⟨o, (k _ _ h e).1⟩)
 | scrK h => exact .scrK h
theorem Kv {H : Hp} {O : Own} {K : PySem.W.Frag} {v : V} {l : List Int} (r : Rep H O v (.scr K l)) : ∃ a, v = .ref a /\ SqL K H a (l.map V.int) := by
 cases r with
 | @scr a _ _ _ h => exact ⟨a, rfl, .inl h⟩
 | @scrK a _ _ h =>
  rcases h with (h | ⟨o, h⟩) | h
  ·cases h
  ·cases h
  ·exact ⟨a, rfl, .inr h⟩
theorem KI {H : Hp} {O : Own} {K : PySem.W.Frag} {a : Addr} {l : List Int} (ho : ∀ a, ¬ O a) (h : SqL K H a (l.map V.int)) : Rep H O (.ref a) (.scr K l) := by
 rcases h with h | h
 ·exact .scr (ho a) h
 ·exact .scrK (.inr h)
theorem Rep.ext {H H' : Hp} {O O' : Own} {M M' : MH} (k : Ext H O M H' O' M') {v : V} {d : Dat} (r : Rep H O v d) : Rep H' O' v d := r.imp k.fix
theorem zl.ext {H H' : Hp} {O O' : Own} {M M' : MH} (k : Ext H O M H' O' M') {v : V} {x : AV} (r : zl H O M v x) : zl H' O' M' v x := by
 cases x with
 | d x => exact Rep.ext k r
 | ref a => exact ⟨r.1, k.mst a r.2⟩
theorem ze.ext {H H' : Hp} {O O' : Own} {M M' : MH} (k : Ext H O M H' O' M') {xs : List V} {l : List AV} (r : ze H O M xs l) : ze H' O' M' xs l := ⟨r.1, fun i x d e1 e2 => (r.2 i x d e1 e2).ext k⟩
theorem yS.ext {κ : Type} {H H' : Hp} {O O' : Own} {M M' : MH} (k : Ext H O M H' O' M') {xs : List (κ × V)} {l : List (κ × AV)} (r : yS H O M xs l) : yS H' O' M' xs l := ⟨r.1, r.2.ext k⟩
theorem ze.nil {H : Hp} {O : Own} {M : MH} : ze H O M [] [] := ⟨rfl, fun i x d e => by simp at e⟩
theorem ze.cons {H : Hp} {O : Own} {M : MH} {x : V} {d : AV} {xs : List V} {l : List AV} (h : zl H O M x d) (r : ze H O M xs l) : ze H O M (x :: xs) (d :: l) :=
 ⟨by simp [r.1], fun i y e h1 h2 => by
  cases i with
  | zero => simp at h1 h2; subst h1 h2; exact h
  | succ i => simp at h1 h2; exact r.2 i y e h1 h2⟩
theorem ze.head {H : Hp} {O : Own} {M : MH} {x : V} {d : AV} {xs : List V} {l : List AV} (r : ze H O M (x :: xs) (d :: l)) : zl H O M x d /\ ze H O M xs l :=
 ⟨r.2 0 x d rfl rfl, by have := r.1; simpa using this, fun i y e h1 h2 => r.2 (i + 1) y e (by simpa using h1) (by simpa using h2)⟩
theorem ze.nil_inv {H : Hp} {O : Own} {M : MH} {xs : List V} (r : ze H O M xs []) : xs = [] := List.length_eq_zero_iff.mp r.1
theorem ze.cons_inv {H : Hp} {O : Own} {M : MH} {xs : List V} {d : AV} {l : List AV} (r : ze H O M xs (d :: l)) : ∃ x r', xs = x :: r' /\ zl H O M x d /\ ze H O M r' l := by
 cases xs with
 | nil => have := r.1; simp at this
 | cons x r' => exact ⟨x, r', rfl, r.head⟩
theorem ze.append {H : Hp} {O : Own} {M : MH} {xs ys : List V} {l m : List AV} (a : ze H O M xs l) (b : ze H O M ys m) : ze H O M (xs ++ ys) (l ++ m) :=
 ⟨by rw [List.length_append, List.length_append, a.1, b.1], fun i x d h1 h2 => by
  by_cases c : i < xs.length
  ·rw [List.getElem?_append_left c] at h1
   rw [List.getElem?_append_left (by rw [<- a.1]; exact c)] at h2
   exact a.2 i x d h1 h2
  ·rw [List.getElem?_append_right (by omega)] at h1
   rw [List.getElem?_append_right (by rw [<- a.1]; omega), <- a.1] at h2
   exact b.2 _ x d h1 h2⟩
theorem ze.snoc {H : Hp} {O : Own} {M : MH} {xs : List V} {l : List AV} {x : V} {d : AV} (a : ze H O M xs l) (b : zl H O M x d) : ze H O M (xs ++ [x]) (l ++ [d]) := a.append (.cons b .nil)
theorem ze.set {H : Hp} {O : Own} {M : MH} {xs : List V} {l : List AV} {x : V} {d : AV} (a : ze H O M xs l) (b : zl H O M x d) (j : Nat) : ze H O M (xs.set j x) (l.set j d) :=
 ⟨by rw [List.length_set, List.length_set, a.1], fun i y e h1 h2 => by
  rw [List.getElem?_set] at h1 h2
  by_cases c : j = i
  ·rw [if_pos c] at h1 h2
   split at h1
   ·split at h2
    ·cases h1; cases h2; exact b
    ·cases h2
   ·cases h1
  ·rw [if_neg c] at h1 h2
   exact a.2 i y e h1 h2⟩
theorem ze.get {H : Hp} {O : Own} {M : MH} {xs : List V} {l : List AV} (a : ze H O M xs l) {i : Nat} {d : AV} (h : l[i]? = some d) : ∃ x, xs[i]? = some x /\ zl H O M x d := by
 have hi := (List.getElem?_eq_some_iff.mp h).1
 have hx : i < xs.length := by rw [a.1]; exact hi
 exact ⟨xs[i], by simp [hx], a.2 i _ _ (by simp [hx]) h⟩
theorem vQ.av {H : Hp} {O : Own} {M : MH} {xs : List V} {l : List Dat} (r : vQ H O xs l) : ze H O M xs (l.map .d) :=
 ⟨by rw [List.length_map]; exact r.1, fun i x d h1 h2 => by
  rw [List.getElem?_map] at h2
  cases e : l[i]? with
  | none => rw [e] at h2; cases h2
  | some y => rw [e] at h2; cases h2; exact r.2 i x y h1 e⟩
theorem ze.pure {H : Hp} {O : Own} {M : MH} {xs : List V} {l : List Dat} (r : ze H O M xs (l.map .d)) : vQ H O xs l :=
 ⟨by have := r.1; rwa [List.length_map] at this, fun i x d h1 h2 => r.2 i x (.d d) h1 (by rw [List.getElem?_map, h2]; rfl)⟩
theorem Wf.fresh {H : Hp} {O : Own} {M : MH} (w : Wf H O M) {p : Addr} (h : H p = none) : ¬ O p /\ M p = none := by
 have : ¬ O p := fun z => w.ne p z h
 exact ⟨this, by
  cases e : M p with
  | none => rfl
  | some o => exact absurd (w.own p (by rw [e]; exact fun z => nomatch z)) this⟩
theorem qv.ext {H H' : Hp} {O O' : Own} {M M' : MH} (k : Ext H O M H' O' M') {a : Addr} {o : MO} (e : H' a = H a) (r : qv H O M a o) : qv H' O' M' a o := by
 cases o with
 | lst l => obtain ⟨xs, h, r⟩ := r; exact ⟨xs, e.trans h, r.ext k⟩
 | dK l => obtain ⟨xs, h, r⟩ := r; exact ⟨xs, e.trans h, r.ext k⟩
 | ins C fs => obtain ⟨dx, xs, h, r, q1, q2, q3⟩ := r; obtain ⟨x1, x2, x3⟩ := k.prv dx q1 q2; exact ⟨dx, xs, e.trans h, r.ext k, x2, x3, x1.trans q3⟩
theorem qz {H : Hp} {O : Own} {M : MH} (w : Wf H O M) {p : Addr} (h : H p = none) (o : HO) : Ext H O M (upd H p o) O M :=
 ⟨fun a u ha e => ⟨by rw [zf (zk e h)]; exact e, ha⟩, fun a ha e => ⟨zf (fun z => w.ne a ha (by rw [z]; exact h)), ha, e⟩, fun _ h => h⟩
theorem yh {H : Hp} {O : Own} {M : MH} (w : Wf H O M) {p : Addr} (h : H p = none) (o : HO) : Wf (upd H p o) O M :=
 ⟨fun a mo e => qv.ext (qz w h o) (zf (fun z => by rw [z, (w.fresh h).2] at e; cases e)) (w.mo a mo e), w.own, fun a ha => by
  have : a ≠ p := fun z => w.ne a ha (by rw [z]; exact h)
  rw [zf this]; exact w.al a ha⟩
def Zn (O : Own) (p : Addr) : Own := fun a => a = p \/ O a
def Kr (O : Own) (p : Addr) : Own := fun a => a ≠ p /\ O a
theorem jN {H : Hp} {O : Own} {M : MH} (w : Wf H O M) {p : Addr} (h : M p ≠ none) (o : HO) (mo : MO) : Ext H O M (upd H p o) O (mup M p mo) :=
 ⟨fun a u ha e => ⟨by rw [zf (fun z => ha (by rw [z]; exact w.own p h))]; exact e, ha⟩, fun a ha e => by
  have hne : a ≠ p := fun z => h (by rw [<- z]; exact e)
  exact ⟨zf hne, ha, by rw [zC hne]; exact e⟩, fun a ha => by
  by_cases e : a = p
  ·rw [e, zi]; exact fun z => nomatch z
  ·rw [zC e]; exact ha⟩
theorem Qh {H : Hp} {O : Own} {M : MH} (w : Wf H O M) {p : Addr} (h : M p ≠ none) {o : HO} {mo : MO} (ho : ∀ xs, o ≠ .tup xs) (r : qv (upd H p o) O (mup M p mo) p mo) : Wf (upd H p o) O (mup M p mo) := by
 refine ⟨fun a u e => ?_, fun a ha => ?_, fun a ha => ?_⟩
 ·by_cases c : a = p
  ·subst c; rw [zi] at e; cases e; exact r
  ·rw [zC c] at e
   exact qv.ext (jN w h o mo) (zf c) (w.mo a u e)
 ·by_cases c : a = p
  ·subst c; exact w.own a h
  ·rw [zC c] at ha; exact w.own a ha
 ·by_cases c : a = p
  ·rw [c, zo]; exact ⟨o, rfl, ho⟩
  ·rw [zf c]; exact w.al a ha
theorem qZ {H : Hp} {O : Own} {M : MH} (w : Wf H O M) {p : Addr} (h : H p = none) (o : HO) : Ext H O M (upd H p o) (Zn O p) M :=
 ⟨fun a u ha e => ⟨by rw [zf (zk e h)]; exact e, fun z => z.elim (zk e h) ha⟩, fun a ha e => by
  have hne : a ≠ p := fun z => w.ne a ha (by rw [z]; exact h)
  exact ⟨zf hne, .inr ha, e⟩, fun _ h => h⟩
theorem xS {H : Hp} {O : Own} {M : MH} (w : Wf H O M) {p : Addr} (h : H p = none) (o : HO) (ho : ∀ xs, o ≠ .tup xs) : Wf (upd H p o) (Zn O p) M :=
 ⟨fun a mo e => qv.ext (qZ w h o) (zf (fun z => by rw [z, (w.fresh h).2] at e; cases e)) (w.mo a mo e), fun a ha => .inr (w.own a ha), fun a ha => by
  by_cases c : a = p
  ·rw [c, zo]; exact ⟨o, rfl, ho⟩
  ·rw [zf c]; exact w.al a (ha.resolve_left c)⟩
theorem jy {H : Hp} {O : Own} {p : Addr} (hO : O p) (o : HO) : ∀ a u, ¬ O a -> H a = some u -> upd H p o a = some u /\ ¬ O a := fun a u ha e => ⟨by rw [zf (fun z => ha (by rw [z]; exact hO))]; exact e, ha⟩
theorem zl.imp {H H' : Hp} {O O' : Own} {M M' : MH} (k : ∀ a o, ¬ O a -> H a = some o -> H' a = some o /\ ¬ O' a) (hm : ∀ a, M a ≠ none -> M' a ≠ none) {v : V} {x : AV} (r : zl H O M v x) : zl H' O' M' v x := by
 cases x with
 | d x => exact Rep.imp k r
 | ref a => exact ⟨r.1, hm a r.2⟩
theorem ze.imp {H H' : Hp} {O O' : Own} {M M' : MH} (k : ∀ a o, ¬ O a -> H a = some o -> H' a = some o /\ ¬ O' a) (hm : ∀ a, M a ≠ none -> M' a ≠ none) {xs : List V} {l : List AV} (r : ze H O M xs l) : ze H' O' M' xs l := ⟨r.1, fun i x d e1 e2 => (r.2 i x d e1 e2).imp k hm⟩
theorem qv.imp {H H' : Hp} {O O' : Own} {M : MH} (k : ∀ a o, ¬ O a -> H a = some o -> H' a = some o /\ ¬ O' a) {a : Addr} {o : MO} (e : H' a = H a) (hd : ∀ dx x, O dx -> M dx = none -> H dx = some (.own x) -> H' dx = some (.own x) /\ O' dx) (r : qv H O M a o) : qv H' O' M a o := by
 cases o with
 | lst l => obtain ⟨xs, h, r⟩ := r; exact ⟨xs, e.trans h, r.imp k fun _ z => z⟩
 | dK l => obtain ⟨xs, h, r⟩ := r; exact ⟨xs, e.trans h, r.1, r.2.imp k fun _ z => z⟩
 | ins C fs => obtain ⟨dx, xs, h, r, q1, q2, q3⟩ := r; exact ⟨dx, xs, e.trans h, ⟨r.1, r.2.imp k fun _ z => z⟩, (hd dx a q1 q2 q3).2, q2, (hd dx a q1 q2 q3).1⟩
theorem vY {H : Hp} {O : Own} {M : MH} (w : Wf H O M) {p : Addr} (hO : O p) (hM : M p = none) {xs : List V} (hp : H p = some (.lst xs)) (o : HO) (ho : ∀ xs, o ≠ .tup xs) : Wf (upd H p o) O M :=
 ⟨fun a mo e => qv.imp (jy hO o) (zf (fun z => by rw [z, hM] at e; cases e)) (fun dx x h1 _ h3 => ⟨by rw [zf (kI h3 hp (fun z => nomatch z))]; exact h3, h1⟩) (w.mo a mo e), w.own, fun a ha => by
  by_cases c : a = p
  ·rw [c, zo]; exact ⟨o, rfl, ho⟩
  ·rw [zf c]; exact w.al a ha⟩
theorem kj {H : Hp} {O : Own} (p : Addr) : ∀ a u, ¬ O a -> H a = some u -> H a = some u /\ ¬ Kr O p a := fun a u ha e => ⟨e, fun z => ha z.2⟩
theorem Qu {H : Hp} {O : Own} {M : MH} (w : Wf H O M) {p : Addr} (hM : M p = none) {xs : List V} (hp : H p = some (.lst xs)) : Wf H (Kr O p) M :=
 ⟨fun a mo e => qv.imp (kj p) rfl (fun dx x h1 _ h3 => ⟨h3, ⟨kI h3 hp (fun z => nomatch z), h1⟩⟩) (w.mo a mo e), fun a ha => ⟨fun z => ha (by rw [z]; exact hM), w.own a ha⟩, fun a ha => w.al a ha.2⟩
end L2
set_option Elab.async false
set_option linter.all false
set_option maxRecDepth 100000
set_option maxHeartbeats 4000000
namespace L2
open PySem PySem.Spec PyProof.Rows
abbrev AK := AV -> MH -> Prop
abbrev AE := ASt -> MH -> AK -> Prop
abbrev AT := ASt -> MH -> (Bool -> MH -> Prop) -> Prop
abbrev AA := ASt -> MH -> (List AV -> MH -> Prop) -> Prop
structure xB where
 nx : ASt -> MH -> Prop
 rt : AK
 bk : ASt -> MH -> Prop := fun _ _ => False
 ct : ASt -> MH -> Prop := fun _ _ => False
abbrev AS := MH -> xB -> ASt -> MH -> Prop
abbrev AG := AV -> ASt -> MH -> (ASt -> MH -> Prop) -> Prop
abbrev AGs := List AV -> ASt -> MH -> (ASt -> MH -> Prop) -> Prop
abbrev AI := ASt -> MH -> (List AV -> (MH -> Prop) -> MH -> Prop) -> Prop
structure Er (H : Hp) (O : Own) (M : MH) (σ : St) (ρ : ASt) : Prop where
 len : σ.length = ρ.length
 get : ∀ (i : Nat) x, ρ[i]? = some (some x) -> ∃ v, σ[i]? = some (some v) /\ zl H O M v x
theorem Er.ext {H H' : Hp} {O O' : Own} {M M' : MH} {σ : St} {ρ : ASt} (e : Er H O M σ ρ) (k : Ext H O M H' O' M') : Er H' O' M' σ ρ := ⟨e.len, fun i x h => let ⟨v, h1, h2⟩ := e.get i x h; ⟨v, h1, h2.ext k⟩⟩
theorem Er.set {H : Hp} {O : Own} {M : MH} {σ : St} {ρ : ASt} (e : Er H O M σ ρ) {v : V} {x : AV} (r : zl H O M v x) (j : Nat) : Er H O M (σ.set j (some v)) (ρ.set j (some x)) :=
 ⟨by rw [List.length_set, List.length_set, e.len], fun i y h => by
  rw [List.getElem?_set] at h ⊢
  by_cases c : j = i
  ·rw [if_pos c] at h ⊢
   by_cases c2 : j < ρ.length
   ·rw [if_pos c2] at h; rw [if_pos (by rw [e.len]; exact c2)]; cases h; exact ⟨v, rfl, r⟩
   ·rw [if_neg c2] at h; cases h
  ·rw [if_neg c] at h ⊢; exact e.get i y h⟩
def Xf : List Nat -> ASt -> ASt
 | [], σ => σ
 | j :: r, σ => Xf r (σ.set j none)
theorem Er.clr {H : Hp} {O : Own} {M : MH} : ∀ (ts : List Nat) {σ : St} {ρ : ASt}, Er H O M σ ρ -> Er H O M (clr ts σ) (Xf ts ρ)
  | [], _, _, e => e
  | j :: r, σ, ρ, e => Er.clr r ⟨by rw [List.length_set, List.length_set, e.len], fun i y h => by
      rw [List.getElem?_set] at h ⊢
      by_cases c : j = i
      · rw [if_pos c] at h
        split at h <;> cases h
      · rw [if_neg c] at h ⊢; exact e.get i y h⟩
structure zQ (t : TE) (a : AE) : Prop where
 go : ∀ {σ : St} {H : Hp} {O : Own} {ρ : ASt} {M : MH} {Q : VK} {Q' : AK}, Wf H O M -> Er H O M σ ρ -> a ρ M Q' -> (∀ x M' v H' O', Q' x M' -> Ext H O M H' O' M' -> Wf H' O' M' -> zl H' O' M' v x -> Q v H') -> t σ H Q
structure jJ (t : TT) (a : AT) : Prop where
 go : ∀ {σ : St} {H : Hp} {O : Own} {ρ : ASt} {M : MH} {Q : Bool -> Hp -> Prop} {Q' : Bool -> MH -> Prop}, Wf H O M -> Er H O M σ ρ -> a ρ M Q' -> (∀ b M' H' O', Q' b M' -> Ext H O M H' O' M' -> Wf H' O' M' -> Q b H') -> t σ H Q
structure j6 (t : TA) (a : AA) : Prop where
 go : ∀ {σ : St} {H : Hp} {O : Own} {ρ : ASt} {M : MH} {Q : List V -> Hp -> Prop} {Q' : List AV -> MH -> Prop}, Wf H O M -> Er H O M σ ρ -> a ρ M Q' -> (∀ x M' v H' O', Q' x M' -> Ext H O M H' O' M' -> Wf H' O' M' -> ze H' O' M' v x -> Q v H') -> t σ H Q
structure vP (t : TE) (a : ASt -> MH -> (List AV -> MH -> Prop) -> Prop) : Prop where
 go : ∀ {σ : St} {H : Hp} {O : Own} {ρ : ASt} {M : MH} {Q : VK} {Q' : List AV -> MH -> Prop}, Wf H O M -> Er H O M σ ρ -> a ρ M Q' ->
  (∀ l M' p xs H' O', Q' l M' -> Ext H O M H' O' M' -> Wf H' O' M' -> O' p -> M' p = none -> H p = none -> H' p = some (.lst xs) -> ze H' O' M' xs l -> Q (.ref p) H') -> t σ H Q
abbrev AR2 := AV -> AV -> MH -> AK -> Prop
structure v9 (r : R2) (a : AR2) : Prop where
 go : ∀ {x y : V} {dx dy : AV} {H : Hp} {O : Own} {M : MH} {Q : VK} {Q' : AK}, Wf H O M -> zl H O M x dx -> zl H O M y dy -> a dx dy M Q' -> (∀ x M' v H' O', Q' x M' -> Ext H O M H' O' M' -> Wf H' O' M' -> zl H' O' M' v x -> Q v H') -> r x y H Q
structure WL (r : V -> Hp -> VK -> Prop) (a : AV -> MH -> AK -> Prop) : Prop where
 go : ∀ {x : V} {dx : AV} {H : Hp} {O : Own} {M : MH} {Q : VK} {Q' : AK}, Wf H O M -> zl H O M x dx -> a dx M Q' -> (∀ x M' v H' O', Q' x M' -> Ext H O M H' O' M' -> Wf H' O' M' -> zl H' O' M' v x -> Q v H') -> r x H Q
structure vh (r : List V -> Hp -> VK -> Prop) (a : List AV -> MH -> AK -> Prop) : Prop where
 go : ∀ {vs : List V} {xs : List AV} {H : Hp} {O : Own} {M : MH} {Q : VK} {Q' : AK}, Wf H O M -> ze H O M vs xs -> a xs M Q' -> (∀ x M' v H' O', Q' x M' -> Ext H O M H' O' M' -> Wf H' O' M' -> zl H' O' M' v x -> Q v H') -> r vs H Q
def KU (i : Nat) : AE := fun ρ M Q => ∃ x, ρ[i]? = some (some x) /\ Q x M
def aC (d : Dat) : AE := fun _ M Q => Q (.d d) M
theorem Ku {i : Nat} : zQ (KH i) (KU i) := ⟨fun w e ⟨x, h, q⟩ k => let ⟨v, h1, h2⟩ := e.get i x h; ⟨v, h1, k _ _ _ _ _ q .refl w h2⟩⟩
theorem VB {i : Int} : zQ (tC (.int i)) (aC (.int i)) := ⟨fun w _ q k => k _ _ _ _ _ q .refl w .int⟩
theorem Yl {i : Bool} : zQ (tC (.bl i)) (aC (.bl i)) := ⟨fun w _ q k => k _ _ _ _ _ q .refl w .bl⟩
theorem XH : zQ (tC .non) (aC .non) := ⟨fun w _ q k => k _ _ _ _ _ q .refl w .non⟩
theorem YH {i : String} : zQ (tC (.ty i)) (aC (.ty i)) := ⟨fun w _ q k => k _ _ _ _ _ q .refl w .ty⟩
def aOp (r : AR2) (a b : AE) : AE := fun ρ M Q => a ρ M fun x M1 => b ρ M1 fun y M2 => r x y M2 Q
theorem X3 {r : R2} {ra : AR2} {t u : TE} {a b : AE} (hr : v9 r ra) (h1 : zQ t a) (h2 : zQ u b) : zQ (tOp r t u) (aOp ra a b) :=
 ⟨fun w e q k => h1.go w e q fun x M1 v H1 O1 q1 k1 w1 r1 => h2.go w1 (e.ext k1) q1 fun y M2 u H2 O2 q2 k2 w2 r2 => hr.go w2 (r1.ext k2) r2 q2 fun z M3 v3 H3 O3 q3 k3 w3 r3 => k z M3 v3 H3 O3 q3 ((k1.trans k2).trans k3) w3 r3⟩
def YW : AA := fun _ M Q => Q [] M
def wL (a : AE) (b : AA) : AA := fun ρ M Q => a ρ M fun x M1 => b ρ M1 fun xs M2 => Q (x :: xs) M2
theorem KL : j6 Vj YW := ⟨fun w _ q k => k _ _ _ _ _ q .refl w .nil⟩
theorem JN {t : TE} {u : TA} {a : AE} {b : AA} (h1 : zQ t a) (h2 : j6 u b) : j6 (Jq t u) (wL a b) :=
 ⟨fun w e q k => h1.go w e q fun x M1 v H1 O1 q1 k1 w1 r1 => h2.go w1 (e.ext k1) q1 fun y M2 u H2 O2 q2 k2 w2 r2 => k _ _ _ _ _ q2 (k1.trans k2) w2 (.cons (r1.ext k2) r2)⟩
theorem vW {H : Hp} {O : Own} {M : MH} (is : List Int) : ze H O M (is.map V.int) (is.map fun i => .d (.int i)) := by
 induction is with
 | nil => exact .nil
 | cons i r ih => exact .cons .int ih
def aCB (r : List AV -> MH -> AK -> Prop) (b : AA) : AE := fun ρ M Q => b ρ M fun xs M1 => r xs M1 Q
theorem XT {r : List V -> Hp -> VK -> Prop} {ra : List AV -> MH -> AK -> Prop} {u : TA} {b : AA} (hr : vh r ra) (h2 : j6 u b) : zQ (tCB r u) (aCB ra b) :=
 ⟨fun w e q k => h2.go w e q fun x M1 v H1 O1 q1 k1 w1 r1 => hr.go w1 r1 q1 fun z M3 v3 H3 O3 q3 k3 w3 r3 => k z M3 v3 H3 O3 q3 (k1.trans k3) w3 r3⟩
abbrev ASp := List AV -> MH -> AK -> Prop
def cSp (a : ASp) : Sp := fun vs H Q _ => ∃ xs M O Q', Wf H O M /\ ze H O M vs xs /\ a xs M Q' /\ ∀ x M' v H' O', Q' x M' -> Ext H O M H' O' M' -> Wf H' O' M' -> zl H' O' M' v x -> Q v H'
def ZY (sp : ASp) (b : AA) : AE := fun ρ M Q => b ρ M fun xs M1 => sp xs M1 Q
theorem QO {sp : ASp} {u : TA} {b : AA} (h : j6 u b) : zQ (wU (cSp sp) [] E0 u) (ZY sp b) :=
 ⟨fun w e q k => h.go w e q fun x M1 v H1 O1 q1 k1 w1 r1 => ⟨x, M1, O1, _, w1, by rw [List.append_nil]; exact r1, q1, fun z M3 v3 H3 O3 q3 k3 w3 r3 => k z M3 v3 H3 O3 q3 (k1.trans k3) w3 r3⟩⟩
def pur : List AV -> Option (List Dat)
 | [] => some []
 | .d x :: r => match pur r with | some l => some (x :: l) | none => none
 | .ref _ :: _ => none
theorem KG : pur [] = some [] := rfl
theorem QB {x : Dat} {r : List AV} {l : List Dat} (h : pur r = some l) : pur (.d x :: r) = some (x :: l) := by unfold pur; rw [h]
theorem zF (l : List Dat) : pur (l.map .d) = some l := by
 induction l with
 | nil => rfl
 | cons x r ih => exact QB ih
theorem ji : ∀ {xs : List AV} {l : List Dat}, pur xs = some l -> xs = l.map .d
 | [], l, h => by cases h; rfl
 | .d x :: r, l, h => by
  unfold pur at h
  cases e : pur r with
  | none => rw [e] at h; cases h
  | some m => rw [e] at h; cases h; rw [ji e]; rfl
 | .ref _ :: _, _, h => by cases h
theorem Ext.shown {H H' : Hp} {O O' : Own} {M M' : MH} {p : Addr} (w : Wf H O M) (k : Ext H O M H' O' M') (h : H p = none) : Ext H O M H' (Kr O' p) M' :=
 ⟨fun a o ha e => ⟨(k.fix a o ha e).1, fun z => (k.fix a o ha e).2 z.2⟩, fun a ha e => ⟨(k.prv a ha e).1, ⟨fun z => w.ne a ha (by rw [z]; exact h), (k.prv a ha e).2.1⟩, (k.prv a ha e).2.2⟩, k.mst⟩
theorem Ext.owned {H H' : Hp} {O O' : Own} {M M' : MH} {p : Addr} (w : Wf H O M) (k : Ext H O M H' O' M') (h : H p = none) (mo : MO) : Ext H O M H' O' (mup M' p mo) :=
 ⟨k.fix, fun a ha e => ⟨(k.prv a ha e).1, (k.prv a ha e).2.1, by rw [zC (fun z => w.ne a ha (by rw [z]; exact h))]; exact (k.prv a ha e).2.2⟩, fun a ha => by
  by_cases e : a = p
  ·rw [e, zi]; exact fun z => nomatch z
  ·rw [zC e]; exact k.mst a ha⟩
theorem yU {H : Hp} {O : Own} {M : MH} {p : Addr} (w : Wf H O M) (hO : O p) (hM : M p = none) {xs : List V} {l : List AV} (hp : H p = some (.lst xs)) (r : ze H O M xs l) : Wf H O (mup M p (.lst l)) := by
 have km : ∀ a, M a ≠ none -> mup M p (.lst l) a ≠ none := fun a ha => by
  by_cases e : a = p
  ·rw [e, zi]; exact fun z => nomatch z
  ·rw [zC e]; exact ha
 refine ⟨fun a u e => ?_, fun a ha => ?_, w.al⟩
 ·by_cases c : a = p
  ·subst c; rw [zi] at e; cases e; exact ⟨xs, hp, r.imp (fun _ _ z h => ⟨h, z⟩) km⟩
  ·rw [zC c] at e
   have := w.mo a u e
   cases u with
   | lst m => obtain ⟨ys, h1, h2⟩ := this; exact ⟨ys, h1, h2.imp (fun _ _ z h => ⟨h, z⟩) km⟩
   | dK m => obtain ⟨ys, h1, h2⟩ := this; exact ⟨ys, h1, h2.1, h2.2.imp (fun _ _ z h => ⟨h, z⟩) km⟩
   | ins C fs =>
    obtain ⟨dx, ys, h1, h2, h3, h4, h5⟩ := this
    exact ⟨dx, ys, h1, ⟨h2.1, h2.2.imp (fun _ _ z h => ⟨h, z⟩) km⟩, h3, by rw [zC (kI h5 hp (fun z => nomatch z))]; exact h4, h5⟩
 ·by_cases c : a = p
  ·rw [c]; exact hO
  ·rw [zC c] at ha; exact w.own a ha
abbrev AF := ASt -> MH -> (List AV -> MH -> Prop) -> Prop
def aFz (a : AF) : AE := fun ρ M Q => a ρ M fun l M' => ∃ ds, pur l = some ds /\ Q (.d (.lst ds)) M'
def aOw (a : AF) : AE := fun ρ M Q => a ρ M fun l M' => ∀ p, M p = none -> M' p = none -> Q (.ref p) (mup M' p (.lst l))
def Wq (t : TE) : TE := t
theorem jg {X : Cx} {e : Expr} {t : TE} (h : PE X e t) : PE X e (Wq t) := h
theorem xR {t : TE} {a : AF} (h : vP t a) : zQ t (aFz a) :=
 ⟨fun w e q k => h.go w e q fun l M' p xs H' O' q1 k1 w1 o1 m1 hp hx r1 => by
  obtain ⟨ds, e1, q2⟩ := q1
  rw [ji e1] at r1
  have r2 := r1.pure
  exact k _ _ _ _ _ q2 (k1.shown w hp) (Qu w1 m1 hx) (Rep.lst (fun z => z.1 rfl) hx r2.1 fun i x d e1 e2 => (r2.2 i x d e1 e2).imp (kj p))⟩
theorem Ks {t : TE} {a : AF} (h : vP t a) : zQ (Wq t) (aOw a) :=
 ⟨fun w e q k => h.go w e q fun l M' p xs H' O' q1 k1 w1 o1 m1 hp hx r1 => k _ _ _ _ _ (q1 p (w.fresh hp).2 m1) (k1.owned w hp _) (yU w1 o1 m1 hx r1) ⟨rfl, by rw [zi]; exact fun z => nomatch z⟩⟩
def VJ (b : AA) : AF := fun ρ M Q => b ρ M fun xs M1 => xs.length <= sizeLine /\ Q xs M1
theorem Jv {u : TA} {b : AA} (h : j6 u b) : vP (Yu u) (VJ b) :=
 ⟨fun w e q k => h.go w e q fun x M1 v H1 O1 q1 k1 w1 r1 => ⟨by rw [r1.1]; exact q1.1, fun p hp =>
  k x M1 p v _ _ q1.2 (k1.trans (qZ w1 hp _)) (xS w1 hp _ (fun _ z => nomatch z)) (.inl rfl) (w1.fresh hp).2 (by
   cases e0 : (_ : Hp) p with
   | none => exact e0
   | some o =>
    exfalso
    rename_i H0 O0 _ M0 _ _
    by_cases c : O0 p
    ·by_cases c2 : M0 p = none
     ·exact w1.ne p (k1.prv p c c2).2.1 hp
     ·exact w1.ne p (w1.own p (k1.mst p c2)) hp
    ·rw [(k1.fix p o c e0).1] at hp; cases hp) zo (r1.ext (qZ w1 hp _))⟩⟩
def Wa (b : AA) : AE := fun ρ M Q => b ρ M fun xs M1 => xs.length <= sizeLine /\ ∃ ds, pur xs = some ds /\ Q (.d (.tup ds)) M1
theorem K1 {u : TA} {b : AA} (h : j6 u b) : zQ (YC u) (Wa b) :=
 ⟨fun w e q k => h.go w e q fun x M1 v H1 O1 q1 k1 w1 r1 => ⟨by rw [r1.1]; exact q1.1, fun p hp => by
  obtain ⟨_, ds, e1, q2⟩ := q1
  rw [ji e1] at r1
  have r2 := r1.pure
  exact k _ _ _ _ _ q2 (k1.trans (qz w1 hp _)) (yh w1 hp _) (Rep.tup (w1.fresh hp).1 zo r2.1 fun i x d e1 e2 => (r2.2 i x d e1 e2).ext (qz w1 hp _))⟩⟩
def aB (a : AE) : AT := fun ρ M Q => a ρ M fun x M1 => ∃ b, x = .d (.bl b) /\ Q b M1
theorem ka {H : Hp} {O : Own} {v : V} {b : Bool} (r : Rep H O v (.bl b)) : v = .bl b := by cases r; rfl
theorem zN {H : Hp} {O : Own} {v : V} {b : Int} (r : Rep H O v (.int b)) : v = .int b := by cases r; rfl
theorem JL {H : Hp} {O : Own} {v : V} {b : String} (r : Rep H O v (.ty b)) : v = .ty b := by cases r; rfl
theorem Ke {H : Hp} {O : Own} {v : V} (r : Rep H O v .non) : v = .non := by cases r; rfl
theorem VZ {t : TE} {a : AE} (h : zQ t a) : jJ (tB t) (aB a) := ⟨fun w e q k => h.go w e q fun x M1 v H1 O1 ⟨b, e1, q1⟩ k1 w1 r1 => by
 subst e1; exact ⟨b, ka r1, k _ _ _ _ q1 k1 w1⟩⟩
theorem Qi {t : TE} {a : AE} (h : zQ t a) : jJ (JK t) (aB a) := ⟨fun w e q k => h.go w e q fun x M1 v H1 O1 ⟨b, e1, q1⟩ k1 w1 r1 => by
 subst e1; exact ⟨b, ka r1, k _ _ _ _ q1 k1 w1⟩⟩
def ko : AT := fun _ M Q => Q true M
theorem QR : jJ QS ko := ⟨fun w _ q k => k _ _ _ _ q .refl w⟩
def aOr (a b : AT) : AT := fun ρ M Q => a ρ M fun c M1 => if c = true then Q true M1 else b ρ M1 Q
def V1 (a : AT) : AT := fun ρ M Q => a ρ M fun c M1 => Q (!c) M1
theorem Ve {t u : TT} {a b : AT} (h1 : jJ t a) (h2 : jJ u b) : jJ (tOr t u) (aOr a b) := ⟨fun w e q k => h1.go w e q fun c M1 H1 O1 q1 k1 w1 => by
 cases c with
 | false => exact h2.go w1 (e.ext k1) q1 fun c M2 H2 O2 q2 k2 w2 => k _ _ _ _ q2 (k1.trans k2) w2
 | true => exact k _ _ _ _ q1 k1 w1⟩
theorem Kh {t : TT} {a : AT} (h1 : jJ t a) : jJ (YN t) (V1 a) := ⟨fun w e q k => h1.go w e q fun c M1 H1 O1 q1 k1 w1 => k _ _ _ _ q1 k1 w1⟩
def Xv (a b : AE) : AE := fun ρ M Q => a ρ M fun x M1 => ∃ c, x = .d (.bl c) /\ if c = true then b ρ M1 Q else Q (.d (.bl false)) M1
def Xz (a : AE) : AE := fun ρ M Q => a ρ M fun x M1 => ∃ c, x = .d (.bl c) /\ Q (.d (.bl (!c))) M1
theorem Qz {t u : TE} {a b : AE} (h1 : zQ t a) (h2 : zQ u b) : zQ (Q4 t u) (Xv a b) := ⟨fun w e q k => h1.go w e q fun x M1 v H1 O1 ⟨c, e1, q1⟩ k1 w1 r1 => by
 subst e1
 refine ⟨c, ka r1, ?_⟩
 cases c with
 | true => exact h2.go w1 (e.ext k1) q1 fun c M2 v2 H2 O2 q2 k2 w2 r2 => k _ _ _ _ _ q2 (k1.trans k2) w2 r2
 | false => exact k _ _ _ _ _ q1 k1 w1 .bl⟩
theorem JS {t : TE} {a : AE} (h1 : zQ t a) : zQ (Ql t) (Xz a) := ⟨fun w e q k => h1.go w e q fun x M1 v H1 O1 ⟨c, e1, q1⟩ k1 w1 r1 => by
 subst e1
 exact ⟨c, ka r1, k _ _ _ _ _ q1 k1 w1 .bl⟩⟩
end L2
set_option Elab.async false
set_option linter.all false
set_option maxRecDepth 100000
set_option maxHeartbeats 4000000
namespace L2
open PySem PySem.Spec PyProof.Rows
structure ED (H0 : Hp) (O0 : Own) (M0 : MH) (D : kx) (D' : xB) : Prop where
 nx : ∀ σ H O ρ M, Wf H O M -> Er H O M σ ρ -> Ext H0 O0 M0 H O M -> D'.nx ρ M -> D.nx σ H
 rt : ∀ v x H O M, Wf H O M -> Ext H0 O0 M0 H O M -> zl H O M v x -> D'.rt x M -> D.rt v H
 bk : ∀ σ H O ρ M, Wf H O M -> Er H O M σ ρ -> Ext H0 O0 M0 H O M -> D'.bk ρ M -> D.bk σ H
 ct : ∀ σ H O ρ M, Wf H O M -> Er H O M σ ρ -> Ext H0 O0 M0 H O M -> D'.ct ρ M -> D.ct σ H
theorem ED.tr {H0 H1 : Hp} {O0 O1 : Own} {M0 M1 : MH} {D : kx} {D' : xB} (E : ED H0 O0 M0 D D') (k : Ext H0 O0 M0 H1 O1 M1) : ED H1 O1 M1 D D' :=
 ⟨fun σ H O ρ M w e x q => E.nx σ H O ρ M w e (k.trans x) q, fun v y H O M w x r q => E.rt v y H O M w (k.trans x) r q, fun σ H O ρ M w e x q => E.bk σ H O ρ M w e (k.trans x) q, fun σ H O ρ M w e x q => E.ct σ H O ρ M w e (k.trans x) q⟩
structure jF (t : TS) (a : AS) : Prop where
 go : ∀ {H0 : Hp} {O0 : Own} {M0 : MH} {D : kx} {D' : xB} {σ : St} {H : Hp} {O : Own} {ρ : ASt} {M : MH}, Wf H0 O0 M0 -> Wf H O M -> Er H O M σ ρ -> Ext H0 O0 M0 H O M -> a M0 D' ρ M -> ED H0 O0 M0 D D' -> t D σ H
def JI : AS := fun _ D ρ M => D.nx ρ M
theorem Q6 : jF Z5 JI := ⟨fun _ w e x q E => E.nx _ _ _ _ _ w e x q⟩
def vS (a b : AS) : AS := fun B D ρ M => a B { D with nx := b B D } ρ M
theorem J7 {t u : TS} {a b : AS} (h1 : jF t a) (h2 : jF u b) : jF (XE t u) (vS a b) :=
 ⟨fun w0 w e x q E => h1.go w0 w e x q ⟨fun σ H O ρ M w e x q => h2.go w0 w e x q E, E.rt, E.bk, E.ct⟩⟩
def Xn (a : AE) : AS := fun _ D ρ M => a ρ M fun _ M1 => D.nx ρ M1
theorem QZ {t : TE} {a : AE} (h : zQ t a) : jF (Jz t) (Xn a) := ⟨fun _ w e x q E => h.go w e q fun y M1 v H1 O1 q1 k1 w1 r1 => E.nx _ _ _ _ _ w1 (e.ext k1) (x.trans k1) q1⟩
def Wj (a : AE) : AS := fun _ D ρ M => a ρ M D.rt
theorem KO {t : TE} {a : AE} (h : zQ t a) : jF (Vu t) (Wj a) := ⟨fun _ w e x q E => h.go w e q fun y M1 v H1 O1 q1 k1 w1 r1 => E.rt _ _ _ _ _ w1 (x.trans k1) r1 q1⟩
def VS (c : AT) (a b : AS) : AS := fun B D ρ M => c ρ M fun k M1 => if k = true then a B D ρ M1 else b B D ρ M1
theorem Km {c : TT} {t u : TS} {ac : AT} {a b : AS} (hc : jJ c ac) (h1 : jF t a) (h2 : jF u b) : jF (X1 c t u) (VS ac a b) :=
 ⟨fun w0 w e x q E => hc.go w e q fun k M1 H1 O1 q1 k1 w1 => by
  cases k with
  | true => exact h1.go w0 w1 (e.ext k1) (x.trans k1) q1 E
  | false => exact h2.go w0 w1 (e.ext k1) (x.trans k1) q1 E⟩
structure kg (g : TG) (a : AG) : Prop where
 go : ∀ {v : V} {x : AV} {σ : St} {H : Hp} {O : Own} {ρ : ASt} {M : MH} {Q : St -> Hp -> Prop} {Q' : ASt -> MH -> Prop}, Wf H O M -> Er H O M σ ρ -> zl H O M v x -> a x ρ M Q' ->
  (∀ σ' H' O' ρ' M', Q' ρ' M' -> Ext H O M H' O' M' -> Wf H' O' M' -> Er H' O' M' σ' ρ' -> Q σ' H') -> g v σ H Q
structure yW (g : TGs) (a : AGs) : Prop where
 go : ∀ {v : List V} {x : List AV} {σ : St} {H : Hp} {O : Own} {ρ : ASt} {M : MH} {Q : St -> Hp -> Prop} {Q' : ASt -> MH -> Prop}, Wf H O M -> Er H O M σ ρ -> ze H O M v x -> a x ρ M Q' ->
  (∀ σ' H' O' ρ' M', Q' ρ' M' -> Ext H O M H' O' M' -> Wf H' O' M' -> Er H' O' M' σ' ρ' -> Q σ' H') -> g v σ H Q
def xX (i : Nat) : AG := fun x ρ M Q => Q (ρ.set i (some x)) M
theorem ZQ {i : Nat} : kg (xw i) (xX i) := ⟨fun w e r q k => k _ _ _ _ _ q .refl w (e.set r i)⟩
def Jt : AGs := fun xs ρ M Q => xs = [] /\ Q ρ M
def yp (a : AG) (b : AGs) : AGs := fun xs ρ M Q => ∃ x r, xs = x :: r /\ a x ρ M fun ρ' M' => b r ρ' M' Q
theorem QC : yW Yj Jt := ⟨fun w e r q k => by obtain ⟨e1, q⟩ := q; subst e1; exact ⟨r.nil_inv, k _ _ _ _ _ q .refl w e⟩⟩
theorem Zx {g : TG} {u : TGs} {a : AG} {b : AGs} (h1 : kg g a) (h2 : yW u b) : yW (Z6 g u) (yp a b) := ⟨fun w e r q k => by
 obtain ⟨x, r', e1, q⟩ := q; subst e1
 obtain ⟨v, vr, e2, rv, rr⟩ := r.cons_inv
 subst e2
 exact ⟨v, vr, rfl, h1.go w e rv q fun σ' H' O' ρ' M' q1 k1 w1 e1 => h2.go w1 e1 (rr.ext k1) q1 fun σ2 H2 O2 ρ2 M2 q2 k2 w2 e2 => k _ _ _ _ _ q2 (k1.trans k2) w2 e2⟩⟩
def Qb (n : Nat) (b : AGs) : AG := fun x ρ M Q => ∃ l, x = .d (.tup l) /\ l.length = n /\ b (l.map .d) ρ M Q
theorem Qj {K : PySem.W.Frag} {n : Nat} {u : TGs} {b : AGs} (h : yW u b) : kg (Xa K n u) (Qb n b) := ⟨fun {v x σ H O ρ M Q Q'} w e r q k => by
 obtain ⟨l, e1, ln, q⟩ := q; subst e1
 cases (show Rep H O v (.tup l) from r) with
 | @tup a xs _ o1 h1 l1 r1 => exact ⟨a, xs, rfl, SqT.of h1, l1.trans ln, h.go w e (vQ.av ⟨l1, r1⟩) q k⟩⟩
def qi (x : AV) (M : MH) : Option (List AV) := match x with
 | .d (.lst l) => some (l.map .d)
 | .ref a => match M a with
  | some (.lst l) => some l
  | _ => none
 | _ => none
def Y7 (x : AV) : Option (List AV) := match x with
 | .d (.tup l) => some (l.map .d)
 | _ => none
def jj (x : AV) (M : MH) : Option (List AV) := match x with
 | .d (.lst l) => some (l.map .d)
 | .d (.tup l) => some (l.map .d)
 | .ref a => match M a with
  | some (.lst l) => some l
  | _ => none
 | _ => none
theorem Q8 (l : List Dat) (M : MH) : qi (.d (.lst l)) M = some (l.map .d) := rfl
theorem Ym (l : List Dat) : Y7 (.d (.tup l)) = some (l.map .d) := rfl
theorem Yd (l : List Dat) (M : MH) : jj (.d (.lst l)) M = some (l.map .d) := rfl
theorem XS (l : List Dat) (M : MH) : jj (.d (.tup l)) M = some (l.map .d) := rfl
theorem kM {a : Addr} {M : MH} {l : List AV} (h : M a = some (.lst l)) : qi (.ref a) M = some l := by unfold qi; dsimp only; rw [h]
theorem qT {a : Addr} {M : MH} {l : List AV} (h : M a = some (.lst l)) : jj (.ref a) M = some l := by unfold jj; dsimp only; rw [h]
theorem ve {x : AV} {M : MH} {l : List AV} (h : qi x M = some l) : (∃ m, x = .d (.lst m) /\ l = m.map .d) \/ ∃ a, x = .ref a /\ M a = some (.lst l) := by
 cases x with
 | d x =>
  cases x with
  | lst m => cases h; exact .inl ⟨m, rfl, rfl⟩
  | _ => cases h
 | ref a =>
  unfold qi at h
  dsimp only at h
  cases e : M a with
  | none => rw [e] at h; cases h
  | some o =>
   rw [e] at h
   cases o with
   | lst m => cases h; exact .inr ⟨a, rfl, e⟩
   | _ => cases h
theorem jV {x : AV} {M : MH} {l : List AV} (h : jj x M = some l) : qi x M = some l \/ ∃ m, x = .d (.tup m) /\ l = m.map .d := by
 cases x with
 | d x =>
  cases x with
  | lst m => cases h; exact .inl rfl
  | tup m => cases h; exact .inr ⟨m, rfl, rfl⟩
  | _ => cases h
 | ref a => exact .inl h
theorem qC {H : Hp} {O : Own} {M : MH} {v : V} {x : AV} {l : List AV} (w : Wf H O M) (r : zl H O M v x) (h : qi x M = some l) : ∃ a xs, v = .ref a /\ H a = some (.lst xs) /\ ze H O M xs l := by
 rcases ve h with ⟨m, rfl, rfl⟩ | ⟨a, rfl, e⟩
 ·cases (show Rep H O v (.lst m) from r) with
  | @lst a xs _ o1 h1 l1 r1 => exact ⟨a, xs, rfl, h1, vQ.av ⟨l1, r1⟩⟩
 ·obtain ⟨xs, h1, r1⟩ := w.mo a _ e
  exact ⟨a, xs, r.1, h1, r1⟩
theorem ja {H : Hp} {O : Own} {M : MH} {v : V} {x : AV} {l : List AV} (r : zl H O M v x) (h : Y7 x = some l) : ∃ a xs, v = .ref a /\ H a = some (.tup xs) /\ ze H O M xs l := by
 cases x with
 | ref a => cases h
 | d x =>
  cases x with
  | tup m =>
   cases h
   cases (show Rep H O v (.tup m) from r) with
   | @tup a xs _ o1 h1 l1 r1 => exact ⟨a, xs, rfl, h1, vQ.av ⟨l1, r1⟩⟩
  | _ => cases h
theorem yr {H : Hp} {O : Own} {M : MH} {v : V} {x : AV} {l : List AV} (w : Wf H O M) (r : zl H O M v x) (h : jj x M = some l) : ∃ a xs, v = .ref a /\ (H a = some (.lst xs) \/ H a = some (.tup xs)) /\ ze H O M xs l := by
 rcases jV h with e | ⟨m, rfl, rfl⟩
 ·obtain ⟨a, xs, h1, h2, h3⟩ := qC w r e; exact ⟨a, xs, h1, .inl h2, h3⟩
 ·obtain ⟨a, xs, h1, h2, h3⟩ := ja (l := m.map .d) r rfl; exact ⟨a, xs, h1, .inr h2, h3⟩
structure Qa (t : Q1) (a : AV -> AV -> AV -> MH -> (MH -> Prop) -> Prop) : Prop where
 go : ∀ {o i v : V} {ao ai av : AV} {H : Hp} {O : Own} {M : MH} {Q : Hp -> Prop} {Q' : MH -> Prop}, Wf H O M -> zl H O M o ao -> zl H O M i ai -> zl H O M v av -> a ao ai av M Q' -> (∀ M' H' O', Q' M' -> Ext H O M H' O' M' -> Wf H' O' M' -> Q H') -> t o i v H Q
def Xu (a b : AE) (s : AV -> AV -> AV -> MH -> (MH -> Prop) -> Prop) : AG := fun x ρ M Q => a ρ M fun o M1 => b ρ M1 fun i M2 => s o i x M2 fun M3 => Q ρ M3
theorem Qo {to ti : TE} {t : Q1} {a b : AE} {s : AV -> AV -> AV -> MH -> (MH -> Prop) -> Prop} (h1 : zQ to a) (h2 : zQ ti b) (h3 : Qa t s) : kg (VA to ti t) (Xu a b s) := ⟨fun w e r q k =>
 h1.go w e q fun x M1 v H1 O1 q1 k1 w1 r1 => h2.go w1 (e.ext k1) q1 fun y M2 u H2 O2 q2 k2 w2 r2 => h3.go w2 (r1.ext k2) r2 (r.ext (k1.trans k2)) q2 fun M3 H3 O3 q3 k3 w3 => k _ _ _ _ _ q3 ((k1.trans k2).trans k3) w3 (e.ext ((k1.trans k2).trans k3))⟩
theorem qI {M : MH} {p : Addr} {o : MO} (h : M p = some o) : M p ≠ none := by rw [h]; exact fun z => nomatch z
def asL : AV -> AV -> AV -> MH -> (MH -> Prop) -> Prop := fun o i v M Q => ∃ p l k j, o = .ref p /\ i = .d (.int k) /\ M p = some (.lst l) /\ ixN l.length k = some j /\ Q (mup M p (.lst (l.set j v)))
theorem Jj : Qa vV asL := ⟨fun w ro ri rv q k => by
 obtain ⟨p, l, n, j, rfl, rfl, hm, hj, q⟩ := q
 obtain ⟨xs, hx, rx⟩ := w.mo p _ hm
 have np := qI hm
 refine ⟨n, zN ri, p, ro.1, xs, hx, j, by rw [rx.1]; exact hj, k _ _ _ q (jN w np _ _) (Qh w np (fun _ z => nomatch z) ⟨_, zo, (rx.set rv j).ext (jN w np _ _)⟩)⟩⟩
def VP (a : AE) (g : AG) : AS := fun _ D ρ M => a ρ M fun x M1 => g x ρ M1 D.nx
theorem K8 {t : TE} {g : TG} {a : AE} {ag : AG} (h : zQ t a) (hg : kg g ag) : jF (ZA t g) (VP a ag) := ⟨fun _ w e x q E => h.go w e q fun y M1 v H1 O1 q1 k1 w1 r1 => hg.go w1 (e.ext k1) r1 q1 fun σ2 H2 O2 ρ2 M2 q2 k2 w2 e2 => E.nx _ _ _ _ _ w2 e2 ((x.trans k1).trans k2) q2⟩
structure WJ (t : TIp) (a : AR2) : Prop where
 go : ∀ {x y : V} {dx dy : AV} {H : Hp} {O : Own} {M : MH} {Q : VK} {Q' : AK}, Wf H O M -> zl H O M x dx -> zl H O M y dy -> a dx dy M Q' -> (∀ x M' v H' O', Q' x M' -> Ext H O M H' O' M' -> Wf H' O' M' -> zl H' O' M' v x -> Q v H') -> t x y H Q
def xa (J : It) (H : Hp) (O : Own) (M : MH) (l : List AV) (G : MH -> Prop) : Prop :=
 ∀ (H' : Hp) (O' : Own) (M' : MH), (∀ a o, ¬ O a -> H a = some o -> H' a = some o /\ ¬ O' a) -> (∀ a, M a ≠ none -> M' a ≠ none) -> Wf H' O' M' -> G M' -> ∀ i : Nat, (i = l.length -> J.stop i H') /\
  ∀ y, l[i]? = some y -> J.go i H' /\ ∀ x H'', J.yld i H' x H'' -> Ext H' O' M' H'' O' M' /\ Wf H'' O' M' /\ zl H'' O' M' x y
structure xV (wi : TI) (ai : AI) : Prop where
 go : ∀ {σ : St} {H : Hp} {O : Own} {ρ : ASt} {M : MH} {R : It -> Hp -> Prop} {R' : List AV -> (MH -> Prop) -> MH -> Prop}, Wf H O M -> Er H O M σ ρ -> ai ρ M R' -> (∀ l G M' J H' O', R' l G M' -> Ext H O M H' O' M' -> Wf H' O' M' -> xa J H' O' M' l G -> R J H') -> wi σ H R
def Wn (ag : AG) (ab : AS) (B : MH) (D : xB) (G : MH -> Prop) (l : List AV) (ρ : ASt) (M : MH) : Prop :=
 ∃ Pv : Nat -> ASt -> MH -> Prop, Pv 0 ρ M /\ (∀ i x ρ M, l[i]? = some x -> Pv i ρ M -> G M /\ ag x ρ M fun ρ' M' => ab B { D with nx := Pv (i + 1), ct := Pv (i + 1), bk := D.nx } ρ' M') /\ ∀ ρ M, Pv l.length ρ M -> G M /\ D.nx ρ M
def V0 (ai : AI) (ag : AG) (ab : AS) : AS := fun _ D ρ M => ai ρ M fun l G M1 => Wn ag ab M1 D G l ρ M1
theorem KJ {wi : TI} {g : TG} {t : TS} {ai : AI} {ag : AG} {ab : AS} (hi : xV wi ai) (hg : kg g ag) (hb : jF t ab) : jF (YS wi g t) (V0 ai ag ab) := ⟨fun {H0 O0 M0 D D' σ H O ρ M} w0 w e x q E => by
 rw [wu]
 refine hi.go w e q fun l G M1 J H1 O1 q1 k1 w1 hj => ?_
 have E1 := E.tr (x.trans k1)
 obtain ⟨Pv, p0, ps, pd⟩ := q1
 refine ⟨fun i m σ H => m = l.length - i /\ i <= l.length /\ ∃ O ρ M, Wf H O M /\ Er H O M σ ρ /\ Ext H1 O1 M1 H O M /\ Pv i ρ M, ⟨l.length, by simp, Nat.zero_le _, O1, ρ, M1, w1, e.ext k1, .refl, p0⟩, ?_⟩
 rintro i m σ H ⟨rfl, hi, O, ρ, M, w, e, x, hf⟩
 by_cases hil : i < l.length
 ·have hy : l[i]? = some l[i] := List.getElem?_eq_getElem hil
  obtain ⟨hG, q2⟩ := ps i l[i] ρ M hy hf
  obtain ⟨j1, j2⟩ := (hj H O M x.fix x.mst w hG i).2 l[i] hy
  refine .inr ⟨j1, fun σ' H' => ∃ O ρ M, Wf H' O M /\ Er H' O M σ' ρ /\ Ext H1 O1 M1 H' O M /\ Pv (i + 1) ρ M, fun σ' H' z => ⟨l.length - (i + 1), by omega, rfl, hil, z⟩, fun v H' hv => ?_⟩
  obtain ⟨k2, w2, r2⟩ := j2 v H' hv
  refine hg.go w2 (e.ext k2) r2 q2 fun σ3 H3 O3 ρ3 M3 q3 k3 w3 e3 => ?_
  exact hb.go w1 w3 e3 ((x.trans k2).trans k3) q3 ⟨fun σ H O ρ M w e x q => ⟨O, ρ, M, w, e, x, q⟩, E1.rt, E1.nx, fun σ H O ρ M w e x q => ⟨O, ρ, M, w, e, x, q⟩⟩
 ·have e0 : i = l.length := by omega
  subst e0
  obtain ⟨hG, q2⟩ := pd ρ M hf
  exact .inl ⟨(hj H O M x.fix x.mst w hG l.length).1 rfl, E1.nx _ _ _ _ _ w e x q2⟩⟩
end L2
set_option Elab.async false
set_option linter.all false
set_option maxRecDepth 100000
set_option maxHeartbeats 4000000
namespace L2
open PySem PySem.Spec PyProof.Rows
theorem vB {H H1 : Hp} {O O1 : Own} {M M1 : MH} (w1 : Wf H1 O1 M1) (k1 : Ext H O M H1 O1 M1) {p : Addr} (hp : H1 p = none) : H p = none := by
 cases e0 : H p with
 | none => rfl
 | some o =>
  exfalso
  by_cases c : O p
  ·by_cases c2 : M p = none
   ·exact w1.ne p (k1.prv p c c2).2.1 hp
   ·exact w1.ne p (w1.own p (k1.mst p c2)) hp
  ·rw [(k1.fix p o c e0).1] at hp; cases hp
theorem ZI {K : PySem.W.Frag} {H : Hp} {O : Own} {M : MH} {a : Addr} {x : AV} {l : List AV} (r : zl H O M (.ref a) x) (h : qi x M = some l) : xa (Itl K a) H O M l (fun M' => qi x M' = some l) := by
 intro H' O' M' fix mst w' hG i
 obtain ⟨a', xs, e, h1, r1⟩ := qC w' (r.imp fix mst) hG
 cases e
 refine ⟨fun e => ⟨xs, SqL.of h1, by rw [r1.1]; omega⟩, fun y hy => ?_⟩
 obtain ⟨v, hv, rv⟩ := r1.get hy
 refine ⟨⟨xs, v, SqL.of h1, hv⟩, fun z H'' hz => ?_⟩
 obtain ⟨e1, e2⟩ := hz
 subst e1
 have := e2 xs (SqL.of h1)
 rw [hv] at this; cases this
 exact ⟨.refl, w', rv⟩
theorem QJ {K : PySem.W.Frag} {H : Hp} {O : Own} {M : MH} {a : Addr} {x : AV} {l : List AV} (r : zl H O M (.ref a) x) (h : Y7 x = some l) : xa (Itt K a) H O M l (fun _ => True) := by
 intro H' O' M' fix mst w' hG i
 obtain ⟨a', xs, e, h1, r1⟩ := ja (r.imp fix mst) h
 cases e
 refine ⟨fun e => ⟨xs, SqT.of h1, by rw [r1.1]; omega⟩, fun y hy => ?_⟩
 obtain ⟨v, hv, rv⟩ := r1.get hy
 refine ⟨⟨xs, v, SqT.of h1, hv⟩, fun z H'' hz => ?_⟩
 obtain ⟨e1, e2⟩ := hz
 subst e1
 have := e2 xs (SqT.of h1)
 rw [hv] at this; cases this
 exact ⟨.refl, w', rv⟩
def aiS (a : AE) : AI := fun ρ M R => a ρ M fun x M1 => ∃ l, jj x M1 = some l /\ R l (fun M' => jj x M' = some l) M1
theorem xa.mono {J : It} {H : Hp} {O : Own} {M : MH} {l : List AV} {G G' : MH -> Prop} (h : xa J H O M l G) (k : ∀ M, G' M -> G M) : xa J H O M l G' := fun H' O' M' fix mst w' hG => h H' O' M' fix mst w' (k _ hG)
theorem Yx {K : PySem.W.Frag} {t : TE} {a : AE} (h : zQ t a) : xV (iLT K t) (aiS a) := ⟨fun w e q k => h.go w e q fun x M1 v H1 O1 ⟨l, hl, q1⟩ k1 w1 r1 => by
 rcases jV hl with hl' | ⟨m, rfl, rfl⟩
 ·obtain ⟨a, xs, rfl, h1, _⟩ := qC w1 r1 hl'
  refine ⟨a, rfl, .inl ⟨⟨xs, SqL.of h1⟩, k _ _ _ _ _ _ q1 k1 w1 ((ZI r1 hl').mono fun M hM => ?_)⟩⟩
  rcases jV hM with z | ⟨m, rfl, rfl⟩
  ·exact z
  ·cases hl'
 ·obtain ⟨a, xs, rfl, h1, _⟩ := ja (l := m.map .d) r1 rfl
  exact ⟨a, rfl, .inr ⟨⟨xs, SqT.of h1⟩, k _ _ _ _ _ _ q1 k1 w1 ((QJ r1 rfl).mono fun _ _ => trivial)⟩⟩⟩
def jY (lo c : Int) (n : Nat) : List AV := (List.range n).map fun (k : Nat) => .d (.int (lo + (k : Int) * c))
theorem je (lo c : Int) (n : Nat) : (jY lo c n).length = n := by simp [jY]
theorem kL {lo c : Int} {n i : Nat} {y : AV} (h : (jY lo c n)[i]? = some y) : i < n /\ y = .d (.int (lo + (i : Int) * c)) := by
 have hi := (List.getElem?_eq_some_iff.mp h).1
 rw [je] at hi
 unfold jY at h
 rw [List.getElem?_map, List.getElem?_range hi] at h
 cases h
 exact ⟨hi, rfl⟩
theorem Jy {H : Hp} {O : Own} {M : MH} (lo : Int) (n : Nat) : xa (Itr lo n) H O M (jY lo 1 n) (fun _ => True) := by
 intro H' O' M' fix mst w' hG i
 refine ⟨fun e => by rw [je] at e; exact Nat.le_of_eq e.symm, fun y hy => ?_⟩
 obtain ⟨hi, rfl⟩ := kL hy
 refine ⟨hi, fun z H'' hz => ?_⟩
 obtain ⟨rfl, rfl⟩ := hz
 rw [Int.mul_one]
 exact ⟨.refl, w', .int⟩
def VG (a : AA) : AI := fun ρ M R => a ρ M fun xs M1 => ∃ j : Int, xs = [.d (.int j)] /\ -(2 ^ 62) <= j /\ j < 2 ^ 62 /\ R (jY 0 1 j.toNat) (fun _ => True) M1
theorem KC {t : TA} {a : AA} (h : j6 t a) : xV (QQ t) (VG a) := ⟨fun w e q k => h.go w e q fun x M1 v H1 O1 ⟨j, e1, j1, j2, q1⟩ k1 w1 r1 => by
 subst e1
 obtain ⟨v1, r', rfl, a1, r2⟩ := r1.cons_inv
 rw [r2.nil_inv, zN a1]
 exact ⟨j, rfl, j1, j2, k _ _ _ _ _ _ q1 k1 w1 (Jy _ _)⟩⟩
theorem vi {H : Hp} {O : Own} {M : MH} (w : Wf H O M) {p : Addr} (hp : H p = none) {x y : V} {d e : Dat} (r1 : Rep H O x d) (r2 : Rep H O y e) : Ext H O M (upd H p (.tup [x, y])) O M /\ Wf (upd H p (.tup [x, y])) O M /\ zl (upd H p (.tup [x, y])) O M (.ref p) (.d (.tup [d, e])) :=
 ⟨qz w hp _, yh w hp _, Rep.tup (w.fresh hp).1 zo rfl fun i z f h1 h2 => by
  match i, h1, h2 with
  | 0, h1, h2 => cases h1; cases h2; exact r1.ext (qz w hp _)
  | 1, h1, h2 => cases h1; cases h2; exact r2.ext (qz w hp _)
  | (i + 2), h1, _ => cases h1⟩
def yq (m n : List Dat) : List AV := (List.range (min m.length n.length)).map fun (i : Nat) => .d (.tup [m.getD i .non, n.getD i .non])
theorem jn (m n : List Dat) : (yq m n).length = min m.length n.length := by simp [yq]
theorem kW {m n : List Dat} {i : Nat} {y : AV} (h : (yq m n)[i]? = some y) : ∃ d e, m[i]? = some d /\ n[i]? = some e /\ y = .d (.tup [d, e]) := by
 have hi := (List.getElem?_eq_some_iff.mp h).1
 rw [jn] at hi
 unfold yq at h
 rw [List.getElem?_map, List.getElem?_range hi] at h
 cases h
 have h1 : i < m.length := by omega
 have h2 : i < n.length := by omega
 exact ⟨m[i], n[i], List.getElem?_eq_getElem h1, List.getElem?_eq_getElem h2, by dsimp only; rw [List.getD_eq_getElem?_getD, List.getElem?_eq_getElem h1, List.getD_eq_getElem?_getD, List.getElem?_eq_getElem h2]; rfl⟩
theorem Jo {K : PySem.W.Frag} {H : Hp} {O : Own} {M : MH} {a b : Addr} {x y : AV} {m n : List Dat} (r : zl H O M (.ref a) x) (h : qi x M = some (m.map .d)) (r' : zl H O M (.ref b) y) (h' : qi y M = some (n.map .d)) : xa (Itz K a b) H O M (yq m n) (fun M' => qi x M' = some (m.map .d) /\ qi y M' = some (n.map .d)) := by
 intro H' O' M' fix mst w' hG i
 obtain ⟨a', xs, e, h1, r1⟩ := qC w' (r.imp fix mst) hG.1
 cases e
 obtain ⟨b', ys, e, h2, r2⟩ := qC w' (r'.imp fix mst) hG.2
 cases e
 have l1 := r1.1
 have l2 := r2.1
 rw [List.length_map] at l1 l2
 refine ⟨fun e => ⟨xs, ys, SqL.of h1, SqL.of h2, by rw [jn] at e; omega⟩, fun z hz => ?_⟩
 obtain ⟨d, f, hd, hf, rfl⟩ := kW hz
 obtain ⟨v, hv, rv⟩ := r1.get (i := i) (d := .d d) (by rw [List.getElem?_map, hd]; rfl)
 obtain ⟨u, hu, ru⟩ := r2.get (i := i) (d := .d f) (by rw [List.getElem?_map, hf]; rfl)
 refine ⟨⟨xs, ys, v, u, SqL.of h1, SqL.of h2, hv, hu⟩, fun z H'' hz => ?_⟩
 obtain ⟨p, x', y', hp, rfl, e2, e3, rfl⟩ := hz
 have := e2 xs (SqL.of h1)
 rw [hv] at this; cases this
 have := e3 ys (SqL.of h2)
 rw [hu] at this; cases this
 exact vi w' hp rv ru
theorem Zf {K : PySem.W.Frag} {H : Hp} {O : Own} {M : MH} {a b : Addr} {m n : List Dat} (hmn : m.length <= n.length) (r : zl H O M (.ref a) (.d (.tup m))) (r' : zl H O M (.ref b) (.d (.tup n))) : xa (YL K a b) H O M (yq m n) (fun _ => True) := by
 intro H' O' M' fix mst w' hG i
 obtain ⟨a', xs, e, h1, r1⟩ := ja (l := m.map .d) (r.imp fix mst) rfl
 cases e
 obtain ⟨b', ys, e, h2, r2⟩ := ja (l := n.map .d) (r'.imp fix mst) rfl
 cases e
 have l1 := r1.1
 have l2 := r2.1
 rw [List.length_map] at l1 l2
 refine ⟨fun e => ⟨xs, SqT.of h1, by rw [jn] at e; omega⟩, fun z hz => ?_⟩
 obtain ⟨d, f, hd, hf, rfl⟩ := kW hz
 obtain ⟨v, hv, rv⟩ := r1.get (i := i) (d := .d d) (by rw [List.getElem?_map, hd]; rfl)
 obtain ⟨u, hu, ru⟩ := r2.get (i := i) (d := .d f) (by rw [List.getElem?_map, hf]; rfl)
 refine ⟨⟨xs, ys, v, u, SqT.of h1, SqT.of h2, hv, hu⟩, fun z H'' hz => ?_⟩
 obtain ⟨p, x', y', hp, rfl, e2, e3, rfl⟩ := hz
 have := e2 xs (SqT.of h1)
 rw [hv] at this; cases this
 have := e3 ys (SqT.of h2)
 rw [hu] at this; cases this
 exact vi w' hp rv ru
def Ws (a : AA) : AI := fun ρ M R => a ρ M fun xs M1 => ∃ x y m n, xs = [x, y] /\ ((qi x M1 = some (List.map AV.d m) /\ qi y M1 = some (List.map AV.d n)) \/ (x = .d (.tup m) /\ y = .d (.tup n) /\ m.length <= n.length)) /\ R (yq m n) (fun M' => qi x M' = qi x M1 /\ qi y M' = qi y M1) M1
theorem Kj {K : PySem.W.Frag} {t : TA} {a : AA} (h : j6 t a) : xV (v0 K t) (Ws a) := ⟨fun w e q k => h.go w e q fun xs M1 v H1 O1 ⟨x, y, m, n, e1, hxy, q1⟩ k1 w1 r1 => by
 subst e1
 obtain ⟨v1, r', rfl, a1, r2⟩ := r1.cons_inv
 obtain ⟨v2, r', rfl, a2, r3⟩ := r2.cons_inv
 rw [r3.nil_inv]
 rcases hxy with ⟨hx, hy⟩ | ⟨rfl, rfl, hmn⟩
 ·obtain ⟨a, xs, rfl, h1, _⟩ := qC w1 a1 hx
  obtain ⟨b, ys, rfl, h2, _⟩ := qC w1 a2 hy
  exact ⟨a, b, rfl, .inl ⟨⟨xs, SqL.of h1⟩, ⟨ys, SqL.of h2⟩, k _ _ _ _ _ _ q1 k1 w1 ((Jo a1 hx a2 hy).mono fun _ z => ⟨z.1.trans hx, z.2.trans hy⟩)⟩⟩
 ·obtain ⟨a, xs, rfl, h1, _⟩ := ja (l := m.map .d) a1 rfl
  obtain ⟨b, ys, rfl, h2, _⟩ := ja (l := n.map .d) a2 rfl
  exact ⟨a, b, rfl, .inr ⟨⟨xs, SqT.of h1⟩, ⟨ys, SqT.of h2⟩, k _ _ _ _ _ _ q1 k1 w1 ((Zf hmn a1 a2).mono fun _ _ => trivial)⟩⟩⟩
structure kr (D : Addr) (H : Hp) (O : Own) (M : MH) (H' : Hp) (O' : Own) (M' : MH) : Prop where
 fix : ∀ a o, ¬ O a -> H a = some o -> H' a = some o /\ ¬ O' a
 prv : ∀ a, a ≠ D -> O a -> M a = none -> H' a = H a /\ O' a /\ M' a = none
 mst : ∀ a, M a ≠ none -> M' a ≠ none
theorem Ext.x {D : Addr} {H H' : Hp} {O O' : Own} {M M' : MH} (k : Ext H O M H' O' M') : kr D H O M H' O' M' := ⟨k.fix, fun a _ => k.prv a, k.mst⟩
theorem kr.trans {D : Addr} {H H1 H2 : Hp} {O O1 O2 : Own} {M M1 M2 : MH} (a : kr D H O M H1 O1 M1) (b : kr D H1 O1 M1 H2 O2 M2) : kr D H O M H2 O2 M2 :=
 ⟨fun x o h e => let ⟨e1, h1⟩ := a.fix x o h e; b.fix x o h1 e1, fun x hx h e => by
  obtain ⟨e1, h1, n1⟩ := a.prv x hx h e
  obtain ⟨e2, h2, n2⟩ := b.prv x hx h1 n1
  exact ⟨e2.trans e1, h2, n2⟩, fun x h => b.mst x (a.mst x h)⟩
theorem kr.set {D : Addr} {H : Hp} {O : Own} {M : MH} (hO : O D) (o : HO) : kr D H O M (upd H D o) O M := ⟨jy hO o, fun a ha h e => ⟨zf ha, h, e⟩, fun _ h => h⟩
theorem Er.imp {H H' : Hp} {O O' : Own} {M M' : MH} {σ : St} {ρ : ASt} (e : Er H O M σ ρ) (k : ∀ a o, ¬ O a -> H a = some o -> H' a = some o /\ ¬ O' a) (hm : ∀ a, M a ≠ none -> M' a ≠ none) : Er H' O' M' σ ρ := ⟨e.len, fun i x h => let ⟨v, h1, h2⟩ := e.get i x h; ⟨v, h1, h2.imp k hm⟩⟩
abbrev ATR := List AV -> ASt -> MH -> (List AV -> ASt -> MH -> Prop) -> Prop
structure xG (D : Addr) (tr : TR) (a : ATR) : Prop where
 go : ∀ {σ : St} {H : Hp} {O : Own} {ρ : ASt} {M : MH} {acc : List AV} {ys : List V} {N : St -> Hp -> Prop} {N' : List AV -> ASt -> MH -> Prop}, Wf H O M -> Er H O M σ ρ -> O D -> M D = none -> H D = some (.lst ys) -> ze H O M ys acc -> a acc ρ M N' ->
  (∀ acc' ρ' M' σ' H' O' ys', N' acc' ρ' M' -> kr D H O M H' O' M' -> Wf H' O' M' -> Er H' O' M' σ' ρ' -> O' D -> M' D = none -> H' D = some (.lst ys') -> ze H' O' M' ys' acc' -> N σ' H') -> tr σ H N
def jO (a : AE) : ATR := fun acc ρ M N => a ρ M fun x M1 => acc.length < sizeLine /\ N (acc ++ [x]) ρ M1
theorem xb {D : Addr} {t : TE} {a : AE} (h : zQ t a) : xG D (kQ t D) (jO a) := ⟨fun {σ H O ρ M acc ys N N'} w e o m hd r q k => h.go w e q fun x M1 v H1 O1 ⟨q0, q1⟩ k1 w1 r1 => by
 obtain ⟨e1, o1, m1⟩ := k1.prv D o m
 have r' := r.ext k1
 refine ⟨ys, e1.trans hd, by rw [r.1]; exact q0, k _ _ _ _ _ _ (ys ++ [v]) q1 (k1.x.trans (kr.set o1 _)) (vY w1 o1 m1 (e1.trans hd) _ (fun _ z => nomatch z)) ((e.ext k1).imp (jy o1 _) (fun _ z => z)) o1 m1 zo ((r'.snoc r1).imp (jy o1 _) (fun _ z => z))⟩⟩
def yu (ag : AG) (at_ : AT) (tr : ATR) (G : MH -> Prop) (N : List AV -> ASt -> MH -> Prop) (l acc : List AV) (ρ : ASt) (M : MH) : Prop :=
 ∃ Pv : Nat -> List AV -> ASt -> MH -> Prop, Pv 0 acc ρ M /\ (∀ i x acc ρ M, l[i]? = some x -> Pv i acc ρ M -> G M /\ ag x ρ M fun ρ2 M2 => at_ ρ2 M2 fun b M3 => if b = true then tr acc ρ2 M3 (Pv (i + 1)) else Pv (i + 1) acc ρ2 M3) /\ ∀ acc ρ M, Pv l.length acc ρ M -> G M /\ N acc ρ M
theorem Qq {D : Addr} {g : TG} {tt : TT} {tr : TR} {ag : AG} {at_ : AT} {atr : ATR} (hg : kg g ag) (ht : jJ tt at_) (hr : xG D tr atr) {J : It} {H1 : Hp} {O1 : Own} {M1 : MH} {l : List AV} {G : MH -> Prop} (hj : xa J H1 O1 M1 l G) {N' : List AV -> ASt -> MH -> Prop} {N : St -> Hp -> Prop}
  {σ : St} {ρ : ASt} {acc : List AV} {ys : List V} (w : Wf H1 O1 M1) (e : Er H1 O1 M1 σ ρ) (o : O1 D) (m : M1 D = none) (hd : H1 D = some (.lst ys)) (r : ze H1 O1 M1 ys acc) (q : yu ag at_ atr G N' l acc ρ M1)
  (k : ∀ acc' ρ' M' σ' H' O' ys', N' acc' ρ' M' -> kr D H1 O1 M1 H' O' M' -> Wf H' O' M' -> Er H' O' M' σ' ρ' -> O' D -> M' D = none -> H' D = some (.lst ys') -> ze H' O' M' ys' acc' -> N σ' H') : CL J g tt tr N σ H1 := by
 obtain ⟨Pv, p0, ps, pd⟩ := q
 refine ⟨fun i n σ H => n = l.length - i /\ i <= l.length /\ ∃ O ρ M acc ys, Wf H O M /\ Er H O M σ ρ /\ kr D H1 O1 M1 H O M /\ O D /\ M D = none /\ H D = some (.lst ys) /\ ze H O M ys acc /\ Pv i acc ρ M,
  ⟨l.length, by simp, Nat.zero_le _, O1, ρ, M1, acc, ys, w, e, Ext.refl.x, o, m, hd, r, p0⟩, ?_⟩
 rintro i n σ H ⟨rfl, hi, O, ρ, M, acc, ys, w, e, x, o, m, hd, r, hf⟩
 by_cases hil : i < l.length
 ·have hy : l[i]? = some l[i] := List.getElem?_eq_getElem hil
  obtain ⟨hG, q2⟩ := ps i l[i] acc ρ M hy hf
  obtain ⟨j1, j2⟩ := (hj H O M x.fix x.mst w hG i).2 l[i] hy
  refine .inr ⟨j1, fun σ' H' => ∃ O ρ M acc ys, Wf H' O M /\ Er H' O M σ' ρ /\ kr D H1 O1 M1 H' O M /\ O D /\ M D = none /\ H' D = some (.lst ys) /\ ze H' O M ys acc /\ Pv (i + 1) acc ρ M, fun σ' H' z => ⟨l.length - (i + 1), by omega, rfl, hil, z⟩, fun v H' hv => ?_⟩
  obtain ⟨k2, w2, r2⟩ := j2 v H' hv
  refine hg.go w2 (e.ext k2) r2 q2 fun σ3 H3 O3 ρ3 M3 q3 k3 w3 e3 => ?_
  refine ht.go w3 e3 q3 fun b M4 H4 O4 q4 k4 w4 => ?_
  have k24 := (k2.trans k3).trans k4
  obtain ⟨d4, o4, m4⟩ := k24.prv D o m
  have r4 := r.ext k24
  cases b with
  | true =>
   exact hr.go w4 (e3.ext k4) o4 m4 (d4.trans hd) r4 q4 fun acc' ρ' M' σ' H' O' ys' q5 k5 w5 e5 o5 m5 d5 r5 => ⟨O', ρ', M', acc', ys', w5, e5, (x.trans k24.x).trans k5, o5, m5, d5, r5, q5⟩
  | false =>
   exact ⟨O4, ρ3, M4, acc, ys, w4, e3.ext k4, x.trans k24.x, o4, m4, d4.trans hd, r4, q4⟩
 ·have e0 : i = l.length := by omega
  subst e0
  obtain ⟨hG, q2⟩ := pd acc ρ M hf
  exact .inl ⟨(hj H O M x.fix x.mst w hG l.length).1 rfl, k _ _ _ _ _ _ _ q2 x w e o m hd r⟩
def v8 (ai : AI) (ag : AG) (at_ : AT) (atr : ATR) : ATR := fun acc ρ M N => ai ρ M fun l G M1 => yu ag at_ atr G N l acc ρ M1
theorem xt {D : Addr} {wi : TI} {g : TG} {tt : TT} {tr : Addr -> TR} {ai : AI} {ag : AG} {at_ : AT} {atr : ATR} (hi : xV wi ai) (hg : kg g ag) (ht : jJ tt at_) (hr : xG D (tr D) atr) : xG D (yi wi g tt tr D) (v8 ai ag at_ atr) := ⟨fun w e o m hd r q k => by
 refine hi.go w e q fun l G M1 J H1 O1 q1 k1 w1 hj => ?_
 obtain ⟨d1, o1, m1⟩ := k1.prv D o m
 exact Qq hg ht hr hj w1 (e.ext k1) o1 m1 (d1.trans hd) (r.ext k1) q1 fun acc' ρ' M' σ' H' O' ys' q5 k5 w5 e5 o5 m5 d5 r5 => k _ _ _ _ _ _ _ q5 (k1.x.trans k5) w5 e5 o5 m5 d5 r5⟩
def wQ (ts : List Nat) (ai : AI) (ag : AG) (at_ : AT) (atr : ATR) : AF := fun ρ M Q => ai ρ M fun l G M1 => yu ag at_ atr G (fun acc _ M' => Q acc M') l [] (Xf ts ρ) M1
theorem kR {ts : List Nat} {wi : TI} {g : TG} {tt : TT} {tr : Addr -> TR} {ai : AI} {ag : AG} {at_ : AT} {atr : ATR} (hi : xV wi ai) (hg : kg g ag) (ht : jJ tt at_) (hr : ∀ D, xG D (tr D) atr) : vP (kh ts wi g tt tr) (wQ ts ai ag at_ atr) := ⟨fun {σ H O ρ M Q Q'} w e q k => by
 refine hi.go w e q fun l G M1 J H1 O1 q1 k1 w1 hj D hD => ?_
 have kp := qZ w1 hD (.lst [])
 have hj' : xa J (upd H1 D (.lst [])) (Zn O1 D) M1 l G := fun H' O' M' fix mst w' hG => hj H' O' M' (fun a o ha ho => fix a o (kp.fix a o ha ho).2 (kp.fix a o ha ho).1) mst w' hG
 refine Qq hg ht (hr D) hj' (xS w1 hD _ (fun _ z => nomatch z)) (((e.ext k1).clr ts).ext kp) (.inl rfl) (w1.fresh hD).2 zo .nil q1 fun acc' ρ' M' σ' H' O' ys' q5 k5 w5 e5 o5 m5 d5 r5 => ?_
 have hH := vB w1 k1 hD
 refine k _ _ _ _ _ _ q5 ⟨fun a o ha ho => ?_, fun a ha hm => ?_, fun a hm => k5.mst a (k1.mst a hm)⟩ w5 o5 m5 hH d5 r5
 ·obtain ⟨x1, x2⟩ := (k1.trans kp).fix a o ha ho
  exact k5.fix a o x2 x1
 ·obtain ⟨x1, x2, x3⟩ := (k1.trans kp).prv a ha hm
  obtain ⟨y1, y2, y3⟩ := k5.prv a (fun z => w.ne a ha (by rw [z]; exact hH)) x2 x3
  exact ⟨y1.trans x1, y2, y3⟩⟩
theorem ZN {ts : List Nat} {wi : TI} {g : TG} {tt : TT} {te : TE} {ai : AI} {ag : AG} {at_ : AT} {ae : AE} (hi : xV wi ai) (hg : kg g ag) (ht : jJ tt at_) (he : zQ te ae) : vP (vH ts wi g tt te) (wQ ts ai ag at_ (jO ae)) :=
 ⟨fun w e q k => (kR (ts := ts) (tr := kQ te) hi hg ht fun D => xb he).go w e q k⟩
end L2
set_option Elab.async false
set_option linter.all false
set_option maxRecDepth 100000
set_option maxHeartbeats 4000000
namespace L2
open PySem PySem.Spec PyProof.Rows
def aI (C : Int -> Int -> Prop) (g : Int -> Int -> Dat) : AR2 := fun x y M Q => ∃ i j, x = .d (.int i) /\ y = .d (.int j) /\ C i j /\ Q (.d (g i j)) M
def aI0 (g : Int -> Int -> Dat) : AR2 := fun x y M Q => ∃ i j, x = .d (.int i) /\ y = .d (.int j) /\ Q (.d (g i j)) M
theorem Ys {C : Int -> Int -> Prop} {f : Int -> Int -> Int} : v9 (rI C fun i j => .int (f i j)) (aI C fun i j => .int (f i j)) := ⟨fun w r1 r2 ⟨i, j, e1, e2, c, q⟩ k => by
 subst e1 e2; exact ⟨i, j, zN r1, zN r2, c, k _ _ _ _ _ q .refl w .int⟩⟩
theorem Ka {f : Int -> Int -> Int} : v9 (rI0 fun i j => .int (f i j)) (aI0 fun i j => .int (f i j)) := ⟨fun w r1 r2 ⟨i, j, e1, e2, q⟩ k => by
 subst e1 e2; exact ⟨i, j, zN r1, zN r2, k _ _ _ _ _ q .refl w .int⟩⟩
theorem ZZ {f : Int -> Int -> Bool} : v9 (rI0 fun i j => .bl (f i j)) (aI0 fun i j => .bl (f i j)) := ⟨fun w r1 r2 ⟨i, j, e1, e2, q⟩ k => by
 subst e1 e2; exact ⟨i, j, zN r1, zN r2, k _ _ _ _ _ q .refl w .bl⟩⟩
def eqS : Dat -> Dat -> Option Bool
 | .non, .non => some true | .non, .int _ => some false | .int _, .non => some false | .non, .bl _ => some false | .bl _, .non => some false | .non, .str _ => some false | .str _, .non => some false
 | .int i, .int j => some (decide (i = j)) | .bl a, .bl b => some (decide (a = b)) | .str a, .str b => some (decide (a = b))
 | .int _, .str _ => some false | .str _, .int _ => some false | .bl _, .str _ => some false | .str _, .bl _ => some false
 | _, _ => none
def jD : AV -> Bool
 | .d .non => true
 | _ => false
theorem Jd {H : Hp} {O : Own} {M : MH} {v : V} {x : AV} (r : zl H O M v x) : decide (v = V.non) = jD x := by
 cases x with
 | ref a => rw [r.1]; rfl
 | d x => cases (show Rep H O v x from r) <;> rfl
def VQ (f : Bool -> Bool) : AR2 := fun x y M Q => y = .d .non /\ Q (.d (.bl (f (jD x)))) M
theorem KQ : v9 (fun x y H Q => y = V.non /\ Q (V.bl (decide (x = V.non))) H) (VQ id) := ⟨fun w r1 r2 ⟨e, q⟩ k => by
 subst e; exact ⟨Ke r2, by rw [Jd r1]; exact k _ _ _ _ _ q .refl w .bl⟩⟩
theorem Kw {H : Hp} {O : Own} {M : MH} {xs : List V} {l : List AV} (r : ze H O M xs l) {i : Int} {x : AV} (h : atI l i = some x) : ∃ v, atI xs i = some v /\ zl H O M v x := by
 unfold atI at h ⊢
 rw [r.1]
 cases e : ixN l.length i with
 | none => rw [e] at h; cases h
 | some j => rw [e] at h; exact r.get h
def aIx (s : AV -> MH -> Option (List AV)) : AR2 := fun x y M Q => ∃ l i z, s x M = some l /\ y = .d (.int i) /\ atI l i = some z /\ Q z M
theorem JX {K : PySem.W.Frag} : v9 (wD K) (aIx jj) := ⟨fun w r1 r2 ⟨l, i, z, h, e, hz, q⟩ k => by
 subst e
 obtain ⟨a, xs, rfl, h1, r⟩ := yr w r1 h
 obtain ⟨v, hv, rv⟩ := Kw r hz
 exact ⟨a, xs, i, v, rfl, zN r2, h1.elim (fun h => .inl (SqL.of h)) (fun h => .inr (SqT.of h)), hv, k _ _ _ _ _ q .refl w rv⟩⟩
structure WI (r : R2) (a : AV -> AV -> MH -> (List AV -> Prop) -> Prop) : Prop where
 go : ∀ {x y : V} {dx dy : AV} {H : Hp} {O : Own} {M : MH} {Q : VK} {Q' : List AV -> Prop}, Wf H O M -> zl H O M x dx -> zl H O M y dy -> a dx dy M Q' -> (∀ l ys, Q' l -> ze H O M ys l -> ∀ p, H p = none -> Q (.ref p) (upd H p (.lst ys))) -> r x y H Q
abbrev AO := ASt -> MH -> (Option Int -> MH -> Prop) -> Prop
structure WK (t : TO) (a : AO) : Prop where
 go : ∀ {σ : St} {H : Hp} {O : Own} {ρ : ASt} {M : MH} {Q : Option Int -> Hp -> Prop} {Q' : Option Int -> MH -> Prop}, Wf H O M -> Er H O M σ ρ -> a ρ M Q' -> (∀ x M' H' O', Q' x M' -> Ext H O M H' O' M' -> Wf H' O' M' -> Q x H') -> t σ H Q
theorem Xb {H : Hp} {O : Own} {M : MH} (w : Wf H O M) {p : Addr} (hp : H p = none) {xs : List V} {l : List Dat} (r : ze H O M xs (l.map .d)) : zl (upd H p (.tup xs)) O M (.ref p) (.d (.tup l)) :=
 have r2 := r.pure
 Rep.tup (w.fresh hp).1 zo r2.1 fun i x d e1 e2 => (r2.2 i x d e1 e2).ext (qz w hp _)
end L2
set_option Elab.async false
set_option linter.all false
set_option maxRecDepth 100000
set_option maxHeartbeats 4000000
namespace L2
open PySem PySem.Spec PyProof.Rows
mutual
def eqD : Dat -> Dat -> Bool
 | .non, .non => true
 | .bl a, .bl b => a == b
 | .bl a, .int b => (if a then 1 else 0) == b
 | .int a, .bl b => a == (if b then 1 else 0)
 | .int a, .int b => a == b
 | .str a, .str b => a == b
 | .lst a, .lst b => jB a b
 | .tup a, .tup b => jB a b
 | _, _ => false
def jB : List Dat -> List Dat -> Bool
 | [], [] => true
 | a :: r, b :: r' => eqD a b && jB r r'
 | _, _ => false
end
mutual
def dp : Dat -> Nat
 | .lst l => dps l + 1
 | .tup l => dps l + 1
 | .rng _ _ _ => 1000
 | .scr _ _ => 1000
 | .ty _ => 1000
 | _ => 0
def dps : List Dat -> Nat
 | [] => 0
 | a :: r => max (dp a) (dps r)
end
theorem yj {l : List Dat} {n : Nat} (h : ∀ d ∈ l, dp d <= n) : dps l <= n := by
 induction l with
 | nil => exact Nat.zero_le _
 | cons a r ih => rw [dps]; exact Nat.max_le.mpr ⟨h a (by simp), ih fun d hd => h d (by simp [hd])⟩
theorem zZ {l : List Dat} {d : Dat} (h : d ∈ l) : dp d <= dps l := by
 induction l with
 | nil => cases h
 | cons a r ih =>
  rw [dps]
  rcases List.mem_cons.mp h with rfl | h
  ·exact Nat.le_max_left _ _
  ·exact Nat.le_trans (ih h) (Nat.le_max_right _ _)
theorem js : ∀ (l m : List Dat), l.length = m.length -> jB l m = (List.range l.length).all fun j => eqD (l.getD j .non) (m.getD j .non)
 | [], [], _ => rfl
 | a :: r, b :: r', h => by
  rw [jB, js r r' (by simpa using h), List.length_cons, List.range_succ_eq_map, List.all_cons, List.all_map]; rfl
 | [], _ :: _, h => by simp at h
 | _ :: _, [], h => by simp at h
theorem jp : ∀ (l m : List Dat), l.length ≠ m.length -> jB l m = false
 | [], [], h => absurd rfl h
 | a :: r, b :: r', h => by rw [jB, jp r r' (fun z => h (by simp [z])), Bool.and_false]
 | [], _ :: _, h => by simp [jB]
 | _ :: _, [], h => by simp [jB]
theorem QU (l m : List Dat) : eqD (.lst l) (.tup m) = false := by simp [eqD]
theorem Jg (l m : List Dat) : eqD (.tup l) (.lst m) = false := by simp [eqD]
theorem KF {p : Dat -> Prop} (h : ∀ a, (∀ b, dp b < dp a -> p b) -> p a) (a : Dat) : p a := by
 have : ∀ n a, dp a <= n -> p a := fun n => by
  induction n with
  | zero => intro a ha; exact h a fun b hb => absurd hb (by omega)
  | succ n ih => intro a ha; exact h a fun b hb => ih b (by omega)
 exact this (dp a) a (Nat.le_refl _)
theorem xL {l : List Dat} (h : ∀ d ∈ l, eqD d d = true) : jB l l = true := by
 induction l with
 | nil => rfl
 | cons a r ih => rw [jB, h a (by simp), ih fun d hd => h d (by simp [hd])]; rfl
theorem QK {a : Dat} : dp a < 1000 -> eqD a a = true := by
 refine KF (p := fun a => dp a < 1000 -> eqD a a = true) (fun a ih ha => ?_) a
 cases a with
 | non => rfl
 | bl b => rw [eqD]; simp
 | int i => rw [eqD]; simp
 | str x => rw [eqD]; simp
 | lst l =>
  rw [eqD]
  rw [dp] at ha ih
  exact xL fun d hd => ih d (by have := zZ hd; omega) (by have := zZ hd; omega)
 | tup l =>
  rw [eqD]
  rw [dp] at ha ih
  exact xL fun d hd => ih d (by have := zZ hd; omega) (by have := zZ hd; omega)
 | rng a b c => rw [dp] at ha; omega
 | scr _ l => rw [dp] at ha; omega
 | ty l => rw [dp] at ha; omega
theorem Rep.fn {H : Hp} {O O' : Own} {v : V} {a b : Dat} (r : Rep H O v a) : Rep H O' v b -> dp a < 1000 -> dp b < 1000 -> a = b := by
 induction r generalizing b with
 | non => intro r' _ _; cases r'; rfl
 | bl => intro r' _ _; cases r'; rfl
 | int => intro r' _ _; cases r'; rfl
 | str => intro r' _ _; cases r'; rfl
 | ty => intro r' h _; rw [dp] at h; omega
 | rng _ _ => intro r' h _; rw [dp] at h; omega
 | scr _ _ => intro r' h _; rw [dp] at h; omega
 | scrK _ => intro r' h _; rw [dp] at h; omega
 | @lst a xs l o1 h1 l1 r1 ih =>
  intro r' ha hb
  cases r' with
  | @lst _ ys m o2 h2 l2 r2 =>
   rw [h1] at h2; cases h2
   congr 1
   refine List.ext_getElem (l1.symm.trans l2) fun i i1 i2 => ?_
   have i0 : i < xs.length := by omega
   rw [dp] at ha hb
   refine ih i xs[i] l[i] (by simp [i0]) (by simp [i1]) (r2 i xs[i] m[i] (by simp [i0]) (by simp [i2])) ?_ ?_
   ·have := zZ (List.getElem_mem i1); omega
   ·have := zZ (List.getElem_mem i2); omega
  | @tup _ ys m o2 h2 => rw [h1] at h2; cases h2
  | rng o2 h2 => rw [dp] at hb; omega
  | scr o2 h2 => rw [dp] at hb; omega
  | scrK _ => rw [dp] at hb; omega
 | @tup a xs l o1 h1 l1 r1 ih =>
  intro r' ha hb
  cases r' with
  | @tup _ ys m o2 h2 l2 r2 =>
   rw [h1] at h2; cases h2
   congr 1
   refine List.ext_getElem (l1.symm.trans l2) fun i i1 i2 => ?_
   have i0 : i < xs.length := by omega
   rw [dp] at ha hb
   refine ih i xs[i] l[i] (by simp [i0]) (by simp [i1]) (r2 i xs[i] m[i] (by simp [i0]) (by simp [i2])) ?_ ?_
   ·have := zZ (List.getElem_mem i1); omega
   ·have := zZ (List.getElem_mem i2); omega
  | @lst _ ys m o2 h2 => rw [h1] at h2; cases h2
  | rng o2 h2 => rw [dp] at hb; omega
  | scr o2 h2 => rw [dp] at hb; omega
  | scrK _ => rw [dp] at hb; omega
section
variable {X : Cx} {pins : List (Addr × Obj)} {s : Shared} {σ : St} {H : Hp}
theorem jl {xs : List V} {us : List Value} (r : zv xs us) {j : Nat} (h : j < us.toArray.size) : ∃ x, xs[j]? = some x /\ zt x us.toArray[j] := by
 have h' : j < us.length := by simpa using h
 have hx : j < xs.length := by rw [r.length]; exact h'
 obtain ⟨u, hu, ru⟩ := r.get (i := j) (List.getElem?_eq_getElem hx)
 have e : us.toArray[j] = u := by
  have := (List.getElem?_eq_some_iff.mp hu).2
  simpa using this
 exact ⟨xs[j], List.getElem?_eq_getElem hx, by rw [e]; exact ru⟩
theorem QP (I : Inv X pins σ H s) {A : Around} {p q : Addr} {O O' : Own} {a b : Dat} (ih : ∀ (c d : Dat) (v u : V) (v' u' : Value), dp c < dp a -> Rep H O v c -> Rep H O' u d -> dp d < 1000 -> zt v v' -> zt u u' -> SeqAt.EqAt A.in1 s v' u' (eqD c d))
    (ra : Rep H O (.ref p) a) (rb : Rep H O' (.ref q) b) (ha : dp a < 1000) (hb : dp b < 1000) (hu : A.units < cLine) : SeqAt.RcAt A s (.ref p) (.ref q) (eqD a b) := by
  cases ra with
  | @lst _ xs l o1 h1 l1 r1 =>
    obtain ⟨us, u1, p1, z1⟩ := I.list (SqL.of h1)
    cases rb with
    | @lst _ ys m o2 h2 l2 r2 =>
      obtain ⟨ws, u2, p2, z2⟩ := I.list (SqL.of h2)
      have s1 : us.toArray.size = l.length := by rw [List.size_toArray, <- u1.length, l1]
      have s2 : ws.toArray.size = m.length := by rw [List.size_toArray, <- u2.length, l2]
      by_cases e : l.length = m.length
      · have h := SeqAt.RcAt.lists (A := A) (e := fun j => eqD (l.getD j .non) (m.getD j .non)) p1.isList p2.isList (by rw [s1, s2, e]) hu (fun j j1 j2 => by
          obtain ⟨x, hx, rx⟩ := jl u1 j1
          obtain ⟨y, hy, ry⟩ := jl u2 j2
          have k1 : j < l.length := by rw [<- s1]; exact j1
          have k2 : j < m.length := by rw [<- s2]; exact j2
          rw [dp] at ha hb ih
          refine ih _ _ x y _ _ ?_ (r1 j x _ hx ?_) (r2 j y _ hy ?_) ?_ rx ry
          · rw [List.getD_eq_getElem?_getD, List.getElem?_eq_getElem k1]
            have := zZ (List.getElem_mem k1); show dp l[j] < _; omega
          · rw [List.getD_eq_getElem?_getD, List.getElem?_eq_getElem k1]; rfl
          · rw [List.getD_eq_getElem?_getD, List.getElem?_eq_getElem k2]; rfl
          · rw [List.getD_eq_getElem?_getD, List.getElem?_eq_getElem k2]
            have := zZ (List.getElem_mem k2); show dp m[j] < _; omega)
        rw [s1, <- js l m e] at h
        rw [eqD]; exact h
      · rw [eqD, jp l m e]
        exact SeqAt.RcAt.lists_lengths p1.isList p2.isList (by rw [s1, s2]; simpa using e) hu
    | @tup _ ys m o2 h2 l2 r2 =>
      obtain ⟨ws, u2, p2, z2⟩ := I.tuple (SqT.of h2)
      rw [QU]
      exact SeqAt.RcAt.list_tuple p1.isList p2 hu
    | rng o2 h2 => rw [dp] at hb; omega
    | scr o2 h2 => rw [dp] at hb; omega
    | scrK _ => rw [dp] at hb; omega
  | @tup _ xs l o1 h1 l1 r1 =>
    obtain ⟨us, u1, p1, z1⟩ := I.tuple (SqT.of h1)
    cases rb with
    | @tup _ ys m o2 h2 l2 r2 =>
      obtain ⟨ws, u2, p2, z2⟩ := I.tuple (SqT.of h2)
      have s1 : us.toArray.size = l.length := by rw [List.size_toArray, <- u1.length, l1]
      have s2 : ws.toArray.size = m.length := by rw [List.size_toArray, <- u2.length, l2]
      have h := SeqAt.RcAt.tuples (A := A) (e := fun j => eqD (l.getD j .non) (m.getD j .non)) (show s.heap.IsTuple p us.toArray from p1) (show s.heap.IsTuple q ws.toArray from p2) hu (fun j j1 j2 => by
          obtain ⟨x, hx, rx⟩ := jl u1 j1
          obtain ⟨y, hy, ry⟩ := jl u2 j2
          have k1 : j < l.length := by rw [<- s1]; exact j1
          have k2 : j < m.length := by rw [<- s2]; exact j2
          rw [dp] at ha hb ih
          refine ih _ _ x y _ _ ?_ (r1 j x _ hx ?_) (r2 j y _ hy ?_) ?_ rx ry
          · rw [List.getD_eq_getElem?_getD, List.getElem?_eq_getElem k1]
            have := zZ (List.getElem_mem k1); show dp l[j] < _; omega
          · rw [List.getD_eq_getElem?_getD, List.getElem?_eq_getElem k1]; rfl
          · rw [List.getD_eq_getElem?_getD, List.getElem?_eq_getElem k2]; rfl
          · rw [List.getD_eq_getElem?_getD, List.getElem?_eq_getElem k2]
            have := zZ (List.getElem_mem k2); show dp m[j] < _; omega)
      rw [s1, s2] at h
      rw [eqD]
      by_cases e : l.length = m.length
      · rw [<- e, Nat.min_self, beq_self_eq_true, Bool.and_true, <- js l m e] at h
        exact h
      · rw [jp l m e]
        rw [show (l.length == m.length) = false by simpa using e, Bool.and_false] at h
        exact h
    | @lst _ ys m o2 h2 l2 r2 =>
      obtain ⟨ws, u2, p2, z2⟩ := I.list (SqL.of h2)
      rw [Jg]
      exact SeqAt.RcAt.tuple_list p1 p2.isList hu
    | rng o2 h2 => rw [dp] at hb; omega
    | scr o2 h2 => rw [dp] at hb; omega
    | scrK _ => rw [dp] at hb; omega
  | rng o2 h2 => rw [dp] at ha; omega
  | scr o2 h2 => rw [dp] at ha; omega
  | scrK _ => rw [dp] at ha; omega
theorem WD (I : Inv X pins σ H s) {a : Addr} {xs : List V} (h : H a = some (.lst xs)) : ∃ us, s.heap.IsList a us := let ⟨_, _, p, _⟩ := I.list (SqL.of h); ⟨_, p.isList⟩
theorem WF (I : Inv X pins σ H s) {a : Addr} {xs : List V} (h : H a = some (.tup xs)) : ∃ us, s.heap.IsTuple a us := let ⟨_, _, p, _⟩ := I.tuple (SqT.of h); ⟨_, p⟩
local macro_rules | `(tactic| walk_at "sc") => `(tactic| first
 | with_reducible exact .same _ | with_reducible exact .none_none | with_reducible exact .none_bool _ | with_reducible exact .none_int _ _ | with_reducible exact .none_str _ _ | with_reducible exact .bool_none _ | with_reducible exact .bool_bool _ _ | with_reducible exact .bool_int _ _ _ | with_reducible exact .bool_str _ _ _ | with_reducible exact .int_none _ _ | with_reducible exact .int_bool _ _ _ | with_reducible exact .int_int _ _ _ _ | with_reducible exact .int_str _ _ _ _ | with_reducible exact .str_none _ _ | with_reducible exact .str_bool _ _ _ | with_reducible exact .str_int _ _ _ _ | with_reducible exact .str_str _ _ _ _)
theorem ls_ (I : Inv X pins σ H s) {a : Addr} {xs : List V} (h : H a = some (.lst xs)) : s.heap.IsList a (Classical.choose (WD I h)) := Classical.choose_spec _
theorem ts_ (I : Inv X pins σ H s) {a : Addr} {xs : List V} (h : H a = some (.tup xs)) : s.heap.IsTuple a (Classical.choose (WF I h)) := Classical.choose_spec _
local macro_rules | `(tactic| walk_at "sq") => `(tactic| first
 | with_reducible exact .none_list (ls_ (by assumption) (by assumption)) (by assumption) | with_reducible exact .bool_list _ (ls_ (by assumption) (by assumption)) (by assumption) | with_reducible exact .int_list _ _ (ls_ (by assumption) (by assumption)) (by assumption) | with_reducible exact .str_list _ _ (ls_ (by assumption) (by assumption)) (by assumption) | with_reducible exact .list_none (ls_ (by assumption) (by assumption)) (by assumption) | with_reducible exact .list_bool _ (ls_ (by assumption) (by assumption)) (by assumption) | with_reducible exact .list_int _ _ (ls_ (by assumption) (by assumption)) (by assumption) | with_reducible exact .list_str _ _ (ls_ (by assumption) (by assumption)) (by assumption)
 | with_reducible exact .none_tuple (ts_ (by assumption) (by assumption)) (by assumption) | with_reducible exact .bool_tuple _ (ts_ (by assumption) (by assumption)) (by assumption) | with_reducible exact .int_tuple _ _ (ts_ (by assumption) (by assumption)) (by assumption) | with_reducible exact .str_tuple _ _ (ts_ (by assumption) (by assumption)) (by assumption) | with_reducible exact .tuple_none (ts_ (by assumption) (by assumption)) (by assumption) | with_reducible exact .tuple_bool _ (ts_ (by assumption) (by assumption)) (by assumption) | with_reducible exact .tuple_int _ _ (ts_ (by assumption) (by assumption)) (by assumption) | with_reducible exact .tuple_str _ _ (ts_ (by assumption) (by assumption)) (by assumption))
theorem wo (I : Inv X pins σ H s) {O O' : Own} (A : Around) (hu : A.units < cLine) (a b : Dat) (v u : V) (v' u' : Value) (ha : dp a < 1000) (ra : Rep H O v a) (rb : Rep H O' u b) (hb : dp b < 1000) (rv : zt v v') (ru : zt u u')
    (ih : ∀ (c d : Dat) (v u : V) (v' u' : Value), dp c < dp a -> Rep H O v c -> Rep H O' u d -> dp d < 1000 -> zt v v' -> zt u u' -> SeqAt.EqAt A.in1 s v' u' (eqD c d)) : SeqAt.EqAt A s v' u' (eqD a b) := by
  by_cases hr : ∃ p q, v = .ref p /\ u = .ref q
  · obtain ⟨p, q, rfl, rfl⟩ := hr
    cases rv
    cases ru
    by_cases e : p = q
    · subst e
      rw [<- ra.fn rb ha hb, QK ha]
      exact .same _
    · exact .of_refs e (QP I ih ra rb ha hb hu)
  · cases ra <;> cases rb <;> first
      | with_reducible exact absurd ⟨_, _, rfl, rfl⟩ hr
      | (rw [dp] at ha; omega)
      | (rw [dp] at hb; omega)
      | ((first | (obtain ⟨t0, rfl⟩ := rv) | cases rv); (first | (obtain ⟨t1, rfl⟩ := ru) | cases ru); simp only [eqD, Bool.not_false, Bool.not_true]; first | walk_at "sc" | walk_at "sq")
theorem Jp (I : Inv X pins σ H s) {O O' : Own} : ∀ (n : Nat) (A : Around), A.units + n < cLine -> ∀ (a b : Dat) (v u : V) (v' u' : Value), dp a <= n -> n < 1000 -> Rep H O v a -> Rep H O' u b -> dp b < 1000 -> zt v v' -> zt u u' -> SeqAt.EqAt A s v' u' (eqD a b) := by
 intro n
 induction n with
 | zero =>
  intro A hu a b v u v' u' ha _ ra rb hb rv ru
  exact wo I A (by omega) a b v u v' u' (by omega) ra rb hb rv ru fun _ _ _ _ _ _ h => absurd h (by omega)
 | succ n ih =>
  intro A hu a b v u v' u' ha hn ra rb hb rv ru
  exact wo I A (by omega) a b v u v' u' (by omega) ra rb hb rv ru fun c d x y x' y' hc rc rd hd rx ry => ih A.in1 (by show A.units + 1 + n < _; omega) c d x y x' y' (by omega) (by omega) rc rd hd rx ry
def Yq (f : Bool -> Bool) : R2 := fun x y H Q => ∃ O O' a b, Rep H O x a /\ Rep H O' y b /\ dp a <= 40 /\ dp b <= 40 /\ Q (.bl (f (eqD a b))) H
theorem XF (I : Inv X pins σ H s) {O O' : Own} (A : Around) (hu : A.units + 41 < cLine) (a b : Dat) (v u : V) (v' u' : Value) (ha : dp a <= 40) (ra : Rep H O v a) (rb : Rep H O' u b) (hb : dp b <= 40) (rv : zt v v') (ru : zt u u') : SeqAt.RcAt A s v' u' (eqD a b) := by
  have ih : ∀ (c d : Dat) (v u : V) (v' u' : Value), dp c < dp a -> Rep H O v c -> Rep H O' u d -> dp d < 1000 -> zt v v' -> zt u u' -> SeqAt.EqAt A.in1 s v' u' (eqD c d) := fun c d v u v' u' hc rc rd hd rv ru => Jp I 40 A.in1 (by show A.units + 1 + 40 < _; omega) c d v u v' u' (by omega) (by omega) rc rd hd rv ru
  replace hu : A.units < cLine := by omega
  by_cases hr : ∃ p q, v = .ref p /\ u = .ref q
  · obtain ⟨p, q, rfl, rfl⟩ := hr
    cases rv
    cases ru
    exact QP I ih ra rb (by omega) (by omega) hu
  · cases ra <;> cases rb <;> first
      | with_reducible exact absurd ⟨_, _, rfl, rfl⟩ hr
      | (rw [dp] at ha; omega)
      | (rw [dp] at hb; omega)
      | ((first | (obtain ⟨t0, rfl⟩ := rv) | cases rv); (first | (obtain ⟨t1, rfl⟩ := ru) | cases ru); simp only [eqD, Bool.not_false, Bool.not_true]; first | walk_at "sc" | walk_at "sq")
theorem QY (I : Inv X pins σ H s) {A : Around} {p q : Addr} {O O' : Own} {a b : Dat} (ih : ∀ (c d : Dat) (v u : V) (v' u' : Value), dp c < dp a -> Rep H O v c -> Rep H O' u d -> dp d < 1000 -> zt v v' -> zt u u' -> SeqAt.EqAt A.in1 s v' u' (eqD c d))
    (ra : Rep H O (.ref p) a) (rb : Rep H O' (.ref q) b) (ha : dp a < 1000) (hb : dp b < 1000) (hu : A.units < cLine) : SeqAt.RcNeAt A s (.ref p) (.ref q) (!(eqD a b)) := by
  cases ra with
  | @lst _ xs l o1 h1 l1 r1 =>
    obtain ⟨us, u1, p1, z1⟩ := I.list (SqL.of h1)
    cases rb with
    | @lst _ ys m o2 h2 l2 r2 =>
      obtain ⟨ws, u2, p2, z2⟩ := I.list (SqL.of h2)
      have s1 : us.toArray.size = l.length := by rw [List.size_toArray, <- u1.length, l1]
      have s2 : ws.toArray.size = m.length := by rw [List.size_toArray, <- u2.length, l2]
      by_cases e : l.length = m.length
      · have h := SeqAt.RcNeAt.lists (A := A) (e := fun j => eqD (l.getD j .non) (m.getD j .non)) p1.isList p2.isList (by rw [s1, s2, e]) hu (fun j j1 j2 => by
          obtain ⟨x, hx, rx⟩ := jl u1 j1
          obtain ⟨y, hy, ry⟩ := jl u2 j2
          have k1 : j < l.length := by rw [<- s1]; exact j1
          have k2 : j < m.length := by rw [<- s2]; exact j2
          rw [dp] at ha hb ih
          refine ih _ _ x y _ _ ?_ (r1 j x _ hx ?_) (r2 j y _ hy ?_) ?_ rx ry
          · rw [List.getD_eq_getElem?_getD, List.getElem?_eq_getElem k1]
            have := zZ (List.getElem_mem k1); show dp l[j] < _; omega
          · rw [List.getD_eq_getElem?_getD, List.getElem?_eq_getElem k1]; rfl
          · rw [List.getD_eq_getElem?_getD, List.getElem?_eq_getElem k2]; rfl
          · rw [List.getD_eq_getElem?_getD, List.getElem?_eq_getElem k2]
            have := zZ (List.getElem_mem k2); show dp m[j] < _; omega)
        rw [s1, <- js l m e] at h
        rw [eqD]; exact h
      · rw [eqD, jp l m e]
        exact SeqAt.RcNeAt.lists_lengths p1.isList p2.isList (by rw [s1, s2]; simpa using e) hu
    | @tup _ ys m o2 h2 l2 r2 =>
      obtain ⟨ws, u2, p2, z2⟩ := I.tuple (SqT.of h2)
      rw [QU]
      exact SeqAt.RcNeAt.list_tuple p1.isList p2 hu
    | rng o2 h2 => rw [dp] at hb; omega
    | scr o2 h2 => rw [dp] at hb; omega
    | scrK _ => rw [dp] at hb; omega
  | @tup _ xs l o1 h1 l1 r1 =>
    obtain ⟨us, u1, p1, z1⟩ := I.tuple (SqT.of h1)
    cases rb with
    | @tup _ ys m o2 h2 l2 r2 =>
      obtain ⟨ws, u2, p2, z2⟩ := I.tuple (SqT.of h2)
      have s1 : us.toArray.size = l.length := by rw [List.size_toArray, <- u1.length, l1]
      have s2 : ws.toArray.size = m.length := by rw [List.size_toArray, <- u2.length, l2]
      have h := SeqAt.RcNeAt.tuples (A := A) (e := fun j => eqD (l.getD j .non) (m.getD j .non)) (show s.heap.IsTuple p us.toArray from p1) (show s.heap.IsTuple q ws.toArray from p2) hu (fun j j1 j2 => by
          obtain ⟨x, hx, rx⟩ := jl u1 j1
          obtain ⟨y, hy, ry⟩ := jl u2 j2
          have k1 : j < l.length := by rw [<- s1]; exact j1
          have k2 : j < m.length := by rw [<- s2]; exact j2
          rw [dp] at ha hb ih
          refine ih _ _ x y _ _ ?_ (r1 j x _ hx ?_) (r2 j y _ hy ?_) ?_ rx ry
          · rw [List.getD_eq_getElem?_getD, List.getElem?_eq_getElem k1]
            have := zZ (List.getElem_mem k1); show dp l[j] < _; omega
          · rw [List.getD_eq_getElem?_getD, List.getElem?_eq_getElem k1]; rfl
          · rw [List.getD_eq_getElem?_getD, List.getElem?_eq_getElem k2]; rfl
          · rw [List.getD_eq_getElem?_getD, List.getElem?_eq_getElem k2]
            have := zZ (List.getElem_mem k2); show dp m[j] < _; omega)
      rw [s1, s2] at h
      rw [eqD]
      by_cases e : l.length = m.length
      · rw [<- e, Nat.min_self, beq_self_eq_true, Bool.and_true, <- js l m e] at h
        exact h
      · rw [jp l m e]
        rw [show (l.length == m.length) = false by simpa using e, Bool.and_false] at h
        exact h
    | @lst _ ys m o2 h2 l2 r2 =>
      obtain ⟨ws, u2, p2, z2⟩ := I.list (SqL.of h2)
      rw [Jg]
      exact SeqAt.RcNeAt.tuple_list p1 p2.isList hu
    | rng o2 h2 => rw [dp] at hb; omega
    | scr o2 h2 => rw [dp] at hb; omega
    | scrK _ => rw [dp] at hb; omega
  | rng o2 h2 => rw [dp] at ha; omega
  | scr o2 h2 => rw [dp] at ha; omega
  | scrK _ => rw [dp] at ha; omega
theorem JF (I : Inv X pins σ H s) {O O' : Own} (A : Around) (hu : A.units + 41 < cLine) (a b : Dat) (v u : V) (v' u' : Value) (ha : dp a <= 40) (ra : Rep H O v a) (rb : Rep H O' u b) (hb : dp b <= 40) (rv : zt v v') (ru : zt u u') : SeqAt.RcNeAt A s v' u' (!(eqD a b)) := by
  have ih : ∀ (c d : Dat) (v u : V) (v' u' : Value), dp c < dp a -> Rep H O v c -> Rep H O' u d -> dp d < 1000 -> zt v v' -> zt u u' -> SeqAt.EqAt A.in1 s v' u' (eqD c d) := fun c d v u v' u' hc rc rd hd rv ru => Jp I 40 A.in1 (by show A.units + 1 + 40 < _; omega) c d v u v' u' (by omega) (by omega) rc rd hd rv ru
  replace hu : A.units < cLine := by omega
  by_cases hr : ∃ p q, v = .ref p /\ u = .ref q
  · obtain ⟨p, q, rfl, rfl⟩ := hr
    cases rv
    cases ru
    exact QY I ih ra rb (by omega) (by omega) hu
  · cases ra <;> cases rb <;> first
      | with_reducible exact absurd ⟨_, _, rfl, rfl⟩ hr
      | (rw [dp] at ha; omega)
      | (rw [dp] at hb; omega)
      | ((first | (obtain ⟨t0, rfl⟩ := rv) | cases rv); (first | (obtain ⟨t1, rfl⟩ := ru) | cases ru); simp only [eqD, Bool.not_false, Bool.not_true]; first | walk_at "sc" | walk_at "sq")
theorem qw (hu : X.A.units + 64 < cLine) : OpR X (compareOp .Eq) (Yq id) := by
 intro pins s σ H x y v u Q I rx ry h
 obtain ⟨O, O', a, b, ra, rb, ha, hb, k⟩ := h
 exact XF I X.A (by omega) a b x y v u ha ra rb hb rx ry _ _ _ _ ⟨.bl _, H, I, rfl, k⟩
theorem kN (hu : X.A.units + 64 < cLine) : OpR X (compareOp .NotEq) (Yq not) := by
 intro pins s σ H x y v u Q I rx ry h
 obtain ⟨O, O', a, b, ra, rb, ha, hb, k⟩ := h
 exact JF I X.A (by omega) a b x y v u ha ra rb hb rx ry _ _ _ _ ⟨.bl _, H, I, rfl, k⟩
end
def kF (x : AV) (M : MH) : Option Dat := match x with
 | .d x => some x
 | .ref a => match M a with
  | some (.lst l) => (pur l).map .lst
  | _ => none
theorem Yi (x : Dat) (M : MH) : kF (.d x) M = some x := rfl
theorem vw {H : Hp} {O : Own} {M : MH} {v : V} {x : AV} {d : Dat} (w : Wf H O M) (r : zl H O M v x) (h : kF x M = some d) : ∃ O', Rep H O' v d := by
 cases x with
 | d x => cases h; exact ⟨O, r⟩
 | ref a =>
  unfold kF at h
  dsimp only at h
  cases e : M a with
  | none => rw [e] at h; cases h
  | some o =>
   rw [e] at h
   cases o with
   | lst l =>
    dsimp only at h
    cases ep : pur l with
    | none => rw [ep] at h; cases h
    | some ds =>
     rw [ep] at h
     cases h
     obtain ⟨xs, hx, rx⟩ := w.mo a _ e
     rw [ji ep] at rx
     have rp := rx.pure
     refine ⟨Kr O a, ?_⟩
     rw [r.1]
     exact Rep.lst (fun z => z.1 rfl) hx rp.1 fun i x d e1 e2 => (rp.2 i x d e1 e2).imp (kj a)
   | _ => cases h
def V9 (f : Bool -> Bool) : AR2 := fun x y M Q => ∃ a b, kF x M = some a /\ kF y M = some b /\ dp a <= 40 /\ dp b <= 40 /\ Q (.d (.bl (f (eqD a b)))) M
theorem KP {f : Bool -> Bool} : v9 (Yq f) (V9 f) := ⟨fun w r1 r2 ⟨a, b, e1, e2, h1, h2, q⟩ k => by
 obtain ⟨O1, p1⟩ := vw w r1 e1
 obtain ⟨O2, p2⟩ := vw w r2 e2
 exact ⟨O1, O2, a, b, p1, p2, h1, h2, k _ _ _ _ _ q .refl w .bl⟩⟩
theorem vR (i : Int) : dp (.int i) = 0 := by simp [dp]
theorem jR (ns : List Int) : dp (.lst (ns.map .int)) <= 1 := by
 rw [dp]
 have : dps (ns.map Dat.int) <= 0 := yj fun d hd => by
  obtain ⟨i, _, rfl⟩ := List.mem_map.mp hd
  rw [vR]; exact Nat.le_refl _
 omega
theorem xM : ∀ (ns ms : List Int), jB (ns.map .int) (ms.map .int) = decide (ns = ms)
 | [], [] => by simp [jB]
 | [], _ :: _ => by simp [jB]
 | _ :: _, [] => by simp [jB]
 | a :: r, b :: r' => by
  rw [List.map_cons, List.map_cons, jB, xM r r', show eqD (.int a) (.int b) = (a == b) by simp [eqD]]
  by_cases h : a = b <;> simp [h]
theorem vb (ns ms : List Int) : eqD (.lst (ns.map .int)) (.lst (ms.map .int)) = decide (ns = ms) := by rw [eqD, xM]
end L2
set_option Elab.async false
set_option linter.all false
set_option maxRecDepth 100000
set_option maxHeartbeats 4000000
namespace L2
open PySem PySem.Spec PyProof.Rows
theorem jk {H : Hp} {O : Own} {M : MH} {vs : List V} {x : AV} (r : ze H O M vs [x]) : ∃ v, vs = [v] /\ zl H O M v x := by
 obtain ⟨v1, r', rfl, a1, r2⟩ := r.cons_inv
 rw [r2.nil_inv]; exact ⟨v1, rfl, a1⟩
theorem j7 {H : Hp} {O : Own} {M : MH} {vs : List V} {x y : AV} (r : ze H O M vs [x, y]) : ∃ v u, vs = [v, u] /\ zl H O M v x /\ zl H O M u y := by
 obtain ⟨v1, r', rfl, a1, r2⟩ := r.cons_inv
 obtain ⟨v2, rfl, a2⟩ := jk r2
 exact ⟨v1, v2, rfl, a1, a2⟩
def V2 : List AV -> MH -> AK -> Prop := fun xs M Q => ∃ x l, xs = [x] /\ jj x M = some l /\ Q (.d (.int (l.length : Nat))) M
theorem Kb {K : PySem.W.Frag} : vh (fun xs H Q => ∃ p ys, xs = [V.ref p] /\ (SqL K H p ys \/ SqT K H p ys) /\ Q (V.int ys.length) H) V2 := ⟨fun w r ⟨x, l, e, h, q⟩ k => by
 subst e
 obtain ⟨v, rfl, rv⟩ := jk r
 obtain ⟨a, xs, rfl, h1, r1⟩ := yr w rv h
 exact ⟨a, xs, rfl, h1.elim (fun h => .inl (SqL.of h)) (fun h => .inr (SqT.of h)), by rw [r1.1]; exact k _ _ _ _ _ q .refl w .int⟩⟩
def bI2 (f : Int -> Int -> Int) : List AV -> MH -> AK -> Prop := fun xs M Q => ∃ i j, xs = [.d (.int i), .d (.int j)] /\ Q (.d (.int (f i j))) M
theorem X5 {f : Int -> Int -> Int} : vh (fun xs H Q => ∃ i j, xs = [V.int i, V.int j] /\ Q (V.int (f i j)) H) (bI2 f) := ⟨fun w r ⟨i, j, e, q⟩ k => by
 subst e
 obtain ⟨v, u, rfl, rv, ru⟩ := j7 r
 exact ⟨i, j, by rw [zN rv, zN ru], k _ _ _ _ _ q .refl w .int⟩⟩
def Jh : List AV -> MH -> AK -> Prop := fun xs M Q => ∃ x l ds, xs = [x] /\ jj x M = some l /\ pur l = some ds /\ Q (.d (.tup ds)) M
theorem ZL {K : PySem.W.Frag} : vh (fun xs H Q => ∃ p ys, xs = [V.ref p] /\ ((SqL K H p ys /\ ∀ l, H l = none -> Q (V.ref l) (upd H l (HO.tup ys))) \/ SqT K H p ys /\ Q (V.ref p) H)) Jh := ⟨fun w r ⟨x, l, ds, e, h, hp, q⟩ k => by
 subst e
 obtain ⟨v, rfl, rv⟩ := jk r
 rw [ji hp] at h
 rcases jV h with h' | ⟨m, rfl, e2⟩
 ·obtain ⟨a, xs, rfl, h1, r1⟩ := qC w rv h'
  exact ⟨a, xs, rfl, .inl ⟨SqL.of h1, fun p hp => k _ _ _ _ _ q (qz w hp _) (yh w hp _) (Xb w hp r1)⟩⟩
 ·obtain rfl : ds = m := by have := congrArg pur e2; rw [zF, zF] at this; cases this; rfl
  obtain ⟨a, xs, rfl, h1, r1⟩ := ja (l := ds.map .d) rv rfl
  exact ⟨a, xs, rfl, .inr ⟨SqT.of h1, k _ _ _ _ _ q .refl w rv⟩⟩⟩
structure Js (r : List V -> Hp -> VK -> Prop) (a : List AV -> MH -> (List AV -> Prop) -> Prop) : Prop where
 go : ∀ {vs : List V} {xs : List AV} {H : Hp} {O : Own} {M : MH} {Q : VK} {Q' : List AV -> Prop}, Wf H O M -> ze H O M vs xs -> a xs M Q' -> (∀ l ys, Q' l -> ze H O M ys l -> ∀ p, H p = none -> Q (.ref p) (upd H p (.lst ys))) -> r vs H Q
def fCB (r : List AV -> MH -> (List AV -> Prop) -> Prop) (b : AA) : AF := fun ρ M Q => b ρ M fun xs M1 => r xs M1 fun l => Q l M1
theorem yd {r : List V -> Hp -> VK -> Prop} {ra : List AV -> MH -> (List AV -> Prop) -> Prop} {u : TA} {b : AA} (hr : Js r ra) (h : j6 u b) : vP (tCB r u) (fCB ra b) :=
 ⟨fun w e q k => h.go w e q fun x M1 v H1 O1 q1 k1 w1 r1 => hr.go w1 r1 q1 fun l ys q3 r3 p hp =>
  k l M1 p ys _ _ q3 (k1.trans (qZ w1 hp _)) (xS w1 hp _ (fun _ z => nomatch z)) (.inl rfl) (w1.fresh hp).2 (vB w1 k1 hp) zo (r3.ext (qZ w1 hp _))⟩
def JJ : List AV -> MH -> (List AV -> Prop) -> Prop := fun xs M Q => ∃ x l, xs = [x] /\ jj x M = some l /\ Q l
theorem xv {K : PySem.W.Frag} : Js (fun xs H Q => ∃ p ys, xs = [V.ref p] /\ (SqL K H p ys \/ SqT K H p ys) /\ ∀ l, H l = none -> Q (V.ref l) (upd H l (HO.lst ys))) JJ := ⟨fun w r ⟨x, l, e, h, q⟩ k => by
 subst e
 obtain ⟨v, rfl, rv⟩ := jk r
 obtain ⟨a, xs, rfl, h1, r1⟩ := yr w rv h
 exact ⟨a, xs, rfl, h1.elim (fun h => .inl (SqL.of h)) (fun h => .inr (SqT.of h)), k _ _ q r1⟩⟩
theorem jW {H : Hp} {O : Own} {M : MH} : ∀ {ns : List Int} {xs : List V}, ze H O M xs (ns.map fun i => AV.d (.int i)) -> xs = ns.map V.int
 | [], xs, r => r.nil_inv
 | i :: ns, xs, r => by
  obtain ⟨v, r', rfl, a1, r2⟩ := r.cons_inv
  rw [zN a1, jW r2]; rfl
def tyA (x : AV) (M : MH) : Option String := match x with
 | .d .non => some "NoneType"
 | .d (.bl _) => some "bool"
 | .d (.int _) => some "int"
 | .d (.str _) => some "str"
 | .d (.lst _) => some "list"
 | .d (.tup _) => some "tuple"
 | .ref a => match M a with
  | some (.lst _) => some "list"
  | some (.dK _) => some "dict"
  | _ => none
 | _ => none
theorem JW {K : PySem.W.Frag} {H : Hp} {O : Own} {M : MH} {v : V} {x : AV} {t : String} (w : Wf H O M) (r : zl H O M v x) (h : tyA x M = some t) : jm K H v (.type t) := by
 cases x with
 | d x =>
  cases (show Rep H O v x from r) with
  | non => cases h; exact .non
  | bl => cases h; exact .bl _
  | int => cases h; exact .int _
  | str => cases h; exact .str _
  | lst o e => cases h; exact .lst e
  | tup o e => cases h; exact .tup e
  | ty => cases h
  | rng _ _ => cases h
  | scr _ _ => cases h
  | scrK _ => cases h
 | ref a =>
  unfold tyA at h
  dsimp only at h
  rw [r.1]
  cases e : M a with
  | none => rw [e] at h; cases h
  | some o =>
   rw [e] at h
   have := w.mo a o e
   cases o with
   | lst l => cases h; obtain ⟨xs, hx, _⟩ := this; exact .lst hx
   | dK l => cases h; obtain ⟨xs, hx, _⟩ := this; exact .dK hx
   | ins C fs => cases h
def VU : List AV -> MH -> AK -> Prop := fun xs M Q => ∃ x t c b, xs = [x, .d (.ty c)] /\ tyA x M = some t /\ isT t c = some b /\ Q (.d (.bl b)) M
theorem K7 {K : PySem.W.Frag} : vh (fun xs H Q => ∃ x t c b, xs = [x, V.ty c] /\ jm K H x (Value.type t) /\ isT t c = some b /\ Q (V.bl b) H) VU := ⟨fun w r ⟨x, t, c, b, e, h, hb, q⟩ k => by
 subst e
 obtain ⟨v, u, rfl, rv, ru⟩ := j7 r
 exact ⟨v, t, c, b, by rw [JL ru], JW w rv h, hb, k _ _ _ _ _ q .refl w .bl⟩⟩
theorem wH {H : Hp} {O : Own} {M : MH} : ∀ {ns : List String} {xs : List V}, ze H O M xs ((ns.map Dat.ty).map .d) -> xs = ns.map V.ty
 | [], xs, r => r.nil_inv
 | i :: ns, xs, r => by
  obtain ⟨v, r', rfl, a1, r2⟩ := r.cons_inv
  rw [JL a1, wH r2]; rfl
def vo : List Dat -> Option (List String)
 | [] => some []
 | .ty n :: r => (vo r).map (n :: ·)
 | _ => none
theorem wM : ∀ {l : List Dat} {cs : List String}, vo l = some cs -> l = cs.map Dat.ty
 | [], cs, h => by cases h; rfl
 | .ty n :: r, cs, h => by
  unfold vo at h
  cases e : vo r with
  | none => rw [e] at h; cases h
  | some m => rw [e] at h; cases h; rw [wM e]; rfl
 | .non :: _, _, h => by cases h
 | .bl _ :: _, _, h => by cases h
 | .int _ :: _, _, h => by cases h
 | .str _ :: _, _, h => by cases h
 | .lst _ :: _, _, h => by cases h
 | .tup _ :: _, _, h => by cases h
 | .rng _ _ _ :: _, _, h => by cases h
 | .scr _ _ :: _, _, h => by cases h
def Xw : List AV -> MH -> AK -> Prop := fun xs M Q => ∃ x t l cs b, xs = [x, .d (.tup l)] /\ vo l = some cs /\ tyA x M = some t /\ kK t cs = some b /\ Q (.d (.bl b)) M
theorem Qe {K : PySem.W.Frag} : vh (fun xs H Q => ∃ x t p cs b, xs = [x, V.ref p] /\ H p = some (HO.tup (List.map V.ty cs)) /\ jm K H x (Value.type t) /\ kK t cs = some b /\ Q (V.bl b) H) Xw := ⟨fun w r ⟨x, t, l, cs, b, e, hc, h, hb, q⟩ k => by
 subst e
 obtain ⟨v, u, rfl, rv, ru⟩ := j7 r
 rw [wM hc] at ru
 obtain ⟨a, xs, rfl, h1, r1⟩ := ja (l := (cs.map Dat.ty).map .d) ru rfl
 rw [wH r1] at h1
 exact ⟨v, t, a, cs, b, rfl, h1, JW w rv h, hb, k _ _ _ _ _ q .refl w .bl⟩⟩
theorem wK {H : Hp} {O : Own} {M : MH} : ∀ {ns : List Bool} {xs : List V}, ze H O M xs (ns.map fun i => AV.d (.bl i)) -> xs = ns.map V.bl
 | [], xs, r => r.nil_inv
 | i :: ns, xs, r => by
  obtain ⟨v, r', rfl, a1, r2⟩ := r.cons_inv
  rw [ka a1, wK r2]; rfl
def VN (f : List Bool -> Bool) : List AV -> MH -> AK -> Prop := fun xs M Q => ∃ x bs, xs = [x] /\ qi x M = some (List.map (fun b => AV.d (.bl b)) bs) /\ Q (.d (.bl (f bs))) M
theorem KN {K : PySem.W.Frag} {f : List Bool -> Bool} : vh (fun xs H Q => ∃ p bs, xs = [V.ref p] /\ SqL K H p (List.map V.bl bs) /\ Q (V.bl (f bs)) H) (VN f) := ⟨fun w r ⟨x, bs, e, h, q⟩ k => by
 subst e
 obtain ⟨v, rfl, rv⟩ := jk r
 obtain ⟨a, xs, rfl, h1, r1⟩ := qC w rv h
 rw [wK r1] at h1
 exact ⟨a, bs, rfl, SqL.of h1, k _ _ _ _ _ q .refl w .bl⟩⟩
def Xh : List AV -> MH -> AK -> Prop := fun xs M Q => ∃ b, xs = [.d (.int b)] /\ Q (.d (.rng 0 b 1)) M
theorem QT : vh (fun xs H Q => ∃ b, xs = [V.int b] /\ ∀ (p : Addr), H p = none -> Q (V.ref p) (upd H p (yE p 0 b 1))) Xh := ⟨fun w r ⟨b, e, q⟩ k => by
 subst e
 obtain ⟨v, rfl, rv⟩ := jk r
 exact ⟨b, by rw [zN rv], fun p hp => k _ _ _ _ _ q (qz w hp _) (yh w hp _) (Rep.rng (w.fresh hp).1 zo)⟩⟩
def Qg : List AV -> MH -> (List AV -> Prop) -> Prop := fun xs M Q => ∃ a b c n, xs = [.d (.rng a b c)] /\ Builtin.Range.small a b c = true /\ Builtin.Range.rangeSize a b c = ((n : Nat) : Int) /\ n <= 100000 /\ Q ((qx a c n).map fun i => AV.d (.int i))
theorem xh : Js (fun xs H Q => ∃ p a b c n, xs = [.ref p] /\ H p = some (yE p a b c) /\ Builtin.Range.small a b c = true /\ Builtin.Range.rangeSize a b c = ((n : Nat) : Int) /\ n <= 100000 /\ ∀ l, H l = none -> Q (.ref l) (upd H l (.lst ((qx a c n).map V.int)))) Qg := ⟨fun {vs xs H O M Q Q'} w r ⟨a, b, c, n, e, h1, h2, h3, q⟩ k => by
 subst e
 obtain ⟨v, rfl, rv⟩ := jk r
 cases (show Rep H O v (.rng a b c) from rv) with
 | rng o h => exact ⟨_, a, b, c, n, rfl, h, h1, h2, h3, k _ _ q (vW _)⟩⟩
structure VI (r : V -> List V -> Hp -> VK -> Prop) (a : AV -> List AV -> MH -> AK -> Prop) : Prop where
 go : ∀ {x : V} {dx : AV} {vs : List V} {xs : List AV} {H : Hp} {O : Own} {M : MH} {Q : VK} {Q' : AK}, Wf H O M -> zl H O M x dx -> ze H O M vs xs -> a dx xs M Q' -> (∀ x M' v H' O', Q' x M' -> Ext H O M H' O' M' -> Wf H' O' M' -> zl H' O' M' v x -> Q v H') -> r x vs H Q
def aBM (r : AV -> List AV -> MH -> AK -> Prop) (a : AE) (b : AA) : AE := fun ρ M Q => a ρ M fun x M1 => (∃ l, qi x M1 = some l) /\ b ρ M1 fun xs M2 => r x xs M2 Q
theorem Yh {K : PySem.W.Frag} {r : V -> List V -> Hp -> VK -> Prop} {ra : AV -> List AV -> MH -> AK -> Prop} {t : TE} {u : TA} {a : AE} {b : AA} (hr : VI r ra) (h1 : zQ t a) (h2 : j6 u b) : zQ (tBM K "list" r t u) (aBM ra a b) :=
 ⟨fun w e q k => h1.go w e q fun x M1 v H1 O1 ⟨⟨l, hl⟩, q1⟩ k1 w1 r1 => ⟨by
  obtain ⟨a, xs, rfl, hx, _⟩ := qC w1 r1 hl
  exact .inl ⟨rfl, xs, SqL.of hx⟩, h2.go w1 (e.ext k1) q1 fun y M2 u H2 O2 q2 k2 w2 r2 => hr.go w2 (r1.ext k2) r2 q2 fun z M3 v3 H3 O3 q3 k3 w3 r3 => k z M3 v3 H3 O3 q3 ((k1.trans k2).trans k3) w3 r3⟩⟩
theorem QH {H : Hp} {O : Own} {M : MH} {p : Addr} {l l' : List AV} {xs' : List V} (w : Wf H O M) (hm : M p = some (.lst l)) (r : ze H O M xs' l') : Ext H O M (upd H p (.lst xs')) O (mup M p (.lst l')) /\ Wf (upd H p (.lst xs')) O (mup M p (.lst l')) :=
 have np := qI hm
 ⟨jN w np _ _, Qh w np (fun _ z => nomatch z) ⟨_, zo, r.ext (jN w np _ _)⟩⟩
def wv : AV -> List AV -> MH -> AK -> Prop := fun x xs M Q => ∃ p l y, x = .ref p /\ xs = [y] /\ M p = some (.lst l) /\ l.length < sizeLine /\ Q (.d .non) (mup M p (.lst (l ++ [y])))
theorem vJ : VI kB wv := ⟨fun w r1 r2 ⟨p, l, y, e1, e2, hm, hs, q⟩ k => by
 subst e1 e2
 obtain ⟨v, rfl, rv⟩ := jk r2
 obtain ⟨xs, hx, rx⟩ := w.mo p _ hm
 obtain ⟨k1, w1⟩ := QH w hm (rx.snoc rv)
 exact ⟨p, xs, v, r1.1, rfl, hx, by rw [rx.1]; exact hs, k _ _ _ _ _ q k1 w1 .non⟩⟩
def wt (r : Addr) : MO -> Prop
 | .lst l => AV.ref r ∈ l
 | .dK kvs => AV.ref r ∈ kvs.map (·.2)
 | .ins _ fs => AV.ref r ∈ fs.map (·.2)
structure Zj (M0 M' : MH) (x x' : AV) (M'' : MH) : Prop where
 sub : ∀ q, M'' q = M' q \/ (M0 q = none /\ M'' q = none)
 cl : ∀ q o, M'' q = some o -> M0 q = some o \/ ∀ r, wt r o -> M'' r ≠ none
 res : (x' = x /\ ∀ p, x = .ref p -> M'' p ≠ none) \/ ∃ p l ds, x = .ref p /\ M' p = some (.lst l) /\ pur l = some ds /\ M'' p = none /\ x' = .d (.lst ds)
theorem vU {H0 H : Hp} {O0 O : Own} {M0 M' M'' : MH} {x x' : AV} {v : V} (w0 : Wf H0 O0 M0) (w : Wf H O M') (k : Ext H0 O0 M0 H O M') (r : zl H O M' v x) (f : Zj M0 M' x x' M'') :
    ∃ O'', Wf H O'' M'' /\ Ext H0 O0 M0 H O'' M'' /\ zl H O'' M'' v x' := by
  have ks : ∀ a u, ¬ O a -> H a = some u -> H a = some u /\ ¬ (O a /\ ¬ (M' a ≠ none /\ M'' a = none)) := fun a u h e => ⟨e, fun z => h z.1⟩
  have k0 : ∀ a, M0 a ≠ none -> M'' a = M' a := fun a h => (f.sub a).elim (fun z => z) (fun z => absurd z.1 h)
  have m0 : ∀ a, M0 a ≠ none -> M'' a ≠ none := fun a h => by rw [k0 a h]; exact k.mst a h
  have avs : ∀ {xs : List V} {l : List AV}, ze H O M' xs l -> (∀ r, AV.ref r ∈ l -> M'' r ≠ none) -> ze H (fun a => O a /\ ¬ (M' a ≠ none /\ M'' a = none)) M'' xs l := fun {xs l} rr hr => ⟨rr.1, fun i y d e1 e2 => by
    have := rr.2 i y d e1 e2
    cases d with
    | d d => exact Rep.imp ks this
    | ref a => exact ⟨this.1, hr a (List.mem_of_getElem? e2)⟩⟩
  have refs0 : ∀ q o, M0 q = some o -> ∀ r, wt r o -> M0 r ≠ none := fun q o e r hr => by
    have := w0.mo q o e
    cases o with
    | lst l =>
      obtain ⟨xs, _, rr⟩ := this
      obtain ⟨i, hi⟩ := List.getElem?_of_mem hr
      obtain ⟨y, _, ry⟩ := rr.get hi
      exact ry.2
    | dK l =>
      obtain ⟨xs, _, rr⟩ := this
      obtain ⟨i, hi⟩ := List.getElem?_of_mem hr
      obtain ⟨y, _, ry⟩ := rr.2.get hi
      exact ry.2
    | ins C l =>
      obtain ⟨dx, xs, _, rr, _⟩ := this
      obtain ⟨i, hi⟩ := List.getElem?_of_mem hr
      obtain ⟨y, _, ry⟩ := rr.2.get hi
      exact ry.2
  refine ⟨fun a => O a /\ ¬ (M' a ≠ none /\ M'' a = none), ⟨fun q o e => ?_, fun a h => ?_, fun a h => w.al a h.1⟩, ⟨fun a u h e => ?_, fun a h e => ?_, m0⟩, ?_⟩
  · have e' : M' q = some o := by
      rcases f.sub q with z | z
      · rw [<- z]; exact e
      · rw [z.2] at e; cases e
    have hr : ∀ r, wt r o -> M'' r ≠ none := by
      rcases f.cl q o e with z | z
      · exact fun r hr => m0 r (refs0 q o z r hr)
      · exact z
    have := w.mo q o e'
    cases o with
    | lst l => obtain ⟨xs, h1, rr⟩ := this; exact ⟨xs, h1, avs rr hr⟩
    | dK l => obtain ⟨xs, h1, rr⟩ := this; exact ⟨xs, h1, rr.1, avs rr.2 hr⟩
    | ins C l =>
      obtain ⟨dx, xs, h1, rr, h2, h3, h4⟩ := this
      refine ⟨dx, xs, h1, ⟨rr.1, avs rr.2 hr⟩, ⟨h2, fun z => z.1 h3⟩, ?_, h4⟩
      rcases f.sub dx with z | z
      · rw [z]; exact h3
      · exact z.2
  · refine ⟨w.own a ?_, fun z => h z.2⟩
    rcases f.sub a with z | z
    · rw [<- z]; exact h
    · exact absurd z.2 h
  · obtain ⟨x1, x2⟩ := k.fix a u h e
    exact ⟨x1, fun z => x2 z.1⟩
  · obtain ⟨x1, x2, x3⟩ := k.prv a h e
    refine ⟨x1, ⟨x2, fun z => z.1 x3⟩, ?_⟩
    rcases f.sub a with z | z
    · rw [z]; exact x3
    · exact z.2
  · rcases f.res with ⟨rfl, hp⟩ | ⟨p, l, ds, rfl, hm, hp, hn, rfl⟩
    · cases x' with
      | d d => exact Rep.imp ks r
      | ref a => exact ⟨r.1, hp a rfl⟩
    · obtain ⟨xs, hx, rx⟩ := w.mo p _ hm
      rw [ji hp] at rx
      have rp := rx.pure
      rw [r.1]
      exact Rep.lst (fun z => z.2 ⟨qI hm, hn⟩) hx rp.1 fun i x d e1 e2 => (rp.2 i x d e1 e2).imp ks
def Fr (M0 M : MH) : Prop := ∀ q, M0 q ≠ none -> M q = M0 q
theorem Fr.refl {M : MH} : Fr M M := fun _ _ => rfl
theorem Fr.mup {M0 M : MH} (f : Fr M0 M) {p : Addr} (h : M0 p = none) (o : MO) : Fr M0 (mup M p o) := fun q hq => by rw [zC (fun z => hq (by rw [z]; exact h))]; exact f q hq
theorem Fr.sub {M0 M : MH} (f : Fr M0 M) (q : Addr) : M0 q = M q \/ (M0 q = none /\ M0 q = none) := by
 cases e : M0 q with
 | none => exact .inr ⟨rfl, rfl⟩
 | some o => exact .inl (by rw [f q (by rw [e]; exact fun z => nomatch z), e])
theorem Xk {M0 M : MH} (f : Fr M0 M) (d : Dat) : Zj M0 M (.d d) (.d d) M0 := ⟨f.sub, fun q o e => .inl e, .inl ⟨rfl, fun p z => nomatch z⟩⟩
theorem KZ {M0 M : MH} (f : Fr M0 M) {p : Addr} {l : List AV} {ds : List Dat} (h0 : M0 p = none) (h : M p = some (.lst l)) (hp : pur l = some ds) : Zj M0 M (.ref p) (.d (.lst ds)) M0 := ⟨f.sub, fun q o e => .inl e, .inr ⟨p, l, ds, rfl, h, hp, h0, rfl⟩⟩
theorem ya {l : List AV} {ds : List Dat} (h : pur l = some ds) (r : Addr) : AV.ref r ∉ l := by
 rw [ji h]; intro z
 obtain ⟨d, _, e⟩ := List.mem_map.mp z
 cases e
theorem ju {M0 M : MH} (f : Fr M0 M) {p : Addr} {l : List AV} {ds : List Dat} (h0 : M0 p = none) (h : M p = some (.lst l)) (hp : pur l = some ds) : Zj M0 M (.ref p) (.ref p) (mup M0 p (.lst l)) := by
 refine ⟨fun q => ?_, fun q o e => ?_, .inl ⟨rfl, fun q z => by cases z; rw [zi]; exact fun z => nomatch z⟩⟩
 ·by_cases c : q = p
  ·rw [c, zi, h]; exact .inl rfl
  ·rw [zC c]; exact f.sub q
 ·by_cases c : q = p
  ·rw [c, zi] at e
   cases e
   exact .inr fun r hr => absurd hr (ya hp r)
  ·rw [zC c] at e; exact .inl e
def z0 (N : List Str) (xs : List AV) : ASt := xs.map some ++ List.replicate (N.length - xs.length) none
theorem Qr {H : Hp} {O : Own} {M : MH} {vs : List V} {xs : List AV} (r : ze H O M vs xs) (N : List Str) : Er H O M (qK N vs) (z0 N xs) := by
 unfold qK z0
 refine ⟨by simp [r.1], fun i x h => ?_⟩
 by_cases c : i < xs.length
 ·rw [List.getElem?_append_left (by simpa using c), List.getElem?_map] at h
  cases e : xs[i]? with
  | none => rw [e] at h; cases h
  | some y =>
   rw [e] at h
   cases h
   obtain ⟨v, hv, rv⟩ := r.get e
   exact ⟨v, by rw [List.getElem?_append_left (by rw [List.length_map, r.1]; exact c), List.getElem?_map, hv]; rfl, rv⟩
 ·rw [List.getElem?_append_right (by simp; omega), List.getElem?_replicate] at h
  split at h <;> cases h
def rtA (M0 : MH) (Q : AK) : AK := fun x M' => ∃ x' M'', Zj M0 M' x x' M'' /\ Q x' M''
theorem dfA {P : Program} {w : World} {K : PySem.W.Frag} {mg : Str -> Option Value} {base : Heap} {x : Str} {st : Stmt} {N ps : List Str} {k : Nat} {a : ASp} (at_ : At K mg x st) (S : zy N ps (zg st))
  (hb : ∀ (kV doc pm : Value) (an : Option Addr) (cdv ct : Value) (us : List Value), us.length = ps.length -> bindArgs (PySem.W.fnOf x x (qJ st) (qj st) (zg st) .none kV doc pm an cdv ct) ⟨us, []⟩ = pure (ps.zip us))
  (len : ∀ xs M Q, a xs M Q -> xs.length = ps.length)
  (hbody : ∀ (f : Addr) (cdv : Value) (A : Around) (outer : List Env) (s : Shared) (H : Hp) (E : XK), qM k (A.deeper (envOfC x (zg st) s.heap.objs.size f cdv)) ->
   ∃ t, PSs (xU CX0 P w K mg base N x (zg st) f cdv A outer s H E).nox (qj st) t /\ ∃ b, jF t b /\ ∀ xs M Q, a xs M Q -> b M { nx := fun _ M' => rtA M Q (.d .non) M', rt := rtA M Q } (z0 N xs) M) : Df P w K mg base x ps (k + 1) (cSp a) := by
 refine vq at_ S hb (fun vs H Q E h => ?_) (fun f cdv A outer s H vs Q E hr h => ?_)
 ·obtain ⟨xs, M, O, Q', w, r, q, _⟩ := h
  rw [r.1]; exact len xs M Q' q
 ·obtain ⟨t, ht, b, hb, hq⟩ := hbody f cdv A outer s H E hr
  refine ⟨t, ht, ?_⟩
  obtain ⟨xs, M, O, Q', w, r, q, kk⟩ := h
  refine hb.go w w (Qr r N) .refl (hq xs M Q' q) ⟨fun σ H' O' ρ M' w' e' x' q' => ?_, fun v y H' O' M' w' x' r' q' => ?_, fun _ _ _ _ _ _ _ _ z => z.elim, fun _ _ _ _ _ _ _ _ z => z.elim⟩
  ·obtain ⟨y', M'', f, q2⟩ := q'
   obtain ⟨O'', w2, k2, r2⟩ := vU w w' x' (show zl H' O' M' .non (.d .non) from .non) f
   exact kk _ _ _ _ _ q2 k2 w2 r2
  ·obtain ⟨y', M'', f, q2⟩ := q'
   obtain ⟨O'', w2, k2, r2⟩ := vU w w' x' r' f
   exact kk _ _ _ _ _ q2 k2 w2 r2
end L2
set_option Elab.async false
set_option linter.all false
set_option maxRecDepth 100000
set_option maxHeartbeats 4000000
namespace L2
open PySem PySem.Spec PyProof.Rows
structure yv (tr : Addr -> TR) (a : ATR) : Prop where
 go : ∀ D, xG D (tr D) a
theorem ZG {t : TE} {a : AE} (h : zQ t a) : yv (kQ t) (jO a) := ⟨fun D => xb h⟩
theorem ZH {wi : TI} {g : TG} {tt : TT} {tr : Addr -> TR} {ai : AI} {ag : AG} {at_ : AT} {atr : ATR} (hi : xV wi ai) (hg : kg g ag) (ht : jJ tt at_) (hr : yv tr atr) : yv (yi wi g tt tr) (v8 ai ag at_ atr) := ⟨fun D => xt hi hg ht (hr.go D)⟩
theorem vX {ts : List Nat} {wi : TI} {g : TG} {tt : TT} {tr : Addr -> TR} {ai : AI} {ag : AG} {at_ : AT} {atr : ATR} (hi : xV wi ai) (hg : kg g ag) (ht : jJ tt at_) (hr : yv tr atr) : vP (kh ts wi g tt tr) (wQ ts ai ag at_ atr) := kR hi hg ht hr.go
theorem Zi {K : PySem.W.Frag} {u : TA} {b : AA} (h : j6 u b) : zQ (tCB (fun xs H Q => ∃ p ys, xs = [V.ref p] /\ (SqL K H p ys \/ SqT K H p ys) /\ ∀ l, H l = none -> Q (V.ref l) (upd H l (HO.lst ys))) u) (aFz (fCB JJ b)) := xR (yd xv h)
theorem ZO {u : TA} {b : AA} (h : j6 u b) : zQ (tCB (fun xs H Q => ∃ p a b c n, xs = [.ref p] /\ H p = some (yE p a b c) /\ Builtin.Range.small a b c = true /\ Builtin.Range.rangeSize a b c = ((n : Nat) : Int) /\ n <= 100000 /\ ∀ l, H l = none -> Q (.ref l) (upd H l (.lst ((qx a c n).map V.int)))) u) (aFz (fCB Qg b)) := xR (yd xh h)
theorem ex2 {t : TS} {q : AS -> Prop} {b : AS} (h : jF t b) (k : q b) : ∃ b, jF t b /\ q b := ⟨b, h, k⟩
section
variable {X : Cx} {K : PySem.W.Frag}
theorem YJ {tg l : Expr} {tl : TE} (h : X.K = K) (hl : PE X l tl) : PI X tg l (iLT K tl) := h ▸ jq hl
end
theorem jG {τ : Type} (R : τ -> ASt) (f : AV -> AV) {ag : AG} {ae : AE} {G : MH -> Prop} {N : List AV -> ASt -> MH -> Prop} {l : List AV} {ρ : ASt} {M : MH} (h0 : ∃ o, ρ = R o) (hG : G M) (hl : l.length <= 100000)
  (hs : ∀ (o : τ) (x : AV) (Q : AV -> ASt -> MH -> Prop), x ∈ l -> (∀ o', Q (f x) (R o') M) -> ag x (R o) M fun ρ2 M2 => ae ρ2 M2 fun y M3 => Q y ρ2 M3) (hN : ∀ o, N (l.map f) (R o) M) : yu ag ko (jO ae) G N l [] ρ M := by
 have hsl : 100000 < sizeLine := by rw [sizeLine_eq]; decide
 refine ⟨fun i acc ρ' M' => i <= l.length /\ acc = (l.take i).map f /\ M' = M /\ ∃ o, ρ' = R o, ⟨Nat.zero_le _, rfl, rfl, h0⟩, ?_, ?_⟩
 ·rintro i x acc ρ' M' hx ⟨hi, rfl, rfl, o, rfl⟩
  have hil := (List.getElem?_eq_some_iff.mp hx).1
  refine ⟨hG, ?_⟩
  refine hs o x (fun y ρ2 M3 => ((l.take i).map f).length < sizeLine /\ (i + 1 <= l.length /\ (l.take i).map f ++ [y] = (l.take (i + 1)).map f /\ M3 = M' /\ ∃ o, ρ2 = R o)) (List.mem_of_getElem? hx) fun o' => ⟨by rw [List.length_map, List.length_take]; omega, hil, ?_, rfl, o', rfl⟩
  rw [List.take_add_one, hx, List.map_append]; rfl
 ·rintro acc ρ' M' ⟨_, rfl, rfl, o, rfl⟩
  rw [List.take_length]
  exact ⟨hG, hN o⟩
theorem Kk {τ : Type} (R : τ -> ASt) (f : Nat -> AV) {ag : AG} {ae : AE} {G : MH -> Prop} {N : List AV -> ASt -> MH -> Prop} {l : List AV} {ρ : ASt} {M : MH} (h0 : ∃ o, ρ = R o) (hG : G M) (hl : l.length <= 100000)
  (hs : ∀ (o : τ) (i : Nat) (x : AV) (Q : AV -> ASt -> MH -> Prop), l[i]? = some x -> (∀ o', Q (f i) (R o') M) -> ag x (R o) M fun ρ2 M2 => ae ρ2 M2 fun y M3 => Q y ρ2 M3) (hN : ∀ o, N ((List.range l.length).map f) (R o) M) : yu ag ko (jO ae) G N l [] ρ M := by
 have hsl : 100000 < sizeLine := by rw [sizeLine_eq]; decide
 refine ⟨fun i acc ρ' M' => i <= l.length /\ acc = (List.range i).map f /\ M' = M /\ ∃ o, ρ' = R o, ⟨Nat.zero_le _, rfl, rfl, h0⟩, ?_, ?_⟩
 ·rintro i x acc ρ' M' hx ⟨hi, rfl, rfl, o, rfl⟩
  have hil := (List.getElem?_eq_some_iff.mp hx).1
  refine ⟨hG, ?_⟩
  refine hs o i x (fun y ρ2 M3 => ((List.range i).map f).length < sizeLine /\ (i + 1 <= l.length /\ (List.range i).map f ++ [y] = (List.range (i + 1)).map f /\ M3 = M' /\ ∃ o, ρ2 = R o)) hx fun o' => ⟨by rw [List.length_map, List.length_range]; omega, hil, ?_, rfl, o', rfl⟩
  rw [List.range_succ, List.map_append]; rfl
 ·rintro acc ρ' M' ⟨_, rfl, rfl, o, rfl⟩
  exact ⟨hG, hN o⟩
theorem YB : isT "int" "int" = some true := by decide +kernel
theorem XR : isT "int" "bool" = some false := by decide +kernel
theorem Y9 : isT "int" "str" = some false := by decide +kernel
theorem Ya : isT "int" "list" = some false := by decide +kernel
theorem Y3 : isT "int" "tuple" = some false := by decide +kernel
theorem Vq : isT "bool" "int" = some true := by decide +kernel
theorem Ye : isT "bool" "bool" = some true := by decide +kernel
theorem Y1 : isT "bool" "str" = some false := by decide +kernel
theorem YG : isT "bool" "list" = some false := by decide +kernel
theorem Yt : isT "bool" "tuple" = some false := by decide +kernel
theorem Yk : isT "str" "int" = some false := by decide +kernel
theorem Vy : isT "str" "bool" = some false := by decide +kernel
theorem XU : isT "str" "str" = some true := by decide +kernel
theorem Y8 : isT "str" "list" = some false := by decide +kernel
theorem Yn : isT "str" "tuple" = some false := by decide +kernel
theorem X4 : isT "NoneType" "int" = some false := by decide +kernel
theorem Vv : isT "NoneType" "bool" = some false := by decide +kernel
theorem Vl : isT "NoneType" "str" = some false := by decide +kernel
theorem X7 : isT "NoneType" "list" = some false := by decide +kernel
theorem Yv : isT "NoneType" "tuple" = some false := by decide +kernel
theorem YA : isT "list" "int" = some false := by decide +kernel
theorem Vg : isT "list" "bool" = some false := by decide +kernel
theorem X6 : isT "list" "str" = some false := by decide +kernel
theorem Ja : isT "list" "list" = some true := by decide +kernel
theorem Vi : isT "list" "tuple" = some false := by decide +kernel
theorem Vn : isT "tuple" "int" = some false := by decide +kernel
theorem Vh : isT "tuple" "bool" = some false := by decide +kernel
theorem Y6 : isT "tuple" "str" = some false := by decide +kernel
theorem Vo : isT "tuple" "list" = some false := by decide +kernel
theorem Va : isT "tuple" "tuple" = some true := by decide +kernel
theorem Vk : kK "int" ["list", "tuple"] = some false := by decide +kernel
theorem XI : kK "bool" ["list", "tuple"] = some false := by decide +kernel
theorem XO : kK "str" ["list", "tuple"] = some false := by decide +kernel
theorem Vb : kK "NoneType" ["list", "tuple"] = some false := by decide +kernel
theorem Vr : kK "list" ["list", "tuple"] = some true := by decide +kernel
theorem X0 : kK "tuple" ["list", "tuple"] = some true := by decide +kernel
theorem Jn : vo [] = some [] := rfl
theorem ZK {n : String} {r : List Dat} : vo (.ty n :: r) = (vo r).map (n :: ·) := rfl
theorem Wo (M : MH) : tyA (.d .non) M = some "NoneType" := rfl
theorem VM (b : Bool) (M : MH) : tyA (.d (.bl b)) M = some "bool" := rfl
theorem V8 (i : Int) (M : MH) : tyA (.d (.int i)) M = some "int" := rfl
theorem V7 (s : Str) (M : MH) : tyA (.d (.str s)) M = some "str" := rfl
theorem VL (l : List Dat) (M : MH) : tyA (.d (.lst l)) M = some "list" := rfl
theorem V5 (l : List Dat) (M : MH) : tyA (.d (.tup l)) M = some "tuple" := rfl
theorem ZV (x : Dat) (r : List AV) : pur (.d x :: r) = match pur r with | some l => some (x :: l) | none => none := rfl
theorem Yb (i j : Int) : eqS (.int i) (.int j) = some (decide (i = j)) := rfl
theorem X2 (i j : Bool) : eqS (.bl i) (.bl j) = some (decide (i = j)) := rfl
theorem XM (i j : Str) : eqS (.str i) (.str j) = some (decide (i = j)) := rfl
theorem J9 : jD (.d .non) = true := rfl
theorem K0 (i : Int) : jD (.d (.int i)) = false := rfl
theorem J3 (i : List Dat) : jD (.d (.lst i)) = false := rfl
theorem Kg (i : List Dat) : jD (.d (.tup i)) = false := rfl
theorem KM (i : Addr) : jD (.ref i) = false := rfl
theorem KE (i : Str) : jD (.d (.str i)) = false := rfl
theorem KY (i : Bool) : jD (.d (.bl i)) = false := rfl
end L2
set_option Elab.async false
set_option linter.all false
set_option maxRecDepth 100000
set_option maxHeartbeats 4000000
namespace L2
open PySem PySem.Spec PyProof.Rows
theorem JZ {H H' : Hp} {O : Own} {M : MH} (w : Wf H O M) (k : Kp [] H H') : Ext H O M H' O M /\ Wf H' O M := by
 have e : Ext H O M H' O M := ⟨fun a o h e => ⟨k a o (by simp) e, h⟩, fun a h e => ⟨by
  obtain ⟨o, ho, _⟩ := w.al a h
  rw [ho]; exact k a o (by simp) ho, h, e⟩, fun _ h => h⟩
 refine ⟨e, ⟨fun a o h => qv.ext e ?_ (w.mo a o h), w.own, fun a h => ?_⟩⟩
 ·obtain ⟨u, hu, _⟩ := w.al a (w.own a (by rw [h]; exact fun z => nomatch z))
  rw [hu]; exact k a u (by simp) hu
 ·obtain ⟨o, ho, hn⟩ := w.al a h
  exact ⟨o, k a o (by simp) ho, hn⟩
theorem YI {H H' : Hp} {O : Own} {M : MH} (w : Wf H O M) {b : Addr} {l : List AV} (hb : M b = some (.lst l)) (k : Kp [b] H H') {ns : List Int} (h : H' b = some (.lst (ns.map V.int))) :
  Ext H O M H' O (mup M b (.lst (ns.map fun i => .d (.int i)))) /\ Wf H' O (mup M b (.lst (ns.map fun i => .d (.int i)))) := by
 have hOb := w.own b (qI hb)
 have kk : ∀ a o, a ≠ b -> H a = some o -> H' a = some o := fun a o ha e => k a o (by simpa using ha) e
 have e : Ext H O M H' O (mup M b (.lst (ns.map fun i => .d (.int i)))) := ⟨fun a o h e => ⟨kk a o (fun z => h (by rw [z]; exact hOb)) e, h⟩, fun a ha e => by
  have hne : a ≠ b := fun z => by rw [z, hb] at e; cases e
  obtain ⟨o, ho, _⟩ := w.al a ha
  exact ⟨by rw [ho]; exact kk a o hne ho, ha, by rw [zC hne]; exact e⟩, fun a ha => by
  by_cases c : a = b
  ·rw [c, zi]; exact fun z => nomatch z
  ·rw [zC c]; exact ha⟩
 refine ⟨e, ⟨fun a o ho => ?_, fun a ha => ?_, fun a ha => ?_⟩⟩
 ·by_cases c : a = b
  ·subst c; rw [zi] at ho; cases ho; exact ⟨_, h, vW ns⟩
  ·rw [zC c] at ho
   refine qv.ext e ?_ (w.mo a o ho)
   obtain ⟨u, hu, _⟩ := w.al a (w.own a (qI ho))
   rw [hu]; exact kk a u c hu
 ·by_cases c : a = b
  ·rw [c]; exact hOb
  ·rw [zC c] at ha; exact w.own a ha
 ·by_cases c : a = b
  ·rw [c]; exact ⟨_, h, fun xs z => nomatch z⟩
  ·obtain ⟨o, ho, hn⟩ := w.al a ha
   exact ⟨o, kk a o c ho, hn⟩
theorem Jk {H : Hp} {O : Own} {p : Addr} {ns : List Int} (ho : ¬ O p) (h : H p = some (.lst (ns.map V.int))) : Rep H O (.ref p) (.lst (ns.map .int)) :=
 Rep.lst ho h (by simp) fun i x d e1 e2 => by
  rw [List.getElem?_map] at e1 e2
  cases e : ns[i]? with
  | none => rw [e] at e1; cases e1
  | some n => rw [e] at e1 e2; cases e1; cases e2; exact .int
theorem JM {H : Hp} {O : Own} {M : MH} {v : V} {x : AV} {ns : List Int} (w : Wf H O M) (r : zl H O M v x) (h : qi x M = some (ns.map fun i => .d (.int i))) : ∃ a, v = .ref a /\ H a = some (.lst (ns.map V.int)) := by
 obtain ⟨a, xs, rfl, h1, r1⟩ := qC w r h
 rw [jW r1] at h1
 exact ⟨a, rfl, h1⟩
theorem Df.imp' {P : Program} {w : World} {K : PySem.W.Frag} {mg : Str -> Option Value} {base : Heap} {x : Str} {ps : List Str} {sp sp' : Sp} {k : Nat} (D : Df P w K mg base x ps k sp) (h : ∀ vs H Q E, sp' vs H Q E -> sp vs H Q E) : Df P w K mg base x ps k sp' :=
 let ⟨f, fd, F, r⟩ := D
 ⟨f, fd, F.imp h, r⟩
mutual
def wdt : Dat -> Nat
 | .lst l => max l.length (v7 l)
 | .tup l => max l.length (v7 l)
 | _ => 0
def v7 : List Dat -> Nat
 | [] => 0
 | a :: r => max (wdt a) (v7 r)
end
theorem wO {l : List Dat} {n : Nat} (h : ∀ d ∈ l, wdt d <= n) : v7 l <= n := by
 induction l with
 | nil => exact Nat.zero_le _
 | cons a r ih => rw [v7]; exact Nat.max_le.mpr ⟨h a (by simp), ih fun d hd => h d (by simp [hd])⟩
theorem wz {l : List Dat} {d : Dat} (h : d ∈ l) : wdt d <= v7 l := by
 induction l with
 | nil => cases h
 | cons a r ih =>
  rw [v7]
  rcases List.mem_cons.mp h with rfl | h
  ·exact Nat.le_max_left _ _
  ·exact Nat.le_trans (ih h) (Nat.le_max_right _ _)
def qD (n : Nat) (d : Dat) : Prop := dp d <= n /\ wdt d <= 100000
theorem qD.mono {n m : Nat} {d : Dat} (h : qD n d) (k : n <= m) : qD m d := ⟨Nat.le_trans h.1 k, h.2⟩
theorem Jm {n : Nat} {l : List Dat} (hl : l.length <= 100000) (h : ∀ d ∈ l, qD n d) : qD (n + 1) (.lst l) := ⟨by rw [dp]; exact Nat.succ_le_succ (yj fun d hd => (h d hd).1), by rw [wdt]; exact Nat.max_le.mpr ⟨hl, wO fun d hd => (h d hd).2⟩⟩
theorem QN {n : Nat} {l : List Dat} (hl : l.length <= 100000) (h : ∀ d ∈ l, qD n d) : qD (n + 1) (.tup l) := ⟨by rw [dp]; exact Nat.succ_le_succ (yj fun d hd => (h d hd).1), by rw [wdt]; exact Nat.max_le.mpr ⟨hl, wO fun d hd => (h d hd).2⟩⟩
theorem QX (n : Nat) (i : Int) : qD n (.int i) := ⟨by simp [dp], by simp [wdt]⟩
theorem jK {ns : List Int} (h : ns.length <= 100000) : qD 1 (.tup (ns.map .int)) := QN (by simpa using h) fun d hd => by obtain ⟨i, _, rfl⟩ := List.mem_map.mp hd; exact QX 0 i
theorem qD.lst {n : Nat} {l : List Dat} (h : qD (n + 1) (.lst l)) : l.length <= 100000 /\ ∀ d ∈ l, qD n d := by
 obtain ⟨h1, h2⟩ := h
 rw [dp] at h1
 rw [wdt] at h2
 exact ⟨(Nat.max_le.mp h2).1, fun d hd => ⟨by have := zZ hd; omega, Nat.le_trans (wz hd) (Nat.max_le.mp h2).2⟩⟩
theorem qD.tup {n : Nat} {l : List Dat} (h : qD (n + 1) (.tup l)) : l.length <= 100000 /\ ∀ d ∈ l, qD n d := by
 obtain ⟨h1, h2⟩ := h
 rw [dp] at h1
 rw [wdt] at h2
 exact ⟨(Nat.max_le.mp h2).1, fun d hd => ⟨by have := zZ hd; omega, Nat.le_trans (wz hd) (Nat.max_le.mp h2).2⟩⟩
theorem qD.no_l {l : List Dat} (h : qD 0 (.lst l)) : False := by have := h.1; rw [dp] at this; omega
theorem qD.no_t {l : List Dat} (h : qD 0 (.tup l)) : False := by have := h.1; rw [dp] at this; omega
theorem yP {x : AV} {M : MH} {l : List Dat} (h : kF x M = some (.lst l)) : qi x M = some (l.map .d) /\ jj x M = some (l.map .d) /\ tyA x M = some "list" /\ jD x = false := by
 cases x with
 | d x => cases h; exact ⟨rfl, rfl, rfl, rfl⟩
 | ref a =>
  unfold kF at h
  dsimp only at h
  cases e : M a with
  | none => rw [e] at h; cases h
  | some o =>
   rw [e] at h
   cases o with
   | lst m =>
    dsimp only at h
    cases ep : pur m with
    | none => rw [ep] at h; cases h
    | some ds =>
     rw [ep] at h
     cases h
     rw [ji ep] at e
     exact ⟨kM e, qT e, by unfold tyA; dsimp only; rw [e], rfl⟩
   | _ => cases h
theorem zY {x : AV} {M : MH} {d : Dat} (h : kF x M = some d) (hd : ∀ l, d ≠ .lst l) : x = .d d := by
 cases x with
 | d x => cases h; rfl
 | ref a =>
  unfold kF at h
  dsimp only at h
  cases e : M a with
  | none => rw [e] at h; cases h
  | some o =>
   rw [e] at h
   cases o with
   | lst m =>
    dsimp only at h
    cases ep : pur m with
    | none => rw [ep] at h; cases h
    | some ds => rw [ep] at h; cases h; exact absurd rfl (hd ds)
   | _ => cases h
theorem VO (b : Bool) : dp (.bl b) = 0 := by simp [dp]
theorem Vc (b : Str) : dp (.str b) = 0 := by simp [dp]
theorem YZ : dp .non = 0 := by simp [dp]
theorem YM (a b : Bool) : eqD (.bl a) (.bl b) = decide (a = b) := by rw [eqD]; cases a <;> cases b <;> rfl
theorem QA (a b : Int) : eqD (.int a) (.int b) = decide (a = b) := by rw [eqD]; by_cases h : a = b <;> simp [h]
theorem Vs (a b : Str) : eqD (.str a) (.str b) = decide (a = b) := by rw [eqD]; by_cases h : a = b <;> simp [h]
theorem XX : eqD .non .non = true := by simp [eqD]
theorem Yc (i : Int) : eqD .non (.int i) = false := by simp [eqD]
theorem Vz (i : Int) : eqD (.int i) .non = false := by simp [eqD]
theorem XC (i : Int) (s : Str) : eqD (.int i) (.str s) = false := by simp [eqD]
theorem X8 (i : Int) (s : Str) : eqD (.str s) (.int i) = false := by simp [eqD]
theorem Yr (s : Str) : eqD (.str s) .non = false := by simp [eqD]
theorem Vw (s : Str) : eqD .non (.str s) = false := by simp [eqD]
theorem wY (ns : List Int) : List.map AV.d (List.map Dat.int ns) = List.map (fun i => AV.d (.int i)) ns := by rw [List.map_map]; rfl
theorem Xt (ns : List Bool) : List.map AV.d (List.map Dat.bl ns) = List.map (fun i => AV.d (.bl i)) ns := by rw [List.map_map]; rfl
theorem qB (ns : List Int) : pur (List.map (fun i => AV.d (.int i)) ns) = some (ns.map Dat.int) := by rw [<- wY, zF]
theorem Xg (ns : List Bool) : pur (List.map (fun i => AV.d (.bl i)) ns) = some (ns.map Dat.bl) := by rw [<- Xt, zF]
theorem K4 {α β : Type} (f : α -> β) (l : List α) (i : Int) : atI (l.map f) i = (atI l i).map f := by
 unfold atI
 rw [List.length_map]
 cases ixN l.length i with
 | none => rfl
 | some j => exact List.getElem?_map ..
theorem vN {n : Nat} {i : Int} (h0 : 0 <= i) (h1 : i < n) : ixN n i = some i.toNat := by unfold ixN; rw [if_pos h0, if_pos h1]
theorem XZ {α : Type} {l : List α} {i : Int} (h0 : 0 <= i) (h1 : i < l.length) (d : α) : atI l i = some (l.getD i.toNat d) := by
 unfold atI
 rw [vN h0 h1]
 show l[i.toNat]? = _
 rw [List.getD_eq_getElem?_getD, List.getElem?_eq_getElem (by omega)]; rfl
theorem yX {ns : List Int} {i : Int} (h0 : 0 <= i) (h1 : i < ns.length) : atI (ns.map fun i => AV.d (.int i)) i = some (.d (.int (ns.getD i.toNat 0))) := by rw [K4, XZ h0 h1 0]; rfl
theorem zj {a qt : AS} {B : MH} {D : xB} {ρ : ASt} {M : MH} (h : ∀ r, r = qt -> vS a r B D ρ M) : vS a qt B D ρ M := h qt rfl
theorem Fr.non {M M' : MH} (f : Fr M M') {p : Addr} (h : M' p = none) : M p = none := by
 cases e : M p with
 | none => rfl
 | some o => rw [f p (by rw [e]; exact fun z => nomatch z), e] at h; cases h
abbrev ilD (os : List Int) : Dat := .lst (os.map .int)
theorem Kx (ns : List Int) (M : MH) : qi (.d (ilD ns)) M = some (ns.map fun i => .d (.int i)) := by rw [Q8, wY]
def BxM (M : MH) (b : Addr) (N : Nat) : Prop := ∃ x y z : Int, M b = some (.lst [.d (.int x), .d (.int y), .d (.int z)]) /\ 0 <= x /\ 0 <= y /\ y < 2147483648 /\ 0 <= z /\ z <= N
theorem BxM.mono {M : MH} {b : Addr} {N N' : Nat} (h : BxM M b N) (hn : N <= N') : BxM M b N' := by
 obtain ⟨x, y, z, h1, h2, h3, h4, h5, h6⟩ := h
 exact ⟨x, y, z, h1, h2, h3, h4, h5, by omega⟩
theorem BxM.ne {M : MH} {b : Addr} {N : Nat} (h : BxM M b N) : M b ≠ none := by obtain ⟨x, y, z, h1, _⟩ := h; exact qI h1
theorem BxM.bx {H : Hp} {O : Own} {M : MH} {b : Addr} {N : Nat} (w : Wf H O M) (h : BxM M b N) : Bx H b N := by
 obtain ⟨x, y, z, h1, h2⟩ := h
 obtain ⟨xs, hx, rx⟩ := w.mo b _ h1
 rw [jW (ns := [x, y, z]) rx] at hx
 exact ⟨x, y, z, hx, h2⟩
def BxS (M M' : MH) (b : Addr) (N : Nat) : Prop := BxM M' b N /\ ∃ o, M' = mup M b o
theorem BxS.at {M M' : MH} {b : Addr} {N : Nat} (h : BxS M M' b N) {q : Addr} (hq : q ≠ b) : M' q = M q := by
 obtain ⟨_, o, rfl⟩ := h
 exact zC hq
theorem Yy {H H' : Hp} {O : Own} {M : MH} (w : Wf H O M) {b : Addr} {N N' : Nat} (hb : BxM M b N) (k : Kp [b] H H') (h : Bx H' b N') : ∃ M', BxS M M' b N' /\ Ext H O M H' O M' /\ Wf H' O M' := by
 obtain ⟨x, y, z, h1, _⟩ := hb
 obtain ⟨x', y', z', g1, g2⟩ := h
 obtain ⟨e1, e2⟩ := YI w h1 k (ns := [x', y', z']) g1
 exact ⟨_, ⟨⟨x', y', z', zi, g2⟩, _, rfl⟩, e1, e2⟩
end L2
set_option Elab.async false
set_option linter.all false
set_option maxRecDepth 100000
set_option maxHeartbeats 4000000
namespace L2
open PySem PySem.Spec PyProof.Rows
mutual
def pdD : Dat -> PyData
 | .bl b => .bool b
 | .int i => .int i
 | .str x => .str x
 | .lst l => .list (yl l)
 | .tup l => .tuple (yl l)
 | _ => .none
def yl : List Dat -> List PyData
 | [] => []
 | a :: r => pdD a :: yl r
end
section
variable {X : Cx} {pins : List (Addr × Obj)} {s : Shared} {σ : St} {H : Hp} {O : Own}
mutual
theorem YU : ∀ d : Dat, (pdD d).hasDict = false
 | .non => by simp [pdD, PyData.hasDict]
 | .bl _ => by simp [pdD, PyData.hasDict]
 | .int _ => by simp [pdD, PyData.hasDict]
 | .str _ => by simp [pdD, PyData.hasDict]
 | .ty _ => by simp [pdD, PyData.hasDict]
 | .rng _ _ _ => by simp [pdD, PyData.hasDict]
 | .scr _ _ => by simp [pdD, PyData.hasDict]
 | .lst l => by rw [pdD, PyData.hasDict]; exact xY l
 | .tup l => by rw [pdD, PyData.hasDict]; exact xY l
theorem xY : ∀ l : List Dat, PyData.hasDictAll (yl l) = false
 | [] => by simp [yl, PyData.hasDictAll]
 | a :: r => by rw [yl, PyData.hasDictAll, YU a, xY r]; rfl
end
mutual
theorem Z9 : ∀ d : Dat, (pdD d).depth <= dp d
 | .non => by simp [pdD, PyData.depth]
 | .bl _ => by simp [pdD, PyData.depth]
 | .int _ => by simp [pdD, PyData.depth]
 | .str _ => by simp [pdD, PyData.depth]
 | .ty _ => by simp [pdD, PyData.depth]
 | .rng _ _ _ => by simp [pdD, PyData.depth]
 | .scr _ _ => by simp [pdD, PyData.depth]
 | .lst l => by rw [pdD, PyData.depth, dp]; exact Nat.succ_le_succ (kd l)
 | .tup l => by rw [pdD, PyData.depth, dp]; exact Nat.succ_le_succ (kd l)
theorem kd : ∀ l : List Dat, PyData.depthAll (yl l) <= dps l
 | [] => by simp [yl, PyData.depthAll]
 | a :: r => by rw [yl, PyData.depthAll, dps]; exact Nat.max_le.mpr ⟨Nat.le_trans (Z9 a) (Nat.le_max_left _ _), Nat.le_trans (kd r) (Nat.le_max_right _ _)⟩
end
end
section
variable {X : Cx}
end
structure Sh (b : Nat) (d : Dat) : Prop where
 s : (pdD d).showable = true
 l : (pdD d).shown.length <= b
theorem Ky {a b : ASp} (h : ∀ xs M Q, b xs M Q -> a xs M (rtA M Q)) (vs : List V) (H : Hp) (Q : VK) (E : XK) (q : cSp b vs H Q E) : cSp a vs H Q E := by
 obtain ⟨xs, M, O, Q', w, r, q, k⟩ := q
 refine ⟨xs, M, O, _, w, r, h xs M Q' q, fun x M' v H' O' q' e' w' r' => ?_⟩
 obtain ⟨y', M'', f, q2⟩ := q'
 obtain ⟨O'', w2, k2, r2⟩ := vU w w' e' r' f
 exact k _ _ _ _ _ q2 k2 w2 r2
end L2
set_option Elab.async false
set_option linter.all false
set_option maxRecDepth 100000
set_option maxHeartbeats 4000000
namespace L2
open PySem PySem.Spec PyProof.Rows
theorem BxM.refs {M : MH} {b : Addr} {N : Nat} (h : BxM M b N) {o : MO} (e : M b = some o) (r : Addr) : ¬ wt r o := by
 obtain ⟨x, y, z, h1, _⟩ := h
 rw [h1] at e
 cases e
 exact ya (l := [AV.d (.int x), AV.d (.int y), AV.d (.int z)]) (ds := [.int x, .int y, .int z]) rfl r
structure SB (M0 M : MH) (b : Addr) (N : Nat) : Prop where
 bx : BxM M b N
 fr : ∀ q, M0 q ≠ none -> q ≠ b -> M q = M0 q
 b0 : M0 b ≠ none
theorem SB.refl {M : MH} {b : Addr} {N : Nat} (h : BxM M b N) : SB M M b N := ⟨h, fun _ _ _ => rfl, h.ne⟩
theorem SB.go {M0 M M' : MH} {b : Addr} {N N' : Nat} (s : SB M0 M b N) (t : BxS M M' b N') : SB M0 M' b N' := ⟨t.1, fun q hq hb => (t.at hb).trans (s.fr q hq hb), s.b0⟩
theorem SB.mono {M0 M : MH} {b : Addr} {N N' : Nat} (s : SB M0 M b N) (h : N <= N') : SB M0 M b N' := ⟨s.bx.mono h, s.fr, s.b0⟩
theorem BxM.put {M : MH} {b p : Addr} {N : Nat} (h : BxM M b N) (n : b ≠ p) (o : MO) : BxM (mup M p o) b N := by
 obtain ⟨x, y, z, h1, h2⟩ := h
 exact ⟨x, y, z, by rw [zC n]; exact h1, h2⟩
theorem SB.new {M0 M : MH} {b p : Addr} {N : Nat} (s : SB M0 M b N) (hp : M p = none) : M0 p = none /\ p ≠ b := by
 have hb : p ≠ b := fun z => s.bx.ne (by rw [<- z]; exact hp)
 refine ⟨?_, hb⟩
 cases e : M0 p with
 | none => rfl
 | some o => rw [s.fr p (by rw [e]; exact fun z => nomatch z) hb, e] at hp; cases hp
theorem SB.put {M0 M : MH} {b p : Addr} {N : Nat} (s : SB M0 M b N) (h0 : M0 p = none) (hb : p ≠ b) (o : MO) : SB M0 (mup M p o) b N :=
 ⟨s.bx.put (Ne.symm hb) o, fun q hq hqb => by rw [zC (fun z => hq (by rw [z]; exact h0))]; exact s.fr q hq hqb, s.b0⟩
theorem SB.fin {M0 M : MH} {b : Addr} {N : Nat} (s : SB M0 M b N) (d : Dat) : ∃ M'', Zj M0 M (.d d) (.d d) M'' /\ BxS M0 M'' b N := by
 obtain ⟨x, y, z, h1, h2⟩ := s.bx
 refine ⟨mup M0 b (.lst [.d (.int x), .d (.int y), .d (.int z)]), ⟨fun q => ?_, fun q o e => ?_, .inl ⟨rfl, fun p z => nomatch z⟩⟩, ⟨x, y, z, zi, h2⟩, _, rfl⟩
 ·by_cases c : q = b
  ·rw [c, zi, h1]; exact .inl rfl
  ·rw [zC c]
   cases e : M0 q with
   | none => exact .inr ⟨rfl, rfl⟩
   | some o => exact .inl (by rw [s.fr q (by rw [e]; exact fun z => nomatch z) c, e])
 ·by_cases c : q = b
  ·rw [c, zi] at e
   cases e
   exact .inr fun r hr => absurd hr (ya (ds := [.int x, .int y, .int z]) rfl r)
  ·rw [zC c] at e; exact .inl e
theorem SB.frz {M0 M : MH} {b p : Addr} {N : Nat} {Q : AK} {l : List AV} {ds : List Dat} (s : SB M0 M b N) (h0 : M0 p = none) (hpb : p ≠ b) (h : M p = some (.lst l)) (hp : pur l = some ds) (q : ∀ M', BxS M0 M' b N -> Q (.d (.lst ds)) M') : rtA M0 Q (.ref p) M := by
 obtain ⟨M'', f, t⟩ := s.fin (.lst ds)
 refine ⟨_, M'', ⟨f.sub, f.cl, .inr ⟨p, l, ds, rfl, h, hp, ?_, rfl⟩⟩, q M'' t⟩
 rw [t.at hpb]; exact h0
theorem kT {M0 M : MH} {Q : AK} {d : Dat} (f : Fr M0 M) (q : Q (.d d) M0) : rtA M0 Q (.d d) M := ⟨_, _, Xk f d, q⟩
theorem SB.frm {M M2 M' : MH} {b : Addr} {N : Nat} (f : Fr M M2) (hb : M b = none) (s : SB M2 M' b N) : Fr M M' := fun q hq => by
 have h1 : q ≠ b := fun z => hq (by rw [z]; exact hb)
 rw [s.fr q (by rw [f q hq]; exact hq) h1, f q hq]
section
variable {X : Cx}
end
theorem jx {τ : Type} (R : τ -> ASt) (g : AV -> List AV) {ag : AG} {tr : ATR} {G : MH -> Prop} {N : List AV -> ASt -> MH -> Prop} {l acc0 : List AV} {ρ : ASt} {M : MH} (h0 : ∃ o, ρ = R o) (hG : G M) (hl : acc0.length + (l.flatMap g).length <= 100000)
  (hs : ∀ (o : τ) (x : AV) (acc : List AV) (N' : List AV -> ASt -> MH -> Prop), x ∈ l -> acc.length + (g x).length <= 100000 -> (∀ o', N' (acc ++ g x) (R o') M) -> ag x (R o) M fun ρ2 M2 => tr acc ρ2 M2 N') (hN : ∀ o, N (acc0 ++ l.flatMap g) (R o) M) : yu ag ko tr G N l acc0 ρ M := by
 refine ⟨fun i acc ρ' M' => i <= l.length /\ acc = acc0 ++ (l.take i).flatMap g /\ M' = M /\ ∃ o, ρ' = R o, ⟨Nat.zero_le _, by simp, rfl, h0⟩, ?_, ?_⟩
 ·rintro i x acc ρ' M' hx ⟨hi, rfl, rfl, o, rfl⟩
  have hil := (List.getElem?_eq_some_iff.mp hx).1
  have tk : l.take (i + 1) = l.take i ++ [x] := by rw [List.take_add_one, hx]; rfl
  have e1 : (l.take (i + 1)).flatMap g = (l.take i).flatMap g ++ g x := by rw [tk, List.flatMap_append]; simp
  have hle : ((l.take (i + 1)).flatMap g).length <= (l.flatMap g).length := by
   conv => rhs; rw [<- List.take_append_drop (i + 1) l, List.flatMap_append, List.length_append]
   omega
  refine ⟨hG, ?_⟩
  refine hs o x _ _ (List.mem_of_getElem? hx) ?_ fun o' => ⟨hil, ?_, rfl, o', rfl⟩
  ·rw [e1, List.length_append] at hle; rw [List.length_append]; omega
  ·rw [e1, List.append_assoc]
 ·rintro acc ρ' M' ⟨_, rfl, rfl, o, rfl⟩
  rw [List.take_length]
  exact ⟨hG, hN o⟩
theorem qS (a b : Nat) : List.range (a * b) = (List.range a).flatMap fun i => (List.range b).map fun j => i * b + j := by
 induction a with
 | zero => simp
 | succ a ih =>
  rw [Nat.succ_mul, List.range_add, ih, List.range_succ, List.flatMap_append]
  simp
def VW (K : PySem.W.Frag) (n : Nat) (t : TGs) : TG := fun v σ H Q => ∃ a xs, v = .ref a /\ (SqL K H a xs \/ SqT K H a xs) /\ xs.length = n /\ t xs σ H Q
theorem wV {X : Cx} {es : List Expr} {k : Nat} {pos : Pos} {t : TGs} {K : PySem.W.Frag} (n : Nat) (h : X.K = K) (hc : X.calm = true) (hs : PGs X es t) (hn : (assignEach es X.env).length = n := by rfl) (hst : (assignEach es X.env).findIdx? (·.1) = none := by rfl) : PG X (.Tuple es k pos) (VW K n t) := by
 intro pins s σ H v x Q I r q
 obtain ⟨a, xs, e1, h1 | h1, e2, q⟩ := q
 ·exact Kn n h hc hs hn hst pins s σ H v x Q I r ⟨a, xs, e1, h1, e2, q⟩
 ·exact kz n h hc hs hn hst pins s σ H v x Q I r ⟨a, xs, e1, h1, e2, q⟩
def Xl (n : Nat) (b : AGs) : AG := fun x ρ M Q => ∃ l, jj x M = some l /\ l.length = n /\ b l ρ M Q
theorem JQ {K : PySem.W.Frag} {n : Nat} {u : TGs} {b : AGs} (h : yW u b) : kg (VW K n u) (Xl n b) := ⟨fun w e r q k => by
 obtain ⟨l, e1, ln, q⟩ := q
 obtain ⟨a, xs, rfl, h1, r1⟩ := yr w r e1
 exact ⟨a, xs, rfl, h1.elim (fun h => .inl (SqL.of h)) (fun h => .inr (SqT.of h)), r1.1.trans ln, h.go w e r1 q k⟩⟩
section
open PySem.SeqAt
open PySem.AutoSeq1 (wpAny_loadPart')
open PySem.MeetsSeq PySem.MeetsSeq2 PySem.MeetsSeq3 PySem.SeqRoads2
end
section
variable {X : Cx}
end
end L2
set_option Elab.async false
set_option linter.all false
set_option maxRecDepth 100000
set_option maxHeartbeats 4000000
namespace L2
open PySem PySem.Spec PyProof.Rows
section
variable {X : Cx} {pins : List (Addr × Obj)} {σ : St} {H : Hp} {s : Shared} {a b : Addr} {kvs : List (List Key × V)} {k : List Key} {v : V} {r : Value} {A : Around} {E : Value -> Shared -> Prop}
theorem xn {Q : Unit -> Shared -> Prop} (hu : A.units < cLine) (I : Inv X pins σ H s) (e : H a = some (.dT kvs)) (eb : H b = some (.tup (k.map kV))) (l : kvs.length < sizeLine) (rv : zt v r) (h : ∀ s', Inv X pins σ (upd H a (.dT (kl kvs k v))) s' -> Q () s') :
  wpAny (model X.prog X.w) A (dictSet a (.ref b) r) Q E s := by
 obtain ⟨z, hd, xs, rel, dd⟩ := VR I.hok e
 have hz : xs.length <= sizeLine := by rw [<- Paired.length rel]; exact z
 have hl : (kl kvs k v).length <= sizeLine := by have := kq kvs k v; omega
 refine wpAny_dictSet_heap (hsz := hz) (show (tupleKind (zO X.prog X.w)).room A from hu) (v4 I.hok eb) dd fun h' dd' hs => h _ ?_
 obtain ⟨q, es, ep, hq, h2, h3, h4, _, h5⟩ := dd'
 refine J5 I (by rw [e]; exact True.intro) hs ⟨q, hq⟩ ⟨hl, hd, _, (rel.put k eb rv).keeps fun c ys ec => ?_, q, es, ep, hq, h2, h3, h4, h5⟩
 rw [zf (kI ec e (fun z => nomatch z))]
 exact ec
end
def QE (tk1 tv1 tk2 tv2 : TE) : TE := fun σ H Q => ∀ p, H p = none -> yk [(tk1, tv1), (tk2, tv2)] σ (upd H p (.dT [])) fun ps H2 => H2 p = some (.dT []) /\ ∃ (b1 b2 : Addr) (y1 y2 : V) (k1 k2 : List Key), ps = [(.ref b1, y1), (.ref b2, y2)] /\ H2 b1 = some (.tup (k1.map kV)) /\ H2 b2 = some (.tup (k2.map kV)) /\ Q (.ref p) (upd H2 p (.dT (kl (kl [] k1 y1) k2 y2)))
theorem Je {X : Cx} {pos : Pos} {e1 e2 f1 f2 : Expr} {tk1 tv1 tk2 tv2 : TE} (hu : X.A.units < cLine) (h : PPs X pos [some e1, some e2] [f1, f2] [(tk1, tv1), (tk2, tv2)]) : PE X (.Dict [some e1, some e2] [f1, f2] pos) (QE tk1 tv1 tk2 tv2) := by
 intro pins s σ H Q I q
 have hn := I.hok.fresh (Nat.le_refl s.heap.objs.size)
 have I1 := I.laid (a := s.heap.objs.size) (o := .dT []) (h' := s.heap.push { cls := .type "dict", data := .dict #[] }) (t' := s.toks) (fun _ _ q => Heap.get?_push_of_some _ q) (Nat.le_refl _) (JD s.heap I.big)
 refine wpAny_Dict_any rfl rfl (fun z => nomatch z) (Nat.le_of_ble_eq_true rfl) (thn (h pins _ σ _ _ I1 (q _ hn)) fun ws s2 ⟨ps, H2, I2, rel, e, b1, b2, y1, y2, k1, k2, ep, g1, g2, q2⟩ => ?_)
 subst ep
 cases rel with
 | @cons _ w1 _ _ r1 rel =>
  cases rel with
  | @cons _ w2 _ _ r2 rel =>
   cases rel
   obtain ⟨u1, v1⟩ := w1
   obtain ⟨u2, v2⟩ := w2
   obtain ⟨ra1, rb1⟩ := r1
   obtain ⟨ra2, rb2⟩ := r2
   cases (show u1 = Value.ref b1 from ra1)
   cases (show u2 = Value.ref b2 from ra2)
   have hs : (0 : Nat) + 1 < sizeLine := by rw [sizeLine_eq]; decide
   unfold storeAll
   rw [List.forIn_cons]
   refine wpAny_bind (wpAny_bind (xn hu I2 e g1 (by simp only [List.length_nil]; omega) rb1 fun s3 I3 => wpAny_pure ?_))
   dsimp only
   have n1 : b1 ≠ s.heap.objs.size := kI g1 e (fun z => nomatch z)
   have n2 : b2 ≠ s.heap.objs.size := kI g2 e (fun z => nomatch z)
   rw [List.forIn_cons]
   refine wpAny_bind (wpAny_bind (xn hu I3 zo (by rw [zf n2]; exact g2) (by have h0 := kq ([] : List (List Key × V)) k1 y1; simp only [List.length_nil] at h0; show (kl [] k1 y1).length < sizeLine; omega) rb2 fun s4 I4 => wpAny_pure ?_))
   dsimp only
   rw [List.forIn_nil]
   rw [Kc] at I4
   exact wpAny_pure ⟨.ref s.heap.objs.size, _, I4, rfl, q2⟩
theorem yJ {H : Hp} {O : Own} {M : MH} (w : Wf H O M) {p : Addr} (hO : O p) (hM : M p = none) {u : HO} (hp : H p = some u) (hu : ∀ x, u ≠ .own x) (o : HO) (ho : ∀ xs, o ≠ .tup xs) : Wf (upd H p o) O M :=
 ⟨fun a mo e => qv.imp (jy hO o) (zf (fun z => by rw [z, hM] at e; cases e)) (fun dx x h1 _ h3 => ⟨by rw [zf (kI h3 hp (fun z => hu _ z.symm))]; exact h3, h1⟩) (w.mo a mo e), w.own, fun a ha => by
  by_cases c : a = p
  ·rw [c, zo]; exact ⟨o, rfl, ho⟩
  ·rw [zf c]; exact w.al a ha⟩
def VH (k1 v1 k2 v2 x d : AE) : AE := fun ρ M Q => k1 ρ M fun a1 M1 => v1 ρ M1 fun b1 M2 => k2 ρ M2 fun a2 M3 => v2 ρ M3 fun b2 M4 => ∃ n1 n2 : List Int, a1 = .d (.tup (n1.map .int)) /\ a2 = .d (.tup (n2.map .int)) /\ x ρ M4 fun a M5 => d ρ M5 fun b M6 =>
 ∃ n : List Int, a = .d (.tup (n.map .int)) /\ Q (if n = n2 then b2 else if n = n1 then b1 else b) M6
theorem Kq (ns : List Int) : ns.map V.int = (ns.map Sum.inl).map kV := by rw [List.map_map]; rfl
theorem yw {H : Hp} {O : Own} {M : MH} {v : V} {n : List Int} (r : zl H O M v (.d (.tup (n.map .int)))) : ∃ b, v = .ref b /\ H b = some (.tup ((n.map Sum.inl).map kV)) /\ ¬ O b := by
 cases (show Rep H O v (.tup (n.map .int)) from r) with
 | @tup a xs _ o1 h1 l1 r1 =>
  refine ⟨a, rfl, ?_, o1⟩
  have := vQ.av (M := M) ⟨l1, r1⟩
  rw [wY] at this
  rw [<- Kq, <- jW this]; exact h1
theorem J1 {t1 u1 t2 u2 tx td : TE} {k1 v1 k2 v2 x d : AE} (h1 : zQ t1 k1) (h2 : zQ u1 v1) (h3 : zQ t2 k2) (h4 : zQ u2 v2) (h5 : zQ tx x) (h6 : zQ td d) : zQ (JB (QE t1 u1 t2 u2) tx td) (VH k1 v1 k2 v2 x d) := ⟨fun {σ H O ρ M Q Q'} w e q k p hp => by
 have kp := qZ w hp (.dT [])
 have w0 := xS w hp (.dT []) (fun _ z => nomatch z)
 have pm := (w.fresh hp).2
 refine h1.go w0 (e.ext kp) q fun a1 M1 x1 H1 O1 q1 e1 w1 r1 => h2.go w1 ((e.ext kp).ext e1) q1 fun b1 M2 y1 H2 O2 q2 e2 w2 r2 => h3.go w2 (((e.ext kp).ext e1).ext e2) q2 fun a2 M3 x2 H3 O3 q3 e3 w3 r3 => h4.go w3 ((((e.ext kp).ext e1).ext e2).ext e3) q3 fun b2 M4 y2 H4 O4 q4 e4 w4 r4 => ?_
 have e14 := (((e1.trans e2).trans e3).trans e4)
 obtain ⟨p1, p2, p3⟩ := e14.prv p (.inl rfl) pm
 rw [zo] at p1
 obtain ⟨n1, n2, ea1, ea2, q5⟩ := q4
 subst ea1 ea2
 obtain ⟨c1, rfl, g1, _⟩ := yw (r1.ext ((e2.trans e3).trans e4))
 obtain ⟨c2, rfl, g2, _⟩ := yw (r3.ext e4)
 refine ⟨p1, c1, c2, y1, y2, _, _, rfl, g1, g2, p, rfl, .inr ⟨_, .inl zo⟩, ?_⟩
 generalize hkv : kl (kl [] (n1.map Sum.inl : List Key) y1) (n2.map Sum.inl : List Key) y2 = kvs
 have w5 := yJ w4 p2 p3 p1 (fun _ z => nomatch z) (.dT kvs) (fun _ z => nomatch z)
 have hfix := jy (H := H4) p2 (.dT kvs)
 have ee := ((e.ext kp).ext e14).imp hfix (fun _ z => z)
 refine h5.go w5 ee q5 fun a M5 x5 H5 O5 q6 e5 w6 r5 => h6.go w6 (ee.ext e5) q6 fun b M6 x6 H6 O6 ⟨n, ea, q7⟩ e6 w7 r6 => ?_
 subst ea
 have e56 := e5.trans e6
 obtain ⟨p4, _, _⟩ := e56.prv p p2 p3
 rw [zo] at p4
 obtain ⟨c3, rfl, g3, _⟩ := yw (r5.ext e6)
 refine ⟨_, Jx.t p4 g3, ?_⟩
 have key : ∀ z, zl H6 O6 M6 z (if n = n2 then b2 else if n = n1 then b1 else b) -> Q z H6 := fun z rz => by
  refine k _ M6 z H6 O6 q7 ⟨fun a o ha ho => ?_, fun a ha hm => ?_, fun a hm => e56.mst a (e14.mst a hm)⟩ w7 rz
  ·obtain ⟨x1, x2⟩ := (kp.trans e14).fix a o ha ho
   obtain ⟨y1, y2⟩ := hfix a o x2 x1
   exact e56.fix a o y2 y1
  ·obtain ⟨x1, x2, x3⟩ := (kp.trans e14).prv a ha hm
   have hap : a ≠ p := fun z => w.ne a ha (by rw [z]; exact hp)
   obtain ⟨y1, y2, y3⟩ := e56.prv a x2 x3
   exact ⟨y1.trans ((zf hap).trans x1), y2, y3⟩
 have inj : ∀ u v : List Int, (u.map Sum.inl : List Key) = v.map Sum.inl ↔ u = v := fun u v => ⟨fun z => (List.map_inj_right (fun _ _ z => Sum.inl.inj z)).mp z, fun z => by rw [z]⟩
 rw [<- hkv, vj, vj, Qf]
 by_cases t2 : n = n2
 ·rw [if_pos ((inj _ _).mpr t2)]
  refine key _ ?_
  rw [if_pos t2]
  exact ((r4.imp hfix (fun _ z => z)).ext e56)
 ·rw [if_neg (fun z => t2 ((inj _ _).mp z))]
  by_cases t1 : n = n1
  ·rw [if_pos ((inj _ _).mpr t1)]
   refine key _ ?_
   rw [if_neg t2, if_pos t1]
   exact (((r2.ext (e3.trans e4)).imp hfix (fun _ z => z)).ext e56)
  ·rw [if_neg (fun z => t1 ((inj _ _).mp z))]
   refine key _ ?_
   rw [if_neg t2, if_neg t1]
   exact r6⟩
end L2
set_option Elab.async false
set_option linter.all false
set_option maxRecDepth 100000
set_option maxHeartbeats 4000000
namespace Ot
open PySem PySem.Spec PyProof.Rows L2
def top (i : Nat) : Stmt := PySem.Challenge.pw_ownturn_k38_ways_put_together.main.body.getD i (.Pass ⟨0, 0, 0, 0⟩)
section
variable {P : Program} {w : World} {K : PySem.W.Frag} {mg : Str -> Option Value} {base : Heap} {k : Nat}
local macro_rules | `(tactic| walk_at "rd") => `(tactic| try simp only [QS, XE, X1, JK, tOp, KH, tC, tB, Wr, V6, wD, rI0, rI, ZA, xw, Vu, Jz, Z5, Xa, Z6, Yj, VA, tCB, Jq, Vj, wU, Xm, vV, We, VX, Yu, YC, tBM, kB, w8, YK, Zs, v0, yk, Zg, Zp, tOr, YN, Q4, Ql, wu, QW, cxK, QQ, iLT, Xj, tSl, XB, wr, VF, List.append_nil,
 List.getElem?_cons_zero, List.getElem?_cons_succ, Option.some.injEq, exists_eq_left', exists_eq_left, V.int.injEq, V.ref.injEq, V.bl.injEq, List.cons.injEq, and_true, true_and, and_assoc, decide_eq_true_eq, Bool.not_eq_true', decide_eq_false_iff_not, Bool.false_eq_true, if_false, if_true, reduceIte, exists_and_left, exists_and_right, List.set_cons_zero, List.set_cons_succ, List.nil_append, List.cons_append])
theorem jh {H : Hp} {a b : Addr} {o : HO} (h' : H b = none) (h : H a = some o) : a ≠ b := zk h h'
theorem yR {H H' : Hp} {l : Addr} (h : H' l = none) (e : Kp [] H H') : H l = none := e.free h
theorem vZ {K : PySem.W.Frag} {H H' : Hp} {a : Addr} {xs : List V} (h : SqL K H a xs) (e : Kp [] H H') : SqL K H' a xs := by
 rcases h with (h | ⟨o, h⟩) | h
 ·exact .inl (.inl (e _ _ (by simp) h))
 ·exact .inl (.inr ⟨o, e _ _ (by simp) h⟩)
 ·exact .inr h
theorem hsl : 100000 < sizeLine := by rw [sizeLine_eq]; decide
theorem Wc {α : Type} (k : Nat) (v : α) : (List.replicate k [v]).flatten = List.replicate k v := by simp
theorem jc (i : Int) {j : Int} (h : 0 < j) : 0 <= i % j /\ i % j < j := ⟨Int.emod_nonneg _ (by omega), Int.emod_lt_of_pos _ h⟩
theorem XN {i j : Int} (h1 : 0 <= i) (h2 : i < 18446744073709551616) : JT i j := .inl ⟨by omega, by omega⟩
theorem qc {i j : Int} (h1 : 0 <= j) (h2 : j < 18446744073709551616) : JT i j := .inr ⟨by omega, by omega⟩
theorem b01 (c : Prop) [Decidable c] : 0 <= (if c then (1 : Int) else 0) := by split <;> decide
theorem wI {i j : Int} (h1 : 0 < j) (h2 : j < 1073741824) : VD i j := ⟨h1, h2⟩
local macro_rules | `(tactic| walk_at "ne") => `(tactic| first | (with_reducible assumption) | exact Ne.symm (by with_reducible assumption) | exact jh (by with_reducible assumption) (by walk_at "hp") | exact Ne.symm (jh (by with_reducible assumption) (by walk_at "hp")))
local macro_rules | `(tactic| walk_at "hp") => `(tactic| first | (with_reducible assumption) | (with_reducible exact zo) | ((with_reducible refine Eq.trans (zf ?ne) ?_); (case ne => walk_at "ne"); walk_at "hp"))
local macro_rules | `(tactic| walk_at "kp") => `(tactic| first | (with_reducible assumption) | (with_reducible exact Kp.refl) | ((with_reducible refine Kp.trans ?_ (Kp.new _ ?h)); (case h => with_reducible assumption); walk_at "kp") | ((with_reducible refine Kp.trans ?_ (Kp.set _ ?h)); (case h => (simp; done)); walk_at "kp"))
local macro_rules | `(tactic| walk_at "fr") => `(tactic| first | (with_reducible assumption) | exact yR (by with_reducible assumption) (by walk_at "kp"))
local macro_rules | `(tactic| walk_at "sz") => `(tactic| (simp only [List.length_cons, List.length_nil, List.length_map, List.length_append, List.length_replicate, List.length_take, List.length_drop, zV, Wc, Nat.zero_add, Nat.one_mul]; omega))
local macro_rules | `(tactic| walk_at "fact") => `(tactic| first | (with_reducible assumption) | exact rfl | exact SqL.of (by walk_at "hp") | exact SqT.of (by walk_at "hp") | exact Or.inl (SqL.of (by walk_at "hp")) | exact Or.inr (SqT.of (by walk_at "hp")) | exact Or.inl (by with_reducible assumption) | exact vZ (by with_reducible assumption) (by walk_at "kp") | exact Or.inl (vZ (by with_reducible assumption) (by walk_at "kp")) | exact Exists.intro _ (SqL.of (by walk_at "hp")) | exact Exists.intro _ (vZ (by with_reducible assumption) (by walk_at "kp")) | (walk_at "hp") | decide | omega | exact XN (by omega) (by omega) | exact qc (by omega) (by omega) | exact wI (by omega) (by omega) | exact ⟨by omega, by omega⟩ | (walk_at "sz") | exact ⟨by decide, by decide, by decide⟩ | exact qc (b01 _) (b01' _) | (walk_at "fr"))
local macro_rules | `(tactic| walk_at "x1") => `(tactic| first
 | ((with_reducible refine Exists.intro ?w (And.intro ?h ?_)); (case h => walk_at "fact"))
 | ((with_reducible refine And.intro ?h ?_); (case h => walk_at "fact"))
 | ((with_reducible refine Exists.intro ?w (Exists.intro ?w2 (And.intro ?h ?_))); (case h => walk_at "fact")))
local macro_rules | `(tactic| walk_at "xs") => `(tactic| repeat walk_at "x1")
local macro_rules | `(tactic| walk_at "sim1") => `(tactic| first
 | (with_reducible apply JN) | with_reducible exact Ku | with_reducible exact VB | with_reducible exact XH | with_reducible exact Yl | with_reducible exact YH | with_reducible exact KL | with_reducible exact QR | with_reducible exact ZQ | with_reducible exact QC
 | with_reducible exact Q6 | with_reducible exact KP | with_reducible exact Ys | with_reducible exact Ka | with_reducible exact ZZ | with_reducible exact JX
 | with_reducible exact KQ | with_reducible exact Jj | with_reducible exact Kb
 | with_reducible exact X5 | with_reducible exact ZL | with_reducible exact K7 | with_reducible exact Qe | with_reducible exact KN | with_reducible exact QT
 | with_reducible exact vJ | with_reducible exact xv
 | with_reducible exact xh
 | (with_reducible apply J7) | (with_reducible apply Km) | (with_reducible apply K8) | (with_reducible apply KO) | (with_reducible apply QZ) | (with_reducible apply KJ) | (with_reducible apply Qj) | (with_reducible apply JQ)
 | (with_reducible apply Zx) | (with_reducible apply Qo) | (with_reducible apply Qi) | (with_reducible apply VZ) | (with_reducible apply Ve) | (with_reducible apply Kh) | (with_reducible apply Yx) | (with_reducible apply KC)
 | (with_reducible apply Kj) | (with_reducible apply QO) | (with_reducible apply K1) | (with_reducible apply Qz)
 | (with_reducible apply JS) | (with_reducible apply Yh) | (with_reducible apply J1) | (with_reducible apply xb) | (with_reducible apply xt) | (with_reducible apply Jv)
 | (with_reducible apply yd) | (with_reducible apply ZN) | (with_reducible apply Ks) | (with_reducible apply X3) | (with_reducible apply Zi) | (with_reducible apply ZO) | (with_reducible apply XT)
 | (with_reducible apply vX) | (with_reducible apply ZG) | (with_reducible apply ZH)
 | (with_reducible apply xR))
local macro_rules | `(tactic| walk_at "sim") => `(tactic| repeat' walk_at "sim1")
local macro_rules | `(tactic| walk_at "ra") => `(tactic| try simp only [KU, aC, aOp, YW, wL, aCB, ZY, aFz, aOw, VJ, Wa, aB, ko, aOr, V1, Xv, Xz, JI, vS, Xn, Wj, VS, xX, Jt, yp, Qb, Xl, Xu, asL, VP, V0, aiS, VG, Ws, jO, v8, wQ, aI, aI0, VQ, aIx, V9, V2, bI2, Jh, fCB, JJ, VU, Xw, VN, Xh, Qg, aBM, wv, VH, Xf, Yi, Q8, Ym, Yd, XS, Wo, VM, V8, V7, VL, V5, Jn, ZK, Option.map_some, Vk, XI, XO, Vb, Vr, X0, YB, XR, Y9, Ya, Y3, Vq, Ye, Y1, YG, Yt, Yk, Vy, XU, Y8, Yn, X4, Vv, Vl, X7, Yv, YA, Vg, X6, Ja, Vi, Vn, Vh, Y6, Vo, Va, KG, ZV, zF, qB, Xg, wY, Xt, Yb, X2, XM, J9, K0, J3, Kg, KM, KE, KY, vR, VO, Vc, YZ, YM, QA, Vs, XX, Yc, Vz, XC, X8, Yr, Vw, id, decide_true, decide_false, Bool.decide_eq_true, not_true_eq_false, not_false_eq_true, J8,
 List.getElem?_cons_zero, List.getElem?_cons_succ, Option.some.injEq, exists_eq_left', exists_eq_left, AV.d.injEq, AV.ref.injEq, Dat.int.injEq, Dat.bl.injEq, Dat.str.injEq, Dat.lst.injEq, Dat.tup.injEq, Dat.ty.injEq, List.cons.injEq, and_true, true_and, and_assoc, decide_eq_true_eq, Bool.not_eq_true', decide_eq_false_iff_not, Bool.false_eq_true, if_false, if_true, reduceIte, exists_and_left, exists_and_right, List.set_cons_zero, List.set_cons_succ, List.nil_append, List.cons_append, List.length_map, List.map_cons, List.map_nil, Nat.zero_le, Bool.not_true, Bool.not_false, Bool.true_eq_false, eq_self, List.length_cons, List.length_nil])
theorem yM (ns : List Int) (lo hi : Option Int) : ZP (ns.map V.int) lo hi = List.map V.int ((ns.drop (HT.sIx ns.length 0 lo)).take (HT.sIx ns.length ns.length hi - HT.sIx ns.length 0 lo)) := by
 unfold ZP
 rw [List.length_map, <- List.map_drop, <- List.map_take]
theorem wn (cs : List Int) (j : Nat) (v : Int) : (cs.map V.int).set j (.int v) = (cs.set j v).map V.int := by rw [List.map_set]
theorem y8 {cs : List Int} {k : Int} (h0 : 0 <= k) (h1 : k < cs.length) : ixN (cs.map V.int).length k = some k.toNat /\ atI (cs.map V.int) k = some (.int (cs.getD k.toNat 0)) := by
 have hk : k.toNat < cs.length := by omega
 have e1 : ixN (cs.map V.int).length k = some k.toNat := by unfold ixN; rw [List.length_map, if_pos h0, if_pos h1]
 refine ⟨e1, ?_⟩
 unfold atI
 rw [e1]
 show (cs.map V.int)[k.toNat]? = _
 rw [List.getElem?_map, List.getD_eq_getElem?_getD, List.getElem?_eq_getElem hk]; rfl
theorem yc {ns : List Int} {i : Nat} {x : V} (h : (ns.map V.int)[i]? = some x) : x = .int (ns.getD i 0) /\ i < ns.length := by
 rw [List.getElem?_map] at h
 cases e : ns[i]? with
 | none => rw [e] at h; cases h
 | some v =>
  rw [e] at h
  cases h
  exact ⟨by rw [List.getD_eq_getElem?_getD, e]; rfl, (List.getElem?_eq_some_iff.mp e).1⟩
abbrev wb : Stmt := top 13
theorem wB : zy ["_law_box_here", "_law_many", "_law_once", "_law_found"] ["_law_box_here", "_law_many"] (zg wb) := ⟨rfl, rfl, rfl, by decide +kernel, rfl, by decide +kernel, by decide +kernel⟩
def Z2 : Sp := fun vs H Q _ => ∃ (b : Addr) (many : Int) (N : Nat), vs = [.ref b, .int many] /\ Bx H b N /\ N < 1000000000 /\ 0 < many /\ many < 1073741824 /\ ∀ r H', Kp [b] H H' -> Bx H' b (N + 1) -> 0 <= r -> r < many -> Q (.int r) H'
theorem K6 (a : At K mg "_law_take" wb) (B : Blt mg) : Df P w K mg base "_law_take" ["_law_box_here", "_law_many"] 1 Z2 := by
 refine vq (k := 0) a wB (fun _ _ _ _ _ _ us hl => match us, hl with | [_, _], _ => rfl) (fun vs H Q E h => ?_) (fun f cdv A outer s H vs Q E hr h => ?_)
 ·obtain ⟨b, m, N, rfl, _⟩ := h; rfl
 obtain ⟨b, m, N, rfl, ⟨x, y, z, hb, hx, hy, hy', hz, hz'⟩, hN, hm, hm', q⟩ := h
 have sc := wB
 refine ⟨_, (zd (qu (qf Xi (zK qg (pv 0) zb (fun _ _ => rfl)) zb (zM _)) (zd (jI (zm vf rfl B.divmod ZR (za (zK qg (pv 0) zb (fun _ _ => rfl)) (za (pv 1) zc))) (kz (K := K) 2 rfl rfl (zX (kE (pv 0) zb qR) (zX (zr (i := 3) sc.nd rfl (by first | exact Or.inl rfl | exact Or.inr rfl)) jM))))
  (zh (zu (pv 3)))) zL)
  (zd (jI (zp zT (zK qg (pv 0) zb (fun _ _ => rfl)) zb) (kE (pv 0) zb qR))
  (zd (zS (i := 2) sc.nd rfl (by first | exact Or.inl rfl | exact Or.inr rfl) (zp qF (zp zW (zp zT (zK qg (pv 0) zb (fun _ _ => rfl)) (zp zW zb (zK qg (pv 0) zb (fun _ _ => rfl)))) (zp zT zb (zK qg (pv 0) zb (fun _ _ => rfl)))) zb))
  (zd (jI (zp qF (zp zT (zp zW (pv 2) (zp zT (zp qF (pv 2) zb) zb)) (zK qg (pv 0) zb (fun _ _ => rfl))) zb) (kE (pv 0) zb qR))
  (zh (zu (zp qF (zp wq (zp qF (zp zW (zK qg (pv 0) zb (fun _ _ => rfl)) (zp zT (zp qF (zK qg (pv 0) zb (fun _ _ => rfl)) zb) zb)) zb) zb) (pv 1)))))))), ?_⟩
 rw [show qK ["_law_box_here", "_law_many", "_law_once", "_law_found"] [V.ref b, V.int m] = [some (.ref b), some (.int m), none, none] from rfl]
 walk_at "rd"
 walk_at "xs"
 refine WE (fun c => ?_) (fun c => ?_)
 ·walk_at "xs"
  refine fun p hp => ?_
  walk_at "xs"
  refine q _ _ ((Kp.new _ hp).trans (Kp.set _ (by simp))) ⟨_, _, _, zo, Int.ediv_nonneg hx (by omega), hy, hy', hz, by omega⟩ (jc x hm).1 (jc x hm).2
 ·walk_at "xs"
  refine q _ _ ((Kp.set _ (by simp)).trans (Kp.set _ (by simp))) ⟨_, _, _, zo, hx, ?_, ?_, ?_, ?_⟩ (jc _ hm).1 (jc _ hm).2
  ·exact (jc _ (by decide)).1
  ·exact Int.lt_trans (jc _ (by decide)).2 (by decide)
  ·omega
  ·omega
abbrev Qw : Stmt := top 12
theorem JE : zy ["_law_script", "_law_k", "_law_cell"] ["_law_script", "_law_k"] (zg Qw) := ⟨rfl, rfl, rfl, by decide +kernel, rfl, by decide +kernel, by decide +kernel⟩
def XA : Sp := fun vs H Q _ => ∃ (a : Addr) (k : Int) (cs : List Int), vs = [.ref a, .int k] /\ H a = some (il cs) /\ 0 <= k /\ k <= 1000 /\ cs.length <= 1000 /\ ∀ p H', Kp [] H H' -> H p = none -> Bx H' p 0 -> Q (.ref p) H'
theorem K3 {cs : List Int} {k : Int} (h0 : 0 <= k) : ∃ c : Int, atI (cs.map V.int ++ List.replicate (k + 1).toNat (V.int 0)) k = some (.int c) := by
 have e : cs.map V.int ++ List.replicate (k + 1).toNat (V.int 0) = (cs ++ List.replicate (k + 1).toNat 0).map V.int := by simp
 have ek : k = ((k.toNat : Nat) : Int) := by omega
 have hk : k.toNat < (cs ++ List.replicate (k + 1).toNat (0 : Int)).length := by rw [List.length_append, List.length_replicate]; omega
 refine ⟨(cs ++ List.replicate (k + 1).toNat 0)[k.toNat], ?_⟩
 rw [e]
 have q : atI ((cs ++ List.replicate (k + 1).toNat (0 : Int)).map V.int) ((k.toNat : Nat) : Int) = some (.int (cs ++ List.replicate (k + 1).toNat 0)[k.toNat]) := Kd (by rw [List.getElem?_map, List.getElem?_eq_getElem hk] <;> rfl)
 rw [<- ek] at q
 exact q
theorem YY (a : At K mg "_law_box" Qw) (B : Blt mg) : Df P w K mg base "_law_box" ["_law_script", "_law_k"] 1 XA := by
 refine vq (k := 0) a JE (fun _ _ _ _ _ _ us hl => match us, hl with | [_, _], _ => rfl) (fun vs H Q E h => ?_) (fun f cdv A outer s H vs Q E hr h => ?_)
 ·obtain ⟨a, k, cs, rfl, _⟩ := h; rfl
 obtain ⟨a, k, cs, rfl, ha, hk, hk', hcs, q⟩ := h
 have sc := JE
 have hsl := hsl
 refine ⟨_, (zd (zS (i := 2) sc.nd rfl (by first | exact Or.inl rfl | exact Or.inr rfl) (zK qg (zp Yp (pv 0) (zp XJ (qN (za zb zc)) (zp zT (pv 1) zb))) (pv 1) (fun _ _ => rfl)))
  (zh (zu (qN (za (zp zW (zm vm rfl B.abs Qd (za (pv 2) zc)) (zE ZF rfl B.int vK (za (qH V3 (zm vm rfl B.abs Qd (za (pv 2) zc)) (zp YO zb zb) (zM _)) zc))) (za (zp qF (zp zW (zp zT (zp zT (zp qF (pv 2) zb) (zp zW zb (pv 1))) zb) zb) zb) (za zb zc))))))), ?_⟩
 rw [show qK ["_law_script", "_law_k", "_law_cell"] [V.ref a, V.int k] = [some (.ref a), some (.int k), none] from rfl]
 walk_at "rd"
 walk_at "xs"
 intro p1 hp1
 walk_at "xs"
 intro p2 hp2
 walk_at "xs"
 intro p3 hp3
 simp only [Wc] at hp3 ⊢
 obtain ⟨c, hc⟩ := K3 (cs := cs) hk
 walk_at "xs"
 intro p4 hp4
 refine q _ _ (by walk_at "kp") (by walk_at "fr") ⟨_, _, _, zo, ?_, ?_, ?_, ?_, ?_⟩
 ·exact Int.mul_nonneg (by split <;> omega) (b01 _)
 ·exact (jc _ (by decide)).1
 ·exact Int.lt_trans (jc _ (by decide)).2 (by decide)
 ·decide
 ·decide
abbrev kO : Stmt := top 14
theorem xP : zy ["_law_script", "_law_many", "_law_cells", "_law_k", "_law_cell"] ["_law_script", "_law_many"] (zg kO) := ⟨rfl, rfl, rfl, by decide +kernel, rfl, by decide +kernel, by decide +kernel⟩
def vd (K : PySem.W.Frag) : Sp := fun vs H Q _ => ∃ (a : Addr) (m : Int) (ns : List Int), vs = [.ref a, .int m] /\ SqL K H a (ns.map V.int) /\ 0 < m /\ m <= 60 /\ ns.length <= 63 /\ ∀ p H' cs, Kp [] H H' -> H p = none -> H' p = some (il cs) -> cs.length <= 1000 -> Q (.ref p) H'
theorem ZC (a : At K mg "_law_folded" kO) (B : Blt mg) : Df P w K mg base "_law_folded" ["_law_script", "_law_many"] 1 (vd K) := by
 refine vq (k := 0) a xP (fun _ _ _ _ _ _ us hl => match us, hl with | [_, _], _ => rfl) (fun vs H Q E h => ?_) (fun f cdv A outer s H vs Q E hr h => ?_)
 ·obtain ⟨a, k, cs, rfl, _⟩ := h; rfl
 obtain ⟨a, m, ns, rfl, ha, hm, hm', hns, q⟩ := h
 obtain ⟨M, rfl⟩ : ∃ M : Nat, m = M := ⟨m.toNat, by omega⟩
 have sc := xP
 have hsl := hsl
 refine ⟨_, (zd (zS (i := 2) sc.nd rfl (by first | exact Or.inl rfl | exact Or.inr rfl) (zE qe rfl B.list qh (za (vy wx (pv 0) Kz (xW (pv 1))) zc)))
  (zd (ym PassesOwn.never rfl (Kf rfl B.enumerate (za (vy wx (pv 0) (xW (pv 1)) (xW zb)) zc)) (kz (K := K) 2 rfl rfl (zX (zr (i := 3) sc.nd rfl (by first | exact Or.inl rfl | exact Or.inr rfl)) (zX (zr (i := 4) sc.nd rfl (by first | exact Or.inl rfl | exact Or.inr rfl)) jM))) (zh (jI (zp zT (zK qg (pv 2) (zp qF (pv 3) (pv 1)) (fun _ _ => rfl)) (zp zW (pv 4) (zp zT (pv 3) zb))) (kE (pv 2) (zp qF (pv 3) (pv 1)) qR))))
  (zh (zu (pv 2))))), ?_⟩
 rw [show qK ["_law_script", "_law_many", "_law_cells", "_law_k", "_law_cell"] [V.ref a, V.int M] = [some (.ref a), some (.int M), none, none, none] from rfl]
 walk_at "rd"
 walk_at "xs"
 intro p1 hp1
 rw [yM]
 walk_at "xs"
 intro p2 hp2
 walk_at "xs"
 intro p3 hp3
 rw [yM]
 have e63 : (63 : Int) = ((63 : Nat) : Int) := rfl
 simp only [HT.sIx_none, HT.sIx_nat, e63, List.drop_zero, Nat.sub_zero] at hp2 hp3 ⊢
 walk_at "xs"
 generalize hc0 : ns.take (min M ns.length) = c0 at hp2 hp3 ⊢
 generalize hd0 : (ns.drop (min M ns.length)).take (min 63 ns.length - min M ns.length) = d0 at hp2 hp3 ⊢
 have lc : c0.length = min M ns.length := by rw [<- hc0, List.length_take]; omega
 have ld : d0.length <= ns.length - M := by rw [<- hd0, List.length_take, List.length_drop]; omega
 have n23 : p2 ≠ p3 := by walk_at "ne"
 refine Kl (xs := d0.map V.int) (fun i τ H' => ∃ u v cs, τ = [some (.ref a), some (.int M), some (.ref p2), u, v] /\ Kp [p2] (upd (upd (upd H p1 (HO.lst (List.map V.int c0))) p2 (HO.lst (List.map V.int c0))) p3 (HO.lst (List.map V.int d0))) H' /\ H' p2 = some (il cs) /\ cs.length = c0.length) ?_ ?_ ?_ ?_
 ·exact ⟨none, none, c0, rfl, Kp.refl, by walk_at "hp", rfl⟩
 ·rintro i τ H' _ ⟨u, v, cs, rfl, kp, _⟩
  exact SqL.of (kp _ _ (by simp [Ne.symm n23]) (by walk_at "hp"))
 ·rintro i x pp τ H' hx hpp ⟨u, v, cs, rfl, kp, hcs, hl⟩
  obtain ⟨rfl, hi⟩ := yc hx
  have b1 := jc (i : Int) hm
  obtain ⟨g1, g2⟩ := y8 (cs := cs) (k := (i : Int) % (M : Int)) b1.1 (by omega)
  have hcs' : upd H' pp (HO.tup [V.int i, V.int (d0.getD i 0)]) p2 = some (il cs) := by walk_at "hp"
  walk_at "rd"
  walk_at "xs"
  refine ⟨(kp.trans (Kp.new _ hpp)).trans (Kp.set _ (by simp)), _, zo.trans (congrArg some (congrArg HO.lst (wn _ _ _))), by rw [List.length_set]; exact hl⟩
 ·rintro τ H' ⟨u, v, cs, rfl, kp, hcs, hl⟩
  walk_at "rd"
  refine q _ _ cs (fun c o hc hh => kp c o ?_ ((((Kp.new _ hp1).trans (Kp.new _ hp2)).trans (Kp.new _ hp3)) c o hc hh)) (by walk_at "fr") hcs (by omega)
  have : c ≠ p2 := jh (yR hp2 (Kp.new _ hp1)) hh
  simpa using this
def JY : ASp := fun xs M Q => ∃ (b : Addr) (many : Int) (N : Nat), xs = [.ref b, .d (.int many)] /\ BxM M b N /\ N < 1000000000 /\ 0 < many /\ many < 1073741824 /\ ∀ r M', BxS M M' b (N + 1) -> 0 <= r -> r < many -> Q (.d (.int r)) M'
theorem KS (vs : List V) (H : Hp) (Q : VK) (E : XK) (h : cSp JY vs H Q E) : Z2 vs H Q E := by
 obtain ⟨xs, M, O, Q', w, r, ⟨b, many, N, rfl, hb, h1, h2, h3, q⟩, k⟩ := h
 obtain ⟨v, u, rfl, rv, ru⟩ := j7 r
 rw [zN ru, rv.1]
 refine ⟨b, many, N, rfl, hb.bx w, h1, h2, h3, fun r H' kp hb' r0 r1 => ?_⟩
 obtain ⟨M', s, e, w'⟩ := Yy w hb kp hb'
 exact k _ _ _ _ _ (q r M' s r0 r1) e w' .int
def Wt : ASp := fun xs M Q => ∃ (x : AV) (k : Int) (cs : List Int), xs = [x, .d (.int k)] /\ qi x M = some (cs.map fun i => .d (.int i)) /\ 0 <= k /\ k <= 1000 /\ cs.length <= 1000 /\ ∀ p o, M p = none -> BxM (mup M p o) p 0 -> Q (.ref p) (mup M p o)
theorem XD (vs : List V) (H : Hp) (Q : VK) (E : XK) (h : cSp Wt vs H Q E) : XA vs H Q E := by
 obtain ⟨xs, M, O, Q', w, r, ⟨x, n, cs, rfl, hx, h1, h2, h3, q⟩, k⟩ := h
 obtain ⟨v, u, rfl, rv, ru⟩ := j7 r
 rw [zN ru]
 obtain ⟨a, rfl, ha⟩ := JM w rv hx
 refine ⟨a, n, cs, rfl, ha, h1, h2, h3, fun p H' kp hp hb' => ?_⟩
 obtain ⟨x', y', z', g1, g2⟩ := hb'
 obtain ⟨e1, w1⟩ := JZ w kp
 have fr := w.fresh hp
 have e2 := Ext.owned (O' := Zn O p) (p := p) w ⟨fun a o h e => ⟨(e1.fix a o h e).1, fun z => z.elim (zk e hp) h⟩, fun a h e => ⟨(e1.prv a h e).1, .inr h, e⟩, fun _ h => h⟩ hp (.lst ([x', y', z'].map fun i => .d (.int i)))
 refine k _ _ _ _ _ (q p _ fr.2 ⟨x', y', z', zi, g2⟩) e2 (yU (O := Zn O p) (xs := [V.int x', V.int y', V.int z']) ⟨fun a o h => ?_, fun a h => .inr (w1.own a h), fun a h => ?_⟩ (.inl rfl) fr.2 g1 (vW [x', y', z'])) ⟨rfl, by rw [zi]; exact fun z => nomatch z⟩
 ·have e3 : Ext H O M H' (Zn O p) M := ⟨fun a o h e => ⟨(e1.fix a o h e).1, fun z => z.elim (zk e hp) h⟩, fun a h e => ⟨(e1.prv a h e).1, .inr h, e⟩, fun _ h => h⟩
  refine qv.ext e3 ?_ (w.mo a o h)
  obtain ⟨u, hu, _⟩ := w.al a (w.own a (qI h))
  rw [hu]; exact kp a u (by simp) hu
 ·rcases h with rfl | h
  ·exact ⟨_, g1, fun xs z => nomatch z⟩
  ·exact w1.al a h
def wJ (K : PySem.W.Frag) : ASp := fun xs M Q => ∃ (m : Int) (ns : List Int), xs = [.d (.scr K ns), .d (.int m)] /\ 0 < m /\ m <= 60 /\ ns.length <= 63 /\ ∀ cs : List Int, cs.length <= 1000 -> Q (.d (.lst (cs.map .int))) M
theorem ZW (vs : List V) (H : Hp) (Q : VK) (E : XK) (h : cSp (wJ K) vs H Q E) : vd K vs H Q E := by
 obtain ⟨xs, M, O, Q', w, r, ⟨m, ns, rfl, h1, h2, h3, q⟩, k⟩ := h
 obtain ⟨v, u, rfl, rv, ru⟩ := j7 r
 rw [zN ru]
 obtain ⟨a, rfl, ha⟩ := Kv rv
 refine ⟨a, m, ns, rfl, ha, h1, h2, h3, fun p H' cs kp hp hc lc => ?_⟩
 obtain ⟨e1, w1⟩ := JZ w kp
 exact k _ _ _ _ _ (q cs lc) e1 w1 (Jk (w.fresh hp).1 hc)
def ky : Dat -> Option (List Dat)
 | .lst l => some l
 | .tup l => some l
 | _ => none
theorem kf {d : Dat} {l : List Dat} (h : ky d = some l) (M : MH) : jj (.d d) M = some (l.map .d) := by
 cases d with
 | lst m => cases h; rfl
 | tup m => cases h; rfl
 | _ => cases h
theorem Qm (n : Nat) : qx 0 1 n = (List.range n).map fun (i : Nat) => (i : Int) := by
 unfold qx
 exact List.map_congr_left fun i _ => by omega
theorem jv (n : Nat) : jY 0 1 n = (List.range n).map fun (i : Nat) => AV.d (.int (i : Int)) := by
 unfold jY
 exact List.map_congr_left fun i _ => by rw [Int.zero_add, Int.mul_one]
theorem Yw {τ : Type} (R : τ -> ASt) (f : Nat -> Int) {ag : AG} {ae : AE} {G : MH -> Prop} {N : List AV -> ASt -> MH -> Prop} {n : Nat} {ρ : ASt} {M : MH} (h0 : ∃ o, ρ = R o) (hG : G M) (hl : n <= 100000)
  (hs : ∀ (o : τ) (i : Nat) (Q : AV -> ASt -> MH -> Prop), i < n -> (∀ o', Q (.d (.int (f i))) (R o') M) -> ag (.d (.int (i : Int))) (R o) M fun ρ2 M2 => ae ρ2 M2 fun y M3 => Q y ρ2 M3) (hN : ∀ o, N (((List.range n).map f).map fun i => AV.d (.int i)) (R o) M) : yu ag ko (jO ae) G N (jY 0 1 n) [] ρ M := by
 refine Kk R (fun i => .d (.int (f i))) h0 hG (by rw [je]; exact hl) (fun o i x Q hx q => ?_) fun o => ?_
 ·obtain ⟨hi, rfl⟩ := kL hx
  rw [Int.zero_add, Int.mul_one]
  exact hs o i Q hi q
 ·rw [je]
  have := hN o
  rw [List.map_map] at this
  exact this
theorem jR (ns : List Int) : dp (ilD ns) <= 40 := by
 have : ∀ ns : List Int, dps (ns.map .int) <= 0 := fun ns => yj fun d hd => by obtain ⟨i, _, rfl⟩ := List.mem_map.mp hd; simp [dp]
 rw [dp]; have := this ns; omega
def zU (r c : Nat) : List Int := (List.range (r * c)).map fun (p : Nat) => ((p % c * r + p / c : Nat) : Int)
def qY (one other : List Int) : List Int := one.map fun p => other.getD p.toNat 0
def Q9 : ASp := fun xs M Q => ∃ (r c p : Nat), xs = [.d (.int r), .d (.int c), .d (.int p)] /\ 0 < c /\ r <= 100000 /\ c <= 100000 /\ p <= 100000 /\ Q (.d (.int ((p % c * r + p / c : Nat) : Int))) M
abbrev yA : Stmt := top 8
theorem vn : zy ["rows", "columns", "place"] ["rows", "columns", "place"] (zg yA) := ⟨rfl, rfl, rfl, by decide +kernel, rfl, by decide +kernel, by decide +kernel⟩
theorem QM (a : At K mg "turn_place" yA) (B : Blt mg) : Df P w K mg base "turn_place" ["rows", "columns", "place"] 1 (cSp Q9) := by
 refine dfA (k := 0) a vn (fun _ _ _ _ _ _ us hl => match us, hl with | [_, _, _], _ => rfl) (fun xs M Q h => ?_) (fun f cdv A outer s H E hr => ?_)
 ·obtain ⟨_, _, _, rfl, _⟩ := h; rfl
 have sc := vn
 have hsl := hsl
 refine ⟨_, (zh (zu (zp zT (zp zW (zp qF (pv 2) (pv 1)) (pv 0)) (zp wq (pv 2) (pv 1))))), ?_⟩
 refine ex2 (by walk_at "sim") ?_
 rintro xs M Q ⟨r, c, p, rfl, hc, h1, h2, h3, q⟩
 rw [show z0 ["rows", "columns", "place"] [.d (.int r), .d (.int c), .d (.int p)] = [some (.d (.int r)), some (.d (.int c)), some (.d (.int p))] from rfl]
 walk_at "ra"
 refine ⟨by omega, qc (by omega) (by omega), wI (by omega) (by omega), ?_⟩
 refine kT Fr.refl ?_
 rw [show (p : Int) % c * r + p / c = ((p % c * r + p / c : Nat) : Int) by push_cast; rfl]
 exact q
def Xx : ASp := fun xs M Q => ∃ (r c : Nat), xs = [.d (.int r), .d (.int c)] /\ r <= 2000 /\ c <= 2000 /\ r * c <= 2000 /\ Q (.d (ilD (zU r c))) M
abbrev vO : Stmt := top 9
theorem wX : zy ["rows", "columns", "place"] ["rows", "columns"] (zg vO) := ⟨rfl, rfl, rfl, by decide +kernel, rfl, by decide +kernel, by decide +kernel⟩
theorem J2 (a : At K mg "turn_order" vO) (B : Blt mg) (D_turn_place : Df P w K mg base "turn_place" ["rows", "columns", "place"] 1 (cSp Q9)) : Df P w K mg base "turn_order" ["rows", "columns"] 2 (cSp Xx) := by
 refine dfA (k := 1) a wX (fun _ _ _ _ _ _ us hl => match us, hl with | [_, _], _ => rfl) (fun xs M Q h => ?_) (fun f cdv A outer s H E hr => ?_)
 ·obtain ⟨_, _, rfl, _⟩ := h; rfl
 have sc := wX
 have hsl := hsl
 refine ⟨_, (zh (zu (qL (ts := [2]) rfl rfl (qm rfl B.range (za (zp zW (pv 0) (pv 1)) zc)) (fun _ _ _ _ => (zr (i := 2) sc.nd rfl (by first | exact Or.inl rfl | exact Or.inr rfl))) (fun _ _ _ _ => zP) (fun _ _ _ _ => (zD D_turn_place hr rfl (za (pv 0) (za (pv 1) (za (pv 2) zc)))))))), ?_⟩
 refine ex2 (by walk_at "sim") ?_
 rintro xs M Q ⟨r, c, rfl, h1, h2, h3, q⟩
 rw [show z0 ["rows", "columns", "place"] [.d (.int r), .d (.int c)] = [some (.d (.int r)), some (.d (.int c)), none] from rfl]
 walk_at "ra"
 refine ⟨qc (by omega) (by omega), ?_⟩
 rw [show (r : Int) * c = ((r * c : Nat) : Int) by push_cast; rfl]
 refine ⟨by omega, by omega, ?_⟩
 rw [Int.toNat_natCast]
 refine Yw (fun o => [some (.d (.int r)), some (.d (.int c)), o]) (fun p => ((p % c * r + p / c : Nat) : Int)) ⟨_, rfl⟩ trivial (by omega) (fun o i Q hi q => ?_) fun o => ⟨_, qB _, kT Fr.refl q⟩
 walk_at "ra"
 exact ⟨r, c, i, rfl, Nat.pos_of_ne_zero (fun z => by rw [z] at hi; simp at hi), by omega, by omega, by omega, q _⟩
def jb : AV -> Int
 | .d (.int i) => i
 | _ => 0
theorem qV {α : Type} (n : Nat) (g : Int -> List α) : (jY 0 1 n).flatMap (fun x => g (jb x)) = (List.range n).flatMap fun (i : Nat) => g (i : Int) := by
 rw [jv, List.flatMap_map]
 rfl
theorem xO {α : Type} (ns : List Int) (g : Int -> List α) : (ns.map fun i => AV.d (.int i)).flatMap (fun x => g (jb x)) = ns.flatMap g := by
 rw [List.flatMap_map]
 rfl
theorem xm {α : Type} (l : List α) (g : α -> List Int) : (l.flatMap fun x => (g x).map fun i => AV.d (.int i)) = (l.flatMap g).map fun i => AV.d (.int i) := by
 rw [List.map_flatMap]
theorem jX {α β : Type} (l : List α) (g : α -> List β) (k : Nat) (h : ∀ x ∈ l, (g x).length <= k) : (l.flatMap g).length <= l.length * k := by
 induction l with
 | nil => simp
 | cons a r ih =>
  rw [List.flatMap_cons, List.length_append, List.length_cons, Nat.succ_mul]
  have h1 := h a (by simp)
  have h2 := ih fun x hx => h x (by simp [hx])
  omega
theorem wA {τ : Type} (R : τ -> ASt) (f : Int -> Int) {ag : AG} {ae : AE} {G : MH -> Prop} {N : List AV -> ASt -> MH -> Prop} {ns : List Int} {l acc : List AV} {ρ : ASt} {M : MH} (hl0 : l = ns.map fun i => AV.d (.int i)) (h0 : ∃ o, ρ = R o) (hG : G M) (hl : acc.length + ns.length <= 100000)
  (hs : ∀ (o : τ) (i : Int) (Q : AV -> ASt -> MH -> Prop), i ∈ ns -> (∀ o', Q (.d (.int (f i))) (R o') M) -> ag (.d (.int i)) (R o) M fun ρ2 M2 => ae ρ2 M2 fun y M3 => Q y ρ2 M3) (hN : ∀ o, N (acc ++ (ns.map f).map fun i => AV.d (.int i)) (R o) M) : yu ag ko (jO ae) G N l acc ρ M := by
 subst hl0
 have hsl : 100000 < sizeLine := by rw [sizeLine_eq]; decide
 have e : ((ns.map fun i => AV.d (.int i)).flatMap fun x => [AV.d (.int (f (jb x)))]) = (ns.map f).map fun i => AV.d (.int i) := by
  rw [xO ns (fun i => [AV.d (.int (f i))]), List.map_map]
  exact List.map_eq_flatMap.symm
 refine jx R (fun x => [AV.d (.int (f (jb x)))]) h0 hG (by rw [e]; simp; omega) (fun o x acc N' hx hle q => ?_) fun o => by rw [e]; exact hN o
 obtain ⟨i, hi, rfl⟩ := List.mem_map.mp hx
 refine hs o i (fun y ρ2 M3 => acc.length < sizeLine /\ N' (acc ++ [y]) ρ2 M3) hi fun o' => ⟨?_, q o'⟩
 simp only [List.length_cons, List.length_nil] at hle
 omega
def zA (o r c i : Nat) : List Int := ((List.range o).flatMap fun (t : Nat) => (zU r c).map fun g => (t : Int) * ((r * c : Nat) : Int) + g).flatMap fun cell => (List.range i).map fun (a : Nat) => cell * (i : Int) + (a : Int)
def Ji : ASp := fun xs M Q => ∃ (o r c i : Nat), xs = [.d (.int o), .d (.int r), .d (.int c), .d (.int i)] /\ o <= 1000 /\ r <= 1000 /\ c <= 1000 /\ i <= 1000 /\ r * c <= 1000 /\ o * (r * c) <= 1000 /\ o * (r * c) * i <= 1000 /\ Q (.d (ilD (zA o r c i))) M
theorem kc (r c : Nat) : (zU r c).length = r * c := by unfold zU; rw [List.length_map, List.length_range]
theorem yL {r c : Nat} {g : Int} (h : g ∈ zU r c) : 0 <= g /\ g < ((r * c : Nat) : Int) := by
 unfold zU at h
 obtain ⟨p, hp, rfl⟩ := List.mem_map.mp h
 rw [List.mem_range] at hp
 have hc : 0 < c := Nat.pos_of_ne_zero fun z => by rw [z] at hp; simp at hp
 have h1 : p / c < r := Nat.div_lt_of_lt_mul (by rw [Nat.mul_comm]; exact hp)
 have h2 : p % c + 1 <= c := Nat.mod_lt _ hc
 have h3 : (p % c + 1) * r <= c * r := Nat.mul_le_mul_right r h2
 rw [Nat.add_mul, Nat.one_mul, Nat.mul_comm c r] at h3
 exact ⟨Int.natCast_nonneg _, Int.ofNat_lt.mpr (by omega)⟩
abbrev ye : Stmt := top 10
theorem vg : zy ["outer", "rows", "columns", "inner", "goals", "cells", "table", "goal", "cell", "at"] ["outer", "rows", "columns", "inner"] (zg ye) := ⟨rfl, rfl, rfl, by decide +kernel, rfl, by decide +kernel, by decide +kernel⟩
theorem Qt (a : At K mg "block_order" ye) (B : Blt mg) (D_turn_order : Df P w K mg base "turn_order" ["rows", "columns"] 2 (cSp Xx)) : Df P w K mg base "block_order" ["outer", "rows", "columns", "inner"] 3 (cSp Ji) := by
 refine dfA (k := 2) a vg (fun _ _ _ _ _ _ us hl => match us, hl with | [_, _, _, _], _ => rfl) (fun xs M Q h => ?_) (fun f cdv A outer s H E hr => ?_)
 ·obtain ⟨_, _, _, _, rfl, _⟩ := h; rfl
 have sc := vg
 have hsl := hsl
 refine ⟨_, (zd (zS (i := 4) sc.nd rfl (by first | exact Or.inl rfl | exact Or.inr rfl) (zD D_turn_order hr rfl (za (pv 1) (za (pv 2) zc))))
  (zd (vp (j := 5) rfl sc.nd rfl (by first | exact Or.inl rfl | exact Or.inr rfl) (ts := [6, 7]) rfl (qm rfl B.range (za (pv 0) zc)) (fun _ _ _ _ => (zr (i := 6) sc.nd rfl (by first | exact Or.inl rfl | exact Or.inr rfl))) (fun _ _ _ _ => zP) (fun _ _ _ _ _ => (kA rfl rfl (by intro _ e; cases e <;> rfl) (YJ (K := K) rfl (pv 4)) (fun _ => rfl) (zr (i := 7) sc.nd rfl (by first | exact Or.inl rfl | exact Or.inr rfl)) zP (yn rfl (zp zT (zp zW (pv 6) (zm (xg (K := K) rfl) rfl B.len jr (za (pv 4) zc))) (pv 7)) (fun _ _ z => z)) (fun _ _ z => z))))
  (zh (zu (JH (ts := [8, 9]) rfl rfl (jq (pv 5)) (fun _ _ _ _ => (zr (i := 8) sc.nd rfl (by first | exact Or.inl rfl | exact Or.inr rfl))) (fun _ _ _ _ => zP) (fun _ _ _ _ _ => (kA rfl rfl (by intro _ e; cases e <;> rfl) (qm rfl B.range (za (pv 3) zc)) (fun _ => rfl) (zr (i := 9) sc.nd rfl (by first | exact Or.inl rfl | exact Or.inr rfl)) zP (yn rfl (zp zT (zp zW (pv 8) (pv 3)) (pv 9)) (fun _ _ z => z)) (fun _ _ z => z)))))))), ?_⟩
 refine ex2 (by walk_at "sim") ?_
 rintro xs M Q ⟨o, r, c, i, rfl, h1, h2, h3, h4, h5, h6, h7, q⟩
 rw [show z0 ["outer", "rows", "columns", "inner", "goals", "cells", "table", "goal", "cell", "at"] [.d (.int o), .d (.int r), .d (.int c), .d (.int i)] = [some (.d (.int o)), some (.d (.int r)), some (.d (.int c)), some (.d (.int i)), none, none, none, none, none, none] from rfl]
 refine zj fun rr hr0 => ?_
 walk_at "ra"
 refine ⟨r, c, rfl, by omega, by omega, by omega, ?_⟩
 subst hr0
 refine zj fun rr hr0 => ?_
 walk_at "ra"
 refine ⟨by omega, by omega, ?_⟩
 rw [Int.toNat_natCast]
 have tl := kc r c
 have e1 : (jY 0 1 o).flatMap (fun x => ((zU r c).map fun g => jb x * ((r * c : Nat) : Int) + g).map fun i => AV.d (.int i)) = ((List.range o).flatMap fun (t : Nat) => (zU r c).map fun g => (t : Int) * ((r * c : Nat) : Int) + g).map fun i => AV.d (.int i) := by
  rw [qV o (fun t => ((zU r c).map fun g => t * ((r * c : Nat) : Int) + g).map fun i => AV.d (.int i)), xm]
 generalize hcs : (List.range o).flatMap (fun (t : Nat) => (zU r c).map fun g => (t : Int) * ((r * c : Nat) : Int) + g) = cs at e1
 have lcs : cs.length <= o * (r * c) := by
  rw [<- hcs]
  have := jX (List.range o) (fun (t : Nat) => (zU r c).map fun g => (t : Int) * ((r * c : Nat) : Int) + g) (r * c) fun x _ => by rw [List.length_map, tl]; exact Nat.le_refl _
  rwa [List.length_range] at this
 have bcs : ∀ x ∈ cs, 0 <= x /\ x < 2000000 := fun x hx => by
  rw [<- hcs] at hx
  obtain ⟨t, ht, hx⟩ := List.mem_flatMap.mp hx
  obtain ⟨g, hg, rfl⟩ := List.mem_map.mp hx
  rw [List.mem_range] at ht
  have := yL hg
  have h8 : (t : Int) * ((r * c : Nat) : Int) = ((t * (r * c) : Nat) : Int) := by push_cast; rfl
  have h9 : t * (r * c) <= 1000 * 1000 := Nat.mul_le_mul (by omega) (by omega)
  rw [h8]; omega
 have lq : ∀ x, ((fun x => ((zU r c).map fun g => jb x * ((r * c : Nat) : Int) + g).map fun i => AV.d (.int i)) x).length = r * c := fun x => by simp [tl]
 refine jx (fun (z : Option AV × Option AV) => [some (.d (.int o)), some (.d (.int r)), some (.d (.int c)), some (.d (.int i)), some (.d (ilD (zU r c))), none, z.1, z.2, none, none]) (fun x => ((zU r c).map fun g => jb x * ((r * c : Nat) : Int) + g).map fun i => AV.d (.int i)) ⟨(_, _), rfl⟩ trivial (by rw [e1, List.length_map]; simp; omega) (fun z x acc N' hx hle q => ?_) fun z => ?_
 ·rw [jv] at hx
  obtain ⟨t, ht, rfl⟩ := List.mem_map.mp hx
  rw [List.mem_range] at ht
  walk_at "ra"
  refine wA (fun y => [some (.d (.int o)), some (.d (.int r)), some (.d (.int c)), some (.d (.int i)), some (.d (ilD (zU r c))), none, some (.d (.int t)), y, none, none]) (fun g => (t : Int) * ((r * c : Nat) : Int) + g) (ns := zU r c) rfl ⟨_, rfl⟩ trivial (by simp at hle; omega) (fun y g Q hg q => ?_) fun y => q (_, _)
  walk_at "ra"
  rw [tl]
  exact ⟨qc (by omega) (by omega), q _⟩
 rw [e1]
 refine ⟨_, qB _, ?_⟩
 subst hr0
 walk_at "ra"
 have e2 : (cs.map fun i => AV.d (.int i)).flatMap (fun x => ((List.range i).map fun (a : Nat) => jb x * (i : Int) + (a : Int)).map fun i => AV.d (.int i)) = (zA o r c i).map fun i => AV.d (.int i) := by
  rw [xO cs (fun x => ((List.range i).map fun (a : Nat) => x * (i : Int) + (a : Int)).map fun i => AV.d (.int i)), xm]
  unfold zA
  rw [hcs]
 have le2 : ((zA o r c i).map fun i => AV.d (.int i)).length <= 1000 := by
  rw [<- e2]
  have := jX (cs.map fun i => AV.d (.int i)) (fun x => ((List.range i).map fun (a : Nat) => jb x * (i : Int) + (a : Int)).map fun i => AV.d (.int i)) i fun x _ => by simp
  have h8 : (cs.map fun i => AV.d (.int i)).length * i <= o * (r * c) * i := Nat.mul_le_mul_right i (by rw [List.length_map]; exact lcs)
  omega
 refine jx (fun (z : Option AV × Option AV) => [some (.d (.int o)), some (.d (.int r)), some (.d (.int c)), some (.d (.int i)), some (.d (ilD (zU r c))), some (.d (ilD cs)), none, none, z.1, z.2]) (fun x => ((List.range i).map fun (a : Nat) => jb x * (i : Int) + (a : Int)).map fun i => AV.d (.int i)) ⟨(_, _), rfl⟩ trivial (by rw [e2]; simp only [List.length_nil]; omega) (fun z x acc N' hx hle q => ?_) fun z => ?_
 ·obtain ⟨cell, hcell, rfl⟩ := List.mem_map.mp hx
  have hb := bcs cell hcell
  walk_at "ra"
  refine ⟨by omega, by omega, ?_⟩
  rw [Int.toNat_natCast]
  refine wA (fun y => [some (.d (.int o)), some (.d (.int r)), some (.d (.int c)), some (.d (.int i)), some (.d (ilD (zU r c))), some (.d (ilD cs)), none, none, some (.d (.int cell)), y]) (fun a => cell * (i : Int) + a) (ns := (List.range i).map fun (a : Nat) => (a : Int)) (by rw [jv, List.map_map]; rfl) ⟨_, rfl⟩ trivial (by simp at hle ⊢; omega) (fun y g Q hg q => ?_) fun y => ?_
  ·walk_at "ra"
   exact ⟨qc (by omega) (by omega), q _⟩
  ·have := q (some (.d (.int cell)), y)
   rw [List.map_map] at this ⊢
   rw [List.map_map]
   exact this
 rw [e2]
 exact ⟨_, qB _, kT Fr.refl q⟩
def zq (s : Nat -> Nat) : List Dat := [.int (s 0), .int (s 1), .int (s 2)]
def W3 (w : Nat -> Nat) : Prop := w 0 < 3 /\ w 1 < 3 /\ w 2 < 3
theorem qW (s : Nat -> Nat) {k : Nat} (h : k < 3) (M : MH) {x : Dat} (hx : ky x = some (zq s)) : ∃ l, jj (.d x) M = some l /\ atI l (k : Int) = some (.d (.int (s k))) := by
 refine ⟨_, kf hx M, ?_⟩
 match k, h with
 | 0, _ => rfl
 | 1, _ => rfl
 | 2, _ => rfl
def vG : ASp := fun xs M Q => ∃ (x y : Dat) (s w : Nat -> Nat), xs = [.d x, .d y] /\ ky x = some (zq s) /\ ky y = some (zq w) /\ W3 w /\ Q (.d (.tup (zq fun i => s (w i)))) M
def byA (s : Nat -> Nat) : AV -> AV
 | .d (.int i) => .d (.int (s i.toNat))
 | x => x
abbrev Jr : Stmt := top 1
theorem JO : zy ["three", "ways", "way"] ["three", "ways"] (zg Jr) := ⟨rfl, rfl, rfl, by decide +kernel, rfl, by decide +kernel, by decide +kernel⟩
theorem Y5 (a : At K mg "by_ways" Jr) (B : Blt mg) : Df P w K mg base "by_ways" ["three", "ways"] 1 (cSp vG) := by
  refine dfA (k := 0) a JO (fun _ _ _ _ _ _ us hl => match us, hl with | [_, _], _ => rfl) (fun xs M Q h => ?_) (fun f cdv A outer s H E hr => ?_)
  · obtain ⟨_, _, _, _, rfl, _⟩ := h; rfl
  have sc := JO
  have hsl := hsl
  refine ⟨_, (zh (zu (zE qp rfl B.tuple qq (za (qL (ts := [2]) rfl rfl (jq (pv 1)) (fun _ _ _ _ => (zr (i := 2) sc.nd rfl (by first | exact Or.inl rfl | exact Or.inr rfl))) (fun _ _ _ _ => zP) (fun _ _ _ _ => (zK (xT (K := K) rfl) (pv 0) (pv 2) (fun _ _ => rfl)))) zc)))), ?_⟩
  refine ex2 (by walk_at "sim") ?_
  rintro xs M Q ⟨x, y, s, w, rfl, hx, hy, hw, q⟩
  rw [show z0 ["three", "ways", "way"] [.d x, .d y] = [some (.d x), some (.d y), none] from rfl]
  walk_at "ra"
  refine ⟨_, kf hy M, ?_⟩
  refine jG (fun o => [some (.d x), some (.d y), o]) (byA s) ⟨_, rfl⟩ (kf hy M) (by simp [zq]) (fun o z Q hz q => ?_) fun o => ?_
  · obtain ⟨k, hk, rfl⟩ : ∃ k : Nat, k < 3 /\ z = .d (.int k) := by
      unfold zq at hz
      simp only [List.map_cons, List.map_nil, List.mem_cons, List.not_mem_nil, or_false] at hz
      rcases hz with rfl | rfl | rfl
      · exact ⟨_, hw.1, rfl⟩
      · exact ⟨_, hw.2.1, rfl⟩
      · exact ⟨_, hw.2.2, rfl⟩
    obtain ⟨l, hl, hat⟩ := qW s hk M hx
    walk_at "ra"
    exact ⟨_, hl, _, hat, q _⟩
  · exact ⟨_, rfl, kT Fr.refl q⟩
abbrev kS : Stmt := top 3
theorem xA : zy ["sizes", "ways"] ["sizes", "ways"] (zg kS) := ⟨rfl, rfl, rfl, by decide +kernel, rfl, by decide +kernel, by decide +kernel⟩
theorem Zo (a : At K mg "deep_sizes" kS) (B : Blt mg) (D_by_ways : Df P w K mg base "by_ways" ["three", "ways"] 1 (cSp vG)) : Df P w K mg base "deep_sizes" ["sizes", "ways"] 2 (cSp vG) := by
 refine dfA (k := 1) a xA (fun _ _ _ _ _ _ us hl => match us, hl with | [_, _], _ => rfl) (fun xs M Q h => ?_) (fun f cdv A outer s H E hr => ?_)
 ·obtain ⟨_, _, _, _, rfl, _⟩ := h; rfl
 have sc := xA
 have hsl := hsl
 refine ⟨_, (zh (zu (zD D_by_ways hr rfl (za (pv 0) (za (pv 1) zc))))), ?_⟩
 refine ex2 (by walk_at "sim") ?_
 rintro xs M Q ⟨x, y, s, w, rfl, hx, hy, hw, q⟩
 rw [show z0 ["sizes", "ways"] [.d x, .d y] = [some (.d x), some (.d y)] from rfl]
 walk_at "ra"
 exact ⟨x, y, s, w, rfl, hx, hy, hw, kT Fr.refl q⟩
abbrev kP : Stmt := top 5
theorem xi : zy ["one", "other"] ["one", "other"] (zg kP) := ⟨rfl, rfl, rfl, by decide +kernel, rfl, by decide +kernel, by decide +kernel⟩
theorem ZX (a : At K mg "deep_after" kP) (B : Blt mg) (D_by_ways : Df P w K mg base "by_ways" ["three", "ways"] 1 (cSp vG)) : Df P w K mg base "deep_after" ["one", "other"] 2 (cSp vG) := by
 refine dfA (k := 1) a xi (fun _ _ _ _ _ _ us hl => match us, hl with | [_, _], _ => rfl) (fun xs M Q h => ?_) (fun f cdv A outer s H E hr => ?_)
 ·obtain ⟨_, _, _, _, rfl, _⟩ := h; rfl
 have sc := xi
 have hsl := hsl
 refine ⟨_, (zh (zu (zD D_by_ways hr rfl (za (pv 0) (za (pv 1) zc))))), ?_⟩
 refine ex2 (by walk_at "sim") ?_
 rintro xs M Q ⟨x, y, s, w, rfl, hx, hy, hw, q⟩
 rw [show z0 ["one", "other"] [.d x, .d y] = [some (.d x), some (.d y)] from rfl]
 walk_at "ra"
 exact ⟨x, y, s, w, rfl, hx, hy, hw, kT Fr.refl q⟩
def plc (s c : Nat -> Nat) : Nat := (c 0 * s 1 + c 1) * s 2 + c 2
def Wg : ASp := fun xs M Q => ∃ (x y : Dat) (s c : Nat -> Nat), xs = [.d x, .d y] /\ ky x = some (zq s) /\ ky y = some (zq c) /\ (∀ i, s i <= 10000) /\ Q (.d (.int (plc s c : Nat))) M
abbrev JA : Stmt := top 2
theorem JG : zy ["sizes", "cell"] ["sizes", "cell"] (zg JA) := ⟨rfl, rfl, rfl, by decide +kernel, rfl, by decide +kernel, by decide +kernel⟩
theorem YR (a : At K mg "deep_place" JA) (B : Blt mg) : Df P w K mg base "deep_place" ["sizes", "cell"] 1 (cSp Wg) := by
 refine dfA (k := 0) a JG (fun _ _ _ _ _ _ us hl => match us, hl with | [_, _], _ => rfl) (fun xs M Q h => ?_) (fun f cdv A outer s H E hr => ?_)
 ·obtain ⟨_, _, _, _, rfl, _⟩ := h; rfl
 have sc := JG
 have hsl := hsl
 refine ⟨_, (zh (zu (zp zT (zp zW (zp zT (zp zW (zK qE (pv 1) zb (fun _ _ => rfl)) (zK qE (pv 0) zb (fun _ _ => rfl))) (zK qE (pv 1) zb (fun _ _ => rfl))) (zK qE (pv 0) zb (fun _ _ => rfl))) (zK qE (pv 1) zb (fun _ _ => rfl))))), ?_⟩
 refine ex2 (by walk_at "sim") ?_
 rintro xs M Q ⟨x, y, s, c, rfl, hx, hy, hb, q⟩
 rw [show z0 ["sizes", "cell"] [.d x, .d y] = [some (.d x), some (.d y)] from rfl]
 obtain ⟨l0, g0, c0⟩ := qW c (k := 0) (by omega) M hy
 obtain ⟨l1, g1, c1⟩ := qW c (k := 1) (by omega) M hy
 obtain ⟨l2, g2, c2⟩ := qW c (k := 2) (by omega) M hy
 obtain ⟨m1, k1, d1⟩ := qW s (k := 1) (by omega) M hx
 obtain ⟨m2, k2, d2⟩ := qW s (k := 2) (by omega) M hx
 have b1 := hb 1
 have b2 := hb 2
 walk_at "ra"
 refine ⟨_, g0, _, c0, _, k1, _, d1, _, rfl, _, rfl, qc (by omega) (by omega), _, g1, _, c1, _, rfl, _, k2, _, d2, _, rfl, qc (by omega) (by omega), _, g2, _, c2, _, rfl, kT Fr.refl ?_⟩
 rw [show ((c 0 : Int) * s 1 + c 1) * s 2 + c 2 = ((plc s c : Nat) : Int) by unfold plc; push_cast; rfl]
 exact q
def cel (x0 x1 x2 : Nat) : Nat -> Nat
 | 0 => x0
 | 1 => x1
 | _ => x2
def zx (s w : Nat -> Nat) : List Int := (List.range (s 0)).flatMap fun x0 => (List.range (s 1)).flatMap fun x1 => (List.range (s 2)).map fun x2 => ((plc (fun i => s (w i)) (fun i => cel x0 x1 x2 (w i)) : Nat) : Int)
def Xq : ASp := fun xs M Q => ∃ (x y : Dat) (s w : Nat -> Nat), xs = [.d x, .d y] /\ ky x = some (zq s) /\ ky y = some (zq w) /\ W3 w /\ (∀ i, s i <= 1000) /\ s 0 * (s 1 * s 2) <= 1000 /\ Q (.d (ilD (zx s w))) M
def qX (x0 x1 x2 : Nat) : Dat := .tup (zq (cel x0 x1 x2))
def jH (s : Nat -> Nat) : List Dat := (List.range (s 0)).flatMap fun x0 => (List.range (s 1)).flatMap fun x1 => (List.range (s 2)).map fun x2 => qX x0 x1 x2
def Yg (s w : Nat -> Nat) : AV -> AV
 | .d (.tup [.int a, .int b, .int c]) => .d (.int (plc (fun i => s (w i)) (fun i => cel a.toNat b.toNat c.toNat (w i)) : Nat))
 | x => x
abbrev v5 : Stmt := top 4
theorem wR : zy ["sizes", "ways", "reached", "cells", "size0", "size1", "size2", "x0", "x1", "x2", "cell"] ["sizes", "ways"] (zg v5) := ⟨rfl, rfl, rfl, by decide +kernel, rfl, by decide +kernel, by decide +kernel⟩
theorem Xe (a : At K mg "deep_order" v5) (B : Blt mg) (D_by_ways : Df P w K mg base "by_ways" ["three", "ways"] 1 (cSp vG)) (D_deep_place : Df P w K mg base "deep_place" ["sizes", "cell"] 1 (cSp Wg)) : Df P w K mg base "deep_order" ["sizes", "ways"] 2 (cSp Xq) := by
  refine dfA (k := 1) a wR (fun _ _ _ _ _ _ us hl => match us, hl with | [_, _], _ => rfl) (fun xs M Q h => ?_) (fun f cdv A outer s H E hr => ?_)
  · obtain ⟨_, _, _, _, rfl, _⟩ := h; rfl
  have sc := wR
  have hsl := hsl
  refine ⟨_, (zd (zS (i := 2) sc.nd rfl (by first | exact Or.inl rfl | exact Or.inr rfl) (zD D_by_ways hr rfl (za (pv 0) (za (pv 1) zc))))
    (zd (jI (pv 0) (wV (K := K) 3 rfl rfl (zX (zr (i := 4) sc.nd rfl (by first | exact Or.inl rfl | exact Or.inr rfl)) (zX (zr (i := 5) sc.nd rfl (by first | exact Or.inl rfl | exact Or.inr rfl)) (zX (zr (i := 6) sc.nd rfl (by first | exact Or.inl rfl | exact Or.inr rfl)) jM)))))
    (zd (vp (j := 3) rfl sc.nd rfl (by first | exact Or.inl rfl | exact Or.inr rfl) (ts := [7, 8, 9]) rfl (qm rfl B.range (za (pv 4) zc)) (fun _ _ _ _ => (zr (i := 7) sc.nd rfl (by first | exact Or.inl rfl | exact Or.inr rfl))) (fun _ _ _ _ => zP) (fun _ _ _ _ _ => (kA rfl rfl (by intro _ e; cases e <;> rfl) (qm rfl B.range (za (pv 5) zc)) (fun _ => rfl) (zr (i := 8) sc.nd rfl (by first | exact Or.inl rfl | exact Or.inr rfl)) zP (kA rfl rfl (by intro _ e; cases e <;> rfl) (qm rfl B.range (za (pv 6) zc)) (fun _ => rfl) (zr (i := 9) sc.nd rfl (by first | exact Or.inl rfl | exact Or.inr rfl)) zP (yn rfl (zG (za (pv 7) (za (pv 8) (za (pv 9) zc)))) (fun _ _ z => z)) (fun _ _ z => z)) (fun _ _ z => z))))
    (zh (zu (qL (ts := [10]) rfl rfl (jq (pv 3)) (fun _ _ _ _ => (zr (i := 10) sc.nd rfl (by first | exact Or.inl rfl | exact Or.inr rfl))) (fun _ _ _ _ => zP) (fun _ _ _ _ => (zD D_deep_place hr rfl (za (pv 2) (za (zD D_by_ways hr rfl (za (pv 10) (za (pv 1) zc))) zc)))))))))), ?_⟩
  refine ex2 (by walk_at "sim") ?_
  rintro xs M Q ⟨x, y, s, w, rfl, hx, hy, hw, hb, hsz, q⟩
  rw [show z0 ["sizes", "ways", "reached", "cells", "size0", "size1", "size2", "x0", "x1", "x2", "cell"] [.d x, .d y] = [some (.d x), some (.d y), none, none, none, none, none, none, none, none, none] from rfl]
  refine zj fun r hr0 => ?_
  walk_at "ra"
  refine ⟨x, y, s, w, rfl, hx, hy, hw, ?_⟩
  subst hr0
  refine zj fun r hr0 => ?_
  walk_at "ra"
  refine ⟨_, kf hx M, rfl, _, _, rfl, _, _, rfl, _, _, rfl, rfl, ?_⟩
  have b0 := hb 0
  have b1 := hb 1
  have b2 := hb 2
  subst hr0
  refine zj fun r hr0 => ?_
  walk_at "ra"
  refine ⟨by omega, by omega, ?_⟩
  rw [Int.toNat_natCast]
  have e3 : ∀ x0 x1 : Nat, (jY 0 1 (s 2)).flatMap (fun z => [AV.d (qX x0 x1 (jb z).toNat)]) = (List.range (s 2)).map fun x2 => AV.d (qX x0 x1 x2) := fun x0 x1 => by
    rw [qV (s 2) (fun z => [AV.d (qX x0 x1 z.toNat)]), List.map_eq_flatMap]
    simp only [Int.toNat_natCast]
  have e2 : ∀ x0 : Nat, (jY 0 1 (s 1)).flatMap (fun z => (List.range (s 2)).map fun x2 => AV.d (qX x0 (jb z).toNat x2)) = (List.range (s 1)).flatMap fun x1 => (List.range (s 2)).map fun x2 => AV.d (qX x0 x1 x2) := fun x0 => by
    rw [qV (s 1) (fun z => (List.range (s 2)).map fun x2 => AV.d (qX x0 z.toNat x2))]
    simp only [Int.toNat_natCast]
  have e1 : (jY 0 1 (s 0)).flatMap (fun z => (List.range (s 1)).flatMap fun x1 => (List.range (s 2)).map fun x2 => AV.d (qX (jb z).toNat x1 x2)) = (jH s).map AV.d := by
    rw [qV (s 0) (fun z => (List.range (s 1)).flatMap fun x1 => (List.range (s 2)).map fun x2 => AV.d (qX z.toNat x1 x2))]
    unfold jH
    simp only [Int.toNat_natCast, List.map_flatMap, List.map_map]
    rfl
  have l2 : ∀ x0 : Nat, ((List.range (s 1)).flatMap fun x1 => (List.range (s 2)).map fun x2 => AV.d (qX x0 x1 x2)).length <= s 1 * s 2 := fun x0 => by
    have := jX (List.range (s 1)) (fun x1 => (List.range (s 2)).map fun x2 => AV.d (qX x0 x1 x2)) (s 2) fun x _ => by simp
    rwa [List.length_range] at this
  have l1 : ((jH s).map AV.d).length <= 1000 := by
    rw [<- e1, qV (s 0) (fun z => (List.range (s 1)).flatMap fun x1 => (List.range (s 2)).map fun x2 => AV.d (qX z.toNat x1 x2))]
    have := jX (List.range (s 0)) (fun (z : Nat) => (List.range (s 1)).flatMap fun x1 => (List.range (s 2)).map fun x2 => AV.d (qX ((z : Int)).toNat x1 x2)) (s 1 * s 2) fun x _ => l2 _
    rw [List.length_range] at this
    omega
  refine jx (fun (z : Option AV × Option AV × Option AV) => [some (.d x), some (.d y), some (.d (.tup (zq fun i => s (w i)))), none, some (.d (.int (s 0))), some (.d (.int (s 1))), some (.d (.int (s 2))), z.1, z.2.1, z.2.2, none]) (fun z => (List.range (s 1)).flatMap fun x1 => (List.range (s 2)).map fun x2 => AV.d (qX (jb z).toNat x1 x2)) ⟨(_, _, _), rfl⟩ trivial (by rw [e1]; simp only [List.length_nil]; omega) (fun z a acc N' ha hle q => ?_) fun z => ?_
  · rw [jv] at ha
    obtain ⟨x0, _, rfl⟩ := List.mem_map.mp ha
    simp only [jb, Int.toNat_natCast] at hle q
    walk_at "ra"
    refine ⟨by omega, by omega, ?_⟩
    rw [Int.toNat_natCast]
    refine jx (fun (z : Option AV × Option AV) => [some (.d x), some (.d y), some (.d (.tup (zq fun i => s (w i)))), none, some (.d (.int (s 0))), some (.d (.int (s 1))), some (.d (.int (s 2))), some (.d (.int x0)), z.1, z.2, none]) (fun z => (List.range (s 2)).map fun x2 => AV.d (qX x0 (jb z).toNat x2)) ⟨(_, _), rfl⟩ trivial (by rw [e2]; exact hle) (fun z a acc N' ha hle q => ?_) fun z => by rw [e2]; exact q (_, _, _)
    rw [jv] at ha
    obtain ⟨x1, _, rfl⟩ := List.mem_map.mp ha
    simp only [jb, Int.toNat_natCast] at hle q
    walk_at "ra"
    refine ⟨by omega, by omega, ?_⟩
    rw [Int.toNat_natCast]
    refine jx (fun (z : Option AV) => [some (.d x), some (.d y), some (.d (.tup (zq fun i => s (w i)))), none, some (.d (.int (s 0))), some (.d (.int (s 1))), some (.d (.int (s 2))), some (.d (.int x0)), some (.d (.int x1)), z, none]) (fun z => [AV.d (qX x0 x1 (jb z).toNat)]) ⟨_, rfl⟩ trivial (by rw [e3]; exact hle) (fun z a acc N' ha hle q => ?_) fun z => by rw [e3]; exact q (_, _)
    rw [jv] at ha
    obtain ⟨x2, _, rfl⟩ := List.mem_map.mp ha
    simp only [jb, Int.toNat_natCast, List.length_cons, List.length_nil] at hle q
    walk_at "ra"
    exact ⟨by omega, by omega, q _⟩
  rw [e1]
  refine ⟨_, zF _, ?_⟩
  subst hr0
  walk_at "ra"
  refine jG (fun o => [some (.d x), some (.d y), some (.d (.tup (zq fun i => s (w i)))), some (.d (.lst (jH s))), some (.d (.int (s 0))), some (.d (.int (s 1))), some (.d (.int (s 2))), none, none, none, o]) (Yg s w) ⟨_, rfl⟩ trivial (by omega) (fun o z Q hz q => ?_) fun o => ?_
  · obtain ⟨d, hd, rfl⟩ := List.mem_map.mp hz
    unfold jH at hd
    obtain ⟨x0, _, hd⟩ := List.mem_flatMap.mp hd
    obtain ⟨x1, _, hd⟩ := List.mem_flatMap.mp hd
    obtain ⟨x2, _, rfl⟩ := List.mem_map.mp hd
    have q := q (some (.d (qX x0 x1 x2)))
    rw [show Yg s w (.d (qX x0 x1 x2)) = .d (.int (plc (fun i => s (w i)) (fun i => cel x0 x1 x2 (w i)) : Nat)) by
      show AV.d (.int (plc (fun i => s (w i)) (fun i => cel ((x0 : Nat) : Int).toNat ((x1 : Nat) : Int).toNat ((x2 : Nat) : Int).toNat (w i)) : Nat)) = _
      simp only [Int.toNat_natCast]] at q
    walk_at "ra"
    exact ⟨qX x0 x1 x2, y, cel x0 x1 x2, w, rfl, rfl, hy, hw, _, _, (fun i => s (w i)), (fun i => cel x0 x1 x2 (w i)), rfl, rfl, rfl, (fun i => Nat.le_trans (hb (w i)) (by omega)), q⟩
  · rw [show ((jH s).map AV.d).map (Yg s w) = (zx s w).map fun i => AV.d (.int i) by
      unfold jH zx
      simp only [List.map_flatMap, List.map_map]
      refine congrArg (fun g => (List.range (s 0)).flatMap g) (funext fun x0 => congrArg (fun g => (List.range (s 1)).flatMap g) (funext fun x1 => List.map_congr_left fun x2 _ => ?_))
      show AV.d (.int (plc (fun i => s (w i)) (fun i => cel ((x0 : Nat) : Int).toNat ((x1 : Nat) : Int).toNat ((x2 : Nat) : Int).toNat (w i)) : Nat)) = _
      simp only [Int.toNat_natCast]
      rfl]
    exact ⟨_, qB _, kT Fr.refl q⟩
theorem zw {α β : Type} {l : List α} {f g : α -> List β} (h : ∀ x ∈ l, f x = g x) : l.flatMap f = l.flatMap g := by
 induction l with
 | nil => rfl
 | cons a r ih => rw [List.flatMap_cons, List.flatMap_cons, h a (by simp), ih fun x hx => h x (by simp [hx])]
theorem xQ {i j c : Nat} (h : j < c) : (i * c + j) % c = j /\ (i * c + j) / c = i := by
 constructor
 ·rw [Nat.add_comm, Nat.add_mul_mod_self_right, Nat.mod_eq_of_lt h]
 ·rw [Nat.add_comm, Nat.add_mul_div_right _ _ (by omega), Nat.div_eq_of_lt h, Nat.zero_add]
theorem qA (r c : Nat) : zU r c = (List.range r).flatMap fun i => (List.range c).map fun j => ((j * r + i : Nat) : Int) := by
 unfold zU
 rw [qS, List.map_flatMap]
 refine zw fun i _ => ?_
 rw [List.map_map]
 refine List.map_congr_left fun j hj => ?_
 rw [List.mem_range] at hj
 show ((( (i * c + j) % c * r + (i * c + j) / c : Nat)) : Int) = _
 rw [(xQ hj).1, (xQ hj).2]
theorem WA {f : Nat -> Int} {n p : Nat} (h : p < n) : ((List.range n).map f).getD p 0 = f p := by
 rw [List.getD_eq_getElem?_getD, List.getElem?_map, List.getElem?_range h]; rfl
def wy (a b c : Nat) : Nat -> Nat := cel a b c
theorem xp (a b c : Nat) : zA a b c 1 = (List.range a).flatMap fun x0 => (List.range b).flatMap fun x1 => (List.range c).map fun x2 => (((x0 * c + x2) * b + x1 : Nat) : Int) := by
 unfold zA
 have : ∀ l : List Int, (l.flatMap fun cell => (List.range 1).map fun (k : Nat) => cell * ((1 : Nat) : Int) + (k : Int)) = l := fun l => by
  induction l with
  | nil => rfl
  | cons x r ih => rw [List.flatMap_cons, ih]; simp
 rw [this, qA]
 refine zw fun x0 _ => ?_
 rw [List.map_flatMap]
 refine zw fun x1 _ => ?_
 rw [List.map_map]
 refine List.map_congr_left fun x2 _ => ?_
 show (x0 : Int) * ((b * c : Nat) : Int) + ((x2 * b + x1 : Nat) : Int) = _
 rw [show (x0 * c + x2) * b + x1 = x0 * (b * c) + (x2 * b + x1) by grind]
 push_cast; rfl
theorem Zd (a b c : Nat) : zA 1 a b c = (List.range a).flatMap fun x0 => (List.range b).flatMap fun x1 => (List.range c).map fun x2 => (((x1 * a + x0) * c + x2 : Nat) : Int) := by
 unfold zA
 rw [show List.range 1 = [0] from rfl, List.flatMap_cons, List.flatMap_nil, List.append_nil, qA, List.map_flatMap, List.flatMap_assoc]
 refine zw fun x0 _ => ?_
 rw [List.map_map, List.flatMap_map]
 refine zw fun x1 _ => ?_
 refine List.map_congr_left fun x2 _ => ?_
 show (((0 : Nat) : Int) * ((a * b : Nat) : Int) + ((x1 * a + x0 : Nat) : Int)) * (c : Int) + (x2 : Int) = _
 push_cast
 rw [Int.zero_mul, Int.zero_add]
theorem QF (a b c : Nat) : zx (cel a b c) (wy 0 2 1) = zA a b c 1 := by rw [xp]; rfl
theorem yC (a b c : Nat) : zx (cel a b c) (wy 1 0 2) = zA 1 a b c := by rw [Zd]; rfl
theorem vz (a b c : Nat) : zx (cel a b c) (wy 1 2 0) = zU a (b * c) := by
 rw [qA]
 show (List.range a).flatMap _ = _
 refine zw fun x0 _ => ?_
 rw [qS, List.map_flatMap]
 refine zw fun x1 _ => ?_
 rw [List.map_map]
 rfl
theorem Z7 (a b c : Nat) : zx (cel a b c) (wy 2 0 1) = zU (a * b) c := by
 rw [qA, qS, List.flatMap_assoc]
 show (List.range a).flatMap _ = _
 refine zw fun x0 _ => ?_
 rw [List.flatMap_map]
 refine zw fun x1 _ => ?_
 refine List.map_congr_left fun x2 _ => ?_
 show (((x2 * a + x0) * b + x1 : Nat) : Int) = ((x2 * (a * b) + (x0 * b + x1) : Nat) : Int)
 rw [show (x2 * a + x0) * b + x1 = x2 * (a * b) + (x0 * b + x1) by grind]
theorem qU {α β : Type} (l : List α) (g : α -> List β) (k : Nat) (h : ∀ x ∈ l, (g x).length = k) : (l.flatMap g).length = l.length * k := by
 induction l with
 | nil => simp
 | cons a r ih => rw [List.flatMap_cons, List.length_append, List.length_cons, Nat.succ_mul, h a (by simp), ih fun x hx => h x (by simp [hx])]; omega
theorem vD {a m : Nat} {g : Nat -> List Int} (hg : ∀ i, i < a -> (g i).length = m) {i j : Nat} (hi : i < a) (hj : j < m) : ((List.range a).flatMap g).getD (i * m + j) 0 = (g i).getD j 0 := by
 induction a with
 | zero => omega
 | succ a ih =>
  have hlen : ((List.range a).flatMap g).length = a * m := by
   have : ∀ k, k <= a -> ((List.range k).flatMap g).length = k * m := fun k => by
    induction k with
    | zero => intro _; simp
    | succ k ih2 => intro hk; rw [List.range_succ, List.flatMap_append, List.length_append, ih2 (by omega), Nat.succ_mul]; simp [hg k (by omega)]
   exact this a (Nat.le_refl _)
  rw [List.range_succ, List.flatMap_append, List.getD_eq_getElem?_getD]
  by_cases c : i < a
  ·have : i * m + j < a * m := by have : (i + 1) * m <= a * m := Nat.mul_le_mul_right m c; rw [Nat.add_mul, Nat.one_mul] at this; omega
   rw [List.getElem?_append_left (by rw [hlen]; exact this), <- List.getD_eq_getElem?_getD]
   exact ih (fun i h => hg i (by omega)) c
  ·obtain rfl : i = a := by omega
   rw [List.getElem?_append_right (by rw [hlen]; omega), hlen, show i * m + j - i * m = j by omega]
   simp [List.getD_eq_getElem?_getD]
theorem j0 (s w : Nat -> Nat) : (zx s w).length = s 0 * (s 1 * s 2) := by
 unfold zx
 have h1 : ∀ x0, ((List.range (s 1)).flatMap fun x1 => (List.range (s 2)).map fun x2 => ((plc (fun i => s (w i)) (fun i => cel x0 x1 x2 (w i)) : Nat) : Int)).length = s 1 * s 2 := fun x0 => by
  rw [qU _ _ (s 2) fun x _ => by simp, List.length_range]
 rw [qU _ _ (s 1 * s 2) fun x _ => h1 x, List.length_range]
theorem Z4 {s w : Nat -> Nat} {y0 y1 y2 : Nat} (h0 : y0 < s 0) (h1 : y1 < s 1) (h2 : y2 < s 2) : (zx s w).getD (plc s (cel y0 y1 y2)) 0 = ((plc (fun i => s (w i)) (fun i => cel y0 y1 y2 (w i)) : Nat) : Int) := by
 have hl : ∀ x0, ((List.range (s 1)).flatMap fun x1 => (List.range (s 2)).map fun x2 => ((plc (fun i => s (w i)) (fun i => cel x0 x1 x2 (w i)) : Nat) : Int)).length = s 1 * s 2 := fun x0 => by
  rw [qU _ _ (s 2) fun x _ => by simp, List.length_range]
 have e : plc s (cel y0 y1 y2) = y0 * (s 1 * s 2) + (y1 * s 2 + y2) := by show (y0 * s 1 + y1) * s 2 + y2 = _; grind
 have hlt : y1 * s 2 + y2 < s 1 * s 2 := by have : (y1 + 1) * s 2 <= s 1 * s 2 := Nat.mul_le_mul_right _ h1; rw [Nat.add_mul, Nat.one_mul] at this; omega
 unfold zx
 rw [e, vD (m := s 1 * s 2) (fun i _ => hl i) h0 hlt, vD (m := s 2) (fun i _ => by simp) h1 h2, WA h2]
theorem wa {s s' c c' : Nat -> Nat} (h1 : ∀ i, i < 3 -> s i = s' i) (h2 : ∀ i, i < 3 -> c i = c' i) : plc s c = plc s' c' := by
 unfold plc
 rw [h1 1 (by omega), h1 2 (by omega), h2 0 (by omega), h2 1 (by omega), h2 2 (by omega)]
theorem Qk {s : Nat -> Nat} {x0 x1 x2 : Nat} (h0 : x0 < s 0) (h1 : x1 < s 1) (h2 : x2 < s 2) {k : Nat} (hk : k < 3) : cel x0 x1 x2 k < s k := by
 match k, hk with
 | 0, _ => exact h0
 | 1, _ => exact h1
 | 2, _ => exact h2
theorem vL (f : Nat -> Nat) {k : Nat} (hk : k < 3) : cel (f 0) (f 1) (f 2) k = f k := by
 match k, hk with
 | 0, _ => rfl
 | 1, _ => rfl
 | 2, _ => rfl
theorem W3.at {w : Nat -> Nat} (h : W3 w) {k : Nat} (hk : k < 3) : w k < 3 := by
 match k, hk with
 | 0, _ => exact h.1
 | 1, _ => exact h.2.1
 | 2, _ => exact h.2.2
theorem xJ {s w o : Nat -> Nat} (hw : W3 w) (ho : W3 o) : qY (zx s w) (zx (fun i => s (w i)) o) = zx s fun i => w (o i) := by
 conv => lhs; unfold qY; arg 2; unfold zx
 rw [List.map_flatMap]
 refine zw fun x0 h0 => ?_
 rw [List.map_flatMap]
 refine zw fun x1 h1 => ?_
 rw [List.map_map]
 refine List.map_congr_left fun x2 h2 => ?_
 rw [List.mem_range] at h0 h1 h2
 have b : ∀ k, k < 3 -> cel x0 x1 x2 (w k) < s (w k) := fun k hk => Qk h0 h1 h2 (hw.at hk)
 show (zx (fun i => s (w i)) o).getD (((plc (fun i => s (w i)) (fun i => cel x0 x1 x2 (w i)) : Nat) : Int)).toNat 0 = _
 rw [Int.toNat_natCast, wa (s := fun i => s (w i)) (s' := fun i => s (w i)) (c' := cel (cel x0 x1 x2 (w 0)) (cel x0 x1 x2 (w 1)) (cel x0 x1 x2 (w 2))) (fun _ _ => rfl) fun i hi => (vL (fun i => cel x0 x1 x2 (w i)) hi).symm, Z4 (b 0 (by omega)) (b 1 (by omega)) (b 2 (by omega))]
 congr 1
 exact wa (fun _ _ => rfl) fun i hi => vL (fun i => cel x0 x1 x2 (w i)) (ho.at hi)
theorem JC {s w : Nat -> Nat} (hw : W3 w) {p : Int} (h : p ∈ zx s w) : 0 <= p /\ p < ((s (w 0) * (s (w 1) * s (w 2)) : Nat) : Int) := by
 unfold zx at h
 obtain ⟨x0, h0, h⟩ := List.mem_flatMap.mp h
 obtain ⟨x1, h1, h⟩ := List.mem_flatMap.mp h
 obtain ⟨x2, h2, rfl⟩ := List.mem_map.mp h
 rw [List.mem_range] at h0 h1 h2
 refine ⟨Int.natCast_nonneg _, Int.ofNat_lt.mpr ?_⟩
 have b : ∀ k, k < 3 -> cel x0 x1 x2 (w k) < s (w k) := fun k hk => Qk h0 h1 h2 (hw.at hk)
 have b0 := b 0 (by omega)
 have b1 := b 1 (by omega)
 have b2 := b 2 (by omega)
 show (cel x0 x1 x2 (w 0) * s (w 1) + cel x0 x1 x2 (w 1)) * s (w 2) + cel x0 x1 x2 (w 2) < _
 have e1 : (cel x0 x1 x2 (w 0) + 1) * s (w 1) <= s (w 0) * s (w 1) := Nat.mul_le_mul_right _ b0
 rw [Nat.add_mul, Nat.one_mul] at e1
 have e2 : (cel x0 x1 x2 (w 0) * s (w 1) + cel x0 x1 x2 (w 1) + 1) * s (w 2) <= s (w 0) * s (w 1) * s (w 2) := Nat.mul_le_mul_right _ (by omega)
 rw [Nat.add_mul, Nat.one_mul, Nat.mul_assoc (s (w 0))] at e2
 omega
theorem kH {s t w v : Nat -> Nat} (h : ∀ i, i < 3 -> s i = t i) (hw : ∀ i, i < 3 -> w i = v i) (h3 : W3 w) : zx s w = zx t v := by
 unfold zx
 rw [h 0 (by omega), h 1 (by omega), h 2 (by omega)]
 refine zw fun x0 _ => zw fun x1 _ => List.map_congr_left fun x2 _ => ?_
 congr 1
 exact wa (fun i hi => by rw [hw i hi, h _ (by rw [<- hw i hi]; exact h3.at hi)]) fun i hi => by rw [hw i hi]
def QL (K : PySem.W.Frag) : ASp := fun xs M Q => ∃ (m : Int) (ns : List Int), xs = [.d (.scr K ns), .d (.int m)] /\ 0 < m /\ m <= 60 /\ ns.length <= 63 /\ ∀ p M' (bs : List Addr), Fr M M' -> M p = none -> M' p = some (.lst (bs.map AV.ref)) -> bs.Nodup -> (∀ b ∈ bs, BxM M' b 0 /\ b ≠ p /\ M b = none) -> bs.length <= 1000 -> Q (.ref p) M'
abbrev yt : Stmt := top 16
theorem yY : zy ["_law_script", "_law_many", "_law_cells", "_law_k"] ["_law_script", "_law_many"] (zg yt) := ⟨rfl, rfl, rfl, by decide +kernel, rfl, by decide +kernel, by decide +kernel⟩
theorem Qn (a : At K mg "_law_boxes" yt) (B : Blt mg) (D_law_folded : Df P w K mg base "_law_folded" ["_law_script", "_law_many"] 1 (cSp (wJ K))) (D_law_box : Df P w K mg base "_law_box" ["_law_script", "_law_k"] 1 (cSp Wt)) : Df P w K mg base "_law_boxes" ["_law_script", "_law_many"] 2 (cSp (QL K)) := by
 refine dfA (k := 1) a yY (fun _ _ _ _ _ _ us hl => match us, hl with | [_, _], _ => rfl) (fun xs M Q h => ?_) (fun f cdv A outer s H E hr => ?_)
 ·obtain ⟨_, _, rfl, _⟩ := h; rfl
 have sc := yY
 have hsl := hsl
 refine ⟨_, (zd (zS (i := 2) sc.nd rfl (by first | exact Or.inl rfl | exact Or.inr rfl) (zD D_law_folded hr rfl (za (pv 0) (za (pv 1) zc))))
  (zh (zu (jg (qL (ts := [3]) rfl rfl (qm rfl B.range (za (zm (ZD rfl) rfl B.max VC (za zb (za (zm zI rfl B.len jr (za (pv 2) zc)) zc))) zc)) (fun _ _ _ _ => (zr (i := 3) sc.nd rfl (by first | exact Or.inl rfl | exact Or.inr rfl))) (fun _ _ _ _ => zP) (fun _ _ _ _ => (zD D_law_box hr rfl (za (pv 2) (za (pv 3) zc))))))))), ?_⟩
 refine ex2 (by walk_at "sim") ?_
 rintro xs M Q ⟨m, ns, rfl, h1, h2, hn, q⟩
 rw [show z0 ["_law_script", "_law_many", "_law_cells", "_law_k"] [.d (.scr K ns), .d (.int m)] = [some (.d (.scr K ns)), some (.d (.int m)), none, none] from rfl]
 refine zj fun r hr0 => ?_
 walk_at "ra"
 refine ⟨m, ns, rfl, h1, h2, hn, fun cs lc => ?_⟩
 subst hr0
 walk_at "ra"
 obtain ⟨z, hz, hz'⟩ : ∃ z : Nat, (if (cs.length : Int) > 1 then (cs.length : Int) else 1) = (z : Int) /\ z <= 1000 := by
  split
  ·exact ⟨cs.length, rfl, by omega⟩
  ·exact ⟨1, rfl, by omega⟩
 rw [hz, Int.toNat_natCast]
 refine ⟨by omega, by omega, ?_⟩
 refine ⟨fun i acc ρ M' => ∃ u bs, ρ = [some (.d (.scr K ns)), some (.d (.int m)), some (.d (ilD cs)), u] /\ acc = bs.map AV.ref /\ bs.length = i /\ bs.Nodup /\ Fr M M' /\ (∀ q o, M' q = some o -> M q = some o \/ q ∈ bs) /\ ∀ b ∈ bs, BxM M' b 0 /\ M b = none, ⟨none, [], rfl, rfl, rfl, List.nodup_nil, Fr.refl, (fun q o e => .inl e), fun b hb => nomatch hb⟩, ?_, ?_⟩
 ·rintro i y acc ρ M' hy ⟨u, bs, rfl, rfl, lb, nd, f, ho, hb⟩
  obtain ⟨hi, rfl⟩ := kL hy
  refine ⟨trivial, ?_⟩
  walk_at "ra"
  refine ⟨_, _, cs, rfl, Kx _ _, by omega, by omega, by omega, fun b o hbn bx => ⟨by omega, bs ++ [b], by rw [List.map_append]; rfl, by rw [List.length_append, lb]; rfl, ?_, f.mup (f.non hbn) o, (fun q o' e => ?_), fun x hx => ?_⟩⟩
  ·refine List.nodup_append.mpr ⟨nd, by simp, fun x hx y hy e => ?_⟩
   rw [List.mem_singleton.mp hy] at e
   exact (hb x hx).1.ne (by rw [e]; exact hbn)
  ·by_cases c : q = b
   ·exact .inr (by simp [c])
   ·rw [zC c] at e
    exact (ho q o' e).imp (fun z => z) (fun z => by simp [z])
  ·rcases List.mem_append.mp hx with hx | hx
   ·exact ⟨(hb x hx).1.put (fun z => (hb x hx).1.ne (by rw [z]; exact hbn)) o, (hb x hx).2⟩
   ·rw [List.mem_singleton.mp hx]; exact ⟨bx, f.non hbn⟩
 ·rintro acc ρ M' ⟨u, bs, rfl, rfl, lb, nd, f, ho, hb⟩
  rw [je] at lb
  refine ⟨trivial, fun p hp hp' => ?_⟩
  have hbp : ∀ b ∈ bs, b ≠ p := fun b h z => (hb b h).1.ne (by rw [z]; exact hp')
  refine ⟨.ref p, mup M' p (.lst (bs.map AV.ref)), ⟨fun _ => .inl rfl, fun q' o e => ?_, .inl ⟨rfl, fun p' z => by cases z; rw [zi]; exact fun z => nomatch z⟩⟩, q p _ bs (f.mup hp _) hp zi nd (fun b h => ⟨(hb b h).1.put (hbp b h) _, hbp b h, (hb b h).2⟩) (by omega)⟩
  by_cases c : q' = p
  ·rw [c, zi] at e
   cases e
   refine .inr fun r hr => ?_
   obtain ⟨b, hb', e2⟩ := List.mem_map.mp (show AV.ref r ∈ bs.map AV.ref from hr)
   cases e2
   rw [zC (hbp r hb')]
   exact (hb r hb').1.ne
  ·rw [zC c] at e
   rcases ho q' o e with z | z
   ·exact .inl z
   ·exact .inr fun r hr => absurd hr ((hb q' z).1.refs e r)
def QG : ASp := fun xs M Q => ∃ (b : Addr) (N : Nat), xs = [.ref b] /\ BxM M b N /\ N < 100000 /\ ∀ (s : Nat -> Nat) M', BxS M M' b (N + 6) -> (∀ i, s i <= 1000) -> s 0 * (s 1 * s 2) <= 400 -> (∀ i, 1 <= s i) -> Q (.d (.lst (zq s))) M'
abbrev yg : Stmt := top 17
theorem yN : zy ["_law_box_here", "_law_some"] ["_law_box_here"] (zg yg) := ⟨rfl, rfl, rfl, by decide +kernel, rfl, by decide +kernel, by decide +kernel⟩
theorem Q5 (a : At K mg "_law_three" yg) (B : Blt mg) (D_law_take : Df P w K mg base "_law_take" ["_law_box_here", "_law_many"] 1 (cSp JY)) : Df P w K mg base "_law_three" ["_law_box_here"] 2 (cSp QG) := by
 refine dfA (k := 1) a yN (fun _ _ _ _ _ _ us hl => match us, hl with | [_], _ => rfl) (fun xs M Q h => ?_) (fun f cdv A outer s H E hr => ?_)
 ·obtain ⟨_, _, rfl, _⟩ := h; rfl
 have sc := yN
 have hsl := hsl
 refine ⟨_, (zd (zS (i := 1) sc.nd rfl (by first | exact Or.inl rfl | exact Or.inr rfl) (jg (qN (za (zp zT zb (zD D_law_take hr rfl (za (pv 0) (za zb zc)))) (za (zp zT zb (zD D_law_take hr rfl (za (pv 0) (za zb zc)))) (za (zp zT zb (zD D_law_take hr rfl (za (pv 0) (za zb zc)))) zc))))))
  (zd (qu (qf (qw hr.units) (zD D_law_take hr rfl (za (pv 0) (za zb zc))) zb (zM _)) (zh (jI (zp zT zb (zD D_law_take hr rfl (za (pv 0) (za zb zc)))) (kE (pv 1) (zD D_law_take hr rfl (za (pv 0) (za zb zc))) qR))) zL)
  (zh (zu (pv 1))))), ?_⟩
 refine ex2 (by walk_at "sim") ?_
 rintro xs M Q ⟨b, N, rfl, hb, hN, q⟩
 rw [show z0 ["_law_box_here", "_law_some"] [.ref b] = [some (.ref b), none] from rfl]
 refine zj fun r hr0 => ?_
 walk_at "ra"
 have sb := SB.refl hb
 refine ⟨b, 5, N, rfl, hb, by omega, by omega, by omega, fun c1 M1 s1 c10 c11 => ?_⟩
 have sb := sb.go s1
 refine ⟨_, rfl, b, 5, _, rfl, sb.bx, by omega, by omega, by omega, fun c2 M2 s2 c20 c21 => ⟨_, rfl, b, 5, _, rfl, s2.1, by omega, by omega, by omega, fun c3 M3 s3 c30 c31 => ⟨_, rfl, by omega, fun p p0 hp => ?_⟩⟩⟩
 have sb := (sb.go s2).go s3
 obtain ⟨_, hpb⟩ := sb.new hp
 obtain ⟨a0, rfl⟩ : ∃ k : Nat, c1 = k := ⟨c1.toNat, by omega⟩
 obtain ⟨a1, rfl⟩ : ∃ k : Nat, c2 = k := ⟨c2.toNat, by omega⟩
 obtain ⟨a2, rfl⟩ : ∃ k : Nat, c3 = k := ⟨c3.toNat, by omega⟩
 rw [show (1 : Int) + (a0 : Int) = ((1 + a0 : Nat) : Int) by omega, show (1 : Int) + (a1 : Int) = ((1 + a1 : Nat) : Int) by omega, show (1 : Int) + (a2 : Int) = ((1 + a2 : Nat) : Int) by omega]
 have hp4 := zi (M := M3) (a := p) (o := .lst [AV.d (.int ((1 + a0 : Nat) : Int)), AV.d (.int ((1 + a1 : Nat) : Int)), AV.d (.int ((1 + a2 : Nat) : Int))])
 have sb := sb.put p0 hpb (.lst [AV.d (.int ((1 + a0 : Nat) : Int)), AV.d (.int ((1 + a1 : Nat) : Int)), AV.d (.int ((1 + a2 : Nat) : Int))])
 generalize mup M3 p (.lst [AV.d (.int ((1 + a0 : Nat) : Int)), AV.d (.int ((1 + a1 : Nat) : Int)), AV.d (.int ((1 + a2 : Nat) : Int))]) = M4 at *
 have fin : ∀ (t : Nat -> Nat) M5, SB M M5 b (N + 6) -> M5 p = some (.lst ((zq t).map .d)) -> (∀ i, t i <= 12) -> t 0 * (t 1 * t 2) <= 400 -> (∀ i, 1 <= t i) -> rtA M Q (.ref p) M5 := fun t M5 s5 h5 h1 h2 h3 => s5.frz p0 hpb h5 (zF _) fun M' t' => q t M' t' (fun i => by have := h1 i; omega) h2 h3
 subst hr0
 refine zj fun r hr0 => ?_
 walk_at "ra"
 refine ⟨b, 6, _, rfl, sb.bx, by omega, by omega, by omega, fun c4 M5 s5 c40 c41 => ⟨_, rfl, by rw [vR]; omega, ?_⟩⟩
 have hp5 : M5 p = _ := (s5.at hpb).trans hp4
 have sb := sb.go s5
 have h5 : ∀ i, cel (1 + a0) (1 + a1) (1 + a2) i <= 5 /\ 1 <= cel (1 + a0) (1 + a1) (1 + a2) i := fun i => by
  unfold cel; split <;> omega
 rw [QA]
 by_cases c : c4 = 0
 ·rw [if_pos (decide_eq_true c)]
  refine ⟨b, 6, _, rfl, sb.bx, by omega, by omega, by omega, fun c5 M6 s6 c50 c51 => ⟨_, rfl, b, 3, _, rfl, s6.1, by omega, by omega, by omega, fun c6 M7 s7 c60 c61 => ?_⟩⟩
  have hp7 : M7 p = _ := (s7.at hpb).trans ((s6.at hpb).trans hp5)
  have sb := (sb.go s6).go s7
  obtain ⟨k, rfl⟩ : ∃ k : Nat, c5 = k := ⟨c5.toNat, by omega⟩
  obtain ⟨j, rfl⟩ : ∃ j : Nat, c6 = j := ⟨c6.toNat, by omega⟩
  rw [show (7 : Int) + (k : Int) = ((7 + k : Nat) : Int) by omega]
  refine ⟨_, _, rfl, hp7, j, vN (by omega) (by simp only [List.length_cons, List.length_nil]; omega), ?_⟩
  have sb := sb.put p0 hpb (.lst ([AV.d (.int ((1 + a0 : Nat) : Int)), AV.d (.int ((1 + a1 : Nat) : Int)), AV.d (.int ((1 + a2 : Nat) : Int))].set j (AV.d (.int ((7 + k : Nat) : Int)))))
  have hp8 := zi (M := M7) (a := p) (o := .lst ([AV.d (.int ((1 + a0 : Nat) : Int)), AV.d (.int ((1 + a1 : Nat) : Int)), AV.d (.int ((1 + a2 : Nat) : Int))].set j (AV.d (.int ((7 + k : Nat) : Int)))))
  generalize mup M7 p _ = M8 at *
  subst hr0
  walk_at "ra"
  have hj : j < 3 := by omega
  match j, hj with
  | 0, _ =>
   have m1 : (1 + a1) * (1 + a2) <= 5 * 5 := Nat.mul_le_mul (by omega) (by omega)
   have m2 : (7 + k) * ((1 + a1) * (1 + a2)) <= 12 * 25 := Nat.mul_le_mul (by omega) (by omega)
   exact fin (cel (7 + k) (1 + a1) (1 + a2)) M8 sb hp8 (fun i => by unfold cel; split <;> omega) (Nat.le_trans m2 (by omega)) (fun i => by unfold cel; split <;> omega)
  | 1, _ =>
   have m1 : (7 + k) * (1 + a2) <= 12 * 5 := Nat.mul_le_mul (by omega) (by omega)
   have m2 : (1 + a0) * ((7 + k) * (1 + a2)) <= 5 * 60 := Nat.mul_le_mul (by omega) (by omega)
   exact fin (cel (1 + a0) (7 + k) (1 + a2)) M8 sb hp8 (fun i => by unfold cel; split <;> omega) (Nat.le_trans m2 (by omega)) (fun i => by unfold cel; split <;> omega)
  | 2, _ =>
   have m1 : (1 + a1) * (7 + k) <= 5 * 12 := Nat.mul_le_mul (by omega) (by omega)
   have m2 : (1 + a0) * ((1 + a1) * (7 + k)) <= 5 * 60 := Nat.mul_le_mul (by omega) (by omega)
   exact fin (cel (1 + a0) (1 + a1) (7 + k)) M8 sb hp8 (fun i => by unfold cel; split <;> omega) (Nat.le_trans m2 (by omega)) (fun i => by unfold cel; split <;> omega)
 ·rw [if_neg (by simp [c])]
  subst hr0
  walk_at "ra"
  have m1 : (1 + a1) * (1 + a2) <= 5 * 5 := Nat.mul_le_mul (by omega) (by omega)
  have m2 : (1 + a0) * ((1 + a1) * (1 + a2)) <= 5 * 25 := Nat.mul_le_mul (by omega) (by omega)
  exact fin (cel (1 + a0) (1 + a1) (1 + a2)) M5 (sb.mono (by omega)) hp5 (fun i => by have := h5 i; omega) (Nat.le_trans m2 (by omega)) fun i => (h5 i).2
def qQ (q : Nat × Nat × Nat × Nat) : Dat := .tup [.int q.1, .int q.2.1, .int q.2.2.1, .int q.2.2.2]
def zz (s : Nat -> Nat) : Nat -> List (Nat × Nat × Nat × Nat)
 | 0 => []
 | 1 => [(s 0, s 1, s 2, 1)]
 | 2 => [(1, s 0, s 1, s 2)]
 | 3 => [(1, s 0, s 1 * s 2, 1)]
 | 4 => [(1, s 0 * s 1, s 2, 1)]
 | _ => [(1, s 0, s 1 * s 2, 1), (1, s 1, s 2, s 0)]
def wN : Nat -> Nat -> Nat
 | 0 => wy 0 1 2
 | 1 => wy 0 2 1
 | 2 => wy 1 0 2
 | 3 => wy 1 2 0
 | 4 => wy 2 0 1
 | _ => wy 2 1 0
theorem kU (k : Nat) : W3 (wN k) := by
 unfold wN
 split <;> exact ⟨by decide, by decide, by decide⟩
theorem jw (s : Nat -> Nat) : dp (.tup (zq s)) <= 40 := Nat.le_trans (jK (ns := [(s 0 : Int), (s 1 : Int), (s 2 : Int)]) (by simp)).1 (by omega)
def XQ : ASp := fun xs M Q => ∃ (x y : Dat) (s : Nat -> Nat) (k : Nat), xs = [.d x, .d y] /\ ky x = some (zq s) /\ ky y = some (zq (wN k)) /\ k < 6 /\ (∀ i, s i <= 1000) /\ ∀ p, M p = none -> Q (.ref p) (mup M p (.lst (((zz s k).map qQ).map .d)))
abbrev Qy : Stmt := top 6
theorem Jf : zy ["sizes", "ways", "asked", "first_to_end", "size0", "size1", "size2"] ["sizes", "ways"] (zg Qy) := ⟨rfl, rfl, rfl, by decide +kernel, rfl, by decide +kernel, by decide +kernel⟩
theorem X9 (a : At K mg "deep_turns" Qy) (B : Blt mg) : Df P w K mg base "deep_turns" ["sizes", "ways"] 1 (cSp XQ) := by
 refine dfA (k := 0) a Jf (fun _ _ _ _ _ _ us hl => match us, hl with | [_, _], _ => rfl) (fun xs M Q h => ?_) (fun f cdv A outer s H E hr => ?_)
 ·obtain ⟨_, _, _, _, rfl, _⟩ := h; rfl
 have sc := Jf
 have hsl := hsl
 refine ⟨_, (zd (jI (pv 0) (wV (K := K) 3 rfl rfl (zX (zr (i := 4) sc.nd rfl (by first | exact Or.inl rfl | exact Or.inr rfl)) (zX (zr (i := 5) sc.nd rfl (by first | exact Or.inl rfl | exact Or.inr rfl)) (zX (zr (i := 6) sc.nd rfl (by first | exact Or.inl rfl | exact Or.inr rfl)) jM)))))
  (zd (zS (i := 2) sc.nd rfl (by first | exact Or.inl rfl | exact Or.inr rfl) (zE qp rfl B.tuple qq (za (pv 1) zc)))
  (zd (qu (qf (qw hr.units) (pv 2) (zG (za zb (za zb (za zb zc)))) (zM _)) (zh (zu (jg (qN zc)))) zL)
  (zd (qu (qf (qw hr.units) (pv 2) (zG (za zb (za zb (za zb zc)))) (zM _)) (zh (zu (jg (qN (za (zG (za (pv 4) (za (pv 5) (za (pv 6) (za zb zc))))) zc))))) zL)
  (zd (qu (qf (qw hr.units) (pv 2) (zG (za zb (za zb (za zb zc)))) (zM _)) (zh (zu (jg (qN (za (zG (za zb (za (pv 4) (za (pv 5) (za (pv 6) zc))))) zc))))) zL)
  (zd (qu (qf (qw hr.units) (pv 2) (zG (za zb (za zb (za zb zc)))) (zM _)) (zh (zu (jg (qN (za (zG (za zb (za (zp zW (pv 4) (pv 5)) (za (pv 6) (za zb zc))))) zc))))) zL)
  (zd (zS (i := 3) sc.nd rfl (by first | exact Or.inl rfl | exact Or.inr rfl) (zG (za zb (za (pv 4) (za (zp zW (pv 5) (pv 6)) (za zb zc))))))
  (zd (qu (qf (qw hr.units) (pv 2) (zG (za zb (za zb (za zb zc)))) (zM _)) (zh (zu (jg (qN (za (pv 3) zc))))) zL)
  (zh (zu (jg (qN (za (pv 3) (za (zG (za zb (za (pv 5) (za (pv 6) (za (pv 4) zc))))) zc)))))))))))))), ?_⟩
 refine ex2 (by walk_at "sim") ?_
 rintro xs M Q ⟨x, y, s, k, rfl, hx, hy, hk, hs, q⟩
 rw [show z0 ["sizes", "ways", "asked", "first_to_end", "size0", "size1", "size2"] [.d x, .d y] = [some (.d x), some (.d y), none, none, none, none, none] from rfl]
 have s0 := hs 0
 have s1 := hs 1
 have s2 := hs 2
 refine zj fun r hr0 => ?_
 walk_at "ra"
 refine ⟨_, kf hx M, rfl, _, _, rfl, _, _, rfl, _, _, rfl, rfl, ?_⟩
 subst hr0
 refine zj fun r hr0 => ?_
 walk_at "ra"
 refine ⟨_, kf hy M, _, zF _, ?_⟩
 match k, hk with
 | 0, _ =>
  have c0 : eqD (.tup (zq (wN 0))) (.tup [.int 0, .int 1, .int 2]) = true := by decide +kernel
  have c1 : eqD (.tup (zq (wN 0))) (.tup [.int 0, .int 2, .int 1]) = false := by decide +kernel
  have c2 : eqD (.tup (zq (wN 0))) (.tup [.int 1, .int 0, .int 2]) = false := by decide +kernel
  have c3 : eqD (.tup (zq (wN 0))) (.tup [.int 2, .int 0, .int 1]) = false := by decide +kernel
  have c4 : eqD (.tup (zq (wN 0))) (.tup [.int 1, .int 2, .int 0]) = false := by decide +kernel
  subst hr0
  walk_at "ra"
  simp only [c0, c1, c2, c3, c4]
  walk_at "ra"
  repeat (first | refine And.intro (by omega) ?_ | refine And.intro (jw _) ?_ | refine And.intro (by decide +kernel) ?_ | refine And.intro (qc (by omega) (by omega)) ?_)
  intro p hp _
  exact ⟨_, _, ju (l := ((zz s 0).map qQ).map .d) (Fr.refl.mup hp _) hp zi (zF _), q p hp⟩
 | 1, _ =>
  have c0 : eqD (.tup (zq (wN 1))) (.tup [.int 0, .int 1, .int 2]) = false := by decide +kernel
  have c1 : eqD (.tup (zq (wN 1))) (.tup [.int 0, .int 2, .int 1]) = true := by decide +kernel
  have c2 : eqD (.tup (zq (wN 1))) (.tup [.int 1, .int 0, .int 2]) = false := by decide +kernel
  have c3 : eqD (.tup (zq (wN 1))) (.tup [.int 2, .int 0, .int 1]) = false := by decide +kernel
  have c4 : eqD (.tup (zq (wN 1))) (.tup [.int 1, .int 2, .int 0]) = false := by decide +kernel
  subst hr0
  walk_at "ra"
  simp only [c0, c1, c2, c3, c4]
  walk_at "ra"
  repeat (first | refine And.intro (by omega) ?_ | refine And.intro (jw _) ?_ | refine And.intro (by decide +kernel) ?_ | refine And.intro (qc (by omega) (by omega)) ?_)
  intro p hp _
  exact ⟨_, _, ju (l := ((zz s 1).map qQ).map .d) (Fr.refl.mup hp _) hp zi (zF _), q p hp⟩
 | 2, _ =>
  have c0 : eqD (.tup (zq (wN 2))) (.tup [.int 0, .int 1, .int 2]) = false := by decide +kernel
  have c1 : eqD (.tup (zq (wN 2))) (.tup [.int 0, .int 2, .int 1]) = false := by decide +kernel
  have c2 : eqD (.tup (zq (wN 2))) (.tup [.int 1, .int 0, .int 2]) = true := by decide +kernel
  have c3 : eqD (.tup (zq (wN 2))) (.tup [.int 2, .int 0, .int 1]) = false := by decide +kernel
  have c4 : eqD (.tup (zq (wN 2))) (.tup [.int 1, .int 2, .int 0]) = false := by decide +kernel
  subst hr0
  walk_at "ra"
  simp only [c0, c1, c2, c3, c4]
  walk_at "ra"
  repeat (first | refine And.intro (by omega) ?_ | refine And.intro (jw _) ?_ | refine And.intro (by decide +kernel) ?_ | refine And.intro (qc (by omega) (by omega)) ?_)
  intro p hp _
  exact ⟨_, _, ju (l := ((zz s 2).map qQ).map .d) (Fr.refl.mup hp _) hp zi (zF _), q p hp⟩
 | 3, _ =>
  have c0 : eqD (.tup (zq (wN 3))) (.tup [.int 0, .int 1, .int 2]) = false := by decide +kernel
  have c1 : eqD (.tup (zq (wN 3))) (.tup [.int 0, .int 2, .int 1]) = false := by decide +kernel
  have c2 : eqD (.tup (zq (wN 3))) (.tup [.int 1, .int 0, .int 2]) = false := by decide +kernel
  have c3 : eqD (.tup (zq (wN 3))) (.tup [.int 2, .int 0, .int 1]) = false := by decide +kernel
  have c4 : eqD (.tup (zq (wN 3))) (.tup [.int 1, .int 2, .int 0]) = true := by decide +kernel
  subst hr0
  walk_at "ra"
  simp only [c0, c1, c2, c3, c4]
  walk_at "ra"
  repeat (first | refine And.intro (by omega) ?_ | refine And.intro (jw _) ?_ | refine And.intro (by decide +kernel) ?_ | refine And.intro (qc (by omega) (by omega)) ?_)
  intro p hp _
  rw [show (s 1 : Int) * (s 2 : Int) = ((s 1 * s 2 : Nat) : Int) by push_cast; rfl]
  exact ⟨_, _, ju (l := ((zz s 3).map qQ).map .d) (Fr.refl.mup hp _) hp zi (zF _), q p hp⟩
 | 4, _ =>
  have c0 : eqD (.tup (zq (wN 4))) (.tup [.int 0, .int 1, .int 2]) = false := by decide +kernel
  have c1 : eqD (.tup (zq (wN 4))) (.tup [.int 0, .int 2, .int 1]) = false := by decide +kernel
  have c2 : eqD (.tup (zq (wN 4))) (.tup [.int 1, .int 0, .int 2]) = false := by decide +kernel
  have c3 : eqD (.tup (zq (wN 4))) (.tup [.int 2, .int 0, .int 1]) = true := by decide +kernel
  have c4 : eqD (.tup (zq (wN 4))) (.tup [.int 1, .int 2, .int 0]) = false := by decide +kernel
  subst hr0
  walk_at "ra"
  simp only [c0, c1, c2, c3, c4]
  walk_at "ra"
  repeat (first | refine And.intro (by omega) ?_ | refine And.intro (jw _) ?_ | refine And.intro (by decide +kernel) ?_ | refine And.intro (qc (by omega) (by omega)) ?_)
  intro p hp _
  rw [show (s 0 : Int) * (s 1 : Int) = ((s 0 * s 1 : Nat) : Int) by push_cast; rfl]
  exact ⟨_, _, ju (l := ((zz s 4).map qQ).map .d) (Fr.refl.mup hp _) hp zi (zF _), q p hp⟩
 | 5, _ =>
  have c0 : eqD (.tup (zq (wN 5))) (.tup [.int 0, .int 1, .int 2]) = false := by decide +kernel
  have c1 : eqD (.tup (zq (wN 5))) (.tup [.int 0, .int 2, .int 1]) = false := by decide +kernel
  have c2 : eqD (.tup (zq (wN 5))) (.tup [.int 1, .int 0, .int 2]) = false := by decide +kernel
  have c3 : eqD (.tup (zq (wN 5))) (.tup [.int 2, .int 0, .int 1]) = false := by decide +kernel
  have c4 : eqD (.tup (zq (wN 5))) (.tup [.int 1, .int 2, .int 0]) = false := by decide +kernel
  subst hr0
  walk_at "ra"
  simp only [c0, c1, c2, c3, c4]
  walk_at "ra"
  repeat (first | refine And.intro (by omega) ?_ | refine And.intro (jw _) ?_ | refine And.intro (by decide +kernel) ?_ | refine And.intro (qc (by omega) (by omega)) ?_)
  intro p hp _
  rw [show (s 1 : Int) * (s 2 : Int) = ((s 1 * s 2 : Nat) : Int) by push_cast; rfl]
  exact ⟨_, _, ju (l := ((zz s 5).map qQ).map .d) (Fr.refl.mup hp _) hp zi (zF _), q p hp⟩
def aDT : ASp := fun xs M Q => ∃ (x y : Dat) (s : Nat -> Nat) (k : Nat), xs = [.d x, .d y] /\ ky x = some (zq s) /\ ky y = some (zq (wN k)) /\ k < 6 /\ (∀ i, s i <= 1000) /\ Q (.d (.lst ((zz s k).map qQ))) M
theorem VT (vs : List V) (H : Hp) (Q : VK) (E : XK) : cSp aDT vs H Q E -> cSp XQ vs H Q E := Ky (fun xs M Q ⟨x, y, s, k, e, h1, h2, h3, h4, q⟩ => ⟨x, y, s, k, e, h1, h2, h3, h4, fun p hp => ⟨_, _, KZ (Fr.refl.mup hp _) hp zi (zF _), q⟩⟩) vs H Q E
theorem jQ {n : Nat} {l : List Int} (h : l.length = n) : qY (qx 0 1 n) l = l := by
 unfold qY
 rw [Qm, List.map_map]
 refine List.ext_getElem (by simp [h]) fun i h1 h2 => ?_
 rw [List.getElem_map, List.getElem_range]
 show l.getD ((i : Int)).toNat 0 = _
 rw [Int.toNat_natCast, List.getD_eq_getElem?_getD, List.getElem?_eq_getElem h2]; rfl
theorem jL (a b : Nat) : zA 1 a b 1 = zU a b := by
 rw [xp, qA, show List.range 1 = [0] from rfl, List.flatMap_cons, List.flatMap_nil, List.append_nil]
 refine zw fun i _ => List.map_congr_left fun j _ => ?_
 rw [Nat.zero_mul, Nat.zero_add]
def Jc (q : Nat × Nat × Nat × Nat) : List Int := zA q.1 q.2.1 q.2.2.1 q.2.2.2
theorem qo (o r c i : Nat) : (zA o r c i).length = o * (r * c) * i := by
 unfold zA
 rw [qU _ _ i fun x _ => by simp, qU _ _ (r * c) fun x _ => by rw [List.length_map, kc], List.length_range]
theorem Zv (s : Nat -> Nat) {k : Nat} (hk : k < 6) : (zz s k).foldl (fun row q => qY row (Jc q)) (qx 0 1 (s 0 * (s 1 * s 2))) = zx s (wN k) := by
 have sc : ∀ i, i < 3 -> s i = cel (s 0) (s 1) (s 2) i := fun i hi => (vL s hi).symm
 have hc : ∀ u, W3 u -> zx s u = zx (cel (s 0) (s 1) (s 2)) u := fun u hu => kH sc (fun _ _ => rfl) hu
 match k, hk with
 | 0, _ =>
  show qx 0 1 _ = _
  rw [Qm, qS, qS, List.map_flatMap]
  show _ = (List.range (s 0)).flatMap _
  refine zw fun x0 _ => ?_
  rw [List.map_flatMap, List.map_flatMap]
  refine zw fun x1 _ => ?_
  rw [List.map_map, List.map_map]
  refine List.map_congr_left fun x2 _ => ?_
  show ((x0 * (s 1 * s 2) + (x1 * s 2 + x2) : Nat) : Int) = (((x0 * s 1 + x1) * s 2 + x2 : Nat) : Int)
  rw [show (x0 * s 1 + x1) * s 2 + x2 = x0 * (s 1 * s 2) + (x1 * s 2 + x2) by grind]
 | 1, _ =>
  show qY _ (zA (s 0) (s 1) (s 2) 1) = _
  rw [jQ (by rw [qo, Nat.mul_one]), hc _ (kU 1)]
  exact (QF _ _ _).symm
 | 2, _ =>
  show qY _ (zA 1 (s 0) (s 1) (s 2)) = _
  rw [jQ (by rw [qo, Nat.one_mul, Nat.mul_assoc]), hc _ (kU 2)]
  exact (yC _ _ _).symm
 | 3, _ =>
  show qY _ (zA 1 (s 0) (s 1 * s 2) 1) = _
  rw [jQ (by rw [qo, Nat.one_mul, Nat.mul_one]), hc _ (kU 3), jL]
  exact (vz _ _ _).symm
 | 4, _ =>
  show qY _ (zA 1 (s 0 * s 1) (s 2) 1) = _
  rw [jQ (by rw [qo, Nat.one_mul, Nat.mul_one, Nat.mul_assoc]), hc _ (kU 4), jL]
  exact (Z7 _ _ _).symm
 | 5, _ =>
  show qY (qY _ (zA 1 (s 0) (s 1 * s 2) 1)) (zA 1 (s 1) (s 2) (s 0)) = _
  rw [jQ (by rw [qo, Nat.one_mul, Nat.mul_one]), jL, <- vz, <- yC]
  rw [show zx (cel (s 1) (s 2) (s 0)) (wy 1 0 2) = zx (fun i => cel (s 0) (s 1) (s 2) (wy 1 2 0 i)) (wy 1 0 2) from kH (fun i hi => by match i, hi with | 0, _ => rfl | 1, _ => rfl | 2, _ => rfl) (fun _ _ => rfl) ⟨by decide, by decide, by decide⟩, xJ ⟨by decide, by decide, by decide⟩ ⟨by decide, by decide, by decide⟩, hc _ (kU 5)]
  exact kH (fun _ _ => rfl) (fun i hi => by match i, hi with | 0, _ => rfl | 1, _ => rfl | 2, _ => rfl) ⟨by decide, by decide, by decide⟩
def KR (b : List Int) : AV -> AV
 | .d (.int p) => .d (.int (b.getD p.toNat 0))
 | x => x
theorem Zt {o r c i : Nat} {x : Int} (h : x ∈ zA o r c i) : 0 <= x /\ x < ((o * (r * c) * i : Nat) : Int) := by
 unfold zA at h
 obtain ⟨cell, hc, h⟩ := List.mem_flatMap.mp h
 obtain ⟨a, ha, rfl⟩ := List.mem_map.mp h
 obtain ⟨t, ht, hc⟩ := List.mem_flatMap.mp hc
 obtain ⟨g, hg, rfl⟩ := List.mem_map.mp hc
 rw [List.mem_range] at ha ht
 obtain ⟨g0, g1⟩ := yL hg
 obtain ⟨g, rfl⟩ : ∃ k : Nat, g = k := ⟨g.toNat, by omega⟩
 have e : ((t : Int) * ((r * c : Nat) : Int) + (g : Int)) * (i : Int) + (a : Int) = (((t * (r * c) + g) * i + a : Nat) : Int) := by push_cast; rfl
 rw [e]
 refine ⟨Int.natCast_nonneg _, Int.ofNat_lt.mpr ?_⟩
 have h1 : (t + 1) * (r * c) <= o * (r * c) := Nat.mul_le_mul_right _ ht
 rw [Nat.add_mul, Nat.one_mul] at h1
 have h2 : (t * (r * c) + g + 1) * i <= o * (r * c) * i := Nat.mul_le_mul_right _ (by omega)
 rw [Nat.add_mul, Nat.one_mul] at h2
 omega
def QOk (n : Nat) (q : Nat × Nat × Nat × Nat) : Prop := 1 <= q.1 /\ 1 <= q.2.1 /\ 1 <= q.2.2.1 /\ 1 <= q.2.2.2 /\ q.1 * (q.2.1 * q.2.2.1) * q.2.2.2 = n
theorem JP {s : Nat -> Nat} (hs : ∀ i, 1 <= s i) {k : Nat} (hk : k < 6) : ∀ q ∈ zz s k, QOk (s 0 * (s 1 * s 2)) q := by
 have h0 := hs 0
 have h1 := hs 1
 have h2 := hs 2
 have m12 : 1 <= s 1 * s 2 := Nat.mul_pos h1 h2
 have m01 : 1 <= s 0 * s 1 := Nat.mul_pos h0 h1
 intro q hq
 match k, hk with
 | 0, _ => cases hq
 | 1, _ => rw [List.mem_singleton.mp hq]; exact ⟨h0, h1, h2, Nat.le_refl 1, by show s 0 * (s 1 * s 2) * 1 = _; rw [Nat.mul_one]⟩
 | 2, _ => rw [List.mem_singleton.mp hq]; exact ⟨Nat.le_refl 1, h0, h1, h2, by show 1 * (s 0 * s 1) * s 2 = _; rw [Nat.one_mul, Nat.mul_assoc]⟩
 | 3, _ => rw [List.mem_singleton.mp hq]; exact ⟨Nat.le_refl 1, h0, m12, Nat.le_refl 1, by show 1 * (s 0 * (s 1 * s 2)) * 1 = _; rw [Nat.one_mul, Nat.mul_one]⟩
 | 4, _ => rw [List.mem_singleton.mp hq]; exact ⟨Nat.le_refl 1, m01, h2, Nat.le_refl 1, by show 1 * (s 0 * s 1 * s 2) * 1 = _; rw [Nat.one_mul, Nat.mul_one, Nat.mul_assoc]⟩
 | 5, _ =>
  rcases List.mem_cons.mp hq with rfl | hq
  ·exact ⟨Nat.le_refl 1, h0, m12, Nat.le_refl 1, by show 1 * (s 0 * (s 1 * s 2)) * 1 = _; rw [Nat.one_mul, Nat.mul_one]⟩
  ·rw [List.mem_singleton.mp hq]; exact ⟨Nat.le_refl 1, h1, h2, h0, by show 1 * (s 1 * s 2) * s 0 = _; rw [Nat.one_mul, Nat.mul_comm]⟩
theorem QOk.bds {n : Nat} {q : Nat × Nat × Nat × Nat} (h : QOk n q) (hn : n <= 400) : q.1 <= 400 /\ q.2.1 <= 400 /\ q.2.2.1 <= 400 /\ q.2.2.2 <= 400 /\ q.2.1 * q.2.2.1 <= 400 /\ q.1 * (q.2.1 * q.2.2.1) <= 400 := by
 obtain ⟨h1, h2, h3, h4, h5⟩ := h
 have a1 : q.1 * (q.2.1 * q.2.2.1) <= n := by rw [<- h5]; exact Nat.le_mul_of_pos_right _ h4
 have a2 : q.2.1 * q.2.2.1 <= q.1 * (q.2.1 * q.2.2.1) := Nat.le_mul_of_pos_left _ h1
 have a3 : q.1 <= q.1 * (q.2.1 * q.2.2.1) := Nat.le_mul_of_pos_right _ (Nat.mul_pos h2 h3)
 have a4 : q.2.1 <= q.2.1 * q.2.2.1 := Nat.le_mul_of_pos_right _ h3
 have a5 : q.2.2.1 <= q.2.1 * q.2.2.1 := Nat.le_mul_of_pos_left _ h2
 have a6 : q.2.2.2 <= n := by rw [<- h5]; exact Nat.le_mul_of_pos_left _ (Nat.mul_pos h1 (Nat.mul_pos h2 h3))
 omega
def aSz : ASp := fun xs M Q => ∃ i : Int, xs = [.d (.int i)] /\ Q (.d (.bl (decide (i > 0)))) M
abbrev vT : Stmt := top 18
theorem Za : zy ["_law_thing"] ["_law_thing"] (zg vT) := ⟨rfl, rfl, rfl, by decide +kernel, rfl, by decide +kernel, by decide +kernel⟩
theorem K2 (a : At K mg "_law_is_size" vT) (B : Blt mg) : Df P w K mg base "_law_is_size" ["_law_thing"] 1 (cSp aSz) := by
 refine dfA (k := 0) a Za (fun _ _ _ _ _ _ us hl => match us, hl with | [_], _ => rfl) (fun xs M Q h => ?_) (fun f cdv A outer s H E hr => ?_)
 ·obtain ⟨_, rfl, _⟩ := h; rfl
 have sc := Za
 have hsl := hsl
 refine ⟨_, (zh (zu (j4 (zm zR rfl B.isinstance zn (za (pv 0) (za (zH (v := .ty "int") rfl B.int vK rfl) zc))) (j4 (YF (zm zR rfl B.isinstance zn (za (pv 0) (za (zH (v := .ty "bool") rfl B.bool yy rfl) zc)))) (yo (qH Xi (pv 0) zb (zM _))))))), ?_⟩
 refine ex2 (by walk_at "sim") ?_
 rintro xs M Q ⟨i, rfl, q⟩
 rw [show z0 ["_law_thing"] [.d (.int i)] = [some (.d (.int i))] from rfl]
 walk_at "ra"
 exact kT Fr.refl q
def qG (s : Nat -> Nat) (k j : Nat) : List Int := ((zz s k).take j).foldl (fun row q => qY row (Jc q)) (qx 0 1 (s 0 * (s 1 * s 2)))
def aTR : ASp := fun xs M Q => ∃ (x : AV) (s : Nat -> Nat) (k : Nat), xs = [.d (.lst (zq s)), .d (.tup (zq (wN k))), .d (ilD (zx s (wN k))), x] /\ qi x M = some (((zz s k).map qQ).map .d) /\ tyA x M = some "list" /\ k < 6 /\ (∀ i, s i <= 1000) /\ s 0 * (s 1 * s 2) <= 400 /\ (∀ i, 1 <= s i) /\ Q (.d (.bl true)) M
theorem Ki (s : Nat -> Nat) {k : Nat} (hk : k < 6) : (if [((wN k 0 : Nat) : Int), ((wN k 1 : Nat) : Int), ((wN k 2 : Nat) : Int)] = [2, 1, 0] then AV.d (.int 2) else if [((wN k 0 : Nat) : Int), ((wN k 1 : Nat) : Int), ((wN k 2 : Nat) : Int)] = [0, 1, 2] then AV.d (.int 0) else AV.d (.int 1)) = AV.d (.int ((zz s k).length : Nat)) := by
 match k, hk with
 | 0, _ => rfl
 | 1, _ => rfl
 | 2, _ => rfl
 | 3, _ => rfl
 | 4, _ => rfl
 | 5, _ => rfl
abbrev YD : Stmt := top 19
theorem Xr : zy ["_law_sizes", "_law_ways", "_law_due", "_law_told", "_law_many", "_law_row", "_law_turn", "_law_order", "_law_place", "_law_one"] ["_law_sizes", "_law_ways", "_law_due", "_law_told"] (zg YD) := ⟨rfl, rfl, rfl, by decide +kernel, rfl, by decide +kernel, by decide +kernel⟩
theorem Wp (a : At K mg "_law_turns_right" YD) (B : Blt mg) (Ball : mg "all" = none) (D_law_is_size : Df P w K mg base "_law_is_size" ["_law_thing"] 3 (cSp aSz)) (D_block_order : Df P w K mg base "block_order" ["outer", "rows", "columns", "inner"] 3 (cSp Ji)) : Df P w K mg base "_law_turns_right" ["_law_sizes", "_law_ways", "_law_due", "_law_told"] 4 (cSp aTR) := by
  refine dfA (k := 3) a Xr (fun _ _ _ _ _ _ us hl => match us, hl with | [_, _, _, _], _ => rfl) (fun xs M Q h => ?_) (fun f cdv A outer s H E hr => ?_)
  · obtain ⟨_, _, _, rfl, _⟩ := h; rfl
  have sc := Xr
  have hsl := hsl
  refine' ⟨_, ?q0, ?qr⟩
  (case q0 =>
    refine' zd ?q1 ?q2
    (case q1 =>
      refine' zS (i := 4) ?q3 ?q4 ?q5 ?q6
      (case q3 => exact sc.nd)
      (case q4 => exact rfl)
      (case q5 => exact (by first | exact Or.inl rfl | exact Or.inr rfl))
      (case q6 =>
        refine' JU ?q7 ?q8 ?q9 ?q10 ?q11
        (case q7 => exact (Xp hr))
        (case q8 =>
          refine' Je ?q12 ?q13
          (case q12 => exact (Nat.lt_of_succ_lt (Xp hr)))
          (case q13 =>
            refine' vk ?q14 ?q15 ?q16
            (case q14 => exact (zG (za zb (za zb (za zb zc)))))
            (case q15 => exact zb)
            (case q16 =>
              refine' vk ?q17 ?q18 ?q19
              (case q17 => exact (zG (za zb (za zb (za zb zc)))))
              (case q18 => exact zb)
              (case q19 => exact K5))))
        (case q9 => exact (pv 1))
        (case q10 => exact zb)
        (case q11 => exact ⟨rfl, rfl, rfl, rfl⟩)))
    (case q2 => exact (zd (qu (PW.pt (xk (jf (qP (zm zR rfl B.isinstance zn (za (pv 3) (za (zH (v := .ty "list") rfl B.list qh rfl) zc))) (fun _ => rfl))) (kZ (qf (kN hr.units) (zm zI rfl B.len jr (za (pv 3) zc)) (pv 4) (zM _))))) (zh (zu jU)) zL) (zd (zS (i := 5) sc.nd rfl (by first | exact Or.inl rfl | exact Or.inr rfl) (zE (xf rfl) rfl B.list qh (za (zE va rfl B.range QD (za (zm zI rfl B.len jr (za (pv 2) zc)) zc)) zc))) (zd (ym PassesOwn.never rfl (jq (pv 3)) (zr (i := 6) sc.nd rfl (by first | exact Or.inl rfl | exact Or.inr rfl)) (zd (qu (PW.pt (xk (jf (qP (zm zR rfl B.isinstance zn (za (pv 6) (za (zH (v := .ty "tuple") rfl B.tuple qq rfl) zc))) (fun _ => rfl))) (xk (qf (kN hr.units) (zm zI rfl B.len jr (za (pv 6) zc)) zb (zM _)) (kZ (jf (qP (zm (xr rfl) rfl Ball Qv (za (qL (ts := [9]) rfl rfl (jq (pv 6)) (fun _ _ _ _ => (zr (i := 9) sc.nd rfl (by first | exact Or.inl rfl | exact Or.inr rfl))) (fun _ _ _ _ => zP) (fun _ _ _ _ => (zD D_law_is_size hr rfl (za (pv 9) zc)))) zc)) (fun _ => rfl))))))) (zh (zu jU)) zL) (zd (qu (qf (kN hr.units) (zp zW (zp zW (zp zW (zK qE (pv 6) zb (fun _ _ => rfl)) (zK qE (pv 6) zb (fun _ _ => rfl))) (zK qE (pv 6) zb (fun _ _ => rfl))) (zK qE (pv 6) zb (fun _ _ => rfl))) (zm zI rfl B.len jr (za (pv 2) zc)) (zM _)) (zh (zu jU)) zL) (zd (zS (i := 7) sc.nd rfl (by first | exact Or.inl rfl | exact Or.inr rfl) (zD D_block_order hr rfl (za (zK qE (pv 6) zb (fun _ _ => rfl)) (za (zK qE (pv 6) zb (fun _ _ => rfl)) (za (zK qE (pv 6) zb (fun _ _ => rfl)) (za (zK qE (pv 6) zb (fun _ _ => rfl)) zc)))))) (zh (Xc (j := 5) rfl sc.nd rfl (by first | exact Or.inl rfl | exact Or.inr rfl) (ts := [8]) rfl (jq (pv 5)) (fun _ _ _ _ => (zr (i := 8) sc.nd rfl (by first | exact Or.inl rfl | exact Or.inr rfl))) (fun _ _ _ _ => zP) (fun _ _ _ _ => (zK (xT (K := K) rfl) (pv 7) (pv 8) (fun _ _ => rfl))))))))) (zh (zu (qH (qw hr.units) (pv 5) (pv 2) (zM _)))))))))
  refine ex2 (by walk_at "sim") ?_
  rintro xs M Q ⟨x, s, k, rfl, hx, hty, hk, hs, hsz, hs1, q⟩
  rw [show z0 ["_law_sizes", "_law_ways", "_law_due", "_law_told", "_law_many", "_law_row", "_law_turn", "_law_order", "_law_place", "_law_one"] [.d (.lst (zq s)), .d (.tup (zq (wN k))), .d (ilD (zx s (wN k))), x] = [some (.d (.lst (zq s))), some (.d (.tup (zq (wN k)))), some (.d (ilD (zx s (wN k)))), some x, none, none, none, none, none, none] from rfl]
  have dl := j0 s (wN k)
  generalize hn : s 0 * (s 1 * s 2) = n at *
  have hsq : jj x M = some (((zz s k).map qQ).map .d) := by
    rcases ve hx with ⟨m, rfl, e⟩ | ⟨a, rfl, e⟩
    · rw [e]; rfl
    · exact qT e
  refine zj fun r hr0 => ?_
  walk_at "ra"
  refine ⟨by omega, by omega, [0, 1, 2], rfl, [2, 1, 0], rfl, [((wN k 0 : Nat) : Int), ((wN k 1 : Nat) : Int), ((wN k 2 : Nat) : Int)], rfl, ?_⟩
  rw [Ki s hk]
  subst hr0
  refine zj fun r hr0 => ?_
  walk_at "ra"
  refine ⟨_, hty, _, Ja, ?_⟩
  rw [if_neg (by decide)]
  refine ⟨_, hsq, ?_⟩
  rw [List.length_map, List.length_map, if_neg (by simp)]
  subst hr0
  refine zj fun r hr0 => ?_
  walk_at "ra"
  rw [dl]
  refine ⟨0, _, 1, rfl, small_one (by omega) (by omega) (by omega) (by omega), n, by rw [rangeSize_one]; split <;> omega, by omega, ?_⟩
  subst hr0
  refine zj fun r hr0 => ?_
  walk_at "ra"
  refine ⟨_, hsq, ?_⟩
  have fullL : qG s k (zz s k).length = zx s (wN k) := by unfold qG; rw [List.take_length]; exact Zv s hk
  have ok := JP hs1 hk
  refine ⟨fun j ρ M' => M = M' /\ ∃ x6 x7, ρ = [some (.d (.lst (zq s))), some (.d (.tup (zq (wN k)))), some (.d (ilD (zx s (wN k)))), some x, some (.d (.int (zz s k).length)), some (.d (ilD (qG s k j))), x6, x7, none, none] /\ (qG s k j).length = n /\ ∀ p ∈ qG s k j, 0 <= p /\ p < (n : Int), ⟨rfl, none, none, ?_, ?_, ?_⟩, ?_, ?_⟩
  · unfold qG; rw [List.take_zero, hn]; rfl
  · unfold qG; rw [List.take_zero, hn]; show (qx 0 1 n).length = n; rw [zV]
  · unfold qG; rw [List.take_zero, hn]; exact fun p hp => (wZ.rng n).2.2 p hp
  · rintro j y ρ M' hy ⟨rfl, x6, x7, rfl, lr, br⟩
    rw [List.map_map, List.getElem?_map] at hy
    cases e : (zz s k)[j]? with
    | none => rw [e] at hy; cases hy
    | some qd =>
      rw [e] at hy
      obtain rfl : AV.d (qQ qd) = y := Option.some.inj hy
      have okq := ok qd (List.mem_of_getElem? e)
      rw [hn] at okq
      obtain ⟨b1, b2, b3, b4, b5, b6⟩ := okq.bds hsz
      obtain ⟨o1, o2, o3, o4, o5⟩ := okq
      refine ⟨hsq, ?_⟩
      rw [show qQ qd = .tup [.int qd.1, .int qd.2.1, .int qd.2.2.1, .int qd.2.2.2] from rfl]
      have nxt : qG s k (j + 1) = qY (qG s k j) (zA qd.1 qd.2.1 qd.2.2.1 qd.2.2.2) := by
        unfold qG
        rw [List.take_add_one, e, List.foldl_append]
        rfl
      generalize qd.1 = a1 at *
      generalize qd.2.1 = a2 at *
      generalize qd.2.2.1 = a3 at *
      generalize qd.2.2.2 = a4 at *
      show vS _ _ _ _ _ _
      refine zj fun r2 hr2 => ?_
      walk_at "ra"
      rw [if_neg (by decide)]
      refine jG (fun o => [some (.d (.lst (zq s))), some (.d (.tup (zq (wN k)))), some (.d (ilD (zx s (wN k)))), some x, some (.d (.int (zz s k).length)), some (.d (ilD (qG s k j))), some (.d (.tup [.int a1, .int a2, .int a3, .int a4])), x7, none, o]) (fun _ => .d (.bl true)) ⟨_, rfl⟩ trivial (by simp) (fun o y Q hy q => ?_) fun o => ?_
      · obtain ⟨i, hi, rfl⟩ : ∃ i : Nat, 1 <= i /\ y = .d (.int i) := by
          simp only [List.map_cons, List.map_nil, List.mem_cons, List.not_mem_nil, or_false] at hy
          rcases hy with rfl | rfl | rfl | rfl
          · exact ⟨_, o1, rfl⟩
          · exact ⟨_, o2, rfl⟩
          · exact ⟨_, o3, rfl⟩
          · exact ⟨_, o4, rfl⟩
        walk_at "ra"
        refine ⟨i, rfl, ?_⟩
        rw [decide_eq_true (show (i : Int) > 0 by omega)]
        exact q _
      refine ⟨[.bl true, .bl true, .bl true, .bl true], rfl, [true, true, true, true], rfl, ?_⟩
      rw [if_neg (by decide)]
      subst hr2
      refine zj fun r2 hr2 => ?_
      walk_at "ra"
      have m1 : (a1 : Int) * a2 = ((a1 * a2 : Nat) : Int) := by push_cast; rfl
      have m2 : ((a1 * a2 : Nat) : Int) * a3 = ((a1 * a2 * a3 : Nat) : Int) := by push_cast; rfl
      have m3 : ((a1 * a2 * a3 : Nat) : Int) * a4 = ((a1 * a2 * a3 * a4 : Nat) : Int) := by push_cast; rfl
      have m4 : a1 * a2 * a3 * a4 = n := by rw [<- o5, Nat.mul_assoc a1 a2 a3]
      refine ⟨_, rfl, _, rfl, _, rfl, _, rfl, qc (by omega) (by omega), _, rfl, _, rfl, qc (by omega) (by omega), _, rfl, _, rfl, qc (by omega) (by omega), ?_⟩
      rw [m1, m2, m3, m4, dl, if_neg (by simp)]
      subst hr2
      refine zj fun r2 hr2 => ?_
      walk_at "ra"
      refine ⟨_, rfl, _, rfl, _, rfl, _, rfl, a1, a2, a3, a4, rfl, by omega, by omega, by omega, by omega, by omega, by omega, by omega, ?_⟩
      have bl := qo a1 a2 a3 a4
      rw [o5] at bl
      subst hr2
      walk_at "ra"
      refine jG (fun o => [some (.d (.lst (zq s))), some (.d (.tup (zq (wN k)))), some (.d (ilD (zx s (wN k)))), some x, some (.d (.int (zz s k).length)), some (.d (ilD (qG s k j))), some (.d (.tup [.int a1, .int a2, .int a3, .int a4])), some (.d (ilD (zA a1 a2 a3 a4))), o, none]) (KR (zA a1 a2 a3 a4)) ⟨_, rfl⟩ trivial (by rw [List.length_map]; omega) (fun o y Q hy q => ?_) fun o => ?_
      · obtain ⟨p, hp, rfl⟩ := List.mem_map.mp hy
        have hb := br p hp
        walk_at "ra"
        exact ⟨_, yX hb.1 (by rw [bl]; exact hb.2), q _⟩
      rw [show ((qG s k j).map fun i => AV.d (.int i)).map (KR (zA a1 a2 a3 a4)) = (qY (qG s k j) (zA a1 a2 a3 a4)).map fun i => AV.d (.int i) by unfold qY; rw [List.map_map, List.map_map]; rfl, <- nxt]
      refine ⟨_, qB _, rfl, rfl, ⟨_, rfl⟩, ?_, ?_⟩
      · rw [nxt]; unfold qY; rw [List.length_map]; exact lr
      · rw [nxt]
        intro p hp
        unfold qY at hp
        obtain ⟨z, hz, rfl⟩ := List.mem_map.mp hp
        have hb := br z hz
        have hlt : z.toNat < (zA a1 a2 a3 a4).length := by rw [bl]; omega
        rw [List.getD_eq_getElem?_getD, List.getElem?_eq_getElem hlt]
        have := Zt (List.getElem_mem hlt)
        rw [o5] at this
        exact this
  · rintro ρ M' ⟨rfl, x6, x7, rfl, lr, br⟩
    refine ⟨hsq, ?_⟩
    rw [List.length_map, List.length_map, fullL]
    subst hr0
    walk_at "ra"
    refine ⟨jR _, jR _, ?_⟩
    rw [vb, decide_eq_true rfl]
    exact kT Fr.refl q
abbrev jS : Stmt := top 15
theorem kX : zy ["_law_found", "_law_due", "_law_one", "_law_other"] ["_law_found", "_law_due"] (zg jS) := ⟨rfl, rfl, rfl, by decide +kernel, rfl, by decide +kernel, by decide +kernel⟩
def xy (n : Nat) : ASp := fun xs M Q => ∃ (x y : AV) (d : Dat), xs = [x, y] /\ kF x M = some d /\ kF y M = some d /\ qD n d /\ n <= 30 /\ Q (.d (.bl true)) M
def aNo : ASp := fun _ _ _ => False
theorem yF {x y : AV} {M : MH} {l : List Dat} {n : Nat} {sp : ASp} (hsp : ∀ xs M Q, xy n xs M Q -> sp xs M Q) {N : List AV -> ASt -> MH -> Prop} (hl : l.length <= 100000) (hd : ∀ d ∈ l, qD n d) (hn : n <= 30) {u v : Option AV} (hN : N (l.map fun _ => AV.d (.bl true)) [] M) (hN' : ∀ acc ρ ρ' M, N acc ρ M -> N acc ρ' M) :
  yu (Qb 2 (yp (xX 2) (yp (xX 3) Jt))) ko (jO (ZY sp (wL (KU 2) (wL (KU 3) YW)))) (fun M' => qi x M' = qi x M /\ qi y M' = qi y M) N (yq l l) [] [some x, some y, u, v] M := by
 have e : (yq l l).map (fun _ => AV.d (.bl true)) = l.map fun _ => AV.d (.bl true) := by
  rw [List.map_const', List.map_const', jn, Nat.min_self]
 refine jG (fun (o : Option AV × Option AV) => [some x, some y, o.1, o.2]) (fun _ => .d (.bl true)) ⟨(u, v), rfl⟩ ⟨rfl, rfl⟩ (by rw [jn, Nat.min_self]; exact hl) (fun o z Q hz q => ?_) fun o => by rw [e]; exact hN' _ _ _ _ hN
 obtain ⟨i, hi⟩ := List.getElem?_of_mem hz
 obtain ⟨d, d', h1, h2, rfl⟩ := kW hi
 rw [h1] at h2; cases h2
 walk_at "ra"
 exact hsp _ _ _ ⟨_, _, d, rfl, rfl, rfl, hd d (List.mem_of_getElem? h1), hn, q (some (.d d), some (.d d))⟩
theorem yV {l : List Dat} : ∃ bs : List Bool, (l.map fun _ => Dat.bl true) = bs.map Dat.bl /\ (l.map fun _ => AV.d (Dat.bl true)) = bs.map (fun b => AV.d (.bl b)) /\ bs.all id = true := ⟨l.map fun _ => true, by rw [List.map_map]; rfl, by rw [List.map_map]; rfl, by simp⟩
theorem Wl (a : At K mg "_law_alike" jS) : Df P w K mg base "_law_alike" ["_law_found", "_law_due"] 1 (cSp aNo) :=
 vq (k := 0) a kX (fun _ _ _ _ _ _ us hl => match us, hl with | [_, _], _ => rfl) (fun vs H Q E h => by obtain ⟨_, _, _, _, _, _, h, _⟩ := h; exact h.elim) (fun f cdv A outer s H vs Q E hr h => by obtain ⟨_, _, _, _, _, _, h, _⟩ := h; exact h.elim)
theorem yD (a : At K mg "_law_alike" jS) (B : Blt mg) (Ball : mg "all" = none) {kk : Nat} (n : Nat) {sp : ASp} (hsp : ∀ xs M Q, 1 <= n -> xy (n - 1) xs M Q -> sp xs M Q) (D_law_alike : Df P w K mg base "_law_alike" ["_law_found", "_law_due"] kk (cSp sp)) : Df P w K mg base "_law_alike" ["_law_found", "_law_due"] (kk + 1) (cSp (xy n)) := by
 refine dfA (k := kk) a kX (fun _ _ _ _ _ _ us hl => match us, hl with | [_, _], _ => rfl) (fun xs M Q h => ?_) (fun f cdv A outer s H E hr => ?_)
 ·obtain ⟨_, _, _, rfl, _⟩ := h; rfl
 have sc := kX
 have hsl := hsl
 have hs2 : 0 + 1 + 1 <= sizeLine := by omega
 refine ⟨_, (zd (qu (qP (zm xx rfl B.isinstance zn (za (pv 1) (za (zG (za (zH (v := .ty "list") rfl B.list qh rfl) (za (zH (v := .ty "tuple") rfl B.tuple qq rfl) zc))) zc))) (fun _ => rfl)) (zd (qu (PW.pt (xk (jf (qP (zm xx rfl B.isinstance zn (za (pv 0) (za (zG (za (zH (v := .ty "list") rfl B.list qh rfl) (za (zH (v := .ty "tuple") rfl B.tuple qq rfl) zc))) zc))) (fun _ => rfl))) (kZ (qf (kN hr.units) (zm zR rfl B.isinstance zn (za (pv 0) (za (zH (v := .ty "list") rfl B.list qh rfl) zc))) (zm zR rfl B.isinstance zn (za (pv 1) (za (zH (v := .ty "list") rfl B.list qh rfl) zc))) (zM _))))) (zh (zu jU)) zL)
  (zh (zu (j4 (qH (qw hr.units) (zm zI rfl B.len jr (za (pv 0) zc)) (zm zI rfl B.len jr (za (pv 1) zc)) (zM _)) (yo (zm (xr rfl) rfl Ball Qv (za (qL (ts := [2, 3]) rfl rfl (JV rfl B.zip (za (pv 0) (za (pv 1) zc))) (fun _ _ _ _ => (kz (K := K) 2 rfl rfl (zX (zr (i := 2) sc.nd rfl (by first | exact Or.inl rfl | exact Or.inr rfl)) (zX (zr (i := 3) sc.nd rfl (by first | exact Or.inl rfl | exact Or.inr rfl)) jM)))) (fun _ _ _ _ => zP) (fun _ _ _ _ => (zD D_law_alike hr rfl (za (pv 2) (za (pv 3) zc))))) zc))))))) zL)
  (zd (qu (PW.pt (xk (qf YV (pv 1) Vx (zM _)) (kZ (qP (zm zR rfl B.isinstance zn (za (pv 1) (za (zH (v := .ty "str") rfl B.str wl rfl) zc))) (fun _ => rfl))))) (zh (zu (j4 (qH (qw hr.units) (pv 0) (pv 1) (zM _)) (yo (qH (qw hr.units) (zm zR rfl B.isinstance zn (za (pv 0) (za (zH (v := .ty "str") rfl B.str wl rfl) zc))) (zm zR rfl B.isinstance zn (za (pv 1) (za (zH (v := .ty "str") rfl B.str wl rfl) zc))) (zM _)))))) zL)
  (zh (zu (j4 (zm zR rfl B.isinstance zn (za (pv 0) (za (zH (v := .ty "int") rfl B.int vK rfl) zc))) (j4 (qH (qw hr.units) (zm zR rfl B.isinstance zn (za (pv 0) (za (zH (v := .ty "bool") rfl B.bool yy rfl) zc))) (zm zR rfl B.isinstance zn (za (pv 1) (za (zH (v := .ty "bool") rfl B.bool yy rfl) zc))) (zM _)) (yo (qH (qw hr.units) (pv 0) (pv 1) (zM _))))))))), ?_⟩
 refine ex2 (by walk_at "sim") ?_
 rintro xs M Q ⟨x, y, d, rfl, hx, hy, hd, hn, q⟩
 rw [show z0 ["_law_found", "_law_due", "_law_one", "_law_other"] [x, y] = [some x, some y, none, none] from rfl]
 have fin := Xk (M0 := M) Fr.refl (.bl true)
 cases d with
 | non => obtain rfl := zY hx (fun _ z => nomatch z); obtain rfl := zY hy (fun _ z => nomatch z); walk_at "ra"; exact ⟨hs2, _, _, fin, q⟩
 | bl b => obtain rfl := zY hx (fun _ z => nomatch z); obtain rfl := zY hy (fun _ z => nomatch z); walk_at "ra"; exact ⟨hs2, _, _, fin, q⟩
 | int i => obtain rfl := zY hx (fun _ z => nomatch z); obtain rfl := zY hy (fun _ z => nomatch z); walk_at "ra"; exact ⟨hs2, _, _, fin, q⟩
 | str i => obtain rfl := zY hx (fun _ z => nomatch z); obtain rfl := zY hy (fun _ z => nomatch z); walk_at "ra"; exact ⟨hs2, _, _, fin, q⟩
 | tup l =>
  obtain rfl := zY hx (fun _ z => nomatch z)
  obtain rfl := zY hy (fun _ z => nomatch z)
  cases n with
  | zero => exact hd.no_t.elim
  | succ n =>
   obtain ⟨hl, hd'⟩ := hd.tup
   walk_at "ra"
   refine ⟨hs2, hs2, l, l, .inr ⟨rfl, rfl, Nat.le_refl _⟩, yF (n := n) (sp := sp) (fun xs M Q h => hsp xs M Q (by omega) h) hl hd' (by omega) ?_ (fun _ _ _ _ z => z)⟩
   obtain ⟨bs, b1, b2, b3⟩ := yV (l := l)
   refine ⟨l.map fun _ => .bl true, ?_, bs, by rw [List.map_map]; exact b2, ?_⟩
   ·rw [<- zF (l.map fun _ => Dat.bl true), List.map_map]; rfl
   ·rw [b3]; exact ⟨_, _, fin, q⟩
 | lst l =>
  obtain ⟨x1, x2, x3, x4⟩ := yP hx
  obtain ⟨y1, y2, y3, y4⟩ := yP hy
  cases n with
  | zero => exact hd.no_l.elim
  | succ n =>
   obtain ⟨hl, hd'⟩ := hd.lst
   walk_at "ra"
   simp only [x2, x3, x4, y2, y3, y4]
   walk_at "ra"
   refine ⟨hs2, hs2, l, l, .inl ⟨x1, y1⟩, yF (n := n) (sp := sp) (fun xs M Q h => hsp xs M Q (by omega) h) hl hd' (by omega) ?_ (fun _ _ _ _ z => z)⟩
   obtain ⟨bs, b1, b2, b3⟩ := yV (l := l)
   refine ⟨l.map fun _ => .bl true, ?_, bs, by rw [List.map_map]; exact b2, ?_⟩
   ·rw [<- zF (l.map fun _ => Dat.bl true), List.map_map]; rfl
   ·rw [b3]; exact ⟨_, _, fin, q⟩
 | ty t => have := hd.1; rw [dp] at this; omega
 | rng _ _ _ => have := hd.1; rw [dp] at this; omega
 | scr _ _ => have := hd.1; rw [dp] at this; omega
theorem xE (a : At K mg "_law_alike" jS) (B : Blt mg) (Ball : mg "all" = none) : ∀ n, Df P w K mg base "_law_alike" ["_law_found", "_law_due"] (n + 2) (cSp (xy n))
 | 0 => yD a B Ball 0 (sp := aNo) (fun _ _ _ h => absurd h (by omega)) (Wl a)
 | n + 1 => yD a B Ball (n + 1) (sp := xy n) (fun _ _ _ _ h => h) (xE a B Ball n)
abbrev Jw : Stmt := top 20
theorem Qc : zy ["_law_script", "_law_some", "_law_box_here", "_law_sizes", "_law_ways", "_law_due", "_law_told", "_law_first", "_law_other", "_law_both", "_law_more", "_law_place", "_law_way"] ["_law_script"] (zg Jw) := ⟨rfl, rfl, rfl, by decide +kernel, rfl, by decide +kernel, by decide +kernel⟩
def wW (K : PySem.W.Frag) : Sp := fun vs H Q _ => ∃ (a : Addr) (ns : List Int), vs = [.ref a] /\ SqL K H a (ns.map V.int) /\ ns.length <= 63 /\ ∀ H', Q (.bl true) H'
def Wm (K : PySem.W.Frag) : ASp := fun xs M Q => ∃ ns : List Int, xs = [.d (.scr K ns)] /\ ns.length <= 63 /\ Q (.d (.bl true)) M
theorem sp_law (vs : List V) (H : Hp) (Q : VK) (E : XK) (h : wW K vs H Q E) : cSp (Wm K) vs H Q E := by
 obtain ⟨a, ns, rfl, ha, hn, q⟩ := h
 refine ⟨[.d (.scr K ns)], fun _ => none, fun _ => False, fun x _ => x = .d (.bl true), ⟨(fun a o e => nomatch e), (fun a h => h rfl), fun a h => h.elim⟩, .cons (KI (fun _ z => z) ha) .nil, ⟨ns, rfl, hn, rfl⟩, fun x M' v H' O' hx _ _ r => ?_⟩
 subst hx
 rw [ka r]
 exact q H'
abbrev kG : List Dat := [.tup [.int 0, .int 1, .int 2], .tup [.int 0, .int 2, .int 1], .tup [.int 1, .int 0, .int 2], .tup [.int 1, .int 2, .int 0], .tup [.int 2, .int 0, .int 1], .tup [.int 2, .int 1, .int 0]]
theorem yG {i : Nat} {y : AV} (h : (kG.map AV.d)[i]? = some y) : i < 6 /\ y = .d (.tup (zq (wN i))) := by
 match i, h with
 | 0, h => cases h; exact ⟨by decide, rfl⟩
 | 1, h => cases h; exact ⟨by decide, rfl⟩
 | 2, h => cases h; exact ⟨by decide, rfl⟩
 | 3, h => cases h; exact ⟨by decide, rfl⟩
 | 4, h => cases h; exact ⟨by decide, rfl⟩
 | 5, h => cases h; exact ⟨by decide, rfl⟩
 | (n + 6), h => cases h
theorem Qs {i : Int} (h0 : 0 <= i) (h1 : i < 6) : ∃ k, k < 6 /\ atI (kG.map AV.d) i = some (.d (.tup (zq (wN k)))) := by
 obtain ⟨n, rfl⟩ : ∃ n : Nat, i = n := ⟨i.toNat, by omega⟩
 cases e : (kG.map AV.d)[n]? with
 | none =>
  have := List.getElem?_eq_none_iff.mp e
  simp at this; omega
 | some y =>
  obtain ⟨h, rfl⟩ := yG e
  refine ⟨n, h, ?_⟩
  unfold atI
  rw [vN (by omega) (by simp; omega), Int.toNat_natCast]
  exact e
theorem VY (s : Nat -> Nat) {j : Nat} (h : j < 6) : s (wN j 0) * (s (wN j 1) * s (wN j 2)) = s 0 * (s 1 * s 2) := by
 match j, h with
 | 0, _ => rfl
 | 1, _ => show s 0 * (s 2 * s 1) = _; grind
 | 2, _ => show s 1 * (s 0 * s 2) = _; grind
 | 3, _ => show s 1 * (s 2 * s 0) = _; grind
 | 4, _ => show s 2 * (s 0 * s 1) = _; grind
 | 5, _ => show s 2 * (s 1 * s 0) = _; grind
theorem ZM (l : List (Nat × Nat × Nat × Nat)) (h : l.length <= 100) : qD 6 (.lst (l.map qQ)) := (Jm (n := 1) (by rw [List.length_map]; omega) fun d hd => by
 obtain ⟨q, _, rfl⟩ := List.mem_map.mp hd
 exact jK (ns := [(q.1 : Int), (q.2.1 : Int), (q.2.2.1 : Int), (q.2.2.2 : Int)]) (by simp)).mono (by omega)
theorem ZU (s : Nat -> Nat) (k : Nat) : (zz s k).length <= 2 := by
 unfold zz
 split <;> simp
theorem JR (s : Nat -> Nat) : qD 6 (.tup (zq s)) := (jK (ns := [(s 0 : Int), (s 1 : Int), (s 2 : Int)]) (by simp)).mono (by omega)
theorem Y0 (a : At K mg "law" Jw) (B : Blt mg) (D_law_boxes : Df P w K mg base "_law_boxes" ["_law_script", "_law_many"] 19 (cSp (QL K))) (D_law_three : Df P w K mg base "_law_three" ["_law_box_here"] 19 (cSp QG)) (D_law_take : Df P w K mg base "_law_take" ["_law_box_here", "_law_many"] 19 (cSp JY)) (D_law_alike : Df P w K mg base "_law_alike" ["_law_found", "_law_due"] 19 (cSp (xy 6))) (D_law_turns_right : Df P w K mg base "_law_turns_right" ["_law_sizes", "_law_ways", "_law_due", "_law_told"] 19 (cSp aTR))
    (D_deep_order : Df P w K mg base "deep_order" ["sizes", "ways"] 19 (cSp Xq)) (D_deep_sizes : Df P w K mg base "deep_sizes" ["sizes", "ways"] 19 (cSp vG)) (D_deep_after : Df P w K mg base "deep_after" ["one", "other"] 19 (cSp vG)) (D_deep_turns : Df P w K mg base "deep_turns" ["sizes", "ways"] 19 (cSp aDT)) (D_deep_turns_o : Df P w K mg base "deep_turns" ["sizes", "ways"] 19 (cSp XQ)) :
    Df P w K mg base "law" ["_law_script"] 20 (cSp (Wm K)) := by
  refine dfA (k := 19) a Qc (fun _ _ _ _ _ _ us hl => match us, hl with | [_], _ => rfl) (fun xs M Q h => ?_) (fun f cdv A outer s H E hr => ?_)
  · obtain ⟨_, rfl, _⟩ := h; rfl
  have sc := Qc
  have hsl := hsl
  refine' ⟨_, ?q0, ?qr⟩
  (case q0 =>
    refine' zd ?q1 ?q2
    (case q1 =>
      refine' zS (i := 1) ?q3 ?q4 ?q5 ?q6
      (case q3 => exact sc.nd)
      (case q4 => exact rfl)
      (case q5 => exact (by first | exact Or.inl rfl | exact Or.inr rfl))
      (case q6 =>
        refine' qN ?q7
        (case q7 =>
          refine' za ?q8 ?q9
          (case q8 => exact (zG (za zb (za zb (za zb zc)))))
          (case q9 =>
            refine' za ?q10 ?q11
            (case q10 => exact (zG (za zb (za zb (za zb zc)))))
            (case q11 =>
              refine' za ?q12 ?q13
              (case q12 => exact (zG (za zb (za zb (za zb zc)))))
              (case q13 =>
                refine' za ?q14 ?q15
                (case q14 => exact (zG (za zb (za zb (za zb zc)))))
                (case q15 =>
                  refine' za ?q16 ?q17
                  (case q16 => exact (zG (za zb (za zb (za zb zc)))))
                  (case q17 =>
                    refine' za ?q18 ?q19
                    (case q18 => exact (zG (za zb (za zb (za zb zc)))))
                    (case q19 => exact zc)))))))))
    (case q2 => exact (zd (ym PassesOwn.never rfl (jq (zD D_law_boxes hr rfl (za (pv 0) (za zb zc)))) (zr (i := 2) sc.nd rfl (by first | exact Or.inl rfl | exact Or.inr rfl)) (zd (zS (i := 3) sc.nd rfl (by first | exact Or.inl rfl | exact Or.inr rfl) (zD D_law_three hr rfl (za (pv 2) zc))) (zh (ym PassesOwn.never rfl (jq (pv 1)) (zr (i := 4) sc.nd rfl (by first | exact Or.inl rfl | exact Or.inr rfl)) (zd (zS (i := 5) sc.nd rfl (by first | exact Or.inl rfl | exact Or.inr rfl) (zD D_deep_order hr rfl (za (pv 3) (za (pv 4) zc)))) (zd (zS (i := 6) sc.nd rfl (by first | exact Or.inl rfl | exact Or.inr rfl) (zD D_deep_turns_o hr rfl (za (zE qe rfl B.list qh (za (pv 3) zc)) (za (zE qe rfl B.list qh (za (pv 4) zc)) zc)))) (zd (qu (jf (qP (zD D_law_turns_right hr rfl (za (pv 3) (za (pv 4) (za (pv 5) (za (pv 6) zc))))) (fun _ => rfl))) (zh (zu jU)) zL) (zd (zS (i := 7) sc.nd rfl (by first | exact Or.inl rfl | exact Or.inr rfl) (zE qe rfl B.list qh (za (pv 6) zc))) (zd (KW (Wd PySem.F.plainAttrs_list PySem.F.slot_list_append PySem.F.type_list_append Zm (pv 6) (za (zG (za zb (za zb (za zb (za zb zc))))) zc))) (zd (qu (jf (qP (zD D_law_alike hr rfl (za (zD D_deep_turns hr rfl (za (zE qp rfl B.tuple qq (za (pv 3) zc)) (za (pv 4) zc))) (za (pv 7) zc))) (fun _ => rfl))) (zh (zu jU)) zL) (zd (zS (i := 8) sc.nd rfl (by first | exact Or.inl rfl | exact Or.inr rfl) (zK qE (pv 1) (zD D_law_take hr rfl (za (pv 2) (za zb zc))) (fun _ _ => rfl))) (zd (zS (i := 9) sc.nd rfl (by first | exact Or.inl rfl | exact Or.inr rfl) (zD D_deep_after hr rfl (za (pv 4) (za (zE qe rfl B.list qh (za (pv 8) zc)) zc)))) (zd (zS (i := 10) sc.nd rfl (by first | exact Or.inl rfl | exact Or.inr rfl) (zD D_deep_order hr rfl (za (zD D_deep_sizes hr rfl (za (pv 3) (za (pv 4) zc))) (za (pv 8) zc)))) (zd (qu (PW.pt (xk (jf (qP (zm zR rfl B.isinstance zn (za (pv 9) (za (zH (v := .ty "tuple") rfl B.tuple qq rfl) zc))) (fun _ => rfl))) (kZ (qf (kN hr.units) (zD D_deep_order hr rfl (za (pv 3) (za (pv 9) zc))) (qL (ts := [11]) rfl rfl (jq (pv 5)) (fun _ _ _ _ => (zr (i := 11) sc.nd rfl (by first | exact Or.inl rfl | exact Or.inr rfl))) (fun _ _ _ _ => zP) (fun _ _ _ _ => (zK (xT (K := K) rfl) (pv 10) (pv 11) (fun _ _ => rfl)))) (zM _))))) (zh (zu jU)) zL) (zh (qu (jf (qP (zD D_law_alike hr rfl (za (zD D_deep_after hr rfl (za (zE qe rfl B.list qh (za (pv 4) zc)) (za (pv 8) zc))) (za (zE qp rfl B.tuple qq (za (qL (ts := [12]) rfl rfl (jq (pv 8)) (fun _ _ _ _ => (zr (i := 12) sc.nd rfl (by first | exact Or.inl rfl | exact Or.inr rfl))) (fun _ _ _ _ => zP) (fun _ _ _ _ => (zK (xT (K := K) rfl) (pv 4) (pv 12) (fun _ _ => rfl)))) zc)) zc))) (fun _ => rfl))) (zh (zu jU)) zL)))))))))))))))) (zh (zu jU)))))
  refine ex2 (by walk_at "sim") ?_
  rintro xs M Q ⟨ns, rfl, hn, q⟩
  rw [show z0 ["_law_script", "_law_some", "_law_box_here", "_law_sizes", "_law_ways", "_law_due", "_law_told", "_law_first", "_law_other", "_law_both", "_law_more", "_law_place", "_law_way"] [.d (.scr K ns)] = [some (.d (.scr K ns)), none, none, none, none, none, none, none, none, none, none, none, none] from rfl]
  refine zj fun r hr0 => ?_
  walk_at "ra"
  repeat (refine And.intro (by omega) ?_)
  subst hr0
  refine zj fun r hr0 => ?_
  walk_at "ra"
  refine ⟨6, ns, rfl, by omega, by omega, hn, fun p M1 bs f1 hp hp1 nd hb lb => ?_⟩
  refine ⟨_, qT hp1, ?_⟩
  refine ⟨fun i ρ M' => (∃ x2 x3 x4 x5 x6 x7 x8 x9 x10 x11 x12, ρ = [some (.d (.scr K ns)), some (.d (.lst kG)), x2, x3, x4, x5, x6, x7, x8, x9, x10, x11, x12]) /\ Fr M M' /\ M' p = some (.lst (bs.map AV.ref)) /\ ∀ (j : Nat) b, i <= j -> bs[j]? = some b -> BxM M' b 0 /\ b ≠ p /\ M b = none, ⟨⟨_, _, _, _, _, _, _, _, _, _, _, rfl⟩, f1, hp1, fun j b _ e => hb b (List.mem_of_getElem? e)⟩, ?_, ?_⟩
  · rintro i y ρ M2 hy ⟨⟨x2, x3, x4, x5, x6, x7, x8, x9, x10, x11, x12, rfl⟩, f2, hp2, hb2⟩
    rw [List.getElem?_map] at hy
    cases e : bs[i]? with
    | none => rw [e] at hy; cases hy
    | some b =>
      rw [e] at hy
      cases hy
      obtain ⟨bx, hbp, b0⟩ := hb2 i b (Nat.le_refl _) e
      refine ⟨qT hp2, ?_⟩
      have sb := SB.refl bx
      have hlast : ∀ M', SB M2 M' b 1000 -> Fr M M' /\ M' p = some (.lst (bs.map AV.ref)) /\ ∀ (j : Nat) b', i + 1 <= j -> bs[j]? = some b' -> BxM M' b' 0 /\ b' ≠ p /\ M b' = none := fun M' s' => by
        refine ⟨SB.frm f2 b0 s', by rw [s'.fr p (qI hp2) (Ne.symm hbp)]; exact hp2, fun j b' hj e' => ?_⟩
        obtain ⟨z1, z2, z3⟩ := hb2 j b' (by omega) e'
        have hbb : b' ≠ b := fun z => by
          obtain ⟨i1, e1⟩ := List.getElem?_eq_some_iff.mp e
          obtain ⟨i2, e2⟩ := List.getElem?_eq_some_iff.mp e'
          have := (List.getElem_inj (h₀ := i1) (h₁ := i2) nd).mp (e1.trans (z.symm.trans e2.symm))
          omega
        refine ⟨?_, z2, z3⟩
        obtain ⟨a1, a2, a3, a4, a5⟩ := z1
        exact ⟨a1, a2, a3, by rw [s'.fr b' (by rw [a4]; exact fun z => nomatch z) hbb]; exact a4, a5⟩
      show vS _ _ _ _ _ _
      refine zj fun r2 hr2 => ?_
      walk_at "ra"
      refine ⟨b, 0, rfl, sb.bx, by omega, fun sz M3 s3 z1 z2 z3 => ?_⟩
      have sb := sb.go s3
      subst hr2
      walk_at "ra"
      refine ⟨fun j ρ M' => (∃ x4 x5 x6 x7 x8 x9 x10 x11 x12, ρ = [some (.d (.scr K ns)), some (.d (.lst kG)), some (.ref b), some (.d (.lst (zq sz))), x4, x5, x6, x7, x8, x9, x10, x11, x12]) /\ SB M2 M' b (6 + j), ⟨⟨_, _, _, _, _, _, _, _, _, rfl⟩, sb.mono (by omega)⟩, ?_, ?_⟩
      · rintro j y ρ M4 hy ⟨⟨x4, x5, x6, x7, x8, x9, x10, x11, x12, rfl⟩, sb⟩
        obtain ⟨hj, rfl⟩ := yG hy
        have wj := kU j
        refine ⟨trivial, ?_⟩
        show vS _ _ _ _ _ _
        refine zj fun r2 hr2 => ?_
        walk_at "ra"
        refine ⟨_, _, sz, wN j, rfl, rfl, rfl, wj, z1, by omega, ?_⟩
        subst hr2
        refine zj fun r2 hr2 => ?_
        walk_at "ra"
        refine ⟨_, _, sz, j, rfl, rfl, rfl, hj, z1, fun p' hp' => ?_⟩
        obtain ⟨p0, hpb⟩ := sb.new hp'
        have sb := sb.put p0 hpb (.lst (((zz sz j).map qQ).map .d))
        have h5 := zi (M := M4) (a := p') (o := .lst (((zz sz j).map qQ).map .d))
        generalize mup M4 p' (.lst (((zz sz j).map qQ).map .d)) = M5 at *
        have tl := ZU sz j
        subst hr2
        refine zj fun r2 hr2 => ?_
        walk_at "ra"
        refine ⟨.ref p', sz, j, rfl, kM h5, (by unfold tyA; dsimp only; rw [h5]), hj, z1, z2, z3, _, rfl, ?_⟩
        rw [if_neg (by decide)]
        subst hr2
        refine zj fun r2 hr2 => ?_
        walk_at "ra"
        refine ⟨_, qT h5, _, zF _, ?_⟩
        subst hr2
        refine zj fun r2 hr2 => ?_
        walk_at "ra"
        refine ⟨⟨_, kM h5⟩, by omega, _, h5, by rw [List.length_map, List.length_map]; omega, ?_⟩
        have sb := sb.put p0 hpb (.lst (((zz sz j).map qQ).map AV.d ++ [AV.d (.tup [.int 1, .int 1, .int 1, .int 1])]))
        generalize mup M5 p' _ = M6 at *
        clear h5
        subst hr2
        refine zj fun r2 hr2 => ?_
        walk_at "ra"
        refine ⟨_, _, sz, j, rfl, rfl, rfl, hj, z1, _, _, .lst ((zz sz j).map qQ), rfl, rfl, rfl, ZM _ (by omega), by omega, _, rfl, ?_⟩
        rw [if_neg (by decide)]
        subst hr2
        refine zj fun r2 hr2 => ?_
        walk_at "ra"
        refine ⟨b, 6, _, rfl, sb.bx, by omega, by omega, by omega, fun c1 M7 s7 c10 c11 => ⟨_, rfl, ?_⟩⟩
        have sb := sb.go s7
        obtain ⟨k, hk, e1⟩ := Qs c10 c11
        have wk := kU k
        refine ⟨_, e1, ?_⟩
        subst hr2
        refine zj fun r2 hr2 => ?_
        walk_at "ra"
        refine ⟨_, _, wN j, wN k, rfl, rfl, rfl, wk, ?_⟩
        subst hr2
        refine zj fun r2 hr2 => ?_
        walk_at "ra"
        have pn := VY sz hj
        refine ⟨_, _, sz, wN j, rfl, rfl, rfl, wj, _, _, (fun i => sz (wN j i)), wN k, rfl, rfl, rfl, wk, (fun i => z1 _), (by show sz (wN j 0) * (sz (wN j 1) * sz (wN j 2)) <= 1000; omega), ?_⟩
        subst hr2
        refine zj fun r2 hr2 => ?_
        walk_at "ra"
        refine ⟨_, _, sz, (fun i => wN j (wN k i)), rfl, rfl, rfl, ⟨wj.at wk.1, wj.at wk.2.1, wj.at wk.2.2⟩, z1, by omega, ?_⟩
        walk_at "ra"
        have ml := j0 (fun i => sz (wN j i)) (wN k)
        refine jG (fun o => [some (.d (.scr K ns)), some (.d (.lst kG)), some (.ref b), some (.d (.lst (zq sz))), some (.d (.tup (zq (wN j)))), some (.d (ilD (zx sz (wN j)))), some (.ref p'), some (.d (.lst ((zz sz j).map qQ))), some (.d (.tup (zq (wN k)))), some (.d (.tup (zq fun i => wN j (wN k i)))), some (.d (ilD (zx (fun i => sz (wN j i)) (wN k)))), o, x12]) (KR (zx (fun i => sz (wN j i)) (wN k))) ⟨_, rfl⟩ trivial (by rw [List.length_map, j0]; omega) (fun o y Q hy q => ?_) fun o => ?_
        · obtain ⟨pl, hpl, rfl⟩ := List.mem_map.mp hy
          have hb := JC wj hpl
          walk_at "ra"
          exact ⟨_, yX hb.1 (by rw [ml]; exact hb.2), q _⟩
        rw [show ((zx sz (wN j)).map fun i => AV.d (.int i)).map (KR (zx (fun i => sz (wN j i)) (wN k))) = (qY (zx sz (wN j)) (zx (fun i => sz (wN j i)) (wN k))).map fun i => AV.d (.int i) by unfold qY; rw [List.map_map, List.map_map]; rfl, xJ wj wk]
        refine ⟨_, qB _, jR _, jR _, ?_⟩
        rw [vb, decide_eq_true rfl, if_neg (by decide)]
        subst hr2
        walk_at "ra"
        refine ⟨_, _, wN j, wN k, rfl, rfl, rfl, wk, ?_⟩
        refine jG (fun o => [some (.d (.scr K ns)), some (.d (.lst kG)), some (.ref b), some (.d (.lst (zq sz))), some (.d (.tup (zq (wN j)))), some (.d (ilD (zx sz (wN j)))), some (.ref p'), some (.d (.lst ((zz sz j).map qQ))), some (.d (.tup (zq (wN k)))), some (.d (.tup (zq fun i => wN j (wN k i)))), some (.d (ilD (zx (fun i => sz (wN j i)) (wN k)))), x11, o]) (byA (wN j)) ⟨_, rfl⟩ trivial (by simp [zq]) (fun o z Q hz q => ?_) fun o => ?_
        · obtain ⟨m, hm, rfl⟩ : ∃ m : Nat, m < 3 /\ z = .d (.int m) := by
            unfold zq at hz
            simp only [List.map_cons, List.map_nil, List.mem_cons, List.not_mem_nil, or_false] at hz
            rcases hz with rfl | rfl | rfl
            · exact ⟨_, wk.1, rfl⟩
            · exact ⟨_, wk.2.1, rfl⟩
            · exact ⟨_, wk.2.2, rfl⟩
          obtain ⟨l, hl, hat⟩ := qW (wN j) hm M7 (x := .tup (zq (wN j))) rfl
          cases hl
          walk_at "ra"
          exact ⟨_, hat, q _⟩
        refine ⟨zq fun i => wN j (wN k i), rfl, _, _, .tup (zq fun i => wN j (wN k i)), rfl, rfl, rfl, JR _, by omega, _, rfl, ?_⟩
        rw [if_neg (by decide)]
        exact ⟨⟨_, rfl⟩, sb⟩
      rintro ρ M' ⟨⟨x4, x5, x6, x7, x8, x9, x10, x11, x12, rfl⟩, sb⟩
      refine ⟨trivial, ⟨_, _, _, _, _, _, _, _, _, _, _, rfl⟩, ?_⟩
      exact hlast M' (sb.mono (by simp))
  · rintro ρ M2 ⟨⟨x2, x3, x4, x5, x6, x7, x8, x9, x10, x11, x12, rfl⟩, f2, hp2, hb2⟩
    refine ⟨qT hp2, ?_⟩
    subst hr0
    walk_at "ra"
    exact kT f2 q
end
theorem all_mk {l : PySem.W.OpenLaw} {w : World} {K : PySem.W.Frag} {h : Heap} {mg : Str -> Option Value} {fa : Addr} (X : K.In h) (G : h.Ns mainGlobals mg) (hfa : mg "law" = some (.ref fa)) (a : At K mg "law" Jw) (B : Blt mg) (Ball : mg "all" = none)
  (a__law_take : At K mg "_law_take" wb) (a__law_box : At K mg "_law_box" Qw) (a__law_folded : At K mg "_law_folded" kO) (a__law_boxes : At K mg "_law_boxes" yt) (a__law_three : At K mg "_law_three" yg) (a__law_alike : At K mg "_law_alike" jS) (a__law_is_size : At K mg "_law_is_size" vT) (a__law_turns_right : At K mg "_law_turns_right" YD) (a_turn_place : At K mg "turn_place" yA) (a_turn_order : At K mg "turn_order" vO) (a_block_order : At K mg "block_order" ye) (a_by_ways : At K mg "by_ways" Jr) (a_deep_place : At K mg "deep_place" JA) (a_deep_sizes : At K mg "deep_sizes" kS) (a_deep_after : At K mg "deep_after" kP) (a_deep_order : At K mg "deep_order" v5) (a_deep_turns : At K mg "deep_turns" Qy)
  : ∃ fd : FuncData, (∀ (s : Shared) (v : Value), BindsTo s fd ⟨[v], []⟩ [("_law_script", v)]) /\ ∀ base : Heap, K.In base -> base.Ns mainGlobals mg -> jC l.prog w K mg base CX0 20 fa fd ["_law_script"] (wW K) := by
 obtain ⟨f, fd, F, m⟩ := id a
 obtain rfl : fa = f := by rw [hfa] at m; cases m; rfl
 obtain ⟨oc, od, kV, doc, pm, an, cdv, ct, osl, e, lk, hcd⟩ := F.ex
 refine ⟨fd, fun s v => ?_, fun base _ _ => ?_⟩
 ·subst e; exact .of_eq rfl
 ·have T := K6 (P := l.prog) (w := w) (base := base) a__law_take B
  have t1 := T.imp' KS
  have tu := J2 (P := l.prog) (w := w) (base := base) a_turn_order B (QM a_turn_place B)
  have by_ := Y5 (P := l.prog) (w := w) (base := base) a_by_ways B
  have de := Xe (P := l.prog) (w := w) (base := base) a_deep_order B by_ (YR a_deep_place B)
  have bl := Qt (P := l.prog) (w := w) (base := base) a_block_order B (tu.mono (by decide))
  have bx := Qn (P := l.prog) (w := w) (base := base) a__law_boxes B ((ZC a__law_folded B).imp' ZW) ((YY a__law_box B).imp' XD)
  have dt := X9 (P := l.prog) (w := w) (base := base) a_deep_turns B
  have tr := Wp (P := l.prog) (w := w) (base := base) a__law_turns_right B Ball ((K2 a__law_is_size B).mono (by decide)) (bl.mono (by decide))
  have L := Y0 (P := l.prog) (w := w) (base := base) a B (bx.mono (by decide)) ((Q5 a__law_three B t1).mono (by decide)) (t1.mono (by decide)) ((xE a__law_alike B Ball 6).mono (by decide)) (tr.mono (by decide)) (de.mono (by decide)) ((Zo a_deep_sizes B by_).mono (by decide)) ((ZX a_deep_after B by_).mono (by decide)) ((dt.imp' VT).mono (by decide)) (dt.mono (by decide))
  exact (L.imp' (sp_law (K := K))).fn m lk
theorem walk {l : PySem.W.OpenLaw} {q : Program} {loose : List Str} {XP : (Str -> Option Value) -> Heap -> Prop} {YP : World -> Heap -> Prop} {d : DefRec} {K : Params -> PySem.W.Frag} (hn : l.most = some 63) (hdf : d.params.defaults = [])
  (hY : ∀ (w : World) (h : Heap), YP w h -> (K w.params).In h)
  (F : ∀ (w : World) (mg : Str -> Option Value) (fa : Addr) (h : Heap), (K w.params).In h -> h.Ns mainGlobals mg -> mg d.name = some (.ref fa) ->
   ∃ fd : FuncData, (∀ (s : Shared) (u : Value), BindsTo s fd ⟨[u], []⟩ [("_law_script", u)]) /\ ∀ base : Heap, (K w.params).In base -> base.Ns mainGlobals mg -> jC l.prog w (K w.params) mg base CX0 20 fa fd ["_law_script"] (wW (K w.params))) :
  PySem.W.WalkO q loose XP YP l.row.toRowW d [] (fun f vs => PySem.call f vs) :=
 L2.walk_of (n := 63) (k := 20) (x := "_law_script") (CX := fun _ => CX0) (sp := fun w => wW (K w.params)) hn (by decide) hdf ⟨rfl, rfl, by decide, by decide⟩ hY F (fun _ _ a ns hl _ hS => ⟨a, ns, rfl, hS, hl, fun _ => rfl⟩) fun _ _ _ _ _ z => z
end Ot
open PySem PySem.W PyProof.Rows
set_option maxRecDepth 100000 in
set_option maxHeartbeats 0 in
theorem PySem.Challenge.cw_ownturn_k38_ways_put_together_holds : PySem.Challenge.rw_ownturn_k38_ways_put_together.Holds := by
 w_on; o_law; k_head; (case hw => w_witness2)
 k_fill
 refine Ot.walk (l := PySem.Challenge.rw_ownturn_k38_ways_put_together) rfl rfl (fun w h Y => PySem.W.kIn_of Y) ?F
 case F =>
  intro w mg fa h KX G hmg
  refine' Ot.all_mk KX G hmg (L2.at_mk KX G ?a0 ?l0 ?c0 ?k0) (L2.blt_mk KX G ?z1 ?z2 ?z3 ?z4 ?z5 ?z6 ?z7 ?z8 ?z9 ?z10 ?z11 ?z12 ?z13 ?z14 ?z15 ?z16) (PySem.W.mg_none_of KX G ?zall) (L2.at_mk KX G ?a1 ?l1 ?c1 ?k1) (L2.at_mk KX G ?a2 ?l2 ?c2 ?k2) (L2.at_mk KX G ?a3 ?l3 ?c3 ?k3) (L2.at_mk KX G ?a4 ?l4 ?c4 ?k4) (L2.at_mk KX G ?a5 ?l5 ?c5 ?k5) (L2.at_mk KX G ?a6 ?l6 ?c6 ?k6) (L2.at_mk KX G ?a7 ?l7 ?c7 ?k7) (L2.at_mk KX G ?a8 ?l8 ?c8 ?k8) (L2.at_mk KX G ?a9 ?l9 ?c9 ?k9) (L2.at_mk KX G ?a10 ?l10 ?c10 ?k10) (L2.at_mk KX G ?a11 ?l11 ?c11 ?k11) (L2.at_mk KX G ?a12 ?l12 ?c12 ?k12) (L2.at_mk KX G ?a13 ?l13 ?c13 ?k13) (L2.at_mk KX G ?a14 ?l14 ?c14 ?k14) (L2.at_mk KX G ?a15 ?l15 ?c15 ?k15) (L2.at_mk KX G ?a16 ?l16 ?c16 ?k16) (L2.at_mk KX G ?a17 ?l17 ?c17 ?k17)
  (case a0 => k_is); (case l0 => k_is); (case c0 => k_is); (case k0 => k_is)
  (case a1 => k_is); (case l1 => k_is); (case c1 => k_is); (case k1 => k_is)
  (case a2 => k_is); (case l2 => k_is); (case c2 => k_is); (case k2 => k_is)
  (case a3 => k_is); (case l3 => k_is); (case c3 => k_is); (case k3 => k_is)
  (case a4 => k_is); (case l4 => k_is); (case c4 => k_is); (case k4 => k_is)
  (case a5 => k_is); (case l5 => k_is); (case c5 => k_is); (case k5 => k_is)
  (case a6 => k_is); (case l6 => k_is); (case c6 => k_is); (case k6 => k_is)
  (case a7 => k_is); (case l7 => k_is); (case c7 => k_is); (case k7 => k_is)
  (case a8 => k_is); (case l8 => k_is); (case c8 => k_is); (case k8 => k_is)
  (case a9 => k_is); (case l9 => k_is); (case c9 => k_is); (case k9 => k_is)
  (case a10 => k_is); (case l10 => k_is); (case c10 => k_is); (case k10 => k_is)
  (case a11 => k_is); (case l11 => k_is); (case c11 => k_is); (case k11 => k_is)
  (case a12 => k_is); (case l12 => k_is); (case c12 => k_is); (case k12 => k_is)
  (case a13 => k_is); (case l13 => k_is); (case c13 => k_is); (case k13 => k_is)
  (case a14 => k_is); (case l14 => k_is); (case c14 => k_is); (case k14 => k_is)
  (case a15 => k_is); (case l15 => k_is); (case c15 => k_is); (case k15 => k_is)
  (case a16 => k_is); (case l16 => k_is); (case c16 => k_is); (case k16 => k_is)
  (case a17 => k_is); (case l17 => k_is); (case c17 => k_is); (case k17 => k_is)
  (case zall => k_is)
  (case z1 => k_is)
  (case z2 => k_is)
  (case z3 => k_is)
  (case z4 => k_is)
  (case z5 => k_is)
  (case z6 => k_is)
  (case z7 => k_is)
  (case z8 => k_is)
  (case z9 => k_is)
  (case z10 => k_is)
  (case z11 => k_is)
  (case z12 => k_is)
  (case z13 => k_is)
  (case z14 => k_is)
  (case z15 => k_is)
  (case z16 => k_is)
