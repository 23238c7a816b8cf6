import PyProof.Rows.All
import Wide.All
import OpenK.AllK
import Wide.FinOn
import Lean
import PyProof.EqAt
import PyProof.EqKinds
import PyProof.TupleCall
import PySem.Challenge.RW_ownturn_k53_plans_joined_and_shifted
set_option Elab.async false
set_option linter.all false
set_option maxRecDepth 100000
namespace L2
open PySem PySem.Spec PyProof.Rows
abbrev Key := Sum Int Str
def KY : Key -> Value -> Bool
 | .inl k, v => Value.isInt k v
 | .inr x, v => Value.isStrOf x v
def V0 (w : World) : Key -> Int
 | .inl k => hashInt k
 | .inr x => hashStr w x
theorem zI : ∀ {k : Key} {v : Value}, KY k v = true -> (∃ i t, k = Sum.inl i /\ v = Value.int i t) \/ (∃ x t, k = Sum.inr x /\ v = Value.str x t)
 | .inl i, v, h => by
  obtain ⟨t, e⟩ := Value.isInt_shape (k := i) (v := v) h
  exact .inl ⟨i, t, rfl, e⟩
 | .inr x, v, h => by
  obtain ⟨t, e⟩ := Value.isStrOf_shape (x := x) (v := v) h
  exact .inr ⟨x, t, rfl, e⟩
theorem X6 (a b : Int) : decide ((Sum.inl a : Key) = Sum.inl b) = (a == b) := by
 by_cases e : a = b
 ·subst e; simp
 ·have h : ¬ (Sum.inl a : Key) = Sum.inl b := fun q => e (Sum.inl.inj q)
  rw [decide_eq_false h]
  exact (beq_eq_false_iff_ne.mpr e).symm
theorem YU (a b : Str) : decide ((Sum.inr a : Key) = Sum.inr b) = decide (a = b) := by
 by_cases e : a = b
 ·subst e; simp
 ·have h : ¬ (Sum.inr a : Key) = Sum.inr b := fun q => e (Sum.inr.inj q)
  rw [decide_eq_false h, decide_eq_false e]
theorem Xx (a : Int) (b : Str) : decide ((Sum.inl a : Key) = Sum.inr b) = false := decide_eq_false (fun q => nomatch q)
theorem Xj (a : Str) (b : Int) : decide ((Sum.inr a : Key) = Sum.inl b) = false := decide_eq_false (fun q => nomatch q)
def ki (prog : Program) (w : World) : PySem.KeyKind prog w Key where
 is := KY
 hash := V0 w
 inj := fun v a b ha hb => by
  rcases zI ha with ⟨i, t, rfl, rfl⟩ | ⟨x, t, rfl, rfl⟩
  ·rcases zI hb with ⟨j, u, rfl, e⟩ | ⟨y, u, rfl, e⟩
   ·injection e with e1 _; rw [e1]
   ·exact nomatch e
  ·rcases zI hb with ⟨j, u, rfl, e⟩ | ⟨y, u, rfl, e⟩
   ·exact nomatch e
   ·injection e with e1 _; rw [e1]
 byValue := fun k v h => by
  rcases zI h with ⟨i, t, rfl, rfl⟩ | ⟨x, t, rfl, rfl⟩ <;> rfl
 pyHash := fun hv h => by
  rcases zI hv with ⟨i, t, rfl, rfl⟩ | ⟨x, t, rfl, rfl⟩
  ·exact wpAny_pyHash_int h
  ·exact wpAny_pyHash_str h
 eqBool := fun hu hv h => by
  rcases zI hu with ⟨i, t, rfl, rfl⟩ | ⟨x, t, rfl, rfl⟩
  ·rcases zI hv with ⟨j, u, rfl, rfl⟩ | ⟨y, u, rfl, rfl⟩
   ·rw [X6] at h; exact wpAny_eqBool_int h
   ·rw [Xx] at h; exact SeqAt.EqAt.int_str i t y u _ _ _ _ h
  ·rcases zI hv with ⟨j, u, rfl, rfl⟩ | ⟨y, u, rfl, rfl⟩
   ·rw [Xj] at h; exact SeqAt.EqAt.str_int x t j u _ _ _ _ h
   ·rw [YU] at h; exact wpAny_eqBool_str h
 «strs» := fun k x t v h => by
  rcases zI h with ⟨i, u, rfl, e⟩ | ⟨y, u, rfl, e⟩
  ·exact nomatch e
  ·injection e with e1 _
   subst e1
   cases v <;> rfl
end L2
namespace L2
open PySem PySem.Spec PyProof.Rows
inductive V where
 | non | bl (b : Bool) | int (i : Int) | str (x : Str) | byt (b : Array UInt8) | flt (b : UInt64) | ref (a : Addr) | ty (n : String)
 deriving DecidableEq
def zt : V -> Value -> Prop
 | .non, u => u = Value.none
 | .bl b, u => u = Value.bool b
 | .int i, u => ∃ t, u = Value.int i t
 | .str x, u => ∃ t, u = Value.str x t
 | .byt b, u => ∃ t, u = Value.bytes b t
 | .flt b, u => ∃ t, u = Value.float b t
 | .ref a, u => u = Value.ref a
 | .ty n, u => u = Value.type n
abbrev zp : List V -> List Value -> Prop := Paired zt
theorem zp.length {xs : List V} {us : List Value} (r : zp xs us) : xs.length = us.length := Paired.length r
theorem zp.get : ∀ {xs : List V} {us : List Value} {i : Nat} {x : V}, zp xs us -> xs[i]? = some x -> ∃ u, us[i]? = some u /\ zt x u
 | _, _, _, _, .nil, e => by simp at e
 | _, _, 0, _, .cons r _, e => by simp at e; subst e; exact ⟨_, rfl, r⟩
 | _, _, i + 1, x, .cons _ t, e => by
  obtain ⟨u, h1, h2⟩ := zp.get (i := i) (x := x) t (by simpa using e)
  exact ⟨u, by simpa using h1, h2⟩
theorem zp.set {x : V} {u : Value} (r : zt x u) : ∀ {xs : List V} {us : List Value} (i : Nat), zp xs us -> zp (xs.set i x) (us.set i u)
 | _, _, _, .nil => .nil
 | _, _, 0, .cons _ t => .cons r t
 | _, _, i + 1, .cons q t => .cons q (zp.set r i t)
theorem zp.append : ∀ {xs ys : List V} {us ws : List Value}, zp xs us -> zp ys ws -> zp (xs ++ ys) (us ++ ws)
 | _, _, _, _, .nil, s => s
 | _, _, _, _, .cons r t, s => .cons r (zp.append t s)
theorem zp.take : ∀ {xs : List V} {us : List Value} (n : Nat), zp xs us -> zp (xs.take n) (us.take n)
 | _, _, 0, _ => .nil
 | _, _, _ + 1, .nil => .nil
 | _, _, n + 1, .cons r t => .cons r (zp.take n t)
theorem zp.drop : ∀ {xs : List V} {us : List Value} (n : Nat), zp xs us -> zp (xs.drop n) (us.drop n)
 | _, _, 0, r => r
 | _, _, _ + 1, .nil => .nil
 | _, _, n + 1, .cons _ t => zp.drop n t
def YJ : Option V -> Option Value -> Prop
 | some v, some u => zt v u
 | none, none => True
 | _, _ => False
def KV {κ : Type} : List (κ × V) -> List (κ × Value) -> Prop := Paired fun (p : κ × V) (q : κ × Value) => p.1 = q.1 /\ zt p.2 q.2
def kV : Key -> V
 | .inl i => .int i
 | .inr x => .str x
inductive HO where
  | lst (xs : List V)
  | tup (xs : List V)
  | dK (kvs : List (Key × V)) | dT (kvs : List (List Key × V))
  | set (S : Int -> Bool) (n : Nat)
  | ins (C dx : Addr) (fs : List (Str × V))
  | own (x : Addr)
  | xd (fs : List (Str × V))
  | met (f x : Addr)
  | rng (lo hi : Int)
  | frz (o : Obj) (u : HO)
  | tbl (ps : Array Value)
  | ext (φ : Heap -> Prop)
abbrev Hp := Addr -> Option HO
def upd (H : Hp) (a : Addr) (o : HO) : Hp := fun b => if b = a then some o else H b
theorem zd {H : Hp} {a : Addr} {o : HO} : upd H a o a = some o := by unfold upd; rw [if_pos rfl]
theorem zh {H : Hp} {a b : Addr} {o : HO} (h : b ≠ a) : upd H a o b = H b := by unfold upd; rw [if_neg h]
theorem wu {H : Hp} {a b : Addr} {o u : HO} (h : H a = some o) (h' : H b = some u) (d : o ≠ u) : a ≠ b := by
 intro e; subst e; rw [h] at h'; exact d (Option.some.inj h')
theorem zi {H : Hp} {a b : Addr} {o : HO} (h : H a = some o) (h' : H b = none) : a ≠ b := by
 intro e; subst e; rw [h] at h'; cases h'
section
variable (P : Program) (w : World)
def zG (H : Hp) (h : Heap) (a : Addr) : HO -> Prop
  | .lst xs => xs.length <= sizeLine /\ ∃ (its : List Value) (n : Nat), zp xs its /\ h.get? a = some { cls := .type "list", data := .seq its.toArray n }
  | .tup xs => xs.length <= sizeLine /\ ∃ its : List Value, zp xs its /\ IsTup h a its.toArray
  | .dK kvs => kvs.length <= sizeLine /\ (a == sysModules) = false /\ ∃ vs, KV kvs vs /\ h.DictOf (ki P w) a vs
  | .dT kvs => kvs.length <= sizeLine /\ (a == sysModules) = false /\ ∃ xs : List (List Key × Addr × Value),
      Paired (fun (p : List Key × V) (q : List Key × Addr × Value) => p.1 = q.1 /\ H q.2.1 = some (.tup (p.1.map kV)) /\ zt p.2 q.2.2) kvs xs /\
      ∃ o es ep, h.get? a = some o /\ o.ExactDict /\ o.data = .dict es ep /\ es.toList = xs.map (entryOfKey (tupleKind (ki P w))) /\ (xs.map (·.1)).Nodup
  | .set S n => h.SetOf (intKind P w) a S n
  | .ins C dx fs => H dx = some (.own a) /\ fs.length <= 1000 /\ dx ≠ a /\ h.get? a = some (PySem.W.instObj C dx) /\
      ∃ mA, h.Ns1 dx mA /\ (∀ f, YJ (fs.lookup f) (mA f)) /\ PySem.Within mA (fs.map (·.1))
  | .own _ => ∃ o, h.get? a = some o
  | .xd fs => ∃ mA, h.Ns1 a mA /\ ∀ f, YJ (fs.lookup f) (mA f)
  | .rng lo hi => ∃ t u v, h.get? a = some { cls := .type "range", data := .fields #[.int lo t, .int hi u, .int 1 v] }
  | .frz o u => h.get? a = some o /\ zG H h a u
  | .tbl ps => h.get? a = some { cls := .none, data := .fields ps }
  | .met f x => h.get? a = some (PySem.W.methodObj (.ref f) (.ref x))
  | .ext φ => φ h /\ (∃ o, h.get? a = some o) /\ ∀ h1 h2 : Heap, φ h1 -> (∀ o, h1.get? a = some o -> h2.get? a = some o) -> φ h2
def HOk (H : Hp) (h : Heap) : Prop := ∀ a o, H a = some o -> zG P w H h a o
end
section
variable {P : Program} {w : World} {H H' : Hp} {h h' : Heap} {a : Addr} {o : HO}
theorem zG.lt (x : zG P w H h a o) : a < h.objs.size := by
 cases o with
 | lst xs => obtain ⟨_, _, _, _, e⟩ := x; exact Heap.lt_size e
 | tup xs => obtain ⟨_, _, _, p⟩ := x; exact p.lt
 | dK kvs => obtain ⟨_, _, _, _, o, _, _, e, _⟩ := x; exact Heap.lt_size e
 | dT kvs => obtain ⟨_, _, _, _, o, _, _, e, _⟩ := x; exact Heap.lt_size e
 | set S n => obtain ⟨o, _, _, _, e, _⟩ := x; exact Heap.lt_size e
 | ins C dx fs => obtain ⟨_, _, _, e, _⟩ := x; exact Heap.lt_size e
 | own y => obtain ⟨_, e⟩ := x; exact Heap.lt_size e
 | xd fs => obtain ⟨_, ⟨_, _, _, e, _⟩, _⟩ := x; exact Heap.lt_size e
 | rng lo hi => obtain ⟨_, _, _, e⟩ := x; exact Heap.lt_size e
 | frz ob u => obtain ⟨e, _⟩ := x; exact Heap.lt_size e
 | tbl ps => exact Heap.lt_size (show h.get? a = some _ from x)
 | met f y => exact Heap.lt_size (show h.get? a = some _ from x)
 | ext φ => obtain ⟨_, ⟨_, e⟩, _⟩ := x; exact Heap.lt_size e
theorem Paired.mapP {α β : Type} {F G : α -> β -> Prop} : ∀ {l₁ : List α} {l₂ : List β}, Paired F l₁ l₂ -> (∀ a b, F a b -> G a b) -> Paired G l₁ l₂
 | _, _, .nil, _ => .nil
 | _, _, .cons r t, f => .cons (f _ _ r) (Paired.mapP t f)
theorem zG.stay (x : zG P w H h a o) (k : ∀ b u, (b = a \/ H b = some (.own a)) -> h.get? b = some u -> h'.get? b = some u)
  (ho : ∀ b, H b = some (.own a) -> H' b = some (.own a)) (ht : ∀ b xs, H b = some (.tup xs) -> H' b = some (.tup xs)) : zG P w H' h' a o := by
 induction o with
 | lst xs => obtain ⟨z, its, n, r, e⟩ := x; exact ⟨z, its, n, r, k _ _ (.inl rfl) e⟩
 | tup xs => obtain ⟨z, its, r, ob, e, c⟩ := x; exact ⟨z, its, r, ob, k _ _ (.inl rfl) e, c⟩
 | dK kvs => obtain ⟨z, y, vs, r, ob, es, ep, e, c⟩ := x; exact ⟨z, y, vs, r, ob, es, ep, k _ _ (.inl rfl) e, c⟩
 | dT kvs =>
  obtain ⟨z, y, xs, r, ob, es, ep, e, c⟩ := x
  exact ⟨z, y, xs, Paired.mapP r fun p q z => ⟨z.1, ht _ _ z.2.1, z.2.2⟩, ob, es, ep, k _ _ (.inl rfl) e, c⟩
 | set S n => obtain ⟨ob, es, ep, t, e, c⟩ := x; exact ⟨ob, es, ep, t, k _ _ (.inl rfl) e, c⟩
 | ins C dx fs =>
  obtain ⟨d, z, ne, e, mA, ⟨od, es, ep, e2, c⟩, r⟩ := x
  exact ⟨ho _ d, z, ne, k _ _ (.inl rfl) e, mA, ⟨od, es, ep, k _ _ (.inr d) e2, c⟩, r⟩
 | own y => obtain ⟨ob, e⟩ := x; exact ⟨ob, k _ _ (.inl rfl) e⟩
 | xd fs => obtain ⟨mA, ⟨od, es, ep, e, c⟩, r⟩ := x; exact ⟨mA, ⟨od, es, ep, k _ _ (.inl rfl) e, c⟩, r⟩
 | rng lo hi => obtain ⟨t, u, v, e⟩ := x; exact ⟨t, u, v, k _ _ (.inl rfl) e⟩
 | frz ob u ih => obtain ⟨e, q⟩ := x; exact ⟨k _ _ (.inl rfl) e, ih q⟩
 | tbl ps =>
  have e : h.get? a = some { cls := .none, data := .fields ps } := x
  show h'.get? a = some { cls := .none, data := .fields ps }
  exact k a _ (.inl rfl) e
 | met f y =>
  have e : h.get? a = some (PySem.W.methodObj (.ref f) (.ref y)) := x
  show h'.get? a = some (PySem.W.methodObj (.ref f) (.ref y))
  exact k a _ (.inl rfl) e
 | ext φ => obtain ⟨p, ⟨o, e⟩, st⟩ := x; exact ⟨st _ _ p fun o q => k _ _ (.inl rfl) q, ⟨o, k _ _ (.inl rfl) e⟩, st⟩
theorem HOk.lt (x : HOk P w H h) (e : H a = some o) : a < h.objs.size := (x a o e).lt
theorem HOk.fresh (x : HOk P w H h) (e : h.objs.size <= a) : H a = none := by
 cases q : H a with
 | none => rfl
 | some u => exact absurd (Nat.lt_of_lt_of_le (x.lt q) e) (Nat.lt_irrefl _)
theorem HOk.kept (x : HOk P w H h) (k : ∀ b u, h.get? b = some u -> h'.get? b = some u) : HOk P w H h' := fun a o e =>
 (x a o e).stay (fun b u _ q => k b u q) (fun _ q => q) fun _ _ q => q
theorem HOk.laid (x : HOk P w H h) (k : ∀ b u, h.get? b = some u -> h'.get? b = some u) (hp : h.objs.size <= a) (new : zG P w (upd H a o) h' a o) : HOk P w (upd H a o) h' := fun b u e => by
 have hn := x.fresh hp
 by_cases hb : b = a
 ·subst hb; rw [zd] at e; cases e; exact new
 ·rw [zh hb] at e
  exact (x b u e).stay (fun c v _ q => k c v q) (fun c q => by rw [zh (zi q hn)]; exact q) fun c xs q => by rw [zh (zi q hn)]; exact q
end
def Rd (H : Hp) (a : Addr) (u : HO) : Prop := H a = some u \/ ∃ o, H a = some (.frz o u)
theorem Rd.ok {P : Program} {w : World} {H : Hp} {h : Heap} {a : Addr} {u : HO} (r : Rd H a u) (x : HOk P w H h) : zG P w H h a u := by
 rcases r with r | ⟨o, r⟩
 ·exact x a u r
 ·obtain ⟨_, q⟩ := x a _ r
  exact q
def Mut : Option HO -> Prop
 | some (.lst _) => True
 | some (.dK _) => True
 | some (.dT _) => True
 | some (.set _ _) => True
 | some (.ins _ _ _) => True
 | some (.ext _) => True
 | _ => False
section
variable {P : Program} {w : World} {H : Hp} {h h' : Heap} {x e : Addr} {o' : HO}
theorem HOk.write (ok : HOk P w H h) (mu : Mut (H x)) (he : e = x \/ H e = some (.own x)) (k : ∀ b u, b ≠ e -> h.get? b = some u -> h'.get? b = some u) (heo : ∃ u, h'.get? e = some u)
    (new : zG P w (upd H x o') h' x o') : HOk P w (upd H x o') h' := fun b u q => by
  have nown : ∀ c y, H c = some (.own y) -> c ≠ x := fun c y r z => by subst z; rw [r] at mu; exact mu
  have ntup : ∀ c xs, H c = some (.tup xs) -> c ≠ x := fun c xs r z => by subst z; rw [r] at mu; exact mu
  by_cases hb : b = x
  · subst hb; rw [zd] at q; cases q; exact new
  · rw [zh hb] at q
    by_cases hbe : b = e
    · have q' : H b = some (.own x) := by
        rcases he with z | z
        · exact absurd (hbe.trans z) hb
        · rw [hbe]; exact z
      rw [q] at q'; cases q'
      obtain ⟨v, hv⟩ := heo
      exact ⟨v, by rw [hbe]; exact hv⟩
    · refine (ok b u q).stay (fun c v hc r => k c v ?_ r) (fun c r => by rw [zh (nown c b r)]; exact r) fun c xs r => by rw [zh (ntup c xs r)]; exact r
      rcases hc with rfl | hc
      · exact hbe
      · rintro rfl
        rcases he with z | z
        · exact nown c b hc z
        · rw [hc] at z; cases z; exact hb rfl
end
structure Un (fs ex : List Addr) (H H' : Hp) (h h' : Heap) : Prop where
 keep : ∀ b o, h.get? b = some o -> H b = none -> b ∉ fs -> b ∉ ex -> h'.get? b = some o
 slot : ∀ b o, h.get? b = some o -> H b = none -> b ∈ fs -> b ∉ ex -> ∃ sl, h'.get? b = some { o with slots := sl }
 free : ∀ b o, h.get? b = some o -> H b = none -> b ∉ ex -> H' b = none
 there : ∀ b o, h.get? b = some o -> b ∉ ex -> ∃ o', h'.get? b = some o'
 tups : ∀ b xs, H b = some (.tup xs) -> H' b = some (.tup xs)
 frzs : ∀ b o u, H b = some (.frz o u) -> H' b = some (.frz o u)
 tbls : ∀ b ps, H b = some (.tbl ps) -> ∃ more, H' b = some (.tbl (ps ++ more))
section
variable {fs fs' ex ex' : List Addr} {H H1 H2 : Hp} {h h1 h2 h' : Heap} {a x e : Addr} {o : HO}
theorem Un.any (u : Un fs ex H H1 h h1) {b : Addr} {ob : Obj} (q : h.get? b = some ob) (n : H b = none) (hx : b ∉ ex) : ∃ sl, h1.get? b = some { ob with slots := sl } := by
 by_cases hb : b ∈ fs
 ·exact u.slot b ob q n hb hx
 ·exact ⟨ob.slots, u.keep b ob q n hb hx⟩
theorem Un.kept (k : ∀ b u, h.get? b = some u -> h'.get? b = some u) : Un fs ex H H h h' :=
 ⟨fun b ob q _ _ _ => k b ob q, fun b ob q _ _ _ => ⟨ob.slots, k b ob q⟩, fun _ _ _ n _ => n, fun b ob q _ => ⟨ob, k b ob q⟩, fun _ _ q => q, fun _ _ _ q => q, fun _ ps q => ⟨#[], by rw [q]; simp⟩⟩
theorem Un.refl : Un fs ex H H h h := Un.kept fun _ _ q => q
theorem Un.laid (k : ∀ b u, h.get? b = some u -> h'.get? b = some u) (hp : h.objs.size <= a) (hn : H a = none) : Un fs ex H (upd H a o) h h' where
 keep := fun b u q _ _ _ => k b u q
 slot := fun b u q _ _ _ => ⟨u.slots, k b u q⟩
 free := fun b u q n _ => by rw [zh (Nat.ne_of_lt (Nat.lt_of_lt_of_le (Heap.lt_size q) hp))]; exact n
 there := fun b u q _ => ⟨u, k b u q⟩
 tups := fun b xs q => by rw [zh (zi q hn)]; exact q
 frzs := fun b u xs q => by rw [zh (zi q hn)]; exact q
 tbls := fun b ps q => ⟨#[], by rw [zh (zi q hn), q]; simp⟩
theorem Un.write (mu : Mut (H x)) (he : e = x \/ H e = some (.own x)) (k : ∀ b u, b ≠ e -> h.get? b = some u -> h'.get? b = some u) (heo : ∃ u, h'.get? e = some u) : Un fs ex H (upd H x o) h h' := by
 have hx : ∀ b, H b = none -> b ≠ x := fun b n z => by subst z; rw [n] at mu; exact mu
 have hb : ∀ b, H b = none -> b ≠ e := fun b n z => by
  subst z
  rcases he with r | r
  ·exact hx b n r
  ·rw [n] at r; cases r
 have hm : ∀ b u, H b = some u -> ¬ Mut (some u) -> b ≠ x := fun b u q nm z => by subst z; rw [q] at mu; exact nm mu
 refine ⟨fun b u q n _ _ => k b u (hb b n) q, fun b u q n _ _ => ⟨u.slots, k b u (hb b n) q⟩, fun b u q n _ => by rw [zh (hx b n)]; exact n, fun b u q _ => ?_,
  fun b xs q => by rw [zh (hm b _ q fun z => z)]; exact q, fun b u xs q => by rw [zh (hm b _ q fun z => z)]; exact q, fun b ps q => ⟨#[], by rw [zh (hm b _ q fun z => z), q]; simp⟩⟩
 by_cases hbe : b = e
 ·subst hbe; exact heo
 ·exact ⟨u, k b u hbe q⟩
end
def trk (h : Heap) (H : Hp) : List Addr := (List.range h.objs.size).filter fun a => (H a).isSome
def xZ (h : Heap) (H : Hp) : Heap := PySem.W.hideAll h (trk h H)
theorem w8 (h : Heap) (H : Hp) : (xZ h H).objs.size = h.objs.size := PySem.W.hideAll_size _ _
theorem ZY {h : Heap} {H : Hp} {b : Addr} {o : Obj} (e : h.get? b = some o) (n : H b = none) : (xZ h H).get? b = some o :=
 PySem.W.hideAll_get _ e fun hm => by
  have q : (H b).isSome = true := (List.mem_filter.mp hm).2
  rw [n] at q; simp at q
theorem JU {h : Heap} {H : Hp} {b : Addr} {o : Obj} (e : (xZ h H).get? b = some o) : h.get? b = some o /\ H b = none := by
 have e' : h.get? b = some o := PySem.W.of_hideAll (trk h H) e
 refine ⟨e', ?_⟩
 cases q : H b with
 | none => rfl
 | some x =>
  have hm : b ∈ trk h H := List.mem_filter.mpr ⟨List.mem_range.mpr (Heap.lt_size e'), by simp [q]⟩
  have z : (xZ h H).get? b = none := PySem.W.hideAll_none (trk h H) hm
  rw [z] at e; cases e
def KA (g h : Heap) (L : Addr) : List (Addr × Obj) := (List.range h.objs.size).filterMap fun a => if a = L \/ (g.get? a).isSome = true then none else (h.get? a).map fun o => (a, o)
def qf (g h : Heap) (L d : Addr) : List (Addr × Obj) := (KA g h L).filter fun p => decide (p.1 ≠ d)
end L2
namespace L2
open PySem PySem.Spec PyProof.Rows
structure Mod (K : PySem.W.Frag) (mg : Str -> Option Value) (base : Heap) : Prop where
 kin : K.In base
 glob : base.Ns mainGlobals mg
 blt : ∃ mb, base.Ns builtinsNs mb /\ ∀ x : Str, x ≠ "__name__" -> mb x = bootBuiltins x
 nolimit : base.NoLimit
structure Cx where
 prog : Program
 w : World
 K : PySem.W.Frag
 mg : Str -> Option Value
 base : Heap
 A : Around
 N : List Str
 s₀ : Shared
 H₀ : Hp
 env : Env
 outer : List Env
 stack : List Env
 ex : List Addr
 fn : Str -> Bool
 calm : Bool
 pn : List (Addr × Obj)
 xe : Value -> Shared -> Prop
def frs (l : List Env) : List Addr := l.filterMap (·.frame)
abbrev Cx.fs (X : Cx) : List Addr := frs X.outer
def Vis (sc : Scope) (x : Str) : Prop := sc.names.lookup x = some .local \/ sc.names.lookup x = some .cell \/ sc.names.lookup x = some .free
def Loc (sc : Scope) (x : Str) : Prop := sc.names.lookup x = some .local \/ sc.names.lookup x = some .cell
def V5 (env : Env) (h : Heap) (m : Str -> Option Value) (x : Str) (u : Value) : Prop :=
 (env.kindOf x = some .local /\ m x = some u) \/ ((env.kindOf x = some .cell \/ env.kindOf x = some .free) /\ ∃ c, env.cells.lookup x = some c /\ h.IsCell c (some u))
structure Cx.Ok (X : Cx) : Prop where
 mod : Mod X.K X.mg X.base
 kind : X.env.scope.kind = .function
 glob : X.env.globals = mainGlobals
 blt : X.env.builtins = builtinsNs
 above : X.s₀.heap.objs.size <= X.env.locals
 inj : ∀ x y c, X.env.cells.lookup x = some c -> X.env.cells.lookup y = some c -> x = y
 has : ∀ x, (X.env.kindOf x = some .cell \/ X.env.kindOf x = some .free) -> ∃ c, X.env.cells.lookup x = some c
 cab : ∀ x c, X.fn x = true -> X.env.cells.lookup x = some c -> X.s₀.heap.objs.size <= c
 hd : X.calm = true -> X.A.handled = none
 frames : X.A.frames = some X.stack
 stk : X.stack = X.outer \/ (X.stack = X.env :: X.outer /\ X.env.frame = some X.env.locals)
 exf : ∀ b ∈ X.ex, b ≠ X.env.locals /\ ∀ x c, X.env.cells.lookup x = some c -> c ≠ b
 bs : ∀ b o, X.base.get? b = some o -> X.s₀.heap.get? b = some o /\ X.H₀ b = none
 bsz : X.base.objs.size <= X.s₀.heap.objs.size
 noex : ∀ b o, X.base.get? b = some o -> b ∉ X.ex
 exfs : ∀ b ∈ X.ex, b ∉ X.fs
 funs : X.s₀.heap.FunFrames X.base X.outer
 frf : ∀ b ∈ X.fs, X.H₀ b = none
structure Inv (X : Cx) (pins : List (Addr × Obj)) (σ : List (Option V)) (H : Hp) (s : Shared) : Prop where
 ok : X.Ok
 os : s.os = X.s₀.os
 bare : AllBare s.gens
 base : Un X.fs X.ex X.H₀ H X.s₀.heap s.heap
 loc : ∃ m, s.heap.Ns X.env.locals m /\ ∀ (i : Nat) (x : Str) (v : V), X.N[i]? = some x -> σ[i]? = some (some v) -> Vis X.env.scope x -> ∃ u, zt v u /\ V5 X.env s.heap m x u
 cell : ∀ x c, X.env.cells.lookup x = some c -> ∃ v, s.heap.IsCell c v
 free : H X.env.locals = none
 freeC : ∀ x c, X.env.cells.lookup x = some c -> H c = none
 pin : ∀ p ∈ X.pn ++ pins, s.heap.get? p.1 = some p.2 /\ H p.1 = none /\ p.1 ≠ X.env.locals /\ p.1 ∉ X.fs /\ ∀ v, p.2.data ≠ .cell v
 hok : HOk X.prog X.w H s.heap
 len : σ.length = X.N.length
section
variable {X : Cx} {pins : List (Addr × Obj)} {σ : List (Option V)} {H H' : Hp} {s : Shared} {h' : Heap}
theorem Cx.Ok.nofr (ok : X.Ok) {b : Addr} {o : Obj} (e : X.base.get? b = some o) : b ∉ X.fs := fun hb => by
 have := (ok.funs.mem hb).1
 rw [e] at this; cases this
theorem Inv.bs (I : Inv X pins σ H s) : ∀ b o, X.base.get? b = some o -> s.heap.get? b = some o /\ H b = none := fun b o e =>
 ⟨I.base.keep b o (I.ok.bs b o e).1 (I.ok.bs b o e).2 (I.ok.nofr e) (I.ok.noex b o e), I.base.free b o (I.ok.bs b o e).1 (I.ok.bs b o e).2 (I.ok.noex b o e)⟩
theorem Inv.bk (I : Inv X pins σ H s) : ∀ b o, X.base.get? b = some o -> s.heap.get? b = some o := fun b o e => (I.bs b o e).1
theorem Inv.mod (I : Inv X pins σ H s) : Mod X.K X.mg X.base := I.ok.mod
theorem Inv.kIn (I : Inv X pins σ H s) : X.K.In s.heap := I.ok.mod.kin.keeps I.bk
theorem Inv.lt (I : Inv X pins σ H s) : X.env.locals < s.heap.objs.size := let ⟨_, hn, _⟩ := I.loc; hn.lt
theorem Inv.sz (I : Inv X pins σ H s) : X.s₀.heap.objs.size <= s.heap.objs.size := Nat.le_trans I.ok.above (Nat.le_of_lt I.lt)
theorem Inv.nofs (I : Inv X pins σ H s) {a : Addr} (h : s.heap.objs.size <= a) : a ∉ X.fs := fun hb => by
 obtain ⟨_, o, ho, _⟩ := I.ok.funs.mem hb
 exact absurd (Nat.lt_of_lt_of_le (Heap.lt_size ho) (Nat.le_trans I.sz h)) (Nat.lt_irrefl _)
theorem Inv.cne (I : Inv X pins σ H s) : ∀ x c, X.env.cells.lookup x = some c -> c ≠ X.env.locals := fun x c e z => by
 obtain ⟨v, o, ho, hd⟩ := I.cell x c e
 obtain ⟨m, ⟨o', es, ep, ho', hd', _⟩, _⟩ := I.loc
 rw [z, ho'] at ho; cases ho; rw [hd'] at hd; cases hd
theorem Inv.funs (I : Inv X pins σ H s) : s.heap.FunFrames X.base X.outer := by
 have all : ∀ (l : List Env), (∀ b ∈ frs l, b ∈ X.fs) -> X.s₀.heap.FunFrames X.base l -> s.heap.FunFrames X.base l := by
  intro l
  induction l with
  | nil => intro _ _; trivial
  | cons env r ih =>
   intro hs hl
   obtain ⟨hk, ⟨L, o, hf, hn, ho, hd⟩, hr⟩ := hl
   have hL : L ∈ X.fs := hs L (by unfold frs; rw [List.filterMap_cons, hf]; exact List.mem_cons_self)
   obtain ⟨sl, e⟩ := I.base.slot L o ho (I.ok.frf L hL) hL fun z => I.ok.exfs L z hL
   exact ⟨hk, ⟨L, _, hf, hn, e, hd⟩, ih (fun b hb => hs b (by unfold frs; rw [List.filterMap_cons, hf]; exact List.mem_cons_of_mem _ hb)) hr⟩
 exact all X.outer (fun _ hb => hb) I.ok.funs
theorem Inv.stack (I : Inv X pins σ H s) : s.heap.FunFrames X.base X.stack := by
 rcases I.ok.stk with e | ⟨e, hf⟩
 ·rw [e]; exact I.funs
 ·rw [e]
  obtain ⟨m, hn, _⟩ := I.loc
  refine .cons (by rw [I.ok.kind]; decide) hf hn ?_ I.funs
  exact Heap.get?_none_of_le (Nat.le_trans I.ok.bsz I.ok.above)
theorem Inv.stkSub (I : Inv X pins σ H s) : ∀ b ∈ frs X.stack, b ∈ X.env.locals :: X.fs := fun b hb => by
 rcases I.ok.stk with e | ⟨e, hf⟩
 ·rw [e] at hb; exact List.mem_cons_of_mem _ hb
 ·rw [e] at hb
  unfold frs at hb
  rw [List.filterMap_cons, hf] at hb
  exact hb
theorem Inv.stkFree (I : Inv X pins σ H s) : ∀ b ∈ frs X.stack, H b = none := fun b hb => by
 rcases List.mem_cons.mp (I.stkSub b hb) with e | hb
 ·rw [e]; exact I.free
 ·obtain ⟨_, o, ho, _⟩ := I.ok.funs.mem hb
  exact I.base.free b o ho (I.ok.frf b hb) fun z => I.ok.exfs b z hb
theorem Inv.step {g' : Array GenState} {t' : Nat} {d' : Drawn} {ch : List Addr} (I : Inv X pins σ H s)
  (hch : ∀ b ∈ ch, (b ∈ X.ex \/ X.s₀.heap.objs.size <= b) /\ b ≠ X.env.locals /\ (∀ x c, X.env.cells.lookup x = some c -> c ≠ b) /\ ∀ p ∈ X.pn ++ pins, p.1 ≠ b)
  (keep : ∀ b o, b ≠ X.env.locals -> b ∉ X.fs -> b ∉ ch -> s.heap.get? b = some o -> H b = none -> h'.get? b = some o)
  (slot : ∀ b o, b ≠ X.env.locals -> b ∈ X.fs -> b ∉ ch -> s.heap.get? b = some o -> H b = none -> ∃ sl, h'.get? b = some { o with slots := sl }) (free : ∀ b o, b ∉ ch -> s.heap.get? b = some o -> H b = none -> H' b = none)
  (there : ∀ b o, b ∉ ch -> s.heap.get? b = some o -> ∃ o', h'.get? b = some o')
  (tups : ∀ b xs, H b = some (.tup xs) -> H' b = some (.tup xs)) (frzs : ∀ b o u, H b = some (.frz o u) -> H' b = some (.frz o u)) (tbls : ∀ b ps, H b = some (.tbl ps) -> ∃ more, H' b = some (.tbl (ps ++ more)))
  (ns : ∀ m, s.heap.Ns X.env.locals m -> h'.Ns X.env.locals m) (hok : HOk X.prog X.w H' h') (hg : AllBare g') :
  Inv X pins σ H' { s with heap := h', gens := g', drawn := d', toks := t' } := by
 have neL : ∀ b o, X.s₀.heap.get? b = some o -> b ≠ X.env.locals := fun b o e => Nat.ne_of_lt (Nat.lt_of_lt_of_le (Heap.lt_size e) I.ok.above)
 have neC : ∀ b o, X.s₀.heap.get? b = some o -> b ∉ X.ex -> b ∉ ch := fun b o e hx hb => by
  rcases (hch b hb).1 with z | z
  ·exact hx z
  ·exact absurd (Nat.lt_of_lt_of_le (Heap.lt_size e) z) (Nat.lt_irrefl _)
 have cellK : ∀ x c, X.env.cells.lookup x = some c -> ∀ v, s.heap.IsCell c v -> h'.IsCell c v := fun x c e v ⟨o, ho, hd⟩ => by
  have nch : c ∉ ch := fun z => (hch c z).2.2.1 x c e rfl
  by_cases hc : c ∈ X.fs
  ·obtain ⟨sl, q⟩ := slot c o (I.cne x c e) hc nch ho (I.freeC x c e)
   exact ⟨_, q, hd⟩
  ·exact ⟨o, keep c o (I.cne x c e) hc nch ho (I.freeC x c e), hd⟩
 refine ⟨I.ok, I.os, hg, ⟨fun b o e n hb hx => ?_, fun b o e n hb hx => ?_, fun b o e n hx => ?_, fun b o e hx => ?_, fun b xs e => tups b xs (I.base.tups b xs e), fun b o xs e => frzs b o xs (I.base.frzs b o xs e), fun b ps e => ?_⟩, ?_, fun x c e => ?_, ?_, fun x c e => ?_, fun p hp => ?_, hok, I.len⟩
 ·exact keep b o (neL b o e) hb (neC b o e hx) (I.base.keep b o e n hb hx) (I.base.free b o e n hx)
 ·obtain ⟨sl, e1⟩ := I.base.slot b o e n hb hx
  obtain ⟨sl', e2⟩ := slot b _ (neL b o e) hb (neC b o e hx) e1 (I.base.free b o e n hx)
  exact ⟨sl', e2⟩
 ·obtain ⟨o', e1⟩ := I.base.there b o e hx
  exact free b o' (neC b o e hx) e1 (I.base.free b o e n hx)
 ·obtain ⟨o', e1⟩ := I.base.there b o e hx
  exact there b o' (neC b o e hx) e1
 ·obtain ⟨m1, e1⟩ := I.base.tbls b ps e
  obtain ⟨m2, e2⟩ := tbls b _ e1
  exact ⟨m1 ++ m2, by rw [e2, Array.append_assoc]⟩
 ·obtain ⟨m, hn, hl⟩ := I.loc
  refine ⟨m, ns m hn, fun i x v e1 e2 e3 => ?_⟩
  obtain ⟨u, r, l⟩ := hl i x v e1 e2 e3
  refine ⟨u, r, ?_⟩
  rcases l with l | ⟨k, c, e, z⟩
  ·exact .inl l
  ·exact .inr ⟨k, c, e, cellK x c e _ z⟩
 ·obtain ⟨v, z⟩ := I.cell x c e
  exact ⟨v, cellK x c e v z⟩
 ·obtain ⟨m, ⟨o, _, _, ho, _⟩, _⟩ := I.loc
  exact free _ o (fun z => (hch _ z).2.1 rfl) ho I.free
 ·obtain ⟨v, o, ho, hd⟩ := I.cell x c e
  exact free c o (fun z => (hch c z).2.2.1 x c e rfl) ho (I.freeC x c e)
 ·obtain ⟨e, n, ne, nf, d⟩ := I.pin p hp
  have nch : p.1 ∉ ch := fun z => (hch p.1 z).2.2.2 p hp rfl
  exact ⟨keep p.1 p.2 ne nf nch e n, free p.1 p.2 nch e n, ne, nf, d⟩
theorem Inv.un {t' : Nat} (I : Inv X pins σ H s) (u : Un X.fs [] H H' s.heap h') (hok : HOk X.prog X.w H' h') : Inv X pins σ H' { s with heap := h', toks := t' } := by
 obtain ⟨m, ⟨o, es, ep, ho, r⟩, _⟩ := id I.loc
 obtain ⟨sl, hL⟩ := u.any ho I.free (by simp)
 exact I.step (g' := s.gens) (d' := s.drawn) (ch := []) (fun _ z => nomatch z) (fun b o _ hb _ e n => u.keep b o e n hb (by simp)) (fun b o _ hb _ e n => u.slot b o e n hb (by simp)) (fun b o _ e n => u.free b o e n (by simp)) (fun b o _ e => u.there b o e (by simp)) u.tups u.frzs u.tbls (fun m' hm => by
  obtain ⟨o', es', ep', ho', r'⟩ := hm
  rw [ho] at ho'; cases ho'
  exact ⟨_, es', ep', hL, r'⟩) hok I.bare
theorem Inv.call {g' : Array GenState} {t' : Nat} {d' : Drawn} {ch : List Addr} (I : Inv X pins σ H s) (u : Un (frs X.stack) ch H H' s.heap h') (hok : HOk X.prog X.w H' h') (hg : AllBare g')
  (hch : ∀ b ∈ ch, (b ∈ X.ex \/ X.s₀.heap.objs.size <= b) /\ b ≠ X.env.locals /\ (∀ x c, X.env.cells.lookup x = some c -> c ≠ b) /\ ∀ p ∈ X.pn ++ pins, p.1 ≠ b) :
  Inv X pins σ H' { s with heap := h', gens := g', drawn := d', toks := t' } := by
 obtain ⟨m, ⟨o, es, ep, ho, r⟩, _⟩ := id I.loc
 obtain ⟨sl, hL⟩ := u.any ho I.free fun z => (hch _ z).2.1 rfl
 exact I.step (ch := ch) hch (fun b o hL hb hc e n => u.keep b o e n (fun z => (List.mem_cons.mp (I.stkSub b z)).elim hL hb) hc) (fun b o _ _ hc e n => u.any e n hc) (fun b o hc e n => u.free b o e n hc) (fun b o hc e => u.there b o e hc) u.tups u.frzs u.tbls (fun m' hm => by
  obtain ⟨o', es', ep', ho', r'⟩ := hm
  rw [ho] at ho'; cases ho'
  exact ⟨_, es', ep', hL, r'⟩) hok hg
theorem Inv.turned {t' : Nat} {it : Addr} (I : Inv X pins σ H s) (k : ∀ b o, b ≠ it -> s.heap.get? b = some o -> h'.get? b = some o) (hn : H it = none) (hL : it ≠ X.env.locals)
  (h1 : it ∈ X.ex \/ X.s₀.heap.objs.size <= it) (h2 : ∀ x c, X.env.cells.lookup x = some c -> c ≠ it) (h3 : ∀ p ∈ X.pn ++ pins, p.1 ≠ it) : Inv X pins σ H { s with heap := h', toks := t' } := by
 have nit : ∀ b u, H b = some u -> b ≠ it := fun b u e z => by rw [z, hn] at e; cases e
 refine I.step (g' := s.gens) (d' := s.drawn) (ch := [it]) (fun b hb => ?_) (fun b o _ _ hc e _ => k b o (fun z => hc (by simp [z])) e) (fun b o _ _ hc e _ => ⟨o.slots, k b o (fun z => hc (by simp [z])) e⟩) (fun _ _ _ _ n => n)
  (fun b o hc e => ⟨o, k b o (fun z => hc (by simp [z])) e⟩) (fun _ _ e => e) (fun _ _ _ e => e) (fun b ps e => ⟨#[], by rw [e]; simp⟩) (fun m hm => ?_) (fun b u e => ?_) I.bare
 ·have e : b = it := by simpa using hb
  subst e
  exact ⟨h1, hL, h2, h3⟩
 ·obtain ⟨o, es, ep, ho, r⟩ := hm
  exact ⟨o, es, ep, k _ o (Ne.symm hL) ho, r⟩
 ·refine (I.hok b u e).stay (fun c v hc q => k c v ?_ q) (fun _ q => q) fun _ _ q => q
  rcases hc with z | z
  ·rw [z]; exact nit b u e
  ·exact nit c _ z
theorem Inv.tok (I : Inv X pins σ H s) (t : Nat) : Inv X pins σ H { s with toks := t } := I.un (h' := s.heap) (t' := t) Un.refl I.hok
theorem Inv.kept {t' : Nat} (I : Inv X pins σ H s) (k : ∀ b u, s.heap.get? b = some u -> h'.get? b = some u) : Inv X pins σ H { s with heap := h', toks := t' } := I.un (Un.kept k) (I.hok.kept k)
theorem Inv.laid {a : Addr} {o : HO} {t' : Nat} (I : Inv X pins σ H s) (k : ∀ b u, s.heap.get? b = some u -> h'.get? b = some u) (hp : s.heap.objs.size <= a) (new : zG X.prog X.w (upd H a o) h' a o) :
  Inv X pins σ (upd H a o) { s with heap := h', toks := t' } := I.un (Un.laid k hp (I.hok.fresh hp)) (I.hok.laid k hp new)
theorem Inv.write {x e : Addr} {o : HO} {t' : Nat} (I : Inv X pins σ H s) (mu : Mut (H x)) (he : e = x \/ H e = some (.own x)) (k : ∀ b u, b ≠ e -> s.heap.get? b = some u -> h'.get? b = some u) (heo : ∃ u, h'.get? e = some u)
  (new : zG X.prog X.w (upd H x o) h' x o) : Inv X pins σ (upd H x o) { s with heap := h', toks := t' } := I.un (Un.write mu he k heo) (I.hok.write mu he k heo new)
theorem Inv.pins_of {pins' : List (Addr × Obj)} (I : Inv X pins σ H s) (h : ∀ p ∈ pins', s.heap.get? p.1 = some p.2 /\ H p.1 = none /\ p.1 ≠ X.env.locals /\ p.1 ∉ X.fs /\ ∀ v, p.2.data ≠ .cell v) : Inv X pins' σ H s :=
 ⟨I.ok, I.os, I.bare, I.base, I.loc, I.cell, I.free, I.freeC, fun p hp => (List.mem_append.mp hp).elim (fun z => I.pin p (List.mem_append_left _ z)) (h p), I.hok, I.len⟩
theorem yX {N : List Str} (hN : N.Nodup) {i j : Nat} {x : Str} (a : N[i]? = some x) (b : N[j]? = some x) : i = j := by
 obtain ⟨h1, e1⟩ := List.getElem?_eq_some_iff.mp a
 obtain ⟨h2, e2⟩ := List.getElem?_eq_some_iff.mp b
 exact (List.getElem_inj hN).mp (e1.trans e2.symm)
theorem xK {M : Model} {A : Around} {E : Value -> Shared -> Prop} {i : Nat} {x : Str} {v : V} {u : Value} {Q : Unit -> Shared -> Prop} (I : Inv X pins σ H s) (hN : X.N.Nodup) (hi : X.N[i]? = some x) (hx : Loc X.env.scope x) (r : zt v u)
    (h : ∀ s', Inv X pins (σ.set i (some v)) H s' -> (∃ a, Heap.SameBut a s.heap s'.heap /\ (a = X.env.locals \/ X.env.cells.lookup x = some a)) -> Q () s') (hf : X.fn x = true \/ X.env.scope.names.lookup x = some .local := by first | exact .inl rfl | exact .inr rfl | assumption) : wpAny M A (storeName X.env x u) Q E s := by
  obtain ⟨m, hn, hl⟩ := id I.loc
  have hcls : (X.env.scope.kind == .class || (X.env.scope.kind == .module && X.env.locals != X.env.globals)) = false := by rw [I.ok.kind]; rfl
  have hiσ : i < σ.length := by rw [I.len]; exact (List.getElem?_eq_some_iff.mp hi).1
  have cne := I.cne
  have tracked : ∀ {a : Addr} {h' : Heap}, (∃ o, s.heap.get? a = some o /\ H a = none) -> Heap.SameBut a s.heap h' -> HOk X.prog X.w H h' := fun {a h'} ha hs b ob e => by
    obtain ⟨_, _, hfree⟩ := ha
    refine (I.hok b ob e).stay (fun c w' hc q => (hs.2 c ?_).trans q) (fun _ q => q) fun _ _ q => q
    rintro rfl
    rcases hc with rfl | hc
    · rw [hfree] at e; cases e
    · rw [hfree] at hc; cases hc
  rcases hx with hk | hk
  · refine wpAny_storeName_local hk hn (fun h' hn' hs => ?_) hcls
    obtain ⟨oL, _, _, hoL, _⟩ := id hn
    refine h _ ⟨I.ok, I.os, I.bare, ⟨fun b o e n hb hx => ?_, fun b o e n hb hx => ?_, I.base.free, fun b o e hx => ?_, I.base.tups, I.base.frzs, I.base.tbls⟩, ⟨_, hn', fun j y v' e1 e2 e3 => ?_⟩, fun y c e => ?_, I.free, I.freeC, fun p hp => ?_, tracked ⟨oL, hoL, I.free⟩ hs, by simpa using I.len⟩ ⟨_, hs, .inl rfl⟩
    · exact (hs.2 b (Nat.ne_of_lt (Nat.lt_of_lt_of_le (Heap.lt_size e) I.ok.above))).trans (I.base.keep b o e n hb hx)
    · obtain ⟨sl, e1⟩ := I.base.slot b o e n hb hx
      exact ⟨sl, (hs.2 b (Nat.ne_of_lt (Nat.lt_of_lt_of_le (Heap.lt_size e) I.ok.above))).trans e1⟩
    · obtain ⟨o', e1⟩ := I.base.there b o e hx
      exact ⟨o', (hs.2 b (Nat.ne_of_lt (Nat.lt_of_lt_of_le (Heap.lt_size e) I.ok.above))).trans e1⟩
    · by_cases hj : j = i
      · subst hj
        rw [hi] at e1; cases e1
        rw [List.getElem?_set_self hiσ] at e2
        cases e2
        exact ⟨u, r, .inl ⟨hk, by simp⟩⟩
      · rw [List.getElem?_set_ne (Ne.symm hj)] at e2
        obtain ⟨u', r', q⟩ := hl j y v' e1 e2 e3
        refine ⟨u', r', ?_⟩
        rcases q with ⟨k, e⟩ | ⟨k, c, e, z⟩
        · refine .inl ⟨k, ?_⟩
          have : y ≠ x := fun e => hj (yX hN e1 (e ▸ hi))
          simp [this, e]
        · exact .inr ⟨k, c, e, z.sameBut hs (cne y c e)⟩
    · obtain ⟨w', z⟩ := I.cell y c e
      exact ⟨w', z.sameBut hs (cne y c e)⟩
    · obtain ⟨e, n, ne, nf, d⟩ := I.pin p hp
      exact ⟨(hs.2 p.1 ne).trans e, n, ne, nf, d⟩
  · have hfn : X.fn x = true := by
      rcases hf with z | z
      · exact z
      · rw [z] at hk; cases hk
    obtain ⟨c, hc⟩ := I.ok.has x (.inl hk)
    obtain ⟨w', z⟩ := I.cell x c hc
    refine wpAny_storeName_cell I.ok.kind hk hc z (fun h' hc' hs => ?_)
    obtain ⟨oc, hoc, hocd⟩ := id z
    refine h { s with heap := h' } ⟨I.ok, I.os, I.bare, ⟨fun b o e n hb hx => ?_, fun b o e n hb hx => ?_, I.base.free, fun b o e hx => ?_, I.base.tups, I.base.frzs, I.base.tbls⟩, ⟨m, hn.sameBut hs (Ne.symm (cne x c hc)), fun j y v' e1 e2 e3 => ?_⟩, fun y c' e => ?_, I.free, I.freeC, fun p hp => ?_, tracked ⟨oc, hoc, I.freeC x c hc⟩ hs, by simpa using I.len⟩ ⟨c, hs, .inr hc⟩
    · exact (hs.2 b (Nat.ne_of_lt (Nat.lt_of_lt_of_le (Heap.lt_size e) (I.ok.cab x c hfn hc)))).trans (I.base.keep b o e n hb hx)
    · obtain ⟨sl, e1⟩ := I.base.slot b o e n hb hx
      exact ⟨sl, (hs.2 b (Nat.ne_of_lt (Nat.lt_of_lt_of_le (Heap.lt_size e) (I.ok.cab x c hfn hc)))).trans e1⟩
    · obtain ⟨o', e1⟩ := I.base.there b o e hx
      exact ⟨o', (hs.2 b (Nat.ne_of_lt (Nat.lt_of_lt_of_le (Heap.lt_size e) (I.ok.cab x c hfn hc)))).trans e1⟩
    · by_cases hj : j = i
      · subst hj
        rw [hi] at e1; cases e1
        rw [List.getElem?_set_self hiσ] at e2
        cases e2
        exact ⟨u, r, .inr ⟨.inl hk, c, hc, hc'⟩⟩
      · rw [List.getElem?_set_ne (Ne.symm hj)] at e2
        obtain ⟨u', r', q⟩ := hl j y v' e1 e2 e3
        refine ⟨u', r', ?_⟩
        rcases q with q | ⟨k, c', e, z'⟩
        · exact .inl q
        · refine .inr ⟨k, c', e, z'.sameBut hs ?_⟩
          rintro rfl
          exact hj (yX hN e1 (I.ok.inj _ _ _ e hc ▸ hi))
    · by_cases hcc : c' = c
      · subst hcc; exact ⟨_, hc'⟩
      · obtain ⟨w2, z2⟩ := I.cell y c' e
        exact ⟨w2, z2.sameBut hs hcc⟩
    · obtain ⟨e, n, ne, nf, d⟩ := I.pin p hp
      refine ⟨(hs.2 p.1 ?_).trans e, n, ne, nf, d⟩
      intro q
      rw [q, hoc] at e
      have q' : oc = p.2 := Option.some.inj e
      exact d w' (by rw [<- q']; exact hocd)
theorem qx {M : Model} {A : Around} {E : Value -> Shared -> Prop} {i : Nat} {x : Str} {v : V} {u : Value} {Q : Unit -> Shared -> Prop} (I : Inv X pins σ H s) (hN : X.N.Nodup) (hi : X.N[i]? = some x) (hx : Loc X.env.scope x) (r : zt v u)
  (h : ∀ s', Inv X pins (σ.set i (some v)) H s' -> Q () s') (hf : X.fn x = true \/ X.env.scope.names.lookup x = some .local := by first | exact .inl rfl | exact .inr rfl | assumption) : wpAny M A (storeName X.env x u) Q E s :=
 xK I hN hi hx r (fun s' I' _ => h s' I') hf
theorem Inv.call' {s' : Shared} {ch : List Addr} (I : Inv X pins σ H s) (ho : s'.os = s.os) (u : Un (frs X.stack) ch H H' s.heap s'.heap) (hok : HOk X.prog X.w H' s'.heap) (hg : AllBare s'.gens)
  (hch : ∀ b ∈ ch, (b ∈ X.ex \/ X.s₀.heap.objs.size <= b) /\ b ≠ X.env.locals /\ (∀ x c, X.env.cells.lookup x = some c -> c ≠ b) /\ ∀ p ∈ X.pn ++ pins, p.1 ≠ b) : Inv X pins σ H' s' := by
 obtain ⟨h', g', d', t', o'⟩ := s'
 have e : o' = s.os := ho
 subst e
 exact I.call (g' := g') (t' := t') (d' := d') u hok hg hch
end
abbrev XK := Value -> Option Addr -> Hp -> Prop
abbrev St := List (Option V)
abbrev VK := V -> Hp -> Prop
abbrev TE := St -> Hp -> VK -> Prop
abbrev TT := St -> Hp -> (Bool -> Hp -> Prop) -> Prop
abbrev TA := St -> Hp -> (List V -> Hp -> Prop) -> Prop
structure jG where
 nx : St -> Hp -> Prop
 rt : VK
 bk : St -> Hp -> Prop := fun _ _ => False
 ct : St -> Hp -> Prop := fun _ _ => False
abbrev TS := jG -> St -> Hp -> Prop
def EP (X : Cx) (pins : List (Addr × Obj)) (σ : St) (Q : VK) (u : Value) (s' : Shared) : Prop := ∃ v H', Inv X pins σ H' s' /\ zt v u /\ Q v H'
def TP (X : Cx) (pins : List (Addr × Obj)) (σ : St) (Q : Bool -> Hp -> Prop) (b : Bool) (s' : Shared) : Prop := ∃ H', Inv X pins σ H' s' /\ Q b H'
def AP (X : Cx) (pins : List (Addr × Obj)) (σ : St) (Q : List V -> Hp -> Prop) (us : List Value) (s' : Shared) : Prop := ∃ vs H', Inv X pins σ H' s' /\ zp vs us /\ Q vs H'
def SP (X : Cx) (pins : List (Addr × Obj)) (D : jG) (f : Flow) (s' : Shared) : Prop :=
 match f with
 | .next => ∃ σ' H', Inv X pins σ' H' s' /\ D.nx σ' H'
 | .brk => ∃ σ' H', Inv X pins σ' H' s' /\ D.bk σ' H'
 | .cont => ∃ σ' H', Inv X pins σ' H' s' /\ D.ct σ' H'
 | .ret u => ∃ v σ' H', Inv X pins σ' H' s' /\ zt v u /\ D.rt v H'
def PE (X : Cx) (e : Expr) (t : TE) : Prop :=
 ∀ (pins : List (Addr × Obj)) (s : Shared) (σ : St) (H : Hp) (Q : VK), Inv X pins σ H s -> t σ H Q -> wpAny (model X.prog X.w) X.A (eval e X.env) (EP X pins σ Q) X.xe s
def PT (X : Cx) (e : Expr) (t : TT) : Prop :=
 ∀ (pins : List (Addr × Obj)) (s : Shared) (σ : St) (H : Hp) (Q : Bool -> Hp -> Prop), Inv X pins σ H s -> t σ H Q -> wpAny (model X.prog X.w) X.A (isTrue e X.env (eval e X.env)) (TP X pins σ Q) X.xe s
def PW (X : Cx) (e : Expr) (t : TT) : Prop :=
 ∀ (whole : Sem Value) (pins : List (Addr × Obj)) (s : Shared) (σ : St) (H : Hp) (Q : Bool -> Hp -> Prop), Inv X pins σ H s -> t σ H Q -> wpAny (model X.prog X.w) X.A (isTrue e X.env whole) (TP X pins σ Q) X.xe s
theorem PW.pt {X : Cx} {e : Expr} {t : TT} (h : PW X e t) : PT X e t := h _
def PA (X : Cx) (es : List Expr) (t : TA) : Prop :=
 ∀ (pos : Pos) (pins : List (Addr × Obj)) (s : Shared) (σ : St) (H : Hp) (Q : List V -> Hp -> Prop), Inv X pins σ H s -> t σ H Q -> wpAny (model X.prog X.w) X.A (spliced (backTo pos (starEach es X.env))) (AP X pins σ Q) X.xe s
def PS (X : Cx) (st : Stmt) (t : TS) : Prop :=
 ∀ (pins : List (Addr × Obj)) (s : Shared) (σ : St) (H : Hp) (D : jG), Inv X pins σ H s -> t D σ H -> wpAny (model X.prog X.w) X.A (exec st X.env) (SP X pins D) X.xe s
def PSs (X : Cx) (st : List Stmt) (t : TS) : Prop :=
 ∀ (pins : List (Addr × Obj)) (s : Shared) (σ : St) (H : Hp) (D : jG), Inv X pins σ H s -> t D σ H -> wpAny (model X.prog X.w) X.A (execs st X.env) (SP X pins D) X.xe s
theorem thn {α : Type} {t : Sem α} {Q Q' : α -> Shared -> Prop} {M : Model} {A : Around} {E : Value -> Shared -> Prop} {s : Shared} (h : wpAny M A t Q E s) (hQ : ∀ a s, Q a s -> Q' a s) : wpAny M A t Q' E s := wpAny_mono h hQ fun _ _ x => x
end L2
namespace L2
open PySem PySem.Spec PyProof.Rows
section
variable {X : Cx}
theorem bin {a b : Expr} {ta tb : TE} (ha : PE X a ta) (hb : PE X b tb) {pins : List (Addr × Obj)} {s : Shared} {σ : St} {H : Hp} {R : V -> V -> Hp -> Prop} (I : Inv X pins σ H s) (h : ta σ H fun x H1 => tb σ H1 fun y H2 => R x y H2)
  {α : Type} {Q : α -> Shared -> Prop} {f : Value -> Value -> Sem α}
  (hf : ∀ v u s2 x y H2, Inv X pins σ H2 s2 -> zt x v -> zt y u -> R x y H2 -> wpAny (model X.prog X.w) X.A (f v u) Q X.xe s2) :
  wpAny (model X.prog X.w) X.A (eval a X.env) (fun v s₁ => wpAny (model X.prog X.w) X.A (eval b X.env) (fun u s₂ => wpAny (model X.prog X.w) X.A (f v u) Q X.xe s₂) X.xe s₁) X.xe s := by
 refine thn (ha pins s σ H _ I h) fun v s1 ⟨x, H1, I1, r1, q1⟩ => ?_
 refine thn (hb pins s1 σ H1 _ I1 q1) fun u s2 ⟨y, H2, I2, r2, q2⟩ => ?_
 exact hf v u s2 x y H2 I2 r1 r2 q2
def Ke (i : Nat) : TE := fun σ H Q => ∃ v, σ[i]? = some (some v) /\ Q v H
def tC (v : V) : TE := fun _ H Q => Q v H
theorem X8 {i : Nat} {x : Str} {pos : Pos} (hN : X.N[i]? = some x) (hv : Vis X.env.scope x) (hd : (x == ("__debug__" : Str)) = false := by decide) (hcd : (x == ("__classdict__" : Str)) = false := by decide) : PE X (.Name x pos) (Ke i) := by
 intro pins s σ H Q I h
 obtain ⟨v, e, h⟩ := h
 obtain ⟨m, hn, hl⟩ := I.loc
 obtain ⟨u, r, l⟩ := hl i x v hN e hv
 have fin : EP X pins σ Q u s := ⟨v, H, I, r, h⟩
 rcases l with ⟨hk, hm⟩ | ⟨hk, c, hc, hcell⟩
 ·exact wpAny_Name (wpAny_loadName_local I.ok.kind hk hn hm fin) hd
 ·rcases hk with hk | hk
  ·exact wpAny_Name (wpAny_loadName_cell I.ok.kind hk hc hcell fin) hd
  ·exact wpAny_Name (wpAny_loadName_free I.ok.kind hk hc hcell fin hcd) hd
theorem zc {i j pos} : PE X (.Constant (.int i) j pos) (tC (.int i)) := fun _ _ _ H _ I h => wpAny_Constant_int ⟨.int i, H, I.tok _, ⟨_, rfl⟩, h⟩
theorem yB {b j pos} : PE X (.Constant (.bool b) j pos) (tC (.bl b)) := fun _ _ _ H _ I h => Constant_bool ⟨.bl b, H, I, rfl, h⟩
theorem qz {j pos} : PE X (.Constant .none j pos) (tC .non) := fun _ _ _ H _ I h => Constant_none ⟨.non, H, I, rfl, h⟩
theorem qT {x j pos} : PE X (.Constant (.str x) j pos) (tC (.str x)) := fun _ _ _ H _ I h => Calls.Constant_str ⟨.str x, H, I.tok _, ⟨_, rfl⟩, h⟩
def Gl (X : Cx) (x : Str) : Prop := X.env.kindOf x = some .globalImplicit
theorem Kh {E : Value -> Shared -> Prop} {pins : List (Addr × Obj)} {s : Shared} {σ : St} {H : Hp} {x : Str} {u : Value} {pos : Pos} {Q : Value -> Shared -> Prop} (I : Inv X pins σ H s) (hg : Gl X x) (hm : X.mg x = some u) (h : Q u s)
  (hd : (x == ("__debug__" : Str)) = false := by decide) : wpAny (model X.prog X.w) X.A (eval (.Name x pos) X.env) Q E s :=
 Calls.Name_function_global I.ok.kind hg (Calls.loadGlobal_global (by rw [I.ok.glob]; exact I.mod.glob.keeps I.bk) hm h) hd
theorem j0 {E : Value -> Shared -> Prop} {pins : List (Addr × Obj)} {s : Shared} {σ : St} {H : Hp} {x : Str} {u : Value} {pos : Pos} {Q : Value -> Shared -> Prop} (I : Inv X pins σ H s) (hg : Gl X x) (hm : X.mg x = none) (hv : bootBuiltins x = some u) (h : Q u s)
  (hn : x ≠ "__name__" := by decide) (hd : (x == ("__debug__" : Str)) = false := by decide) : wpAny (model X.prog X.w) X.A (eval (.Name x pos) X.env) Q E s := by
 obtain ⟨mb, h1, h2⟩ := I.mod.blt
 exact Calls.Name_function_global I.ok.kind hg (Calls.loadGlobal_builtin (by rw [I.ok.glob]; exact I.mod.glob.keeps I.bk) hm (by rw [I.ok.blt]; exact h1.keeps I.bk) ((h2 x hn).trans hv) h) hd
theorem zW {x : Str} {v : V} {u : Value} {pos : Pos} (hg : Gl X x) (hm : X.mg x = none) (hv : bootBuiltins x = some u) (r : zt v u) (hn : x ≠ "__name__" := by decide) (hd : (x == ("__debug__" : Str)) = false := by decide) : PE X (.Name x pos) (tC v) :=
 fun _ _ _ H _ I h => j0 I hg hm hv ⟨v, H, I, r, h⟩ hn hd
variable {a b : Expr} {ta tb : TE} {pos : Pos}
def PC (X : Cx) (op : CmpOp) (a b : Expr) (t : TE) : Prop :=
 ∀ (pins : List (Addr × Obj)) (s : Shared) (σ : St) (H : Hp) (Q : VK), Inv X pins σ H s -> t σ H Q ->
  wpAny (model X.prog X.w) X.A (eval a X.env) (fun v s₁ => wpAny (model X.prog X.w) X.A (eval b X.env) (fun u s₂ => wpAny (model X.prog X.w) X.A (compareOp op v u) (EP X pins σ Q) X.xe s₂) X.xe s₁) X.xe s
theorem Jk (b : Expr) {op : CmpOp} (h : op ≠ .In) (h2 : op ≠ .NotIn) : behindInMarks op b = false := by
 have e1 : (op == CmpOp.In) = false := by cases op <;> first | rfl | exact absurd rfl h
 have e2 : (op == CmpOp.NotIn) = false := by cases op <;> first | rfl | exact absurd rfl h2
 cases b <;> simp [behindInMarks, e1, e2]
def tB (t : TE) : TT := fun σ H Q => t σ H fun x H1 => ∃ c, x = .bl c /\ Q c H1
theorem V6 {op : CmpOp} {t : TE} (h : PC X op a b t) (h1 : behindInMarks op b = false := by first | exact Jk _ (by decide) (by decide) | rfl) : PT X (.Compare a [op] [b] pos) (tB t) := by
 intro pins s σ H Q I hw
 refine wpAny_isTrue_Compare1 (thn (h pins s σ H _ I hw) fun v s1 h1 => thn h1 fun u s2 h2 => thn h2 fun c s3 ⟨x, H1, I1, r1, q1⟩ => ?_) h1
 obtain ⟨d, rfl, q⟩ := q1
 cases r1
 exact wpAny_truthy_bool ⟨H1, I1, q⟩
theorem jn {e : Expr} {t : TE} (h : PE X e t) (he : ∀ whole, isTrue e X.env whole = (do let v <- whole; standAt e.pos; holding [v] (truthy v)) := by intro _; rfl) : PT X e (tB t) := by
 intro pins s σ H Q I hw
 refine isTrue_plain (thn (h pins s σ H _ I hw) fun v s1 ⟨x, H1, I1, r1, q1⟩ => ?_) (he _)
 obtain ⟨d, rfl, q⟩ := q1
 cases r1
 exact wpAny_truthy_bool ⟨H1, I1, q⟩
variable {tA tB' : TT} {qf : List Expr}
def Vf (t u : TT) : TT := fun σ H Q => t σ H fun c H1 => if c = true then u σ H1 Q else Q false H1
def tOr (t u : TT) : TT := fun σ H Q => t σ H fun c H1 => if c = true then Q true H1 else u σ H1 Q
def YK (t : TT) : TT := fun σ H Q => t σ H fun c H1 => Q (!c) H1
theorem yj (ha : PT X a tA) : PW X (.BoolOp .And [a] pos) tA := by
 intro wh pins s σ H Q I h
 refine isTrue_and (thn (ha pins s σ H Q I h) fun c s1 e => ?_)
 cases c with
 | true => exact isTrue_and_nil e
 | false => exact e
theorem xg (ha : PT X a tA) : PW X (.BoolOp .Or [a] pos) tA := by
 intro wh pins s σ H Q I h
 refine isTrue_or (thn (ha pins s σ H Q I h) fun c s1 e => ?_)
 cases c with
 | false => exact isTrue_or_nil e
 | true => exact e
theorem vz (ha : PT X a tA) (hb : PW X (.BoolOp .And (b :: qf) pos) tB') : PW X (.BoolOp .And (a :: b :: qf) pos) (Vf tA tB') := by
 intro wh pins s σ H Q I h
 refine isTrue_and (thn (ha pins s σ H _ I h) fun c s1 ⟨H1, I1, q1⟩ => ?_)
 cases c with
 | true => exact hb wh pins s1 σ H1 Q I1 q1
 | false => exact ⟨H1, I1, q1⟩
theorem ve (ha : PT X a tA) (hb : PW X (.BoolOp .Or (b :: qf) pos) tB') : PW X (.BoolOp .Or (a :: b :: qf) pos) (tOr tA tB') := by
 intro wh pins s σ H Q I h
 refine isTrue_or (thn (ha pins s σ H _ I h) fun c s1 ⟨H1, I1, q1⟩ => ?_)
 cases c with
 | true => exact ⟨H1, I1, q1⟩
 | false => exact hb wh pins s1 σ H1 Q I1 q1
theorem j3 (ha : PT X a tA) : PT X (.UnaryOp .Not a pos) (YK tA) := by
 intro pins s σ H Q I h
 exact isTrue_not (ha pins s σ H (fun c H1 => Q (!c) H1) I h)
def Z0 (ta tb : TE) : TE := fun σ H Q => ta σ H fun x H1 => ∃ c, x = .bl c /\ if c = true then tb σ H1 Q else Q (.bl false) H1
theorem vC {op} {t : TE} (h : PE X a t) : PE X (.BoolOp op [a] pos) t := fun pins s σ H Q I hw => BoolOp_one (h pins s σ H Q I hw)
theorem xW (ha : PE X a ta) (hb : PE X (.BoolOp .And (b :: qf) pos) tb) : PE X (.BoolOp .And (a :: b :: qf) pos) (Z0 ta tb) := by
 intro pins s σ H Q I h
 refine BoolOp_and (thn (ha pins s σ H _ I h) fun v s1 ⟨x, H1, I1, r1, q1⟩ => ?_)
 obtain ⟨c, rfl, q1⟩ := q1
 cases r1
 refine wpAny_truthy_bool ?_
 cases c with
 | true => exact hb pins s1 σ H1 Q I1 q1
 | false => exact ⟨.bl false, H1, I1, rfl, q1⟩
def tIf (t : TT) (ta tb : TE) : TE := fun σ H Q => t σ H fun c H1 => if c = true then ta σ H1 Q else tb σ H1 Q
theorem QP {c : Expr} (hc : PT X c tA) (ha : PE X a ta) (hb : PE X b tb) : PE X (.IfExp c a b pos) (tIf tA ta tb) := by
 intro pins s σ H Q I h
 refine wpAny_IfExp (thn (hc pins s σ H _ I h) fun d s1 ⟨H1, I1, q1⟩ => ?_)
 cases d with
 | true => exact ha pins s1 σ H1 Q I1 q1
 | false => exact hb pins s1 σ H1 Q I1 q1
end
end L2
namespace L2
open PySem PySem.Spec PyProof.Rows
def SqL (K : PySem.W.Frag) (H : Hp) (a : Addr) (xs : List V) : Prop :=
 Rd H a (.lst xs) \/
  ∃ (o : Obj) (its : Array Value) (n : Nat), K.lookup a = some o /\ o.cls = .type "list" /\ o.dict = none /\ o.data = .seq its n /\ its.size <= sizeLine /\ zp xs its.toList
def SqT (K : PySem.W.Frag) (H : Hp) (a : Addr) (xs : List V) : Prop :=
 Rd H a (.tup xs) \/
  ∃ (o : Obj) (its : Array Value) (n : Nat), K.lookup a = some o /\ o.cls = .type "tuple" /\ o.data = .seq its n /\ its.size <= sizeLine /\ zp xs its.toList
def Wa : Value -> Option V
 | .none => some .non
 | .bool b => some (.bl b)
 | .int i _ => some (.int i)
 | .str x _ => some (.str x)
 | .bytes b _ => some (.byt b)
 | .float b _ => some (.flt b)
 | .ref a => some (.ref a)
 | .type n => some (.ty n)
 | _ => none
theorem zt.abs {x : V} {u : Value} (r : zt x u) : Wa u = some x := by
 cases x with
 | non => cases r; rfl
 | bl _ => cases r; rfl
 | int _ => obtain ⟨t, rfl⟩ := r; rfl
 | str _ => obtain ⟨t, rfl⟩ := r; rfl
 | byt _ => obtain ⟨t, rfl⟩ := r; rfl
 | flt _ => obtain ⟨t, rfl⟩ := r; rfl
 | ref _ => cases r; rfl
 | ty _ => cases r; rfl
theorem zt.inj {x y : V} {u : Value} (r : zt x u) (q : zt y u) : x = y := Option.some.inj (r.abs.symm.trans q.abs)
theorem zp.inj : ∀ {xs ys : List V} {us : List Value}, zp xs us -> zp ys us -> xs = ys
 | _, _, _, .nil, .nil => rfl
 | _, _, _, .cons r t, .cons r' t' => by rw [r.inj r', zp.inj t t']
section
variable {X : Cx} {pins : List (Addr × Obj)} {σ : St} {H : Hp} {s : Shared} {a : Addr} {xs ys : List V}
theorem SqL.of {K : PySem.W.Frag} (h : H a = some (.lst xs)) : SqL K H a xs := .inl (.inl h)
theorem SqT.of {K : PySem.W.Frag} (h : H a = some (.tup xs)) : SqT K H a xs := .inl (.inl h)
theorem Inv.list (I : Inv X pins σ H s) (h : SqL X.K H a xs) : ∃ its : List Value, zp xs its /\ PlainL s.heap a its.toArray /\ xs.length <= sizeLine := by
 rcases h with h | ⟨o, its, n, hk, hc, hd, hs, hz, r⟩
 ·obtain ⟨z, its, n, r, e⟩ := h.ok I.hok
  exact ⟨its, r, ⟨_, n, e, rfl, rfl, rfl⟩, z⟩
 ·refine ⟨its.toList, r, ⟨o, n, I.kIn a o hk, hc, hd, by simpa using hs⟩, ?_⟩
  have e := r.length
  simp only [Array.length_toList] at e
  omega
theorem Inv.tuple (I : Inv X pins σ H s) (h : SqT X.K H a xs) : ∃ its : List Value, zp xs its /\ IsTup s.heap a its.toArray /\ xs.length <= sizeLine := by
 rcases h with h | ⟨o, its, n, hk, hc, hs, hz, r⟩
 ·obtain ⟨z, its, r, p⟩ := h.ok I.hok
  exact ⟨its, r, p, z⟩
 ·refine ⟨its.toList, r, ⟨o, I.kIn a o hk, hc, n, by simpa using hs⟩, ?_⟩
  have e := r.length
  simp only [Array.length_toList] at e
  omega
theorem Inv.list_inj (I : Inv X pins σ H s) (h : SqL X.K H a xs) (h' : SqL X.K H a ys) : xs = ys := by
 obtain ⟨its, r, ⟨o, n, e, _, _, d⟩, _⟩ := I.list h
 obtain ⟨its', r', ⟨o', n', e', _, _, d'⟩, _⟩ := I.list h'
 rw [e] at e'; cases e'
 rw [d] at d'
 injection d' with d1 _
 have : its = its' := by simpa using congrArg Array.toList d1
 subst this
 exact r.inj r'
theorem Inv.tuple_inj (I : Inv X pins σ H s) (h : SqT X.K H a xs) (h' : SqT X.K H a ys) : xs = ys := by
 obtain ⟨its, r, ⟨o, e, _, n, d⟩, _⟩ := I.tuple h
 obtain ⟨its', r', ⟨o', e', _, n', d'⟩, _⟩ := I.tuple h'
 rw [e] at e'; cases e'
 rw [d] at d'
 injection d' with d1 _
 have : its = its' := by simpa using congrArg Array.toList d1
 subst this
 exact r.inj r'
end
abbrev Cx.wish (X : Cx) (E : Value -> Shared -> Prop) : Cx := { X with xe := E }
abbrev Cx.nox (X : Cx) : Cx := X.wish fun _ _ => False
theorem Cx.Ok.wish {X : Cx} (ok : X.Ok) (E : Value -> Shared -> Prop) : (X.wish E).Ok :=
 ⟨ok.mod, ok.kind, ok.glob, ok.blt, ok.above, ok.inj, ok.has, ok.cab, ok.hd, ok.frames, ok.stk, ok.exf, ok.bs, ok.bsz, ok.noex, ok.exfs, ok.funs, ok.frf⟩
theorem Cx.Ok.unwish {X : Cx} {E : Value -> Shared -> Prop} (ok : (X.wish E).Ok) : X.Ok :=
 ⟨ok.mod, ok.kind, ok.glob, ok.blt, ok.above, ok.inj, ok.has, ok.cab, ok.hd, ok.frames, ok.stk, ok.exf, ok.bs, ok.bsz, ok.noex, ok.exfs, ok.funs, ok.frf⟩
section
variable {X : Cx} {pins : List (Addr × Obj)} {σ : St} {H : Hp} {s : Shared} {E : Value -> Shared -> Prop}
theorem Inv.wish (I : Inv X pins σ H s) (E : Value -> Shared -> Prop) : Inv (X.wish E) pins σ H s := ⟨I.ok.wish E, I.os, I.bare, I.base, I.loc, I.cell, I.free, I.freeC, I.pin, I.hok, I.len⟩
theorem Inv.unwish (I : Inv (X.wish E) pins σ H s) : Inv X pins σ H s := ⟨I.ok.unwish, I.os, I.bare, I.base, I.loc, I.cell, I.free, I.freeC, I.pin, I.hok, I.len⟩
theorem SP.unwish {D : jG} {f : Flow} {s' : Shared} (h : SP (X.wish E) pins D f s') : SP X pins D f s' := by
 cases f with
 | next => obtain ⟨σ', H', I, q⟩ := h; exact ⟨σ', H', I.unwish, q⟩
 | brk => obtain ⟨σ', H', I, q⟩ := h; exact ⟨σ', H', I.unwish, q⟩
 | cont => obtain ⟨σ', H', I, q⟩ := h; exact ⟨σ', H', I.unwish, q⟩
 | ret u => obtain ⟨v, σ', H', I, r, q⟩ := h; exact ⟨v, σ', H', I.unwish, r, q⟩
theorem PSs.nox {st : List Stmt} {t : TS} (h : PSs X.nox st t) : PSs X st t := fun pins s σ H D I hw =>
 wpAny_mono (h pins s σ H D (I.wish _) hw) (fun _ _ q => q.unwish) fun _ _ z => False.elim z
end
section
variable {X : Cx} {st : Stmt} {qf : List Stmt} {t u : TS} {e : Expr} {te : TE} {pos : Pos}
def ZK : TS := fun D σ H => D.nx σ H
def yG (t u : TS) : TS := fun D σ H => t { D with nx := u D } σ H
theorem zH : PSs X [] ZK := fun _ _ σ H _ I h => wpAny_execs_nil ⟨σ, H, I, h⟩
theorem zg (h1 : PS X st t) (h2 : PSs X qf u) : PSs X (st :: qf) (yG t u) := by
 intro pins s σ H D I h
 refine wpAny_execs_cons (thn (h1 pins s σ H { D with nx := u D } I h) fun f s1 q => ?_)
 cases f with
 | next =>
  obtain ⟨σ', H', I', q⟩ := q
  exact h2 pins s1 σ' H' D I' q
 | ret v => exact q
 | brk => exact q
 | cont => exact q
theorem zm (h1 : PS X st t) : PSs X [st] t := by
 intro pins s σ H D I h
 refine wpAny_execs_cons (thn (h1 pins s σ H D I h) fun f s1 q => ?_)
 cases f with
 | next => exact wpAny_execs_nil q
 | ret v => exact q
 | brk => exact q
 | cont => exact q
theorem Inv.quiet {pins : List (Addr × Obj)} {σ : St} {H : Hp} {s : Shared} (I : Inv X pins σ H s) : interactive X.env = false := by simp [interactive, I.ok.kind]
def Qg (te : TE) : TS := fun D σ H => te σ H fun _ H1 => D.nx σ H1
theorem qV (he : PE X e te) (hs : swapsWith e none pos.line X.env = pure false := by rfl) : PS X (.Expr e pos) (Qg te) := by
 intro pins s σ H D I h
 exact wpAny_Expr_any (thn (he pins s σ H _ I h) fun v s1 ⟨x, H1, I1, r1, q1⟩ => ⟨σ, H1, I1, q1⟩) I.quiet hs
def KM (te : TE) : TS := fun D σ H => te σ H D.rt
theorem zQ (he : PE X e te) : PS X (.Return (some e) pos) (KM te) := by
 intro pins s σ H D I h
 exact wpAny_Return_some (thn (he pins s σ H _ I h) fun v s1 ⟨x, H1, I1, r1, q1⟩ => ⟨x, σ, H1, I1, r1, q1⟩)
def Xo (c : TT) (t u : TS) : TS := fun D σ H => c σ H fun b H1 => if b = true then t D σ H1 else u D σ H1
theorem qk {c : Expr} {a b : List Stmt} {tc : TT} (hc : PT X c tc) (ha : PSs X a t) (hb : PSs X b u) : PS X (.If c a b pos) (Xo tc t u) := by
 intro pins s σ H D I h
 refine wpAny_If (thn (hc pins s σ H _ I h) fun d s1 ⟨H1, I1, q1⟩ => ?_)
 cases d with
 | true => exact ha pins s1 σ H1 D I1 q1
 | false => exact hb pins s1 σ H1 D I1 q1
end
abbrev TG := V -> St -> Hp -> (St -> Hp -> Prop) -> Prop
abbrev TGs := List V -> St -> Hp -> (St -> Hp -> Prop) -> Prop
def PG (X : Cx) (target : Expr) (t : TG) : Prop :=
 ∀ (pins : List (Addr × Obj)) (s : Shared) (σ : St) (H : Hp) (v : V) (u : Value) (Q : St -> Hp -> Prop), Inv X pins σ H s -> zt v u -> t v σ H Q ->
  wpAny (model X.prog X.w) X.A (assign target X.env u) (fun _ s' => ∃ σ' H', Inv X pins σ' H' s' /\ Q σ' H') X.xe s
def PGs (X : Cx) (ts : List Expr) (t : TGs) : Prop :=
 ∀ (pins : List (Addr × Obj)) (s : Shared) (σ : St) (H : Hp) (vs : List V) (us : List Value) (Q : St -> Hp -> Prop), Inv X pins σ H s -> zp vs us -> t vs σ H Q ->
  wpAny (model X.prog X.w) X.A (assignInOrder ((assignEach ts X.env).map (·.2)) us) (fun _ s' => ∃ σ' H', Inv X pins σ' H' s' /\ Q σ' H') X.xe s
abbrev JQ := V -> V -> V -> Hp -> (Hp -> Prop) -> Prop
def YI (X : Cx) (t : JQ) : Prop :=
 ∀ (pins : List (Addr × Obj)) (s : Shared) (σ : St) (H : Hp) (o i v : V) (ov iv u : Value) (Q : Hp -> Prop), Inv X pins σ H s -> zt o ov -> zt i iv -> zt v u -> t o i v H Q ->
  wpAny (model X.prog X.w) X.A (setItem ov iv u) (fun _ s' => ∃ H', Inv X pins σ H' s' /\ Q H') X.xe s
abbrev TIp := V -> V -> Hp -> VK -> Prop
section
variable {X : Cx} {pos : Pos}
def vi (i : Nat) : TG := fun v σ H Q => Q (σ.set i (some v)) H
theorem zu {i : Nat} {x : Str} (hN : X.N.Nodup) (hi : X.N[i]? = some x) (hx : Loc X.env.scope x) (hf : X.fn x = true \/ X.env.scope.names.lookup x = some .local := by first | exact .inl rfl | exact .inr rfl | assumption) : PG X (.Name x pos) (vi i) := by
 intro pins s σ H v u Q I r h
 exact wpAny_assign_Name (qx I hN hi hx r (fun s' I' => ⟨_, H, I', h⟩) hf)
def XB : TGs := fun vs σ H Q => vs = [] /\ Q σ H
def Qo (t : TG) (u : TGs) : TGs := fun vs σ H Q => ∃ v r, vs = v :: r /\ t v σ H fun σ' H' => u r σ' H' Q
theorem qD : PGs X [] XB := by
 intro pins s σ H vs us Q I r h
 obtain ⟨e, h⟩ := h
 subst e
 cases r
 exact assignInOrder_nil ⟨σ, H, I, h⟩
theorem zF {e : Expr} {es : List Expr} {t : TG} {u : TGs} (h1 : PG X e t) (h2 : PGs X es u)
  (hs : (assignEach (e :: es) X.env).map (·.2) = assign e X.env :: (assignEach es X.env).map (·.2) := by rfl) : PGs X (e :: es) (Qo t u) := by
 intro pins s σ H vs us Q I r h
 obtain ⟨v, vr, e1, h⟩ := h
 subst e1
 cases r with
 | cons r rr =>
  rw [hs]
  refine assignInOrder_cons (thn (h1 pins s σ H _ _ _ I r h) fun _ s1 ⟨σ1, H1, I1, q1⟩ => ?_)
  exact h2 pins s1 σ1 H1 _ _ Q I1 rr q1
def Kw (K : PySem.W.Frag) (n : Nat) (t : TGs) : TG := fun v σ H Q => ∃ a xs, v = .ref a /\ SqT K H a xs /\ xs.length = n /\ t xs σ H Q
theorem Xm {es : List Expr} {k : Nat} {t : TGs} {n : Nat} (hc : X.calm = true) (h : PGs X es t)
  (hn : (assignEach es X.env).length = n := by rfl) (hst : (assignEach es X.env).findIdx? (·.1) = none := by rfl) : PG X (.Tuple es k pos) (Kw X.K n t) := by
 intro pins s σ H v u Q I r hw
 obtain ⟨a, xs, e1, hq, hl, hw⟩ := hw
 subst e1
 cases r
 obtain ⟨its, rv, ht, hz⟩ := I.tuple hq
 refine assign_Tuple_tuple (I.ok.hd hc) ht (by simp [hn, <- hl, rv.length]) hst fun h' hx => ?_
 have I1 : Inv X pins σ H { s with heap := h' } := I.kept (t' := s.toks) fun b o e => hx b o (Nat.ne_of_lt (Heap.lt_size e)) e
 exact h pins _ σ H xs _ Q I1 (by simpa using rv) hw
def Vq (to ti : TE) (t : JQ) : TG := fun v σ H Q => to σ H fun o H1 => ti σ H1 fun i H2 => t o i v H2 fun H3 => Q σ H3
theorem qJ {o i : Expr} {to ti : TE} {t : JQ} (ho : PE X o to) (hi : PE X i ti) (hs : YI X t)
  (ha : ∀ v, assign (.Subscript o i pos) X.env v = (do
   let ov <- holding [v] (eval o X.env)
   let iv <- holding [v, ov] (eval i X.env)
   standAt pos
   holding [v, ov, iv] (setItem ov iv v)
   release [v, ov, iv] []) := by intro _; rfl) : PG X (.Subscript o i pos) (Vq to ti t) := by
 intro pins s σ H v u Q I r h
 rw [ha]
 refine wpAny_bind (wpAny_holding (thn (ho pins s σ H _ I h) fun ov s1 ⟨x, H1, I1, r1, q1⟩ => ?_))
 refine wpAny_bind (wpAny_holding (thn (hi pins s1 σ H1 _ I1 q1) fun iv s2 ⟨y, H2, I2, r2, q2⟩ => ?_))
 refine wpAny_bind (wpAny_standAt (wpAny_bind (wpAny_holding (thn (hs pins s2 σ H2 x y v ov iv u _ I2 r1 r2 r q2) fun _ s3 ⟨H3, I3, q3⟩ => ?_))))
 exact wpAny_release ⟨σ, H3, I3, q3⟩
def Jm (te : TE) (g : TG) : TS := fun D σ H => te σ H fun x H1 => g x σ H1 D.nx
theorem qU {tg e : Expr} {te : TE} {g : TG} (he : PE X e te) (hg : PG X tg g) (hs : swapsWithSole [tg] e pos.line X.env = pure false := by rfl) (hw : swappedStores [tg] e X.env = pure none := by rfl)
  (h1 : (assignEach [tg] X.env).map (·.2) = [assign tg X.env] := by rfl) : PS X (.Assign [tg] e pos) (Jm te g) := by
 intro pins s σ H D I h
 refine wpAny_Assign_stores (thn (he pins s σ H _ I h) fun v s1 ⟨x, H1, I1, r1, q1⟩ => ?_) hs hw
 rw [h1]
 exact thn (hg pins s1 σ H1 x v _ I1 r1 q1) fun _ s2 q => q
theorem zM {i : Nat} {x : Str} {e : Expr} {te : TE} {pos' : Pos} (hN : X.N.Nodup) (hi : X.N[i]? = some x) (hx : Loc X.env.scope x) (he : PE X e te) (hs : swapsWith e (some (.Name x pos')) pos.line X.env = pure false := by rfl) (hf : X.fn x = true \/ X.env.scope.names.lookup x = some .local := by first | exact .inl rfl | exact .inr rfl | assumption) :
  PS X (.Assign [.Name x pos'] e pos) (Jm te (vi i)) := by
 intro pins s σ H D I h
 refine wpAny_Assign_Name (thn (he pins s σ H _ I h) fun v s1 ⟨y, H1, I1, r1, q1⟩ => ?_) hs
 exact qx I1 hN hi hx r1 (fun s2 I2 => ⟨_, H1, I2, q1⟩) hf
def VV (i j : Nat) (ta : TA) : TS := fun D σ H => ta σ H fun vs H1 => ∃ v w, vs = [v, w] /\ D.nx ((σ.set i (some v)).set j (some w)) H1
theorem Xz {i j : Nat} {x y : Str} {a b : Expr} {ta : TA} {px py pt : Pos} {kt k2 pt2} (hc : X.calm = true) (hN : X.N.Nodup) (hi : X.N[i]? = some x) (hj : X.N[j]? = some y) (hij : i ≠ j)
  (hx : X.env.scope.names.lookup x = some .local) (hy : X.env.scope.names.lookup y = some .local) (ha : PA X [a, b] ta)
  (hw : swappedStores [.Tuple [.Name x px, .Name y py] kt pt] (.Tuple [a, b] k2 pt2) X.env = pure (some [x, y]))
  (hs : swapsWithSole [.Tuple [.Name x px, .Name y py] kt pt] (.Tuple [a, b] k2 pt2) pos.line X.env = pure false := by rfl) :
  PS X (.Assign [.Tuple [.Name x px, .Name y py] kt pt] (.Tuple [a, b] k2 pt2) pos) (VV i j ta) := by
 intro pins s σ H D I h
 rw [exec_Assign_arm]
 refine wpAny_bind (wpAny_standAt ?_)
 rw [hs]
 refine wpAny_bind (wpAny_pure ?_)
 rw [if_neg (by decide)]
 refine wpAny_bind (Tuple_ (thn (ha _ pins s σ H _ I h) fun us s1 ⟨vs, H1, I1, r1, q1⟩ => ?_))
 obtain ⟨v, w, e1, q1⟩ := q1
 subst e1
 obtain ⟨u1, u2, rfl, rv, rw'⟩ : ∃ u1 u2, us = [u1, u2] /\ zt v u1 /\ zt w u2 := by
  cases r1 with
  | cons p q =>
   cases q with
   | cons p' q' =>
    cases q'
    exact ⟨_, _, rfl, p, p'⟩
 refine wpAny_newObj_type ?_ (by show 2 <= sizeLine; decide)
 have I2 : Inv X pins σ H1 { s1 with heap := s1.heap.push { cls := .type "tuple", data := .seq [u1, u2].toArray } } := I1.kept (t' := s1.toks) fun b o e => Heap.get?_push_of_some _ e
 rw [hw]
 refine wpAny_bind (wpAny_pure ?_)
 show wpAny (model X.prog X.w) X.A (do rule "assign.swapped-stores"; let items <- unpackItems (.ref s1.heap.objs.size) 2 none; assignInOrder [fun v => bindName X.env y v, fun v => bindName X.env x v] items.reverse; pure Flow.next) _ _ _
 refine wpAny_bind (wpAny_rule (wpAny_bind (unpackItems_tuple (items := #[u1, u2]) (I.ok.hd hc) (IsTup.new s1.heap _) fun h' hx' => ?_)))
 have I3 := I2.kept (h' := h') (t' := s1.toks) fun b o e => hx' b o (Nat.ne_of_lt (Heap.lt_size e)) e
 show wpAny _ _ (assignInOrder [fun v => bindName X.env y v, fun v => bindName X.env x v] [u2, u1] >>= fun _ => pure Flow.next) _ _ _
 refine wpAny_bind (assignInOrder_cons (wpAny_bindName (qx I3 hN hj (.inl hy) rw' (fun s2 I4 => ?_) (.inr hy))))
 refine assignInOrder_cons (wpAny_bindName (qx I4 hN hi (.inl hx) rv (fun s3 I5 => assignInOrder_nil (wpAny_pure ?_)) (.inr hx)))
 rw [List.set_comm _ _ (Ne.symm hij)] at I5
 exact ⟨_, H1, I5, q1⟩
end
section
variable {X : Cx} {pos : Pos}
end
structure It where
 go : Nat -> Hp -> Prop
 yld : Nat -> Hp -> V -> Hp -> Prop
 stop : Nat -> Hp -> Prop
def jy (X : Cx) (pins : List (Addr × Obj)) (H : Hp) (b : Addr) : Prop :=
 H b = none /\ b ≠ X.env.locals /\ b ∉ X.fs /\ (b ∈ X.ex \/ X.s₀.heap.objs.size <= b) /\ (∀ x c, X.env.cells.lookup x = some c -> c ≠ b) /\ ∀ p ∈ X.pn ++ pins, p.1 ≠ b
theorem Inv.fpOk {X : Cx} {pins : List (Addr × Obj)} {σ : St} {H H' : Hp} {s : Shared} {b : Addr} (I : Inv X pins σ H s) (hb : s.heap.objs.size <= b) (hn : H' b = none) : jy X pins H' b := by
 refine ⟨hn, Nat.ne_of_gt (Nat.lt_of_lt_of_le I.lt hb), I.nofs hb, .inr (Nat.le_trans I.sz hb), fun x c e z => ?_, fun p hp z => ?_⟩
 ·obtain ⟨v, q⟩ := I.cell x c e
  exact absurd (Nat.lt_of_lt_of_le q.lt (by rw [z]; exact hb)) (Nat.lt_irrefl _)
 ·exact absurd (Nat.lt_of_lt_of_le (Heap.lt_size (I.pin p hp).1) (by rw [z]; exact hb)) (Nat.lt_irrefl _)
structure yE (P : Program) (w : World) (K : PySem.W.Frag) (tg : Expr) (J : It) (fp : List Addr) (it : Addr) (tn : Nat -> Heap -> Prop) : Prop where
 mem : it ∈ fp
 obj : ∀ i h, tn i h -> ∀ b ∈ fp, ∃ o, h.get? b = some o /\ ∀ v, o.data ≠ .cell v
 keep : ∀ i h h', tn i h -> (∀ b ∈ fp, ∀ o, h.get? b = some o -> h'.get? b = some o) -> tn i h'
 item : ∀ (X : Cx), X.prog = P -> X.w = w -> X.K = K -> X.calm = true -> ∀ (i : Nat) (pins : List (Addr × Obj)) (s : Shared) (σ : St) (H : Hp) (E : Value -> Shared -> Prop), Inv X pins σ H s -> (∀ b ∈ fp, jy X pins H b) -> tn i s.heap -> J.go i H ->
  wpAny (model P w) X.A (pyNext (.ref it)) (fun r s1 => ∃ u, r = some u /\
   wpAny (model P w) X.A (letOwnedTupleGo tg (.ref it) u) (fun _ s2 => ∃ x H', Inv X pins σ H' s2 /\ zt x u /\ J.yld i H x H' /\ tn (i + 1) s2.heap /\ ∀ b ∈ fp, H' b = none) E s1) E s
 done : ∀ (X : Cx), X.prog = P -> X.w = w -> X.K = K -> X.calm = true -> ∀ (i : Nat) (pins : List (Addr × Obj)) (s : Shared) (σ : St) (H : Hp) (E : Value -> Shared -> Prop), Inv X pins σ H s -> (∀ b ∈ fp, jy X pins H b) -> tn i s.heap -> J.stop i H ->
  wpAny (model P w) X.A (pyNext (.ref it)) (fun r s1 => r = none /\ Inv X pins σ H s1) E s
 self : ∀ (A : Around) (i : Nat) (s : Shared) (Q : Value -> Shared -> Prop) (E : Value -> Shared -> Prop), tn i s.heap -> Q (.ref it) s -> wpAny (model P w) A (pyIter (.ref it)) Q E s
abbrev TI := St -> Hp -> (It -> Hp -> Prop) -> Prop
def PIE (X : Cx) (pins : List (Addr × Obj)) (σ : St) (tg : Expr) (R : It -> Hp -> Prop) (itv : Value) (s2 : Shared) : Prop :=
 ∃ (it : Addr) (fp : List Addr) (tn : Nat -> Heap -> Prop) (J : It) (H' : Hp), itv = .ref it /\ Inv X pins σ H' s2 /\ yE X.prog X.w X.K tg J fp it tn /\ tn 0 s2.heap /\ (∀ b ∈ fp, jy X pins H' b) /\ R J H'
def PI (X : Cx) (tg iter : Expr) (wi : TI) : Prop :=
 ∀ (pins : List (Addr × Obj)) (s : Shared) (σ : St) (H : Hp) (R : It -> Hp -> Prop), Inv X pins σ H s -> wi σ H R ->
  wpAny (model X.prog X.w) X.A (eval iter X.env) (fun v s1 => wpAny (model X.prog X.w) X.A (pyIter v) (PIE X pins σ tg R) X.xe s1) X.xe s
theorem QK {M : Model} {A : Around} {E : Value -> Shared -> Prop} {s : Shared} {tg : Expr} {it : Addr} {u : Value} {o : Obj} {n : String} {vs : Array Value} {Q : Unit -> Shared -> Prop} (ho : s.heap.get? it = some o) (hc : o.cls = .type n) (hd : o.data = .fields vs)
    (hn : ["enumerate", "zip", "dict_itemiterator", "dict_reverseitemiterator", "odict_iterator", "itertools.zip_longest", "itertools.pairwise"].contains n = false) (hQ : Q () s) : wpAny M A (letOwnedTupleGo tg (.ref it) u) Q E s := by
  unfold letOwnedTupleGo
  cases tg <;> first
    | exact wpAny_pure hQ
    | (cases u <;> first
        | exact wpAny_pure hQ
        | (refine wpAny_bind (wpAny_load ho ?_)
           rw [hc, hd]
           show wpAny M A (if (["enumerate", "zip", "dict_itemiterator", "dict_reverseitemiterator", "odict_iterator", "itertools.zip_longest", "itertools.pairwise"].contains n && vs[0]? == some (rawInt _)) = true then _ else _) Q E s
           rw [if_neg (by intro h; rw [hn, Bool.false_and] at h; cases h)]
           exact wpAny_pure hQ))
def Itl (K : PySem.W.Frag) (a : Addr) : It :=
 ⟨fun i H => ∃ xs x, SqL K H a xs /\ xs[i]? = some x, fun i H x H' => H' = H /\ ∀ xs, SqL K H a xs -> xs[i]? = some x, fun i H => ∃ xs, SqL K H a xs /\ xs.length <= i⟩
def Itt (K : PySem.W.Frag) (a : Addr) : It :=
 ⟨fun i H => ∃ xs x, SqT K H a xs /\ xs[i]? = some x, fun i H x H' => H' = H /\ ∀ xs, SqT K H a xs -> xs[i]? = some x, fun i H => ∃ xs, SqT K H a xs /\ xs.length <= i⟩
def Itr (lo : Int) (n : Nat) : It := ⟨fun i _ => i < n, fun i H x H' => H' = H /\ x = .int (lo + i), fun i _ => n <= i⟩
theorem Zo {P : Program} {w : World} {K : PySem.W.Frag} {tg : Expr} (a it : Addr) : yE P w K tg (Itl K a) [it] it (fun i h => h.IsListIter it a i) where
 mem := by simp
 obj := fun i h st b hb => by
  have e : b = it := by simpa using hb
  subst e
  obtain ⟨o, e, c, d⟩ := st
  exact ⟨o, e, fun v z => by rw [d] at z; cases z⟩
 keep := fun i h h' st k => st.at fun o e => k it (by simp) o e
 item := by
  intro X hP hw hK hc i pins s σ H E I hf st hg
  subst hP hw hK
  obtain ⟨xs, x, hq, hx⟩ := hg
  obtain ⟨its, rv, p, hz⟩ := I.list hq
  obtain ⟨u, hu, ru⟩ := rv.get hx
  obtain ⟨f0, f1, f2, f3, f4, f5⟩ := hf it (by simp)
  refine wpAny_pyNext_list_item st p.isList (x := u) (by simpa using hu) fun h' st' sb => ?_
  have I1 : Inv X pins σ H { s with heap := h' } := I.turned (t' := s.toks) (fun b o hb e => (sb.2 b hb).trans e) f0 f1 f3 f4 f5
  obtain ⟨o, e, c, d⟩ := id st'
  exact ⟨u, rfl, QK (s := { s with heap := h' }) e c d (by decide) ⟨x, H, I1, ru, ⟨rfl, fun ys hy => by rw [I.list_inj hy hq]; exact hx⟩, st', fun b hb => (hf b hb).1⟩⟩
 done := by
  intro X hP hw hK hc i pins s σ H E I hf st hg
  subst hP hw hK
  obtain ⟨xs, hq, hx⟩ := hg
  obtain ⟨its, rv, p, hz⟩ := I.list hq
  obtain ⟨f0, f1, f2, f3, f4, f5⟩ := hf it (by simp)
  have hl := rv.length
  exact wpAny_pyNext_list_end (I.ok.hd hc) st p.isList (by simp; omega) fun h' eb => ⟨rfl, I.turned (t' := s.toks) (fun b o hb e => eb b o hb e) f0 f1 f3 f4 f5⟩
 self := fun _ _ _ _ _ st h => wpAny_pyIter_listiter st h
theorem vy {P : Program} {w : World} {K : PySem.W.Frag} {tg : Expr} (a it : Addr) : yE P w K tg (Itt K a) [it] it (fun i h => h.IsTupleIter it a i) where
 mem := by simp
 obj := fun i h st b hb => by
  have e : b = it := by simpa using hb
  subst e
  obtain ⟨o, e, c, d⟩ := st
  exact ⟨o, e, fun v z => by rw [d] at z; cases z⟩
 keep := fun i h h' st k => st.at fun o e => k it (by simp) o e
 item := by
  intro X hP hw hK hc i pins s σ H E I hf st hg
  subst hP hw hK
  obtain ⟨xs, x, hq, hx⟩ := hg
  obtain ⟨its, rv, p, hz⟩ := I.tuple hq
  obtain ⟨u, hu, ru⟩ := rv.get hx
  obtain ⟨f0, f1, f2, f3, f4, f5⟩ := hf it (by simp)
  refine wpAny_pyNext_tuple_item st (show s.heap.IsTuple a its.toArray from p) (x := u) (by simpa using hu) fun h' st' sb => ?_
  have I1 : Inv X pins σ H { s with heap := h' } := I.turned (t' := s.toks) (fun b o hb e => (sb.2 b hb).trans e) f0 f1 f3 f4 f5
  obtain ⟨o, e, c, d⟩ := id st'
  exact ⟨u, rfl, QK (s := { s with heap := h' }) e c d (by decide) ⟨x, H, I1, ru, ⟨rfl, fun ys hy => by rw [I.tuple_inj hy hq]; exact hx⟩, st', fun b hb => (hf b hb).1⟩⟩
 done := by
  intro X hP hw hK hc i pins s σ H E I hf st hg
  subst hP hw hK
  obtain ⟨xs, hq, hx⟩ := hg
  obtain ⟨its, rv, p, hz⟩ := I.tuple hq
  obtain ⟨f0, f1, f2, f3, f4, f5⟩ := hf it (by simp)
  have hl := rv.length
  exact wpAny_pyNext_tuple_end (I.ok.hd hc) st (show s.heap.IsTuple a its.toArray from p) (by simp; omega) fun h' eb => ⟨rfl, I.turned (t' := s.toks) (fun b o hb e => eb b o hb e) f0 f1 f3 f4 f5⟩
 self := fun _ _ _ _ _ st h => wpAny_pyIter_tupleiter st h
theorem vB {P : Program} {w : World} {K : PySem.W.Frag} {tg : Expr} (it : Addr) (lo : Int) (n : Nat) : yE P w K tg (Itr lo n) [it] it (fun i h => IsRangeIter h it (lo + (i : Nat) * 1) ((n : Int) - (i : Nat)) 1) where
 mem := by simp
 obj := fun i h st b hb => by
  have e : b = it := by simpa using hb
  subst e
  exact ⟨_, st, fun v z => by
   have z' : Data.fields _ = Data.cell v := z
   cases z'⟩
 keep := fun i h h' st k => k it (by simp) _ st
 item := by
  intro X hP hw hK hc i pins s σ H E I hf st hg
  subst hP hw hK
  obtain ⟨f0, f1, f2, f3, f4, f5⟩ := hf it (by simp)
  have W := Walks.range (prog := X.prog) (w := X.w) (I.ok.hd hc) it lo 1 n
  refine W.item i s _ _ hg st fun v h' tk hv st' kk => ?_
  obtain ⟨t, rfl⟩ := hv
  have I1 : Inv X pins σ H { s with heap := h', toks := tk } := I.turned (fun b o hb e => kk b o (by simpa using hb) e) f0 f1 f3 f4 f5
  refine ⟨_, rfl, QK (s := { s with heap := h', toks := tk }) (n := "range_iterator") st' rfl rfl (by decide) ⟨.int (lo + i), H, I1, ⟨t, ?_⟩, ⟨rfl, rfl⟩, st', fun b hb => (hf b hb).1⟩⟩
  rw [Int.mul_one]
 done := by
  intro X hP hw hK hc i pins s σ H E I hf st hg
  subst hP hw hK
  obtain ⟨f0, f1, f2, f3, f4, f5⟩ := hf it (by simp)
  exact wpAny_pyNext_range_end (I.ok.hd hc) st (by have : n <= i := hg; omega) fun h' eb => ⟨rfl, I.turned (t' := s.toks) (fun b o hb e => eb b o hb e) f0 f1 f3 f4 f5⟩
 self := fun _ _ _ _ _ st h => wpAny_pyIter_rangeiter st h
end L2
namespace L2
open PySem PySem.Spec PyProof.Rows
section
variable {X : Cx} {tg : Expr}
theorem Z6 {pins : List (Addr × Obj)} {σ : St} {H : Hp} {s : Shared} {R : It -> Hp -> Prop} {E : Value -> Shared -> Prop} {lo hi : Int} {t u v : Tok} {tk : Nat} (I : Inv X pins σ H s) (h1 : -(2 ^ 62) <= lo) (h2 : lo < 2 ^ 62) (h3 : -(2 ^ 62) <= hi) (h4 : hi < 2 ^ 62)
  (q : R (Itr lo (hi - lo).toNat) H) : wpAny (model X.prog X.w) X.A (pyIter (.ref s.heap.objs.size)) (PIE X pins σ tg R) E { s with heap := s.heap.push { cls := .type "range", data := .fields #[.int lo t, .int hi u, .int 1 v] }, toks := tk } := by
 refine wpAny_pyIter_range (IsRange.new ..) (small_one h1 h2 h3 h4) ?_
 have I1 : Inv X pins σ H { s with heap := s.heap.push { cls := .type "range", data := .fields #[.int lo t, .int hi u, .int 1 v] }, toks := tk } := I.kept fun b o e => Heap.get?_push_of_some _ e
 refine ⟨(s.heap.push { cls := .type "range", data := .fields #[.int lo t, .int hi u, .int 1 v] }).objs.size, [(s.heap.push { cls := .type "range", data := .fields #[.int lo t, .int hi u, .int 1 v] }).objs.size], _, _, H, rfl,
  I1.kept (t' := tk) fun b o e => Heap.get?_push_of_some _ e, vB _ lo (hi - lo).toNat, ?_, fun b hb => ?_, q⟩
 ·have e1 : lo + ((0 : Nat) : Int) * 1 = lo := by simp
  have e2 : (((hi - lo).toNat : Nat) : Int) - ((0 : Nat) : Int) = Builtin.Range.rangeSize lo hi 1 := by rw [rangeSize_one]; split <;> omega
  show IsRangeIter _ _ (lo + ((0 : Nat) : Int) * 1) ((((hi - lo).toNat : Nat) : Int) - ((0 : Nat) : Int)) 1
  rw [e1, e2]
  exact Heap.get?_push_size _ rfl
 ·have e : b = (s.heap.push { cls := .type "range", data := .fields #[.int lo t, .int hi u, .int 1 v] }).objs.size := by simpa using hb
  subst e
  exact I1.fpOk (Nat.le_refl _) (I1.hok.fresh (Nat.le_refl _))
def Qp (ta : TA) : TI := fun σ H R => ta σ H fun vs H1 => ∃ j : Int, vs = [.int j] /\ -(2 ^ 62) <= j /\ j < 2 ^ 62 /\ R (Itr 0 j.toNat) H1
theorem qN {a : Expr} {ta : TA} {p pos : Pos} (hg : Gl X "range") (hm : X.mg "range" = none) (ha : PA X [a] ta) (hs : starEach [a] X.env = [(false, eval a X.env)] := by rfl) : PI X tg (.Call (.Name "range" p) [a] [] pos) (Qp ta) := by
 intro pins s σ H R I h
 refine Call_ (j0 I hg hm boot_range (PyProof.Rows.callWith_type1 (thn (ha pos pins s σ H _ I h) fun us s1 ⟨vs, H1, I1, r1, q1⟩ => ?_) hs rfl))
 obtain ⟨j, e, q1, q2, q⟩ := q1
 subst e
 cases r1 with
 | cons r rr =>
  cases rr
  obtain ⟨t, rfl⟩ := r
  exact call_range_1 (Z6 I1 (by omega) (by omega) q1 q2 (by simpa using q))
def XG (wi : TI) (g : TG) (tb : TS) : TS := fun D σ H => wi σ H fun J H1 => ∃ W : Nat -> Nat -> St -> Hp -> Prop, (∃ m, W 0 m σ H1) /\ ∀ i m σ H, W i m σ H ->
 (J.stop i H /\ D.nx σ H) \/ (J.go i H /\ ∃ N : St -> Hp -> Prop, (∀ σ' H', N σ' H' -> ∃ m', m' < m /\ W (i + 1) m' σ' H') /\ ∀ x H', J.yld i H x H' -> g x σ H' fun σ2 H2 => tb { D with nx := N, ct := N, bk := D.nx } σ2 H2)
def jU (fp : List Addr) (h : Heap) : List (Addr × Obj) := fp.filterMap fun b => (h.get? b).map fun o => (b, o)
theorem qh {fp : List Addr} {h : Heap} {b : Addr} {o : Obj} (hb : b ∈ fp) (e : h.get? b = some o) : (b, o) ∈ jU fp h := List.mem_filterMap.mpr ⟨b, hb, by rw [e]; rfl⟩
theorem Zg {fp : List Addr} {h : Heap} {p : Addr × Obj} (hp : p ∈ jU fp h) : p.1 ∈ fp /\ h.get? p.1 = some p.2 := by
 obtain ⟨b, hb, e⟩ := List.mem_filterMap.mp hp
 cases q : h.get? b with
 | none => rw [q] at e; cases e
 | some o =>
  rw [q] at e
  have e' : (b, o) = p := Option.some.inj e
  subst e'
  exact ⟨hb, q⟩
theorem Inv.pinned {pins : List (Addr × Obj)} {σ : St} {H : Hp} {s : Shared} {fp : List Addr} (I : Inv X pins σ H s) (hf : ∀ b ∈ fp, jy X pins H b) (ho : ∀ b ∈ fp, ∃ o, s.heap.get? b = some o /\ ∀ v, o.data ≠ .cell v) : Inv X (pins ++ jU fp s.heap) σ H s :=
 I.pins_of fun p hp => (List.mem_append.mp hp).elim (fun z => I.pin p (List.mem_append_right _ z)) fun z => by
  obtain ⟨hb, e⟩ := Zg z
  obtain ⟨f0, f1, f2, _⟩ := hf p.1 hb
  obtain ⟨o, e', d⟩ := ho p.1 hb
  rw [e] at e'; cases e'
  exact ⟨e, f0, f1, f2, d⟩
theorem Inv.unpinned {pins pl : List (Addr × Obj)} {σ : St} {H : Hp} {s : Shared} (I : Inv X (pins ++ pl) σ H s) : Inv X pins σ H s := I.pins_of fun p hp => I.pin p (List.mem_append_right _ (List.mem_append_left _ hp))
theorem jE {iter : Expr} {body : List Stmt} {wi : TI} {g : TG} {tb : TS} {pos : Pos} (hp : PassesOwn (model X.prog X.w) X.A X.env X.xe) (hc : X.calm = true) (hi : PI X tg iter wi) (hg : PG X tg g) (hb : PSs X body tb)
  (hs : ∀ x, foldedSetIterable iter X.env x = pure x := by intro _; rfl) : PS X (.For tg iter body [] pos) (XG wi g tb) := by
 intro pins s σ H D I h
 refine wpAny_For (thn (hi pins s σ H _ I h) fun v s1 h1 => thn h1 fun itv s2 h2 => ?_) hs
 obtain ⟨it, fp, tn, J, H2, e, I2, T, st2, f2, W, ⟨m0, w0⟩, turn⟩ := h2
 subst e
 have stat : ∀ {H' : Hp}, (∀ b ∈ fp, H' b = none) -> ∀ b ∈ fp, jy X pins H' b := fun hn b hb => ⟨hn b hb, (f2 b hb).2⟩
 refine codeAny_forLoop_any (fun n s' => ∃ i σ' H', Inv X pins σ' H' s' /\ tn i s'.heap /\ (∀ b ∈ fp, H' b = none) /\ W i n σ' H') ?_ m0 ⟨0, σ, H2, I2, st2, fun b hb => (f2 b hb).1, w0⟩
 rintro n s3 ⟨i, σ3, H3, I3, st3, fr3, w3⟩
 rcases turn i n σ3 H3 w3 with ⟨stop, qn⟩ | ⟨go, N, hN, step⟩
 ·refine wpAny_passesOwn hp (thn (T.done X rfl rfl rfl hc i pins s3 σ3 H3 X.xe I3 (stat fr3) st3 stop) fun r s4 ⟨hr, I4⟩ => ?_)
  subst hr
  exact wpAny_execs_nil ⟨σ3, H3, I4, qn⟩
 ·refine wpAny_passesOwn hp (thn (T.item X rfl rfl rfl hc i pins s3 σ3 H3 X.xe I3 (stat fr3) st3 go) fun r s4 ⟨u, hr, h4⟩ => ?_)
  subst hr
  refine wpAny_passesOwn hp (thn h4 fun _ s5 ⟨x, H5, I5, r5, y5, st5, fr5⟩ => ?_)
  have I5' := I5.pinned (stat fr5) (T.obj _ _ st5)
  refine wpAny_passesOwn hp (thn (hg _ s5 σ3 H5 x u _ I5' r5 (step x H5 y5)) fun _ s6 ⟨σ6, H6, I6, q6⟩ => ?_)
  refine wpAny_passesOwn hp (thn (hb _ s6 σ6 H6 _ I6 q6) fun f s7 q7 => ?_)
  have again : ∀ {σ7 : St} {H7 : Hp}, Inv X (pins ++ jU fp s5.heap) σ7 H7 s7 -> N σ7 H7 -> ∃ m, m < n /\ ∃ i σ' H', Inv X pins σ' H' s7 /\ tn i s7.heap /\ (∀ b ∈ fp, H' b = none) /\ W i m σ' H' := fun {σ7 H7} I7 n7 => by
   obtain ⟨m', hm, w7⟩ := hN σ7 H7 n7
   refine ⟨m', hm, i + 1, σ7, H7, I7.unpinned, T.keep _ _ _ st5 fun b hb o e => (I7.pin (b, o) (List.mem_append_right _ (List.mem_append_right _ (qh hb e)))).1, fun b hb => ?_, w7⟩
   obtain ⟨o, e, d⟩ := T.obj _ _ st5 b hb
   exact (I7.pin (b, o) (List.mem_append_right _ (List.mem_append_right _ (qh hb e)))).2.1
  cases f with
  | next => obtain ⟨σ7, H7, I7, n7⟩ := q7; exact again I7 n7
  | cont => obtain ⟨σ7, H7, I7, n7⟩ := q7; exact again I7 n7
  | brk => obtain ⟨σ7, H7, I7, q7⟩ := q7; exact ⟨σ7, H7, I7.unpinned, q7⟩
  | ret v => obtain ⟨x7, σ7, H7, I7, r7, q7⟩ := q7; exact ⟨x7, σ7, H7, I7.unpinned, r7, q7⟩
end
theorem Zd {lo : Int} {n : Nat} {g : TG} {tb : TS} {D : jG} {σ : St} {H : Hp} (Pv : Nat -> St -> Hp -> Prop) (h0 : Pv 0 σ H)
  (hs : ∀ i σ H, i < n -> Pv i σ H -> g (.int (lo + i)) σ H fun σ2 H2 => tb { D with nx := Pv (i + 1), ct := Pv (i + 1), bk := D.nx } σ2 H2) (hd : ∀ σ H, Pv n σ H -> D.nx σ H) :
  ∃ W : Nat -> Nat -> St -> Hp -> Prop, (∃ m, W 0 m σ H) /\ ∀ i m σ H, W i m σ H ->
   ((Itr lo n).stop i H /\ D.nx σ H) \/ ((Itr lo n).go i H /\ ∃ N : St -> Hp -> Prop, (∀ σ' H', N σ' H' -> ∃ m', m' < m /\ W (i + 1) m' σ' H') /\ ∀ x H', (Itr lo n).yld i H x H' -> g x σ H' fun σ2 H2 => tb { D with nx := N, ct := N, bk := D.nx } σ2 H2) := by
 refine ⟨fun i m σ H => m = n - i /\ i <= n /\ Pv i σ H, ⟨n, by simp, Nat.zero_le _, h0⟩, ?_⟩
 rintro i m σ H ⟨rfl, hi, p⟩
 by_cases hlt : i < n
 ·refine .inr ⟨hlt, Pv (i + 1), fun σ' H' p' => ⟨n - (i + 1), by omega, rfl, hlt, p'⟩, fun x H' y => ?_⟩
  obtain ⟨e, y⟩ := y
  subst e y
  exact hs i σ _ hlt p
 ·have e : i = n := by omega
  subst e
  exact .inl ⟨Nat.le_refl _, hd σ H p⟩
end L2
namespace L2
open PySem PySem.Spec PyProof.Rows
abbrev R2 := V -> V -> Hp -> VK -> Prop
def OpR (X : Cx) (f : Value -> Value -> Sem Value) (r : R2) : Prop :=
 ∀ (pins : List (Addr × Obj)) (s : Shared) (σ : St) (H : Hp) (x y : V) (v u : Value) (Q : VK), Inv X pins σ H s -> zt x v -> zt y u -> r x y H Q ->
  wpAny (model X.prog X.w) X.A (f v u) (EP X pins σ Q) X.xe s
def qo (X : Cx) (f : Value) (r : List V -> Hp -> VK -> Prop) : Prop :=
 ∀ (pins : List (Addr × Obj)) (s : Shared) (σ : St) (H : Hp) (xs : List V) (us : List Value) (Q : VK), Inv X pins σ H s -> zp xs us -> r xs H Q ->
  wpAny (model X.prog X.w) X.A (call f us) (EP X pins σ Q) X.xe s
def tOp (r : R2) (ta tb : TE) : TE := fun σ H Q => ta σ H fun x H1 => tb σ H1 fun y H2 => r x y H2 Q
def rI (C : Int -> Int -> Prop) (g : Int -> Int -> V) : R2 := fun x y H Q => ∃ i j, x = .int i /\ y = .int j /\ C i j /\ Q (g i j) H
def rI0 (g : Int -> Int -> V) : R2 := fun x y H Q => ∃ i j, x = .int i /\ y = .int j /\ Q (g i j) H
section
variable {X : Cx} {a b c : Expr} {ta tb tc : TE} {pos : Pos}
theorem Yr (ha : PE X a ta) (hb : PE X b tb) {pins : List (Addr × Obj)} {s : Shared} {σ : St} {H : Hp} {R : V -> V -> Hp -> Prop} (I : Inv X pins σ H s)
  (h : ta σ H fun x H1 => tb σ H1 fun y H2 => R x y H2) {Q : Value -> Shared -> Prop} {f : Value -> Value -> Sem Value}
  (hf : ∀ v u s2 x y H2, Inv X pins σ H2 s2 -> zt x v -> zt y u -> R x y H2 -> wpAny (model X.prog X.w) X.A (f v u) Q X.xe s2) :
  wpAny (model X.prog X.w) X.A (eval a X.env) (fun v s₁ => wpAny (model X.prog X.w) X.A (eval b X.env) (fun u s₂ => wpAny (model X.prog X.w) X.A (f v u) Q X.xe s₂) X.xe s₁) X.xe s := by
 refine thn (ha pins s σ H _ I h) fun v s1 ⟨x, H1, I1, r1, q1⟩ => ?_
 refine thn (hb pins s1 σ H1 _ I1 q1) fun u s2 ⟨y, H2, I2, r2, q2⟩ => ?_
 exact hf v u s2 x y H2 I2 r1 r2 q2
theorem zo {op : Operator} {r : R2} (ho : OpR X (binaryOp op) r) (ha : PE X a ta) (hb : PE X b tb) : PE X (.BinOp a op b pos) (tOp r ta tb) := by
 intro pins s σ H Q I h
 exact wpAny_BinOp (Yr ha hb I h fun v u s2 x y H2 I2 rx ry q => ho pins s2 σ H2 x y v u Q I2 rx ry q)
theorem opI {f : Value -> Value -> Sem Value} {C : Int -> Int -> Prop} {g : Int -> Int -> Int}
  (rule : ∀ (i j : Int) (t u : Tok) (s : Shared) (Q : Value -> Shared -> Prop) (E : Value -> Shared -> Prop), C i j -> Q (.int (g i j) s.toks) { s with toks := s.toks + 1 } -> wpAny (model X.prog X.w) X.A (f (.int i t) (.int j u)) Q E s) :
  OpR X f (rI C fun i j => .int (g i j)) := by
 intro pins s σ H x y v u Q I rx ry h
 obtain ⟨i, j, rfl, rfl, hc, q⟩ := h
 obtain ⟨t, rfl⟩ := rx
 obtain ⟨t', rfl⟩ := ry
 exact rule i j t t' s _ _ hc ⟨.int (g i j), H, I.tok _, ⟨_, rfl⟩, q⟩
theorem Vm {f : Value -> Value -> Sem Value} {g : Int -> Int -> Int}
  (rule : ∀ (i j : Int) (t u : Tok) (s : Shared) (Q : Value -> Shared -> Prop) (E : Value -> Shared -> Prop), Q (.int (g i j) s.toks) { s with toks := s.toks + 1 } -> wpAny (model X.prog X.w) X.A (f (.int i t) (.int j u)) Q E s) :
  OpR X f (rI0 fun i j => .int (g i j)) := by
 intro pins s σ H x y v u Q I rx ry h
 obtain ⟨i, j, rfl, rfl, q⟩ := h
 obtain ⟨t, rfl⟩ := rx
 obtain ⟨t', rfl⟩ := ry
 exact rule i j t t' s _ _ ⟨.int (g i j), H, I.tok _, ⟨_, rfl⟩, q⟩
theorem Y7 {f : Value -> Value -> Sem Value} {g : Int -> Int -> Bool}
  (rule : ∀ (i j : Int) (t u : Tok) (s : Shared) (Q : Value -> Shared -> Prop) (E : Value -> Shared -> Prop), Q (.bool (g i j)) s -> wpAny (model X.prog X.w) X.A (f (.int i t) (.int j u)) Q E s) :
  OpR X f (rI0 fun i j => .bl (g i j)) := by
 intro pins s σ H x y v u Q I rx ry h
 obtain ⟨i, j, rfl, rfl, q⟩ := h
 obtain ⟨t, rfl⟩ := rx
 obtain ⟨t', rfl⟩ := ry
 exact rule i j t t' s _ _ ⟨.bl (g i j), H, I, rfl, q⟩
def Xd (i j : Int) : Prop := 0 < j /\ j < 1073741824
def V4 (i j : Int) : Prop := 0 <= j /\ j <= 1000000 /\ i.natAbs < 2 ^ 64
def QS (i j : Int) : Prop := (-(2 ^ 64) < i /\ i < 2 ^ 64) \/ (-(2 ^ 64) < j /\ j < 2 ^ 64)
theorem QS.ok {i j : Int} (h : QS i j) : IntMulOk i j := by
 rcases h with ⟨h1, h2⟩ | ⟨h1, h2⟩
 ·exact .of_left (intBits_le_64 h1 h2)
 ·exact .of_right (intBits_le_64 h1 h2)
theorem zY : OpR X (binaryOp .Add) (rI0 fun i j => .int (i + j)) := Vm fun _ _ _ _ _ _ _ q => add_int q
theorem jm : OpR X (binaryOp .Sub) (rI0 fun i j => .int (i - j)) := Vm fun _ _ _ _ _ _ _ q => sub_int q
theorem qZ : OpR X (binaryOp .Mult) (rI QS fun i j => .int (i * j)) := opI fun _ _ _ _ _ _ _ hc q => mul_int q hc.ok
theorem KL : OpR X (binaryOp .FloorDiv) (rI Xd fun i j => .int (i / j)) := opI fun i j _ _ _ _ _ hc q => by
 have h1 : (0 : Int) < j := hc.1
 have h2 : j < 1073741824 := hc.2
 exact floordiv_int (by omega) (by rw [Int.fdiv_eq_ediv_of_nonneg i (by omega)]; exact q) (.inl (PyProof.noPylong_small (by omega)))
theorem qG : OpR X (binaryOp .Mod) (rI (fun _ j => 0 < j) fun i j => .int (i % j)) := opI fun i j _ _ _ _ _ hc q => by
 have h1 : (0 : Int) < j := hc
 exact mod_int' (by omega) (by rw [Int.fmod_eq_emod_of_nonneg i (by omega)]; exact q)
theorem x0 : OpR X (binaryOp .Pow) (rI V4 fun i j => .int (i ^ j.toNat)) := opI fun _ _ _ _ _ _ _ hc q => pow_int_small hc.1 hc.2.1 hc.2.2 q
end
def V3 : V -> V -> Bool
 | .non, .non => true | .non, .int _ => true | .int _, .non => true | .non, .bl _ => true | .bl _, .non => true | .non, .str _ => true | .str _, .non => true
 | .int _, .int _ => true | .bl _, .bl _ => true | .str _, .str _ => true | .byt _, .byt _ => true
 | .int _, .str _ => true | .str _, .int _ => true | .bl _, .str _ => true | .str _, .bl _ => true
 | _, _ => false
def rEq : R2 := fun x y H Q => V3 x y = true /\ Q (.bl (decide (x = y))) H
theorem Jz {i j : Int} : decide (V.int i = V.int j) = (i == j) := by
 rw [Bool.eq_iff_iff]
 simp
theorem Yt {i j : Bool} : decide (V.bl i = V.bl j) = (i == j) := by
 rw [Bool.eq_iff_iff]
 simp
theorem J7 {i j : Str} : decide (V.str i = V.str j) = (i == j) := by
 rw [Bool.eq_iff_iff]
 simp
theorem JG {i j : Array UInt8} : decide (V.byt i = V.byt j) = (i.toList == j.toList) := by
 rw [Bool.eq_iff_iff]
 cases i
 cases j
 simp
section
variable {X : Cx} {a b c : Expr} {ta tb tc : TE} {pos : Pos}
theorem zS {pins : List (Addr × Obj)} {σ : St} {H : Hp} {s : Shared} {Q : VK} {k k' : Bool} (I : Inv X pins σ H s) (q : Q (.bl k) H) (e : k = k') : EP X pins σ Q (.bool k') s := by
 subst e
 exact ⟨.bl k, H, I, rfl, q⟩
theorem wC : OpR X (compareOp .Eq) rEq := by
 intro pins s σ H x y v u Q I rx ry h
 obtain ⟨hs, q⟩ := h
 cases x with
 | non =>
  cases rx
  cases y with
  | non => cases ry; exact PySem.EqNone.eq_none_none (zS I q (by simp))
  | bl j => cases ry; exact PySem.EqNone.eq_none_bool (zS I q (by simp))
  | int j => obtain ⟨t', rfl⟩ := ry; exact PySem.EqNone.eq_none_int (zS I q (by simp))
  | str j => obtain ⟨t', rfl⟩ := ry; exact PySem.EqNone.eq_none_str (zS I q (by simp))
  | _ => exact absurd (show false = true from hs) Bool.false_ne_true
 | bl i =>
  cases rx
  cases y with
  | non => cases ry; exact PySem.EqNone.eq_bool_none (zS I q (by simp))
  | bl j => cases ry; exact eq_bool (zS I q Yt)
  | str j => obtain ⟨t', rfl⟩ := ry; exact PySem.EqMixed.eq_bool_str (zS I q (by simp))
  | _ => exact absurd (show false = true from hs) Bool.false_ne_true
 | int i =>
  obtain ⟨t, rfl⟩ := rx
  cases y with
  | non => cases ry; exact PySem.EqNone.eq_int_none (zS I q (by simp))
  | int j => obtain ⟨t', rfl⟩ := ry; exact eq_int (zS I q Jz)
  | str j => obtain ⟨t', rfl⟩ := ry; exact PySem.EqMixed.eq_int_str (zS I q (by simp))
  | _ => exact absurd (show false = true from hs) Bool.false_ne_true
 | str i =>
  obtain ⟨t, rfl⟩ := rx
  cases y with
  | non => cases ry; exact PySem.EqNone.eq_str_none (zS I q (by simp))
  | bl j => cases ry; exact PySem.EqMixed.eq_str_bool (zS I q (by simp))
  | int j => obtain ⟨t', rfl⟩ := ry; exact PySem.EqMixed.eq_str_int (zS I q (by simp))
  | str j => obtain ⟨t', rfl⟩ := ry; exact eq_str (zS I q J7)
  | _ => exact absurd (show false = true from hs) Bool.false_ne_true
 | byt i =>
  obtain ⟨t, rfl⟩ := rx
  cases y with
  | byt j => obtain ⟨t', rfl⟩ := ry; exact PySem.W.eq_bytes (zS I q JG)
  | _ => exact absurd (show false = true from hs) Bool.false_ne_true
 | _ => cases y <;> exact absurd (show false = true from hs) Bool.false_ne_true
theorem Xa : OpR X (compareOp .Gt) (rI0 fun i j => .bl (decide (j < i))) := Y7 fun _ _ _ _ _ _ _ q => gt_int q
theorem Vg : OpR X (compareOp .GtE) (rI0 fun i j => .bl (decide (j <= i))) := Y7 fun _ _ _ _ _ _ _ q => ge_int q
theorem vA : OpR X (compareOp .Is) (fun x y H Q => y = .non /\ Q (.bl (decide (x = .non))) H) := by
 intro pins s σ H x y v u Q I rx ry h
 obtain ⟨rfl, q⟩ := h
 cases ry
 refine is_none_gen (zS I q ?_)
 cases x <;> first
  | (cases rx; rfl)
  | (obtain ⟨t, rfl⟩ := rx; rfl)
theorem yh : OpR X (compareOp .IsNot) (fun x y H Q => y = .non /\ Q (.bl (!decide (x = .non))) H) := by
 intro pins s σ H x y v u Q I rx ry h
 obtain ⟨rfl, q⟩ := h
 cases ry
 refine isnot_none_gen (zS I q ?_)
 cases x <;> first
  | (cases rx; rfl)
  | (obtain ⟨t, rfl⟩ := rx; rfl)
theorem zy (b : Expr) {op : CmpOp} (h : op ≠ .In := by decide) (h2 : op ≠ .NotIn := by decide) : behindInMarks op b = false := by
 have e1 : (op == CmpOp.In) = false := by cases op <;> first | rfl | exact absurd rfl h
 have e2 : (op == CmpOp.NotIn) = false := by cases op <;> first | rfl | exact absurd rfl h2
 cases b <;> simp [behindInMarks, e1, e2]
theorem qi {op : CmpOp} {r : R2} (ho : OpR X (compareOp op) r) (ha : PE X a ta) (hb : PE X b tb) (hm : behindInMarks op b = false) : PE X (.Compare a [op] [b] pos) (tOp r ta tb) := by
 intro pins s σ H Q I h
 exact wpAny_Compare1 (Yr ha hb I h fun v u s2 x y H2 I2 rx ry q => ho pins s2 σ H2 x y v u Q I2 rx ry q) hm
def QZ (t : TE) : TT := fun σ H Q => t σ H fun x H' => ∃ k, x = .bl k /\ Q k H'
theorem zD {op : CmpOp} {r : R2} (ho : OpR X (compareOp op) r) (ha : PE X a ta) (hb : PE X b tb) (hm : behindInMarks op b = false) : PT X (.Compare a [op] [b] pos) (QZ (tOp r ta tb)) := by
 intro pins s σ H Q I h
 refine wpAny_isTrue_Compare1 (thn (ha pins s σ H _ I h) fun v s1 ⟨x, H1, I1, r1, q1⟩ => thn (hb pins s1 σ H1 _ I1 q1) fun u s2 ⟨y, H2, I2, r2, q2⟩ =>
  thn (ho pins s2 σ H2 x y v u _ I2 r1 r2 q2) fun c s3 ⟨z, H3, I3, r3, k, e, q3⟩ => ?_) hm
 subst e
 cases r3
 exact wpAny_truthy_bool ⟨H3, I3, q3⟩
theorem yt : (sizeLine : Nat) < 2 ^ 63 := by rw [sizeLine_eq]; decide
theorem jB {x : V} {us : List Value} (r : zp [x] us) : ∃ u, us = [u] /\ zt x u := by
 cases r with
 | cons r1 r2 => cases r2; exact ⟨_, rfl, r1⟩
theorem vg {x y : V} {us : List Value} (r : zp [x, y] us) : ∃ u w', us = [u, w'] /\ zt x u /\ zt y w' := by
 cases r with
 | cons r1 r2 =>
  cases r2 with
  | cons r3 r4 => cases r4; exact ⟨_, _, rfl, r1, r3⟩
theorem yZ : qo X (.builtin "abs") (fun xs H Q => ∃ i, xs = [.int i] /\ Q (.int (if i < 0 then -i else i)) H) := by
 intro pins s σ H xs us Q I r h
 obtain ⟨i, rfl, q⟩ := h
 obtain ⟨u, rfl, t, rfl⟩ := jB r
 exact call_abs_int fun u tk => ⟨.int (if i < 0 then -i else i), H, I.tok _, ⟨_, rfl⟩, q⟩
theorem ZE (hc : X.calm = true) : qo X (.builtin "max") (fun xs H Q => ∃ i j, xs = [.int i, .int j] /\ Q (.int (if j > i then j else i)) H) := by
 intro pins s σ H xs us Q I r h
 obtain ⟨i, j, rfl, q⟩ := h
 obtain ⟨u, w', rfl, ⟨t, rfl⟩, ⟨t', rfl⟩⟩ := vg r
 refine max_two_ints (I.ok.hd hc) fun h' tk k => ⟨_, H, I.kept k, ?_, q⟩
 by_cases hj : j > i
 ·rw [if_pos hj, if_pos hj]; exact ⟨_, rfl⟩
 ·rw [if_neg hj, if_neg hj]; exact ⟨_, rfl⟩
theorem wX : qo X (.type "int") (fun xs H Q => (∃ i, xs = [.int i] /\ Q (.int i) H) \/ ∃ k, xs = [.bl k] /\ Q (.int (if k then 1 else 0)) H) := by
 intro pins s σ H xs us Q I r h
 rcases h with ⟨i, rfl, q⟩ | ⟨k, rfl, q⟩
 ·obtain ⟨u, rfl, t, rfl⟩ := jB r
  exact call_int_int ⟨.int i, H, I, ⟨_, rfl⟩, q⟩
 ·obtain ⟨u, rfl, r1⟩ := jB r
  cases r1
  exact call_int_bool ⟨.int (if k then 1 else 0), H, I.tok _, ⟨_, rfl⟩, q⟩
theorem yK : qo X (.builtin "divmod") (fun xs H Q => ∃ i j, xs = [.int i, .int j] /\ Xd i j /\ ∀ p, H p = none -> Q (.ref p) (upd H p (.tup [.int (i / j), .int (i % j)]))) := by
 intro pins s σ H xs us Q I r h
 obtain ⟨i, j, rfl, ⟨h1, h2⟩, q⟩ := h
 obtain ⟨u, w', rfl, ⟨t, rfl⟩, ⟨t', rfl⟩⟩ := vg r
 refine divmod_int (by omega) ?_ (.inl (PyProof.noPylong_small (by omega)))
 rw [Int.fdiv_eq_ediv_of_nonneg i (by omega), Int.fmod_eq_emod_of_nonneg i (by omega)]
 have hn : H s.heap.objs.size = none := I.hok.fresh (Nat.le_refl _)
 refine ⟨.ref s.heap.objs.size, _, ?_, rfl, q _ hn⟩
 refine I.laid (fun b o e => Heap.get?_push_of_some _ e) (Nat.le_refl _) ⟨by simp only [List.length_cons, List.length_nil]; rw [sizeLine_eq]; decide, [.int (i / j) s.toks, .int (i % j) (s.toks + 1)], .cons ⟨_, rfl⟩ (.cons ⟨_, rfl⟩ .nil), ?_⟩
 exact ⟨_, Heap.get?_push_size s.heap rfl, rfl, 0, rfl⟩
end
end L2
namespace L2
open PySem PySem.Spec PyProof.Rows
structure ZV (h : Heap) (x dx C : Addr) (mA : Str -> Option Value) : Prop where
 obj : h.get? x = some (PySem.W.instObj C dx)
 ns : h.Ns1 dx mA
 ne : dx ≠ x
theorem wQ {h : Heap} {dx : Addr} {mA : Str -> Option Value} (n : h.Ns1 dx mA) : ∃ od, h.get? dx = some od /\ ∀ name, PySem.W.lookIn name od = some (mA name) := by
 obtain ⟨o, es, ep, ho, hd, hk, _, hm⟩ := n
 refine ⟨o, ho, fun name => ?_⟩
 have e := hm name
 unfold nsFind findBy at e
 rw [<- Array.find?_toList] at e
 unfold PySem.W.lookIn
 rw [hd]
 dsimp only
 split
 ·rename_i y q
  rw [q] at e
  exact congrArg some e
 ·rename_i q
  rw [q] at e
  have a : es.toList.any (·.refKey) = false := by
   rw [List.any_eq_false]
   intro y hy
   obtain ⟨z, t, hkey⟩ := hk y (Array.mem_toList_iff.mp hy)
   simp [DictEntry.refKey, hkey]
  have a' : ¬ es.toList.any (·.refKey) = true := by rw [a]; exact Bool.false_ne_true
  rw [if_neg a']
  exact congrArg some e
theorem ZV.look {h : Heap} {x dx C : Addr} {mA : Str -> Option Value} (I : ZV h x dx C mA) : ∃ od, PySem.W.InstAt h x (PySem.W.instObj C dx) C (some od) /\ ∀ name, PySem.W.lookIn name od = some (mA name) :=
 let ⟨od, ho, hl⟩ := wQ I.ns
 ⟨od, ⟨I.obj, rfl, rfl, ho⟩, hl⟩
section
variable {prog : Program} {w : World} {A : Around} {E : Value -> Shared -> Prop} {s : Shared} {K : PySem.W.Frag} {x dx C f : Addr} {mA : Str -> Option Value} {name : Str} {v : Value}
theorem wI {ns : List Str} {Q : Unit -> Shared -> Prop} (X : K.In s.heap) (I : ZV s.heap x dx C mA)
  (hs : PySem.W.findIn K (.ref C) "__setattr__" = some (some (.builtin "object.__setattr__"))) (hp : PySem.W.plainOver K C = true) (ht : PySem.W.takerIn K C name = some none) (hh : PySem.W.hasDictIn K C = true)
  (hw : PySem.Within mA ns) (hsz : ns.length <= sizeLine)
  (h : ∀ h', ZV h' x dx C (fun y => if y = name then some v else mA y) -> Heap.SameBut dx s.heap h' -> Q () { s with heap := h', toks := s.toks + 2 }) :
  wpAny (model prog w) A (setAttr (.ref x) name v) Q E s := by
 obtain ⟨od, J, hl⟩ := I.look
 refine PySem.W.set_plain X J hs (PySem.W.osa_open (s := { s with toks := s.toks + 1 }) (r := none) X J hp ht fun b => ?_)
 obtain ⟨cd, hc, hd'⟩ := PySem.W.any_some hh
 have hx : s.heap.get? x = some ⟨.ref C, some dx, .plain, #[]⟩ := I.obj
 refine wpAny_bind (wpAny_pure (wpAny_bind (wpAny_bind (wpAny_loadPart hx (wpAny_bind (PySem.W.Looks.here (s := { s with toks := s.toks + 1 }) (PySem.W.looks_clsIn X hc) ?_))))))
 rw [hd']
 refine wpAny_pure (a := some dx) (wpAny_bind (wpAny_pure (wpAny_bind ?_)))
 refine wpAny_nsSet1 (s := { s with toks := s.toks + 1 }) I.ns fun h' hn2 hs2 => ?_
 obtain ⟨oD, esD, epD, hoD, hdD, hcD⟩ := hn2.count (PySem.Within.cons name v hw)
 refine wpAny_bind (wpAny_lookBehind hoD (by rw [hdD]; exact pastItsLine_dict (Nat.le_trans hcD (by rw [List.length_cons]; omega))) ?_)
 exact wpAny_pure (h _ ⟨(hs2.2 _ (Ne.symm I.ne)).trans I.obj, hn2, I.ne⟩ hs2)
end
section
variable {P : Program} {w : World} {H H' : Hp} {h h' : Heap} {a C dx : Addr} {fs fs' : List (Str × V)}
theorem KB (hok : HOk P w H h) (e : H a = some (.ins C dx fs)) : ∃ mA, ZV h a dx C mA /\ (∀ f, YJ (fs.lookup f) (mA f)) /\ PySem.Within mA (fs.map (·.1)) /\ fs.length <= 1000 /\ H dx = some (.own a) := by
 obtain ⟨d, z, ne, ob, mA, n, r, q⟩ := (show zG P w H h a (.ins C dx fs) from hok a _ e)
 exact ⟨mA, ⟨ob, n, ne⟩, r, q, z, d⟩
end
structure Cls (K : PySem.W.Frag) (C : Addr) : Prop where
 pg : PySem.W.plainGet K C Str.empty = true
 hd : PySem.W.hasDictIn K C = true
 po : PySem.W.plainOver K C = true
 sa : PySem.W.findIn K (.ref C) "__setattr__" = some (some (.builtin "object.__setattr__"))
theorem Cls.get {K : PySem.W.Frag} {C : Addr} (c : Cls K C) (f : Str) : PySem.W.plainGet K C f = true := c.pg
structure Con (K : PySem.W.Frag) (C : Addr) (f : Str) (v : V) (u : Value) : Prop where
 at_ : PySem.W.findIn K (.ref C) f = some (some u)
 rel : zt v u
 get : PySem.W.specialIn K u "__get__" = some none
 cp : PySem.W.copiedNames.contains f = false
structure V1 (K : PySem.W.Frag) (C : Addr) (m : Str) (f : Addr) : Prop where
 at_ : PySem.W.findIn K (.ref C) m = some (some (.ref f))
 fn : PySem.W.isFn K (.ref f) = true
 kp : PySem.W.keepIn K (.ref f) = true
section
variable {X : Cx} {pins : List (Addr × Obj)} {σ : St} {H : Hp} {s : Shared} {a C dx : Addr} {fs : List (Str × V)} {f : Str} {v : V} {A : Around} {E : Value -> Shared -> Prop}
end
section
variable {X : Cx} {o e value : Expr} {f : Str} {pos pos' tpos : Pos} {ta tv : TE}
end
section
variable {X : Cx} {pins : List (Addr × Obj)} {σ : St} {H : Hp} {s : Shared} {A : Around} {E : Value -> Shared -> Prop} {Q : Value -> Shared -> Prop} {c : Value} {b : Bool}
inductive jk (K : PySem.W.Frag) (H : Hp) : V -> Value -> Prop where
  | non : jk K H .non (.type "NoneType")
  | bl (x : Bool) : jk K H (.bl x) (.type "bool")
  | int (i : Int) : jk K H (.int i) (.type "int")
  | str (x : Str) : jk K H (.str x) (.type "str")
  | flt (x : UInt64) : jk K H (.flt x) (.type "float")
  | lst {a : Addr} {xs : List V} (e : H a = some (.lst xs)) : jk K H (.ref a) (.type "list")
  | frz {a : Addr} {o : Obj} {xs : List V} (e : H a = some (.frz o (.lst xs))) : jk K H (.ref a) (.type "list")
  | tup {a : Addr} {xs : List V} (e : H a = some (.tup xs)) : jk K H (.ref a) (.type "tuple")
  | dK {a : Addr} {kvs : List (Key × V)} (e : H a = some (.dK kvs)) : jk K H (.ref a) (.type "dict")
  | dT {a : Addr} {kvs : List (List Key × V)} (e : H a = some (.dT kvs)) : jk K H (.ref a) (.type "dict")
  | ins {a C dx : Addr} {fs : List (Str × V)} (e : H a = some (.ins C dx fs)) (cl : Cls K C) (ha : PySem.W.findIn K (.ref C) "__class__" = some (some (.builtin "object.__class__")))
      (hn : PySem.W.specialIn K (.builtin "object.__class__") "__get__" = some (some (.builtin "getset_descriptor.__get__"))) (htk : PySem.W.takesIn K (.builtin "object.__class__") = some true)
      (hm : PySem.W.mroIn K C (.type "object") = some true) : jk K H (.ref a) (.ref C)
theorem Zc {x : V} {u t : Value} (I : Inv X pins σ H s) (rx : zt x u) (ty : jk X.K H x t) (e : PySem.W.kitOne X.K t c = some b) (h : ∀ tk, Q (.bool b) { s with toks := tk }) :
  wpAny (model X.prog X.w) A (call (.builtin "isinstance") [u, c]) Q E s := by
 cases ty with
 | non => cases (show u = Value.none from rx); exact PySem.W.kia_one PySem.W.kitx_none I.kIn True.intro e (fun z => nomatch z) h
 | bl y => cases (show u = Value.bool y from rx); exact PySem.W.kia_one PySem.W.kitx_bool I.kIn True.intro e (fun z => nomatch z) h
 | int i => obtain ⟨t, q⟩ := (show ∃ t, u = Value.int i t from rx); cases q; exact PySem.W.kia_one PySem.W.kitx_int I.kIn True.intro e (fun z => nomatch z) h
 | str y => obtain ⟨t, q⟩ := (show ∃ t, u = Value.str y t from rx); cases q; exact PySem.W.kia_one PySem.W.kitx_str I.kIn True.intro e (fun z => nomatch z) h
 | flt y => obtain ⟨t, q⟩ := (show ∃ t, u = Value.float y t from rx); cases q; exact PySem.W.kia_one PySem.W.kitx_float I.kIn True.intro e (fun z => nomatch z) h
 | @lst a xs ea =>
  cases (show u = Value.ref a from rx)
  obtain ⟨_, _, n, _, h1⟩ := (show zG X.prog X.w H s.heap a (.lst xs) from I.hok a _ ea)
  exact PySem.W.kia_one PySem.W.kitx_list I.kIn ⟨_, h1, rfl⟩ e (fun z => nomatch z) h
 | @frz a ob xs ea =>
  cases (show u = Value.ref a from rx)
  obtain ⟨_, _, _, n, _, h1⟩ := (show zG X.prog X.w H s.heap a (.frz ob (.lst xs)) from I.hok a _ ea)
  exact PySem.W.kia_one PySem.W.kitx_list I.kIn ⟨_, h1, rfl⟩ e (fun z => nomatch z) h
 | @tup a xs ea =>
  cases (show u = Value.ref a from rx)
  obtain ⟨_, _, _, p⟩ := (show zG X.prog X.w H s.heap a (.tup xs) from I.hok a _ ea)
  obtain ⟨o, h1, h2, _⟩ := p
  exact PySem.W.kia_one PySem.W.kitx_tuple I.kIn ⟨o, h1, h2⟩ e (fun z => nomatch z) h
 | @dK a kvs ea =>
  cases (show u = Value.ref a from rx)
  obtain ⟨_, _, vs, _, p⟩ := (show zG X.prog X.w H s.heap a (.dK kvs) from I.hok a _ ea)
  obtain ⟨o, es, ep, h1, h2, _⟩ := p
  exact PySem.W.kia_one PySem.W.kitx_dict I.kIn ⟨o, h1, h2.1⟩ e (fun z => nomatch z) h
 | @dT a kvs ea =>
  cases (show u = Value.ref a from rx)
  obtain ⟨_, _, xs, _, o, es, ep, h1, h2, _⟩ := (show zG X.prog X.w H s.heap a (.dT kvs) from I.hok a _ ea)
  exact PySem.W.kia_one PySem.W.kitx_dict I.kIn ⟨o, h1, h2.1⟩ e (fun z => nomatch z) h
 | @ins a C dx fs ea cl ha hn htk hm =>
  cases (show u = Value.ref a from rx)
  obtain ⟨mA, O, _⟩ := KB I.hok ea
  obtain ⟨od, J, _⟩ := O.look
  exact PySem.W.kia_one (PySem.W.kitx_own (cl.get _) cl.hd ha hn htk hm) I.kIn J e (fun z => nomatch z) h
end
end L2
namespace L2
open PySem PySem.Spec PyProof.Rows
structure qL (k : Nat) (A : Around) : Prop where
 hd : A.handled = none
 gd : A.guards = some []
 dp : A.depth + 3 * k + 5 < recursionLimit
 un : A.units + 16 * k + 200 < cLine
theorem qL.mono {j k : Nat} {A : Around} (r : qL k A) (h : j <= k) : qL j A := ⟨r.hd, r.gd, by have := r.dp; omega, by have := r.un; omega⟩
theorem qL.deeper {k : Nat} {A : Around} (r : qL (k + 1) A) (env : Env) : qL k (A.deeper env) :=
 ⟨r.hd, r.gd, by have := r.dp; show A.depth + 1 + 3 * k + 5 < _; omega, by have := r.un; show A.units + 3 + 16 * k + 200 < _; omega⟩
theorem qL.depth {k : Nat} {A : Around} (r : qL k A) : A.depth < recursionLimit := by have := r.dp; omega
theorem qL.units {k : Nat} {A : Around} (r : qL k A) : A.units + 64 < cLine := by have := r.un; omega
def Xs : TA := fun _ H Q => Q [] H
def Z3 (ta : TE) (tr : TA) : TA := fun σ H Q => ta σ H fun x H1 => tr σ H1 fun xs H2 => Q (x :: xs) H2
section
variable {X : Cx} {e : Expr} {es : List Expr} {te : TE} {t : TA} {pos : Pos}
theorem zb : PA X [] Xs := fun _ _ _ _ H Q I h => Calls.spliced_nil ⟨[], H, I, .nil, h⟩
theorem za (ha : PE X e te) (hr : PA X es t) (hs : starEach (e :: es) X.env = (false, eval e X.env) :: starEach es X.env := by rfl) : PA X (e :: es) (Z3 te t) := by
 intro pos pins s σ H Q I h
 rw [hs]
 show wpAny _ _ (spliced ((false, eval e X.env) :: backTo pos (starEach es X.env))) _ _ s
 refine Calls.spliced_cons (thn (ha pins s σ H _ I h) fun u s1 ⟨x, H1, I1, r1, q1⟩ => ?_)
 exact thn (hr pos pins s1 σ H1 _ I1 q1) fun us s2 ⟨xs, H2, I2, r2, q2⟩ => ⟨x :: xs, H2, I2, .cons r1 r2, q2⟩
def YL (t : TA) : TE := fun σ H Q => t σ H fun xs H1 => xs.length <= sizeLine /\ ∀ p, H1 p = none -> Q (.ref p) (upd H1 p (.tup xs))
def YT (t : TA) : TE := fun σ H Q => t σ H fun xs H1 => xs.length <= sizeLine /\ ∀ p, H1 p = none -> Q (.ref p) (upd H1 p (.lst xs))
theorem zT {x1} (h : PA X es t) : PE X (.Tuple es x1 pos) (YL t) := by
 intro pins s σ H Q I hq
 refine wpAny_Tuple_spliced (thn (h pos pins s σ H _ I hq) fun us s1 ⟨xs, H1, I1, r, z, q⟩ => ⟨by rw [<- r.length]; exact z, ?_⟩)
 have hf : H1 s1.heap.objs.size = none := I1.hok.fresh (Nat.le_refl _)
 refine ⟨.ref s1.heap.objs.size, upd H1 s1.heap.objs.size (.tup xs), I1.laid (t' := s1.toks) (fun b u e => Heap.get?_push_of_some _ e) (Nat.le_refl _) ?_, rfl, q _ hf⟩
 exact ⟨z, us, r, ⟨_, Heap.get?_push_size _ rfl, rfl, _, rfl⟩⟩
theorem zR (h : PA X es t) : PE X (.List es pos) (YT t) := by
 intro pins s σ H Q I hq
 refine wpAny_List_spliced (thn (h pos pins s σ H _ I hq) fun us s1 ⟨xs, H1, I1, r, z, q⟩ => ⟨by rw [<- r.length]; exact z, ?_⟩)
 have hf : H1 s1.heap.objs.size = none := I1.hok.fresh (Nat.le_refl _)
 refine ⟨.ref s1.heap.objs.size, upd H1 s1.heap.objs.size (.lst xs), I1.laid (t' := s1.toks) (fun b u e => Heap.get?_push_of_some _ e) (Nat.le_refl _) ?_, rfl, q _ hf⟩
 exact ⟨z, us, 0, r, Heap.get?_push_size _ rfl⟩
end
abbrev Sp := List V -> Hp -> VK -> XK -> Prop
abbrev CXT := List Env -> Hp -> Shared -> XK -> Value -> Shared -> Prop
structure J5 (P : Program) (w : World) (K : PySem.W.Frag) (mg : Str -> Option Value) (base : Heap) (A : Around) (outer : List Env) (s : Shared) (H : Hp) : Prop where
 frames : A.frames = some outer
 mod : Mod K mg base
 bs : ∀ b o, base.get? b = some o -> s.heap.get? b = some o /\ H b = none
 bsz : base.objs.size <= s.heap.objs.size
 funs : s.heap.FunFrames base outer
 frf : ∀ b ∈ frs outer, H b = none
 hok : HOk P w H s.heap
 bare : AllBare s.gens
def CE (outer : List Env) (P : Program) (w : World) (H : Hp) (s : Shared) (Q : VK) (u : Value) (s' : Shared) : Prop :=
 ∃ v H', s'.os = s.os /\ AllBare s'.gens /\ Un (frs outer) [] H H' s.heap s'.heap /\ HOk P w H' s'.heap /\ zt v u /\ Q v H'
def CR (CX : CXT) (outer : List Env) (P : Program) (w : World) (H : Hp) (s : Shared) (Q : VK) (E : XK) (r : Result) (s' : Shared) : Prop :=
 match r with
 | .ok (.ret u) => CE outer P w H s Q u s'
 | .ok _ => False
 | .error e => CX outer H s E e s'
structure jv (P : Program) (w : World) (K : PySem.W.Frag) (mg : Str -> Option Value) (base : Heap) (CX : CXT) (k : Nat) (f : Addr) (fd : FuncData) (ps : List Str) (sp : Sp) : Prop where
 len : ∀ vs H Q E, sp vs H Q E -> vs.length = ps.length
 run : ∀ (A : Around) (outer : List Env) (s : Shared) (H : Hp) (args : Args) (us : List Value) (vs : List V) (Q : VK) (E : XK), qL k A -> J5 P w K mg base A outer s H -> BindsTo s fd args (ps.zip us) -> zp vs us -> sp vs H Q E ->
  codeAny (model P w) A (.call (.ref f) args) (CR CX outer P w H s Q E) s
theorem jv.mono {P : Program} {w : World} {K : PySem.W.Frag} {mg : Str -> Option Value} {base : Heap} {CX : CXT} {j k : Nat} {f : Addr} {fd : FuncData} {ps : List Str} {sp : Sp} (F : jv P w K mg base CX j f fd ps sp) (h : j <= k) :
  jv P w K mg base CX k f fd ps sp := ⟨F.len, fun A outer s H args us vs Q E hr => F.run A outer s H args us vs Q E (hr.mono h)⟩
theorem jv.imp {P : Program} {w : World} {K : PySem.W.Frag} {mg : Str -> Option Value} {base : Heap} {CX : CXT} {k : Nat} {f : Addr} {fd : FuncData} {ps : List Str} {sp sp' : Sp} (F : jv P w K mg base CX k f fd ps sp)
  (h : ∀ vs H Q E, sp' vs H Q E -> sp vs H Q E) : jv P w K mg base CX k f fd ps sp' :=
 ⟨fun vs H Q E q => F.len vs H Q E (h _ _ _ _ q), fun A outer s H args us vs Q E hr he hb hv hs => F.run A outer s H args us vs Q E hr he hb hv (h _ _ _ _ hs)⟩
section
variable {X : Cx} {pins : List (Addr × Obj)} {σ : St} {H : Hp} {s s' : Shared}
theorem Inv.env0 (I : Inv X pins σ H s) : J5 X.prog X.w X.K X.mg X.base X.A X.stack s H :=
 ⟨I.ok.frames, I.ok.mod, I.bs, Nat.le_trans I.ok.bsz I.sz, I.stack, I.stkFree, I.hok, I.bare⟩
theorem Inv.after {Q : VK} {u : Value} (I : Inv X pins σ H s) (h : CE X.stack X.prog X.w H s Q u s') : EP X pins σ Q u s' := by
 obtain ⟨v, H', os, bare, un, hok, r, q⟩ := h
 obtain ⟨hh, g, d, t, os'⟩ := s'
 obtain rfl : os' = s.os := os
 exact ⟨v, H', I.call (h' := hh) (g' := g) (d' := d) (t' := t) (ch := []) un hok bare (fun b z => absurd z (by simp)), r, q⟩
end
def wj (sp : Sp) (dvs : List V) (E : XK) (t : TA) : TE := fun σ H Q => t σ H fun vs H1 => sp (vs ++ dvs) H1 Q E
def xD (K : PySem.W.Frag) (fd : FuncData) (ps : List Str) (ds : List Value) : Prop :=
 ∀ (s : Shared) (us : List Value), K.In s.heap -> (us ++ ds).length = ps.length -> BindsTo s fd ⟨us, []⟩ (ps.zip (us ++ ds))
theorem xD.all {K : PySem.W.Frag} {fd : FuncData} {ps : List Str} (h : ∀ us : List Value, us.length = ps.length -> bindArgs fd ⟨us, []⟩ = pure (ps.zip us)) : xD K fd ps [] := fun s us _ hl => by
 rw [List.append_nil] at hl ⊢
 exact .of_eq (h us hl)
def vQ (CX : CXT) (X : Cx) (E : XK) : Prop := ∀ (pins : List (Addr × Obj)) (σ : St) (H : Hp) (s : Shared) (e : Value) (s' : Shared), Inv X pins σ H s -> CX X.stack H s E e s' -> X.xe e s'
section
variable {X : Cx} {CX : CXT} {k : Nat} {f C : Addr} {fd : FuncData} {ps : List Str} {sp : Sp} {dvs : List V} {ds : List Value} {E : XK} {x m : Str} {p pos apos : Pos} {e o : Expr} {es : List Expr} {ta : TE} {t : TA}
theorem Yh {pins : List (Addr × Obj)} {σ : St} {H : Hp} {s : Shared} {Q : VK} {us : List Value} {vs : List V} (F : jv X.prog X.w X.K X.mg X.base CX k f fd ps sp) (hr : qL k X.A) (hb : xD X.K fd ps ds) (hd : zp dvs ds) (hx : vQ CX X E)
  (I : Inv X pins σ H s) (r : zp vs us) (h : sp (vs ++ dvs) H Q E) : wpAny (model X.prog X.w) X.A (call (.ref f) us) (EP X pins σ Q) X.xe s := by
 have r2 : zp (vs ++ dvs) (us ++ ds) := r.append hd
 have hl : (us ++ ds).length = ps.length := by rw [<- r2.length]; exact F.len _ _ _ _ h
 refine wpAny_call (codeAny_mono (F.run X.A X.stack s H ⟨us, []⟩ (us ++ ds) (vs ++ dvs) Q E hr I.env0 (hb s us I.kIn hl) r2 h) fun r s' hq => ?_)
 cases r with
 | error e => exact hx pins σ H s e s' I hq
 | ok fl =>
  cases fl with
  | ret u => exact I.after hq
  | next => exact False.elim hq
  | brk => exact False.elim hq
  | cont => exact False.elim hq
theorem JX (F : jv X.prog X.w X.K X.mg X.base CX k f fd ps sp) (hr : qL k X.A) (hg : Gl X x) (hm : X.mg x = some (.ref f)) (hk : PySem.W.keepIn X.K (.ref f) = true) (hb : xD X.K fd ps ds) (hd : zp dvs ds) (hx : vQ CX X E)
  (ha : PA X (e :: es) t) (hdb : (x == ("__debug__" : Str)) = false := by decide) (he : starEach (e :: es) X.env = (false, eval e X.env) :: starEach es X.env := by rfl) (hpl : (backTo pos (starEach es X.env)).any (·.1) = false := by rfl) :
  PE X (.Call (.Name x p) (e :: es) [] pos) (wj sp dvs E t) := by
 intro pins s σ H Q I h
 refine wpAny_Call_Name_kw (Kh I hg hm ?_ hdb)
 refine PySem.W.callWith_K (h₀ := X.base) I.ok.mod.kin hk (thn (ha pos pins s σ H _ I h) fun us s1 ⟨vs, H1, I1, r, q⟩ => ⟨I1.kIn, ?_⟩) he hpl
 exact Yh F hr hb hd hx I1 r q
structure Mk (K : PySem.W.Frag) (C f : Addr) : Prop where
 makes : PySem.W.makesIn K C = true
 init : PySem.W.findIn K (.ref C) "__init__" = some (some (.ref f))
 fn : PySem.W.isFn K (.ref f) = true
 kp : PySem.W.keepIn K (.ref C) = true
end
section
variable {X : Cx} {CX : CXT} {k : Nat} {f C : Addr} {fd : FuncData} {ps ks : List Str} {sp : Sp} {E : XK} {x m : Str} {p pos apos kpos : Pos} {e o : Expr} {es : List Expr} {kws : List Keyword} {te ta : TE} {t tk : TA} {nm : Option Str}
structure VW (K : PySem.W.Frag) (fd : FuncData) (ps ks : List Str) (g : List Value -> List Value -> List Value) (gV : List V -> List V -> List V) : Prop where
 to : ∀ (s : Shared) (us ws : List Value), K.In s.heap -> (g us ws).length = ps.length -> BindsTo s fd ⟨us, ks.zip ws⟩ (ps.zip (g us ws))
 rel : ∀ {vs : List V} {us : List Value} {zs : List V} {ws : List Value}, zp vs us -> zp zs ws -> zp (gV vs zs) (g us ws)
variable {g : List Value -> List Value -> List Value} {gV : List V -> List V -> List V}
end
structure zN (N P : List Str) (sc : Scope) : Prop where
 kind : sc.kind = .function
 co : sc.isCoroutine = false
 gen : sc.isGenerator = false
 nd : N.Nodup
 pre : N.take P.length = P
 par : ∀ x ∈ P, sc.names.lookup x = some .local \/ sc.names.lookup x = some .cell
 nofree : ∀ y ∈ sc.names, y.2 ≠ .free
theorem xG {kindOf : Str -> Option NameKind} {x : Str} : ∀ {binds : List (Str × Value)} {m : Str -> Option Value}, (∀ v, (x, v) ∉ binds) -> bindL kindOf binds m x = m x
 | [], _, _ => rfl
 | (n, v) :: r, m, h => by
  unfold bindL
  rw [xG fun w hw => h w (List.mem_cons_of_mem _ hw)]
  split
  ·have : x ≠ n := by rintro rfl; exact h v List.mem_cons_self
   simp [this]
  ·rfl
theorem xI {kindOf : Str -> Option NameKind} {x : Str} : ∀ {binds : List (Str × Value)} {m : Str -> Option Value}, (∀ v, (x, v) ∉ binds) -> bindC kindOf binds m x = m x
 | [], _, _ => rfl
 | (n, v) :: r, m, h => by
  unfold bindC
  rw [xI fun w hw => h w (List.mem_cons_of_mem _ hw)]
  split
  ·rfl
  ·have : x ≠ n := by rintro rfl; exact h v List.mem_cons_self
   simp [this]
theorem xw {kindOf : Str -> Option NameKind} {x : Str} {v : Value} : ∀ {P : List Str} {vs : List Value} {i : Nat} {m : Str -> Option Value}, P.Nodup -> P[i]? = some x -> vs[i]? = some v -> kindOf x = some .local ->
  bindL kindOf (P.zip vs) m x = some v
 | [], _, _, _, _, h, _, _ => by simp at h
 | _ :: _, [], _, _, _, _, h, _ => by simp at h
 | p :: P, w :: vs, 0, m, nd, h1, h2, hk => by
  simp at h1 h2; subst h1; subst h2
  show bindL kindOf ((p, w) :: P.zip vs) m p = _
  unfold bindL
  rw [xG fun v hv => (List.nodup_cons.mp nd).1 (List.of_mem_zip hv).1, if_pos hk]
  simp
 | p :: P, w :: vs, i + 1, m, nd, h1, h2, hk => by
  show bindL kindOf ((p, w) :: P.zip vs) m x = _
  unfold bindL
  exact xw (i := i) (List.nodup_cons.mp nd).2 (by simpa using h1) (by simpa using h2) hk
theorem xv {kindOf : Str -> Option NameKind} {x : Str} {v : Value} : ∀ {P : List Str} {vs : List Value} {i : Nat} {m : Str -> Option Value}, P.Nodup -> P[i]? = some x -> vs[i]? = some v -> kindOf x ≠ some .local ->
  bindC kindOf (P.zip vs) m x = some v
 | [], _, _, _, _, h, _, _ => by simp at h
 | _ :: _, [], _, _, _, _, h, _ => by simp at h
 | p :: P, w :: vs, 0, m, nd, h1, h2, hk => by
  simp at h1 h2; subst h1; subst h2
  show bindC kindOf ((p, w) :: P.zip vs) m p = _
  unfold bindC
  rw [xI fun v hv => (List.nodup_cons.mp nd).1 (List.of_mem_zip hv).1, if_neg hk]
  simp
 | p :: P, w :: vs, i + 1, m, nd, h1, h2, hk => by
  show bindC kindOf ((p, w) :: P.zip vs) m x = _
  unfold bindC
  exact xv (i := i) (List.nodup_cons.mp nd).2 (by simpa using h1) (by simpa using h2) hk
def ql (N : List Str) (vs : List V) : St := vs.map some ++ List.replicate (N.length - vs.length) none
def yc (CX : CXT) (P : Program) (w : World) (K : PySem.W.Frag) (mg : Str -> Option Value) (base : Heap) (N : List Str) (qual : Str) (scope : Scope) (f : Addr) (cd : Value) (A : Around) (outer : List Env) (s : Shared) (H : Hp) (E : XK) : Cx where
 prog := P
 w := w
 K := K
 mg := mg
 base := base
 A := A.deeper (envOfC qual scope s.heap.objs.size f cd)
 N := N
 s₀ := s
 H₀ := H
 env := envOfC qual scope s.heap.objs.size f cd
 outer := outer
 stack := envOfC qual scope s.heap.objs.size f cd :: outer
 ex := []
 calm := true
 fn := fun _ => true
 pn := []
 xe := fun e s' => wpAny (model P w) (A.deeper (envOfC qual scope s.heap.objs.size f cd)) (leaving (envOfC qual scope s.heap.objs.size f cd) e) (fun _ s'' => CX outer H s E e s'') (fun e' s'' => CX outer H s E e' s'') s'
theorem yv {sc : Scope} {n : Nat} {x : Str} (h : sc.names.lookup x = some .cell) : ∃ c, (cellsFrom n sc.names []).lookup x = some c := by
 have q := PySem.W.cellsFrom_some sc.names n [] (.inl h)
 exact Option.isSome_iff_exists.mp q
theorem Zm {CX : CXT} {P : Program} {w : World} {K : PySem.W.Frag} {mg : Str -> Option Value} {base : Heap} {N ps : List Str} {qual : Str} {scope : Scope} {f : Addr} {cd : Value} {A : Around} {outer : List Env} {s s1 : Shared} {H : Hp} {E : XK} {us : List Value} {vs : List V}
    (S : zN N ps scope) (hd : A.handled = none) (e0 : J5 P w K mg base A outer s H) (hl : vs.length = ps.length) (r : zp vs us)
    (x : InCallC s s.heap.objs.size (bindL (envOfC qual scope s.heap.objs.size f cd).kindOf (ps.zip us) fun _ => none) (cellsFrom (s.heap.objs.size + 1) scope.names []) (bindC (envOfC qual scope s.heap.objs.size f cd).kindOf (ps.zip us) fun _ => none) s1) :
    Inv (yc CX P w K mg base N qual scope f cd A outer s H E) [] (ql N vs) H s1 := by
  have hpl : ps.length <= N.length := by have := congrArg List.length S.pre; rw [List.length_take] at this; omega
  obtain ⟨h1, tk, rfl, hk⟩ := x.done
  have noA : ∀ b : Addr, b ∉ (yc CX P w K mg base N qual scope f cd A outer s H E).ex := fun b z => absurd (show b ∈ ([] : List Addr) from z) (by simp)
  refine ⟨⟨e0.mod, S.kind, rfl, rfl, Nat.le_refl _, fun y z c h1 h2 => ?_, fun y hy => ?_, fun y c _ h => ?_, fun _ => hd, Around.frames_deeper e0.frames, .inr ⟨rfl, rfl⟩, fun b z => absurd z (noA b), e0.bs, e0.bsz, fun b _ _ => noA b, fun b z => absurd z (noA b), e0.funs, e0.frf⟩,
    rfl, e0.bare, Un.kept hk, ⟨_, x.toInCall.ns, fun i y v h1 h2 h3 => ?_⟩, fun y c h => ⟨_, x.cell y c h⟩, e0.hok.fresh (Nat.le_refl _), fun y c h => ?_, fun p hp => absurd (show p ∈ ([] : List (Addr × Obj)) from hp) (by simp), e0.hok.kept hk, ?_⟩
  · exact name_of_addr x.apart (PySem.mem_of_lookup h1) (PySem.mem_of_lookup h2)
  · have hy : scope.names.lookup y = some .cell \/ scope.names.lookup y = some .free := hy
    rcases hy with hy | hy
    · exact yv hy
    · exact absurd rfl (S.nofree _ (PySem.mem_of_lookup hy))
  · exact Nat.le_of_lt (x.above y c (PySem.mem_of_lookup h))
  · have hi : i < vs.length := by
      unfold ql at h2
      by_cases hi : i < vs.length
      · exact hi
      · rw [List.getElem?_append_right (by simpa using hi)] at h2
        rw [List.getElem?_replicate] at h2
        split at h2 <;> cases h2
    have ha : vs[i]? = some v := by
      unfold ql at h2
      rw [List.getElem?_append_left (by simpa using hi), List.getElem?_map] at h2
      cases e : vs[i]? with
      | none => rw [e] at h2; cases h2
      | some a => rw [e] at h2; cases h2; rfl
    obtain ⟨u, hu, rv⟩ := r.get ha
    have hp : ps[i]? = some y := by
      rw [<- S.pre, List.getElem?_take_of_lt (by omega)]; exact h1
    have ndP : ps.Nodup := by rw [<- S.pre]; exact S.nd.sublist (List.take_sublist _ _)
    refine ⟨u, rv, ?_⟩
    rcases S.par y (List.mem_of_getElem? hp) with k | k
    · exact .inl ⟨k, xw ndP hp hu k⟩
    · obtain ⟨c, e⟩ := yv (n := s.heap.objs.size + 1) k
      refine .inr ⟨.inl k, c, e, ?_⟩
      have q := x.cell y c e
      rw [xv ndP hp hu (by show scope.names.lookup y ≠ _; rw [k]; decide)] at q
      exact q
  · exact e0.hok.fresh (Nat.le_of_lt (x.above y c (PySem.mem_of_lookup h)))
  · unfold ql
    show _ = N.length
    rw [List.length_append, List.length_map, List.length_replicate]
    omega
theorem Vn {CX : CXT} {P : Program} {w : World} {K : PySem.W.Frag} {mg : Str -> Option Value} {base : Heap} {k : Nat} {f : Addr} {name qual : Str} {params : Arguments} {body : List Stmt} {scope : Scope} {dV kV doc pm cdv ct oc : Value} {an od : Option Addr}
  {osl : Array (Option Value)} {N ps : List Str} {sp : Sp} (lk : K.lookup f = some ⟨oc, od, .func (PySem.W.fnOf name qual params body scope dV kV doc pm an cdv ct), osl⟩) (hcd : PySem.W.codeIn K cdv qual = true) (S : zN N ps scope)
  (len : ∀ vs H Q E, sp vs H Q E -> vs.length = ps.length)
  (hbody : ∀ (A : Around) (outer : List Env) (s : Shared) (H : Hp) (vs : List V) (Q : VK) (E : XK), qL k (A.deeper (envOfC qual scope s.heap.objs.size f cdv)) -> sp vs H Q E ->
   ∃ t, PSs (yc CX P w K mg base N qual scope f cdv A outer s H E) body t /\ t { nx := fun _ H' => Q .non H', rt := Q } (ql N vs) H) :
  jv P w K mg base CX (k + 1) f (PySem.W.fnOf name qual params body scope dV kV doc pm an cdv ct) ps sp := by
 refine ⟨len, fun A outer s H args us vs Q E hr e0 hb r hsp => ?_⟩
 have hl := len _ _ _ _ hsp
 have KX : K.In s.heap := e0.mod.kin.keeps fun b o e => (e0.bs b o e).1
 have lim : s.heap.NoLimit := e0.mod.nolimit.keeps fun b o e => (e0.bs b o e).1
 have hkind : ∀ y ∈ ps.zip us, scope.names.lookup y.1 = some .local \/ (scope.names.lookup y.1 = some .cell /\ ((cellsFrom (s.heap.objs.size + 1) scope.names []).lookup y.1).isSome = true) := fun ⟨n, v⟩ hy => by
  rcases S.par n (List.of_mem_zip hy).1 with q | q
  ·exact .inl q
  ·exact .inr ⟨q, PySem.W.cellsFrom_some _ _ _ (.inl q)⟩
 refine codeAny_call_function hr.depth (KX _ _ lk) rfl S.co S.gen rfl (PySem.W.codeRec_of KX hcd) (hb _ _ _ _ ?_)
 refine wpAny_newFunctionEnv_cells S.kind hkind fun env he s1 x => ?_
 subst he
 refine ⟨lim.keeps x.toInCall.keep, codeAny_func ?_⟩
 obtain ⟨t, ht, hq⟩ := hbody A outer s H vs Q E (hr.deeper _) hsp
 have I : Inv (yc CX P w K mg base N qual scope f cdv A outer s H E) [] (ql N vs) H s1 := Zm S hr.hd e0 hl r x
 refine wpAny_mono (ht [] s1 (ql N vs) H _ I hq) (fun fl s' hs => ?_) fun e s' hs => hs
 have fin : ∀ {σ' : St} {H' : Hp} {v : V} {u : Value}, Inv (yc CX P w K mg base N qual scope f cdv A outer s H E) [] σ' H' s' -> zt v u -> Q v H' -> CE outer P w H s Q u s' :=
  fun {σ' H' v u} J rv q => ⟨v, H', J.os, J.bare, J.base, J.hok, rv, q⟩
 cases fl with
 | ret u =>
  obtain ⟨v, σ', H', J, rv, q⟩ := hs
  exact fin J rv q
 | next =>
  obtain ⟨σ', H', J, q⟩ := hs
  exact fin (v := V.non) (u := Value.none) J rfl q
 | brk =>
  obtain ⟨_, _, _, q⟩ := hs
  exact False.elim q
 | cont =>
  obtain ⟨_, _, _, q⟩ := hs
  exact False.elim q
end L2
namespace L2
open PySem PySem.Spec PyProof.Rows
section
variable {X : Cx} {x : Str} {p pos : Pos} {e : Expr} {es : List Expr} {t : TA} {id T : String} {r : List V -> Hp -> VK -> Prop}
def tCB (r : List V -> Hp -> VK -> Prop) (t : TA) : TE := fun σ H Q => t σ H fun vs H1 => r vs H1 Q
theorem zl (hc : qo X (.builtin id) r) (hg : Gl X x) (hm : X.mg x = none) (hv : bootBuiltins x = some (.builtin id)) (ha : PA X (e :: es) t) (hn : x ≠ "__name__" := by decide) (hdb : (x == ("__debug__" : Str)) = false := by decide)
  (he : starEach (e :: es) X.env = (false, eval e X.env) :: starEach es X.env := by rfl) (hpl : (backTo pos (starEach es X.env)).any (·.1) = false := by rfl) : PE X (.Call (.Name x p) (e :: es) [] pos) (tCB r t) := by
 intro pins s σ H Q I h
 refine wpAny_Call_Name_kw (j0 I hg hm hv ?_ hn hdb)
 exact PyProof.Rows.callWith_builtin1 (thn (ha pos pins s σ H _ I h) fun us s1 ⟨vs, H1, I1, r1, q1⟩ => hc pins s1 σ H1 vs us Q I1 r1 q1) he hpl
theorem zz (hc : qo X (.type T) r) (hg : Gl X x) (hm : X.mg x = none) (hv : bootBuiltins x = some (.type T)) (ha : PA X (e :: es) t) (hn : x ≠ "__name__" := by decide) (hdb : (x == ("__debug__" : Str)) = false := by decide)
  (he : starEach (e :: es) X.env = (false, eval e X.env) :: starEach es X.env := by rfl) (hpl : (backTo pos (starEach es X.env)).any (·.1) = false := by rfl) : PE X (.Call (.Name x p) (e :: es) [] pos) (tCB r t) := by
 intro pins s σ H Q I h
 refine wpAny_Call_Name_kw (j0 I hg hm hv ?_ hn hdb)
 exact PyProof.Rows.callWith_type1 (thn (ha pos pins s σ H _ I h) fun us s1 ⟨vs, H1, I1, r1, q1⟩ => hc pins s1 σ H1 vs us Q I1 r1 q1) he hpl
end
end L2
namespace HT
open PySem PyProof.Rows
section
open PySem.SeqAt
open PySem.AutoSeq1 (wpAny_loadPart')
open PySem.MeetsSeq PySem.MeetsSeq2 PySem.MeetsSeq3
end
section
variable {prog : Program} {w : World} {A : Around} {E : Value -> Shared -> Prop} {s : Shared}
theorem cat_tup {t b : Addr} {vs ws : List Value} {Q : Value -> Shared -> Prop} (ht : IsTup s.heap t vs.toArray) (hb : IsTup s.heap b ws.toArray) (hv : vs ≠ [])
    (h1 : ws = [] -> Q (.ref t) s) (h2 : ws ≠ [] -> Q (.ref s.heap.objs.size) { s with heap := s.heap.push { cls := .type "tuple", data := .seq (vs ++ ws).toArray } })
    (hsz : vs.length + ws.length <= sizeLine) : wpAny (model prog w) A (binaryOp .Add (.ref t) (.ref b)) Q E s := by
  obtain ⟨⟨cls, dd, data, sl⟩, ho, hc, n, hd⟩ := id ht
  obtain ⟨⟨cls2, dd2, data2, sl2⟩, ho2, hc2, n2, hd2⟩ := id hb
  simp only at hc hd hc2 hd2
  subst hc hd hc2 hd2
  have e : vs.toArray ++ ws.toArray = (vs ++ ws).toArray := by simp
  by_cases hw : ws = []
  · exact concat_meets ⟨_, ho, rfl⟩ ⟨_, ho2, rfl⟩ noFill_tuple_add seq_tuple_add PySem.F.slot_tuple_add PySem.F.entry_tuple_add (PySem.F.args_tuple_add_2 _ _)
      (tuple_addW1 t b vs.toArray ws.toArray n n2 dd dd2 sl sl2 (by simpa using hv) (by simp [hw])) ⟨ho, ho2, h1 hw⟩
  · refine concat_meets ⟨_, ho, rfl⟩ ⟨_, ho2, rfl⟩ noFill_tuple_add seq_tuple_add PySem.F.slot_tuple_add PySem.F.entry_tuple_add (PySem.F.args_tuple_add_2 _ _)
      (tuple_addW2 t b vs.toArray ws.toArray n n2 dd dd2 sl sl2 (by simpa using hv) (by simpa using hw) (by rw [List.size_toArray, List.size_toArray]; exact hsz)) ⟨ho, ho2, ?_⟩
    rw [e]
    exact h2 hw
def sIx (n d : Nat) : Option Int -> Nat
 | none => d
 | some v => if v < 0 then (v + (n : Int)).toNat else min v.toNat n
theorem sIx_none (n d : Nat) : sIx n d none = d := rfl
theorem sIx_nat (n d k : Nat) : sIx n d (some (k : Int)) = min k n := by
 show (if (k : Int) < 0 then ((k : Int) + (n : Int)).toNat else min (k : Int).toNat n) = min k n
 rw [if_neg (by omega), Int.toNat_natCast]
theorem X7 (n d : Nat) (hd : d <= n) (o : Option Int) : sIx n d o <= n := by
 cases o with
 | none => exact hd
 | some v =>
  show (if v < 0 then (v + (n : Int)).toNat else min v.toNat n) <= n
  by_cases hv : v < 0
  ·rw [if_pos hv]; omega
  ·rw [if_neg hv]; exact Nat.min_le_right _ _
theorem wo (v : Int) (n d : Nat) : (if v < 0 then max (v + (n : Int)) 0 else min v (n : Int)) = ((sIx n d (some v) : Nat) : Int) := by
 show (if v < 0 then max (v + (n : Int)) 0 else min v (n : Int)) = (((if v < 0 then (v + (n : Int)).toNat else min v.toNat n) : Nat) : Int)
 by_cases hv : v < 0
 ·simp only [if_pos hv]; omega
 ·simp only [if_neg hv]; omega
theorem vK (lo hi : Option Int) (n : Nat) : Builtin.Slice.sliceAdjust lo hi 1 (n : Int) = (((sIx n 0 lo : Nat) : Int), ((sIx n n hi : Nat) : Int)) := by
 have h1 : ¬ ((1 : Int) < 0) := by omega
 unfold Builtin.Slice.sliceAdjust
 simp only [h1, if_false]
 refine Prod.ext ?_ ?_
 ·cases lo with
  | none => rfl
  | some v => exact wo v n 0
 ·cases hi with
  | none => rfl
  | some v => exact wo v n n
theorem vw (i j : Nat) : Builtin.Slice.slicePlaces (i : Int) (j : Int) 1 = j - i := by
 unfold Builtin.Slice.slicePlaces
 have h1 : (1 : Int) > 0 := by omega
 simp only [h1, if_true, Int.ediv_one]
 split <;> omega
theorem kO {v : Value} {o : Option Int} {Q : Option Int -> Shared -> Prop} (p : IsPart v o) (h : Q o s) : wpAny (model prog w) A (Builtin.Slice.slicePartIndex v) Q E s := by
 cases p with
 | none => exact slicePart_none h
 | int i t => exact slicePart_int h
theorem jW {sl : Addr} {vl vu : Value} {lo hi : Option Int} {n : Nat} {Q : Int × Int × Nat -> Shared -> Prop} (hs : s.heap.IsSliceOf sl vl vu .none) (pl : IsPart vl lo) (pu : IsPart vu hi)
  (h : Q (((sIx n 0 lo : Nat) : Int), 1, sIx n n hi - sIx n 0 lo) s) : wpAny (model prog w) A (Builtin.Slice.sliceApplied (.ref sl) (pure (n : Int))) Q E s := by
 obtain ⟨os, hos, hcs, hds⟩ := id hs
 unfold Builtin.Slice.sliceApplied Builtin.Slice.sliceFields
 refine wpAny_bind (wpAny_bind (wpAny_field hos hds (x := vl) rfl (wpAny_bind (wpAny_field hos hds (x := vu) rfl (wpAny_bind (wpAny_field hos hds (x := .none) rfl (wpAny_pure ?_)))))))
 refine wpAny_bind (slicePart_none ?_)
 show wpAny _ _ (if ((1 : Int) == 0) = true then _ else _) _ _ s
 rw [if_neg (by decide)]
 refine wpAny_bind (kO pl (wpAny_bind (kO pu (wpAny_bind (wpAny_pure ?_)))))
 show wpAny _ _ (match Builtin.Slice.sliceAdjust lo hi 1 (n : Int) with | (lo, hi) => pure (lo, (1 : Int), Builtin.Slice.slicePlaces lo hi 1)) _ _ s
 rw [vK lo hi n]
 show wpAny _ _ (pure (((sIx n 0 lo : Nat) : Int), (1 : Int), Builtin.Slice.slicePlaces ((sIx n 0 lo : Nat) : Int) ((sIx n n hi : Nat) : Int) 1)) _ _ s
 rw [vw]
 exact wpAny_pure h
theorem ZR (xs : Array Value) (i k : Nat) : ((List.range k).filterMap fun (m : Nat) => xs[((i : Int) + (m : Int) * 1).toNat]?).toArray = ((xs.toList.drop i).take k).toArray := by
 have e : (fun (m : Nat) => xs[((i : Int) + (m : Int) * 1).toNat]?) = fun m => xs[i + m]? := by
  funext m
  have : ((i : Int) + (m : Int) * 1).toNat = i + m := by omega
  rw [this]
 rw [e]
 have := pick_run xs i k
 rw [List.filterMap_map] at this
 have e2 : ((fun x => xs[x]?) ∘ fun x => i + x) = fun m => xs[i + m]? := rfl
 rw [e2] at this
 rw [this]
theorem getItem_tuple_cut {t sl : Addr} {items : Array Value} {vl vu : Value} {lo hi : Option Int} {Q : Value -> Shared -> Prop} (ht : IsTup s.heap t items) (hs : s.heap.IsSliceOf sl vl vu .none) (pl : IsPart vl lo) (pu : IsPart vu hi)
  (hw : ¬ (sIx items.size 0 lo = 0 /\ sIx items.size items.size hi = items.size))
  (h : Q (.ref s.heap.objs.size) { s with heap := s.heap.push { cls := .type "tuple", data := .seq ((items.toList.drop (sIx items.size 0 lo)).take (sIx items.size items.size hi - sIx items.size 0 lo)).toArray } })
  (hsz : items.size <= sizeLine) : wpAny (model prog w) A (getItem (.ref t) (.ref sl)) Q E s := by
 have htake : sizeOk (.seq ((items.toList.drop (sIx items.size 0 lo)).take (sIx items.size items.size hi - sIx items.size 0 lo)).toArray) := by
  show ((items.toList.drop (sIx items.size 0 lo)).take (sIx items.size items.size hi - sIx items.size 0 lo)).toArray.size <= sizeLine
  rw [List.size_toArray, List.length_take, List.length_drop, Array.length_toList]
  omega
 have hj : sIx items.size items.size hi <= items.size := X7 _ _ (Nat.le_refl _) hi
 obtain ⟨os, hos, hcs, hds⟩ := id hs
 have hTs : s.TypeIs (.ref sl) "slice" := ⟨os, hos, hcs⟩
 unfold getItem
 try with_reducible refine wpAny_holding ?_
 first | refine wpAny_bind (wpAny_pure ?_) | skip
 refine wpAny_bind (wpAny_sequenceKey ht.typeIs (by decide) ?_)
 refine wpAny_bind (wpAny_callSpecial?_slot (name := Str.ofString "__getitem__") ht.typeIs PyProof.Rows.slot_tuple_getitem
  (wpAny_call_entry PyProof.Rows.slot_tuple_getitem ht.typeIs entry_tuple_getitem ?_ (args_tuple_getitem _ _)))
 show wpAny _ _ (Builtin.Tuple.tupleItemsOf (.ref t) >>= _) _ _ s
 refine wpAny_bind (tupleItemsOf_ ht ?_)
 refine wpAny_bind (wpAny_typeOf hTs ?_)
 rw [if_pos (by decide)]
 refine wpAny_bind (jW hs pl pu ?_)
 have hno : ¬ ((((sIx items.size 0 lo : Nat) : Int) == 0 && (1 : Int) == 1 && (sIx items.size items.size hi - sIx items.size 0 lo) == items.size) = true) := by
  intro q
  rw [Bool.and_eq_true, Bool.and_eq_true] at q
  have q1 : ((sIx items.size 0 lo : Nat) : Int) = 0 := eq_of_beq q.1.1
  have q2 : sIx items.size items.size hi - sIx items.size 0 lo = items.size := eq_of_beq q.2
  exact hw ⟨by omega, by omega⟩
 show wpAny _ _ (if (((sIx items.size 0 lo : Nat) : Int) == 0 && (1 : Int) == 1 && (sIx items.size items.size hi - sIx items.size 0 lo) == items.size) = true then _ else _) _ _ s
 rw [if_neg hno, ZR]
 first
  | exact wpAny_bind (m := Builtin.Tuple.tupleExact _) (wpAny_newObj_type (wpAny_pure ⟨_, rfl, wpAny_pure h⟩) htake)
  | exact wpAny_bind (m := Builtin.Tuple.tupleExact _) (wpAny_newObj_type (wpAny_bind (wpAny_pure (wpAny_pure ⟨_, rfl, wpAny_pure h⟩))) htake)
  | exact wpAny_bind (wpAny_bind (m := Builtin.Tuple.tupleExact _) (wpAny_newObj_type (wpAny_pure (wpAny_pure ⟨_, rfl, wpAny_pure h⟩)) htake))
  | exact wpAny_bind (wpAny_bind (m := Builtin.Tuple.tupleExact _) (wpAny_newObj_type (wpAny_pure ⟨_, rfl, wpAny_pure h⟩) htake))
end
end HT
namespace L2
open PySem PySem.Spec PyProof.Rows
abbrev TO := St -> Hp -> (Option Int -> Hp -> Prop) -> Prop
def PO (X : Cx) (e : Option Expr) (t : TO) : Prop :=
 ∀ (pins : List (Addr × Obj)) (s : Shared) (σ : St) (H : Hp) (Q : Option Int -> Hp -> Prop), Inv X pins σ H s -> t σ H Q ->
  wpAny (model X.prog X.w) X.A (evalPart e X.env) (fun u s' => ∃ o H', Inv X pins σ H' s' /\ IsPart u o /\ Q o H') X.xe s
def xQ : TO := fun _ H Q => Q none H
def Q6 (t : TE) : TO := fun σ H Q => t σ H fun x H1 => ∃ i, x = .int i /\ Q (some i) H1
theorem xj {ns : List Int} : ∀ {us : List Value}, zp (ns.map V.int) us -> IntsAre us ns := by
 induction ns with
 | nil => intro us r; rw [List.map_nil] at r; cases r; exact .nil
 | cons n ns ih =>
  intro us r
  rw [List.map_cons] at r
  cases r with
  | cons r1 r2 =>
   obtain ⟨t, e⟩ := r1
   subst e
   exact .cons n t (ih r2)
section
variable {X : Cx} {e : Expr} {te : TE} {lo hi : Option Expr} {tl th : TO} {pos p2 : Pos}
theorem kj : PO X none xQ := by
 intro pins s σ H Q I h
 rw [evalPart_none]
 exact wpAny_pure ⟨none, H, I, .none, h⟩
theorem js (h : PE X e te) : PO X (some e) (Q6 te) := by
 intro pins s σ H Q I hw
 rw [evalPart_some]
 refine thn (h pins s σ H _ I hw) fun u s1 ⟨x, H1, I1, r1, q1⟩ => ?_
 obtain ⟨i, rfl, q⟩ := q1
 obtain ⟨t, rfl⟩ := r1
 exact ⟨some i, H1, I1, .int i t, q⟩
def SlR (X : Cx) (r : V -> Option Int -> Option Int -> Hp -> VK -> Prop) : Prop :=
 ∀ (pins : List (Addr × Obj)) (s : Shared) (σ : St) (H : Hp) (x : V) (v vl vu : Value) (lo hi : Option Int) (sl : Addr) (Q : VK), Inv X pins σ H s -> zt x v -> s.heap.IsSliceOf sl vl vu .none -> IsPart vl lo -> IsPart vu hi -> r x lo hi H Q ->
  ∃ T id, typeLookup (.type T) "__getitem__" = pure (some (.builtin id)) /\ s.TypeIs v T /\ wpAny (model X.prog X.w) X.A (getItem v (.ref sl)) (EP X pins σ Q) X.xe s
def tSl (r : V -> Option Int -> Option Int -> Hp -> VK -> Prop) (te : TE) (tl th : TO) : TE := fun σ H Q => te σ H fun x H1 => tl σ H1 fun l H2 => th σ H2 fun u H3 => r x l u H3 Q
theorem jd {r : V -> Option Int -> Option Int -> Hp -> VK -> Prop} (hr : SlR X r) (he : PE X e te) (hl : PO X lo tl) (hu : PO X hi th) : PE X (.Subscript e (.Slice lo hi none p2) pos) (tSl r te tl th) := by
 intro pins s σ H Q I h
 refine Subscript_ (thn (he pins s σ H _ I h) fun v s1 ⟨x, H1, I1, r1, q1⟩ => ?_)
 refine wpAny_Slice (thn (hl pins s1 σ H1 _ I1 q1) fun vl s2 ⟨l, H2, I2, pl, q2⟩ => thn (hu pins s2 σ H2 _ I2 q2) fun vu s3 ⟨u, H3, I3, pu, q3⟩ => ?_)
 rw [evalPart_none]
 refine wpAny_pure ?_
 have I4 : Inv X pins σ H3 { s3 with heap := s3.heap.push { cls := .type "slice", data := .fields #[vl, vu, .none] } } := I3.kept (t' := s3.toks) fun b ob q => Heap.get?_push_of_some _ q
 obtain ⟨T, id, hT, ht, hg⟩ := hr pins { s3 with heap := s3.heap.push { cls := .type "slice", data := .fields #[vl, vu, .none] } } σ H3 x v vl vu l u s3.heap.objs.size Q I4 r1 (Heap.IsSliceOf.new ..) pl pu q3
 show wpAny (model X.prog X.w) X.A (subscriptTail e (.Slice lo hi none p2) v (.ref s3.heap.objs.size)) (EP X pins σ Q) X.xe { s3 with heap := s3.heap.push { cls := .type "slice", data := .fields #[vl, vu, .none] } }
 exact tail_any (ops := [.ref s3.heap.objs.size, v]) ht hT hg (by with_unfolding_all rfl)
def xp (xs : List V) (lo hi : Option Int) : List V := (xs.drop (HT.sIx xs.length 0 lo)).take (HT.sIx xs.length xs.length hi - HT.sIx xs.length 0 lo)
theorem j9 (xs : List V) (lo hi : Option Int) : (xp xs lo hi).length <= xs.length := by
 unfold xp
 rw [List.length_take, List.length_drop]
 omega
def Yb (K : PySem.W.Frag) : V -> Option Int -> Option Int -> Hp -> VK -> Prop := fun x lo hi H Q => ∃ a xs, x = .ref a /\ SqT K H a xs /\
 ¬ (HT.sIx xs.length 0 lo = 0 /\ HT.sIx xs.length xs.length hi = xs.length) /\ ∀ p, H p = none -> Q (.ref p) (upd H p (.tup (xp xs lo hi)))
theorem Xc : SlR X (Yb X.K) := by
 intro pins s σ H x v vl vu lo hi sl Q I rx hs pl pu h
 obtain ⟨a, xs, rfl, hx, hw, q⟩ := h
 cases rx
 obtain ⟨its, r, ht, hz⟩ := I.tuple hx
 have hlen : its.toArray.size = xs.length := by rw [List.size_toArray]; exact r.length.symm
 refine ⟨"tuple", _, PyProof.Rows.slot_tuple_getitem.lookup, ht.typeIs, ?_⟩
 refine HT.getItem_tuple_cut ht hs pl pu (by rw [hlen]; exact hw) ?_ (by rw [hlen]; exact hz)
 rw [hlen]
 refine ⟨.ref s.heap.objs.size, _, I.laid (t' := s.toks) (o := .tup (xp xs lo hi)) (fun b ob q => Heap.get?_push_of_some _ q) (Nat.le_refl _) ?_, rfl, q _ (I.hok.fresh (Nat.le_refl _))⟩
 exact ⟨Nat.le_trans (j9 xs lo hi) hz, _, (r.drop (HT.sIx xs.length 0 lo)).take (HT.sIx xs.length xs.length hi - HT.sIx xs.length 0 lo), IsTup.new _ _⟩
def v4 (K : PySem.W.Frag) : R2 := fun x y H Q => ∃ a b xs ys, x = .ref a /\ y = .ref b /\ SqT K H a xs /\ SqT K H b ys /\ xs ≠ [] /\ xs.length + ys.length <= sizeLine /\
 (ys = [] -> Q (.ref a) H) /\ (ys ≠ [] -> ∀ p, H p = none -> Q (.ref p) (upd H p (.tup (xs ++ ys))))
theorem zp.nil_iff {xs : List V} {us : List Value} (r : zp xs us) : us = [] ↔ xs = [] := by
 cases r with
 | nil => simp
 | cons _ _ => simp
theorem J3 : OpR X (binaryOp .Add) (v4 X.K) := by
 intro pins s σ H x y v u Q I rx ry h
 obtain ⟨a, b, xs, ys, rfl, rfl, ha, hb, hx, hz, q1, q2⟩ := h
 cases rx
 cases ry
 obtain ⟨its, r1, p1, _⟩ := I.tuple ha
 obtain ⟨its2, r2, p2, _⟩ := I.tuple hb
 refine HT.cat_tup p1 p2 (fun z => hx (r1.nil_iff.mp z)) (fun z => ⟨.ref a, H, I, rfl, q1 (r2.nil_iff.mp z)⟩) (fun z => ?_) (by rw [<- r1.length, <- r2.length]; exact hz)
 refine ⟨.ref s.heap.objs.size, _, I.laid (t' := s.toks) (o := .tup (xs ++ ys)) (fun b ob q => Heap.get?_push_of_some _ q) (Nat.le_refl _) ?_, rfl, q2 (fun w => z (r2.nil_iff.mpr w)) _ (I.hok.fresh (Nat.le_refl _))⟩
 exact ⟨by rw [List.length_append]; exact hz, _, r1.append r2, IsTup.new _ _⟩
end
end L2
namespace L2
open PySem PySem.Spec PyProof.Rows
def ixN (n : Nat) (i : Int) : Option Nat := if 0 <= i then (if i < n then some i.toNat else none) else if -(n : Int) <= i then some (i + n).toNat else none
def atI {α : Type} (xs : List α) (i : Int) : Option α := (ixN xs.length i).bind fun j => xs[j]?
theorem wv {n : Nat} {i : Int} {j : Nat} (h : ixN n i = some j) : seqIndex? i n = some j /\ j < n /\ -(n : Int) <= i /\ i < n := by
 unfold ixN at h
 by_cases h0 : 0 <= i
 ·rw [if_pos h0] at h
  by_cases h1 : i < n
  ·rw [if_pos h1] at h
   have e : i.toNat = j := Option.some.inj h
   exact ⟨by rw [seqIndex_of h0 h1, e], by omega, by omega, h1⟩
  ·rw [if_neg h1] at h; cases h
 ·rw [if_neg h0] at h
  by_cases h1 : -(n : Int) <= i
  ·rw [if_pos h1] at h
   have e : (i + n).toNat = j := Option.some.inj h
   exact ⟨by rw [seqIndex_neg (by omega) h1, e], by omega, h1, by omega⟩
  ·rw [if_neg h1] at h; cases h
theorem v5 {α : Type} {xs : List α} {i : Int} {v : α} (h : atI xs i = some v) : ∃ j, seqIndex? i xs.length = some j /\ xs[j]? = some v /\ j < xs.length /\ -(xs.length : Int) <= i /\ i < xs.length := by
 unfold atI at h
 cases e : ixN xs.length i with
 | none => rw [e] at h; cases h
 | some j =>
  rw [e] at h
  obtain ⟨h1, h2, h3, h4⟩ := wv e
  exact ⟨j, h1, h, h2, h3, h4⟩
theorem qX {α : Type} {xs : List α} {j : Nat} {v : α} (h : xs[j]? = some v) : atI xs (j : Int) = some v := by
 have hj : j < xs.length := (List.getElem?_eq_some_iff.mp h).1
 have e : ixN xs.length (j : Int) = some j := by
  unfold ixN
  rw [if_pos (by omega), if_pos (by omega)]; simp
 unfold atI; rw [e]; exact h
def JI (b : Expr) : Prop := ∀ o i, subscripted b false o i = operate [o, i] (getItem o i)
def IxR (X : Cx) (r : R2) : Prop :=
 ∀ (value slice : Expr) (pins : List (Addr × Obj)) (s : Shared) (σ : St) (H : Hp) (x y : V) (v u : Value) (Q : VK), Inv X pins σ H s -> zt x v -> zt y u -> r x y H Q ->
  subscripted slice false v u = operate [v, u] (getItem v u) -> wpAny (model X.prog X.w) X.A (subscriptTail value slice v u) (EP X pins σ Q) X.xe s
def MtR (X : Cx) (id : String) (r : V -> List V -> Hp -> VK -> Prop) : Prop :=
 ∀ (pins : List (Addr × Obj)) (s : Shared) (σ : St) (H : Hp) (x : V) (xs : List V) (v : Value) (us : List Value) (Q : VK), Inv X pins σ H s -> zt x v -> zp xs us -> r x xs H Q ->
  wpAny (model X.prog X.w) X.A (call (.builtin id) (v :: us)) (EP X pins σ Q) X.xe s
section
variable {X : Cx} {a b : Expr} {ta tb : TE} {pos : Pos}
theorem zq {r : R2} (hr : IxR X r) (ha : PE X a ta) (hb : PE X b tb) (hs : JI b) : PE X (.Subscript a b pos) (tOp r ta tb) := by
 intro pins s σ H Q I h
 exact Subscript_ (Yr ha hb I h fun v u s2 x y H2 I2 rx ry q => hr a b pins s2 σ H2 x y v u Q I2 rx ry q (hs _ _))
def XW (K : PySem.W.Frag) : R2 := fun x y H Q => ∃ p xs i v, x = .ref p /\ y = .int i /\ SqL K H p xs /\ atI xs i = some v /\ Q v H
def VQ (K : PySem.W.Frag) : R2 := fun x y H Q => ∃ p xs i v, x = .ref p /\ y = .int i /\ SqT K H p xs /\ atI xs i = some v /\ Q v H
theorem zw : IxR X (XW X.K) := by
  intro value slice pins s σ H x y v u Q I rx ry h hs
  obtain ⟨p, xs, i, z, rfl, rfl, hq, he, q⟩ := h
  cases rx
  obtain ⟨t, rfl⟩ := ry
  obtain ⟨its, r, pl, hz⟩ := I.list hq
  obtain ⟨j, h1, h2, h3, h4, h5⟩ := v5 he
  obtain ⟨w, ew, rw'⟩ := r.get h2
  have hl := r.length
  have hn := yt
  have fin : EP X pins σ Q w s := ⟨z, H, I, rw', q⟩
  by_cases h0 : 0 <= i
  · have hj : i.toNat = j := by
      rw [seqIndex_of h0 h5] at h1
      exact Option.some.inj h1
    exact item_listR pl.isList h0 (by omega) (by rw [hj]; simpa using ew) fin hs
  · have hj : (i + (its.toArray.size : Int)).toNat = j := by
      rw [seqIndex_neg (by omega) h4] at h1
      rw [List.size_toArray, <- hl]
      exact Option.some.inj h1
    exact subscriptTail_builtinR (x := w) pl.isList.typeIs slot_list_getitem.lookup
      (wpAny_getItem_list_neg (Q := fun r s' => r = w /\ EP X pins σ Q r s') pl.isList (by omega) (by rw [List.size_toArray] <;> omega) (by omega) (by rw [hj]; simpa using ew) ⟨rfl, fin⟩) hs
theorem zX : IxR X (VQ X.K) := by
 intro value slice pins s σ H x y v u Q I rx ry h hs
 obtain ⟨p, xs, i, z, rfl, rfl, hq, he, q⟩ := h
 cases rx
 obtain ⟨t, rfl⟩ := ry
 obtain ⟨its, r, pl, hz⟩ := I.tuple hq
 obtain ⟨j, h1, h2, h3, h4, h5⟩ := v5 he
 obtain ⟨w, ew, rw'⟩ := r.get h2
 have hl := r.length
 have hn := yt
 have fin : EP X pins σ Q w s := ⟨z, H, I, rw', q⟩
 exact subscriptTail_builtinR (x := w) pl.typeIs slot_tuple_getitem.lookup
  (getItem_tuple (j := j) (Q := fun r s' => r = w /\ EP X pins σ Q r s') pl (by omega) (by omega) (by rw [List.size_toArray, <- hl]; exact h1) (by simpa using ew) ⟨rfl, fin⟩) hs
theorem vS (its : List Value) (n j : Nat) (u : Value) : Obj.mapSeq (·.setIfInBounds j u) { cls := .type "list", data := .seq its.toArray n } = { cls := .type "list", data := .seq (its.set j u).toArray n } := by
 simp [Obj.mapSeq]
theorem Inv.lst {pins : List (Addr × Obj)} {σ : St} {H : Hp} {s : Shared} {p : Addr} {xs : List V} (I : Inv X pins σ H s) (h : H p = some (.lst xs)) :
  ∃ (its : List Value) (n : Nat), zp xs its /\ s.heap.get? p = some { cls := .type "list", data := .seq its.toArray n } /\ xs.length <= sizeLine := by
 obtain ⟨z, its, n, r, e⟩ := I.hok p _ h
 exact ⟨its, n, r, e, z⟩
theorem Inv.lstUpd {pins : List (Addr × Obj)} {σ : St} {H : Hp} {s : Shared} {p : Addr} {xs ys : List V} {its its' : List Value} {n n' : Nat} {f : Obj -> Obj} (I : Inv X pins σ H s) (h : H p = some (.lst xs))
  (ho : s.heap.get? p = some { cls := .type "list", data := .seq its.toArray n }) (hf : f { cls := .type "list", data := .seq its.toArray n } = { cls := .type "list", data := .seq its'.toArray n' }) (r : zp ys its') (hz : ys.length <= sizeLine) (t : Nat) :
  Inv X pins σ (upd H p (.lst ys)) { s with heap := s.heap.update p f, toks := t } := by
 have e : (s.heap.update p f).get? p = some { cls := .type "list", data := .seq its'.toArray n' } := by
  rw [Heap.get?_update_self f ho (by rw [hf] <;> rfl), hf]
 refine I.write (x := p) (e := p) (by rw [h]; trivial) (.inl rfl) (fun b u hb q => (Heap.get?_update_other _ _ (Ne.symm hb)).trans q) ⟨_, e⟩ ?_
 exact ⟨hz, its', n', r, e⟩
def KU : V -> V -> V -> Hp -> (Hp -> Prop) -> Prop := fun o i v H Q => ∃ p xs k j, o = .ref p /\ i = .int k /\ H p = some (.lst xs) /\ ixN xs.length k = some j /\ Q (upd H p (.lst (xs.set j v)))
theorem Qc : YI X KU := by
  intro pins s σ H o i v ov iv u Q I ro ri rv h
  obtain ⟨p, xs, k, j, rfl, rfl, hp, hj, q⟩ := h
  cases ro
  obtain ⟨t, rfl⟩ := ri
  obtain ⟨its, n, r, ho, hz⟩ := I.lst hp
  obtain ⟨h1, h2, h3, h4⟩ := wv hj
  have hl := r.length
  have hn := yt
  have I' : Inv X pins σ (upd H p (.lst (xs.set j v))) { s with heap := s.heap.update p (Obj.mapSeq (·.setIfInBounds j u)) } :=
    I.lstUpd hp ho (vS its n j u) (r.set rv j) (by rw [List.length_set]; exact hz) s.toks
  by_cases h0 : 0 <= k
  · have hk : k.toNat = j := by
      rw [seqIndex_of h0 h4] at h1
      exact Option.some.inj h1
    exact PySem.W.ki_setAt ho h0 (by omega) (by rw [List.size_toArray, <- hl]; exact h4) (by rw [hk]; exact ⟨_, I', q⟩)
  · have hk : (k + (its.toArray.size : Int)).toNat = j := by
      rw [seqIndex_neg (by omega) h3] at h1
      rw [List.size_toArray, <- hl]
      exact Option.some.inj h1
    exact PySem.W.ki_setBack ho (by omega) (by rw [List.size_toArray, <- hl]; exact h3) (by omega) (by rw [hk]; exact ⟨_, I', q⟩)
theorem yb (lo hi : Option Int) (n : Nat) : (sliceBounds lo hi none n).1 = ((HT.sIx n 0 lo : Nat) : Int) /\ (sliceBounds lo hi none n).2.1 = ((HT.sIx n n hi : Nat) : Int) /\ (sliceBounds lo hi none n).2.2 = 1 := by
 refine ⟨?_, ?_, rfl⟩
 ·cases lo with
  | none => simp [sliceBounds, HT.sIx]
  | some i =>
   simp only [sliceBounds, HT.sIx, Option.getD_none, show (1 : Int) > 0 by decide, if_true]
   by_cases h : i < 0
   ·simp only [h, if_true] <;> omega
   ·simp only [h, if_false] <;> omega
 ·cases hi with
  | none => simp [sliceBounds, HT.sIx]
  | some i =>
   simp only [sliceBounds, HT.sIx, Option.getD_none, show (1 : Int) > 0 by decide, if_true]
   by_cases h : i < 0
   ·simp only [h, if_true] <;> omega
   ·simp only [h, if_false] <;> omega
theorem xn (its : List Value) (lo hi : Option Int) : slicePick its.toArray lo hi none = ((its.drop (HT.sIx its.length 0 lo)).take (HT.sIx its.length its.length hi - HT.sIx its.length 0 lo)).toArray := by
 obtain ⟨h1, h2, h3⟩ := yb lo hi its.toArray.size
 unfold slicePick
 rw [h1, h2, h3]
 simp only [sliceRange_one, pick_run, List.size_toArray] <;> rfl
def Vb (K : PySem.W.Frag) : V -> Option Int -> Option Int -> Hp -> VK -> Prop := fun x lo hi H Q => ∃ a xs, x = .ref a /\ SqL K H a xs /\ ∀ p, H p = none -> Q (.ref p) (upd H p (.lst (xp xs lo hi)))
theorem v8 : SlR X (Vb X.K) := by
 intro pins s σ H x v vl vu lo hi sl Q I rx hs pl pu h
 obtain ⟨a, xs, rfl, hx, q⟩ := h
 cases rx
 obtain ⟨its, r, ht, hz⟩ := I.list hx
 have hlen := r.length
 refine ⟨"list", _, slot_list_getitem.lookup, ht.isList.typeIs, ?_⟩
 refine wpAny_getItem_list_slice ht.isList hs pl pu .none (by simp) ?_ (by rw [List.size_toArray] <;> omega)
 rw [xn, <- hlen]
 refine ⟨.ref s.heap.objs.size, _, I.laid (t' := s.toks) (o := .lst (xp xs lo hi)) (fun b ob q => Heap.get?_push_of_some _ q) (Nat.le_refl _) ?_, rfl, q _ (I.hok.fresh (Nat.le_refl _))⟩
 exact ⟨Nat.le_trans (j9 xs lo hi) hz, _, 0, (r.drop (HT.sIx xs.length 0 lo)).take (HT.sIx xs.length xs.length hi - HT.sIx xs.length 0 lo), Heap.get?_push_size _ rfl⟩
theorem zr : qo X (.builtin "len") (fun xs H Q => ∃ p ys, xs = [.ref p] /\ (SqL X.K H p ys \/ SqT X.K H p ys) /\ Q (.int ys.length) H) := by
 intro pins s σ H xs us Q I r h
 obtain ⟨p, ys, rfl, hq, q⟩ := h
 obtain ⟨u, rfl, rx⟩ := jB r
 cases rx
 have hn := yt
 rcases hq with hq | hq
 ·obtain ⟨its, r', pl, hz⟩ := I.list hq
  have hlen := r'.length
  exact Calls.call_len_list pl.isList (by simp only [List.size_toArray] <;> omega) ⟨.int ys.length, H, I.tok _, ⟨s.toks + 1, by rw [List.size_toArray, hlen]⟩, q⟩
 ·obtain ⟨its, r', pl, hz⟩ := I.tuple hq
  have hlen := r'.length
  exact len_tuple pl (by simp only [List.size_toArray] <;> omega) ⟨.int ys.length, H, I.tok _, ⟨s.toks + 1, by rw [List.size_toArray, hlen]⟩, q⟩
theorem jJ : qo X (.type "list") (fun xs H Q => ∃ p ys, xs = [.ref p] /\ (SqL X.K H p ys \/ SqT X.K H p ys) /\ ∀ l, H l = none -> Q (.ref l) (upd H l (.lst ys))) := by
 intro pins s σ H xs us Q I r h
 obtain ⟨p, ys, rfl, hq, q⟩ := h
 obtain ⟨u, rfl, rx⟩ := jB r
 cases rx
 have fin : ∀ (its : List Value), zp ys its -> ys.length <= sizeLine -> ∀ (h' : Heap) (c' : Nat), (∀ b o', s.heap.get? b = some o' -> h'.get? b = some o') ->
   h'.get? s.heap.objs.size = some { cls := .type "list", dict := none, data := .seq its.toArray c', slots := #[] } -> EP X pins σ Q (.ref s.heap.objs.size) { s with heap := h' } := fun its r' hz h' c' kp e =>
  ⟨.ref s.heap.objs.size, _, I.laid (t' := s.toks) kp (Nat.le_refl _) (show zG X.prog X.w _ h' _ (.lst ys) from ⟨hz, its, c', r', e⟩), rfl, q _ (I.hok.fresh (Nat.le_refl _))⟩
 rcases hq with hq | hq
 ·obtain ⟨its, r', pl, hz⟩ := I.list hq
  have hlen := r'.length
  obtain ⟨o, ho, hc, n, hd⟩ := pl.isList
  exact call_list_seq p (.inl rfl) ho hc hd (fun h' c' kp e => fin its r' hz h' c' kp e) (by simp only [List.size_toArray] <;> omega)
 ·obtain ⟨its, r', pl, hz⟩ := I.tuple hq
  have hlen := r'.length
  obtain ⟨o, ho, hc, n, hd⟩ := pl
  exact call_list_seq p (.inr rfl) ho hc hd (fun h' c' kp e => fin its r' hz h' c' kp e) (by simp only [List.size_toArray] <;> omega)
theorem qI : qo X (.type "tuple") (fun xs H Q => ∃ p ys, xs = [.ref p] /\ ((SqL X.K H p ys /\ ∀ l, H l = none -> Q (.ref l) (upd H l (.tup ys))) \/ (SqT X.K H p ys /\ Q (.ref p) H))) := by
 intro pins s σ H xs us Q I r h
 obtain ⟨p, ys, rfl, h⟩ := h
 obtain ⟨u, rfl, rx⟩ := jB r
 cases rx
 rcases h with ⟨hq, q⟩ | ⟨hq, q⟩
 ·obtain ⟨its, r', pl, hz⟩ := I.list hq
  have hlen := r'.length
  refine call_tuple_list pl.isList (fun h' kp => ?_) (by simp only [List.size_toArray] <;> omega)
  have I1 : Inv X pins σ H { s with heap := h' } := I.kept (t' := s.toks) kp
  have I2 : Inv X pins σ (upd H h'.objs.size (.tup ys)) { s with heap := h'.push { cls := .type "tuple", data := .seq its.toArray } } :=
   I1.laid (t' := s.toks) (fun b o e => Heap.get?_push_of_some _ e) (Nat.le_refl _) (show zG X.prog X.w _ _ _ (.tup ys) from ⟨hz, its, r', IsTup.new _ _⟩)
  exact ⟨.ref h'.objs.size, _, I2, rfl, q _ (I1.hok.fresh (Nat.le_refl _))⟩
 ·obtain ⟨its, r', pl, hz⟩ := I.tuple hq
  exact call_tuple_same pl ⟨.ref p, H, I, rfl, q⟩
def tyV (K : PySem.W.Frag) (T : String) (x : V) (H : Hp) : Prop := match x with
  | .str _ => T = "str"
  | .int _ => T = "int"
  | .ref p => (T = "list" /\ ∃ xs, SqL K H p xs) \/ (T = "tuple" /\ ∃ o, K.lookup p = some o /\ o.cls = .type "tuple" /\ o.dict = none) \/
      (T = "dict" /\ ((∃ kvs, H p = some (.dK kvs)) \/ ∃ kvs, H p = some (.dT kvs))) \/ (T = "set" /\ ∃ S n, H p = some (.set S n))
  | _ => False
theorem Jl {pins : List (Addr × Obj)} {σ : St} {H : Hp} {s : Shared} {T : String} {x : V} {v : Value} (I : Inv X pins σ H s) (r : zt x v) (ty : tyV X.K T x H) :
    s.TypeIs v T /\ ∀ a, v = .ref a -> ∃ ob, s.heap.get? a = some ob /\ ob.dict = none := by
  cases x with
  | str z =>
    obtain ⟨t, rfl⟩ := r
    cases (show T = "str" from ty)
    exact ⟨typeIs_str s z t, fun _ e => nomatch e⟩
  | int i =>
    obtain ⟨t, rfl⟩ := r
    cases (show T = "int" from ty)
    exact ⟨typeIs_int s i t, fun _ e => nomatch e⟩
  | ref p =>
    cases r
    rcases ty with ⟨rfl, xs, hq⟩ | ⟨rfl, o, hk, hc, hd⟩ | ⟨rfl, hk⟩ | ⟨rfl, S, n, hk⟩
    · obtain ⟨its, _, pl, _⟩ := I.list hq
      refine ⟨pl.isList.typeIs, fun a e => ?_⟩
      cases e
      obtain ⟨o, n, e, c, hd, _⟩ := pl
      exact ⟨o, e, hd⟩
    · refine ⟨⟨o, I.kIn p o hk, hc⟩, fun a e => ?_⟩
      cases e
      exact ⟨o, I.kIn _ o hk, hd⟩
    · have z : ∃ o, s.heap.get? p = some o /\ o.ExactDict := by
        rcases hk with ⟨kvs, hk⟩ | ⟨kvs, hk⟩
        · obtain ⟨_, _, _, _, o, _, _, e, ex, _⟩ := I.hok p _ hk
          exact ⟨o, e, ex⟩
        · obtain ⟨_, _, _, _, o, _, _, e, ex, _⟩ := I.hok p _ hk
          exact ⟨o, e, ex⟩
      obtain ⟨o, e, ex⟩ := z
      refine ⟨⟨o, e, ex.1⟩, fun a e2 => ?_⟩
      cases e2
      exact ⟨o, e, ex.2.1⟩
    · obtain ⟨o, _, _, _, e, ex, _⟩ := I.hok p _ hk
      refine ⟨⟨o, e, ex.1⟩, fun a e2 => ?_⟩
      cases e2
      exact ⟨o, e, ex.2.1⟩
  | _ => exact False.elim ty
def Xq (K : PySem.W.Frag) (T : String) (r : V -> List V -> Hp -> VK -> Prop) (to : TE) : TE := fun σ H Q => to σ H fun x H1 => tyV K T x H1 /\ r x [] H1 Q
def tBM (K : PySem.W.Frag) (T : String) (r : V -> List V -> Hp -> VK -> Prop) (to : TE) (t : TA) : TE := fun σ H Q => to σ H fun x H1 => tyV K T x H1 /\ t σ H1 fun xs H2 => r x xs H2 Q
variable {o e : Expr} {es : List Expr} {to : TE} {t : TA} {name : Str} {apos cpos : Pos} {T id : String} {r : V -> List V -> Hp -> VK -> Prop}
theorem XC (pa : PlainAttrs T) (slot : Slot T name id) (hty : typeOf (.builtin id) = pure (.type "method_descriptor")) (hm : MtR X id r) (ho : PE X o to)
  (hbase : attributeBase o name X.env (eval o X.env) = eval o X.env := by rfl) (hline : (apos.endLine == cpos.line) = true := by rfl) : PE X (.Call (.Attribute o name apos) [] [] cpos) (Xq X.K T r to) := by
 intro pins s σ H Q I h
 refine wpAny_Call_method0_late hbase hline (thn (ho pins s σ H _ I h) fun v s1 ⟨x, H1, I1, r1, ty, q1⟩ => ?_)
 obtain ⟨h1, h2⟩ := Jl I1 r1 ty
 exact ⟨T, id, pa, slot, hty, h1, h2, Calls.callWith_builtin rfl (PySem.evalArgs_none (hm pins s1 σ H1 x [] v [] Q I1 r1 .nil q1))⟩
theorem xu (pa : PlainAttrs T) (slot : Slot T name id) (hty : typeOf (.builtin id) = pure (.type "method_descriptor")) (hm : MtR X id r) (ho : PE X o to) (ha : PA X (e :: es) t)
  (hbase : attributeBase o name X.env (eval o X.env) = eval o X.env := by rfl)
  (hfew : ((backTo cpos (starEach (e :: es) X.env)).all (fun x => !x.1) && (backToKw cpos (keywordEach [] X.env)).all (fun x => x.1.isSome)
   && decide ((e :: es).length + ([] : List Keyword).length + (if ([] : List Keyword).isEmpty then 0 else 1) < 30)) = true := by rfl)
  (hline : (apos.endLine == cpos.line) = true := by rfl) (hs : starEach (e :: es) X.env = (false, eval e X.env) :: starEach es X.env := by rfl) (hplain : (backTo cpos (starEach es X.env)).any (·.1) = false := by rfl) :
  PE X (.Call (.Attribute o name apos) (e :: es) [] cpos) (tBM X.K T r to t) := by
 intro pins s σ H Q I h
 refine wpAny_Call_method_late hbase hfew hline rfl (thn (ho pins s σ H _ I h) fun v s1 ⟨x, H1, I1, r1, ty, q1⟩ => ?_)
 obtain ⟨h1, h2⟩ := Jl I1 r1 ty
 refine ⟨T, id, pa, slot, hty, h1, h2, ?_⟩
 have hA := ha cpos pins s1 σ H1 _ I1 q1
 rw [hs] at hA ⊢
 refine Calls.callWith_builtin (by show (false || (backTo cpos (starEach es X.env)).any (·.1)) = false; rw [hplain] <;> rfl) (Calls.evalArgs_plain ?_)
 exact thn hA fun us s2 ⟨vs, H2, I2, r2, q2⟩ => hm pins s2 σ H2 x vs v us Q I2 r1 r2 q2
/- xs.append(e), list.index on a module's tuple .. are MtR facts of 06m -/
end
end L2
namespace L2
open PySem PySem.Spec PyProof.Rows
def MtM (X : Cx) (id : String) (r : V -> List V -> Hp -> VK -> Prop) : Prop :=
 ∀ (pins : List (Addr × Obj)) (s : Shared) (σ : St) (H : Hp) (x : V) (xs : List V) (v : Value) (us : List Value) (Q : VK), Inv X pins σ H s -> zt x v -> zp xs us -> r x xs H Q ->
  wpAny (model X.prog X.w) X.A (call (.builtin id) (v :: us)) (EP X pins σ Q) X.xe s
theorem zp.one : ∀ {x : V} {us : List Value}, zp [x] us -> ∃ u, us = [u] /\ zt x u
 | _, _, .cons r .nil => ⟨_, rfl, r⟩
theorem zp.zero : ∀ {us : List Value}, zp [] us -> us = []
 | _, .nil => rfl
theorem zp.dropLast {xs : List V} {us : List Value} (h : zp xs us) : zp xs.dropLast us.dropLast := by
 induction h with
 | nil => exact .nil
 | cons r t ih =>
  cases t with
  | nil => exact .nil
  | cons q t' => exact .cons r ih
theorem zp.rep {xs : List V} {us : List Value} (h : zp xs us) : ∀ k : Nat, zp (List.replicate k xs).flatten (List.replicate k us).flatten
 | 0 => .nil
 | k + 1 => by
  rw [List.replicate_succ, List.replicate_succ, List.flatten_cons, List.flatten_cons]
  exact zp.append h (zp.rep h k)
theorem vm {α : Type} (l : List α) : l.eraseIdx (l.length - 1) = l.dropLast := by
 induction l with
 | nil => rfl
 | cons a r ih =>
  cases r with
  | nil => rfl
  | cons b r =>
   have e : (a :: b :: r).length - 1 = ((b :: r).length - 1) + 1 := by
    have h1 : (a :: b :: r).length = r.length + 2 := rfl
    have h2 : (b :: r).length = r.length + 1 := rfl
    omega
   rw [e, List.eraseIdx_cons_succ, ih]
   all_goals rfl
theorem xE (its : List Value) : ∀ (k : Nat) (acc : List Value),
  List.foldl (fun x1 x2 => x1 ++ x2) acc.toArray (List.replicate k its.toArray) = (acc ++ (List.replicate k its).flatten).toArray
 | 0, acc => by simp
 | k + 1, acc => by
  have e : acc.toArray ++ its.toArray = (acc ++ its).toArray := by simp
  have e2 : (acc ++ its) ++ (List.replicate k its).flatten = acc ++ (List.replicate (k + 1) its).flatten := by
   rw [List.replicate_succ, List.flatten_cons, List.append_assoc]
  rw [<- e2, <- xE its k (acc ++ its), <- e, List.replicate_succ, List.foldl_cons]
section
variable {X : Cx} {pins : List (Addr × Obj)} {σ : St} {H : Hp} {s : Shared} {l b : Addr} {xs ys zs : List V}
theorem Inv.lset {its its' : List Value} {n : Nat} {f : Array Value -> Array Value} {t' : Nat} (I : Inv X pins σ H s) (hH : H l = some (.lst xs))
  (e : s.heap.get? l = some { cls := .type "list", data := .seq its.toArray n }) (hf : f its.toArray = its'.toArray) (hv : zp ys its') (hz : ys.length <= sizeLine) :
  Inv X pins σ (upd H l (.lst ys)) { s with heap := s.heap.update l (Obj.mapSeq f), toks := t' } := by
 have q := PySem.IsL.update e f
 rw [hf] at q
 refine I.write (x := l) (e := l) (by rw [hH]; exact trivial) (.inl rfl) (fun b' u hb hu => (Heap.get?_update_other s.heap (Obj.mapSeq f) (Ne.symm hb)).trans hu) ⟨_, q⟩ ?_
 exact ⟨hz, its', _, hv, q⟩
theorem Inv.lnew {its : List Value} {t' : Nat} (I : Inv X pins σ H s) (hv : zp ys its) (hz : ys.length <= sizeLine) :
  Inv X pins σ (upd H s.heap.objs.size (.lst ys)) { s with heap := s.heap.push { cls := .type "list", data := .seq its.toArray }, toks := t' } :=
 I.laid (fun _ _ q => Heap.get?_push_of_some _ q) (Nat.le_refl _) ⟨hz, its, 0, hv, Heap.get?_push_size _ rfl⟩
theorem Inv.fresh (I : Inv X pins σ H s) : H s.heap.objs.size = none := I.hok.fresh (Nat.le_refl _)
theorem Inv.lstM (I : Inv X pins σ H s) (hH : H l = some (.lst xs)) : xs.length <= sizeLine /\ ∃ (its : List Value) (n : Nat), zp xs its /\ xs.length = its.length /\ s.heap.get? l = some { cls := .type "list", data := .seq its.toArray n } := by
 obtain ⟨z, its, n, r, e⟩ := I.hok l _ hH
 exact ⟨z, its, n, r, r.length, e⟩
theorem yL {n : Nat} (h : n <= sizeLine) : Builtin.List.listTooLong n = false := by
 unfold Builtin.List.listTooLong
 exact decide_eq_false (by omega)
end
section
variable {X : Cx}
def kf : V -> List V -> Hp -> VK -> Prop := fun x vs H Q => ∃ l xs y, x = .ref l /\ vs = [y] /\ H l = some (.lst xs) /\ xs.length < sizeLine /\ Q .non (upd H l (.lst (xs ++ [y])))
theorem j8 : MtM X "list.append" kf := by
 intro pins s σ H x vs v us Q I rx rv h
 obtain ⟨l, xs, y, rfl, rfl, hH, hz, q⟩ := h
 cases rx
 obtain ⟨u, rfl, ru⟩ := rv.one
 obtain ⟨z, its, n, r, hl, e⟩ := I.lstM hH
 refine call_meets F.slot_list_append ⟨_, e, rfl⟩ F.entry_list_append (F.args_list_append_2 _ _) (PySem.list_append l its.toArray n u (by rw [List.size_toArray]; omega)) ⟨e, ?_⟩
 refine ⟨.non, _, I.lset (its' := its ++ [u]) hH e (by simp) (r.append (.cons ru .nil)) ?_, rfl, q⟩
 rw [List.length_append, List.length_singleton]
 omega
def wk : V -> List V -> Hp -> VK -> Prop := fun x vs H Q => ∃ l b xs zs, x = .ref l /\ vs = [.ref b] /\ H l = some (.lst xs) /\ H b = some (.lst zs) /\ xs.length + zs.length <= sizeLine /\ Q .non (upd H l (.lst (xs ++ zs)))
theorem Y5 : MtM X "list.extend" wk := by
 intro pins s σ H x vs v us Q I rx rv h
 obtain ⟨l, b, xs, zs, rfl, rfl, hH, hB, hz, q⟩ := h
 cases rx
 obtain ⟨u, rfl, ru⟩ := rv.one
 cases ru
 obtain ⟨z, its, n, r, hl, e⟩ := I.lstM hH
 obtain ⟨z2, its2, n2, r2, hl2, e2⟩ := I.lstM hB
 have hsz : its.toArray.size + its2.toArray.size <= sizeLine := by rw [List.size_toArray, List.size_toArray]; omega
 have hlong : ¬ (!its.toArray.isEmpty && Builtin.List.listTooLong (its.toArray.size + its2.toArray.size)) = true := by
  rw [yL hsz, Bool.and_false]
  exact Bool.false_ne_true
 refine call_meets F.slot_list_extend ⟨_, e, rfl⟩ F.entry_list_extend (F.args_list_extend_2 _ _)
  (AutoSeq1.list_extend_list_list_0 l its.toArray n b its2.toArray n2 hlong (by rw [List.size_toArray]; omega) (by omega)) ⟨e, e2, ?_⟩
 refine ⟨.non, _, I.lset (its' := its ++ its2) hH e (by simp) (r.append r2) ?_, rfl, q⟩
 rw [List.length_append]
 omega
def V7 : V -> List V -> Hp -> VK -> Prop := fun x vs H Q => ∃ l xs y, x = .ref l /\ vs = [] /\ H l = some (.lst xs) /\ xs[xs.length - 1]? = some y /\ Q y (upd H l (.lst xs.dropLast))
theorem VX : MtM X "list.pop" V7 := by
 intro pins s σ H x vs v us Q I rx rv h
 obtain ⟨l, xs, y, rfl, rfl, hH, hy, q⟩ := h
 cases rx
 have hus := rv.zero
 subst hus
 obtain ⟨z, its, n, r, hl, e⟩ := I.lstM hH
 obtain ⟨u, hu, ru⟩ := r.get hy
 have hy' : its.toArray[its.toArray.size - 1]? = some u := by
  show its.toArray[its.length - 1]? = some u
  rw [<- Array.getElem?_toList, <- hl]
  exact hu
 refine call_meets F.slot_list_pop ⟨_, e, rfl⟩ F.entry_list_pop (F.args_list_pop_1 _) (MeetsSeq.list_pop_last l its.toArray n u hy' (by rw [List.size_toArray]; omega)) ⟨e, ?_⟩
 refine ⟨y, _, I.lset (its' := its.dropLast) hH e ?_ r.dropLast ?_, ru, q⟩
 ·show its.toArray.eraseIdxIfInBounds (its.toArray.size - 1) = its.dropLast.toArray
  rw [List.size_toArray, List.eraseIdxIfInBounds_toArray, vm]
 ·rw [List.length_dropLast]
  omega
def yp : V -> List V -> Hp -> VK -> Prop := fun x vs H Q => ∃ l xs, x = .ref l /\ vs = [] /\ H l = some (.lst xs) /\ Q .non (upd H l (.lst []))
theorem Qv : MtM X "list.clear" yp := by
 intro pins s σ H x vs v us Q I rx rv h
 obtain ⟨l, xs, rfl, rfl, hH, q⟩ := h
 cases rx
 have hus := rv.zero
 subst hus
 obtain ⟨z, its, n, r, hl, e⟩ := I.lstM hH
 refine call_meets F.slot_list_clear ⟨_, e, rfl⟩ F.entry_list_clear (F.args_list_clear_1 _) (AutoSeq1.list_clear_list_0 l its.toArray n (by rw [List.size_toArray]; omega)) ⟨e, ?_⟩
 exact ⟨.non, _, I.lset (its' := []) (ys := []) hH e rfl .nil (Nat.zero_le _), rfl, q⟩
def Km : R2 := fun x y H Q => ∃ l b xs zs, x = .ref l /\ y = .ref b /\ H l = some (.lst xs) /\ H b = some (.lst zs) /\ xs.length + zs.length <= sizeLine /\ ∀ p, H p = none -> Q (.ref p) (upd H p (.lst (xs ++ zs)))
theorem vx : OpR X (binaryOp .Add) Km := by
 intro pins s σ H x y v u Q I rx ry h
 obtain ⟨l, b, xs, zs, rfl, rfl, hH, hB, hz, q⟩ := h
 cases rx
 cases ry
 obtain ⟨z, its, n, r, hl, e⟩ := I.lstM hH
 obtain ⟨z2, its2, n2, r2, hl2, e2⟩ := I.lstM hB
 refine PySem.P.add_list e e2 ?_ (by rw [List.size_toArray, List.size_toArray]; omega)
 have ea : its.toArray ++ its2.toArray = (its ++ its2).toArray := by simp
 rw [ea]
 exact ⟨.ref _, _, I.lnew (t' := s.toks) (r.append r2) (by rw [List.length_append]; omega), rfl, q _ I.fresh⟩
def Vu : R2 := fun x y H Q => ∃ l k xs, x = .ref l /\ y = .int k /\ H l = some (.lst xs) /\ -(2 ^ 63) <= k /\ k < 2 ^ 63 /\ xs.length * k.toNat <= sizeLine /\
 ∀ p, H p = none -> Q (.ref p) (upd H p (.lst (List.replicate k.toNat xs).flatten))
theorem J9 {α : Type} (xs : List α) (k : Nat) : (List.replicate k xs).flatten.length = k * xs.length := by
 induction k with
 | zero => simp
 | succ k ih => rw [List.replicate_succ, List.flatten_cons, List.length_append, ih, Nat.succ_mul, Nat.add_comm]
theorem Qj : OpR X (binaryOp .Mult) Vu := by
 intro pins s σ H x y v u Q I rx ry h
 obtain ⟨l, k, xs, rfl, rfl, hH, h1, h2, hz, q⟩ := h
 cases rx
 obtain ⟨t, rfl⟩ := ry
 obtain ⟨z, its, n, r, hl, e⟩ := I.lstM hH
 have hlen : its.toArray.size * k.toNat <= sizeLine := by rw [List.size_toArray, <- hl]; exact hz
 have hcap : ¬ its.toArray.size * k.toNat > (2 ^ 63 - 1) / 8 := by
  have : (sizeLine : Nat) <= (2 ^ 63 - 1) / 8 := by decide
  omega
 have hfit : ¬ (!Builtin.List.listFitsIndex k) = true := by
  rw [fitsIndex_both h1 h2]
  exact Bool.false_ne_true
 have hlong : ¬ Builtin.List.listTooLong (its.toArray.size * k.toNat) = true := by
  rw [yL hlen]
  exact Bool.false_ne_true
 have hnew : List.foldl (fun x1 x2 => x1 ++ x2) #[] (List.replicate (if its.toArray.isEmpty = true then 0 else k.toNat) its.toArray) = (List.replicate k.toNat its).flatten.toArray := by
  have f0 : ∀ m : Nat, List.foldl (fun x1 x2 => x1 ++ x2) #[] (List.replicate m its.toArray) = (List.replicate m its).flatten.toArray := fun m => by
   have := xE its m []
   rw [List.nil_append] at this
   exact this
  rw [f0]
  cases its with
  | nil => simp
  | cons a r' => rw [if_neg (by simp)]
 refine wpAny_binaryOp_repeat_ref (T := "list") (U := "int") (by decide) ⟨_, e, rfl⟩ (fun s' => typeIs_int s' k t) noFill_list_mul F.fills_int_mul F.slot_int_rmul repeat_list F.slot_int_index.lookup
  (call_meets F.slot_int_rmul (typeIs_int s k t) F.entry_int_rmul (F.args_int_rmul_2 _ _) (int___rmul___int_list k t l its.toArray n)
   ⟨e, rfl, ⟨_, e, rfl⟩, call_meets F.slot_list_mul ⟨_, e, rfl⟩ F.entry_list_mul (F.args_list_mul_2 _ _) (AutoListH.list___mul___list_int_3 l its.toArray n k t hfit hcap hlong) ⟨e, ?_⟩⟩)
 rw [hnew]
 exact ⟨.ref _, _, I.lnew (t' := s.toks) (r.rep k.toNat) (by rw [J9, Nat.mul_comm]; exact hz), rfl, q _ I.fresh⟩
end
section
variable {prog : Program} {w : World} {A : Around} {E : Value -> Shared -> Prop} {s : Shared}
end
section
variable {X : Cx}
end
end L2
namespace Att
open PySem PySem.W PySem.Calls PyProof.Rows
theorem ke {P : Params} {h : Heap} : ∀ (ns : List Int) (vs : List Value), WellAll P h vs (ns.map WData.int) -> IntsAre vs ns := by
 intro ns
 induction ns with
 | nil =>
  intro vs w
  rw [List.map_nil] at w
  cases w
  exact .nil
 | cons n ns ih =>
  intro vs w
  rw [List.map_cons] at w
  cases w with
  | cons a b =>
   cases a
   exact .cons _ _ (ih _ b)
theorem wN {l : OpenLaw} {n : Nat} (hn : l.most = some n) {P : Params} {h : Heap} {args : List WData} {vals : List Value}
  (hpre : l.row.toRowW.claim.pre args = true) (hwl : WellAll P h vals args) :
  ∃ a vs ns, vals = [Value.ref a] /\ args = [WData.list (ns.map WData.int)] /\ h.get? a = some { cls := .type "list", data := .seq vs.toArray } /\ IntsAre vs ns /\ ns.length <= n := by
 have hsh : WShape.hasAll [] args [.list .int] = true := (pre_splitW hpre).1
 have hc : l.pre.holds [] { args := args } = true := (pre_splitW hpre).2
 obtain ⟨d, r, rfl, h1, h2⟩ := hasAllW_cons hsh
 obtain rfl := hasAllW_nil h2
 obtain ⟨xs, rfl, h3⟩ := hasW_list h1
 obtain ⟨ns, rfl⟩ := items_int h3
 have hlen : ns.length <= n := by
  unfold OpenLaw.pre at hc
  have h4 : (WTm.not (.lt (.lit (.int (n : Int))) (.len (.arg 0)))).holds [] { args := [.list (ns.map .int)] } = true := by
   have h4 := (holds_andW hc).1
   rw [hn] at h4
   exact h4
  have h5 := condW_of h4 (w_not (w_lt w_lit (w_len_list (w_arg rfl))))
  rw [List.length_map] at h5
  refine Nat.le_of_not_lt fun q => ?_
  have q' : (n : Int) < ((ns.length : Nat) : Int) := by omega
  first
   | (rw [decide_eq_true q'] at h5; exact absurd h5 (by decide))
   | (simp at h5; omega)
 cases hwl with
 | cons w1 w2 =>
  cases w2
  cases w1 with
  | list ho hall => exact ⟨_, _, ns, rfl, rfl, ho, ke ns _ hall, hlen⟩
theorem ZD (l : OpenLaw) (args : List WData) : l.row.toRowW.claim.post args (.bool true) args = true :=
 postW_of (r := l.row.toRowW) (X := (true == true))
  (show WShape.has [] (.bool true) .bool = true by first | rfl | decide | simp [WShape.has, WShape.arms, WShape.armsAll])
  (show (WTm.eq .res (.lit (.bool true))).value [] { args := args, res := some (.bool true), after := args } = some (.bool (true == true)) from w_eq_bool (w_res rfl) w_lit) rfl
theorem attach_call {l : OpenLaw} {n : Nat} {q : Program} {loose : List Str} {XP : (Str -> Option Value) -> Heap -> Prop} {YP : World -> Heap -> Prop} {d : DefRec}
  (hn : l.most = some n) (hdf : d.params.defaults = [])
  (call : ∀ (w : World) (s₀ s₁ : Shared) (mg mb : Str -> Option Value) (fa : Addr) (o : Obj) (pm cd doc : Value) (a : Addr) (vs : List Value) (ns : List Int),
   Ground q loose [] XP w s₀ mg mb s₁.heap -> YP w s₁.heap ->
   s₁.heap.get? fa = some o -> o.data = .func (docDef d.name d.params d.body d.scope pm cd doc) -> s₁.heap.CodeRec cd d.name -> mg d.name = some (.ref fa) ->
   s₁.heap.get? a = some { cls := .type "list", data := .seq vs.toArray } -> IntsAre vs ns -> ns.length <= n -> s₁.gens = #[] ->
   codeAny (model l.prog w) callerA (.call (.ref fa) ⟨[.ref a], []⟩) (fun r s' => r = .ok (.ret (.bool true)) /\ OldK s₁.heap s'.heap /\ s'.os = s₁.os /\ AllBare s'.gens) s₁) :
  WalkO q loose XP YP l.row.toRowW d [] (fun f vs => PySem.call f vs) := by
 intro w s₀ s₁ mg mb G Y fa o pm cd doc dV kV ho hd hcd hD hmg hg args vals as hpre hlay hrd hwl hlo
 obtain rfl : dV = .none := Dflts.none hD hdf
 obtain rfl : kV = .none := Dflts.noKw hD
 obtain ⟨a, vs, ns, rfl, rfl, hobj, hints, hlen⟩ := wN hn hpre hwl
 refine enter_call (codeAny_mono (call w s₀ s₁ mg mb fa o pm cd doc a vs ns G Y ho (fd_plain hd) hcd hmg hobj hints hlen hg) fun r s' hq => ?_)
 obtain ⟨rfl, h2, h3, h4⟩ := hq
 exact ⟨.inl ⟨.bool true, .bool true, [], rfl, fun _ => rfl, .bool true, ZD l _, fun _ => ⟨List.Pairwise.nil, fun _ hm => (nomatch hm)⟩⟩, h2, h3, h4⟩
section
variable {prog : Program} {w : World} {A : Around} {E : Value -> Shared -> Prop} {s : Shared} {K : Frag}
def VY (h : Heap) (L d : Addr) : List (Addr × Obj) := (List.range h.objs.size).filterMap fun a => if a = L \/ a = d then none else (h.get? a).map fun o => (a, o)
end
end Att
namespace L2
open PySem PySem.Spec PyProof.Rows
theorem xJ : ∀ {vs : List Value} {ns : List Int}, IntsAre vs ns -> zp (ns.map V.int) vs
 | _, _, .nil => .nil
 | _, _, .cons n t h => .cons ⟨t, rfl⟩ (xJ h)
def XQ (H : Hp) : Prop := ∀ b, H b = none \/ ∃ o xs, H b = some (.frz o (.lst xs))
theorem ZP {P : Program} {w : World} {K : PySem.W.Frag} {mg mb : Str -> Option Value} {CX : CXT} {k : Nat} {fa a : Addr} {fd : FuncData} {x : Str} {sp : Sp} {s₁ : Shared} {vs : List Value} {ns : List Int}
  (KX : K.In s₁.heap) (hns : s₁.heap.Ns mainGlobals mg) (hb : s₁.heap.Ns builtinsNs mb) (hbb : ∀ x : Str, x ≠ "__name__" -> mb x = bootBuiltins x) (hlim : s₁.heap.NoLimit) (hg : s₁.gens = #[])
  (ha : s₁.heap.get? a = some { cls := .type "list", data := .seq vs.toArray }) (hi : IntsAre vs ns) (hl : ns.length <= sizeLine) (hr : qL k callerA)
  (F : ∀ base : Heap, K.In base -> base.Ns mainGlobals mg -> jv P w K mg base CX k fa fd [x] sp) (hbind : ∀ (s : Shared) (u : Value), BindsTo s fd ⟨[u], []⟩ [(x, u)])
  (hsp : ∀ H : Hp, XQ H -> SqL K H a (ns.map V.int) -> sp [.ref a] H (fun v _ => v = .bl true) fun _ _ _ => False)
  (hCX : ∀ H e s', CX [] H s₁ (fun _ _ _ => False) e s' -> False) :
  codeAny (model P w) callerA (.call (.ref fa) ⟨[.ref a], []⟩) (fun r s' => r = .ok (.ret (.bool true)) /\ OldK s₁.heap s'.heap /\ s'.os = s₁.os /\ AllBare s'.gens) s₁ := by
 have rv := xJ hi
 have lenV := hi.length
 have core : ∀ H : Hp, XQ H -> SqL K H a (ns.map V.int) -> HOk P w H s₁.heap -> (∀ b, H b ≠ none -> b = a) -> (H a ≠ none -> K.lookup a = none) ->
   codeAny (model P w) callerA (.call (.ref fa) ⟨[.ref a], []⟩) (fun r s' => r = .ok (.ret (.bool true)) /\ OldK s₁.heap s'.heap /\ s'.os = s₁.os /\ AllBare s'.gens) s₁ := by
  intro H hO hS hok hA hK
  have base_of : ∀ {b : Addr} {o : Obj}, s₁.heap.get? b = some o -> H b = none -> (xZ s₁.heap H).get? b = some o := fun e n => ZY e n
  have noA : ∀ {b : Addr} {o : Obj} {es : Array DictEntry} {ep : Nat}, s₁.heap.get? b = some o -> o.data = .dict es ep -> H b = none := fun {b o es ep} e d => by
   cases q : H b with
   | none => rfl
   | some u =>
    have e' : b = a := hA b (by rw [q]; simp)
    subst e'
    rw [ha] at e; cases e
    have d' : Data.seq vs.toArray _ = Data.dict es ep := d
    cases d'
  have nsK : ∀ {b : Addr} {m : Str -> Option Value}, s₁.heap.Ns b m -> (xZ s₁.heap H).Ns b m := fun {b m} ⟨o, es, ep, e, d, r⟩ => ⟨o, es, ep, base_of e (noA e d), d, r⟩
  have hKb : K.In (xZ s₁.heap H) := fun b o e => base_of (KX b o e) (by
   cases q : H b with
   | none => rfl
   | some u =>
    have e' : b = a := hA b (by rw [q]; simp)
    subst e'
    rw [hK (by rw [q]; simp)] at e; cases e)
  have hM : Mod K mg (xZ s₁.heap H) := ⟨hKb, nsK hns, ⟨mb, nsK hb, hbb⟩, let ⟨mc, h1, h2⟩ := hlim; ⟨mc, nsK h1, h2⟩⟩
  have e0 : J5 P w K mg (xZ s₁.heap H) callerA [] s₁ H := ⟨rfl, hM, fun b o e => JU e, Nat.le_of_eq (w8 _ _), trivial, fun b hb => absurd (show b ∈ ([] : List Addr) from hb) (by simp), hok, .of_eq hg⟩
  refine codeAny_mono ((F _ hKb (nsK hns)).run callerA [] s₁ H ⟨[.ref a], []⟩ [.ref a] [.ref a] _ _ hr e0 (hbind s₁ (.ref a)) (.cons rfl .nil) (hsp H hO hS)) fun r s' h => ?_
  cases r with
  | error e => exact (hCX H e s' h).elim
  | ok fl =>
   cases fl with
   | next => exact False.elim h
   | brk => exact False.elim h
   | cont => exact False.elim h
   | ret u =>
    obtain ⟨v, H', os, bare, un, hok', r', q⟩ := h
    have q' : v = .bl true := q
    subst q'
    obtain rfl : u = Value.bool true := r'
    refine ⟨rfl, OldK.of_keep fun b o e => ?_, os, bare⟩
    cases q : H b with
    | none => exact un.keep b o e q (by intro z; exact absurd (show b ∈ ([] : List Addr) from z) (by simp)) (by simp)
    | some u =>
     rcases hO b with z | ⟨ob, xs, z⟩
     ·rw [q] at z; cases z
     ·have z2 := un.frzs b ob _ z
      obtain ⟨e1, _⟩ := hok b _ z
      obtain ⟨e2, _⟩ := hok' b _ z2
      rw [e] at e1; cases e1
      exact e2
 cases hk : K.lookup a with
 | some o =>
  have e := KX a o hk
  rw [ha] at e
  cases e
  refine core (fun _ => none) (fun _ => .inl rfl) (.inr ⟨_, vs.toArray, _, hk, rfl, rfl, rfl, by rw [List.size_toArray, lenV]; exact hl, by simpa using rv⟩) (fun b u z => by have z' : (none : Option HO) = some u := z; cases z') (fun b z => absurd rfl z) fun z => absurd rfl z
 | none =>
  refine core (fun b => if b = a then some (.frz { cls := .type "list", data := .seq vs.toArray } (.lst (ns.map V.int))) else none) (fun b => ?_) (.inl (.inr ⟨{ cls := .type "list", data := .seq vs.toArray }, if_pos rfl⟩)) (fun b u z => ?_) (fun b z => ?_) fun _ => hk
  ·by_cases hb : b = a
   ·exact .inr ⟨_, _, if_pos hb⟩
   ·exact .inl (if_neg hb)
  ·by_cases hb : b = a
   ·have z' := (if_pos hb).symm.trans z
    cases z'
    subst hb
    exact ⟨ha, by rw [List.length_map]; exact hl, vs, _, rv, ha⟩
   ·have z' := (if_neg hb).symm.trans z
    cases z'
  ·by_cases hb : b = a
   ·exact hb
   ·exact absurd (if_neg hb) z
end L2
namespace L2
open PySem PySem.Spec PyProof.Rows
abbrev KOf {K : PySem.W.Frag} {h : Heap} (_ : K.In h) : PySem.W.Frag := K
theorem walk_of {l : PySem.W.OpenLaw} {n k : Nat} {q : Program} {loose : List Str} {XP : (Str -> Option Value) -> Heap -> Prop} {YP : World -> Heap -> Prop} {d : DefRec} {K : Params -> PySem.W.Frag} {CX : World -> CXT} {sp : World -> Sp} {x : Str}
  (hn : l.most = some n) (hn2 : n <= sizeLine) (hdf : d.params.defaults = []) (hr : qL k callerA)
  (hY : ∀ (w : World) (h : Heap), YP w h -> (K w.params).In h)
  (F : ∀ (w : World) (mg : Str -> Option Value) (fa : Addr) (h : Heap), (K w.params).In h -> h.Ns mainGlobals mg -> mg d.name = some (.ref fa) ->
   ∃ fd : FuncData, (∀ (s : Shared) (u : Value), BindsTo s fd ⟨[u], []⟩ [(x, u)]) /\
    ∀ base : Heap, (K w.params).In base -> base.Ns mainGlobals mg -> jv l.prog w (K w.params) mg base (CX w) k fa fd [x] (sp w))
  (hsp : ∀ (w : World) (H : Hp) (a : Addr) (ns : List Int), ns.length <= n -> XQ H -> SqL (K w.params) H a (ns.map V.int) -> sp w [.ref a] H (fun v _ => v = .bl true) fun _ _ _ => False)
  (hCX : ∀ (w : World) (H : Hp) (s : Shared) (e : Value) (s' : Shared), CX w [] H s (fun _ _ _ => False) e s' -> False) :
  PySem.W.WalkO q loose XP YP l.row.toRowW d [] (fun f vs => PySem.call f vs) := by
 refine Att.attach_call hn hdf fun w s₀ s₁ mg mb fa o pm cd doc a vs ns G Y ho hd hcd hmg hobj hints hlen hg => ?_
 have KX := hY w _ Y
 obtain ⟨fd, hb, hF⟩ := F w mg fa _ KX G.T.g hmg
 exact ZP KX G.T.g G.T.b G.T.builtins G.T.nolimit hg hobj hints (Nat.le_trans hlen hn2) hr hF hb (fun H hO hS => hsp w H a ns hlen hO hS) fun H e s' => hCX w H s₁ e s'
end L2
/- THE LAST THEOREM (shape; LID, My.* are yours):
   My.Adr: a structure of the addresses that your layer names (classes, functions); My.Txt K t: a structure (Prop) of the equations over K;
   My.txt_mk : {K} {implicit addresses ..} (e1 : nsIn K mainGlobals "law" = some (some (.ref f))) (e2 : K.lookup f = some ⟨oc, od, .func (fnOf "law" "law" params body scope dV kV doc pm an cdv ct), sl⟩) (e3 : codeIn K cdv "law" = true) .. : ∃ t, My.Txt K t
set_option maxRecDepth 100000 in
set_option maxHeartbeats 0 in
theorem PySem.Challenge.cw_LID_holds : PySem.Challenge.rw_LID.Holds := by
 w_on; o_law; k_head; (case hw => w_witness2)
 k_fill
 refine L2.walk_of (l := PySem.Challenge.rw_LID) (n := 63) (k := 40) (x := "script") (CX := fun w => ..) (sp := fun _ => My.sp_law) rfl (by decide) rfl ⟨rfl, by decide, by decide⟩ (fun w h Y => PySem.W.kIn_of Y) ?F ?S ?C
 case F =>
  intro w mg fa h KX G hmg
  have T : ∃ t, My.Txt (L2.KOf KX) t := by
   dsimp only [L2.KOf]                          -- K must stand as «<heap const> w.params» for k_is
   refine' My.txt_mk ?e1 ?e2 ?e3 ..
   (case e1 => PySem.W.k_is)                    -- in the order: a name -> its address -> its object -> its parts
   (case e2 => PySem.W.k_is)
   ..
  obtain ⟨t, T⟩ := T
  have e0 := hmg.symm.trans (PySem.W.mg_of KX G T.law)
  cases e0                                       -- fa is the law's own address
  exact ⟨_, fun s u => .of_eq rfl, fun base kb nb => My.law_fn T kb nb⟩     -- if «.of_eq rfl» comes too early: refine' ⟨_, ?b, fun base kb nb => My.law_fn T kb nb⟩; exact fun s u => .of_eq rfl
 case S => exact fun w H a ns hl hO hS => ..
 case C => exact ..
(the tactic k_is has no namespace: write k_is) -/
namespace L2
open PySem PySem.Spec PyProof.Rows
def qE (s : Stmt) : Arguments := match s with
 | .FunctionDef _ a _ _ _ _ _ _ _ _ => a
 | _ => { posonlyargs := [], args := [], vararg := none, kwonlyargs := [], kw_defaults := [], kwarg := none, defaults := [] }
def zZ (s : Stmt) : List Stmt := match s with
 | .FunctionDef _ _ b _ _ _ _ _ _ _ => b
 | _ => []
def zn (s : Stmt) : Scope := match s with
 | .FunctionDef _ _ _ _ _ _ sc _ _ _ => sc
 | _ => { kind := .function, names := [], isGenerator := false, isCoroutine := false }
abbrev CX0 : CXT := fun _ _ _ _ _ _ => False
abbrev E0 : XK := fun _ _ _ => False
theorem Vd {X : Cx} : vQ CX0 X E0 := fun _ _ _ _ _ _ _ h => h.elim
structure Fun (K : PySem.W.Frag) (x qual : Str) (st : Stmt) (f : Addr) (fd : FuncData) : Prop where
 ex : ∃ (oc : Value) (od : Option Addr) (kV doc pm : Value) (an : Option Addr) (cdv ct : Value) (osl : Array (Option Value)),
  fd = PySem.W.fnOf x qual (qE st) (zZ st) (zn st) .none kV doc pm an cdv ct /\ K.lookup f = some ⟨oc, od, .func fd, osl⟩ /\ PySem.W.codeIn K cdv qual = true
 kp : PySem.W.keepIn K (.ref f) = true
section
variable {P : Program} {w : World} {K : PySem.W.Frag} {mg : Str -> Option Value} {base : Heap}
theorem Fun.ok {x qual : Str} {st : Stmt} {f : Addr} {fd : FuncData} {N ps : List Str} {k : Nat} {sp : Sp} (F : Fun K x qual st f fd) (S : zN N ps (zn st)) (len : ∀ vs H Q E, sp vs H Q E -> vs.length = ps.length)
  (hbody : ∀ (cdv : Value) (A : Around) (outer : List Env) (s : Shared) (H : Hp) (vs : List V) (Q : VK) (E : XK), qL k (A.deeper (envOfC qual (zn st) s.heap.objs.size f cdv)) -> sp vs H Q E ->
   ∃ t, PSs (yc CX0 P w K mg base N qual (zn st) f cdv A outer s H E).nox (zZ st) t /\ t { nx := fun _ H' => Q .non H', rt := Q } (ql N vs) H) : jv P w K mg base CX0 (k + 1) f fd ps sp := by
 obtain ⟨oc, od, kV, doc, pm, an, cdv, ct, osl, rfl, lk, hcd⟩ := F.ex
 refine Vn lk hcd S len fun A outer s H vs Q E hr hsp => ?_
 obtain ⟨t, h, q⟩ := hbody cdv A outer s H vs Q E hr hsp
 exact ⟨t, h.nox, q⟩
theorem Fun.binds {x qual : Str} {st : Stmt} {f : Addr} {fd : FuncData} {ps : List Str} (F : Fun K x qual st f fd)
  (h : ∀ (kV doc pm : Value) (an : Option Addr) (cdv ct : Value) (us : List Value), us.length = ps.length -> bindArgs (PySem.W.fnOf x qual (qE st) (zZ st) (zn st) .none kV doc pm an cdv ct) ⟨us, []⟩ = pure (ps.zip us)) : xD K fd ps [] := by
 obtain ⟨oc, od, kV, doc, pm, an, cdv, ct, osl, rfl, lk, hcd⟩ := F.ex
 exact .all (h kV doc pm an cdv ct)
theorem Qk {x qual : Str} {st : Stmt} {f : Addr} {oc : Value} {od an : Option Addr} {osl : Array (Option Value)} {kV doc pm cdv ct : Value} (l : K.lookup f = some ⟨oc, od, .func (PySem.W.fnOf x qual (qE st) (zZ st) (zn st) .none kV doc pm an cdv ct), osl⟩)
  (c : PySem.W.codeIn K cdv qual = true) (k : PySem.W.keepIn K (.ref f) = true) : Fun K x qual st f (PySem.W.fnOf x qual (qE st) (zZ st) (zn st) .none kV doc pm an cdv ct) := ⟨⟨oc, od, kV, doc, pm, an, cdv, ct, osl, rfl, l, c⟩, k⟩
end
section
variable {X : Cx}
theorem pv (i : Nat) {x : Str} {pos : Pos} (hN : X.N[i]? = some x := by rfl) (hv : Vis X.env.scope x := by first | exact Or.inl rfl | exact Or.inr (Or.inl rfl) | exact Or.inr (Or.inr rfl)) (hd : (x == ("__debug__" : Str)) = false := by decide)
  (hcd : (x == ("__classdict__" : Str)) = false := by decide) : PE X (.Name x pos) (Ke i) := X8 hN hv hd hcd
end
theorem VS {c A B : Prop} [Decidable c] (h1 : c -> A) (h2 : ¬ c -> B) : if c then A else B := by
 by_cases h : c
 ·rw [if_pos h]
  exact h1 h
 ·rw [if_neg h]
  exact h2 h
end L2
namespace L2
open PySem PySem.Spec PyProof.Rows
section
variable {κ : Type} [DecidableEq κ]
end
section
variable {P : Program} {w : World} {H : Hp} {h : Heap} {a : Addr}
end
section
variable {X : Cx} {pins : List (Addr × Obj)} {σ : St} {H : Hp} {s : Shared} {a : Addr} {y v : V} {u r : Value} {o : Option V} {A : Around} {E : Value -> Shared -> Prop}
end
section
variable {X : Cx} {pins : List (Addr × Obj)} {σ : St} {H : Hp} {s : Shared} {a : Addr} {kvs : List (Key × V)} {k : Key} {u : Value} {A : Around} {E : Value -> Shared -> Prop}
end
section
variable {X : Cx} {o i e value : Expr} {pos pos' tpos : Pos} {td ty tv : TE}
end
section
variable {X : Cx} {pos : Pos}
end
structure M1 (X : Cx) (o : Expr) (m : Str) (apos : Pos) (e : Expr) (cpos : Pos) : Prop where
 base : attributeBase o m X.env (eval o X.env) = eval o X.env
 few : ((backTo cpos (starEach [e] X.env)).all (fun x => !x.1) && (backToKw cpos (keywordEach [] X.env)).all (fun x => x.1.isSome)
  && decide (([e] : List Expr).length + ([] : List Keyword).length + (if ([] : List Keyword).isEmpty then 0 else 1) < 30)) = true
 line : (apos.endLine == cpos.line) = true
 trees : backTo cpos (starEach [e] X.env) = [(false, eval e X.env)]
structure M2 (X : Cx) (o : Expr) (m : Str) (apos : Pos) (e f : Expr) (cpos : Pos) : Prop where
 base : attributeBase o m X.env (eval o X.env) = eval o X.env
 few : ((backTo cpos (starEach [e, f] X.env)).all (fun x => !x.1) && (backToKw cpos (keywordEach [] X.env)).all (fun x => x.1.isSome)
  && decide (([e, f] : List Expr).length + ([] : List Keyword).length + (if ([] : List Keyword).isEmpty then 0 else 1) < 30)) = true
 line : (apos.endLine == cpos.line) = true
 trees : backTo cpos (starEach [e, f] X.env) = [(false, eval e X.env), (false, eval f X.env)]
section
variable {X : Cx} {pins : List (Addr × Obj)} {σ : St} {H : Hp} {s : Shared} {a : Addr} {y d : V} {u r : Value} {o : Option V} {A : Around} {E : Value -> Shared -> Prop}
end
section
variable {X : Cx} {o e f : Expr} {apos cpos : Pos} {td ty tx : TE}
end
section
variable {X : Cx} {pins : List (Addr × Obj)} {σ : St} {H : Hp} {s : Shared} {a : Addr} {kvs : List (Key × V)} {A : Around} {E : Value -> Shared -> Prop}
end
section
variable {X : Cx} {pins : List (Addr × Obj)} {σ : St} {H : Hp} {s : Shared} {a : Addr} {y : V} {u : Value} {A : Around} {E : Value -> Shared -> Prop}
end
end L2
namespace L2
open PySem PySem.Spec PyProof.Rows
section
variable {κ : Type} [DecidableEq κ]
end
end L2
set_option Elab.async false
set_option linter.all false
set_option maxRecDepth 100000
set_option maxHeartbeats 4000000
namespace L2
open PySem PySem.Spec PyProof.Rows
def vo (N : List Str) (ts : List Nat) (sc : Scope) (kind : Str -> Option NameKind) : Bool :=
 sc.kind == .function && sc.names.all (fun y => y.2 != .cell && (y.2 != .local || sc.names.lookup y.1 == some .local) && (y.2 != .free || kind y.1 == some .cell || kind y.1 == some .free)) &&
  N.zipIdx.all (fun p => sc.names.lookup p.1 != some .local || ts.contains p.2)
def qd (cells : List (Str × Addr)) : List (Str × NameKind) -> List (Str × Addr) -> List (Str × Addr)
 | [], acc => acc
 | (n, k) :: r, acc => qd cells r (if k = .free then (n, (cells.lookup n).getD 0) :: acc else acc)
theorem xU {env : Env} : ∀ (names : List (Str × NameKind)) (acc : List (Str × Addr)), (∀ y ∈ names, y.2 = .free -> ∃ c, env.cells.lookup y.1 = some c) ->
  (forIn names acc fun (x : Str × NameKind) (cs : List (Str × Addr)) => (match x with | (name, kind) => if (kind == NameKind.free) = true then (do let c <- cellOf env name; pure (ForInStep.yield ((name, c) :: cs))) else pure (ForInStep.yield cs) : Sem (ForInStep (List (Str × Addr))))) = pure (qd env.cells names acc)
 | [], acc, _ => rfl
 | (n, k) :: r, acc, h => by
  rw [List.forIn_cons]
  by_cases hk : k = .free
  ·subst hk
   obtain ⟨c, hc⟩ := h (n, .free) List.mem_cons_self rfl
   have e1 : cellOf env n = pure c := by unfold cellOf; rw [hc]
   simp only [beq_self_eq_true, if_true, e1, pure_bind]
   rw [xU r _ fun y hy => h y (List.mem_cons_of_mem _ hy)]
   show _ = pure (qd env.cells r (if NameKind.free = .free then _ else _))
   rw [if_pos rfl, hc]; rfl
  ·have hb : (k == NameKind.free) = false := by simpa using hk
   simp only [hb, Bool.false_eq_true, if_false, pure_bind]
   rw [xU r _ fun y hy => h y (List.mem_cons_of_mem _ hy)]
   show _ = pure (qd env.cells r (if k = .free then _ else _))
   rw [if_neg hk]
theorem jX {cells : List (Str × Addr)} : ∀ (names : List (Str × NameKind)) (acc : List (Str × Addr)), (∀ y ∈ names, y.2 = .free -> ∃ c, cells.lookup y.1 = some c) -> (∀ x c, acc.lookup x = some c -> cells.lookup x = some c) ->
    (∀ x c, (qd cells names acc).lookup x = some c -> cells.lookup x = some c) /\ (∀ x c, acc.lookup x = some c -> ∃ c', (qd cells names acc).lookup x = some c') /\ ∀ y ∈ names, y.2 = .free -> ∃ c, (qd cells names acc).lookup y.1 = some c
  | [], acc, _, h2 => ⟨h2, fun x c e => ⟨c, e⟩, fun y hy => nomatch hy⟩
  | (n, k) :: r, acc, h1, h2 => by
    by_cases hk : k = .free
    · subst hk
      obtain ⟨c, hc⟩ := h1 (n, .free) List.mem_cons_self rfl
      have hc : cells.lookup n = some c := hc
      have e : qd cells ((n, .free) :: r) acc = qd cells r ((n, c) :: acc) := by
        show qd cells r (if NameKind.free = .free then _ else _) = _
        rw [if_pos rfl, hc]; rfl
      rw [e]
      obtain ⟨q1, q2, q3⟩ := jX (cells := cells) r ((n, c) :: acc) (fun y hy => h1 y (List.mem_cons_of_mem _ hy)) (fun x c' e' => by
        rw [List.lookup_cons] at e'
        cases hx : x == n with
        | true => rw [hx] at e'; have : x = n := by simpa using hx
                  subst this; cases e'; exact hc
        | false => rw [hx] at e'; exact h2 x c' e')
      refine ⟨q1, fun x c' e' => ?_, fun y hy hf => ?_⟩
      · cases hx : x == n with
        | true => exact q2 x c (by rw [List.lookup_cons, hx])
        | false => exact q2 x c' (by rw [List.lookup_cons, hx]; exact e')
      · rcases List.mem_cons.mp hy with rfl | hy
        · exact q2 n c (by rw [List.lookup_cons, beq_self_eq_true])
        · exact q3 y hy hf
    · have e : qd cells ((n, k) :: r) acc = qd cells r acc := by
        show qd cells r (if k = .free then _ else _) = _
        rw [if_neg hk]
      rw [e]
      obtain ⟨q1, q2, q3⟩ := jX (cells := cells) r acc (fun y hy => h1 y (List.mem_cons_of_mem _ hy)) h2
      refine ⟨q1, q2, fun y hy hf => ?_⟩
      rcases List.mem_cons.mp hy with rfl | hy
      · exact absurd hf hk
      · exact q3 y hy hf
theorem kH {scope : Scope} {env : Env} (h : ∀ y ∈ scope.names, y.2 = .free -> ∃ c, env.cells.lookup y.1 = some c) :
  ∃ cl, closureFor scope env = pure cl /\ (∀ x c, cl.lookup x = some c -> env.cells.lookup x = some c) /\ ∀ y ∈ scope.names, y.2 = .free -> ∃ c, cl.lookup y.1 = some c := by
 obtain ⟨q1, _, q3⟩ := jX (cells := env.cells) scope.names [] h (fun x c e => nomatch e)
 refine ⟨qd env.cells scope.names [], ?_, q1, q3⟩
 unfold closureFor
 have := xU (env := env) scope.names [] h
 first
  | exact this
  | (simp only [bind_pure]; exact this)
  | (refine Eq.trans ?_ this; simp)
theorem jK {env : Env} : ∀ {names : List (Str × NameKind)} {x : Str}, (names.map fun (n, k) => if (k == NameKind.free && env.scope.kind == .function && env.kindOf n == some .cell) then (n, NameKind.cell) else (n, k)).lookup x =
  (names.lookup x).map fun k => if (k == NameKind.free && env.scope.kind == .function && env.kindOf x == some .cell) then NameKind.cell else k
 | [], _ => rfl
 | (n, k) :: r, x => by
  have ih := @jK env r x
  rw [List.map_cons]
  cases hx : x == n with
  | true =>
   have e : x = n := by simpa using hx
   subst e
   rw [List.lookup_cons (as := r), beq_self_eq_true]
   show List.lookup x ((if (k == NameKind.free && env.scope.kind == .function && env.kindOf x == some .cell) = true then (x, NameKind.cell) else (x, k)) :: _) = some _
   by_cases hc : (k == NameKind.free && env.scope.kind == .function && env.kindOf x == some .cell) = true
   ·rw [if_pos hc, List.lookup_cons, beq_self_eq_true]; dsimp only; rw [if_pos hc]
   ·rw [if_neg hc, List.lookup_cons, beq_self_eq_true]; dsimp only; rw [if_neg hc]
  | false =>
   rw [List.lookup_cons (as := r), hx]
   show List.lookup x ((if (k == NameKind.free && env.scope.kind == .function && env.kindOf n == some .cell) = true then (n, NameKind.cell) else (n, k)) :: _) = _
   by_cases hc : (k == NameKind.free && env.scope.kind == .function && env.kindOf n == some .cell) = true
   ·rw [if_pos hc, List.lookup_cons, hx]; exact ih
   ·rw [if_neg hc, List.lookup_cons, hx]; exact ih
abbrev cxC (X : Cx) (scope : Scope) (cl : List (Str × Addr)) (s : Shared) (H : Hp) (fp : List Addr) : Cx :=
 { X with s₀ := s, H₀ := H, env := compEnvC scope cl s.heap.objs.size X.env, outer := X.stack, ex := fp, fn := fun _ => false, pn := [], xe := fun _ _ => False }
def clr : List Nat -> St -> St
 | [], σ => σ
 | j :: r, σ => clr r (σ.set j none)
theorem wr : ∀ (ts : List Nat) (σ : St), (clr ts σ).length = σ.length
 | [], _ => rfl
 | j :: r, σ => by show (clr r (σ.set j none)).length = _; rw [wr r]; simp
theorem va : ∀ (ts : List Nat) (σ : St) (i : Nat) (v : V), (clr ts σ)[i]? = some (some v) -> i ∉ ts /\ σ[i]? = some (some v)
 | [], _, _, _, h => ⟨by simp, h⟩
 | j :: r, σ, i, v, h => by
  obtain ⟨h1, h2⟩ := va r (σ.set j none) i v h
  by_cases e : j = i
  ·subst e
   rw [List.getElem?_set] at h2
   simp at h2
  ·rw [List.getElem?_set_ne e] at h2
   exact ⟨by simp [h1, Ne.symm e], h2⟩
structure ScF (X : Cx) (ts : List Nat) (scope : Scope) : Prop where
 kind : scope.kind = .function
 cell : ∀ y ∈ scope.names, y.2 ≠ .cell
 loc : ∀ y ∈ scope.names, y.2 = .local -> scope.names.lookup y.1 = some .local
 free : ∀ y ∈ scope.names, y.2 = .free -> X.env.kindOf y.1 = some .cell \/ X.env.kindOf y.1 = some .free
 ts : ∀ (i : Nat) x, X.N[i]? = some x -> scope.names.lookup x = some .local -> i ∈ ts
theorem Z1 {X : Cx} {ts : List Nat} {scope : Scope} (h : vo X.N ts scope X.env.kindOf = true) : ScF X ts scope := by
  unfold vo at h
  simp only [Bool.and_eq_true, List.all_eq_true, bne_iff_ne, ne_eq, Bool.or_eq_true, beq_iff_eq] at h
  obtain ⟨⟨h1, h2⟩, h3⟩ := h
  refine ⟨h1, fun y hy => (h2 y hy).1.1, fun y hy e => ?_, fun y hy e => ?_, fun i x e1 e2 => ?_⟩
  · rcases (h2 y hy).1.2 with z | z
    · exact absurd e z
    · exact z
  · rcases (h2 y hy).2 with (z | z) | z
    · exact absurd e z
    · exact .inl z
    · exact .inr z
  · have hm : (x, i) ∈ X.N.zipIdx := by
      rw [List.mem_zipIdx_iff_getElem?]; exact e1
    rcases h3 _ hm with z | z
    · exact absurd e2 z
    · simpa using z
section
variable {X : Cx} {ts : List Nat} {scope : Scope} {pins : List (Addr × Obj)} {σ : St} {H : Hp} {s : Shared} {fp : List Addr}
theorem kT (I : Inv X pins σ H s) (S : ScF X ts scope) (hf : ∀ b ∈ fp, jy X pins H b) (hfl : ∀ b ∈ fp, b < s.heap.objs.size) {cl : List (Str × Addr)} (c1 : ∀ x c, cl.lookup x = some c -> X.env.cells.lookup x = some c)
  (c2 : ∀ y ∈ scope.names, y.2 = .free -> ∃ c, cl.lookup y.1 = some c) {h1 : Heap} {t1 : Nat} (hns : h1.Ns s.heap.objs.size (fun x => ([] : List (Str × Value)).reverse.lookup x))
  (hk : ∀ b o, s.heap.get? b = some o -> h1.get? b = some o) : Inv (cxC X scope cl s H fp) [] (clr ts σ) H { s with heap := h1, toks := t1 } := by
 have hlk : ∀ x, (relabel scope X.env).names.lookup x = (scope.names.lookup x).map fun k => if (k == NameKind.free && X.env.scope.kind == .function && X.env.kindOf x == some .cell) then NameKind.cell else k := fun x => jK
 have cfree : ∀ x, ((relabel scope X.env).names.lookup x = some .cell \/ (relabel scope X.env).names.lookup x = some .free) -> (x, NameKind.free) ∈ scope.names := fun x hx => by
  rw [hlk] at hx
  cases e : scope.names.lookup x with
  | none => rw [e] at hx; rcases hx with hx | hx <;> cases hx
  | some k =>
   have hm := mem_of_lookup_some e
   cases k with
   | free => exact hm
   | cell => exact absurd rfl (S.cell _ hm)
   | «local» => rw [e] at hx; rcases hx with hx | hx <;> cases hx
   | globalExplicit => rw [e] at hx; rcases hx with hx | hx <;> cases hx
   | globalImplicit => rw [e] at hx; rcases hx with hx | hx <;> cases hx
 have ccell : ∀ x c, cl.lookup x = some c -> ∃ v, s.heap.IsCell c v := fun x c e => I.cell x c (c1 x c e)
 have fpne : ∀ b ∈ fp, b ∉ frs X.stack := fun b hb z => by
  obtain ⟨_, f1, f2, _⟩ := hf b hb
  rcases List.mem_cons.mp (I.stkSub b z) with e | e
  ·exact f1 e
  ·exact f2 e
 refine ⟨⟨I.ok.mod, S.kind, I.ok.glob, I.ok.blt, Nat.le_refl _, fun x y c e1 e2 => I.ok.inj x y c (c1 x c e1) (c1 y c e2), fun x hx => c2 (x, .free) (cfree x hx) rfl, (fun x c hx => nomatch hx), I.ok.hd, I.ok.frames, .inl rfl, fun b hb => ⟨Nat.ne_of_lt (hfl b hb), fun x c e => (hf b hb).2.2.2.2.1 x c (c1 x c e)⟩,
  I.bs, Nat.le_trans I.ok.bsz I.sz, fun b o e hb => ?_, fpne, I.stack, I.stkFree⟩, rfl, I.bare, Un.kept hk, ⟨_, hns, fun i x v e1 e2 e3 => ?_⟩, fun x c e => ?_, I.hok.fresh (Nat.le_refl _), fun x c e => I.freeC x c (c1 x c e), fun p hp => absurd hp (by simp), I.hok.kept hk, by rw [wr]; exact I.len⟩
 ·rcases (hf b hb).2.2.2.1 with z | z
  ·exact I.ok.noex b o e z
  ·exact absurd (Nat.lt_of_lt_of_le (Heap.lt_size e) (Nat.le_trans I.ok.bsz z)) (Nat.lt_irrefl _)
 ·obtain ⟨nt, e2⟩ := va ts σ i v e2
  have e3' : (relabel scope X.env).names.lookup x = some .local \/ (relabel scope X.env).names.lookup x = some .cell \/ (relabel scope X.env).names.lookup x = some .free := e3
  rcases e3' with z | z
  ·rw [hlk] at z
   cases e : scope.names.lookup x with
   | none => rw [e] at z; cases z
   | some k =>
    rw [e] at z
    have z' : (if (k == NameKind.free && X.env.scope.kind == .function && X.env.kindOf x == some .cell) = true then NameKind.cell else k) = .local := Option.some.inj z
    split at z'
    ·cases z'
    ·subst z'
     exact absurd (S.ts i x e1 e) nt
  ·have hm := cfree x z
   obtain ⟨c, hc⟩ := c2 _ hm rfl
   obtain ⟨m, hn, hl⟩ := I.loc
   have vis : Vis X.env.scope x := by
    rcases S.free _ hm rfl with q | q
    ·exact .inr (.inl q)
    ·exact .inr (.inr q)
   obtain ⟨u, r, l⟩ := hl i x v e1 e2 vis
   refine ⟨u, r, .inr ⟨z, c, hc, ?_⟩⟩
   rcases l with ⟨q, _⟩ | ⟨_, c', hc', hcell⟩
   ·rcases S.free _ hm rfl with q' | q'
    ·rw [q'] at q; cases q
    ·rw [q'] at q; cases q
   ·rw [c1 x c hc] at hc'
    cases hc'
    obtain ⟨o, ho, hd⟩ := hcell
    exact ⟨o, hk _ _ ho, hd⟩
 ·obtain ⟨v, o, ho, hd⟩ := ccell x c e
  exact ⟨v, o, hk _ _ ho, hd⟩
end
section
variable {prog : Program} {w : World} {A : Around} {R : Result -> Shared -> Prop} {s : Shared}
theorem jx {elt target iter : Expr} {ifs : List Expr} {scope : Scope} {pos : Pos} {it acc : Value} {env : Env} (I : Nat -> Shared -> Prop)
    (turn : ∀ n s, I n s -> wpAny (model prog w) A (pyNext it) (fun r s₁ => match r with
      | none => R (.ok .next) s₁
      | some v => wpAny (model prog w) A (letOwnedTupleGo target it v) (fun _ s₀ => wpAny (model prog w) A (assign target env v) (fun _ s₂ =>
          wpAny (model prog w) A (forIn ifs true fun c r => if r = true then do let ok <- isTrue c env (eval c env); pure (ForInStep.yield ok) else pure (ForInStep.yield r)) (fun ok s₃ =>
            if ok = true then wpAny (model prog w) A (eval elt env) (fun x s₄ =>
              wpAny (model prog w) A (call (.builtin "list.append") [acc, x]) (fun _ s₅ => ∃ m, m < n /\ I m s₅) (fun _ _ => False) s₄) (fun _ _ => False) s₃
            else ∃ m, m < n /\ I m s₃) (fun _ _ => False) s₂) (fun _ _ => False) s₀) (fun _ _ => False) s₁) (fun _ _ => False) s)
    (n : Nat) (h : I n s) :
    codeAny (model prog w) A (.compLoop (.ListComp elt [⟨target, iter, ifs, 0⟩] scope pos) 0 it acc env) R s := by
  refine codeAny_loop rfl I (fun n s hI => ?_) n h
  show wpAny _ A ((compTurn (.ListComp elt [⟨target, iter, ifs, 0⟩] scope pos) 0 it acc env).onRaise (fun x => do noteFrame x env; theTreesLotGoes x)) _ _ s
  refine wpAny_noted ?_
  rw [compTurn_list]
  refine wpAny_bind (wpAny_standAt (wpAny_bind (wpAny_mono (turn n s hI) (fun r s₁ h₁ => ?_) fun _ _ h' => h'.elim)))
  cases r with
  | none => exact wpAny_pure h₁
  | some v =>
    refine wpAny_bind (wpAny_mono h₁ (fun _ s₀ h₀ => ?_) fun _ _ h' => h'.elim)
    refine wpAny_bind (wpAny_mono h₀ (fun _ s₂ h₂ => wpAny_bind (wpAny_mono h₂ (fun ok s₃ h₃ => ?_) fun _ _ h' => h'.elim)) fun _ _ h' => h'.elim)
    cases ok with
    | false => exact wpAny_pure ⟨rfl, h₃⟩
    | true =>
      exact wpAny_bind (wpAny_bind (wpAny_mono h₃ (fun x s₄ h₄ => wpAny_bind (wpAny_mono h₄ (fun _ s₅ h₅ => wpAny_pure (wpAny_pure ⟨rfl, h₅⟩)) fun _ _ h' => h'.elim)) fun _ _ h' => h'.elim))
end
def QT : TT := fun _ H Q => Q true H
def PIf (X : Cx) (ifs : List Expr) (t : TT) : Prop :=
 ∀ (pins : List (Addr × Obj)) (s : Shared) (σ : St) (H : Hp) (Q : Bool -> Hp -> Prop), Inv X pins σ H s -> t σ H Q ->
  wpAny (model X.prog X.w) X.A (forIn ifs true fun c r => if r = true then do let ok <- isTrue c X.env (eval c X.env); pure (ForInStep.yield ok) else pure (ForInStep.yield r)) (TP X pins σ Q) X.xe s
theorem qb {X : Cx} : PIf X [] QT := fun _ _ _ H _ I h => wpAny_tests_nil ⟨H, I, h⟩
theorem v6 {X : Cx} {c : Expr} {t : TT} (h : PT X c t) : PIf X [c] t := fun pins s σ H Q I hq => wpAny_tests_one (h pins s σ H Q I hq)
def yy (ts : List Nat) (wi : TI) (g : TG) (tt : TT) (te : TE) : TE := fun σ H Q => wi σ H fun J H1 => ∀ D, H1 D = none -> ∃ W : Nat -> Nat -> St -> Hp -> Prop, (∃ m, W 0 m (clr ts σ) (upd H1 D (.lst []))) /\ ∀ i m τ H2, W i m τ H2 ->
 (J.stop i H2 /\ Q (.ref D) H2) \/ (J.go i H2 /\ ∃ N : St -> Hp -> Prop, (∀ τ' H', N τ' H' -> ∃ m', m' < m /\ W (i + 1) m' τ' H') /\ ∀ x H', J.yld i H2 x H' -> g x τ H' fun τ2 H3 => tt τ2 H3 fun b H4 =>
  if b = true then te τ2 H4 fun v H5 => ∃ ys, H5 D = some (.lst ys) /\ ys.length < sizeLine /\ N τ2 (upd H5 D (.lst (ys ++ [v]))) else N τ2 H4)
section
variable {X : Cx} {ts : List Nat} {scope : Scope} {tg iter elt : Expr} {ifs : List Expr} {wi : TI} {g : TG} {tt : TT} {te : TE} {pos : Pos}
theorem y6 (hc : X.calm = true) (hsc : vo X.N ts scope X.env.kindOf = true) (hi : PI X tg iter wi) (hg : ∀ cl s H fp, PG (cxC X scope cl s H fp) tg g) (ht : ∀ cl s H fp, PIf (cxC X scope cl s H fp) ifs tt) (he : ∀ cl s H fp, PE (cxC X scope cl s H fp) elt te)
  {pins : List (Addr × Obj)} {s : Shared} {σ : St} {H : Hp} {Q : VK} (I : Inv X pins σ H s) (h : yy ts wi g tt te σ H Q) {use : Option (Value -> Sem Unit)} {Q' : Value -> Shared -> Prop}
  (fin : ∀ (D C : Addr) (H' : Hp) (s' : Shared), Inv X pins σ H' s' -> (∃ m, s'.heap.Ns C m) -> H' C = none -> C ≠ X.env.locals -> (∀ x c, X.env.cells.lookup x = some c -> c ≠ C) -> X.s₀.heap.objs.size <= C -> (∀ p ∈ X.pn ++ pins, p.1 ≠ C) -> C ∉ X.fs -> Q (.ref D) H' ->
   compPost (model X.prog X.w) X.A X.xe use Q' (.ref D) C (.ok .next) s')
  (hs : ∀ x, foldedSetIterable iter X.env x = pure x) :
  wpAny (model X.prog X.w) X.A (comprehension (.ListComp elt [⟨tg, iter, ifs, 0⟩] scope pos) scope X.env (firstIterPos [⟨tg, iter, ifs, 0⟩] pos) (newList []) false (eval iter X.env) use) Q' X.xe s := by
 have S := Z1 hsc
 obtain ⟨cl, hcl, c1, c2⟩ := kH (scope := scope) (env := X.env) fun y hy e => I.ok.has y.1 (S.free y hy e)
 refine wpAny_comprehension_free (use := use) rfl hs hcl S.kind S.loc ?_
 refine wpAny_mono (hi pins s σ H _ I h) (fun v s1 h1 => wpAny_mono h1 (fun itv s2 h2 => ?_) fun _ _ e => e) fun _ _ e => e
 obtain ⟨it, fp, tn, J, H2, e, I2, T, st2, f2, q2⟩ := h2
 subst e
 have hD : H2 s2.heap.objs.size = none := I2.hok.fresh (Nat.le_refl _)
 obtain ⟨W, ⟨m0, w0⟩, turn⟩ := q2 _ hD
 refine wpAny_newObj_type (wpAny_newFunctionEnv S.cell (by intro y hy; simp at hy) (fun h₁ hns₁ hsb₁ => ?_) S.kind)
 dsimp only at hns₁ hsb₁ ⊢
 generalize hh3 : s2.heap.push { cls := .type "list", dict := none, data := .seq ([] : List Value).toArray } = g3 at hns₁ hsb₁ ⊢
 have I3 : Inv X pins σ (upd H2 s2.heap.objs.size (.lst [])) { s2 with heap := g3 } := by
  rw [<- hh3]
  exact I2.laid (t' := s2.toks) (fun b u e => Heap.get?_push_of_some _ e) (Nat.le_refl _) ⟨Nat.zero_le _, [], _, .nil, Heap.get?_push_size _ rfl⟩
 have st3 : tn 0 g3 := T.keep _ _ _ st2 fun b _ o e => by rw [<- hh3]; exact Heap.get?_push_of_some _ e
 have lt2 : ∀ b ∈ fp, b < s2.heap.objs.size := fun b hb => by obtain ⟨o, e, _⟩ := T.obj _ _ st2 b hb; exact Heap.lt_size e
 have hsz3 : g3.objs.size = s2.heap.objs.size + 1 := by rw [<- hh3, Heap.size_push]
 have f3 : ∀ b ∈ fp, jy X pins (upd H2 s2.heap.objs.size (.lst [])) b := fun b hb => ⟨by rw [zh (Nat.ne_of_lt (lt2 b hb))]; exact (f2 b hb).1, (f2 b hb).2⟩
 have lt3 : ∀ b ∈ fp, b < g3.objs.size := fun b hb => by rw [hsz3]; exact Nat.lt_succ_of_lt (lt2 b hb)
 have old : ∀ b o, g3.get? b = some o -> h₁.get? b = some o := fun b o e => hsb₁.extBut b o (Nat.ne_of_lt (Heap.lt_size e)) (Heap.get?_push_of_some _ e)
 have hns : h₁.Ns g3.objs.size (fun x => ([] : List (Str × Value)).reverse.lookup x) := hns₁
 have I4 : ∀ t, Inv (cxC X scope cl { s2 with heap := g3 } (upd H2 s2.heap.objs.size (.lst [])) fp) [] (clr ts σ) (upd H2 s2.heap.objs.size (.lst [])) { s2 with heap := h₁, toks := t } := fun t => kT I3 S f3 lt3 c1 c2 hns old
 have fpne : ∀ b ∈ fp, b ∉ frs X.stack := fun b hb z => by
  obtain ⟨_, f1, f2, _⟩ := f3 b hb
  rcases List.mem_cons.mp (I3.stkSub b z) with e | e
  ·exact f1 e
  ·exact f2 e
 have stat : ∀ {H' : Hp}, (∀ b ∈ fp, H' b = none) -> ∀ b ∈ fp, jy (cxC X scope cl { s2 with heap := g3 } (upd H2 s2.heap.objs.size (.lst [])) fp) [] H' b := fun hn b hb =>
  ⟨hn b hb, Nat.ne_of_lt (lt3 b hb), fpne b hb, .inl hb, fun x c e => (f2 b hb).2.2.2.2.1 x c (c1 x c e), fun p hp => absurd hp (by simp)⟩
 have loop : ∀ t, codeAny (model X.prog X.w) X.A (.compLoop (.ListComp elt [⟨tg, iter, ifs, 0⟩] scope pos) 0 (.ref it) (.ref s2.heap.objs.size) (compEnvC scope cl g3.objs.size X.env))
   (compPost (model X.prog X.w) X.A X.xe use Q' (.ref s2.heap.objs.size) g3.objs.size) { s2 with heap := h₁, toks := t } := by
  intro t
  refine jx (fun n s' => ∃ i τ H', Inv (cxC X scope cl { s2 with heap := g3 } (upd H2 s2.heap.objs.size (.lst [])) fp) [] τ H' s' /\ tn i s'.heap /\ (∀ b ∈ fp, H' b = none) /\ W i n τ H') ?_ m0
   ⟨0, clr ts σ, _, I4 t, T.keep _ _ _ st3 fun b _ o e => old b o e, fun b hb => (f3 b hb).1, w0⟩
  rintro n s5 ⟨i, τ, H5, I5, st5, fr5, w5⟩
  rcases turn i n τ H5 w5 with ⟨stop, qn⟩ | ⟨go, N, hN, step⟩
  ·refine thn (T.done (cxC X scope cl { s2 with heap := g3 } (upd H2 s2.heap.objs.size (.lst [])) fp) rfl rfl rfl hc i [] s5 τ H5 _ I5 (stat fr5) st5 stop) fun r s6 ⟨hr, I6⟩ => ?_
   subst hr
   have base : Un (frs X.stack) fp (upd H2 s2.heap.objs.size (.lst [])) H5 g3 s6.heap := I6.base
   have J6 : Inv X pins σ H5 s6 := I3.call' (ch := fp) I6.os base I6.hok I6.bare fun b hb => ⟨(f3 b hb).2.2.2.1, (f3 b hb).2.1, (f3 b hb).2.2.2.2.1, (f3 b hb).2.2.2.2.2⟩
   obtain ⟨m6, n6, _⟩ := I6.loc
   have hC : g3.get? g3.objs.size = none := Heap.get?_none_of_le (Nat.le_refl _)
   refine fin _ g3.objs.size H5 s6 J6 ⟨m6, n6⟩ I6.free (Nat.ne_of_gt I3.lt) (fun x c e z => ?_) I3.sz (fun p hp z => ?_) (I3.nofs (Nat.le_refl _)) qn
   ·obtain ⟨v, q⟩ := I3.cell x c e
    exact absurd q.lt (by rw [z]; exact Nat.lt_irrefl _)
   ·exact absurd (Heap.lt_size (I3.pin p hp).1) (by rw [z]; exact Nat.lt_irrefl _)
  ·refine thn (T.item (cxC X scope cl { s2 with heap := g3 } (upd H2 s2.heap.objs.size (.lst [])) fp) rfl rfl rfl hc i [] s5 τ H5 _ I5 (stat fr5) st5 go) fun r s6 ⟨u, hr, h6⟩ => ?_
   subst hr
   refine thn h6 fun _ s7 ⟨x, H7, I7, r7, y7, st7, fr7⟩ => ?_
   have I7' := I7.pinned (stat fr7) (T.obj _ _ st7)
   refine thn (hg cl { s2 with heap := g3 } _ fp _ s7 τ H7 x u _ I7' r7 (step x H7 y7)) fun _ s8 ⟨τ8, H8, I8, q8⟩ => ?_
   refine thn (ht cl { s2 with heap := g3 } _ fp _ s8 τ8 H8 _ I8 q8) fun b s9 ⟨H9, I9, q9⟩ => ?_
   have again : ∀ {τ9 : St} {H9 : Hp} {s9 : Shared}, Inv (cxC X scope cl { s2 with heap := g3 } (upd H2 s2.heap.objs.size (.lst [])) fp) ([] ++ jU fp s7.heap) τ9 H9 s9 -> N τ9 H9 ->
     ∃ m, m < n /\ ∃ i τ H', Inv (cxC X scope cl { s2 with heap := g3 } (upd H2 s2.heap.objs.size (.lst [])) fp) [] τ H' s9 /\ tn i s9.heap /\ (∀ b ∈ fp, H' b = none) /\ W i m τ H' := fun {τ9 H9 s9} I9 n9 => by
    obtain ⟨m', hm, w9⟩ := hN _ _ n9
    refine ⟨m', hm, i + 1, τ9, H9, I9.unpinned, T.keep _ _ _ st7 fun b hb o e => (I9.pin (b, o) (List.mem_append_right _ (List.mem_append_right _ (qh hb e)))).1, fun b hb => ?_, w9⟩
    obtain ⟨o, e, d⟩ := T.obj _ _ st7 b hb
    exact (I9.pin (b, o) (List.mem_append_right _ (List.mem_append_right _ (qh hb e)))).2.1
   cases b with
   | false =>
    rw [if_neg Bool.false_ne_true] at q9 ⊢
    exact again I9 q9
   | true =>
    rw [if_pos rfl] at q9 ⊢
    refine thn (he cl { s2 with heap := g3 } _ fp _ s9 τ8 H9 _ I9 q9) fun y s10 ⟨v, H10, I10, r10, ys, hys, hlen, n10⟩ => ?_
    exact thn (j8 (X := cxC X scope cl { s2 with heap := g3 } (upd H2 s2.heap.objs.size (.lst [])) fp) _ s10 τ8 H10 (.ref s2.heap.objs.size) [v] (.ref s2.heap.objs.size) [y] (fun _ H11 => N τ8 H11) I10 rfl (.cons r10 .nil) ⟨_, ys, v, rfl, rfl, hys, hlen, n10⟩) fun _ s11 ⟨_, H11, I11, _, n11⟩ => again I11 n11
 have LW := loop (s2.toks + ([] : List (Str × Value)).length)
 exact codeAny_compStart_list LW (T.self _ 0 _ _ _ (T.keep _ _ _ st3 fun b _ o e => old b o e) LW)
end
end L2
set_option Elab.async false
set_option linter.all false
set_option maxRecDepth 100000
set_option maxHeartbeats 4000000
namespace L2
open PySem PySem.Spec PyProof.Rows
section
variable {X : Cx} {ts : List Nat} {scope : Scope} {tg iter elt : Expr} {ifs : List Expr} {wi : TI} {g : TG} {tt : TT} {te : TE} {pos : Pos}
theorem qW (hc : X.calm = true) (hsc : vo X.N ts scope X.env.kindOf = true) (hi : PI X tg iter wi) (hg : ∀ cl s H fp, PG (cxC X scope cl s H fp) tg g) (ht : ∀ cl s H fp, PIf (cxC X scope cl s H fp) ifs tt) (he : ∀ cl s H fp, PE (cxC X scope cl s H fp) elt te)
  (hs : ∀ x, foldedSetIterable iter X.env x = pure x := by intro _; rfl) : PE X (.ListComp elt [⟨tg, iter, ifs, 0⟩] scope pos) (yy ts wi g tt te) := by
 intro pins s σ H Q I h
 rw [eval_ListComp]
 refine y6 hc hsc hi hg ht he I h (use := none) (fun D C H' s' I' ⟨m, hn⟩ hC hL hce hsz hp hfs q => ⟨m, hn, fun h' hs' => ?_⟩) hs
 exact ⟨.ref D, H', I'.turned (t' := s'.toks) (it := C) (fun b o hb e => (hs'.2 b hb).trans e) hC hL (.inr hsz) hce hp, rfl, q⟩
theorem ko {j : Nat} {y : Str} {py spos : Pos} (hc : X.calm = true) (hN : X.N.Nodup) (hj : X.N[j]? = some y) (hy : Loc X.env.scope y) (hsc : vo X.N ts scope X.env.kindOf = true) (hi : PI X tg iter wi) (hg : ∀ cl s H fp, PG (cxC X scope cl s H fp) tg g) (ht : ∀ cl s H fp, PIf (cxC X scope cl s H fp) ifs tt) (he : ∀ cl s H fp, PE (cxC X scope cl s H fp) elt te)
  (hsw : swapsWith (.ListComp elt [⟨tg, iter, ifs, 0⟩] scope pos) (some (.Name y py)) spos.line X.env = pure true := by rfl)
  (hs : ∀ x, foldedSetIterable iter X.env x = pure x := by intro _; rfl) (hf : X.fn y = true \/ X.env.scope.names.lookup y = some .local := by first | exact .inl rfl | exact .inr rfl | assumption) :
  PS X (.Assign [.Name y py] (.ListComp elt [⟨tg, iter, ifs, 0⟩] scope pos) spos) (Jm (yy ts wi g tt te) (vi j)) := by
 intro pins s σ H D I h
 rw [exec_Assign_Name_used _ _ _ _ hsw]
 refine wpAny_bind (wpAny_standAt (wpAny_bind ?_))
 show wpAny _ _ (do let _ <- comprehension (.ListComp elt [⟨tg, iter, ifs, 0⟩] scope pos) scope X.env _ (newList []) false (eval iter X.env) (some (assign (.Name y py) X.env))) _ _ s
 refine wpAny_bind (wpAny_mono (y6 hc hsc hi hg ht he I h (use := some (assign (.Name y py) X.env)) (Q' := fun _ s' => SP X pins D .next s') (fun D' C H' s' I' ⟨m, hn⟩ hC hL hce hsz hp hfs q => ?_) hs) (fun _ s' hq => wpAny_pure (wpAny_pure hq)) fun _ _ e => e)
 show wpAny _ _ (assign (.Name y py) X.env (.ref D')) _ _ _
 refine wpAny_assign_Name (xK (v := .ref D') I' hN hj hy rfl (fun s2 I2 ⟨a, hsb, ha⟩ => ?_) hf)
 have hCa : C ≠ a := by
  rcases ha with rfl | ha
  ·exact hL
  ·exact Ne.symm (hce y a ha)
 refine ⟨m, hn.sameBut hsb hCa, fun h' hs' => ?_⟩
 exact ⟨_, H', I2.turned (t' := s2.toks) (it := C) (fun b o hb e => (hs'.2 b hb).trans e) hC hL (.inr hsz) hce hp, q⟩
end
def Ite (K : PySem.W.Frag) (a : Addr) : It :=
 ⟨fun i H => ∃ xs x, SqL K H a xs /\ xs[i]? = some x, fun i H y H' => ∃ p x, H p = none /\ y = .ref p /\ (∀ xs, SqL K H a xs -> xs[i]? = some x) /\ H' = upd H p (.tup [.int i, x]), fun i H => ∃ xs, SqL K H a xs /\ xs.length <= i⟩
theorem Zk {P : Program} {w : World} {K : PySem.W.Frag} {es : List Expr} {kt : Nat} {tp : Pos} (a e it : Addr) (hei : e ≠ it) : yE P w K (.Tuple es kt tp) (Ite K a) [e, it] e (fun i h => (∃ old, IsEnum h e it (i : Nat) old) /\ h.IsListIter it a i) where
 mem := by simp
 obj := fun i h st b hb => by
  obtain ⟨⟨old, he⟩, ⟨o, e1, c, d⟩⟩ := st
  rcases List.mem_cons.mp hb with rfl | hb
  ·exact ⟨_, he, fun v z => by have z' : Data.fields _ = Data.cell v := z; cases z'⟩
  ·have e2 : b = it := by simpa using hb
   subst e2
   exact ⟨o, e1, fun v z => by rw [d] at z; cases z⟩
 keep := fun i h h' st k => by
  obtain ⟨⟨old, he⟩, st⟩ := st
  exact ⟨⟨old, k e (by simp) _ he⟩, st.at fun o e => k it (by simp) o e⟩
 item := by
  intro X hP hw hK hc i pins s σ H E I hf st hg
  subst hP hw hK
  obtain ⟨⟨old, he⟩, st⟩ := st
  obtain ⟨xs, x, hq, hx⟩ := hg
  obtain ⟨its, rv, p, hz⟩ := I.list hq
  obtain ⟨u, hu, ru⟩ := rv.get hx
  have fe := hf e (by simp)
  have fi := hf it (by simp)
  refine wpAny_pyNext_enum_item he st p.isList (x := u) (by simpa using hu) hei fun h1 heo hit1 ht1 hz1 hk1 => ?_
  refine ⟨.ref s.heap.objs.size, rfl, wpAny_letOwnedTupleGo_enum heo fun h2 he2 hs2 => ?_⟩
  replace hs2 : Heap.SameBut e h1 h2 := hs2
  have elt : e < s.heap.objs.size := Heap.lt_size he
  have hfr : H s.heap.objs.size = none := I.hok.fresh (Nat.le_refl _)
  have ht2 : h2.get? s.heap.objs.size = some { cls := .type "tuple", data := .seq #[.int i s.toks, u] } := (hs2.2 _ (Nat.ne_of_gt elt)).trans ht1
  have kk : ∀ b o, b ∉ [e, it] -> s.heap.get? b = some o -> h2.get? b = some o := fun b o hc q => by
   have n1 : b ≠ e := fun z => hc (by simp [z])
   have n2 : b ≠ it := fun z => hc (by simp [z])
   exact (hs2.2 b n1).trans (hk1 b o n1 n2 q)
  have nb : ∀ c v, H c = some v -> c ∉ [e, it] := fun c v z hm => by
   rcases List.mem_cons.mp hm with z' | z'
   ·rw [z', fe.1] at z; cases z
   ·have e2 : c = it := by simpa using z'
    rw [e2, fi.1] at z; cases z
  have I2 : Inv X pins σ (upd H s.heap.objs.size (.tup [.int i, x])) { s with heap := h2, toks := s.toks + 1 } := by
   refine I.step (g' := s.gens) (d' := s.drawn) (ch := [e, it]) (fun b hb => ?_) (fun b o _ _ hc q _ => kk b o hc q) (fun b o _ _ hc q _ => ⟨o.slots, kk b o hc q⟩) (fun b o _ q n => by rw [zh (Nat.ne_of_lt (Heap.lt_size q))]; exact n) (fun b o hc q => ⟨o, kk b o hc q⟩)
    (fun b xs q => by rw [zh (zi q hfr)]; exact q) (fun b o u q => by rw [zh (zi q hfr)]; exact q) (fun b ps q => ⟨#[], by rw [zh (zi q hfr), q]; simp⟩) (fun m hm => ?_) (fun b v q => ?_) I.bare
   ·rcases List.mem_cons.mp hb with z | hb
    ·rw [z]; exact ⟨fe.2.2.2.1, fe.2.1, fe.2.2.2.2.1, fe.2.2.2.2.2⟩
    ·have e2 : b = it := by simpa using hb
     rw [e2]; exact ⟨fi.2.2.2.1, fi.2.1, fi.2.2.2.2.1, fi.2.2.2.2.2⟩
   ·obtain ⟨o, es, ep, ho, r⟩ := hm
    exact ⟨o, es, ep, kk _ o (by simp [Ne.symm fe.2.1, Ne.symm fi.2.1]) ho, r⟩
   ·by_cases hb : b = s.heap.objs.size
    ·subst hb
     rw [zd] at q
     cases q
     exact ⟨by show 2 <= sizeLine; decide, [.int i s.toks, u], .cons ⟨_, rfl⟩ (.cons ru .nil), _, ht2, rfl, _, rfl⟩
    ·rw [zh hb] at q
     refine (I.hok b v q).stay (fun c o hc q' => kk c o ?_ q') (fun c z => by rw [zh (zi z hfr)]; exact z) fun c xs z => by rw [zh (zi z hfr)]; exact z
     rcases hc with z | z
     ·rw [z]; exact nb b v q
     ·exact nb c _ z
  refine ⟨.ref s.heap.objs.size, _, I2, rfl, ⟨s.heap.objs.size, x, hfr, rfl, fun ys hy => by rw [I.list_inj hy hq]; exact hx, rfl⟩, ⟨⟨_, by simpa using he2⟩, hit1.extBut hs2.extBut (Ne.symm hei)⟩, fun b hb => ?_⟩
  have hlt : b < s.heap.objs.size := by
   rcases List.mem_cons.mp hb with rfl | hb
   ·exact elt
   ·have e2 : b = it := by simpa using hb
    subst e2
    obtain ⟨o, e1, _⟩ := st
    exact Heap.lt_size e1
  rw [zh (Nat.ne_of_lt hlt)]
  exact (hf b hb).1
 done := by
  intro X hP hw hK hc i pins s σ H E I hf st hg
  subst hP hw hK
  obtain ⟨⟨old, he⟩, st⟩ := st
  obtain ⟨xs, hq, hx⟩ := hg
  obtain ⟨its, rv, p, hz⟩ := I.list hq
  obtain ⟨f0, f1, f2, f3, f4, f5⟩ := hf it (by simp)
  have hl := rv.length
  exact wpAny_pyNext_enum_end (I.ok.hd hc) he st p.isList (by simp; omega) fun h' eb => ⟨rfl, I.turned (t' := s.toks) (fun b o hb e => eb b o hb e) f0 f1 f3 f4 f5⟩
 self := fun _ _ _ _ _ st h => by
  obtain ⟨⟨old, he⟩, _⟩ := st
  exact wpAny_pyIter_enum he h
end L2
set_option Elab.async false
set_option linter.all false
set_option maxRecDepth 100000
set_option maxHeartbeats 4000000
namespace L2
open PySem PySem.Spec PyProof.Rows
section
variable {X : Cx} {pins : List (Addr × Obj)} {σ : St} {H : Hp} {s : Shared}
theorem Inv.yieldTup {ch : List Addr} {h2 : Heap} {tk : Nat} {T : Addr} {xs : List V} {us : List Value} (I : Inv X pins σ H s) (hf : ∀ b ∈ ch, jy X pins H b) (kk : ∀ b o, b ∉ ch -> s.heap.get? b = some o -> h2.get? b = some o) (hT : s.heap.objs.size <= T)
  (ht2 : h2.get? T = some { cls := .type "tuple", data := .seq us.toArray }) (rv : zp xs us) (hz : xs.length <= sizeLine) : Inv X pins σ (upd H T (.tup xs)) { s with heap := h2, toks := tk } := by
 have hfr : H T = none := I.hok.fresh hT
 have nb : ∀ c v, H c = some v -> c ∉ ch := fun c v z hm => by rw [(hf c hm).1] at z; cases z
 refine I.step (g' := s.gens) (d' := s.drawn) (ch := ch) (fun b hb => ⟨(hf b hb).2.2.2.1, (hf b hb).2.1, (hf b hb).2.2.2.2.1, (hf b hb).2.2.2.2.2⟩) (fun b o _ _ hc q _ => kk b o hc q) (fun b o _ _ hc q _ => ⟨o.slots, kk b o hc q⟩)
  (fun b o _ q n => by rw [zh (Nat.ne_of_lt (Nat.lt_of_lt_of_le (Heap.lt_size q) hT))]; exact n) (fun b o hc q => ⟨o, kk b o hc q⟩)
  (fun b xs q => by rw [zh (zi q hfr)]; exact q) (fun b o u q => by rw [zh (zi q hfr)]; exact q) (fun b ps q => ⟨#[], by rw [zh (zi q hfr), q]; simp⟩) (fun m hm => ?_) (fun b v q => ?_) I.bare
 ·obtain ⟨o, es, ep, ho, r⟩ := hm
  exact ⟨o, es, ep, kk _ o (fun z => (hf _ z).2.1 rfl) ho, r⟩
 ·by_cases hb : b = T
  ·subst hb
   rw [zd] at q
   cases q
   exact ⟨hz, us, rv, _, ht2, rfl, _, rfl⟩
  ·rw [zh hb] at q
   refine (I.hok b v q).stay (fun c o hc q' => kk c o ?_ q') (fun c z => by rw [zh (zi z hfr)]; exact z) fun c xs z => by rw [zh (zi z hfr)]; exact z
   rcases hc with z | z
   ·rw [z]; exact nb b v q
   ·exact nb c _ z
theorem Inv.turnedL {ch : List Addr} {h2 : Heap} {tk : Nat} (I : Inv X pins σ H s) (hf : ∀ b ∈ ch, jy X pins H b) (kk : ∀ b o, b ∉ ch -> s.heap.get? b = some o -> h2.get? b = some o) : Inv X pins σ H { s with heap := h2, toks := tk } := by
 have nb : ∀ c v, H c = some v -> c ∉ ch := fun c v z hm => by rw [(hf c hm).1] at z; cases z
 refine I.step (g' := s.gens) (d' := s.drawn) (ch := ch) (fun b hb => ⟨(hf b hb).2.2.2.1, (hf b hb).2.1, (hf b hb).2.2.2.2.1, (hf b hb).2.2.2.2.2⟩) (fun b o _ _ hc q _ => kk b o hc q) (fun b o _ _ hc q _ => ⟨o.slots, kk b o hc q⟩)
  (fun b o _ q n => n) (fun b o hc q => ⟨o, kk b o hc q⟩) (fun b xs q => q) (fun b o u q => q) (fun b ps q => ⟨#[], by rw [q]; simp⟩) (fun m hm => ?_) (fun b v q => ?_) I.bare
 ·obtain ⟨o, es, ep, ho, r⟩ := hm
  exact ⟨o, es, ep, kk _ o (fun z => (hf _ z).2.1 rfl) ho, r⟩
 ·refine (I.hok b v q).stay (fun c o hc q' => kk c o ?_ q') (fun c z => z) fun c xs z => z
  rcases hc with z | z
  ·rw [z]; exact nb b v q
  ·exact nb c _ z
end
def Itz (K : PySem.W.Frag) (a b : Addr) : It :=
 ⟨fun i H => ∃ xs ys x y, SqL K H a xs /\ SqL K H b ys /\ xs[i]? = some x /\ ys[i]? = some y, fun i H z H' => ∃ p x y, H p = none /\ z = .ref p /\ (∀ xs, SqL K H a xs -> xs[i]? = some x) /\ (∀ ys, SqL K H b ys -> ys[i]? = some y) /\ H' = upd H p (.tup [x, y]),
  fun i H => ∃ xs ys, SqL K H a xs /\ SqL K H b ys /\ (xs.length <= i \/ ys.length <= i)⟩
theorem Qr {P : Program} {w : World} {K : PySem.W.Frag} {es : List Expr} {kt : Nat} {tp : Pos} (l1 l2 z TI TO i1 i2 : Addr) (D : ZipApart z TI TO i1 i2 l1 l2) :
  yE P w K (.Tuple es kt tp) (Itz K l1 l2) [z, TI, TO, i1, i2] z (fun i h => IsZip h z TI TO .none /\ IsPair h TI (.ref i1) (.ref i2) /\ (∃ a b, IsPair h TO a b) /\ h.IsListIter i1 l1 i /\ h.IsListIter i2 l2 i) where
 mem := by simp
 obj := fun i h st b hb => by
  obtain ⟨hz, hTI, ⟨a, c, hTO⟩, ⟨o1, e1, c1, d1⟩, ⟨o2, e2, c2, d2⟩⟩ := st
  simp only [List.mem_cons, List.not_mem_nil, or_false] at hb
  rcases hb with rfl | rfl | rfl | rfl | rfl
  ·exact ⟨_, hz, fun v q => by have q' : Data.fields _ = Data.cell v := q; cases q'⟩
  ·exact ⟨_, hTI, fun v q => by have q' : Data.seq _ _ = Data.cell v := q; cases q'⟩
  ·exact ⟨_, hTO, fun v q => by have q' : Data.seq _ _ = Data.cell v := q; cases q'⟩
  ·exact ⟨o1, e1, fun v q => by rw [d1] at q; cases q⟩
  ·exact ⟨o2, e2, fun v q => by rw [d2] at q; cases q⟩
 keep := fun i h h' st k => by
  obtain ⟨hz, hTI, ⟨a, c, hTO⟩, h1, h2⟩ := st
  exact ⟨k _ (by simp) _ hz, k _ (by simp) _ hTI, ⟨a, c, k _ (by simp) _ hTO⟩, h1.at fun o e => k _ (by simp) o e, h2.at fun o e => k _ (by simp) o e⟩
 item := by
  intro X hP hw hK hc i pins s σ H E I hf st hg
  subst hP hw hK
  obtain ⟨hz, hTI, ⟨a, c, hTO⟩, h1, h2⟩ := st
  obtain ⟨xs, ys, x, y, hq1, hq2, hx, hy⟩ := hg
  obtain ⟨its1, rv1, p1, hz1⟩ := I.list hq1
  obtain ⟨its2, rv2, p2, hz2⟩ := I.list hq2
  obtain ⟨u, hu, ru⟩ := rv1.get hx
  obtain ⟨v, hv, rvv⟩ := rv2.get hy
  refine wpAny_pyNext_zip_item D hz hTI hTO h1 h2 p1.isList p2.isList (x := u) (y := v) (by simpa using hu) (by simpa using hv) fun g1 b1 b2 b3 b4 b5 b6 hk => ?_
  refine ⟨.ref s.heap.objs.size, rfl, wpAny_letOwnedTupleGo_zip b1 fun g2 hz2' hs2 => ?_⟩
  replace hs2 : Heap.SameBut z g1 g2 := hs2
  have zlt : z < s.heap.objs.size := Heap.lt_size hz
  have I2 : Inv X pins σ (upd H s.heap.objs.size (.tup [x, y])) { s with heap := g2, toks := s.toks } := by
   refine I.yieldTup (us := [u, v]) hf (fun b o hb e => ?_) (Nat.le_refl _) ((hs2.2 _ (Nat.ne_of_gt zlt)).trans b5) (.cons ru (.cons rvv .nil)) (by show 2 <= sizeLine; decide)
   simp only [List.mem_cons, List.not_mem_nil, or_false, not_or] at hb
   exact (hs2.2 b hb.1).trans (hk b o hb.1 hb.2.2.1 hb.2.2.2.1 hb.2.2.2.2 e)
  refine ⟨.ref s.heap.objs.size, _, I2, rfl, ⟨s.heap.objs.size, x, y, I.hok.fresh (Nat.le_refl _), rfl, fun xs' h' => by rw [I.list_inj h' hq1]; exact hx, fun ys' h' => by rw [I.list_inj h' hq2]; exact hy, rfl⟩,
   ⟨hz2', (hs2.2 _ D.TIz).trans (hk _ _ D.TIz D.TITO D.TIi1 D.TIi2 hTI), ⟨_, _, (hs2.2 _ D.TOz).trans b2⟩, b3.extBut hs2.extBut D.i1z, b4.extBut hs2.extBut D.i2z⟩, fun b hb => ?_⟩
  have hlt : b < s.heap.objs.size := by
   simp only [List.mem_cons, List.not_mem_nil, or_false] at hb
   rcases hb with rfl | rfl | rfl | rfl | rfl
   ·exact zlt
   ·exact Heap.lt_size hTI
   ·exact Heap.lt_size hTO
   ·obtain ⟨o, e, _⟩ := h1; exact Heap.lt_size e
   ·obtain ⟨o, e, _⟩ := h2; exact Heap.lt_size e
  rw [zh (Nat.ne_of_lt hlt)]
  exact (hf b hb).1
 done := by
  intro X hP hw hK hc i pins s σ H E I hf st hg
  subst hP hw hK
  obtain ⟨hz, hTI, ⟨a, c, hTO⟩, h1, h2⟩ := st
  obtain ⟨xs, ys, hq1, hq2, hend⟩ := hg
  obtain ⟨its1, rv1, p1, hz1⟩ := I.list hq1
  obtain ⟨its2, rv2, p2, hz2⟩ := I.list hq2
  have l1 := rv1.length
  have l2 := rv2.length
  refine wpAny_pyNext_zip_end (I.ok.hd hc) D hz hTI hTO h1 h2 p1.isList p2.isList (by simp; omega) fun h' hk => ⟨rfl, I.turnedL (tk := s.toks) hf fun b o hb e => ?_⟩
  simp only [List.mem_cons, List.not_mem_nil, or_false, not_or] at hb
  exact hk b o hb.1 hb.2.2.1 hb.2.2.2.1 hb.2.2.2.2 e
 self := fun _ _ _ _ _ st h => wpAny_pyIter_zip st.1 h
theorem vq : bootBuiltins "enumerate" = some (.type "enumerate") := by decide +kernel
theorem Zw : bootBuiltins "zip" = some (.type "zip") := by decide +kernel
section
variable {X : Cx} {es : List Expr} {kt : Nat} {tp : Pos}
def KQ (K : PySem.W.Frag) (ta : TA) : TI := fun σ H R => ta σ H fun vs H1 => ∃ a, vs = [.ref a] /\ (∃ xs, SqL K H1 a xs) /\ R (Ite K a) H1
theorem JJ {e : Expr} {ta : TA} {p pos : Pos} (hg : Gl X "enumerate") (hm : X.mg "enumerate" = none) (ha : PA X [e] ta) (hs : starEach [e] X.env = [(false, eval e X.env)] := by rfl) :
  PI X (.Tuple es kt tp) (.Call (.Name "enumerate" p) [e] [] pos) (KQ X.K ta) := by
 intro pins s σ H R I h
 refine Call_ (j0 I hg hm (vq) (PyProof.Rows.callWith_type1 (thn (ha pos pins s σ H _ I h) fun us s1 ⟨vs, H1, I1, r1, q1⟩ => ?_) hs rfl))
 obtain ⟨a, e, ⟨xs, hq⟩, q⟩ := q1
 subst e
 obtain ⟨u, rfl, ru⟩ := jB r1
 cases ru
 obtain ⟨its, rv, pl, hz⟩ := I1.list hq
 refine call_enumerate_list pl.isList fun h' he hit hsz hk => wpAny_pyIter_enum he ?_
 have I2 : Inv X pins σ H1 { s1 with heap := h' } := I1.kept (t' := s1.toks) hk
 refine ⟨s1.heap.objs.size + 1, [s1.heap.objs.size + 1, s1.heap.objs.size], _, _, H1, rfl, I2, Zk a _ _ (Nat.succ_ne_self _), ⟨⟨_, he⟩, hit⟩, fun b hb => ?_, q⟩
 have hb' : s1.heap.objs.size <= b := by
  simp only [List.mem_cons, List.not_mem_nil, or_false] at hb
  rcases hb with rfl | rfl
  ·exact Nat.le_succ _
  ·exact Nat.le_refl _
 exact I1.fpOk hb' (I1.hok.fresh hb')
end
theorem Jj {K : PySem.W.Frag} {a : Addr} {xs : List V} {g : TG} {tb : TS} {D : jG} {σ : St} {H : Hp} (Pv : Nat -> St -> Hp -> Prop) (h0 : Pv 0 σ H) (hl : ∀ i σ H, i <= xs.length -> Pv i σ H -> SqL K H a xs)
  (hs : ∀ i x p σ H, xs[i]? = some x -> H p = none -> Pv i σ H -> g (.ref p) σ (upd H p (.tup [.int i, x])) fun σ2 H2 => tb { D with nx := Pv (i + 1), ct := Pv (i + 1), bk := D.nx } σ2 H2) (hd : ∀ σ H, Pv xs.length σ H -> D.nx σ H) :
  ∃ W : Nat -> Nat -> St -> Hp -> Prop, (∃ m, W 0 m σ H) /\ ∀ i m σ H, W i m σ H ->
   ((Ite K a).stop i H /\ D.nx σ H) \/ ((Ite K a).go i H /\ ∃ N : St -> Hp -> Prop, (∀ σ' H', N σ' H' -> ∃ m', m' < m /\ W (i + 1) m' σ' H') /\ ∀ x H', (Ite K a).yld i H x H' -> g x σ H' fun σ2 H2 => tb { D with nx := N, ct := N, bk := D.nx } σ2 H2) := by
 refine ⟨fun i m σ H => m = xs.length - i /\ i <= xs.length /\ Pv i σ H, ⟨xs.length, by simp, Nat.zero_le _, h0⟩, ?_⟩
 rintro i m σ H ⟨rfl, hi, p⟩
 have q := hl i σ H hi p
 by_cases hlt : i < xs.length
 ·refine .inr ⟨⟨xs, xs[i], q, by simp [hlt]⟩, Pv (i + 1), fun σ' H' p' => ⟨xs.length - (i + 1), by omega, rfl, hlt, p'⟩, fun x H' y => ?_⟩
  obtain ⟨pp, x', hp, rfl, y, rfl⟩ := y
  exact hs i x' pp σ _ (y xs q) hp p
 ·have e : i = xs.length := by omega
  subst e
  exact .inl ⟨⟨xs, q, Nat.le_refl _⟩, hd σ H p⟩
end L2
set_option Elab.async false
set_option linter.all false
set_option maxRecDepth 100000
set_option maxHeartbeats 4000000
namespace L2
open PySem PySem.Spec PyProof.Rows
def xT (p : Addr) (a b c : Int) : HO := .ext fun h => ∃ t u v, h.get? p = some { cls := .type "range", data := .fields #[.int a t, .int b u, .int c v] }
theorem Yj {P : Program} {w : World} {H : Hp} {h : Heap} {p : Addr} {a b c : Int} {t u v : Tok} (e : h.get? p = some { cls := .type "range", data := .fields #[.int a t, .int b u, .int c v] }) : zG P w H h p (xT p a b c) :=
 ⟨⟨t, u, v, e⟩, ⟨_, e⟩, fun h1 h2 ⟨t, u, v, q⟩ k => ⟨t, u, v, k _ q⟩⟩
def ju (a c : Int) (n : Nat) : List Int := (List.range n).map fun (i : Nat) => a + (i : Int) * c
theorem qA (a c : Int) (n : Nat) : (ju a c n).length = n := by simp [ju]
theorem vE {a c : Int} : ∀ {n : Nat} {acc : Array Value}, ItemsOf (fun (i : Nat) (v : Value) => ∃ t, v = Value.int (a + (i : Int) * c) t) acc n -> zp ((ju a c n).map V.int) acc.toList := by
 intro n acc ⟨hs, hi⟩
 have key : ∀ (k : Nat) (l : List Value), l.length = k -> (∀ (j : Nat) v, l[j]? = some v -> ∃ t, v = Value.int (a + (j : Int) * c) t) -> zp ((ju a c k).map V.int) l := by
  intro k
  induction k with
  | zero => intro l hl _; cases l with
   | nil => exact .nil
   | cons => simp at hl
  | succ k ih =>
   intro l hl hv
   obtain ⟨l', x, rfl⟩ : ∃ l' x, l = l' ++ [x] := ⟨l.dropLast, l.getLast (by intro e; rw [e] at hl; simp at hl), (List.dropLast_concat_getLast _).symm⟩
   have hl' : l'.length = k := by simpa using hl
   have e : (ju a c (k + 1)).map V.int = (ju a c k).map V.int ++ [.int (a + (k : Int) * c)] := by simp [ju, List.range_succ]
   rw [e]
   refine (ih l' hl' fun j v hj => hv j v ?_).append (.cons ?_ .nil)
   ·rw [List.getElem?_append_left (List.getElem?_eq_some_iff.mp hj).1]; exact hj
   ·obtain ⟨t, rfl⟩ := hv k x (by rw [List.getElem?_append_right (by omega), hl']; simp)
    exact ⟨t, rfl⟩
 exact key n acc.toList (by simpa using hs) fun j v hj => hi j v (by simpa using hj)
section
variable {X : Cx}
theorem vd : qo X (.type "range") (fun xs H Q => ∃ b : Int, xs = [.int b] /\ ∀ p, H p = none -> Q (.ref p) (upd H p (xT p 0 b 1))) := by
 intro pins s σ H xs us Q I r h
 obtain ⟨b, rfl, q⟩ := h
 obtain ⟨u, rfl, t, rfl⟩ := jB r
 refine call_range_1 ⟨.ref s.heap.objs.size, _, I.laid (fun b o e => Heap.get?_push_of_some _ e) (Nat.le_refl _) ?_, rfl, q _ (I.hok.fresh (Nat.le_refl _))⟩
 exact Yj (Heap.get?_push_size _ rfl)
theorem xo (hc : X.calm = true) : qo X (.type "list") (fun xs H Q => ∃ p a b c n, xs = [.ref p] /\ H p = some (xT p a b c) /\ Builtin.Range.small a b c = true /\ Builtin.Range.rangeSize a b c = ((n : Nat) : Int) /\ n <= 100000 /\ ∀ l, H l = none -> Q (.ref l) (upd H l (.lst ((ju a c n).map V.int)))) := by
 intro pins s σ H xs us Q I r h
 obtain ⟨p, a, b, c, n, rfl, hp, hs, hn, hz, q⟩ := h
 obtain ⟨u, rfl, rx⟩ := jB r
 cases rx
 obtain ⟨⟨t, u, v, e⟩, _⟩ := (show zG X.prog X.w H s.heap p (xT p a b c) from I.hok _ _ hp)
 refine call_list_range (I.ok.hd hc) e hs hn (Nat.le_trans hz (by decide)) fun h' tk acc c' hk he hi => ?_
 refine ⟨.ref s.heap.objs.size, _, I.laid hk (Nat.le_refl _) (show zG X.prog X.w _ h' _ (.lst ((ju a c n).map V.int)) from ⟨?_, acc.toList, c', vE hi, by simpa using he⟩), rfl, q _ (I.hok.fresh (Nat.le_refl _))⟩
 rw [List.length_map, qA]
 exact Nat.le_trans hz (by decide)
end
end L2
set_option Elab.async false
set_option linter.all false
set_option maxRecDepth 100000
set_option maxHeartbeats 4000000
namespace L2
open PySem PySem.Spec PyProof.Rows
section
variable {X : Cx}
def Vv (K : PySem.W.Frag) (f : Bool -> Bool) : R2 := fun x y H Q => ∃ p q ns ms, x = .ref p /\ y = .ref q /\ SqL K H p (List.map V.int ns) /\ SqL K H q (List.map V.int ms) /\ Q (.bl (f (decide (ns = ms)))) H
theorem yu (hu : X.A.units + 64 < cLine) : OpR X (compareOp .NotEq) (Vv X.K not) := by
 intro pins s σ H x y v u Q I rx ry h
 obtain ⟨p, q, ns, ms, rfl, rfl, h1, h2, k⟩ := h
 cases rx
 cases ry
 obtain ⟨us, r1, p1, z1⟩ := I.list h1
 obtain ⟨ws, r2, p2, z2⟩ := I.list h2
 exact PySem.W.ke_ne_ints p1.isList p2.isList (xj r1) (xj r2) hu ⟨.bl _, H, I, rfl, k⟩
def isT (t c : String) : Option Bool := if (Value.type t == Value.type c) = true then some true else if PySem.W.kitMeta c = true then (fastBuiltinMro t).map (·.contains (Value.type c)) else none
theorem we (K : PySem.W.Frag) (t c : String) : PySem.W.kitOne K (.type t) (.type c) = isT t c := rfl
def xh (t : String) : List String -> Option Bool
 | [] => some false
 | c :: r => match isT t c with
  | some true => some true
  | some false => xh t r
  | none => none
theorem vb (K : PySem.W.Frag) (t : String) : ∀ cs : List String, PySem.W.kitAny K (.type t) (cs.map Value.type) = xh t cs
 | [] => rfl
 | c :: r => by
  show (match PySem.W.kitOne K (.type t) (.type c) with | some true => some true | some false => PySem.W.kitAny K (.type t) (r.map Value.type) | none => none) = _
  rw [we, vb K t r]; rfl
theorem zV : qo X (.builtin "isinstance") (fun xs H Q => ∃ x t c b, xs = [x, .ty c] /\ jk X.K H x (.type t) /\ isT t c = some b /\ Q (.bl b) H) := by
 intro pins s σ H xs us Q I r h
 obtain ⟨x, t, c, b, rfl, ty, e, q⟩ := h
 obtain ⟨u, v, rfl, ru, rv⟩ := vg r
 cases rv
 exact Zc I ru ty (by rw [we]; exact e) fun tk => ⟨.bl b, H, I.tok _, rfl, q⟩
theorem yF : ∀ {cs : List String} {us : List Value}, zp (cs.map V.ty) us -> us = cs.map Value.type
 | [], _, .nil => rfl
 | c :: cs, _, .cons r t => by rw [yF t]; cases r; rfl
theorem Zi : qo X (.builtin "isinstance") (fun xs H Q => ∃ x t p cs b, xs = [x, .ref p] /\ H p = some (.tup (List.map V.ty cs)) /\ jk X.K H x (.type t) /\ xh t cs = some b /\ Q (.bl b) H) := by
 intro pins s σ H xs us Q I r h
 obtain ⟨x, t, p, cs, b, rfl, hp, ty, e, q⟩ := h
 obtain ⟨u, v, rfl, rx, rv⟩ := vg r
 cases rv
 obtain ⟨_, its, rt, o, ho, hc, n, hd⟩ := (show zG X.prog X.w H s.heap p (.tup (List.map V.ty cs)) from I.hok _ _ hp)
 obtain ⟨oc, od, odt, osl⟩ := o
 simp only at hc hd
 subst hc hd
 have e' : PySem.W.kitAny X.K (.type t) its = some b := by rw [yF rt, vb]; exact e
 have fin : ∀ tk, EP X pins σ Q (.bool b) { s with toks := tk } := fun tk => ⟨.bl b, H, I.tok _, rfl, q⟩
 cases ty with
 | non => cases (show u = Value.none from rx); exact PySem.W.kia_tup PySem.W.kitx_none I.kIn True.intro ho e' (fun z => nomatch z) fin
 | bl y => cases (show u = Value.bool y from rx); exact PySem.W.kia_tup PySem.W.kitx_bool I.kIn True.intro ho e' (fun z => nomatch z) fin
 | int i => obtain ⟨t, q⟩ := (show ∃ t, u = Value.int i t from rx); cases q; exact PySem.W.kia_tup PySem.W.kitx_int I.kIn True.intro ho e' (fun z => nomatch z) fin
 | str y => obtain ⟨t, q⟩ := (show ∃ t, u = Value.str y t from rx); cases q; exact PySem.W.kia_tup PySem.W.kitx_str I.kIn True.intro ho e' (fun z => nomatch z) fin
 | flt y => obtain ⟨t, q⟩ := (show ∃ t, u = Value.float y t from rx); cases q; exact PySem.W.kia_tup PySem.W.kitx_float I.kIn True.intro ho e' (fun z => nomatch z) fin
 | @lst a xs ea =>
  cases (show u = Value.ref a from rx)
  obtain ⟨_, _, n, _, h1⟩ := (show zG X.prog X.w H s.heap a (.lst xs) from I.hok a _ ea)
  exact PySem.W.kia_tup PySem.W.kitx_list I.kIn ⟨_, h1, rfl⟩ ho e' (fun z => nomatch z) fin
 | @frz a ob xs ea =>
  cases (show u = Value.ref a from rx)
  obtain ⟨_, _, _, n, _, h1⟩ := (show zG X.prog X.w H s.heap a (.frz ob (.lst xs)) from I.hok a _ ea)
  exact PySem.W.kia_tup PySem.W.kitx_list I.kIn ⟨_, h1, rfl⟩ ho e' (fun z => nomatch z) fin
 | @tup a xs ea =>
  cases (show u = Value.ref a from rx)
  obtain ⟨_, _, _, p⟩ := (show zG X.prog X.w H s.heap a (.tup xs) from I.hok a _ ea)
  obtain ⟨o, h1, h2, _⟩ := p
  exact PySem.W.kia_tup PySem.W.kitx_tuple I.kIn ⟨o, h1, h2⟩ ho e' (fun z => nomatch z) fin
 | @dK a kvs ea =>
  cases (show u = Value.ref a from rx)
  obtain ⟨_, _, vs, _, p⟩ := (show zG X.prog X.w H s.heap a (.dK kvs) from I.hok a _ ea)
  obtain ⟨o, es, ep, h1, h2, _⟩ := p
  exact PySem.W.kia_tup PySem.W.kitx_dict I.kIn ⟨o, h1, h2.1⟩ ho e' (fun z => nomatch z) fin
 | @dT a kvs ea =>
  cases (show u = Value.ref a from rx)
  obtain ⟨_, _, xs, _, o, es, ep, h1, h2, _⟩ := (show zG X.prog X.w H s.heap a (.dT kvs) from I.hok a _ ea)
  exact PySem.W.kia_tup PySem.W.kitx_dict I.kIn ⟨o, h1, h2.1⟩ ho e' (fun z => nomatch z) fin
theorem vv {lo : Int} {n : Nat} {g : TG} {tt : TT} {te : TE} {Q : VK} {τ : St} {H1 : Hp} {D : Addr} (Pv : Nat -> St -> Hp -> Prop) (h0 : Pv 0 τ (upd H1 D (.lst [])))
  (hs : ∀ i τ H, i < n -> Pv i τ H -> g (.int (lo + i)) τ H fun τ2 H3 => tt τ2 H3 fun b H4 => if b = true then te τ2 H4 fun v H5 => ∃ ys, H5 D = some (.lst ys) /\ ys.length < sizeLine /\ Pv (i + 1) τ2 (upd H5 D (.lst (ys ++ [v]))) else Pv (i + 1) τ2 H4)
  (hd : ∀ τ H, Pv n τ H -> Q (.ref D) H) :
  ∃ W : Nat -> Nat -> St -> Hp -> Prop, (∃ m, W 0 m τ (upd H1 D (.lst []))) /\ ∀ i m τ H2, W i m τ H2 ->
   ((Itr lo n).stop i H2 /\ Q (.ref D) H2) \/ ((Itr lo n).go i H2 /\ ∃ N : St -> Hp -> Prop, (∀ τ' H', N τ' H' -> ∃ m', m' < m /\ W (i + 1) m' τ' H') /\ ∀ x H', (Itr lo n).yld i H2 x H' -> g x τ H' fun τ2 H3 => tt τ2 H3 fun b H4 =>
    if b = true then te τ2 H4 fun v H5 => ∃ ys, H5 D = some (.lst ys) /\ ys.length < sizeLine /\ N τ2 (upd H5 D (.lst (ys ++ [v]))) else N τ2 H4) := by
 refine ⟨fun i m τ H => m = n - i /\ i <= n /\ Pv i τ H, ⟨n, by simp, Nat.zero_le _, h0⟩, ?_⟩
 rintro i m τ H ⟨rfl, hi, p⟩
 by_cases hlt : i < n
 ·refine .inr ⟨hlt, Pv (i + 1), fun σ' H' p' => ⟨n - (i + 1), by omega, rfl, hlt, p'⟩, fun x H' y => ?_⟩
  obtain ⟨e, y⟩ := y
  subst e y
  exact hs i τ _ hlt p
 ·have e : i = n := by omega
  subst e
  exact .inl ⟨Nat.le_refl _, hd τ H p⟩
end
end L2
set_option Elab.async false
set_option linter.all false
set_option maxRecDepth 100000
set_option maxHeartbeats 4000000
namespace L2
open PySem PySem.Spec PyProof.Rows
def At (K : PySem.W.Frag) (mg : Str -> Option Value) (x : Str) (st : Stmt) : Prop := ∃ f fd, Fun K x x st f fd /\ mg x = some (.ref f)
def Df (P : Program) (w : World) (K : PySem.W.Frag) (mg : Str -> Option Value) (base : Heap) (x : Str) (ps : List Str) (k : Nat) (sp : Sp) : Prop :=
 ∃ f fd, jv P w K mg base CX0 k f fd ps sp /\ xD K fd ps [] /\ PySem.W.keepIn K (.ref f) = true /\ mg x = some (.ref f) /\ ∃ oc od osl, K.lookup f = some ⟨oc, od, .func fd, osl⟩
theorem Df.mono {P : Program} {w : World} {K : PySem.W.Frag} {mg : Str -> Option Value} {base : Heap} {x : Str} {ps : List Str} {j k : Nat} {sp : Sp} (D : Df P w K mg base x ps j sp) (h : j <= k) : Df P w K mg base x ps k sp :=
 let ⟨f, fd, F, r⟩ := D
 ⟨f, fd, F.mono h, r⟩
section
variable {X : Cx} {k : Nat} {x : Str} {ps : List Str} {sp : Sp} {p pos : Pos} {e : Expr} {es : List Expr} {t : TA}
theorem zB (D : Df X.prog X.w X.K X.mg X.base x ps k sp) (hr : qL k X.A) (hg : Gl X x) (ha : PA X (e :: es) t) (hdb : (x == ("__debug__" : Str)) = false := by decide)
  (he : starEach (e :: es) X.env = (false, eval e X.env) :: starEach es X.env := by rfl) (hpl : (backTo pos (starEach es X.env)).any (·.1) = false := by rfl) : PE X (.Call (.Name x p) (e :: es) [] pos) (wj sp [] E0 t) := by
 obtain ⟨f, fd, F, b, kp, m, _⟩ := D
 exact JX F hr hg m kp b .nil Vd ha hdb he hpl
end
theorem ka {P : Program} {w : World} {K : PySem.W.Frag} {mg : Str -> Option Value} {base : Heap} {x : Str} {st : Stmt} {N ps : List Str} {k : Nat} {sp : Sp} (a : At K mg x st) (S : zN N ps (zn st))
  (hb : ∀ (kV doc pm : Value) (an : Option Addr) (cdv ct : Value) (us : List Value), us.length = ps.length -> bindArgs (PySem.W.fnOf x x (qE st) (zZ st) (zn st) .none kV doc pm an cdv ct) ⟨us, []⟩ = pure (ps.zip us))
  (len : ∀ vs H Q E, sp vs H Q E -> vs.length = ps.length)
  (hbody : ∀ (f : Addr) (cdv : Value) (A : Around) (outer : List Env) (s : Shared) (H : Hp) (vs : List V) (Q : VK) (E : XK), qL k (A.deeper (envOfC x (zn st) s.heap.objs.size f cdv)) -> sp vs H Q E ->
   ∃ t, PSs (yc CX0 P w K mg base N x (zn st) f cdv A outer s H E).nox (zZ st) t /\ t { nx := fun _ H' => Q .non H', rt := Q } (ql N vs) H) : Df P w K mg base x ps (k + 1) sp := by
 obtain ⟨f, fd, F, m⟩ := a
 obtain ⟨oc, od, kV, doc, pm, an, cdv, ct, osl, _, lk, _⟩ := id F.ex
 exact ⟨f, fd, F.ok S len fun cdv A outer s H vs Q E => hbody f cdv A outer s H vs Q E, F.binds hb, F.kp, m, oc, od, osl, lk⟩
theorem at_mk {K : PySem.W.Frag} {mg : Str -> Option Value} {h : Heap} {x : Str} {st : Stmt} {f : Addr} {oc : Value} {od an : Option Addr} {osl : Array (Option Value)} {kV doc pm cdv ct : Value} (X : K.In h) (G : h.Ns mainGlobals mg) (a : PySem.W.nsIn K mainGlobals x = some (some (.ref f)))
  (l : K.lookup f = some ⟨oc, od, .func (PySem.W.fnOf x x (qE st) (zZ st) (zn st) .none kV doc pm an cdv ct), osl⟩) (c : PySem.W.codeIn K cdv x = true) (k : PySem.W.keepIn K (.ref f) = true) : At K mg x st := ⟨f, _, Qk l c k, PySem.W.mg_of X G a⟩
theorem Df.fn {P : Program} {w : World} {K : PySem.W.Frag} {mg : Str -> Option Value} {base : Heap} {x : Str} {ps : List Str} {k : Nat} {sp : Sp} {f : Addr} {fd : FuncData} {oc : Value} {od : Option Addr} {osl : Array (Option Value)} (D : Df P w K mg base x ps k sp) (m : mg x = some (.ref f)) (l : K.lookup f = some ⟨oc, od, .func fd, osl⟩) : jv P w K mg base CX0 k f fd ps sp := by
 obtain ⟨f', fd', F, _, _, m', oc', od', osl', l'⟩ := D
 rw [m] at m'
 cases m'
 rw [l] at l'
 cases l'
 exact F
structure Blt (mg : Str -> Option Value) : Prop where
 len : mg "len" = none
 range : mg "range" = none
 list : mg "list" = none
 tuple : mg "tuple" = none
 int : mg "int" = none
 bool : mg "bool" = none
 str : mg "str" = none
 abs : mg "abs" = none
 divmod : mg "divmod" = none
 enumerate : mg "enumerate" = none
 zip : mg "zip" = none
 sorted : mg "sorted" = none
 max : mg "max" = none
 min : mg "min" = none
 isinstance : mg "isinstance" = none
 all : mg "all" = none
theorem blt_mk {K : PySem.W.Frag} {mg : Str -> Option Value} {h : Heap} (X : K.In h) (G : h.Ns mainGlobals mg) (z1 : PySem.W.nsIn K mainGlobals "len" = some none) (z2 : PySem.W.nsIn K mainGlobals "range" = some none) (z3 : PySem.W.nsIn K mainGlobals "list" = some none) (z4 : PySem.W.nsIn K mainGlobals "tuple" = some none) (z5 : PySem.W.nsIn K mainGlobals "int" = some none) (z6 : PySem.W.nsIn K mainGlobals "bool" = some none) (z7 : PySem.W.nsIn K mainGlobals "str" = some none) (z8 : PySem.W.nsIn K mainGlobals "abs" = some none)
  (z9 : PySem.W.nsIn K mainGlobals "divmod" = some none) (z10 : PySem.W.nsIn K mainGlobals "enumerate" = some none) (z11 : PySem.W.nsIn K mainGlobals "zip" = some none) (z12 : PySem.W.nsIn K mainGlobals "sorted" = some none) (z13 : PySem.W.nsIn K mainGlobals "max" = some none) (z14 : PySem.W.nsIn K mainGlobals "min" = some none) (z15 : PySem.W.nsIn K mainGlobals "isinstance" = some none) (z16 : PySem.W.nsIn K mainGlobals "all" = some none) : Blt mg :=
 ⟨PySem.W.mg_none_of X G z1, PySem.W.mg_none_of X G z2, PySem.W.mg_none_of X G z3, PySem.W.mg_none_of X G z4, PySem.W.mg_none_of X G z5, PySem.W.mg_none_of X G z6, PySem.W.mg_none_of X G z7, PySem.W.mg_none_of X G z8, PySem.W.mg_none_of X G z9, PySem.W.mg_none_of X G z10, PySem.W.mg_none_of X G z11, PySem.W.mg_none_of X G z12, PySem.W.mg_none_of X G z13, PySem.W.mg_none_of X G z14, PySem.W.mg_none_of X G z15, PySem.W.mg_none_of X G z16⟩
theorem zv : bootBuiltins "isinstance" = some (.builtin "isinstance") := by decide +kernel
theorem Qu : bootBuiltins "abs" = some (.builtin "abs") := by decide +kernel
theorem wM : bootBuiltins "divmod" = some (.builtin "divmod") := by decide +kernel
theorem YN : bootBuiltins "max" = some (.builtin "max") := by decide +kernel
theorem qg : bootBuiltins "len" = some (.builtin "len") := by decide +kernel
theorem jr : bootBuiltins "list" = some (.type "list") := by decide +kernel
theorem qe : bootBuiltins "tuple" = some (.type "tuple") := by decide +kernel
theorem xl : bootBuiltins "int" = some (.type "int") := by decide +kernel
theorem wx : bootBuiltins "bool" = some (.type "bool") := by decide +kernel
theorem kG : bootBuiltins "str" = some (.type "str") := by decide +kernel
theorem ZI : bootBuiltins "range" = some (.type "range") := by decide +kernel
def Kp (bs : List Addr) (H H' : Hp) : Prop := ∀ c o, c ∉ bs -> H c = some o -> H' c = some o
theorem Kp.refl {bs : List Addr} {H : Hp} : Kp bs H H := fun _ _ _ h => h
theorem Kp.trans {bs : List Addr} {H H1 H2 : Hp} (a : Kp bs H H1) (b : Kp bs H1 H2) : Kp bs H H2 := fun c o n h => b c o n (a c o n h)
theorem Kp.new {bs : List Addr} {H : Hp} {p : Addr} (o : HO) (h : H p = none) : Kp bs H (upd H p o) := fun c u _ q => by rw [zh (zi q h)]; exact q
theorem Kp.set {bs : List Addr} {H : Hp} {p : Addr} (o : HO) (h : p ∈ bs) : Kp bs H (upd H p o) := fun c u n q => by have hne : c ≠ p := (fun e => n (by rw [e]; exact h)); rw [zh hne]; exact q
theorem Kp.mono {bs bs' : List Addr} {H H' : Hp} (a : Kp bs H H') (h : ∀ b ∈ bs, b ∈ bs') : Kp bs' H H' := fun c o n q => a c o (fun z => n (h c z)) q
theorem Kp.free {H H' : Hp} (e : Kp [] H H') {l : Addr} (h : H' l = Option.none) : H l = Option.none := by
 cases q : H l with
 | none => rfl
 | some o => rw [e l o (by simp) q] at h; cases h
def Bx (H : Hp) (b : Addr) (N : Nat) : Prop := ∃ x y z : Int, H b = some (.lst [.int x, .int y, .int z]) /\ 0 <= x /\ 0 <= y /\ y < 2147483648 /\ 0 <= z /\ z <= N
abbrev il (ns : List Int) : HO := .lst (ns.map V.int)
end L2
set_option Elab.async false
set_option linter.all false
set_option maxRecDepth 100000
set_option maxHeartbeats 4000000
namespace L2
open PySem PySem.Spec PyProof.Rows
theorem cxK {CX : CXT} {P : Program} {w : World} {K : PySem.W.Frag} {mg : Str -> Option Value} {base : Heap} {N : List Str} {qual : Str} {scope : Scope} {f : Addr} {cd : Value} {A : Around} {outer : List Env} {s : Shared} {H : Hp} {E : XK} :
  (yc CX P w K mg base N qual scope f cd A outer s H E).K = K := rfl
def Y2 (J : It) (g : TG) (tb : TS) (D : jG) (σ : St) (H : Hp) : Prop := ∃ W : Nat -> Nat -> St -> Hp -> Prop, (∃ m, W 0 m σ H) /\ ∀ i m σ H, W i m σ H ->
 (J.stop i H /\ D.nx σ H) \/ (J.go i H /\ ∃ N : St -> Hp -> Prop, (∀ σ' H', N σ' H' -> ∃ m', m' < m /\ W (i + 1) m' σ' H') /\ ∀ x H', J.yld i H x H' -> g x σ H' fun σ2 H2 => tb { D with nx := N, ct := N, bk := D.nx } σ2 H2)
theorem wn {wi : TI} {g : TG} {tb : TS} {D : jG} {σ : St} {H : Hp} : XG wi g tb D σ H = wi σ H (fun J H1 => Y2 J g tb D σ H1) := rfl
def KR (J : It) (g : TG) (tt : TT) (te : TE) (D : Addr) (Q : VK) (τ : St) (H : Hp) : Prop := ∃ W : Nat -> Nat -> St -> Hp -> Prop, (∃ m, W 0 m τ H) /\ ∀ i m τ H2, W i m τ H2 ->
 (J.stop i H2 /\ Q (.ref D) H2) \/ (J.go i H2 /\ ∃ N : St -> Hp -> Prop, (∀ τ' H', N τ' H' -> ∃ m', m' < m /\ W (i + 1) m' τ' H') /\ ∀ x H', J.yld i H2 x H' -> g x τ H' fun τ2 H3 => tt τ2 H3 fun b H4 =>
  if b = true then te τ2 H4 fun v H5 => ∃ ys, H5 D = some (.lst ys) /\ ys.length < sizeLine /\ N τ2 (upd H5 D (.lst (ys ++ [v]))) else N τ2 H4)
theorem Jo {ts : List Nat} {wi : TI} {g : TG} {tt : TT} {te : TE} {σ : St} {H : Hp} {Q : VK} :
  yy ts wi g tt te σ H Q = wi σ H (fun J H1 => ∀ D, H1 D = none -> KR J g tt te D Q (clr ts σ) (upd H1 D (.lst []))) := rfl
theorem Je {lo : Int} {n : Nat} {g : TG} {tb : TS} {D : jG} {σ : St} {H : Hp} (Pv : Nat -> St -> Hp -> Prop) (h0 : Pv 0 σ H)
  (hs : ∀ i σ H, i < n -> Pv i σ H -> g (.int (lo + i)) σ H fun σ2 H2 => tb { D with nx := Pv (i + 1), ct := Pv (i + 1), bk := D.nx } σ2 H2) (hd : ∀ σ H, Pv n σ H -> D.nx σ H) : Y2 (Itr lo n) g tb D σ H := Zd Pv h0 hs hd
theorem Kn {K : PySem.W.Frag} {a : Addr} {xs : List V} {g : TG} {tb : TS} {D : jG} {σ : St} {H : Hp} (Pv : Nat -> St -> Hp -> Prop) (h0 : Pv 0 σ H) (hl : ∀ i σ H, i <= xs.length -> Pv i σ H -> SqL K H a xs)
  (hs : ∀ i x p σ H, xs[i]? = some x -> H p = none -> Pv i σ H -> g (.ref p) σ (upd H p (.tup [.int i, x])) fun σ2 H2 => tb { D with nx := Pv (i + 1), ct := Pv (i + 1), bk := D.nx } σ2 H2) (hd : ∀ σ H, Pv xs.length σ H -> D.nx σ H) : Y2 (Ite K a) g tb D σ H := Jj Pv h0 hl hs hd
theorem vh {lo : Int} {n : Nat} {g : TG} {tt : TT} {te : TE} {Q : VK} {τ : St} {H1 : Hp} {D : Addr} (Pv : Nat -> St -> Hp -> Prop) (h0 : Pv 0 τ (upd H1 D (.lst [])))
  (hs : ∀ i τ H, i < n -> Pv i τ H -> g (.int (lo + i)) τ H fun τ2 H3 => tt τ2 H3 fun b H4 => if b = true then te τ2 H4 fun v H5 => ∃ ys, H5 D = some (.lst ys) /\ ys.length < sizeLine /\ Pv (i + 1) τ2 (upd H5 D (.lst (ys ++ [v]))) else Pv (i + 1) τ2 H4)
  (hd : ∀ τ H, Pv n τ H -> Q (.ref D) H) : KR (Itr lo n) g tt te D Q τ (upd H1 D (.lst [])) := vv Pv h0 hs hd
def K9 (i j k : Nat) (ta : TA) : TS := fun D σ H => ta σ H fun vs H1 => ∃ v w x, vs = [v, w, x] /\ D.nx (((σ.set i (some v)).set j (some w)).set k (some x)) H1
theorem J1 {X : Cx} {pos : Pos} {i j k : Nat} {x y z : Str} {a b c : Expr} {ta : TA} {px py pz pt : Pos} {kt k2 pt2} (hc : X.calm = true) (hN : X.N.Nodup) (hi : X.N[i]? = some x) (hj : X.N[j]? = some y) (hk : X.N[k]? = some z) (hij : i ≠ j) (hik : i ≠ k) (hjk : j ≠ k)
  (hx : X.env.scope.names.lookup x = some .local) (hy : X.env.scope.names.lookup y = some .local) (hz : X.env.scope.names.lookup z = some .local) (ha : PA X [a, b, c] ta)
  (hw : swappedStores [.Tuple [.Name x px, .Name y py, .Name z pz] kt pt] (.Tuple [a, b, c] k2 pt2) X.env = pure (some [x, y, z]))
  (hs : swapsWithSole [.Tuple [.Name x px, .Name y py, .Name z pz] kt pt] (.Tuple [a, b, c] k2 pt2) pos.line X.env = pure false := by rfl) :
  PS X (.Assign [.Tuple [.Name x px, .Name y py, .Name z pz] kt pt] (.Tuple [a, b, c] k2 pt2) pos) (K9 i j k ta) := by
 intro pins s σ H D I h
 rw [exec_Assign_arm]
 refine wpAny_bind (wpAny_standAt ?_)
 rw [hs]
 refine wpAny_bind (wpAny_pure ?_)
 rw [if_neg (by decide)]
 refine wpAny_bind (Tuple_ (thn (ha _ pins s σ H _ I h) fun us s1 ⟨vs, H1, I1, r1, q1⟩ => ?_))
 obtain ⟨v, w, v3, e1, q1⟩ := q1
 subst e1
 obtain ⟨u1, u2, u3, rfl, rv, rw', r3⟩ : ∃ u1 u2 u3, us = [u1, u2, u3] /\ zt v u1 /\ zt w u2 /\ zt v3 u3 := by
  cases r1 with
  | cons p q =>
   cases q with
   | cons p' q' =>
    cases q' with
    | cons p'' q'' =>
     cases q''
     exact ⟨_, _, _, rfl, p, p', p''⟩
 refine wpAny_newObj_type ?_ (by show 3 <= sizeLine; decide)
 have I2 : Inv X pins σ H1 { s1 with heap := s1.heap.push { cls := .type "tuple", data := .seq [u1, u2, u3].toArray } } := I1.kept (t' := s1.toks) fun b o e => Heap.get?_push_of_some _ e
 rw [hw]
 refine wpAny_bind (wpAny_pure ?_)
 show wpAny (model X.prog X.w) X.A (do rule "assign.swapped-stores"; let items <- unpackItems (.ref s1.heap.objs.size) 3 none; assignInOrder [fun v => bindName X.env z v, fun v => bindName X.env y v, fun v => bindName X.env x v] items.reverse; pure Flow.next) _ _ _
 refine wpAny_bind (wpAny_rule (wpAny_bind (unpackItems_tuple (items := #[u1, u2, u3]) (I.ok.hd hc) (IsTup.new s1.heap _) fun h' hx' => ?_)))
 have I3 := I2.kept (h' := h') (t' := s1.toks) fun b o e => hx' b o (Nat.ne_of_lt (Heap.lt_size e)) e
 show wpAny _ _ (assignInOrder [fun v => bindName X.env z v, fun v => bindName X.env y v, fun v => bindName X.env x v] [u3, u2, u1] >>= fun _ => pure Flow.next) _ _ _
 refine wpAny_bind (assignInOrder_cons (wpAny_bindName (qx I3 hN hk (.inl hz) r3 (fun s2 I4 => ?_) (.inr hz))))
 refine assignInOrder_cons (wpAny_bindName (qx I4 hN hj (.inl hy) rw' (fun s3 I5 => ?_) (.inr hy)))
 refine assignInOrder_cons (wpAny_bindName (qx I5 hN hi (.inl hx) rv (fun s4 I6 => assignInOrder_nil (wpAny_pure ?_)) (.inr hx)))
 rw [List.set_comm _ _ (Ne.symm hij), List.set_comm _ _ (Ne.symm hik), List.set_comm _ _ (Ne.symm hjk)] at I6
 refine ⟨_, H1, ?_, q1⟩
 first | exact I6 | (rw [List.set_comm _ _ hij] at I6; exact I6) | (have e : ∀ τ : St, ((τ.set k (some v3)).set j (some w)).set i (some v) = ((τ.set i (some v)).set j (some w)).set k (some v3) := fun τ => by rw [List.set_comm _ _ (Ne.symm hij), List.set_comm _ _ (Ne.symm hik), List.set_comm _ _ (Ne.symm hjk)]; exact I6)
end L2
set_option Elab.async false
set_option linter.all false
set_option maxRecDepth 100000
set_option maxHeartbeats 4000000
namespace L2
open PySem PySem.Spec PyProof.Rows
def j4 : List Expr -> Option (List Int)
 | [] => some []
 | .Constant (.int i) _ _ :: r => (j4 r).map (i :: ·)
 | _ => none
theorem jp {X : Cx} : qo X (.type "int") (fun xs H Q => ∃ k, xs = [.bl k] /\ Q (.int (if k then 1 else 0)) H) := by
 intro pins s σ H xs us Q I r h
 exact wX pins s σ H xs us Q I r (.inr h)
theorem Bx.mono {H : Hp} {b : Addr} {N M : Nat} (h : Bx H b N) (le : N <= M) : Bx H b M := let ⟨x, y, z, h1, h2, h3, h4, h5, h6⟩ := h; ⟨x, y, z, h1, h2, h3, h4, h5, by omega⟩
theorem Bx.new {H : Hp} {b p : Addr} {N : Nat} {o : HO} (h : Bx H b N) (hp : H p = none) : Bx (upd H p o) b N := let ⟨x, y, z, h1, r⟩ := h; ⟨x, y, z, (zh (zi h1 hp)).trans h1, r⟩
theorem Bx.kp {H H' : Hp} {b : Addr} {N : Nat} (h : Bx H b N) (k : Kp [] H H') : Bx H' b N := let ⟨x, y, z, h1, r⟩ := h; ⟨x, y, z, k _ _ (by simp) h1, r⟩
theorem Bx.kps {H H' : Hp} {b p : Addr} {N : Nat} (h : Bx H b N) (k : Kp [p] H H') (hne : b ≠ p) : Bx H' b N := let ⟨x, y, z, h1, r⟩ := h; ⟨x, y, z, k _ _ (by simpa using hne) h1, r⟩
end L2
set_option Elab.async false
set_option linter.all false
set_option maxRecDepth 100000
set_option maxHeartbeats 4000000
namespace L2
open PySem PySem.Spec PyProof.Rows
theorem Kp.drop1 {bs : List Addr} {H H' : Hp} {p : Addr} {o : HO} (hp : H p = none) (k : Kp (p :: bs) (upd H p o) H') : Kp bs H H' := fun c u n h => by
 have hne : c ≠ p := zi h hp
 refine k c u ?_ ((zh hne).trans h)
 intro hm
 rcases List.mem_cons.mp hm with e | e
 ·exact hne e
 ·exact n e
theorem Bx.ne {H : Hp} {b p : Addr} {N : Nat} (h : Bx H b N) (hp : H p = none) : b ≠ p := let ⟨_, _, _, h1, _⟩ := h; zi h1 hp
def Jt : V -> V -> V -> Hp -> (Hp -> Prop) -> Prop := fun o i v H Q => ∃ k, i = .int k /\ ∃ p, o = .ref p /\ ∃ xs, H p = some (.lst xs) /\ ∃ j, ixN xs.length k = some j /\ Q (upd H p (.lst (xs.set j v)))
section
variable {X : Cx}
theorem qw : MtR X "list.append" kf := j8
theorem qC {es : List Expr} {k : Nat} {t : TGs} {pos : Pos} {K : PySem.W.Frag} (n : Nat) (h : X.K = K) (hc : X.calm = true) (hs : PGs X es t) (hn : (assignEach es X.env).length = n := by rfl) (hst : (assignEach es X.env).findIdx? (·.1) = none := by rfl) : PG X (.Tuple es k pos) (Kw K n t) := h ▸ Xm hc hs hn hst
theorem zO : YI X Jt := by
 intro pins s σ H o i v ov iv u Q I ro ri rv h
 obtain ⟨k, e1, p, e2, xs, h1, j, h2, q⟩ := h
 exact Qc pins s σ H o i v ov iv u Q I ro ri rv ⟨p, xs, k, j, e2, e1, h1, h2, q⟩
theorem yC {K : PySem.W.Frag} (h : X.K = K) : IxR X (XW K) := h ▸ zw
end
end L2
set_option Elab.async false
set_option linter.all false
set_option maxRecDepth 100000
set_option maxHeartbeats 4000000
namespace L2
open PySem PySem.Spec PyProof.Rows
end L2
set_option Elab.async false
set_option linter.all false
set_option maxRecDepth 100000
set_option maxHeartbeats 4000000
namespace L2
open PySem PySem.Spec PyProof.Rows
section
variable {X : Cx}
def wl (K : PySem.W.Frag) : R2 := fun x y H Q => ∃ p xs i v, x = .ref p /\ y = .int i /\ (SqL K H p xs \/ SqT K H p xs) /\ atI xs i = some v /\ Q v H
theorem xr : IxR X (wl X.K) := by
 intro value slice pins s σ H x y v u Q I rx ry h hs
 obtain ⟨p, xs, i, z, e1, e2, hq | hq, he, q⟩ := h
 ·exact zw value slice pins s σ H x y v u Q I rx ry ⟨p, xs, i, z, e1, e2, hq, he, q⟩ hs
 ·exact zX value slice pins s σ H x y v u Q I rx ry ⟨p, xs, i, z, e1, e2, hq, he, q⟩ hs
theorem vk {K : PySem.W.Frag} (h : X.K = K) : IxR X (wl K) := h ▸ xr
theorem Yi : bootBuiltins "all" = some (.builtin "all") := by decide +kernel
theorem kr : ∀ {bs : List Bool} {us : List Value}, zp (bs.map V.bl) us -> us = bs.map Value.bool
 | [], _, h => by cases h; rfl
 | b :: bs, _, h => by
  cases h with
  | cons r rs => cases r; rw [kr rs]; rfl
theorem vT (bs : List Bool) : ((List.range bs.length).all fun i => (bs[i]?).getD true) = bs.all id := by
 rw [Bool.eq_iff_iff, List.all_eq_true, List.all_eq_true]
 constructor
 ·intro h x hx
  obtain ⟨i, hi, rfl⟩ := List.getElem_of_mem hx
  have := h i (by simpa using hi)
  simpa [List.getElem?_eq_getElem hi] using this
 ·intro h i hi
  have hi' : i < bs.length := by simpa using hi
  simpa [List.getElem?_eq_getElem hi'] using h bs[i] (List.getElem_mem hi')
theorem Zy (hc : X.calm = true) : qo X (.builtin "all") (fun xs H Q => ∃ p bs, xs = [.ref p] /\ SqL X.K H p (List.map V.bl bs) /\ Q (.bl (bs.all id)) H) := by
  intro pins s σ H xs us Q I r h
  obtain ⟨p, bs, rfl, hq, q⟩ := h
  obtain ⟨u, rfl, rx⟩ := jB r
  cases rx
  obtain ⟨its, rv, pl, hz⟩ := I.list hq
  have hu := kr rv
  subst hu
  have hlt : p < s.heap.objs.size := by obtain ⟨_, e, _⟩ := pl.isList; exact Heap.lt_size e
  refine call_all_walk (wpAny_pyIter_list pl.isList ?_)
  refine ⟨s.heap.objs.size, [s.heap.objs.size, p], [s.heap.objs.size], (bs.map Value.bool).toArray.size, _, _, fun i => (bs[i]?).getD true, rfl, Walks.list (A := X.A.in1) (I.ok.hd hc) _ p (Nat.ne_of_lt hlt) (bs.map Value.bool).toArray,
    ⟨⟨_, Heap.get?_push_size _ rfl, rfl, rfl⟩, pl.isList.push _⟩, fun i v s' Q' E' hP hQ => ?_, fun h' tk hk => ?_⟩
  · have hP' : (bs.map Value.bool)[i]? = some v := by simpa using hP
    rw [List.getElem?_map] at hP'
    cases e : bs[i]? with
    | none => rw [e] at hP'; cases hP'
    | some b =>
      rw [e] at hP'
      cases hP'
      simp only [e, Option.getD_some] at hQ
      exact wpAny_truthy_bool hQ
  · have e : ((List.range (bs.map Value.bool).toArray.size).all fun i => (bs[i]?).getD true) = bs.all id := by
      rw [List.size_toArray, List.length_map]; exact vT bs
    rw [e]
    refine ⟨.bl (bs.all id), H, I.turnedL (ch := []) (tk := tk) (fun b hb => nomatch hb) (fun b o _ eb => ?_), rfl, q⟩
    exact hk b o (fun hm => by rw [List.mem_singleton.mp hm] at eb; exact Nat.lt_irrefl _ (Heap.lt_size eb)) (Heap.get?_push_of_some _ eb)
end
end L2
set_option Elab.async false
set_option linter.all false
set_option maxRecDepth 100000
set_option maxHeartbeats 4000000
namespace L2
open PySem PySem.Spec PyProof.Rows
end L2
set_option Elab.async false
set_option linter.all false
set_option maxRecDepth 100000
set_option maxHeartbeats 4000000
namespace L2
open PySem PySem.Spec PyProof.Rows
end L2
set_option Elab.async false
set_option linter.all false
set_option maxRecDepth 100000
set_option maxHeartbeats 4000000
namespace L2
open PySem PySem.Spec PyProof.Rows
section
variable {P : Program} {w : World} {A : Around} {E : Value -> Shared -> Prop} {s : Shared} {j t : Addr} {i : Nat} {its : Array Value} {Q : Value -> Shared -> Prop}
theorem jL {x : Value} (hj : s.heap.IsTupleIter j t i) (ht : s.heap.IsTuple t its) (hx : its[i]? = some x) (hQ : ∀ h', h'.IsTupleIter j t (i + 1) -> Heap.SameBut j s.heap h' -> Q x { s with heap := h' }) : wpAny (model P w) A (Builtin.SmallTypes.nextOf (.ref j)) Q E s := by
 obtain ⟨o, ho, hc, hd⟩ := id hj
 obtain ⟨ot, hot, _, nt, hdt⟩ := ht
 unfold Builtin.SmallTypes.nextOf
 refine wpAny_bind (wpAny_callSpecial?_slot (name := Str.ofString "__next__") hj.typeIs F.slot_tuple_iterator_next (wpAny_call_entry F.slot_tuple_iterator_next hj.typeIs F.entry_tuple_iterator_next ?_ (F.args_tuple_iterator_next_1 _)))
 refine wpAny_bind (m := field (.ref j) 0) (wpAny_field ho hd (x := .ref t) rfl ?_); show wpAny _ _ (if (Value.ref t == Value.none) = true then _ else _) _ _ s; rw [if_neg (show ¬ ((Value.ref t == Value.none) = true) from Bool.false_ne_true)]
 refine wpAny_bind (m := field (.ref j) 1) (wpAny_field ho hd (x := .int i 0) rfl ?_); refine wpAny_bind (m := seqItems? (.ref t)) (wpAny_seqItems hot hdt ?_); simp only [Int.toNat_natCast, hx]
 refine wpAny_bind (wpAny_setField ho hd (by simp) (wpAny_pure ⟨x, rfl, wpAny_pure (hQ _ ⟨_, Heap.get?_update_self _ ho (Obj.isFreed_of_fields (Obj.data_mapFields hd _)), (Obj.cls_mapFields ..).trans hc, by rw [Obj.data_mapFields hd]; simp [rawInt]⟩ (Heap.SameBut.update ..))⟩))
theorem y9 (hh : A.handled = none) (hj : s.heap.IsTupleIter j t i) (ht : s.heap.IsTuple t its) (hx : its[i]? = none) (hE : ∀ h' e, Heap.ExtBut j s.heap h' -> (∃ o, h'.get? e = some o /\ o.cls = .type "StopIteration") -> E (.ref e) { s with heap := h' }) : wpAny (model P w) A (Builtin.SmallTypes.nextOf (.ref j)) Q E s := by
 obtain ⟨o, ho, hc, hd⟩ := id hj
 obtain ⟨ot, hot, _, nt, hdt⟩ := ht
 unfold Builtin.SmallTypes.nextOf
 refine wpAny_bind (wpAny_callSpecial?_slot (name := Str.ofString "__next__") hj.typeIs F.slot_tuple_iterator_next (wpAny_call_entry F.slot_tuple_iterator_next hj.typeIs F.entry_tuple_iterator_next ?_ (F.args_tuple_iterator_next_1 _)))
 refine wpAny_bind (m := field (.ref j) 0) (wpAny_field ho hd (x := .ref t) rfl ?_); show wpAny _ _ (if (Value.ref t == Value.none) = true then _ else _) _ _ s; rw [if_neg (show ¬ ((Value.ref t == Value.none) = true) from Bool.false_ne_true)]
 refine wpAny_bind (m := field (.ref j) 1) (wpAny_field ho hd (x := .int i 0) rfl ?_); refine wpAny_bind (m := seqItems? (.ref t)) (wpAny_seqItems hot hdt ?_); simp only [Int.toNat_natCast, hx]
 refine wpAny_bind (wpAny_rule (wpAny_bind (wpAny_setField ho hd (by simp) ?_))); refine wpAny_bind (m := newExc (.type "StopIteration") []) ?_; simp only [newExc, newTuple]; refine wpAny_bind (wpAny_newObj_type ?_ (by size_fits)); refine wpAny_bind (m := firstArgMember _ _) (wpAny_of_eq (a := Value.none) (by first | rfl | (simp only [firstArgMember]; rfl)) ?_); refine wpAny_newObj_type ?_ (by size_fits); simp only [raiseNew]; refine wpAny_bind (wpAny_handled ?_)
 (first | rw [show A.in1.handled = none from hh] | rw [hh]); refine wpAny_bind (wpAny_pure (wpAny_throw ?_)); exact hE _ _ (((Heap.SameBut.update ..).extBut.push _).push _) ⟨_, Heap.get?_push_size _ rfl, rfl⟩
end
open AutoSeq1 (wpAny_loadPart') in
section
variable {X : Cx} {es : List Expr} {kt : Nat} {tp : Pos}
end
end L2
set_option Elab.async false
set_option linter.all false
set_option maxRecDepth 100000
set_option maxHeartbeats 4000000
namespace L2
open PySem PySem.Spec PyProof.Rows
end L2
set_option Elab.async false
set_option linter.all false
set_option maxRecDepth 100000
set_option maxHeartbeats 4000000
namespace L2
open PySem PySem.Spec PyProof.Rows
end L2
set_option Elab.async false
set_option linter.all false
set_option maxRecDepth 100000
set_option maxHeartbeats 4000000
namespace L2
open PySem PySem.Spec PyProof.Rows
end L2
set_option Elab.async false
set_option linter.all false
set_option maxRecDepth 100000
set_option maxHeartbeats 4000000
namespace L2
open PySem PySem.Spec PyProof.Rows
def iLT (K : PySem.W.Frag) (tl : TE) : TI := fun σ H R => tl σ H fun x H1 => ∃ a, x = .ref a /\ (((∃ xs, SqL K H1 a xs) /\ R (Itl K a) H1) \/ ((∃ xs, SqT K H1 a xs) /\ R (Itt K a) H1))
theorem jA {X : Cx} {tg : Expr} {l : Expr} {tl : TE} (hl : PE X l tl) : PI X tg l (iLT X.K tl) := by
 intro pins s σ H R I h
 refine thn (hl pins s σ H _ I h) fun v s1 ⟨x, H1, I1, r1, q1⟩ => ?_
 obtain ⟨a, e, q⟩ := q1
 subst e
 cases r1
 have fo : ∀ b ∈ [s1.heap.objs.size], jy X pins H1 b := fun b hb => by
  have e : b = s1.heap.objs.size := by simpa using hb
  subst e
  exact I1.fpOk (Nat.le_refl _) (I1.hok.fresh (Nat.le_refl _))
 rcases q with ⟨⟨xs, hq⟩, q⟩ | ⟨⟨xs, hq⟩, q⟩
 ·obtain ⟨its, rv, p, hz⟩ := I1.list hq
  refine wpAny_pyIter_list p.isList ?_
  exact ⟨s1.heap.objs.size, [s1.heap.objs.size], _, _, H1, rfl, I1.kept (t' := s1.toks) fun b o e => Heap.get?_push_of_some _ e, Zo a _, ⟨_, Heap.get?_push_size _ rfl, rfl, rfl⟩, fo, q⟩
 ·obtain ⟨its, rv, p, hz⟩ := I1.tuple hq
  refine wpAny_pyIter_tuple (show s1.heap.IsTuple a its.toArray from p) ?_
  exact ⟨s1.heap.objs.size, [s1.heap.objs.size], _, _, H1, rfl, I1.kept (t' := s1.toks) fun b o e => Heap.get?_push_of_some _ e, vy a _, ⟨_, Heap.get?_push_size _ rfl, rfl, rfl⟩, fo, q⟩
end L2
set_option Elab.async false
set_option linter.all false
set_option maxRecDepth 100000
set_option maxHeartbeats 4000000
namespace L2
open PySem PySem.Spec PyProof.Rows
end L2
set_option Elab.async false
set_option linter.all false
set_option maxRecDepth 100000
set_option maxHeartbeats 4000000
namespace L2
open PySem PySem.Spec PyProof.Rows
section
variable {X : Cx}
end
end L2
set_option Elab.async false
set_option linter.all false
set_option maxRecDepth 100000
set_option maxHeartbeats 4000000
namespace L2
open PySem PySem.Spec PyProof.Rows
def tfs (ps : List (Addr × List V)) : List V := ps.map fun r => V.ref r.1
section
variable {X : Cx}
end
end L2
set_option Elab.async false
set_option linter.all false
set_option maxRecDepth 100000
set_option maxHeartbeats 4000000
namespace L2
open PySem PySem.Spec PyProof.Rows
theorem Q8 {X : Cx} : MtR X "list.clear" yp := Qv
end L2
set_option Elab.async false
set_option linter.all false
set_option maxRecDepth 100000
set_option maxHeartbeats 4000000
namespace L2
open PySem PySem.Spec PyProof.Rows
def jc (prog : Program) (w : World) (A : Around) (elt : Expr) (gens : List Comprehension) (scope : Scope) (pos : Pos) (d : Nat) (acc : Value) (env : Env) (Q : Shared -> Prop) (s : Shared) : Prop :=
  match gens[d + 1]? with
  | some g' => wpAny (model prog w) A (eval g'.iter env) (fun x s1 => wpAny (model prog w) A (foldedSetIterable g'.iter env x) (fun x s2 => wpAny (model prog w) A (pyIter x) (fun it s3 =>
      wpAny (model prog w) A (runOwn (Code.compStart (.ListComp elt gens scope pos) (d + 1) it acc env) env) (fun _ s4 => Q s4) (fun _ _ => False) s3) (fun _ _ => False) s2) (fun _ _ => False) s1) (fun _ _ => False) s
  | none => wpAny (model prog w) A (eval elt env) (fun v s1 => wpAny (model prog w) A (call (.builtin "list.append") [acc, v]) (fun _ s2 => Q s2) (fun _ _ => False) s1) (fun _ _ => False) s
section
variable {prog : Program} {w : World} {A : Around} {R : Result -> Shared -> Prop} {s : Shared}
theorem yM {elt : Expr} {gens : List Comprehension} {d : Nat} {scope : Scope} {pos : Pos} {acc : Value} {env : Env} {Q Q' : Shared -> Prop} (h : jc prog w A elt gens scope pos d acc env Q s) (hq : ∀ s, Q s -> Q' s) : jc prog w A elt gens scope pos d acc env Q' s := by
 unfold jc at h ⊢
 cases e : gens[d + 1]? with
 | none =>
  simp only [e] at h ⊢
  exact wpAny_mono h (fun x s₄ h₄ => wpAny_mono h₄ (fun _ s₅ h₅ => hq _ h₅) fun _ _ h' => h') fun _ _ h' => h'
 | some g' =>
  simp only [e] at h ⊢
  exact wpAny_mono h (fun x s₄ h₄ => wpAny_mono h₄ (fun x s₅ h₅ => wpAny_mono h₅ (fun it s₆ h₆ => wpAny_mono h₆ (fun _ s₇ h₇ => hq _ h₇) fun _ _ h' => h') fun _ _ h' => h') fun _ _ h' => h') fun _ _ h' => h'
theorem ja {elt target iter : Expr} {ifs : List Expr} {gens : List Comprehension} {d : Nat} {scope : Scope} {pos : Pos} {it acc : Value} {env : Env} (hg : gens[d]? = some ⟨target, iter, ifs, 0⟩) (hn : ∀ g', gens[d + 1]? = some g' -> g'.is_async = 0) (I : Nat -> Shared -> Prop)
    (turn : ∀ n s, I n s -> wpAny (model prog w) A (pyNext it) (fun r s₁ => match r with
      | none => R (.ok .next) s₁
      | some v => wpAny (model prog w) A (letOwnedTupleGo target it v) (fun _ s₀ => wpAny (model prog w) A (assign target env v) (fun _ s₂ =>
          wpAny (model prog w) A (forIn ifs true fun c r => if r = true then do let ok <- isTrue c env (eval c env); pure (ForInStep.yield ok) else pure (ForInStep.yield r)) (fun ok s₃ =>
            if ok = true then jc prog w A elt gens scope pos d acc env (fun s₅ => ∃ m, m < n /\ I m s₅) s₃
            else ∃ m, m < n /\ I m s₃) (fun _ _ => False) s₂) (fun _ _ => False) s₀) (fun _ _ => False) s₁) (fun _ _ => False) s)
    (n : Nat) (h : I n s) :
    codeAny (model prog w) A (.compLoop (.ListComp elt gens scope pos) d it acc env) R s := by
  refine codeAny_loop rfl I (fun n s hI => ?_) n h
  show wpAny _ A ((compTurn (.ListComp elt gens scope pos) d it acc env).onRaise (fun x => do noteFrame x env; theTreesLotGoes x)) _ _ s
  refine wpAny_noted ?_
  unfold compTurn
  simp only [hg]
  refine wpAny_bind (wpAny_standAt ?_)
  rw [if_neg (by decide)]
  refine wpAny_bind (wpAny_mono (turn n s hI) (fun r s₁ h₁ => ?_) fun _ _ h' => h'.elim)
  cases r with
  | none => exact wpAny_pure h₁
  | some v =>
    refine wpAny_bind (wpAny_mono h₁ (fun _ s₀ h₀ => ?_) fun _ _ h' => h'.elim)
    refine wpAny_bind (wpAny_mono h₀ (fun _ s₂ h₂ => wpAny_bind (wpAny_mono h₂ (fun ok s₃ h₃ => ?_) fun _ _ h' => h'.elim)) fun _ _ h' => h'.elim)
    cases ok with
    | false => exact wpAny_pure ⟨rfl, h₃⟩
    | true =>
      rw [if_pos rfl] at h₃ ⊢
      unfold jc at h₃
      cases e : gens[d + 1]? with
      | none =>
        simp only [e] at h₃ ⊢
        exact wpAny_bind (wpAny_bind (wpAny_mono h₃ (fun x s₄ h₄ => wpAny_bind (wpAny_mono h₄ (fun _ s₅ h₅ => wpAny_pure (wpAny_pure ⟨rfl, h₅⟩)) fun _ _ h' => h'.elim)) fun _ _ h' => h'.elim))
      | some g' =>
        simp only [e] at h₃ ⊢
        have ha := hn g' e
        refine wpAny_bind (wpAny_mono h₃ (fun x s₄ h₄ => ?_) fun _ _ h' => h'.elim)
        refine wpAny_bind (wpAny_standAt ?_)
        rw [if_neg (by rw [ha]; decide)]
        refine wpAny_bind (wpAny_mono h₄ (fun x s₅ h₅ => ?_) fun _ _ h' => h'.elim)
        refine wpAny_bind (wpAny_holding ?_)
        rw [if_neg (by rw [ha]; decide)]
        refine wpAny_mono h₅ (fun it s₆ h₆ => ?_) fun _ _ h' => h'.elim
        exact wpAny_bind (wpAny_mono h₆ (fun _ s₇ h₇ => wpAny_pure ⟨rfl, h₇⟩) fun _ _ h' => h'.elim)
theorem qY {elt target iter : Expr} {ifs : List Expr} {gens : List Comprehension} {d : Nat} {scope : Scope} {pos : Pos} {it acc : Value} {env : Env} (hg : gens[d]? = some ⟨target, iter, ifs, 0⟩)
  (h1 : codeAny (model prog w) A (.compLoop (.ListComp elt gens scope pos) d it acc env) R s)
  (h2 : wpAny (model prog w) A (pyIter it) (fun it' s' => codeAny (model prog w) A (.compLoop (.ListComp elt gens scope pos) d it' acc env) R s') (fun _ _ => False) s) :
  codeAny (model prog w) A (.compStart (.ListComp elt gens scope pos) d it acc env) R s := by
 refine codeAny_loop' rfl (fun _ s' => s' = s) (fun n s' hI => ?_) 0 rfl
 subst hI
 show wpAny _ A ((compStart (.ListComp elt gens scope pos) d it acc env).onRaise (fun x => do noteFrame x env; standAt theWindowsPlace)) _ _ _
 refine wpAny_onRaise ?_
 unfold compStart
 have hc : (clausesOf (.ListComp elt gens scope pos))[d]? = some ⟨target, iter, ifs, 0⟩ := hg
 simp only [hc]
 rw [if_neg (by show ¬ ((0 : Nat) != 0) = true; decide)]
 refine wpAny_bind (wpAny_askSetting ?_)
 split
 ·exact wpAny_pure (.inr ⟨rfl, h1⟩)
 ·refine wpAny_bind (wpAny_rule ?_)
  refine wpAny_bind (wpAny_standAt ?_)
  exact wpAny_bind (wpAny_mono h2 (fun it' s' h' => wpAny_pure (.inr ⟨rfl, h'⟩)) fun _ _ h' => h'.elim)
end
def CL (J : It) (g : TG) (tt : TT) (tr : St -> Hp -> (St -> Hp -> Prop) -> Prop) (N : St -> Hp -> Prop) (σ : St) (H : Hp) : Prop := ∃ W : Nat -> Nat -> St -> Hp -> Prop, (∃ m, W 0 m σ H) /\ ∀ i m τ H2, W i m τ H2 ->
 (J.stop i H2 /\ N τ H2) \/ (J.go i H2 /\ ∃ N1 : St -> Hp -> Prop, (∀ τ' H', N1 τ' H' -> ∃ m', m' < m /\ W (i + 1) m' τ' H') /\ ∀ x H', J.yld i H2 x H' -> g x τ H' fun τ2 H3 => tt τ2 H3 fun b H4 =>
  if b = true then tr τ2 H4 N1 else N1 τ2 H4)
abbrev TR := St -> Hp -> (St -> Hp -> Prop) -> Prop
def kz (te : TE) (D : Addr) : TR := fun σ H N => te σ H fun v H5 => ∃ ys, H5 D = some (.lst ys) /\ ys.length < sizeLine /\ N σ (upd H5 D (.lst (ys ++ [v])))
def yn (wi : TI) (g : TG) (tt : TT) (tr : Addr -> TR) (D : Addr) : TR := fun σ H N => wi σ H fun J H1 => CL J g tt (tr D) N σ H1
def PR (C : Cx) (elt : Expr) (gens : List Comprehension) (scope : Scope) (pos : Pos) (d : Nat) (D : Addr) (tr : TR) : Prop :=
 ∀ (pins : List (Addr × Obj)) (s : Shared) (σ : St) (H : Hp) (N : St -> Hp -> Prop), Inv C pins σ H s -> tr σ H N -> jc C.prog C.w C.A elt gens scope pos d (.ref D) C.env (fun s' => ∃ σ' H', Inv C pins σ' H' s' /\ N σ' H') s
section
variable {C : Cx} {elt tg iter : Expr} {ifs : List Expr} {gens : List Comprehension} {scope : Scope} {pos : Pos} {d : Nat} {D : Addr} {g : TG} {tt : TT} {te : TE} {tr : TR}
theorem wK (hc : C.calm = true) (hgd : gens[d]? = some ⟨tg, iter, ifs, 0⟩) (hn : ∀ g', gens[d + 1]? = some g' -> g'.is_async = 0) (hg : PG C tg g) (ht : PIf C ifs tt) (hr : PR C elt gens scope pos d D tr) (hxe : ∀ e s, ¬ C.xe e s)
  {it : Addr} {fp : List Addr} {tn : Nat -> Heap -> Prop} {J : It} (T : yE C.prog C.w C.K tg J fp it tn) {pins : List (Addr × Obj)} {s : Shared} {σ : St} {H : Hp} (I : Inv C pins σ H s) (st : tn 0 s.heap) (hf : ∀ b ∈ fp, jy C pins H b) {N : St -> Hp -> Prop} (h : CL J g tt tr N σ H)
  {R : Result -> Shared -> Prop} (fin : ∀ s' σ' H', Inv C pins σ' H' s' -> N σ' H' -> R (.ok .next) s') :
  codeAny (model C.prog C.w) C.A (.compLoop (.ListComp elt gens scope pos) d (.ref it) (.ref D) C.env) R s := by
 obtain ⟨W, ⟨m0, w0⟩, turn⟩ := h
 have no : ∀ {α : Type} {m : Sem α} {Q : α -> Shared -> Prop} {s : Shared}, wpAny (model C.prog C.w) C.A m Q C.xe s -> wpAny (model C.prog C.w) C.A m Q (fun _ _ => False) s := fun h => wpAny_mono h (fun _ _ q => q) fun e s q => hxe e s q
 have stat : ∀ {H' : Hp}, (∀ b ∈ fp, H' b = none) -> ∀ b ∈ fp, jy C pins H' b := fun hn b hb => ⟨hn b hb, (hf b hb).2⟩
 refine ja hgd hn (fun n s' => ∃ i τ H', Inv C pins τ H' s' /\ tn i s'.heap /\ (∀ b ∈ fp, H' b = none) /\ W i n τ H') ?_ m0 ⟨0, σ, H, I, st, fun b hb => (hf b hb).1, w0⟩
 rintro n s5 ⟨i, τ, H5, I5, st5, fr5, w5⟩
 rcases turn i n τ H5 w5 with ⟨stop, qn⟩ | ⟨go, N1, hN, step⟩
 ·refine thn (T.done C rfl rfl rfl hc i pins s5 τ H5 _ I5 (stat fr5) st5 stop) fun r s6 ⟨hr, I6⟩ => ?_
  subst hr
  exact fin s6 τ H5 I6 qn
 ·refine thn (T.item C rfl rfl rfl hc i pins s5 τ H5 _ I5 (stat fr5) st5 go) fun r s6 ⟨u, hr', h6⟩ => ?_
  subst hr'
  refine thn h6 fun _ s7 ⟨x, H7, I7, r7, y7, st7, fr7⟩ => ?_
  have I7' := I7.pinned (stat fr7) (T.obj _ _ st7)
  refine thn (no (hg _ s7 τ H7 x u _ I7' r7 (step x H7 y7))) fun _ s8 ⟨τ8, H8, I8, q8⟩ => ?_
  refine thn (no (ht _ s8 τ8 H8 _ I8 q8)) fun b s9 ⟨H9, I9, q9⟩ => ?_
  have again : ∀ {τ9 : St} {H9 : Hp} {s9 : Shared}, Inv C (pins ++ jU fp s7.heap) τ9 H9 s9 -> N1 τ9 H9 ->
    ∃ m, m < n /\ ∃ i τ H', Inv C pins τ H' s9 /\ tn i s9.heap /\ (∀ b ∈ fp, H' b = none) /\ W i m τ H' := fun {τ9 H9 s9} I9 n9 => by
   obtain ⟨m', hm, w9⟩ := hN _ _ n9
   refine ⟨m', hm, i + 1, τ9, H9, I9.unpinned, T.keep _ _ _ st7 fun b hb o e => (I9.pin (b, o) (List.mem_append_right _ (List.mem_append_right _ (qh hb e)))).1, fun b hb => ?_, w9⟩
   obtain ⟨o, e, d⟩ := T.obj _ _ st7 b hb
   exact (I9.pin (b, o) (List.mem_append_right _ (List.mem_append_right _ (qh hb e)))).2.1
  cases b with
  | false =>
   rw [if_neg Bool.false_ne_true] at q9 ⊢
   exact again I9 q9
  | true =>
   rw [if_pos rfl] at q9 ⊢
   exact yM (hr _ s9 τ8 H9 _ I9 q9) fun s11 ⟨τ9, H11, I11, n11⟩ => again I11 n11
theorem KF (hg2 : gens[d + 1]? = none) (he : PE C elt te) (hxe : ∀ e s, ¬ C.xe e s) : PR C elt gens scope pos d D (kz te D) := by
 intro pins s σ H N I h
 have no : ∀ {α : Type} {m : Sem α} {Q : α -> Shared -> Prop} {s : Shared}, wpAny (model C.prog C.w) C.A m Q C.xe s -> wpAny (model C.prog C.w) C.A m Q (fun _ _ => False) s := fun h => wpAny_mono h (fun _ _ q => q) fun e s q => hxe e s q
 unfold jc
 simp only [hg2]
 refine thn (no (he pins s σ H _ I h)) fun y s10 ⟨v, H10, I10, r10, ys, hys, hlen, n10⟩ => ?_
 exact thn (no (j8 (X := C) _ s10 σ H10 (.ref D) [v] (.ref D) [y] (fun _ H11 => N σ H11) I10 rfl (.cons r10 .nil) ⟨_, ys, v, rfl, rfl, hys, hlen, n10⟩)) fun _ s11 ⟨_, H11, I11, _, n11⟩ => ⟨σ, H11, I11, n11⟩
theorem Kk {tr : Addr -> TR} {wi : TI} (hc : C.calm = true) (hgd : gens[d + 1]? = some ⟨tg, iter, ifs, 0⟩) (hn : ∀ g', gens[d + 2]? = some g' -> g'.is_async = 0) (hi : PI C tg iter wi) (hs : ∀ x, foldedSetIterable iter C.env x = pure x) (hg : PG C tg g) (ht : PIf C ifs tt)
  (hr : PR C elt gens scope pos (d + 1) D (tr D)) (hxe : ∀ e s, ¬ C.xe e s) : PR C elt gens scope pos d D (yn wi g tt tr D) := by
 intro pins s σ H N I h
 have no : ∀ {α : Type} {m : Sem α} {Q : α -> Shared -> Prop} {s : Shared}, wpAny (model C.prog C.w) C.A m Q C.xe s -> wpAny (model C.prog C.w) C.A m Q (fun _ _ => False) s := fun h => wpAny_mono h (fun _ _ q => q) fun e s q => hxe e s q
 unfold jc
 simp only [hgd]
 refine thn (no (hi pins s σ H _ I h)) fun v s1 h1 => ?_
 rw [hs v]
 refine wpAny_pure (thn (no h1) fun itv s2 h2 => ?_)
 obtain ⟨it, fp, tn, J, H2, e, I2, T, st2, f2, q2⟩ := h2
 subst e
 refine wpAny_runOwn ?_
 show codeAny _ C.A _ _ _
 have loop := wK (R := fun r s' => match r with | .ok f => (∃ σ' H', Inv C pins σ' H' s' /\ N σ' H') | .error e => cameBackBy (model C.prog C.w) C.A C.env (fun _ _ => False) e s') hc hgd hn hg ht hr hxe T I2 st2 f2 q2 fun s' σ' H' I' n' => ⟨σ', H', I', n'⟩
 exact qY hgd loop (T.self _ 0 _ _ _ st2 loop)
end
def xk (ts : List Nat) (wi : TI) (g : TG) (tt : TT) (tr : Addr -> TR) : TE := fun σ H Q => wi σ H fun J H1 => ∀ D, H1 D = none -> CL J g tt (tr D) (fun _ H2 => Q (.ref D) H2) (clr ts σ) (upd H1 D (.lst []))
section
variable {X : Cx} {ts : List Nat} {scope : Scope} {tg iter elt : Expr} {ifs : List Expr} {qf : List Comprehension} {wi : TI} {g : TG} {tt : TT} {tr : Addr -> TR} {pos : Pos}
theorem Zh (hc : X.calm = true) (hsc : vo X.N ts scope X.env.kindOf = true) (hi : PI X tg iter wi) (hn : ∀ g', qf[0]? = some g' -> g'.is_async = 0) (hg : ∀ cl s H fp, PG (cxC X scope cl s H fp) tg g) (ht : ∀ cl s H fp, PIf (cxC X scope cl s H fp) ifs tt)
  (hr : ∀ cl s H fp D, PR (cxC X scope cl s H fp) elt (⟨tg, iter, ifs, 0⟩ :: qf) scope pos 0 D (tr D))
  {pins : List (Addr × Obj)} {s : Shared} {σ : St} {H : Hp} {Q : VK} (I : Inv X pins σ H s) (h : xk ts wi g tt tr σ H Q) {use : Option (Value -> Sem Unit)} {Q' : Value -> Shared -> Prop}
  (fin : ∀ (D C : Addr) (H' : Hp) (s' : Shared), Inv X pins σ H' s' -> (∃ m, s'.heap.Ns C m) -> H' C = none -> C ≠ X.env.locals -> (∀ x c, X.env.cells.lookup x = some c -> c ≠ C) -> X.s₀.heap.objs.size <= C -> (∀ p ∈ X.pn ++ pins, p.1 ≠ C) -> C ∉ X.fs -> Q (.ref D) H' ->
   compPost (model X.prog X.w) X.A X.xe use Q' (.ref D) C (.ok .next) s')
  (hs : ∀ x, foldedSetIterable iter X.env x = pure x) :
  wpAny (model X.prog X.w) X.A (comprehension (.ListComp elt (⟨tg, iter, ifs, 0⟩ :: qf) scope pos) scope X.env (firstIterPos (⟨tg, iter, ifs, 0⟩ :: qf) pos) (newList []) false (eval iter X.env) use) Q' X.xe s := by
 have S := Z1 hsc
 obtain ⟨cl, hcl, c1, c2⟩ := kH (scope := scope) (env := X.env) fun y hy e => I.ok.has y.1 (S.free y hy e)
 refine wpAny_comprehension_free (use := use) rfl hs hcl S.kind S.loc ?_
 refine wpAny_mono (hi pins s σ H _ I h) (fun v s1 h1 => wpAny_mono h1 (fun itv s2 h2 => ?_) fun _ _ e => e) fun _ _ e => e
 obtain ⟨it, fp, tn, J, H2, e, I2, T, st2, f2, q2⟩ := h2
 subst e
 have hD : H2 s2.heap.objs.size = none := I2.hok.fresh (Nat.le_refl _)
 have q3 := q2 _ hD
 refine wpAny_newObj_type (wpAny_newFunctionEnv S.cell (by intro y hy; simp at hy) (fun h₁ hns₁ hsb₁ => ?_) S.kind)
 dsimp only at hns₁ hsb₁ ⊢
 generalize hh3 : s2.heap.push { cls := .type "list", dict := none, data := .seq ([] : List Value).toArray } = g3 at hns₁ hsb₁ ⊢
 have I3 : Inv X pins σ (upd H2 s2.heap.objs.size (.lst [])) { s2 with heap := g3 } := by
  rw [<- hh3]
  exact I2.laid (t' := s2.toks) (fun b u e => Heap.get?_push_of_some _ e) (Nat.le_refl _) ⟨Nat.zero_le _, [], _, .nil, Heap.get?_push_size _ rfl⟩
 have st3 : tn 0 g3 := T.keep _ _ _ st2 fun b _ o e => by rw [<- hh3]; exact Heap.get?_push_of_some _ e
 have lt2 : ∀ b ∈ fp, b < s2.heap.objs.size := fun b hb => by obtain ⟨o, e, _⟩ := T.obj _ _ st2 b hb; exact Heap.lt_size e
 have hsz3 : g3.objs.size = s2.heap.objs.size + 1 := by rw [<- hh3, Heap.size_push]
 have f3 : ∀ b ∈ fp, jy X pins (upd H2 s2.heap.objs.size (.lst [])) b := fun b hb => ⟨by rw [zh (Nat.ne_of_lt (lt2 b hb))]; exact (f2 b hb).1, (f2 b hb).2⟩
 have lt3 : ∀ b ∈ fp, b < g3.objs.size := fun b hb => by rw [hsz3]; exact Nat.lt_succ_of_lt (lt2 b hb)
 have old : ∀ b o, g3.get? b = some o -> h₁.get? b = some o := fun b o e => hsb₁.extBut b o (Nat.ne_of_lt (Heap.lt_size e)) (Heap.get?_push_of_some _ e)
 have hns : h₁.Ns g3.objs.size (fun x => ([] : List (Str × Value)).reverse.lookup x) := hns₁
 have I4 : ∀ t, Inv (cxC X scope cl { s2 with heap := g3 } (upd H2 s2.heap.objs.size (.lst [])) fp) [] (clr ts σ) (upd H2 s2.heap.objs.size (.lst [])) { s2 with heap := h₁, toks := t } := fun t => kT I3 S f3 lt3 c1 c2 hns old
 have fpne : ∀ b ∈ fp, b ∉ frs X.stack := fun b hb z => by
  obtain ⟨_, f1, f2, _⟩ := f3 b hb
  rcases List.mem_cons.mp (I3.stkSub b z) with e | e
  ·exact f1 e
  ·exact f2 e
 have stat : ∀ {H' : Hp}, (∀ b ∈ fp, H' b = none) -> ∀ b ∈ fp, jy (cxC X scope cl { s2 with heap := g3 } (upd H2 s2.heap.objs.size (.lst [])) fp) [] H' b := fun hn b hb =>
  ⟨hn b hb, Nat.ne_of_lt (lt3 b hb), fpne b hb, .inl hb, fun x c e => (f2 b hb).2.2.2.2.1 x c (c1 x c e), fun p hp => absurd hp (by simp)⟩
 have loop : ∀ t, codeAny (model X.prog X.w) X.A (.compLoop (.ListComp elt (⟨tg, iter, ifs, 0⟩ :: qf) scope pos) 0 (.ref it) (.ref s2.heap.objs.size) (compEnvC scope cl g3.objs.size X.env))
   (compPost (model X.prog X.w) X.A X.xe use Q' (.ref s2.heap.objs.size) g3.objs.size) { s2 with heap := h₁, toks := t } := by
  intro t
  refine wK (C := cxC X scope cl { s2 with heap := g3 } (upd H2 s2.heap.objs.size (.lst [])) fp) hc rfl (fun g' e => hn g' (by simpa using e)) (hg _ _ _ _) (ht _ _ _ _) (hr _ _ _ _ _) (fun _ _ z => z) T (I4 t) (T.keep _ _ _ st3 fun b _ o e => old b o e) (stat fun b hb => (f3 b hb).1) q3 fun s6 σ6 H5 I6 qn => ?_
  have base : Un (frs X.stack) fp (upd H2 s2.heap.objs.size (.lst [])) H5 g3 s6.heap := I6.base
  have J6 : Inv X pins σ H5 s6 := I3.call' (ch := fp) I6.os base I6.hok I6.bare fun b hb => ⟨(f3 b hb).2.2.2.1, (f3 b hb).2.1, (f3 b hb).2.2.2.2.1, (f3 b hb).2.2.2.2.2⟩
  obtain ⟨m6, n6, _⟩ := I6.loc
  refine fin _ g3.objs.size H5 s6 J6 ⟨m6, n6⟩ I6.free (Nat.ne_of_gt I3.lt) (fun x c e z => ?_) I3.sz (fun p hp z => ?_) (I3.nofs (Nat.le_refl _)) qn
  ·obtain ⟨v, q⟩ := I3.cell x c e
   exact absurd q.lt (by rw [z]; exact Nat.lt_irrefl _)
  ·exact absurd (Heap.lt_size (I3.pin p hp).1) (by rw [z]; exact Nat.lt_irrefl _)
 have LW := loop (s2.toks + ([] : List (Str × Value)).length)
 exact codeAny_compStart_list LW (T.self _ 0 _ _ _ (T.keep _ _ _ st3 fun b _ o e => old b o e) LW)
theorem QX (hc : X.calm = true) (hsc : vo X.N ts scope X.env.kindOf = true) (hi : PI X tg iter wi) (hg : ∀ cl s H fp, PG (cxC X scope cl s H fp) tg g) (ht : ∀ cl s H fp, PIf (cxC X scope cl s H fp) ifs tt)
  (hr : ∀ cl s H fp D, PR (cxC X scope cl s H fp) elt (⟨tg, iter, ifs, 0⟩ :: qf) scope pos 0 D (tr D)) (hn : ∀ g', qf[0]? = some g' -> g'.is_async = 0 := by intro _ e; cases e; rfl)
  (hs : ∀ x, foldedSetIterable iter X.env x = pure x := by intro _; rfl) : PE X (.ListComp elt (⟨tg, iter, ifs, 0⟩ :: qf) scope pos) (xk ts wi g tt tr) := by
 intro pins s σ H Q I h
 rw [eval_ListComp]
 refine Zh hc hsc hi hn hg ht hr I h (use := none) (fun D C H' s' I' ⟨m, hn⟩ hC hL hce hsz hp hfs q => ⟨m, hn, fun h' hs' => ?_⟩) hs
 exact ⟨.ref D, H', I'.turned (t' := s'.toks) (it := C) (fun b o hb e => (hs'.2 b hb).trans e) hC hL (.inr hsz) hce hp, rfl, q⟩
end
theorem ZA {ts : List Nat} {wi : TI} {g : TG} {tt : TT} {tr : Addr -> TR} {σ : St} {H : Hp} {Q : VK} :
  xk ts wi g tt tr σ H Q = wi σ H (fun J H1 => ∀ D, H1 D = none -> CL J g tt (tr D) (fun _ H2 => Q (.ref D) H2) (clr ts σ) (upd H1 D (.lst []))) := rfl
theorem Zl {wi : TI} {g : TG} {tt : TT} {tr : Addr -> TR} {D : Addr} {σ : St} {H : Hp} {N : St -> Hp -> Prop} : yn wi g tt tr D σ H N = wi σ H (fun J H1 => CL J g tt (tr D) N σ H1) := rfl
theorem ZC {te : TE} {D : Addr} {σ : St} {H : Hp} {N : St -> Hp -> Prop} : kz te D σ H N = te σ H (fun v H5 => ∃ ys, H5 D = some (.lst ys) /\ ys.length < sizeLine /\ N σ (upd H5 D (.lst (ys ++ [v])))) := rfl
end L2
set_option Elab.async false
set_option linter.all false
set_option maxRecDepth 100000
set_option maxHeartbeats 4000000
namespace L2
open PySem PySem.Spec PyProof.Rows
section
variable {P : Program} {w : World} {A : Around} {E : Value -> Shared -> Prop} {it l : Addr} {items : Array Value}
end
section
variable {X : Cx} {pos : Pos}
end
end L2
set_option Elab.async false
set_option linter.all false
set_option maxRecDepth 100000
set_option maxHeartbeats 4000000
namespace L2
open PySem PySem.Spec PyProof.Rows
def rep (o : Nat) (G : List Int) : List Int := (List.range (o * G.length)).map fun (i : Nat) => ((i / G.length * G.length : Nat) : Int) + G.getD (i % G.length) 0
end L2
set_option Elab.async false
set_option linter.all false
set_option maxRecDepth 100000
set_option maxHeartbeats 4000000
namespace L2
open PySem PySem.Spec PyProof.Rows
section
variable {P : Program} {w : World} {A : Around} {E : Value -> Shared -> Prop} {s : Shared} {z TI TO i1 i2 l1 l2 : Addr} {k : Nat} {xs ys : Array Value} {x y a b : Value} {Q : Option Value -> Shared -> Prop}
theorem Zu (D : ZipApart z TI TO i1 i2 l1 l2) (hz : IsZip s.heap z TI TO .none) (hTI : IsPair s.heap TI (.ref i1) (.ref i2)) (hTO : IsPair s.heap TO a b) (h1 : s.heap.IsTupleIter i1 l1 k) (h2 : s.heap.IsTupleIter i2 l2 k) (p1 : s.heap.IsTuple l1 xs) (p2 : s.heap.IsTuple l2 ys) (hx : xs[k]? = some x) (hy : ys[k]? = some y)
  (hQ : ∀ h', IsZip h' z TI TO (rawInt s.heap.objs.size) -> IsPair h' TO x y -> h'.IsTupleIter i1 l1 (k + 1) -> h'.IsTupleIter i2 l2 (k + 1) -> IsPair h' s.heap.objs.size x y -> h'.objs.size = s.heap.objs.size + 1 -> (∀ c o, c ≠ z -> c ≠ TO -> c ≠ i1 -> c ≠ i2 -> s.heap.get? c = some o -> h'.get? c = some o) -> Q (some (.ref s.heap.objs.size)) { s with heap := h' }) :
  wpAny (model P w) A (pyNext (.ref z)) Q E s := by
 have hT : s.TypeIs (.ref z) "zip" := ⟨_, hz, rfl⟩
 unfold pyNext
 refine wpAny_bind (wpAny_attempt (wpAny_callSpecial?_slot (name := Str.ofString "__next__") hT F.slot_zip_next (wpAny_call_entry F.slot_zip_next hT F.entry_zip_next ?_ (F.args_zip_next_1 _))))
 refine wpAny_bind (m := field (.ref z) 2) (wpAny_field hz rfl (x := .bool false) rfl ?_)
 refine wpAny_bind (m := field (.ref z) 3) (wpAny_field hz rfl (x := .ref TI) rfl ?_)
 refine wpAny_bind (m := seqItems? (.ref TI)) (wpAny_seqItems hTI rfl ?_)
 refine wpAny_bind (m := Builtin.SmallTypes.ownedTupleIsFree (.ref z)) ?_
 unfold Builtin.SmallTypes.ownedTupleIsFree
 refine wpAny_bind (wpAny_field hz rfl (x := .none) rfl (wpAny_pure ?_))
 refine wpAny_bind (m := rule "zip.__next__.owned-tuple-again") (wpAny_rule ?_)
 refine wpAny_bind (m := field (.ref z) 4) (wpAny_field hz rfl (x := .ref TO) rfl ?_)
 refine wpAny_bind (m := setField (.ref z) 0 .ellipsis) (wpAny_setField hz rfl (by simp) ?_)
 have sb1 := Heap.SameBut.update s.heap z (Obj.mapFields fun x_1 => x_1.setIfInBounds 0 Value.ellipsis)
 have g1 : (s.heap.update z (Obj.mapFields fun x_1 => x_1.setIfInBounds 0 Value.ellipsis)).get? z = some { cls := Value.type "zip", data := Data.fields #[.ellipsis, Value.bool false, Value.bool false, Value.ref TI, Value.ref TO] } := Heap.get?_update_self _ hz (Obj.isFreed_of_fields (Obj.data_mapFields rfl _))
 generalize s.heap.update z (Obj.mapFields fun x_1 => x_1.setIfInBounds 0 Value.ellipsis) = h1' at *
 refine wpAny_bind ?_
 rw [show (#[Value.ref i1, Value.ref i2].toList.zipIdx : List (Value × Nat)) = [(.ref i1, 0), (.ref i2, 1)] from rfl, List.forIn_cons]
 dsimp only
 have it1 : h1'.IsTupleIter i1 l1 k := by obtain ⟨o, ho, r⟩ := h1; exact ⟨o, (sb1.2 i1 D.i1z).trans ho, r⟩
 have tp1 : h1'.IsTuple l1 xs := by obtain ⟨o, ho, r⟩ := p1; exact ⟨o, (sb1.2 l1 D.l1z).trans ho, r⟩
 refine wpAny_bind (wpAny_bind (wpAny_onRaise ?_))
 show wpAny _ _ (Builtin.SmallTypes.nextOf (.ref i1) >>= fun v => pure (some v)) _ _ _
 refine wpAny_bind (jL it1 tp1 hx fun h2' it2 sb2 => wpAny_pure ?_)
 dsimp only
 have gTO2 : IsPair h2' TO a b := ((sb2.2 TO D.TOi1).trans (sb1.2 TO D.TOz)).trans hTO
 refine wpAny_bind (wpAny_seqItems gTO2 rfl ?_)
 dsimp only
 refine wpAny_bind (wpAny_updateSeq_pair gTO2 fun h3' g3 sb3 => ?_)
 refine wpAny_bind (wpAny_letGo (wpAny_pure ?_))
 dsimp only
 have g3' : IsPair h3' TO x b := g3
 have it3 : h3'.IsTupleIter i2 l2 k := by obtain ⟨o, ho, r⟩ := h2; exact ⟨o, (((sb3.2 i2 (Ne.symm D.TOi2)).trans (sb2.2 i2 (Ne.symm D.i12))).trans (sb1.2 i2 D.i2z)).trans ho, r⟩
 have tp3 : h3'.IsTuple l2 ys := by obtain ⟨o, ho, r⟩ := p2; exact ⟨o, (((sb3.2 l2 D.l2TO).trans (sb2.2 l2 D.l2i1)).trans (sb1.2 l2 D.l2z)).trans ho, r⟩
 rw [List.forIn_cons]
 refine wpAny_bind (wpAny_bind (wpAny_onRaise ?_))
 show wpAny _ _ (Builtin.SmallTypes.nextOf (.ref i2) >>= fun v => pure (some v)) _ _ _
 refine wpAny_bind (jL it3 tp3 hy fun h4' it4 sb4 => wpAny_pure ?_)
 dsimp only
 have gTO4 : IsPair h4' TO x b := (sb4.2 TO D.TOi2).trans g3'
 refine wpAny_bind (wpAny_seqItems gTO4 rfl ?_)
 dsimp only
 refine wpAny_bind (wpAny_updateSeq_pair gTO4 fun h5' g5 sb5 => ?_)
 refine wpAny_bind (wpAny_letGo (wpAny_pure ?_))
 dsimp only
 have g5' : IsPair h5' TO x y := g5
 rw [List.forIn_nil]
 refine wpAny_pure ?_
 dsimp only
 refine wpAny_bind (wpAny_seqItems g5' rfl ?_)
 dsimp only
 have sz5 : h5'.objs.size = s.heap.objs.size := ((((sb5.1).trans sb4.1).trans sb3.1).trans sb2.1).trans sb1.1
 refine wpAny_bind (wpAny_newTuple ?_ (by show 2 <= sizeLine; decide))
 have gz5 : h5'.get? z = some { cls := Value.type "zip", data := Data.fields #[.ellipsis, Value.bool false, Value.bool false, Value.ref TI, Value.ref TO] } := ((((sb5.2 z (Ne.symm D.TOz)).trans (sb4.2 z (Ne.symm D.i2z))).trans (sb3.2 z (Ne.symm D.TOz))).trans (sb2.2 z (Ne.symm D.i1z))).trans g1
 have zlt : z < h5'.objs.size := Heap.lt_size gz5
 have g6 : (h5'.push { cls := Value.type "tuple", data := Data.seq #[x, y] }).get? z = _ := Heap.get?_push_of_some _ gz5
 have n6 : (h5'.push { cls := Value.type "tuple", data := Data.seq #[x, y] }).get? h5'.objs.size = some { cls := Value.type "tuple", data := Data.seq #[x, y] } := Heap.get?_push_size _ rfl
 have ex6 : ∀ c o, h5'.get? c = some o -> (h5'.push { cls := Value.type "tuple", data := Data.seq #[x, y] }).get? c = some o := fun c o e => Heap.get?_push_of_some _ e
 have sz6 : (h5'.push { cls := Value.type "tuple", data := Data.seq #[x, y] }).objs.size = h5'.objs.size + 1 := Heap.size_push ..
 show wpAny _ _ (Builtin.SmallTypes.ownedTupleHandOut (.ref z) (.ref h5'.objs.size) >>= _) _ _ { s with heap := h5'.push { cls := Value.type "tuple", data := Data.seq #[x, y] } }
 generalize h5'.push { cls := Value.type "tuple", data := Data.seq #[x, y] } = h6' at *
 unfold Builtin.SmallTypes.ownedTupleHandOut
 refine wpAny_bind (wpAny_bind (wpAny_setField g6 rfl (by simp) (wpAny_setField (Heap.get?_update_self _ g6 (Obj.isFreed_of_fields (Obj.data_mapFields rfl _))) rfl (by simp) ?_)))
 have sb7 := Heap.SameBut.update h6' z (Obj.mapFields fun x_1 => x_1.setIfInBounds 0 (rawInt h5'.objs.size))
 have g7 : (h6'.update z (Obj.mapFields fun x_1 => x_1.setIfInBounds 0 (rawInt h5'.objs.size))).get? z = some { cls := Value.type "zip", data := Data.fields #[rawInt h5'.objs.size, Value.bool false, Value.bool false, Value.ref TI, Value.ref TO] } := Heap.get?_update_self _ g6 (Obj.isFreed_of_fields (Obj.data_mapFields rfl _))
 dsimp only
 generalize h6'.update z (Obj.mapFields fun x_1 => x_1.setIfInBounds 0 (rawInt h5'.objs.size)) = h7' at *
 have sb8 := Heap.SameBut.update h7' z (Obj.mapFields fun x_1 => x_1.setIfInBounds 1 (Value.bool false))
 have g8 : (h7'.update z (Obj.mapFields fun x_1 => x_1.setIfInBounds 1 (Value.bool false))).get? z = some { cls := Value.type "zip", data := Data.fields #[rawInt h5'.objs.size, Value.bool false, Value.bool false, Value.ref TI, Value.ref TO] } := Heap.get?_update_self _ g7 (Obj.isFreed_of_fields (Obj.data_mapFields rfl _))
 generalize h7'.update z (Obj.mapFields fun x_1 => x_1.setIfInBounds 1 (Value.bool false)) = h8' at *
 have far : ∀ c o, c ≠ z -> h6'.get? c = some o -> h8'.get? c = some o := fun c o hc e => ((sb8.2 c hc).trans (sb7.2 c hc)).trans e
 refine wpAny_pure ⟨_, rfl, wpAny_pure ?_⟩
 rw [sz5] at g8 n6 sz6 zlt ⊢
 refine hQ h8' g8 (far _ _ D.TOz (ex6 _ _ g5')) ?_ ?_ (far _ _ (Nat.ne_of_gt zlt) n6) (by rw [sb8.1, sb7.1, sz6]) fun c o c1 c2 c3 c4 e => ?_
 ·obtain ⟨o, ho, r⟩ := it2
  exact ⟨o, far _ _ D.i1z (ex6 _ _ (((sb5.2 i1 (Ne.symm D.TOi1)).trans (sb4.2 i1 D.i12)).trans ((sb3.2 i1 (Ne.symm D.TOi1)).trans ho))), r⟩
 ·obtain ⟨o, ho, r⟩ := it4
  exact ⟨o, far _ _ D.i2z (ex6 _ _ ((sb5.2 i2 (Ne.symm D.TOi2)).trans ho)), r⟩
 ·exact far _ _ c1 (ex6 _ _ ((sb5.2 c c2).trans ((sb4.2 c c4).trans ((sb3.2 c c2).trans ((sb2.2 c c3).trans ((sb1.2 c c1).trans e))))))
theorem QQ (hh : A.handled = none) (D : ZipApart z TI TO i1 i2 l1 l2) (hz : IsZip s.heap z TI TO .none) (hTI : IsPair s.heap TI (.ref i1) (.ref i2)) (h1 : s.heap.IsTupleIter i1 l1 k) (p1 : s.heap.IsTuple l1 xs) (hx : xs[k]? = none)
  (hQ : ∀ h', (∀ c o, c ≠ z -> c ≠ TO -> c ≠ i1 -> c ≠ i2 -> s.heap.get? c = some o -> h'.get? c = some o) -> Q none { s with heap := h' }) : wpAny (model P w) A (pyNext (.ref z)) Q E s := by
 have hT : s.TypeIs (.ref z) "zip" := ⟨_, hz, rfl⟩
 unfold pyNext
 refine wpAny_bind (wpAny_attempt (wpAny_callSpecial?_slot (name := Str.ofString "__next__") hT F.slot_zip_next (wpAny_call_entry F.slot_zip_next hT F.entry_zip_next ?_ (F.args_zip_next_1 _))))
 refine wpAny_bind (m := field (.ref z) 2) (wpAny_field hz rfl (x := .bool false) rfl ?_)
 refine wpAny_bind (m := field (.ref z) 3) (wpAny_field hz rfl (x := .ref TI) rfl ?_)
 refine wpAny_bind (m := seqItems? (.ref TI)) (wpAny_seqItems hTI rfl ?_)
 refine wpAny_bind (m := Builtin.SmallTypes.ownedTupleIsFree (.ref z)) ?_
 unfold Builtin.SmallTypes.ownedTupleIsFree
 refine wpAny_bind (wpAny_field hz rfl (x := .none) rfl (wpAny_pure ?_))
 refine wpAny_bind (m := rule "zip.__next__.owned-tuple-again") (wpAny_rule ?_)
 refine wpAny_bind (m := field (.ref z) 4) (wpAny_field hz rfl (x := .ref TO) rfl ?_)
 refine wpAny_bind (m := setField (.ref z) 0 .ellipsis) (wpAny_setField hz rfl (by simp) ?_)
 have sb1 := Heap.SameBut.update s.heap z (Obj.mapFields fun x_1 => x_1.setIfInBounds 0 Value.ellipsis)
 have g1 : (s.heap.update z (Obj.mapFields fun x_1 => x_1.setIfInBounds 0 Value.ellipsis)).get? z = some { cls := Value.type "zip", data := Data.fields #[.ellipsis, Value.bool false, Value.bool false, Value.ref TI, Value.ref TO] } := Heap.get?_update_self _ hz (Obj.isFreed_of_fields (Obj.data_mapFields rfl _))
 generalize s.heap.update z (Obj.mapFields fun x_1 => x_1.setIfInBounds 0 Value.ellipsis) = h1' at *
 refine wpAny_bind ?_
 rw [show (#[Value.ref i1, Value.ref i2].toList.zipIdx : List (Value × Nat)) = [(.ref i1, 0), (.ref i2, 1)] from rfl, List.forIn_cons]
 dsimp only
 have it1 : h1'.IsTupleIter i1 l1 k := by obtain ⟨o, ho, r⟩ := h1; exact ⟨o, (sb1.2 i1 D.i1z).trans ho, r⟩
 have tp1 : h1'.IsTuple l1 xs := by obtain ⟨o, ho, r⟩ := p1; exact ⟨o, (sb1.2 l1 D.l1z).trans ho, r⟩
 refine wpAny_bind (wpAny_bind (wpAny_onRaise ?_))
 show wpAny _ _ (Builtin.SmallTypes.nextOf (.ref i1) >>= fun v => pure (some v)) _ _ _
 refine wpAny_bind (y9 (by first | exact hh | (show A.in1.handled = none; exact hh)) it1 tp1 hx fun h2' e ex2 ⟨oe, hoe, hce⟩ => ?_)
 have gz2 : h2'.get? z = some { cls := Value.type "zip", data := Data.fields #[.ellipsis, Value.bool false, Value.bool false, Value.ref TI, Value.ref TO] } := ex2 z _ (Ne.symm D.i1z) g1
 have hez : e ≠ z := by
  intro h
  subst h
  have hoe' : h2'.get? e = some oe := hoe
  rw [gz2] at hoe'
  cases hoe'
  exact absurd (show Value.type "zip" = Value.type "StopIteration" from hce) (by decide)
 refine wpAny_setField gz2 rfl (by simp) ?_
 have sb3 := Heap.SameBut.update h2' z (Obj.mapFields fun x_1 => x_1.setIfInBounds 0 Value.none)
 dsimp only
 generalize h2'.update z (Obj.mapFields fun x_1 => x_1.setIfInBounds 0 Value.none) = h3' at *
 refine wpAny_bind (wpAny_isInstance (T := "StopIteration") (b := true) ⟨oe, (sb3.2 e hez).trans hoe, hce⟩ isSubtype_stop ?_)
 refine wpAny_pure (hQ h3' fun c o c1 c2 c3 c4 ec => ?_)
 exact (sb3.2 c c1).trans (ex2 c o c3 ((sb1.2 c c1).trans ec))
end
open AutoSeq1 (wpAny_loadPart') in
theorem Z5 (l1 l2 : Addr) (xs ys : Array Value) (n1 n2 : Nat) (d1 d2 : Option Addr) (s1 s2 : Array (Option Value)) :
  Meets (Builtin.«zip.__new__» ⟨[.type "zip", .ref l1, .ref l2], []⟩) (fun _ R s => s.heap.get? l1 = some { cls := .type "tuple", dict := d1, data := .seq xs n1, slots := s1 } /\ s.heap.get? l2 = some { cls := .type "tuple", dict := d2, data := .seq ys n2, slots := s2 } /\
   ∀ g1 g2 g3 g4 g5, g1 = s.heap.push { cls := .type "tuple_iterator", data := .fields #[.ref l1, .int 0 0] } -> g2 = g1.push { cls := .type "tuple_iterator", data := .fields #[.ref l2, .int 0 0] } -> g3 = g2.push { cls := .type "tuple", data := .seq #[.ref s.heap.objs.size, .ref g1.objs.size] } -> g4 = g3.push { cls := .type "tuple", data := .seq #[.none, .none] } -> g5 = g4.push { cls := .type "zip", data := .fields #[.none, .bool false, .bool false, .ref g2.objs.size, .ref g3.objs.size] } -> R (.ok (.ret (.ref g4.objs.size))) { s with heap := g5 }) :=
 .of_wp fun prog w A R s h => by
  obtain ⟨hp, g, d, tk, os⟩ := s
  obtain ⟨hl1, hl2, h⟩ := h
  have hT1 : Heap.IsTuple (Shared.heap ⟨hp, g, d, tk, os⟩) l1 xs := ⟨_, hl1, rfl, n1, rfl⟩
  have hT2 : Heap.IsTuple (hp.push { cls := .type "tuple_iterator", data := .fields #[.ref l1, .int 0 0] }) l2 ys := ⟨_, Heap.get?_push_of_some _ hl2, rfl, n2, rfl⟩
  have hsub : isSubtype (Value.type "zip") (Value.type "zip") = pure true := by first | exact sub_zip | rfl
  wp_walk using wpAny_loadPart' hl1, wpAny_pyIter_tuple hT1, wpAny_pyIter_tuple hT2
  exact ⟨_, rfl, h _ _ _ _ _ rfl rfl rfl rfl rfl⟩
theorem Zn {P : Program} {w : World} {A : Around} {E : Value -> Shared -> Prop} {s : Shared} {l1 l2 : Addr} {xs ys : Array Value} {Q : Value -> Shared -> Prop} (hT1 : s.heap.IsTuple l1 xs) (hT2 : s.heap.IsTuple l2 ys)
  (h : ∀ h', IsZip h' (s.heap.objs.size + 4) (s.heap.objs.size + 2) (s.heap.objs.size + 3) .none -> IsPair h' (s.heap.objs.size + 2) (.ref s.heap.objs.size) (.ref (s.heap.objs.size + 1)) -> IsPair h' (s.heap.objs.size + 3) .none .none -> h'.IsTupleIter s.heap.objs.size l1 0 -> h'.IsTupleIter (s.heap.objs.size + 1) l2 0 -> (∀ b o, s.heap.get? b = some o -> h'.get? b = some o) -> Q (.ref (s.heap.objs.size + 4)) { s with heap := h' }) :
  wpAny (model P w) A (call (.type "zip") [.ref l1, .ref l2]) Q E s := by
 obtain ⟨⟨c1, d1, dt1, sl1⟩, hl1, hc1, n1, hd1⟩ := hT1
 replace hc1 : c1 = .type "tuple" := hc1
 replace hd1 : dt1 = .seq xs n1 := hd1
 subst hc1 hd1
 obtain ⟨⟨c2, d2, dt2, sl2⟩, hl2, hc2, n2, hd2⟩ := hT2
 replace hc2 : c2 = .type "tuple" := hc2
 replace hd2 : dt2 = .seq ys n2 := hd2
 subst hc2 hd2
 refine callType_new F.called_zip (by decide) (F.typeCall_zip_2 _ _) (F.newCall_zip_2 _ _) (fun obj => F.args_object_init_3 obj _ _) F.entry_zip_new (Z5 l1 l2 xs ys n1 n2 d1 d2 sl1 sl2) ⟨hl1, hl2, ?_⟩
 intro g1 g2 g3 g4 g5 e1 e2 e3 e4 e5
 have z1 : g1.objs.size = s.heap.objs.size + 1 := by rw [e1, Heap.size_push]
 have z2 : g2.objs.size = s.heap.objs.size + 2 := by rw [e2, Heap.size_push, z1]
 have z3 : g3.objs.size = s.heap.objs.size + 3 := by rw [e3, Heap.size_push, z2]
 have z4 : g4.objs.size = s.heap.objs.size + 4 := by rw [e4, Heap.size_push, z3]
 have k1 : ∀ b o, s.heap.get? b = some o -> g1.get? b = some o := fun b o x => by rw [e1]; exact Heap.get?_push_of_some _ x
 have k2 : ∀ b o, g1.get? b = some o -> g2.get? b = some o := fun b o x => by rw [e2]; exact Heap.get?_push_of_some _ x
 have k3 : ∀ b o, g2.get? b = some o -> g3.get? b = some o := fun b o x => by rw [e3]; exact Heap.get?_push_of_some _ x
 have k4 : ∀ b o, g3.get? b = some o -> g4.get? b = some o := fun b o x => by rw [e4]; exact Heap.get?_push_of_some _ x
 have k5 : ∀ b o, g4.get? b = some o -> g5.get? b = some o := fun b o x => by rw [e5]; exact Heap.get?_push_of_some _ x
 have p1 : g1.get? s.heap.objs.size = some { cls := .type "tuple_iterator", data := .fields #[.ref l1, .int 0 0] } := by rw [e1]; exact Heap.get?_push_size _ rfl
 have p2 : g2.get? (s.heap.objs.size + 1) = some { cls := .type "tuple_iterator", data := .fields #[.ref l2, .int 0 0] } := by
  have := Heap.get?_push_size g1 (o := { cls := .type "tuple_iterator", data := .fields #[.ref l2, .int 0 0] }) rfl
  rw [z1] at this; rw [e2]; exact this
 have p3 : g3.get? (s.heap.objs.size + 2) = some { cls := .type "tuple", data := .seq #[.ref s.heap.objs.size, .ref (s.heap.objs.size + 1)] } := by
  have := Heap.get?_push_size g2 (o := { cls := .type "tuple", data := .seq #[.ref s.heap.objs.size, .ref g1.objs.size] }) rfl
  rw [z2] at this; rw [e3, this, z1]
 have p4 : g4.get? (s.heap.objs.size + 3) = some { cls := .type "tuple", data := .seq #[.none, .none] } := by
  have := Heap.get?_push_size g3 (o := { cls := .type "tuple", data := .seq #[.none, .none] }) rfl
  rw [z3] at this; rw [e4, this]
 have p5 : g5.get? (s.heap.objs.size + 4) = some { cls := .type "zip", data := .fields #[.none, .bool false, .bool false, .ref (s.heap.objs.size + 2), .ref (s.heap.objs.size + 3)] } := by
  have := Heap.get?_push_size g4 (o := { cls := .type "zip", data := .fields #[.none, .bool false, .bool false, .ref g2.objs.size, .ref g3.objs.size] }) rfl
  rw [z4] at this; rw [e5, this, z2, z3]
 show _ /\ _
 rw [z4]
 exact ⟨⟨_, p5, rfl⟩, h _ p5 (k5 _ _ (k4 _ _ p3)) (k5 _ _ p4) ⟨_, k5 _ _ (k4 _ _ (k3 _ _ (k2 _ _ p1))), rfl, rfl⟩ ⟨_, k5 _ _ (k4 _ _ (k3 _ _ p2)), rfl, rfl⟩ fun b o x => k5 _ _ (k4 _ _ (k3 _ _ (k2 _ _ (k1 _ _ x))))⟩
def X1 (K : PySem.W.Frag) (a b : Addr) : It :=
 ⟨fun i H => ∃ xs ys x y, SqT K H a xs /\ SqT K H b ys /\ xs[i]? = some x /\ ys[i]? = some y, fun i H z H' => ∃ p x y, H p = none /\ z = .ref p /\ (∀ xs, SqT K H a xs -> xs[i]? = some x) /\ (∀ ys, SqT K H b ys -> ys[i]? = some y) /\ H' = upd H p (.tup [x, y]),
  fun i H => ∃ xs, SqT K H a xs /\ xs.length <= i⟩
theorem Zz {P : Program} {w : World} {K : PySem.W.Frag} {es : List Expr} {kt : Nat} {tp : Pos} (l1 l2 z TI TO i1 i2 : Addr) (D : ZipApart z TI TO i1 i2 l1 l2) :
  yE P w K (.Tuple es kt tp) (X1 K l1 l2) [z, TI, TO, i1, i2] z (fun i h => IsZip h z TI TO .none /\ IsPair h TI (.ref i1) (.ref i2) /\ (∃ a b, IsPair h TO a b) /\ h.IsTupleIter i1 l1 i /\ h.IsTupleIter i2 l2 i) where
 mem := by simp
 obj := fun i h st b hb => by
  obtain ⟨hz, hTI, ⟨a, c, hTO⟩, ⟨o1, e1, c1, d1⟩, ⟨o2, e2, c2, d2⟩⟩ := st
  simp only [List.mem_cons, List.not_mem_nil, or_false] at hb
  rcases hb with rfl | rfl | rfl | rfl | rfl
  ·exact ⟨_, hz, fun v q => by have q' : Data.fields _ = Data.cell v := q; cases q'⟩
  ·exact ⟨_, hTI, fun v q => by have q' : Data.seq _ _ = Data.cell v := q; cases q'⟩
  ·exact ⟨_, hTO, fun v q => by have q' : Data.seq _ _ = Data.cell v := q; cases q'⟩
  ·exact ⟨o1, e1, fun v q => by rw [d1] at q; cases q⟩
  ·exact ⟨o2, e2, fun v q => by rw [d2] at q; cases q⟩
 keep := fun i h h' st k => by
  obtain ⟨hz, hTI, ⟨a, c, hTO⟩, h1, h2⟩ := st
  exact ⟨k _ (by simp) _ hz, k _ (by simp) _ hTI, ⟨a, c, k _ (by simp) _ hTO⟩, h1.at fun o e => k _ (by simp) o e, h2.at fun o e => k _ (by simp) o e⟩
 item := by
  intro X hP hw hK hc i pins s σ H E I hf st hg
  subst hP hw hK
  obtain ⟨hz, hTI, ⟨a, c, hTO⟩, h1, h2⟩ := st
  obtain ⟨xs, ys, x, y, hq1, hq2, hx, hy⟩ := hg
  obtain ⟨its1, rv1, p1, hz1⟩ := I.tuple hq1
  obtain ⟨its2, rv2, p2, hz2⟩ := I.tuple hq2
  obtain ⟨u, hu, ru⟩ := rv1.get hx
  obtain ⟨v, hv, rvv⟩ := rv2.get hy
  refine Zu D hz hTI hTO h1 h2 p1 p2 (x := u) (y := v) (by simpa using hu) (by simpa using hv) fun g1 b1 b2 b3 b4 b5 b6 hk => ?_
  refine ⟨.ref s.heap.objs.size, rfl, wpAny_letOwnedTupleGo_zip b1 fun g2 hz2' hs2 => ?_⟩
  replace hs2 : Heap.SameBut z g1 g2 := hs2
  have zlt : z < s.heap.objs.size := Heap.lt_size hz
  have I2 : Inv X pins σ (upd H s.heap.objs.size (.tup [x, y])) { s with heap := g2, toks := s.toks } := by
   refine I.yieldTup (us := [u, v]) hf (fun b o hb e => ?_) (Nat.le_refl _) ((hs2.2 _ (Nat.ne_of_gt zlt)).trans b5) (.cons ru (.cons rvv .nil)) (by show 2 <= sizeLine; decide)
   simp only [List.mem_cons, List.not_mem_nil, or_false, not_or] at hb
   exact (hs2.2 b hb.1).trans (hk b o hb.1 hb.2.2.1 hb.2.2.2.1 hb.2.2.2.2 e)
  refine ⟨.ref s.heap.objs.size, _, I2, rfl, ⟨s.heap.objs.size, x, y, I.hok.fresh (Nat.le_refl _), rfl, fun xs' h' => by rw [I.tuple_inj h' hq1]; exact hx, fun ys' h' => by rw [I.tuple_inj h' hq2]; exact hy, rfl⟩,
   ⟨hz2', (hs2.2 _ D.TIz).trans (hk _ _ D.TIz D.TITO D.TIi1 D.TIi2 hTI), ⟨_, _, (hs2.2 _ D.TOz).trans b2⟩, b3.extBut hs2.extBut D.i1z, b4.extBut hs2.extBut D.i2z⟩, fun b hb => ?_⟩
  have hlt : b < s.heap.objs.size := by
   simp only [List.mem_cons, List.not_mem_nil, or_false] at hb
   rcases hb with rfl | rfl | rfl | rfl | rfl
   ·exact zlt
   ·exact Heap.lt_size hTI
   ·exact Heap.lt_size hTO
   ·obtain ⟨o, e, _⟩ := h1; exact Heap.lt_size e
   ·obtain ⟨o, e, _⟩ := h2; exact Heap.lt_size e
  rw [zh (Nat.ne_of_lt hlt)]
  exact (hf b hb).1
 done := by
  intro X hP hw hK hc i pins s σ H E I hf st hg
  subst hP hw hK
  obtain ⟨hz, hTI, ⟨a, c, hTO⟩, h1, h2⟩ := st
  obtain ⟨xs, hq1, hend⟩ := hg
  obtain ⟨its1, rv1, p1, hz1⟩ := I.tuple hq1
  have l1 := rv1.length
  refine QQ (I.ok.hd hc) D hz hTI h1 p1 (by simp; omega) fun h' hk => ⟨rfl, I.turnedL (tk := s.toks) hf fun b o hb e => ?_⟩
  simp only [List.mem_cons, List.not_mem_nil, or_false, not_or] at hb
  exact hk b o hb.1 hb.2.2.1 hb.2.2.2.1 hb.2.2.2.2 e
 self := fun _ _ _ _ _ st h => wpAny_pyIter_zip st.1 h
section
variable {X : Cx} {es : List Expr} {kt : Nat} {tp : Pos}
def vH (K : PySem.W.Frag) (ta : TA) : TI := fun σ H R => ta σ H fun vs H1 => ∃ a b, vs = [.ref a, .ref b] /\ (((∃ xs, SqL K H1 a xs) /\ (∃ ys, SqL K H1 b ys) /\ R (Itz K a b) H1) \/ ((∃ xs, SqT K H1 a xs) /\ (∃ ys, SqT K H1 b ys) /\ R (X1 K a b) H1))
theorem Qy {e1 e2 : Expr} {ta : TA} {p pos : Pos} (hg : Gl X "zip") (hm : X.mg "zip" = none) (ha : PA X [e1, e2] ta) (hs : starEach [e1, e2] X.env = [(false, eval e1 X.env), (false, eval e2 X.env)] := by rfl) (hs2 : starEach [e2] X.env = [(false, eval e2 X.env)] := by rfl) :
  PI X (.Tuple es kt tp) (.Call (.Name "zip" p) [e1, e2] [] pos) (vH X.K ta) := by
 intro pins s σ H R I h
 refine Call_ (j0 I hg hm Zw (PyProof.Rows.callWith_type1 (thn (ha pos pins s σ H _ I h) fun us s1 ⟨vs, H1, I1, r1, q1⟩ => ?_) (by rw [hs, hs2]) (by rw [hs2]; rfl)))
 obtain ⟨a, b, e, q1⟩ := q1
 subst e
 obtain ⟨u, v, rfl, ru, rv⟩ := vg r1
 cases ru
 cases rv
 rcases q1 with ⟨⟨xs, hq1⟩, ⟨ys, hq2⟩, q⟩ | ⟨⟨xs, hq1⟩, ⟨ys, hq2⟩, q⟩
 ·obtain ⟨its1, rv1, p1, hz1⟩ := I1.list hq1
  obtain ⟨its2, rv2, p2, hz2⟩ := I1.list hq2
  have la : a < s1.heap.objs.size := by obtain ⟨o, e, _⟩ := p1.isList; exact Heap.lt_size e
  have lb : b < s1.heap.objs.size := by obtain ⟨o, e, _⟩ := p2.isList; exact Heap.lt_size e
  refine call_zip_2 p1.isList p2.isList fun h' b1 b2 b3 b4 b5 hsz hk => wpAny_pyIter_zip b1 ?_
  have I2 : Inv X pins σ H1 { s1 with heap := h' } := I1.kept (t' := s1.toks) hk
  refine ⟨s1.heap.objs.size + 4, [s1.heap.objs.size + 4, s1.heap.objs.size + 2, s1.heap.objs.size + 3, s1.heap.objs.size, s1.heap.objs.size + 1], _, _, H1, rfl, I2, Qr a b _ _ _ _ _ (zipApart_new la lb), ⟨b1, b2, ⟨_, _, b3⟩, b4, b5⟩, fun c hb => ?_, q⟩
  have hb' : s1.heap.objs.size <= c := by
   simp only [List.mem_cons, List.not_mem_nil, or_false] at hb
   rcases hb with rfl | rfl | rfl | rfl | rfl <;> first | exact Nat.le_refl _ | exact Nat.le_add_right _ _
  exact I1.fpOk hb' (I1.hok.fresh hb')
 ·obtain ⟨its1, rv1, p1, hz1⟩ := I1.tuple hq1
  obtain ⟨its2, rv2, p2, hz2⟩ := I1.tuple hq2
  have la : a < s1.heap.objs.size := by obtain ⟨o, e, _⟩ := p1; exact Heap.lt_size e
  have lb : b < s1.heap.objs.size := by obtain ⟨o, e, _⟩ := p2; exact Heap.lt_size e
  refine Zn p1 p2 fun h' b1 b2 b3 b4 b5 hk => wpAny_pyIter_zip b1 ?_
  have I2 : Inv X pins σ H1 { s1 with heap := h' } := I1.kept (t' := s1.toks) hk
  refine ⟨s1.heap.objs.size + 4, [s1.heap.objs.size + 4, s1.heap.objs.size + 2, s1.heap.objs.size + 3, s1.heap.objs.size, s1.heap.objs.size + 1], _, _, H1, rfl, I2, Zz a b _ _ _ _ _ (zipApart_new la lb), ⟨b1, b2, ⟨_, _, b3⟩, b4, b5⟩, fun c hb => ?_, q⟩
  have hb' : s1.heap.objs.size <= c := by
   simp only [List.mem_cons, List.not_mem_nil, or_false] at hb
   rcases hb with rfl | rfl | rfl | rfl | rfl <;> first | exact Nat.le_refl _ | exact Nat.le_add_right _ _
  exact I1.fpOk hb' (I1.hok.fresh hb')
end
end L2
set_option Elab.async false
set_option linter.all false
set_option maxRecDepth 100000
set_option maxHeartbeats 4000000
namespace L2
open PySem PySem.Spec PyProof.Rows
section
variable {X : Cx} {e st : Expr} {te : TE} {lo hi : Option Expr} {tl th ts : TO} {p2 pos : Pos}
end
end L2
set_option Elab.async false
set_option linter.all false
set_option maxRecDepth 100000
set_option maxHeartbeats 4000000
namespace L2
open PySem PySem.Spec PyProof.Rows
end L2
set_option Elab.async false
set_option linter.all false
set_option maxRecDepth 100000
set_option maxHeartbeats 4000000
namespace L2
open PySem PySem.Spec PyProof.Rows
end L2
set_option Elab.async false
set_option linter.all false
set_option maxRecDepth 100000
set_option maxHeartbeats 4000000
namespace L2
open PySem PySem.Spec PyProof.Rows
end L2
set_option Elab.async false
set_option linter.all false
set_option maxRecDepth 100000
set_option maxHeartbeats 4000000
namespace L2
open PySem PySem.Spec PyProof.Rows
section
variable {X : Cx}
variable {o e : Expr} {es : List Expr} {to : TE} {t : TA} {name : Str} {apos cpos : Pos} {T id : String} {r : V -> List V -> Hp -> VK -> Prop} {K : PySem.W.Frag}
end
end L2
set_option Elab.async false
set_option linter.all false
set_option maxRecDepth 100000
set_option maxHeartbeats 4000000
namespace L2
open PySem PySem.Spec PyProof.Rows
section
variable {X : Cx} {tg : Expr}
end
inductive Dd where
 | take (p : Nat) | move (p g : Nat) | lay (g : Nat)
abbrev RS := List (Option Int) × Option Int × List Int
def inc (mv : List Int) (x : Int) : List Int := mv.set x.toNat (mv.getD x.toNat 0 + 1)
inductive Do : Dd -> RS -> RS -> Prop
 | take {p : Nat} {row : List (Option Int)} {mv : List Int} {x : Int} : row[p]? = some (some x) -> Do (.take p) (row, none, mv) (row.set p none, some x, inc mv x)
 | move {p g : Nat} {row : List (Option Int)} {h : Option Int} {mv : List Int} {x : Int} : row[p]? = some (some x) -> row[g]? = some none -> Do (.move p g) (row, h, mv) ((row.set p none).set g (some x), h, inc mv x)
 | lay {g : Nat} {row : List (Option Int)} {mv : List Int} {x : Int} : row[g]? = some none -> Do (.lay g) (row, some x, mv) (row.set g (some x), none, inc mv x)
inductive Dos : List Dd -> RS -> RS -> Prop
 | nil {s : RS} : Dos [] s s
 | cons {d : Dd} {l : List Dd} {s t u : RS} : Do d s t -> Dos l t u -> Dos (d :: l) s u
end L2
set_option Elab.async false
set_option linter.all false
set_option maxRecDepth 100000
set_option maxHeartbeats 4000000
namespace L2
open PySem PySem.Spec PyProof.Rows
section
variable {X : Cx} {K : PySem.W.Frag}
end
end L2
set_option Elab.async false
set_option linter.all false
set_option maxRecDepth 100000
set_option maxHeartbeats 4000000
namespace L2
open PySem PySem.Spec PyProof.Rows
section
variable {X : Cx}
end
end L2
set_option Elab.async false
set_option linter.all false
set_option maxRecDepth 100000
set_option maxHeartbeats 4000000
namespace L2
open PySem PySem.Spec PyProof.Rows
def VL (K : PySem.W.Frag) (f : Bool -> Bool) : R2 := fun x y H Q => ∃ p q xs, x = .ref p /\ y = .ref q /\ SqL K H p xs /\ SqL K H q [] /\ Q (.bl (f xs.isEmpty)) H
section
variable {X : Cx}
theorem Xg (hu : X.A.units + 64 < cLine) : OpR X (compareOp .NotEq) (VL X.K not) := by
 intro pins s σ H x y v u Q I rx ry h
 obtain ⟨p, q, xs, rfl, rfl, h1, h2, k⟩ := h
 cases rx
 cases ry
 obtain ⟨us, r1, p1, z1⟩ := I.list h1
 obtain ⟨ws, r2, p2, z2⟩ := I.list h2
 have l1 := r1.length
 have l2 := r2.length
 have hw : ws = [] := List.length_eq_zero_iff.mp l2.symm
 subst hw
 cases xs with
 | nil =>
  have hus : us = [] := List.length_eq_zero_iff.mp l1.symm
  subst hus
  refine EqBoolInt.of_rcne (SeqAt.RcNeAt.lists (e := fun _ => true) p1.isList p2.isList rfl (by omega) (fun j h1' h2' => ?_)) ⟨.bl false, H, I, rfl, k⟩
  simp at h1'
 | cons a r =>
  refine EqBoolInt.of_rcne (SeqAt.RcNeAt.lists_lengths p1.isList p2.isList ?_ (by omega)) ⟨.bl true, H, I, rfl, k⟩
  rw [List.size_toArray, List.size_toArray, <- l1]
  rfl
end
section
variable {X : Cx} {e st : Expr} {te : TE} {ts : TO} {p2 pos : Pos}
end
end L2
set_option Elab.async false
set_option linter.all false
set_option maxRecDepth 100000
set_option maxHeartbeats 4000000
namespace L2
open PySem PySem.Spec PyProof.Rows
section
variable {X : Cx}
end
end L2
set_option Elab.async false
set_option linter.all false
set_option maxRecDepth 100000
set_option maxHeartbeats 4000000
namespace L2
open PySem PySem.Spec PyProof.Rows
def AtM (K : PySem.W.Frag) (C : Addr) (m qual : Str) (st : Stmt) : Prop := ∃ f fd, Fun K m qual st f fd /\ V1 K C m f
section
variable {X : Cx} {k : Nat} {C : Addr} {m x : Str} {ps : List Str} {sp : Sp} {p pos apos : Pos} {o e : Expr} {es : List Expr} {t : TA} {to : TE}
end
structure KD (K : PySem.W.Frag) (w : World) (a : Addr) (kvs : List (Key × V)) : Prop where
 ex : ∃ es ep, K.lookup a = some ⟨.type "dict", none, .dict es ep, #[]⟩ /\ ∀ P : Program, PySem.KeysOf (ki P w) es /\ ∃ vs, KV kvs vs /\ Pairs (ki P w) es.toList vs /\ (vs.map (·.1)).Nodup
 ns : (a == sysModules) = false
section
variable {X : Cx} {e : Expr} {ty : TE} {p apos cpos : Pos} {x : Str} {a : Addr} {kvs : List (Key × V)}
end
end L2
set_option Elab.async false
set_option linter.all false
set_option maxRecDepth 100000
set_option maxHeartbeats 4000000
namespace L2
open PySem PySem.Spec PyProof.Rows
section
variable {X : Cx}
end
theorem V9 {K : PySem.W.Frag} {C f : Addr} {m qual : Str} {st : Stmt} {oc kV dc pm cd ct : Value} {od an : Option Addr} {sl : Array (Option Value)} (a1 : PySem.W.findIn K (.ref C) m = some (some (.ref f))) (i1 : PySem.W.isFn K (.ref f) = true)
  (l1 : K.lookup f = some ⟨oc, od, .func (PySem.W.fnOf m qual (qE st) (zZ st) (zn st) .none kV dc pm an cd ct), sl⟩) (c1 : PySem.W.codeIn K cd qual = true) (k1 : PySem.W.keepIn K (.ref f) = true) : AtM K C m qual st := ⟨f, _, Qk l1 c1 k1, ⟨a1, i1, k1⟩⟩
end L2
set_option Elab.async false
set_option linter.all false
set_option maxRecDepth 100000
set_option maxHeartbeats 4000000
namespace L2
open PySem PySem.Spec PyProof.Rows
section
variable {X : Cx}
end
end L2
set_option Elab.async false
set_option linter.all false
set_option maxRecDepth 100000
set_option maxHeartbeats 4000000
namespace L2
open PySem PySem.Spec PyProof.Rows
structure ScG (X : Cx) (ts : List Nat) (scope : Scope) : Prop where
 kind : scope.kind = .function
 cell : ∀ y ∈ scope.names, y.2 = .cell -> scope.names.lookup y.1 = some .cell
 loc : ∀ y ∈ scope.names, y.2 = .local -> scope.names.lookup y.1 = some .local
 free : ∀ y ∈ scope.names, y.2 = .free -> X.env.kindOf y.1 = some .cell \/ X.env.kindOf y.1 = some .free
 ts : ∀ (i : Nat) x, X.N[i]? = some x -> scope.names.lookup x = some .local \/ scope.names.lookup x = some .cell -> i ∈ ts
section
variable {X : Cx} {ts : List Nat} {scope : Scope} {pins : List (Addr × Obj)} {σ : St} {H : Hp} {s : Shared} {fp : List Addr}
end
section
variable {X : Cx} {ts : List Nat} {scope : Scope} {tg iter elt : Expr} {ifs : List Expr} {wi : TI} {g : TG} {tt : TT} {te : TE} {pos : Pos}
end
end L2
set_option Elab.async false
set_option linter.all false
set_option maxRecDepth 100000
set_option maxHeartbeats 4000000
namespace L2
open PySem PySem.Spec PyProof.Rows
section
variable {X : Cx}
end
end L2
set_option Elab.async false
set_option linter.all false
set_option maxRecDepth 100000
set_option maxHeartbeats 4000000
namespace L2
open PySem PySem.Spec PyProof.Rows
inductive Dat where
 | non | bl (b : Bool) | int (i : Int) | str (x : Str) | ty (n : String) | lst (l : List Dat) | tup (l : List Dat) | rng (lo hi c : Int) | scr (K : PySem.W.Frag) (l : List Int)
inductive AV where
 | d (x : Dat) | ref (a : Addr)
inductive MO where
 | lst (l : List AV) | dK (kvs : List (Key × AV)) | ins (C : Addr) (fs : List (Str × AV))
abbrev MH := Addr -> Option MO
abbrev ASt := List (Option AV)
def mup (M : MH) (a : Addr) (o : MO) : MH := fun b => if b = a then some o else M b
def mdel (M : MH) (a : Addr) : MH := fun b => if b = a then none else M b
theorem zj {M : MH} {a : Addr} {o : MO} : mup M a o a = some o := if_pos rfl
theorem zC {M : MH} {a b : Addr} {o : MO} (h : b ≠ a) : mup M a o b = M b := if_neg h
theorem j6 {M : MH} {a : Addr} : mdel M a a = none := if_pos rfl
theorem qv {M : MH} {a b : Addr} (h : b ≠ a) : mdel M a b = M b := if_neg h
theorem v0 {M : MH} {a : Addr} {o u : MO} : mup (mup M a o) a u = mup M a u := by
 funext b; unfold mup; split <;> rfl
abbrev Own := Addr -> Prop
inductive Rep (H : Hp) (O : Own) : V -> Dat -> Prop
 | non : Rep H O .non .non
 | bl {b : Bool} : Rep H O (.bl b) (.bl b)
 | int {i : Int} : Rep H O (.int i) (.int i)
 | str {x : Str} : Rep H O (.str x) (.str x)
 | ty {n : String} : Rep H O (.ty n) (.ty n)
 | lst {a : Addr} {xs : List V} {l : List Dat} : ¬ O a -> H a = some (.lst xs) -> xs.length = l.length -> (∀ (i : Nat) x d, xs[i]? = some x -> l[i]? = some d -> Rep H O x d) -> Rep H O (.ref a) (.lst l)
 | tup {a : Addr} {xs : List V} {l : List Dat} : ¬ O a -> H a = some (.tup xs) -> xs.length = l.length -> (∀ (i : Nat) x d, xs[i]? = some x -> l[i]? = some d -> Rep H O x d) -> Rep H O (.ref a) (.tup l)
 | rng {a : Addr} {lo hi c : Int} : ¬ O a -> H a = some (xT a lo hi c) -> Rep H O (.ref a) (.rng lo hi c)
 | scr {a : Addr} {K : PySem.W.Frag} {l : List Int} : ¬ O a -> Rd H a (.lst (l.map V.int)) -> Rep H O (.ref a) (.scr K l)
 | scrK {a : Addr} {K : PySem.W.Frag} {l : List Int} : SqL K (fun _ => none) a (l.map V.int) -> Rep H O (.ref a) (.scr K l)
def wO (H : Hp) (O : Own) (xs : List V) (l : List Dat) : Prop := xs.length = l.length /\ ∀ (i : Nat) x d, xs[i]? = some x -> l[i]? = some d -> Rep H O x d
def zk (H : Hp) (O : Own) (M : MH) (v : V) : AV -> Prop
 | .d x => Rep H O v x
 | .ref a => v = .ref a /\ M a ≠ none
def ze (H : Hp) (O : Own) (M : MH) (xs : List V) (l : List AV) : Prop := xs.length = l.length /\ ∀ (i : Nat) x d, xs[i]? = some x -> l[i]? = some d -> zk H O M x d
def yV {κ : Type} (H : Hp) (O : Own) (M : MH) (xs : List (κ × V)) (l : List (κ × AV)) : Prop := xs.map (·.1) = l.map (·.1) /\ ze H O M (xs.map (·.2)) (l.map (·.2))
def qu (H : Hp) (O : Own) (M : MH) (a : Addr) : MO -> Prop
 | .lst l => ∃ xs, H a = some (.lst xs) /\ ze H O M xs l
 | .dK kvs => ∃ xs, H a = some (.dK xs) /\ yV H O M xs kvs
 | .ins C fs => ∃ dx xs, H a = some (.ins C dx xs) /\ yV H O M xs fs /\ O dx /\ M dx = none /\ H dx = some (.own a)
structure Wf (H : Hp) (O : Own) (M : MH) : Prop where
 mo : ∀ a o, M a = some o -> qu H O M a o
 own : ∀ a, M a ≠ none -> O a
 al : ∀ a, O a -> ∃ o, H a = some o /\ ∀ xs, o ≠ .tup xs
theorem Wf.ne {H : Hp} {O : Own} {M : MH} (w : Wf H O M) (a : Addr) (h : O a) : H a ≠ none := by obtain ⟨o, e, _⟩ := w.al a h; rw [e]; exact fun z => nomatch z
structure Ext (H : Hp) (O : Own) (M : MH) (H' : Hp) (O' : Own) (M' : MH) : Prop where
 fix : ∀ a o, ¬ O a -> H a = some o -> H' a = some o /\ ¬ O' a
 prv : ∀ a, O a -> M a = none -> H' a = H a /\ O' a /\ M' a = none
 mst : ∀ a, M a ≠ none -> M' a ≠ none
theorem Ext.refl {H : Hp} {O : Own} {M : MH} : Ext H O M H O M := ⟨fun _ _ h e => ⟨e, h⟩, fun _ h e => ⟨rfl, h, e⟩, fun _ h => h⟩
theorem Ext.trans {H H1 H2 : Hp} {O O1 O2 : Own} {M M1 M2 : MH} (a : Ext H O M H1 O1 M1) (b : Ext H1 O1 M1 H2 O2 M2) : Ext H O M H2 O2 M2 :=
 ⟨fun x o h e => let ⟨e1, h1⟩ := a.fix x o h e; b.fix x o h1 e1, fun x h e => by
  obtain ⟨e1, h1, n1⟩ := a.prv x h e
  obtain ⟨e2, h2, n2⟩ := b.prv x h1 n1
  exact ⟨e2.trans e1, h2, n2⟩, fun x h => b.mst x (a.mst x h)⟩
theorem Rep.imp {H H' : Hp} {O O' : Own} (k : ∀ a o, ¬ O a -> H a = some o -> H' a = some o /\ ¬ O' a) {v : V} {d : Dat} (r : Rep H O v d) : Rep H' O' v d := by
 induction r with
 | non => exact .non
 | bl => exact .bl
 | int => exact .int
 | str => exact .str
 | ty => exact .ty
 | lst h e l _ ih => exact .lst (k _ _ h e).2 (k _ _ h e).1 l ih
 | tup h e l _ ih => exact .tup (k _ _ h e).2 (k _ _ h e).1 l ih
 | rng h e => exact .rng (k _ _ h e).2 (k _ _ h e).1
 | scr h e =>
  rcases e with e | ⟨o, e⟩
  ·exact .scr (k _ _ h e).2 (.inl (k _ _ h e).1)
  ·exact .scr (k _ _ h e).2 (.inr ⟨o, (k _ _ h e).1⟩)
 | scrK h => exact .scrK h
theorem JS {H : Hp} {O : Own} {K : PySem.W.Frag} {v : V} {l : List Int} (r : Rep H O v (.scr K l)) : ∃ a, v = .ref a /\ SqL K H a (l.map V.int) := by
 cases r with
 | @scr a _ _ _ h => exact ⟨a, rfl, .inl h⟩
 | @scrK a _ _ h =>
  rcases h with (h | ⟨o, h⟩) | h
  ·cases h
  ·cases h
  ·exact ⟨a, rfl, .inr h⟩
theorem Kz {H : Hp} {O : Own} {K : PySem.W.Frag} {a : Addr} {l : List Int} (ho : ∀ a, ¬ O a) (h : SqL K H a (l.map V.int)) : Rep H O (.ref a) (.scr K l) := by
 rcases h with h | h
 ·exact .scr (ho a) h
 ·exact .scrK (.inr h)
theorem Rep.ext {H H' : Hp} {O O' : Own} {M M' : MH} (k : Ext H O M H' O' M') {v : V} {d : Dat} (r : Rep H O v d) : Rep H' O' v d := r.imp k.fix
theorem zk.ext {H H' : Hp} {O O' : Own} {M M' : MH} (k : Ext H O M H' O' M') {v : V} {x : AV} (r : zk H O M v x) : zk H' O' M' v x := by
 cases x with
 | d x => exact Rep.ext k r
 | ref a => exact ⟨r.1, k.mst a r.2⟩
theorem ze.ext {H H' : Hp} {O O' : Own} {M M' : MH} (k : Ext H O M H' O' M') {xs : List V} {l : List AV} (r : ze H O M xs l) : ze H' O' M' xs l := ⟨r.1, fun i x d e1 e2 => (r.2 i x d e1 e2).ext k⟩
theorem yV.ext {κ : Type} {H H' : Hp} {O O' : Own} {M M' : MH} (k : Ext H O M H' O' M') {xs : List (κ × V)} {l : List (κ × AV)} (r : yV H O M xs l) : yV H' O' M' xs l := ⟨r.1, r.2.ext k⟩
theorem ze.nil {H : Hp} {O : Own} {M : MH} : ze H O M [] [] := ⟨rfl, fun i x d e => by simp at e⟩
theorem ze.cons {H : Hp} {O : Own} {M : MH} {x : V} {d : AV} {xs : List V} {l : List AV} (h : zk H O M x d) (r : ze H O M xs l) : ze H O M (x :: xs) (d :: l) :=
 ⟨by simp [r.1], fun i y e h1 h2 => by
  cases i with
  | zero => simp at h1 h2; subst h1 h2; exact h
  | succ i => simp at h1 h2; exact r.2 i y e h1 h2⟩
theorem ze.head {H : Hp} {O : Own} {M : MH} {x : V} {d : AV} {xs : List V} {l : List AV} (r : ze H O M (x :: xs) (d :: l)) : zk H O M x d /\ ze H O M xs l :=
 ⟨r.2 0 x d rfl rfl, by have := r.1; simpa using this, fun i y e h1 h2 => r.2 (i + 1) y e (by simpa using h1) (by simpa using h2)⟩
theorem ze.nil_inv {H : Hp} {O : Own} {M : MH} {xs : List V} (r : ze H O M xs []) : xs = [] := List.length_eq_zero_iff.mp r.1
theorem ze.cons_inv {H : Hp} {O : Own} {M : MH} {xs : List V} {d : AV} {l : List AV} (r : ze H O M xs (d :: l)) : ∃ x r', xs = x :: r' /\ zk H O M x d /\ ze H O M r' l := by
 cases xs with
 | nil => have := r.1; simp at this
 | cons x r' => exact ⟨x, r', rfl, r.head⟩
theorem ze.append {H : Hp} {O : Own} {M : MH} {xs ys : List V} {l m : List AV} (a : ze H O M xs l) (b : ze H O M ys m) : ze H O M (xs ++ ys) (l ++ m) :=
 ⟨by rw [List.length_append, List.length_append, a.1, b.1], fun i x d h1 h2 => by
  by_cases c : i < xs.length
  ·rw [List.getElem?_append_left c] at h1
   rw [List.getElem?_append_left (by rw [<- a.1]; exact c)] at h2
   exact a.2 i x d h1 h2
  ·rw [List.getElem?_append_right (by omega)] at h1
   rw [List.getElem?_append_right (by rw [<- a.1]; omega), <- a.1] at h2
   exact b.2 _ x d h1 h2⟩
theorem ze.snoc {H : Hp} {O : Own} {M : MH} {xs : List V} {l : List AV} {x : V} {d : AV} (a : ze H O M xs l) (b : zk H O M x d) : ze H O M (xs ++ [x]) (l ++ [d]) := a.append (.cons b .nil)
theorem ze.get {H : Hp} {O : Own} {M : MH} {xs : List V} {l : List AV} (a : ze H O M xs l) {i : Nat} {d : AV} (h : l[i]? = some d) : ∃ x, xs[i]? = some x /\ zk H O M x d := by
 have hi := (List.getElem?_eq_some_iff.mp h).1
 have hx : i < xs.length := by rw [a.1]; exact hi
 exact ⟨xs[i], by simp [hx], a.2 i _ _ (by simp [hx]) h⟩
theorem ze.drop {H : Hp} {O : Own} {M : MH} {xs : List V} {l : List AV} (a : ze H O M xs l) (k : Nat) : ze H O M (xs.drop k) (l.drop k) :=
 ⟨by rw [List.length_drop, List.length_drop, a.1], fun i x d h1 h2 => by rw [List.getElem?_drop] at h1 h2; exact a.2 _ x d h1 h2⟩
theorem ze.take {H : Hp} {O : Own} {M : MH} {xs : List V} {l : List AV} (a : ze H O M xs l) (k : Nat) : ze H O M (xs.take k) (l.take k) :=
 ⟨by rw [List.length_take, List.length_take, a.1], fun i x d h1 h2 => by
  rw [List.getElem?_take] at h1 h2
  by_cases c : i < k
  ·rw [if_pos c] at h1 h2
   exact a.2 _ x d h1 h2
  ·rw [if_neg c] at h1
   cases h1⟩
theorem wO.av {H : Hp} {O : Own} {M : MH} {xs : List V} {l : List Dat} (r : wO H O xs l) : ze H O M xs (l.map .d) :=
 ⟨by rw [List.length_map]; exact r.1, fun i x d h1 h2 => by
  rw [List.getElem?_map] at h2
  cases e : l[i]? with
  | none => rw [e] at h2; cases h2
  | some y => rw [e] at h2; cases h2; exact r.2 i x y h1 e⟩
theorem ze.pure {H : Hp} {O : Own} {M : MH} {xs : List V} {l : List Dat} (r : ze H O M xs (l.map .d)) : wO H O xs l :=
 ⟨by have := r.1; rwa [List.length_map] at this, fun i x d h1 h2 => r.2 i x (.d d) h1 (by rw [List.getElem?_map, h2]; rfl)⟩
theorem Wf.fresh {H : Hp} {O : Own} {M : MH} (w : Wf H O M) {p : Addr} (h : H p = none) : ¬ O p /\ M p = none := by
 have : ¬ O p := fun z => w.ne p z h
 exact ⟨this, by
  cases e : M p with
  | none => rfl
  | some o => exact absurd (w.own p (by rw [e]; exact fun z => nomatch z)) this⟩
theorem qu.ext {H H' : Hp} {O O' : Own} {M M' : MH} (k : Ext H O M H' O' M') {a : Addr} {o : MO} (e : H' a = H a) (r : qu H O M a o) : qu H' O' M' a o := by
 cases o with
 | lst l => obtain ⟨xs, h, r⟩ := r; exact ⟨xs, e.trans h, r.ext k⟩
 | dK l => obtain ⟨xs, h, r⟩ := r; exact ⟨xs, e.trans h, r.ext k⟩
 | ins C fs => obtain ⟨dx, xs, h, r, q1, q2, q3⟩ := r; obtain ⟨x1, x2, x3⟩ := k.prv dx q1 q2; exact ⟨dx, xs, e.trans h, r.ext k, x2, x3, x1.trans q3⟩
theorem qj {H : Hp} {O : Own} {M : MH} (w : Wf H O M) {p : Addr} (h : H p = none) (o : HO) : Ext H O M (upd H p o) O M :=
 ⟨fun a u ha e => ⟨by rw [zh (zi e h)]; exact e, ha⟩, fun a ha e => ⟨zh (fun z => w.ne a ha (by rw [z]; exact h)), ha, e⟩, fun _ h => h⟩
theorem kN {H : Hp} {O : Own} {M : MH} (w : Wf H O M) {p : Addr} (h : H p = none) (o : HO) : Wf (upd H p o) O M :=
 ⟨fun a mo e => qu.ext (qj w h o) (zh (fun z => by rw [z, (w.fresh h).2] at e; cases e)) (w.mo a mo e), w.own, fun a ha => by
  have : a ≠ p := fun z => w.ne a ha (by rw [z]; exact h)
  rw [zh this]; exact w.al a ha⟩
def wZ (O : Own) (p : Addr) : Own := fun a => a = p \/ O a
def yq (O : Own) (p : Addr) : Own := fun a => a ≠ p /\ O a
theorem xS {H : Hp} {O : Own} {M : MH} (w : Wf H O M) {p : Addr} (h : M p ≠ none) (o : HO) (mo : MO) : Ext H O M (upd H p o) O (mup M p mo) :=
 ⟨fun a u ha e => ⟨by rw [zh (fun z => ha (by rw [z]; exact w.own p h))]; exact e, ha⟩, fun a ha e => by
  have hne : a ≠ p := fun z => h (by rw [<- z]; exact e)
  exact ⟨zh hne, ha, by rw [zC hne]; exact e⟩, fun a ha => by
  by_cases e : a = p
  ·rw [e, zj]; exact fun z => nomatch z
  ·rw [zC e]; exact ha⟩
theorem Yu {H : Hp} {O : Own} {M : MH} (w : Wf H O M) {p : Addr} (h : M p ≠ none) {o : HO} {mo : MO} (ho : ∀ xs, o ≠ .tup xs) (r : qu (upd H p o) O (mup M p mo) p mo) : Wf (upd H p o) O (mup M p mo) := by
 refine ⟨fun a u e => ?_, fun a ha => ?_, fun a ha => ?_⟩
 ·by_cases c : a = p
  ·subst c; rw [zj] at e; cases e; exact r
  ·rw [zC c] at e
   exact qu.ext (xS w h o mo) (zh c) (w.mo a u e)
 ·by_cases c : a = p
  ·subst c; exact w.own a h
  ·rw [zC c] at ha; exact w.own a ha
 ·by_cases c : a = p
  ·rw [c, zd]; exact ⟨o, rfl, ho⟩
  ·rw [zh c]; exact w.al a ha
theorem qB {H : Hp} {O : Own} {M : MH} (w : Wf H O M) {p : Addr} (h : H p = none) (o : HO) : Ext H O M (upd H p o) (wZ O p) M :=
 ⟨fun a u ha e => ⟨by rw [zh (zi e h)]; exact e, fun z => z.elim (zi e h) ha⟩, fun a ha e => by
  have hne : a ≠ p := fun z => w.ne a ha (by rw [z]; exact h)
  exact ⟨zh hne, .inr ha, e⟩, fun _ h => h⟩
theorem ye {H : Hp} {O : Own} {M : MH} (w : Wf H O M) {p : Addr} (h : H p = none) (o : HO) (ho : ∀ xs, o ≠ .tup xs) : Wf (upd H p o) (wZ O p) M :=
 ⟨fun a mo e => qu.ext (qB w h o) (zh (fun z => by rw [z, (w.fresh h).2] at e; cases e)) (w.mo a mo e), fun a ha => .inr (w.own a ha), fun a ha => by
  by_cases c : a = p
  ·rw [c, zd]; exact ⟨o, rfl, ho⟩
  ·rw [zh c]; exact w.al a (ha.resolve_left c)⟩
theorem kh {H : Hp} {O : Own} {p : Addr} (hO : O p) (o : HO) : ∀ a u, ¬ O a -> H a = some u -> upd H p o a = some u /\ ¬ O a := fun a u ha e => ⟨by rw [zh (fun z => ha (by rw [z]; exact hO))]; exact e, ha⟩
theorem zk.imp {H H' : Hp} {O O' : Own} {M M' : MH} (k : ∀ a o, ¬ O a -> H a = some o -> H' a = some o /\ ¬ O' a) (hm : ∀ a, M a ≠ none -> M' a ≠ none) {v : V} {x : AV} (r : zk H O M v x) : zk H' O' M' v x := by
 cases x with
 | d x => exact Rep.imp k r
 | ref a => exact ⟨r.1, hm a r.2⟩
theorem ze.imp {H H' : Hp} {O O' : Own} {M M' : MH} (k : ∀ a o, ¬ O a -> H a = some o -> H' a = some o /\ ¬ O' a) (hm : ∀ a, M a ≠ none -> M' a ≠ none) {xs : List V} {l : List AV} (r : ze H O M xs l) : ze H' O' M' xs l := ⟨r.1, fun i x d e1 e2 => (r.2 i x d e1 e2).imp k hm⟩
theorem qu.imp {H H' : Hp} {O O' : Own} {M : MH} (k : ∀ a o, ¬ O a -> H a = some o -> H' a = some o /\ ¬ O' a) {a : Addr} {o : MO} (e : H' a = H a) (hd : ∀ dx x, O dx -> M dx = none -> H dx = some (.own x) -> H' dx = some (.own x) /\ O' dx) (r : qu H O M a o) : qu H' O' M a o := by
 cases o with
 | lst l => obtain ⟨xs, h, r⟩ := r; exact ⟨xs, e.trans h, r.imp k fun _ z => z⟩
 | dK l => obtain ⟨xs, h, r⟩ := r; exact ⟨xs, e.trans h, r.1, r.2.imp k fun _ z => z⟩
 | ins C fs => obtain ⟨dx, xs, h, r, q1, q2, q3⟩ := r; exact ⟨dx, xs, e.trans h, ⟨r.1, r.2.imp k fun _ z => z⟩, (hd dx a q1 q2 q3).2, q2, (hd dx a q1 q2 q3).1⟩
theorem vU {H : Hp} {O : Own} {M : MH} (w : Wf H O M) {p : Addr} (hO : O p) (hM : M p = none) {xs : List V} (hp : H p = some (.lst xs)) (o : HO) (ho : ∀ xs, o ≠ .tup xs) : Wf (upd H p o) O M :=
 ⟨fun a mo e => qu.imp (kh hO o) (zh (fun z => by rw [z, hM] at e; cases e)) (fun dx x h1 _ h3 => ⟨by rw [zh (wu h3 hp (fun z => nomatch z))]; exact h3, h1⟩) (w.mo a mo e), w.own, fun a ha => by
  by_cases c : a = p
  ·rw [c, zd]; exact ⟨o, rfl, ho⟩
  ·rw [zh c]; exact w.al a ha⟩
theorem jq {H : Hp} {O : Own} (p : Addr) : ∀ a u, ¬ O a -> H a = some u -> H a = some u /\ ¬ yq O p a := fun a u ha e => ⟨e, fun z => ha z.2⟩
theorem QF {H : Hp} {O : Own} {M : MH} (w : Wf H O M) {p : Addr} (hM : M p = none) {xs : List V} (hp : H p = some (.lst xs)) : Wf H (yq O p) M :=
 ⟨fun a mo e => qu.imp (jq p) rfl (fun dx x h1 _ h3 => ⟨h3, ⟨wu h3 hp (fun z => nomatch z), h1⟩⟩) (w.mo a mo e), fun a ha => ⟨fun z => ha (by rw [z]; exact hM), w.own a ha⟩, fun a ha => w.al a ha.2⟩
end L2
set_option Elab.async false
set_option linter.all false
set_option maxRecDepth 100000
set_option maxHeartbeats 4000000
namespace L2
open PySem PySem.Spec PyProof.Rows
abbrev AK := AV -> MH -> Prop
abbrev AE := ASt -> MH -> AK -> Prop
abbrev AT := ASt -> MH -> (Bool -> MH -> Prop) -> Prop
abbrev AA := ASt -> MH -> (List AV -> MH -> Prop) -> Prop
structure xC where
 nx : ASt -> MH -> Prop
 rt : AK
 bk : ASt -> MH -> Prop := fun _ _ => False
 ct : ASt -> MH -> Prop := fun _ _ => False
abbrev AS := MH -> xC -> ASt -> MH -> Prop
abbrev AG := AV -> ASt -> MH -> (ASt -> MH -> Prop) -> Prop
abbrev AGs := List AV -> ASt -> MH -> (ASt -> MH -> Prop) -> Prop
abbrev AI := ASt -> MH -> (List AV -> (MH -> Prop) -> MH -> Prop) -> Prop
structure Er (H : Hp) (O : Own) (M : MH) (σ : St) (ρ : ASt) : Prop where
 len : σ.length = ρ.length
 get : ∀ (i : Nat) x, ρ[i]? = some (some x) -> ∃ v, σ[i]? = some (some v) /\ zk H O M v x
theorem Er.ext {H H' : Hp} {O O' : Own} {M M' : MH} {σ : St} {ρ : ASt} (e : Er H O M σ ρ) (k : Ext H O M H' O' M') : Er H' O' M' σ ρ := ⟨e.len, fun i x h => let ⟨v, h1, h2⟩ := e.get i x h; ⟨v, h1, h2.ext k⟩⟩
theorem Er.set {H : Hp} {O : Own} {M : MH} {σ : St} {ρ : ASt} (e : Er H O M σ ρ) {v : V} {x : AV} (r : zk H O M v x) (j : Nat) : Er H O M (σ.set j (some v)) (ρ.set j (some x)) :=
 ⟨by rw [List.length_set, List.length_set, e.len], fun i y h => by
  rw [List.getElem?_set] at h ⊢
  by_cases c : j = i
  ·rw [if_pos c] at h ⊢
   by_cases c2 : j < ρ.length
   ·rw [if_pos c2] at h; rw [if_pos (by rw [e.len]; exact c2)]; cases h; exact ⟨v, rfl, r⟩
   ·rw [if_neg c2] at h; cases h
  ·rw [if_neg c] at h ⊢; exact e.get i y h⟩
def Kg : List Nat -> ASt -> ASt
 | [], σ => σ
 | j :: r, σ => Kg r (σ.set j none)
theorem Er.clr {H : Hp} {O : Own} {M : MH} : ∀ (ts : List Nat) {σ : St} {ρ : ASt}, Er H O M σ ρ -> Er H O M (clr ts σ) (Kg ts ρ)
  | [], _, _, e => e
  | j :: r, σ, ρ, e => Er.clr r ⟨by rw [List.length_set, List.length_set, e.len], fun i y h => by
      rw [List.getElem?_set] at h ⊢
      by_cases c : j = i
      · rw [if_pos c] at h
        split at h <;> cases h
      · rw [if_neg c] at h ⊢; exact e.get i y h⟩
structure zL (t : TE) (a : AE) : Prop where
 go : ∀ {σ : St} {H : Hp} {O : Own} {ρ : ASt} {M : MH} {Q : VK} {Q' : AK}, Wf H O M -> Er H O M σ ρ -> a ρ M Q' -> (∀ x M' v H' O', Q' x M' -> Ext H O M H' O' M' -> Wf H' O' M' -> zk H' O' M' v x -> Q v H') -> t σ H Q
structure jH (t : TT) (a : AT) : Prop where
 go : ∀ {σ : St} {H : Hp} {O : Own} {ρ : ASt} {M : MH} {Q : Bool -> Hp -> Prop} {Q' : Bool -> MH -> Prop}, Wf H O M -> Er H O M σ ρ -> a ρ M Q' -> (∀ b M' H' O', Q' b M' -> Ext H O M H' O' M' -> Wf H' O' M' -> Q b H') -> t σ H Q
structure ky (t : TA) (a : AA) : Prop where
 go : ∀ {σ : St} {H : Hp} {O : Own} {ρ : ASt} {M : MH} {Q : List V -> Hp -> Prop} {Q' : List AV -> MH -> Prop}, Wf H O M -> Er H O M σ ρ -> a ρ M Q' -> (∀ x M' v H' O', Q' x M' -> Ext H O M H' O' M' -> Wf H' O' M' -> ze H' O' M' v x -> Q v H') -> t σ H Q
structure yR (t : TE) (a : ASt -> MH -> (List AV -> MH -> Prop) -> Prop) : Prop where
 go : ∀ {σ : St} {H : Hp} {O : Own} {ρ : ASt} {M : MH} {Q : VK} {Q' : List AV -> MH -> Prop}, Wf H O M -> Er H O M σ ρ -> a ρ M Q' ->
  (∀ l M' p xs H' O', Q' l M' -> Ext H O M H' O' M' -> Wf H' O' M' -> O' p -> M' p = none -> H p = none -> H' p = some (.lst xs) -> ze H' O' M' xs l -> Q (.ref p) H') -> t σ H Q
abbrev AR2 := AV -> AV -> MH -> AK -> Prop
structure vF (r : R2) (a : AR2) : Prop where
 go : ∀ {x y : V} {dx dy : AV} {H : Hp} {O : Own} {M : MH} {Q : VK} {Q' : AK}, Wf H O M -> zk H O M x dx -> zk H O M y dy -> a dx dy M Q' -> (∀ x M' v H' O', Q' x M' -> Ext H O M H' O' M' -> Wf H' O' M' -> zk H' O' M' v x -> Q v H') -> r x y H Q
structure Wd (r : V -> Hp -> VK -> Prop) (a : AV -> MH -> AK -> Prop) : Prop where
 go : ∀ {x : V} {dx : AV} {H : Hp} {O : Own} {M : MH} {Q : VK} {Q' : AK}, Wf H O M -> zk H O M x dx -> a dx M Q' -> (∀ x M' v H' O', Q' x M' -> Ext H O M H' O' M' -> Wf H' O' M' -> zk H' O' M' v x -> Q v H') -> r x H Q
structure xY (r : List V -> Hp -> VK -> Prop) (a : List AV -> MH -> AK -> Prop) : Prop where
 go : ∀ {vs : List V} {xs : List AV} {H : Hp} {O : Own} {M : MH} {Q : VK} {Q' : AK}, Wf H O M -> ze H O M vs xs -> a xs M Q' -> (∀ x M' v H' O', Q' x M' -> Ext H O M H' O' M' -> Wf H' O' M' -> zk H' O' M' v x -> Q v H') -> r vs H Q
def JZ (i : Nat) : AE := fun ρ M Q => ∃ x, ρ[i]? = some (some x) /\ Q x M
def aC (d : Dat) : AE := fun _ M Q => Q (.d d) M
theorem JF {i : Nat} : zL (Ke i) (JZ i) := ⟨fun w e ⟨x, h, q⟩ k => let ⟨v, h1, h2⟩ := e.get i x h; ⟨v, h1, k _ _ _ _ _ q .refl w h2⟩⟩
theorem Yg {i : Int} : zL (tC (.int i)) (aC (.int i)) := ⟨fun w _ q k => k _ _ _ _ _ q .refl w .int⟩
theorem Xp {i : Bool} : zL (tC (.bl i)) (aC (.bl i)) := ⟨fun w _ q k => k _ _ _ _ _ q .refl w .bl⟩
theorem Xl : zL (tC .non) (aC .non) := ⟨fun w _ q k => k _ _ _ _ _ q .refl w .non⟩
theorem Xn {i : Str} : zL (tC (.str i)) (aC (.str i)) := ⟨fun w _ q k => k _ _ _ _ _ q .refl w .str⟩
theorem Xk {i : String} : zL (tC (.ty i)) (aC (.ty i)) := ⟨fun w _ q k => k _ _ _ _ _ q .refl w .ty⟩
def aOp (r : AR2) (a b : AE) : AE := fun ρ M Q => a ρ M fun x M1 => b ρ M1 fun y M2 => r x y M2 Q
theorem XM {r : R2} {ra : AR2} {t u : TE} {a b : AE} (hr : vF r ra) (h1 : zL t a) (h2 : zL u b) : zL (tOp r t u) (aOp ra a b) :=
 ⟨fun w e q k => h1.go w e q fun x M1 v H1 O1 q1 k1 w1 r1 => h2.go w1 (e.ext k1) q1 fun y M2 u H2 O2 q2 k2 w2 r2 => hr.go w2 (r1.ext k2) r2 q2 fun z M3 v3 H3 O3 q3 k3 w3 r3 => k z M3 v3 H3 O3 q3 ((k1.trans k2).trans k3) w3 r3⟩
def Yp : AA := fun _ M Q => Q [] M
def vY (a : AE) (b : AA) : AA := fun ρ M Q => a ρ M fun x M1 => b ρ M1 fun xs M2 => Q (x :: xs) M2
theorem JP : ky Xs Yp := ⟨fun w _ q k => k _ _ _ _ _ q .refl w .nil⟩
theorem Qd {t : TE} {u : TA} {a : AE} {b : AA} (h1 : zL t a) (h2 : ky u b) : ky (Z3 t u) (vY a b) :=
 ⟨fun w e q k => h1.go w e q fun x M1 v H1 O1 q1 k1 w1 r1 => h2.go w1 (e.ext k1) q1 fun y M2 u H2 O2 q2 k2 w2 r2 => k _ _ _ _ _ q2 (k1.trans k2) w2 (.cons (r1.ext k2) r2)⟩
theorem Ji {H : Hp} {O : Own} {M : MH} (is : List Int) : ze H O M (is.map V.int) (is.map fun i => .d (.int i)) := by
 induction is with
 | nil => exact .nil
 | cons i r ih => exact .cons .int ih
def aCB (r : List AV -> MH -> AK -> Prop) (b : AA) : AE := fun ρ M Q => b ρ M fun xs M1 => r xs M1 Q
theorem XA {r : List V -> Hp -> VK -> Prop} {ra : List AV -> MH -> AK -> Prop} {u : TA} {b : AA} (hr : xY r ra) (h2 : ky u b) : zL (tCB r u) (aCB ra b) :=
 ⟨fun w e q k => h2.go w e q fun x M1 v H1 O1 q1 k1 w1 r1 => hr.go w1 r1 q1 fun z M3 v3 H3 O3 q3 k3 w3 r3 => k z M3 v3 H3 O3 q3 (k1.trans k3) w3 r3⟩
abbrev ASp := List AV -> MH -> AK -> Prop
def cSp (a : ASp) : Sp := fun vs H Q _ => ∃ xs M O Q', Wf H O M /\ ze H O M vs xs /\ a xs M Q' /\ ∀ x M' v H' O', Q' x M' -> Ext H O M H' O' M' -> Wf H' O' M' -> zk H' O' M' v x -> Q v H'
def ZU (sp : ASp) (b : AA) : AE := fun ρ M Q => b ρ M fun xs M1 => sp xs M1 Q
theorem Qx {sp : ASp} {u : TA} {b : AA} (h : ky u b) : zL (wj (cSp sp) [] E0 u) (ZU sp b) :=
 ⟨fun w e q k => h.go w e q fun x M1 v H1 O1 q1 k1 w1 r1 => ⟨x, M1, O1, _, w1, by rw [List.append_nil]; exact r1, q1, fun z M3 v3 H3 O3 q3 k3 w3 r3 => k z M3 v3 H3 O3 q3 (k1.trans k3) w3 r3⟩⟩
def pur : List AV -> Option (List Dat)
 | [] => some []
 | .d x :: r => match pur r with | some l => some (x :: l) | none => none
 | .ref _ :: _ => none
theorem JL : pur [] = some [] := rfl
theorem ZQ {x : Dat} {r : List AV} {l : List Dat} (h : pur r = some l) : pur (.d x :: r) = some (x :: l) := by unfold pur; rw [h]
theorem zA (l : List Dat) : pur (l.map .d) = some l := by
 induction l with
 | nil => rfl
 | cons x r ih => exact ZQ ih
theorem qQ : ∀ {xs : List AV} {l : List Dat}, pur xs = some l -> xs = l.map .d
 | [], l, h => by cases h; rfl
 | .d x :: r, l, h => by
  unfold pur at h
  cases e : pur r with
  | none => rw [e] at h; cases h
  | some m => rw [e] at h; cases h; rw [qQ e]; rfl
 | .ref _ :: _, _, h => by cases h
theorem Ext.shown {H H' : Hp} {O O' : Own} {M M' : MH} {p : Addr} (w : Wf H O M) (k : Ext H O M H' O' M') (h : H p = none) : Ext H O M H' (yq O' p) M' :=
 ⟨fun a o ha e => ⟨(k.fix a o ha e).1, fun z => (k.fix a o ha e).2 z.2⟩, fun a ha e => ⟨(k.prv a ha e).1, ⟨fun z => w.ne a ha (by rw [z]; exact h), (k.prv a ha e).2.1⟩, (k.prv a ha e).2.2⟩, k.mst⟩
theorem Ext.owned {H H' : Hp} {O O' : Own} {M M' : MH} {p : Addr} (w : Wf H O M) (k : Ext H O M H' O' M') (h : H p = none) (mo : MO) : Ext H O M H' O' (mup M' p mo) :=
 ⟨k.fix, fun a ha e => ⟨(k.prv a ha e).1, (k.prv a ha e).2.1, by rw [zC (fun z => w.ne a ha (by rw [z]; exact h))]; exact (k.prv a ha e).2.2⟩, fun a ha => by
  by_cases e : a = p
  ·rw [e, zj]; exact fun z => nomatch z
  ·rw [zC e]; exact k.mst a ha⟩
theorem yQ {H : Hp} {O : Own} {M : MH} {p : Addr} (w : Wf H O M) (hO : O p) (hM : M p = none) {xs : List V} {l : List AV} (hp : H p = some (.lst xs)) (r : ze H O M xs l) : Wf H O (mup M p (.lst l)) := by
 have km : ∀ a, M a ≠ none -> mup M p (.lst l) a ≠ none := fun a ha => by
  by_cases e : a = p
  ·rw [e, zj]; exact fun z => nomatch z
  ·rw [zC e]; exact ha
 refine ⟨fun a u e => ?_, fun a ha => ?_, w.al⟩
 ·by_cases c : a = p
  ·subst c; rw [zj] at e; cases e; exact ⟨xs, hp, r.imp (fun _ _ z h => ⟨h, z⟩) km⟩
  ·rw [zC c] at e
   have := w.mo a u e
   cases u with
   | lst m => obtain ⟨ys, h1, h2⟩ := this; exact ⟨ys, h1, h2.imp (fun _ _ z h => ⟨h, z⟩) km⟩
   | dK m => obtain ⟨ys, h1, h2⟩ := this; exact ⟨ys, h1, h2.1, h2.2.imp (fun _ _ z h => ⟨h, z⟩) km⟩
   | ins C fs =>
    obtain ⟨dx, ys, h1, h2, h3, h4, h5⟩ := this
    exact ⟨dx, ys, h1, ⟨h2.1, h2.2.imp (fun _ _ z h => ⟨h, z⟩) km⟩, h3, by rw [zC (wu h5 hp (fun z => nomatch z))]; exact h4, h5⟩
 ·by_cases c : a = p
  ·rw [c]; exact hO
  ·rw [zC c] at ha; exact w.own a ha
abbrev AF := ASt -> MH -> (List AV -> MH -> Prop) -> Prop
def aFz (a : AF) : AE := fun ρ M Q => a ρ M fun l M' => ∃ ds, pur l = some ds /\ Q (.d (.lst ds)) M'
def aOw (a : AF) : AE := fun ρ M Q => a ρ M fun l M' => ∀ p, M p = none -> M' p = none -> Q (.ref p) (mup M' p (.lst l))
def Vp (t : TE) : TE := t
theorem vM {X : Cx} {e : Expr} {t : TE} (h : PE X e t) : PE X e (Vp t) := h
theorem v7 {t : TE} {a : AF} (h : yR t a) : zL t (aFz a) :=
 ⟨fun w e q k => h.go w e q fun l M' p xs H' O' q1 k1 w1 o1 m1 hp hx r1 => by
  obtain ⟨ds, e1, q2⟩ := q1
  rw [qQ e1] at r1
  have r2 := r1.pure
  exact k _ _ _ _ _ q2 (k1.shown w hp) (QF w1 m1 hx) (Rep.lst (fun z => z.1 rfl) hx r2.1 fun i x d e1 e2 => (r2.2 i x d e1 e2).imp (jq p))⟩
theorem KJ {t : TE} {a : AF} (h : yR t a) : zL (Vp t) (aOw a) :=
 ⟨fun w e q k => h.go w e q fun l M' p xs H' O' q1 k1 w1 o1 m1 hp hx r1 => k _ _ _ _ _ (q1 p (w.fresh hp).2 m1) (k1.owned w hp _) (yQ w1 o1 m1 hx r1) ⟨rfl, by rw [zj]; exact fun z => nomatch z⟩⟩
def Vw (b : AA) : AF := fun ρ M Q => b ρ M fun xs M1 => xs.length <= sizeLine /\ Q xs M1
theorem QC {u : TA} {b : AA} (h : ky u b) : yR (YT u) (Vw b) :=
 ⟨fun w e q k => h.go w e q fun x M1 v H1 O1 q1 k1 w1 r1 => ⟨by rw [r1.1]; exact q1.1, fun p hp =>
  k x M1 p v _ _ q1.2 (k1.trans (qB w1 hp _)) (ye w1 hp _ (fun _ z => nomatch z)) (.inl rfl) (w1.fresh hp).2 (by
   cases e0 : (_ : Hp) p with
   | none => exact e0
   | some o =>
    exfalso
    rename_i H0 O0 _ M0 _ _
    by_cases c : O0 p
    ·by_cases c2 : M0 p = none
     ·exact w1.ne p (k1.prv p c c2).2.1 hp
     ·exact w1.ne p (w1.own p (k1.mst p c2)) hp
    ·rw [(k1.fix p o c e0).1] at hp; cases hp) zd (r1.ext (qB w1 hp _))⟩⟩
def Y6 (b : AA) : AE := fun ρ M Q => b ρ M fun xs M1 => xs.length <= sizeLine /\ ∃ ds, pur xs = some ds /\ Q (.d (.tup ds)) M1
theorem Jy {u : TA} {b : AA} (h : ky u b) : zL (YL u) (Y6 b) :=
 ⟨fun w e q k => h.go w e q fun x M1 v H1 O1 q1 k1 w1 r1 => ⟨by rw [r1.1]; exact q1.1, fun p hp => by
  obtain ⟨_, ds, e1, q2⟩ := q1
  rw [qQ e1] at r1
  have r2 := r1.pure
  exact k _ _ _ _ _ q2 (k1.trans (qj w1 hp _)) (kN w1 hp _) (Rep.tup (w1.fresh hp).1 zd r2.1 fun i x d e1 e2 => (r2.2 i x d e1 e2).ext (qj w1 hp _))⟩⟩
def aB (a : AE) : AT := fun ρ M Q => a ρ M fun x M1 => ∃ b, x = .d (.bl b) /\ Q b M1
theorem j7 {H : Hp} {O : Own} {v : V} {b : Bool} (r : Rep H O v (.bl b)) : v = .bl b := by cases r; rfl
theorem zK {H : Hp} {O : Own} {v : V} {b : Int} (r : Rep H O v (.int b)) : v = .int b := by cases r; rfl
theorem QA {H : Hp} {O : Own} {v : V} {b : String} (r : Rep H O v (.ty b)) : v = .ty b := by cases r; rfl
theorem Kd {H : Hp} {O : Own} {v : V} (r : Rep H O v .non) : v = .non := by cases r; rfl
theorem Vh {t : TE} {a : AE} (h : zL t a) : jH (tB t) (aB a) := ⟨fun w e q k => h.go w e q fun x M1 v H1 O1 ⟨b, e1, q1⟩ k1 w1 r1 => by
 subst e1; exact ⟨b, j7 r1, k _ _ _ _ q1 k1 w1⟩⟩
theorem Jp {t : TE} {a : AE} (h : zL t a) : jH (QZ t) (aB a) := ⟨fun w e q k => h.go w e q fun x M1 v H1 O1 ⟨b, e1, q1⟩ k1 w1 r1 => by
 subst e1; exact ⟨b, j7 r1, k _ _ _ _ q1 k1 w1⟩⟩
def wz : AT := fun _ M Q => Q true M
theorem QH : jH QT wz := ⟨fun w _ q k => k _ _ _ _ q .refl w⟩
def aOr (a b : AT) : AT := fun ρ M Q => a ρ M fun c M1 => if c = true then Q true M1 else b ρ M1 Q
def Vc (a : AT) : AT := fun ρ M Q => a ρ M fun c M1 => Q (!c) M1
theorem Y3 {t u : TT} {a b : AT} (h1 : jH t a) (h2 : jH u b) : jH (tOr t u) (aOr a b) := ⟨fun w e q k => h1.go w e q fun c M1 H1 O1 q1 k1 w1 => by
 cases c with
 | false => exact h2.go w1 (e.ext k1) q1 fun c M2 H2 O2 q2 k2 w2 => k _ _ _ _ q2 (k1.trans k2) w2
 | true => exact k _ _ _ _ q1 k1 w1⟩
theorem JO {t : TT} {a : AT} (h1 : jH t a) : jH (YK t) (Vc a) := ⟨fun w e q k => h1.go w e q fun c M1 H1 O1 q1 k1 w1 => k _ _ _ _ q1 k1 w1⟩
def KO (a b : AE) : AE := fun ρ M Q => a ρ M fun x M1 => ∃ c, x = .d (.bl c) /\ if c = true then b ρ M1 Q else Q (.d (.bl false)) M1
theorem Qz {t u : TE} {a b : AE} (h1 : zL t a) (h2 : zL u b) : zL (Z0 t u) (KO a b) := ⟨fun w e q k => h1.go w e q fun x M1 v H1 O1 ⟨c, e1, q1⟩ k1 w1 r1 => by
 subst e1
 refine ⟨c, j7 r1, ?_⟩
 cases c with
 | true => exact h2.go w1 (e.ext k1) q1 fun c M2 v2 H2 O2 q2 k2 w2 r2 => k _ _ _ _ _ q2 (k1.trans k2) w2 r2
 | false => exact k _ _ _ _ _ q1 k1 w1 .bl⟩
end L2
set_option Elab.async false
set_option linter.all false
set_option maxRecDepth 100000
set_option maxHeartbeats 4000000
namespace L2
open PySem PySem.Spec PyProof.Rows
structure ED (H0 : Hp) (O0 : Own) (M0 : MH) (D : jG) (D' : xC) : Prop where
 nx : ∀ σ H O ρ M, Wf H O M -> Er H O M σ ρ -> Ext H0 O0 M0 H O M -> D'.nx ρ M -> D.nx σ H
 rt : ∀ v x H O M, Wf H O M -> Ext H0 O0 M0 H O M -> zk H O M v x -> D'.rt x M -> D.rt v H
 bk : ∀ σ H O ρ M, Wf H O M -> Er H O M σ ρ -> Ext H0 O0 M0 H O M -> D'.bk ρ M -> D.bk σ H
 ct : ∀ σ H O ρ M, Wf H O M -> Er H O M σ ρ -> Ext H0 O0 M0 H O M -> D'.ct ρ M -> D.ct σ H
theorem ED.tr {H0 H1 : Hp} {O0 O1 : Own} {M0 M1 : MH} {D : jG} {D' : xC} (E : ED H0 O0 M0 D D') (k : Ext H0 O0 M0 H1 O1 M1) : ED H1 O1 M1 D D' :=
 ⟨fun σ H O ρ M w e x q => E.nx σ H O ρ M w e (k.trans x) q, fun v y H O M w x r q => E.rt v y H O M w (k.trans x) r q, fun σ H O ρ M w e x q => E.bk σ H O ρ M w e (k.trans x) q, fun σ H O ρ M w e x q => E.ct σ H O ρ M w e (k.trans x) q⟩
structure jf (t : TS) (a : AS) : Prop where
 go : ∀ {H0 : Hp} {O0 : Own} {M0 : MH} {D : jG} {D' : xC} {σ : St} {H : Hp} {O : Own} {ρ : ASt} {M : MH}, Wf H0 O0 M0 -> Wf H O M -> Er H O M σ ρ -> Ext H0 O0 M0 H O M -> a M0 D' ρ M -> ED H0 O0 M0 D D' -> t D σ H
def ZH : AS := fun _ D ρ M => D.nx ρ M
theorem ZG : jf ZK ZH := ⟨fun _ w e x q E => E.nx _ _ _ _ _ w e x q⟩
def wR (a b : AS) : AS := fun B D ρ M => a B { D with nx := b B D } ρ M
theorem Ka {t u : TS} {a b : AS} (h1 : jf t a) (h2 : jf u b) : jf (yG t u) (wR a b) :=
 ⟨fun w0 w e x q E => h1.go w0 w e x q ⟨fun σ H O ρ M w e x q => h2.go w0 w e x q E, E.rt, E.bk, E.ct⟩⟩
def K1 (a : AE) : AS := fun _ D ρ M => a ρ M fun _ M1 => D.nx ρ M1
theorem QO {t : TE} {a : AE} (h : zL t a) : jf (Qg t) (K1 a) := ⟨fun _ w e x q E => h.go w e q fun y M1 v H1 O1 q1 k1 w1 r1 => E.nx _ _ _ _ _ w1 (e.ext k1) (x.trans k1) q1⟩
def VM (a : AE) : AS := fun _ D ρ M => a ρ M D.rt
theorem JR {t : TE} {a : AE} (h : zL t a) : jf (KM t) (VM a) := ⟨fun _ w e x q E => h.go w e q fun y M1 v H1 O1 q1 k1 w1 r1 => E.rt _ _ _ _ _ w1 (x.trans k1) r1 q1⟩
def Vx (c : AT) (a b : AS) : AS := fun B D ρ M => c ρ M fun k M1 => if k = true then a B D ρ M1 else b B D ρ M1
theorem Ks {c : TT} {t u : TS} {ac : AT} {a b : AS} (hc : jH c ac) (h1 : jf t a) (h2 : jf u b) : jf (Xo c t u) (Vx ac a b) :=
 ⟨fun w0 w e x q E => hc.go w e q fun k M1 H1 O1 q1 k1 w1 => by
  cases k with
  | true => exact h1.go w0 w1 (e.ext k1) (x.trans k1) q1 E
  | false => exact h2.go w0 w1 (e.ext k1) (x.trans k1) q1 E⟩
structure kK (g : TG) (a : AG) : Prop where
 go : ∀ {v : V} {x : AV} {σ : St} {H : Hp} {O : Own} {ρ : ASt} {M : MH} {Q : St -> Hp -> Prop} {Q' : ASt -> MH -> Prop}, Wf H O M -> Er H O M σ ρ -> zk H O M v x -> a x ρ M Q' ->
  (∀ σ' H' O' ρ' M', Q' ρ' M' -> Ext H O M H' O' M' -> Wf H' O' M' -> Er H' O' M' σ' ρ' -> Q σ' H') -> g v σ H Q
structure wA (g : TGs) (a : AGs) : Prop where
 go : ∀ {v : List V} {x : List AV} {σ : St} {H : Hp} {O : Own} {ρ : ASt} {M : MH} {Q : St -> Hp -> Prop} {Q' : ASt -> MH -> Prop}, Wf H O M -> Er H O M σ ρ -> ze H O M v x -> a x ρ M Q' ->
  (∀ σ' H' O' ρ' M', Q' ρ' M' -> Ext H O M H' O' M' -> Wf H' O' M' -> Er H' O' M' σ' ρ' -> Q σ' H') -> g v σ H Q
def qt (i : Nat) : AG := fun x ρ M Q => Q (ρ.set i (some x)) M
theorem Zf {i : Nat} : kK (vi i) (qt i) := ⟨fun w e r q k => k _ _ _ _ _ q .refl w (e.set r i)⟩
def ZJ : AGs := fun xs ρ M Q => xs = [] /\ Q ρ M
def xX (a : AG) (b : AGs) : AGs := fun xs ρ M Q => ∃ x r, xs = x :: r /\ a x ρ M fun ρ' M' => b r ρ' M' Q
theorem Qi : wA XB ZJ := ⟨fun w e r q k => by obtain ⟨e1, q⟩ := q; subst e1; exact ⟨r.nil_inv, k _ _ _ _ _ q .refl w e⟩⟩
theorem Ze {g : TG} {u : TGs} {a : AG} {b : AGs} (h1 : kK g a) (h2 : wA u b) : wA (Qo g u) (xX a b) := ⟨fun w e r q k => by
 obtain ⟨x, r', e1, q⟩ := q; subst e1
 obtain ⟨v, vr, e2, rv, rr⟩ := r.cons_inv
 subst e2
 exact ⟨v, vr, rfl, h1.go w e rv q fun σ' H' O' ρ' M' q1 k1 w1 e1 => h2.go w1 e1 (rr.ext k1) q1 fun σ2 H2 O2 ρ2 M2 q2 k2 w2 e2 => k _ _ _ _ _ q2 (k1.trans k2) w2 e2⟩⟩
def Jr (n : Nat) (b : AGs) : AG := fun x ρ M Q => ∃ l, x = .d (.tup l) /\ l.length = n /\ b (l.map .d) ρ M Q
theorem QL {K : PySem.W.Frag} {n : Nat} {u : TGs} {b : AGs} (h : wA u b) : kK (Kw K n u) (Jr n b) := ⟨fun {v x σ H O ρ M Q Q'} w e r q k => by
 obtain ⟨l, e1, ln, q⟩ := q; subst e1
 cases (show Rep H O v (.tup l) from r) with
 | @tup a xs _ o1 h1 l1 r1 => exact ⟨a, xs, rfl, SqT.of h1, l1.trans ln, h.go w e (wO.av ⟨l1, r1⟩) q k⟩⟩
def zU (x : AV) (M : MH) : Option (List AV) := match x with
 | .d (.lst l) => some (l.map .d)
 | .ref a => match M a with
  | some (.lst l) => some l
  | _ => none
 | _ => none
def wU (x : AV) : Option (List AV) := match x with
 | .d (.tup l) => some (l.map .d)
 | _ => none
def qF (x : AV) (M : MH) : Option (List AV) := match x with
 | .d (.lst l) => some (l.map .d)
 | .d (.tup l) => some (l.map .d)
 | .ref a => match M a with
  | some (.lst l) => some l
  | _ => none
 | _ => none
theorem Qe (l : List Dat) (M : MH) : zU (.d (.lst l)) M = some (l.map .d) := rfl
theorem Xv (l : List Dat) : wU (.d (.tup l)) = some (l.map .d) := rfl
theorem qH (l : List Dat) (M : MH) : qF (.d (.lst l)) M = some (l.map .d) := rfl
theorem jh (l : List Dat) (M : MH) : qF (.d (.tup l)) M = some (l.map .d) := rfl
theorem jR {a : Addr} {M : MH} {l : List AV} (h : M a = some (.lst l)) : zU (.ref a) M = some l := by unfold zU; dsimp only; rw [h]
theorem jN {a : Addr} {M : MH} {l : List AV} (h : M a = some (.lst l)) : qF (.ref a) M = some l := by unfold qF; dsimp only; rw [h]
theorem Z2 {x : AV} {M : MH} {l : List AV} (h : zU x M = some l) : (∃ m, x = .d (.lst m) /\ l = m.map .d) \/ ∃ a, x = .ref a /\ M a = some (.lst l) := by
 cases x with
 | d x =>
  cases x with
  | lst m => cases h; exact .inl ⟨m, rfl, rfl⟩
  | _ => cases h
 | ref a =>
  unfold zU at h
  dsimp only at h
  cases e : M a with
  | none => rw [e] at h; cases h
  | some o =>
   rw [e] at h
   cases o with
   | lst m => cases h; exact .inr ⟨a, rfl, e⟩
   | _ => cases h
theorem jO {x : AV} {M : MH} {l : List AV} (h : qF x M = some l) : zU x M = some l \/ ∃ m, x = .d (.tup m) /\ l = m.map .d := by
 cases x with
 | d x =>
  cases x with
  | lst m => cases h; exact .inl rfl
  | tup m => cases h; exact .inr ⟨m, rfl, rfl⟩
  | _ => cases h
 | ref a => exact .inl h
theorem qc {H : Hp} {O : Own} {M : MH} {v : V} {x : AV} {l : List AV} (w : Wf H O M) (r : zk H O M v x) (h : zU x M = some l) : ∃ a xs, v = .ref a /\ H a = some (.lst xs) /\ ze H O M xs l := by
 rcases Z2 h with ⟨m, rfl, rfl⟩ | ⟨a, rfl, e⟩
 ·cases (show Rep H O v (.lst m) from r) with
  | @lst a xs _ o1 h1 l1 r1 => exact ⟨a, xs, rfl, h1, wO.av ⟨l1, r1⟩⟩
 ·obtain ⟨xs, h1, r1⟩ := w.mo a _ e
  exact ⟨a, xs, r.1, h1, r1⟩
theorem qp {H : Hp} {O : Own} {M : MH} {v : V} {x : AV} {l : List AV} (r : zk H O M v x) (h : wU x = some l) : ∃ a xs, v = .ref a /\ H a = some (.tup xs) /\ ze H O M xs l := by
 cases x with
 | ref a => cases h
 | d x =>
  cases x with
  | tup m =>
   cases h
   cases (show Rep H O v (.tup m) from r) with
   | @tup a xs _ o1 h1 l1 r1 => exact ⟨a, xs, rfl, h1, wO.av ⟨l1, r1⟩⟩
  | _ => cases h
theorem Jc {H : Hp} {O : Own} {M : MH} {v : V} {x : AV} {l : List AV} (w : Wf H O M) (r : zk H O M v x) (h : qF x M = some l) : ∃ a xs, v = .ref a /\ (H a = some (.lst xs) \/ H a = some (.tup xs)) /\ ze H O M xs l := by
 rcases jO h with e | ⟨m, rfl, rfl⟩
 ·obtain ⟨a, xs, h1, h2, h3⟩ := qc w r e; exact ⟨a, xs, h1, .inl h2, h3⟩
 ·obtain ⟨a, xs, h1, h2, h3⟩ := qp (l := m.map .d) r rfl; exact ⟨a, xs, h1, .inr h2, h3⟩
structure VZ (t : JQ) (a : AV -> AV -> AV -> MH -> (MH -> Prop) -> Prop) : Prop where
 go : ∀ {o i v : V} {ao ai av : AV} {H : Hp} {O : Own} {M : MH} {Q : Hp -> Prop} {Q' : MH -> Prop}, Wf H O M -> zk H O M o ao -> zk H O M i ai -> zk H O M v av -> a ao ai av M Q' -> (∀ M' H' O', Q' M' -> Ext H O M H' O' M' -> Wf H' O' M' -> Q H') -> t o i v H Q
theorem jt {M : MH} {p : Addr} {o : MO} (h : M p = some o) : M p ≠ none := by rw [h]; exact fun z => nomatch z
def VB (a : AE) (g : AG) : AS := fun _ D ρ M => a ρ M fun x M1 => g x ρ M1 D.nx
theorem JB {t : TE} {g : TG} {a : AE} {ag : AG} (h : zL t a) (hg : kK g ag) : jf (Jm t g) (VB a ag) := ⟨fun _ w e x q E => h.go w e q fun y M1 v H1 O1 q1 k1 w1 r1 => hg.go w1 (e.ext k1) r1 q1 fun σ2 H2 O2 ρ2 M2 q2 k2 w2 e2 => E.nx _ _ _ _ _ w2 e2 ((x.trans k1).trans k2) q2⟩
structure Wc (t : TIp) (a : AR2) : Prop where
 go : ∀ {x y : V} {dx dy : AV} {H : Hp} {O : Own} {M : MH} {Q : VK} {Q' : AK}, Wf H O M -> zk H O M x dx -> zk H O M y dy -> a dx dy M Q' -> (∀ x M' v H' O', Q' x M' -> Ext H O M H' O' M' -> Wf H' O' M' -> zk H' O' M' v x -> Q v H') -> t x y H Q
def xc (J : It) (H : Hp) (O : Own) (M : MH) (l : List AV) (G : MH -> Prop) : Prop :=
 ∀ (H' : Hp) (O' : Own) (M' : MH), (∀ a o, ¬ O a -> H a = some o -> H' a = some o /\ ¬ O' a) -> (∀ a, M a ≠ none -> M' a ≠ none) -> Wf H' O' M' -> G M' -> ∀ i : Nat, (i = l.length -> J.stop i H') /\
  ∀ y, l[i]? = some y -> J.go i H' /\ ∀ x H'', J.yld i H' x H'' -> Ext H' O' M' H'' O' M' /\ Wf H'' O' M' /\ zk H'' O' M' x y
structure xR (wi : TI) (ai : AI) : Prop where
 go : ∀ {σ : St} {H : Hp} {O : Own} {ρ : ASt} {M : MH} {R : It -> Hp -> Prop} {R' : List AV -> (MH -> Prop) -> MH -> Prop}, Wf H O M -> Er H O M σ ρ -> ai ρ M R' -> (∀ l G M' J H' O', R' l G M' -> Ext H O M H' O' M' -> Wf H' O' M' -> xc J H' O' M' l G -> R J H') -> wi σ H R
def VJ (ag : AG) (ab : AS) (B : MH) (D : xC) (G : MH -> Prop) (l : List AV) (ρ : ASt) (M : MH) : Prop :=
 ∃ Pv : Nat -> ASt -> MH -> Prop, Pv 0 ρ M /\ (∀ i x ρ M, l[i]? = some x -> Pv i ρ M -> G M /\ ag x ρ M fun ρ' M' => ab B { D with nx := Pv (i + 1), ct := Pv (i + 1), bk := D.nx } ρ' M') /\ ∀ ρ M, Pv l.length ρ M -> G M /\ D.nx ρ M
def VT (ai : AI) (ag : AG) (ab : AS) : AS := fun _ D ρ M => ai ρ M fun l G M1 => VJ ag ab M1 D G l ρ M1
theorem J4 {wi : TI} {g : TG} {t : TS} {ai : AI} {ag : AG} {ab : AS} (hi : xR wi ai) (hg : kK g ag) (hb : jf t ab) : jf (XG wi g t) (VT ai ag ab) := ⟨fun {H0 O0 M0 D D' σ H O ρ M} w0 w e x q E => by
 rw [wn]
 refine hi.go w e q fun l G M1 J H1 O1 q1 k1 w1 hj => ?_
 have E1 := E.tr (x.trans k1)
 obtain ⟨Pv, p0, ps, pd⟩ := q1
 refine ⟨fun i m σ H => m = l.length - i /\ i <= l.length /\ ∃ O ρ M, Wf H O M /\ Er H O M σ ρ /\ Ext H1 O1 M1 H O M /\ Pv i ρ M, ⟨l.length, by simp, Nat.zero_le _, O1, ρ, M1, w1, e.ext k1, .refl, p0⟩, ?_⟩
 rintro i m σ H ⟨rfl, hi, O, ρ, M, w, e, x, hf⟩
 by_cases hil : i < l.length
 ·have hy : l[i]? = some l[i] := List.getElem?_eq_getElem hil
  obtain ⟨hG, q2⟩ := ps i l[i] ρ M hy hf
  obtain ⟨j1, j2⟩ := (hj H O M x.fix x.mst w hG i).2 l[i] hy
  refine .inr ⟨j1, fun σ' H' => ∃ O ρ M, Wf H' O M /\ Er H' O M σ' ρ /\ Ext H1 O1 M1 H' O M /\ Pv (i + 1) ρ M, fun σ' H' z => ⟨l.length - (i + 1), by omega, rfl, hil, z⟩, fun v H' hv => ?_⟩
  obtain ⟨k2, w2, r2⟩ := j2 v H' hv
  refine hg.go w2 (e.ext k2) r2 q2 fun σ3 H3 O3 ρ3 M3 q3 k3 w3 e3 => ?_
  exact hb.go w1 w3 e3 ((x.trans k2).trans k3) q3 ⟨fun σ H O ρ M w e x q => ⟨O, ρ, M, w, e, x, q⟩, E1.rt, E1.nx, fun σ H O ρ M w e x q => ⟨O, ρ, M, w, e, x, q⟩⟩
 ·have e0 : i = l.length := by omega
  subst e0
  obtain ⟨hG, q2⟩ := pd ρ M hf
  exact .inl ⟨(hj H O M x.fix x.mst w hG l.length).1 rfl, E1.nx _ _ _ _ _ w e x q2⟩⟩
end L2
set_option Elab.async false
set_option linter.all false
set_option maxRecDepth 100000
set_option maxHeartbeats 4000000
namespace L2
open PySem PySem.Spec PyProof.Rows
theorem xa {H H1 : Hp} {O O1 : Own} {M M1 : MH} (w1 : Wf H1 O1 M1) (k1 : Ext H O M H1 O1 M1) {p : Addr} (hp : H1 p = none) : H p = none := by
 cases e0 : H p with
 | none => rfl
 | some o =>
  exfalso
  by_cases c : O p
  ·by_cases c2 : M p = none
   ·exact w1.ne p (k1.prv p c c2).2.1 hp
   ·exact w1.ne p (w1.own p (k1.mst p c2)) hp
  ·rw [(k1.fix p o c e0).1] at hp; cases hp
theorem Za {K : PySem.W.Frag} {H : Hp} {O : Own} {M : MH} {a : Addr} {x : AV} {l : List AV} (r : zk H O M (.ref a) x) (h : zU x M = some l) : xc (Itl K a) H O M l (fun M' => zU x M' = some l) := by
 intro H' O' M' fix mst w' hG i
 obtain ⟨a', xs, e, h1, r1⟩ := qc w' (r.imp fix mst) hG
 cases e
 refine ⟨fun e => ⟨xs, SqL.of h1, by rw [r1.1]; omega⟩, fun y hy => ?_⟩
 obtain ⟨v, hv, rv⟩ := r1.get hy
 refine ⟨⟨xs, v, SqL.of h1, hv⟩, fun z H'' hz => ?_⟩
 obtain ⟨e1, e2⟩ := hz
 subst e1
 have := e2 xs (SqL.of h1)
 rw [hv] at this; cases this
 exact ⟨.refl, w', rv⟩
theorem Q5 {K : PySem.W.Frag} {H : Hp} {O : Own} {M : MH} {a : Addr} {x : AV} {l : List AV} (r : zk H O M (.ref a) x) (h : wU x = some l) : xc (Itt K a) H O M l (fun _ => True) := by
 intro H' O' M' fix mst w' hG i
 obtain ⟨a', xs, e, h1, r1⟩ := qp (r.imp fix mst) h
 cases e
 refine ⟨fun e => ⟨xs, SqT.of h1, by rw [r1.1]; omega⟩, fun y hy => ?_⟩
 obtain ⟨v, hv, rv⟩ := r1.get hy
 refine ⟨⟨xs, v, SqT.of h1, hv⟩, fun z H'' hz => ?_⟩
 obtain ⟨e1, e2⟩ := hz
 subst e1
 have := e2 xs (SqT.of h1)
 rw [hv] at this; cases this
 exact ⟨.refl, w', rv⟩
def aiS (a : AE) : AI := fun ρ M R => a ρ M fun x M1 => ∃ l, qF x M1 = some l /\ R l (fun M' => qF x M' = some l) M1
theorem xc.mono {J : It} {H : Hp} {O : Own} {M : MH} {l : List AV} {G G' : MH -> Prop} (h : xc J H O M l G) (k : ∀ M, G' M -> G M) : xc J H O M l G' := fun H' O' M' fix mst w' hG => h H' O' M' fix mst w' (k _ hG)
theorem Yq {K : PySem.W.Frag} {t : TE} {a : AE} (h : zL t a) : xR (iLT K t) (aiS a) := ⟨fun w e q k => h.go w e q fun x M1 v H1 O1 ⟨l, hl, q1⟩ k1 w1 r1 => by
 rcases jO hl with hl' | ⟨m, rfl, rfl⟩
 ·obtain ⟨a, xs, rfl, h1, _⟩ := qc w1 r1 hl'
  refine ⟨a, rfl, .inl ⟨⟨xs, SqL.of h1⟩, k _ _ _ _ _ _ q1 k1 w1 ((Za r1 hl').mono fun M hM => ?_)⟩⟩
  rcases jO hM with z | ⟨m, rfl, rfl⟩
  ·exact z
  ·cases hl'
 ·obtain ⟨a, xs, rfl, h1, _⟩ := qp (l := m.map .d) r1 rfl
  exact ⟨a, rfl, .inr ⟨⟨xs, SqT.of h1⟩, k _ _ _ _ _ _ q1 k1 w1 ((Q5 r1 rfl).mono fun _ _ => trivial)⟩⟩⟩
def w6 (lo c : Int) (n : Nat) : List AV := (List.range n).map fun (k : Nat) => .d (.int (lo + (k : Int) * c))
theorem kM (lo c : Int) (n : Nat) : (w6 lo c n).length = n := by simp [w6]
theorem kJ {lo c : Int} {n i : Nat} {y : AV} (h : (w6 lo c n)[i]? = some y) : i < n /\ y = .d (.int (lo + (i : Int) * c)) := by
 have hi := (List.getElem?_eq_some_iff.mp h).1
 rw [kM] at hi
 unfold w6 at h
 rw [List.getElem?_map, List.getElem?_range hi] at h
 cases h
 exact ⟨hi, rfl⟩
theorem QW {H : Hp} {O : Own} {M : MH} (lo : Int) (n : Nat) : xc (Itr lo n) H O M (w6 lo 1 n) (fun _ => True) := by
 intro H' O' M' fix mst w' hG i
 refine ⟨fun e => by rw [kM] at e; exact Nat.le_of_eq e.symm, fun y hy => ?_⟩
 obtain ⟨hi, rfl⟩ := kJ hy
 refine ⟨hi, fun z H'' hz => ?_⟩
 obtain ⟨rfl, rfl⟩ := hz
 rw [Int.mul_one]
 exact ⟨.refl, w', .int⟩
def VR (a : AA) : AI := fun ρ M R => a ρ M fun xs M1 => ∃ j : Int, xs = [.d (.int j)] /\ -(2 ^ 62) <= j /\ j < 2 ^ 62 /\ R (w6 0 1 j.toNat) (fun _ => True) M1
theorem JV {t : TA} {a : AA} (h : ky t a) : xR (Qp t) (VR a) := ⟨fun w e q k => h.go w e q fun x M1 v H1 O1 ⟨j, e1, j1, j2, q1⟩ k1 w1 r1 => by
 subst e1
 obtain ⟨v1, r', rfl, a1, r2⟩ := r1.cons_inv
 rw [r2.nil_inv, zK a1]
 exact ⟨j, rfl, j1, j2, k _ _ _ _ _ _ q1 k1 w1 (QW _ _)⟩⟩
theorem vf {H : Hp} {O : Own} {M : MH} (w : Wf H O M) {p : Addr} (hp : H p = none) {x y : V} {d e : Dat} (r1 : Rep H O x d) (r2 : Rep H O y e) : Ext H O M (upd H p (.tup [x, y])) O M /\ Wf (upd H p (.tup [x, y])) O M /\ zk (upd H p (.tup [x, y])) O M (.ref p) (.d (.tup [d, e])) :=
 ⟨qj w hp _, kN w hp _, Rep.tup (w.fresh hp).1 zd rfl fun i z f h1 h2 => by
  match i, h1, h2 with
  | 0, h1, h2 => cases h1; cases h2; exact r1.ext (qj w hp _)
  | 1, h1, h2 => cases h1; cases h2; exact r2.ext (qj w hp _)
  | (i + 2), h1, _ => cases h1⟩
def yi (m n : List Dat) : List AV := (List.range (min m.length n.length)).map fun (i : Nat) => .d (.tup [m.getD i .non, n.getD i .non])
theorem jl (m n : List Dat) : (yi m n).length = min m.length n.length := by simp [yi]
theorem kQ {m n : List Dat} {i : Nat} {y : AV} (h : (yi m n)[i]? = some y) : ∃ d e, m[i]? = some d /\ n[i]? = some e /\ y = .d (.tup [d, e]) := by
 have hi := (List.getElem?_eq_some_iff.mp h).1
 rw [jl] at hi
 unfold yi at h
 rw [List.getElem?_map, List.getElem?_range hi] at h
 cases h
 have h1 : i < m.length := by omega
 have h2 : i < n.length := by omega
 exact ⟨m[i], n[i], List.getElem?_eq_getElem h1, List.getElem?_eq_getElem h2, by dsimp only; rw [List.getD_eq_getElem?_getD, List.getElem?_eq_getElem h1, List.getD_eq_getElem?_getD, List.getElem?_eq_getElem h2]; rfl⟩
theorem QN {K : PySem.W.Frag} {H : Hp} {O : Own} {M : MH} {a b : Addr} {x y : AV} {m n : List Dat} (r : zk H O M (.ref a) x) (h : zU x M = some (m.map .d)) (r' : zk H O M (.ref b) y) (h' : zU y M = some (n.map .d)) : xc (Itz K a b) H O M (yi m n) (fun M' => zU x M' = some (m.map .d) /\ zU y M' = some (n.map .d)) := by
 intro H' O' M' fix mst w' hG i
 obtain ⟨a', xs, e, h1, r1⟩ := qc w' (r.imp fix mst) hG.1
 cases e
 obtain ⟨b', ys, e, h2, r2⟩ := qc w' (r'.imp fix mst) hG.2
 cases e
 have l1 := r1.1
 have l2 := r2.1
 rw [List.length_map] at l1 l2
 refine ⟨fun e => ⟨xs, ys, SqL.of h1, SqL.of h2, by rw [jl] at e; omega⟩, fun z hz => ?_⟩
 obtain ⟨d, f, hd, hf, rfl⟩ := kQ hz
 obtain ⟨v, hv, rv⟩ := r1.get (i := i) (d := .d d) (by rw [List.getElem?_map, hd]; rfl)
 obtain ⟨u, hu, ru⟩ := r2.get (i := i) (d := .d f) (by rw [List.getElem?_map, hf]; rfl)
 refine ⟨⟨xs, ys, v, u, SqL.of h1, SqL.of h2, hv, hu⟩, fun z H'' hz => ?_⟩
 obtain ⟨p, x', y', hp, rfl, e2, e3, rfl⟩ := hz
 have := e2 xs (SqL.of h1)
 rw [hv] at this; cases this
 have := e3 ys (SqL.of h2)
 rw [hu] at this; cases this
 exact vf w' hp rv ru
theorem Zr {K : PySem.W.Frag} {H : Hp} {O : Own} {M : MH} {a b : Addr} {m n : List Dat} (hmn : m.length <= n.length) (r : zk H O M (.ref a) (.d (.tup m))) (r' : zk H O M (.ref b) (.d (.tup n))) : xc (X1 K a b) H O M (yi m n) (fun _ => True) := by
 intro H' O' M' fix mst w' hG i
 obtain ⟨a', xs, e, h1, r1⟩ := qp (l := m.map .d) (r.imp fix mst) rfl
 cases e
 obtain ⟨b', ys, e, h2, r2⟩ := qp (l := n.map .d) (r'.imp fix mst) rfl
 cases e
 have l1 := r1.1
 have l2 := r2.1
 rw [List.length_map] at l1 l2
 refine ⟨fun e => ⟨xs, SqT.of h1, by rw [jl] at e; omega⟩, fun z hz => ?_⟩
 obtain ⟨d, f, hd, hf, rfl⟩ := kQ hz
 obtain ⟨v, hv, rv⟩ := r1.get (i := i) (d := .d d) (by rw [List.getElem?_map, hd]; rfl)
 obtain ⟨u, hu, ru⟩ := r2.get (i := i) (d := .d f) (by rw [List.getElem?_map, hf]; rfl)
 refine ⟨⟨xs, ys, v, u, SqT.of h1, SqT.of h2, hv, hu⟩, fun z H'' hz => ?_⟩
 obtain ⟨p, x', y', hp, rfl, e2, e3, rfl⟩ := hz
 have := e2 xs (SqT.of h1)
 rw [hv] at this; cases this
 have := e3 ys (SqT.of h2)
 rw [hu] at this; cases this
 exact vf w' hp rv ru
def VA (a : AA) : AI := fun ρ M R => a ρ M fun xs M1 => ∃ x y m n, xs = [x, y] /\ ((zU x M1 = some (List.map AV.d m) /\ zU y M1 = some (List.map AV.d n)) \/ (x = .d (.tup m) /\ y = .d (.tup n) /\ m.length <= n.length)) /\ R (yi m n) (fun M' => zU x M' = zU x M1 /\ zU y M' = zU y M1) M1
theorem JW {K : PySem.W.Frag} {t : TA} {a : AA} (h : ky t a) : xR (vH K t) (VA a) := ⟨fun w e q k => h.go w e q fun xs M1 v H1 O1 ⟨x, y, m, n, e1, hxy, q1⟩ k1 w1 r1 => by
 subst e1
 obtain ⟨v1, r', rfl, a1, r2⟩ := r1.cons_inv
 obtain ⟨v2, r', rfl, a2, r3⟩ := r2.cons_inv
 rw [r3.nil_inv]
 rcases hxy with ⟨hx, hy⟩ | ⟨rfl, rfl, hmn⟩
 ·obtain ⟨a, xs, rfl, h1, _⟩ := qc w1 a1 hx
  obtain ⟨b, ys, rfl, h2, _⟩ := qc w1 a2 hy
  exact ⟨a, b, rfl, .inl ⟨⟨xs, SqL.of h1⟩, ⟨ys, SqL.of h2⟩, k _ _ _ _ _ _ q1 k1 w1 ((QN a1 hx a2 hy).mono fun _ z => ⟨z.1.trans hx, z.2.trans hy⟩)⟩⟩
 ·obtain ⟨a, xs, rfl, h1, _⟩ := qp (l := m.map .d) a1 rfl
  obtain ⟨b, ys, rfl, h2, _⟩ := qp (l := n.map .d) a2 rfl
  exact ⟨a, b, rfl, .inr ⟨⟨xs, SqT.of h1⟩, ⟨ys, SqT.of h2⟩, k _ _ _ _ _ _ q1 k1 w1 ((Zr hmn a1 a2).mono fun _ _ => trivial)⟩⟩⟩
structure kc (D : Addr) (H : Hp) (O : Own) (M : MH) (H' : Hp) (O' : Own) (M' : MH) : Prop where
 fix : ∀ a o, ¬ O a -> H a = some o -> H' a = some o /\ ¬ O' a
 prv : ∀ a, a ≠ D -> O a -> M a = none -> H' a = H a /\ O' a /\ M' a = none
 mst : ∀ a, M a ≠ none -> M' a ≠ none
theorem Ext.x {D : Addr} {H H' : Hp} {O O' : Own} {M M' : MH} (k : Ext H O M H' O' M') : kc D H O M H' O' M' := ⟨k.fix, fun a _ => k.prv a, k.mst⟩
theorem kc.trans {D : Addr} {H H1 H2 : Hp} {O O1 O2 : Own} {M M1 M2 : MH} (a : kc D H O M H1 O1 M1) (b : kc D H1 O1 M1 H2 O2 M2) : kc D H O M H2 O2 M2 :=
 ⟨fun x o h e => let ⟨e1, h1⟩ := a.fix x o h e; b.fix x o h1 e1, fun x hx h e => by
  obtain ⟨e1, h1, n1⟩ := a.prv x hx h e
  obtain ⟨e2, h2, n2⟩ := b.prv x hx h1 n1
  exact ⟨e2.trans e1, h2, n2⟩, fun x h => b.mst x (a.mst x h)⟩
theorem kc.set {D : Addr} {H : Hp} {O : Own} {M : MH} (hO : O D) (o : HO) : kc D H O M (upd H D o) O M := ⟨kh hO o, fun a ha h e => ⟨zh ha, h, e⟩, fun _ h => h⟩
theorem Er.imp {H H' : Hp} {O O' : Own} {M M' : MH} {σ : St} {ρ : ASt} (e : Er H O M σ ρ) (k : ∀ a o, ¬ O a -> H a = some o -> H' a = some o /\ ¬ O' a) (hm : ∀ a, M a ≠ none -> M' a ≠ none) : Er H' O' M' σ ρ := ⟨e.len, fun i x h => let ⟨v, h1, h2⟩ := e.get i x h; ⟨v, h1, h2.imp k hm⟩⟩
abbrev ATR := List AV -> ASt -> MH -> (List AV -> ASt -> MH -> Prop) -> Prop
structure xH (D : Addr) (tr : TR) (a : ATR) : Prop where
 go : ∀ {σ : St} {H : Hp} {O : Own} {ρ : ASt} {M : MH} {acc : List AV} {ys : List V} {N : St -> Hp -> Prop} {N' : List AV -> ASt -> MH -> Prop}, Wf H O M -> Er H O M σ ρ -> O D -> M D = none -> H D = some (.lst ys) -> ze H O M ys acc -> a acc ρ M N' ->
  (∀ acc' ρ' M' σ' H' O' ys', N' acc' ρ' M' -> kc D H O M H' O' M' -> Wf H' O' M' -> Er H' O' M' σ' ρ' -> O' D -> M' D = none -> H' D = some (.lst ys') -> ze H' O' M' ys' acc' -> N σ' H') -> tr σ H N
def xx (a : AE) : ATR := fun acc ρ M N => a ρ M fun x M1 => acc.length < sizeLine /\ N (acc ++ [x]) ρ M1
theorem kF {D : Addr} {t : TE} {a : AE} (h : zL t a) : xH D (kz t D) (xx a) := ⟨fun {σ H O ρ M acc ys N N'} w e o m hd r q k => h.go w e q fun x M1 v H1 O1 ⟨q0, q1⟩ k1 w1 r1 => by
 obtain ⟨e1, o1, m1⟩ := k1.prv D o m
 have r' := r.ext k1
 refine ⟨ys, e1.trans hd, by rw [r.1]; exact q0, k _ _ _ _ _ _ (ys ++ [v]) q1 (k1.x.trans (kc.set o1 _)) (vU w1 o1 m1 (e1.trans hd) _ (fun _ z => nomatch z)) ((e.ext k1).imp (kh o1 _) (fun _ z => z)) o1 m1 zd ((r'.snoc r1).imp (kh o1 _) (fun _ z => z))⟩⟩
def Js (ag : AG) (at_ : AT) (tr : ATR) (G : MH -> Prop) (N : List AV -> ASt -> MH -> Prop) (l acc : List AV) (ρ : ASt) (M : MH) : Prop :=
 ∃ Pv : Nat -> List AV -> ASt -> MH -> Prop, Pv 0 acc ρ M /\ (∀ i x acc ρ M, l[i]? = some x -> Pv i acc ρ M -> G M /\ ag x ρ M fun ρ2 M2 => at_ ρ2 M2 fun b M3 => if b = true then tr acc ρ2 M3 (Pv (i + 1)) else Pv (i + 1) acc ρ2 M3) /\ ∀ acc ρ M, Pv l.length acc ρ M -> G M /\ N acc ρ M
theorem Z9 {D : Addr} {g : TG} {tt : TT} {tr : TR} {ag : AG} {at_ : AT} {atr : ATR} (hg : kK g ag) (ht : jH tt at_) (hr : xH D tr atr) {J : It} {H1 : Hp} {O1 : Own} {M1 : MH} {l : List AV} {G : MH -> Prop} (hj : xc J H1 O1 M1 l G) {N' : List AV -> ASt -> MH -> Prop} {N : St -> Hp -> Prop}
  {σ : St} {ρ : ASt} {acc : List AV} {ys : List V} (w : Wf H1 O1 M1) (e : Er H1 O1 M1 σ ρ) (o : O1 D) (m : M1 D = none) (hd : H1 D = some (.lst ys)) (r : ze H1 O1 M1 ys acc) (q : Js ag at_ atr G N' l acc ρ M1)
  (k : ∀ acc' ρ' M' σ' H' O' ys', N' acc' ρ' M' -> kc D H1 O1 M1 H' O' M' -> Wf H' O' M' -> Er H' O' M' σ' ρ' -> O' D -> M' D = none -> H' D = some (.lst ys') -> ze H' O' M' ys' acc' -> N σ' H') : CL J g tt tr N σ H1 := by
 obtain ⟨Pv, p0, ps, pd⟩ := q
 refine ⟨fun i n σ H => n = l.length - i /\ i <= l.length /\ ∃ O ρ M acc ys, Wf H O M /\ Er H O M σ ρ /\ kc D H1 O1 M1 H O M /\ O D /\ M D = none /\ H D = some (.lst ys) /\ ze H O M ys acc /\ Pv i acc ρ M,
  ⟨l.length, by simp, Nat.zero_le _, O1, ρ, M1, acc, ys, w, e, Ext.refl.x, o, m, hd, r, p0⟩, ?_⟩
 rintro i n σ H ⟨rfl, hi, O, ρ, M, acc, ys, w, e, x, o, m, hd, r, hf⟩
 by_cases hil : i < l.length
 ·have hy : l[i]? = some l[i] := List.getElem?_eq_getElem hil
  obtain ⟨hG, q2⟩ := ps i l[i] acc ρ M hy hf
  obtain ⟨j1, j2⟩ := (hj H O M x.fix x.mst w hG i).2 l[i] hy
  refine .inr ⟨j1, fun σ' H' => ∃ O ρ M acc ys, Wf H' O M /\ Er H' O M σ' ρ /\ kc D H1 O1 M1 H' O M /\ O D /\ M D = none /\ H' D = some (.lst ys) /\ ze H' O M ys acc /\ Pv (i + 1) acc ρ M, fun σ' H' z => ⟨l.length - (i + 1), by omega, rfl, hil, z⟩, fun v H' hv => ?_⟩
  obtain ⟨k2, w2, r2⟩ := j2 v H' hv
  refine hg.go w2 (e.ext k2) r2 q2 fun σ3 H3 O3 ρ3 M3 q3 k3 w3 e3 => ?_
  refine ht.go w3 e3 q3 fun b M4 H4 O4 q4 k4 w4 => ?_
  have k24 := (k2.trans k3).trans k4
  obtain ⟨d4, o4, m4⟩ := k24.prv D o m
  have r4 := r.ext k24
  cases b with
  | true =>
   exact hr.go w4 (e3.ext k4) o4 m4 (d4.trans hd) r4 q4 fun acc' ρ' M' σ' H' O' ys' q5 k5 w5 e5 o5 m5 d5 r5 => ⟨O', ρ', M', acc', ys', w5, e5, (x.trans k24.x).trans k5, o5, m5, d5, r5, q5⟩
  | false =>
   exact ⟨O4, ρ3, M4, acc, ys, w4, e3.ext k4, x.trans k24.x, o4, m4, d4.trans hd, r4, q4⟩
 ·have e0 : i = l.length := by omega
  subst e0
  obtain ⟨hG, q2⟩ := pd acc ρ M hf
  exact .inl ⟨(hj H O M x.fix x.mst w hG l.length).1 rfl, k _ _ _ _ _ _ _ q2 x w e o m hd r⟩
def vj (ai : AI) (ag : AG) (at_ : AT) (atr : ATR) : ATR := fun acc ρ M N => ai ρ M fun l G M1 => Js ag at_ atr G N l acc ρ M1
theorem xA {D : Addr} {wi : TI} {g : TG} {tt : TT} {tr : Addr -> TR} {ai : AI} {ag : AG} {at_ : AT} {atr : ATR} (hi : xR wi ai) (hg : kK g ag) (ht : jH tt at_) (hr : xH D (tr D) atr) : xH D (yn wi g tt tr D) (vj ai ag at_ atr) := ⟨fun w e o m hd r q k => by
 refine hi.go w e q fun l G M1 J H1 O1 q1 k1 w1 hj => ?_
 obtain ⟨d1, o1, m1⟩ := k1.prv D o m
 exact Z9 hg ht hr hj w1 (e.ext k1) o1 m1 (d1.trans hd) (r.ext k1) q1 fun acc' ρ' M' σ' H' O' ys' q5 k5 w5 e5 o5 m5 d5 r5 => k _ _ _ _ _ _ _ q5 (k1.x.trans k5) w5 e5 o5 m5 d5 r5⟩
def wb (ts : List Nat) (ai : AI) (ag : AG) (at_ : AT) (atr : ATR) : AF := fun ρ M Q => ai ρ M fun l G M1 => Js ag at_ atr G (fun acc _ M' => Q acc M') l [] (Kg ts ρ) M1
theorem xb {ts : List Nat} {wi : TI} {g : TG} {tt : TT} {tr : Addr -> TR} {ai : AI} {ag : AG} {at_ : AT} {atr : ATR} (hi : xR wi ai) (hg : kK g ag) (ht : jH tt at_) (hr : ∀ D, xH D (tr D) atr) : yR (xk ts wi g tt tr) (wb ts ai ag at_ atr) := ⟨fun {σ H O ρ M Q Q'} w e q k => by
 refine hi.go w e q fun l G M1 J H1 O1 q1 k1 w1 hj D hD => ?_
 have kp := qB w1 hD (.lst [])
 have hj' : xc J (upd H1 D (.lst [])) (wZ O1 D) M1 l G := fun H' O' M' fix mst w' hG => hj H' O' M' (fun a o ha ho => fix a o (kp.fix a o ha ho).2 (kp.fix a o ha ho).1) mst w' hG
 refine Z9 hg ht (hr D) hj' (ye w1 hD _ (fun _ z => nomatch z)) (((e.ext k1).clr ts).ext kp) (.inl rfl) (w1.fresh hD).2 zd .nil q1 fun acc' ρ' M' σ' H' O' ys' q5 k5 w5 e5 o5 m5 d5 r5 => ?_
 have hH := xa w1 k1 hD
 refine k _ _ _ _ _ _ q5 ⟨fun a o ha ho => ?_, fun a ha hm => ?_, fun a hm => k5.mst a (k1.mst a hm)⟩ w5 o5 m5 hH d5 r5
 ·obtain ⟨x1, x2⟩ := (k1.trans kp).fix a o ha ho
  exact k5.fix a o x2 x1
 ·obtain ⟨x1, x2, x3⟩ := (k1.trans kp).prv a ha hm
  obtain ⟨y1, y2, y3⟩ := k5.prv a (fun z => w.ne a ha (by rw [z]; exact hH)) x2 x3
  exact ⟨y1.trans x1, y2, y3⟩⟩
theorem Zb {ts : List Nat} {wi : TI} {g : TG} {tt : TT} {te : TE} {ai : AI} {ag : AG} {at_ : AT} {ae : AE} (hi : xR wi ai) (hg : kK g ag) (ht : jH tt at_) (he : zL te ae) : yR (yy ts wi g tt te) (wb ts ai ag at_ (xx ae)) :=
 ⟨fun w e q k => (xb (ts := ts) (tr := kz te) hi hg ht fun D => kF he).go w e q k⟩
end L2
set_option Elab.async false
set_option linter.all false
set_option maxRecDepth 100000
set_option maxHeartbeats 4000000
namespace L2
open PySem PySem.Spec PyProof.Rows
def aI (C : Int -> Int -> Prop) (g : Int -> Int -> Dat) : AR2 := fun x y M Q => ∃ i j, x = .d (.int i) /\ y = .d (.int j) /\ C i j /\ Q (.d (g i j)) M
def aI0 (g : Int -> Int -> Dat) : AR2 := fun x y M Q => ∃ i j, x = .d (.int i) /\ y = .d (.int j) /\ Q (.d (g i j)) M
theorem YV {C : Int -> Int -> Prop} {f : Int -> Int -> Int} : vF (rI C fun i j => .int (f i j)) (aI C fun i j => .int (f i j)) := ⟨fun w r1 r2 ⟨i, j, e1, e2, c, q⟩ k => by
 subst e1 e2; exact ⟨i, j, zK r1, zK r2, c, k _ _ _ _ _ q .refl w .int⟩⟩
theorem Kb {f : Int -> Int -> Int} : vF (rI0 fun i j => .int (f i j)) (aI0 fun i j => .int (f i j)) := ⟨fun w r1 r2 ⟨i, j, e1, e2, q⟩ k => by
 subst e1 e2; exact ⟨i, j, zK r1, zK r2, k _ _ _ _ _ q .refl w .int⟩⟩
def eqS : Dat -> Dat -> Option Bool
 | .non, .non => some true | .non, .int _ => some false | .int _, .non => some false | .non, .bl _ => some false | .bl _, .non => some false | .non, .str _ => some false | .str _, .non => some false
 | .int i, .int j => some (decide (i = j)) | .bl a, .bl b => some (decide (a = b)) | .str a, .str b => some (decide (a = b))
 | .int _, .str _ => some false | .str _, .int _ => some false | .bl _, .str _ => some false | .str _, .bl _ => some false
 | _, _ => none
def jz : AV -> Bool
 | .d .non => true
 | _ => false
theorem QU {H : Hp} {O : Own} {M : MH} {v : V} {x : AV} (r : zk H O M v x) : decide (v = V.non) = jz x := by
 cases x with
 | ref a => rw [r.1]; rfl
 | d x => cases (show Rep H O v x from r) <;> rfl
def VP (f : Bool -> Bool) : AR2 := fun x y M Q => y = .d .non /\ Q (.d (.bl (f (jz x)))) M
theorem JD : vF (fun x y H Q => y = V.non /\ Q (V.bl (decide (x = V.non))) H) (VP id) := ⟨fun w r1 r2 ⟨e, q⟩ k => by
 subst e; exact ⟨Kd r2, by rw [QU r1]; exact k _ _ _ _ _ q .refl w .bl⟩⟩
theorem Kr {H : Hp} {O : Own} {M : MH} {xs : List V} {l : List AV} (r : ze H O M xs l) {i : Int} {x : AV} (h : atI l i = some x) : ∃ v, atI xs i = some v /\ zk H O M v x := by
 unfold atI at h ⊢
 rw [r.1]
 cases e : ixN l.length i with
 | none => rw [e] at h; cases h
 | some j => rw [e] at h; exact r.get h
def aIx (s : AV -> MH -> Option (List AV)) : AR2 := fun x y M Q => ∃ l i z, s x M = some l /\ y = .d (.int i) /\ atI l i = some z /\ Q z M
theorem Ql {K : PySem.W.Frag} : vF (wl K) (aIx qF) := ⟨fun w r1 r2 ⟨l, i, z, h, e, hz, q⟩ k => by
 subst e
 obtain ⟨a, xs, rfl, h1, r⟩ := Jc w r1 h
 obtain ⟨v, hv, rv⟩ := Kr r hz
 exact ⟨a, xs, i, v, rfl, zK r2, h1.elim (fun h => .inl (SqL.of h)) (fun h => .inr (SqT.of h)), hv, k _ _ _ _ _ q .refl w rv⟩⟩
structure KW (r : R2) (a : AV -> AV -> MH -> (List AV -> Prop) -> Prop) : Prop where
 go : ∀ {x y : V} {dx dy : AV} {H : Hp} {O : Own} {M : MH} {Q : VK} {Q' : List AV -> Prop}, Wf H O M -> zk H O M x dx -> zk H O M y dy -> a dx dy M Q' -> (∀ l ys, Q' l -> ze H O M ys l -> ∀ p, H p = none -> Q (.ref p) (upd H p (.lst ys))) -> r x y H Q
def fOp (r : AV -> AV -> MH -> (List AV -> Prop) -> Prop) (a b : AE) : AF := fun ρ M Q => a ρ M fun x M1 => b ρ M1 fun y M2 => r x y M2 fun l => Q l M2
theorem wf {r : R2} {ra : AV -> AV -> MH -> (List AV -> Prop) -> Prop} {t u : TE} {a b : AE} (hr : KW r ra) (h1 : zL t a) (h2 : zL u b) : yR (tOp r t u) (fOp ra a b) :=
 ⟨fun w e q k => h1.go w e q fun x M1 v H1 O1 q1 k1 w1 r1 => h2.go w1 (e.ext k1) q1 fun y M2 u H2 O2 q2 k2 w2 r2 => hr.go w2 (r1.ext k2) r2 q2 fun l ys q3 r3 p hp =>
  k l M2 p ys _ _ q3 ((k1.trans k2).trans (qB w2 hp _)) (ye w2 hp _ (fun _ z => nomatch z)) (.inl rfl) (w2.fresh hp).2 (xa w2 (k1.trans k2) hp) zd (r3.ext (qB w2 hp _))⟩
def Ym : AV -> AV -> MH -> (List AV -> Prop) -> Prop := fun x y M Q => ∃ l m, zU x M = some l /\ zU y M = some m /\ l.length + m.length <= sizeLine /\ Q (l ++ m)
theorem yw : KW Km Ym := ⟨fun w r1 r2 ⟨l, m, h1, h2, hs, q⟩ k => by
 obtain ⟨a, xs, rfl, e1, p1⟩ := qc w r1 h1
 obtain ⟨b, ys, rfl, e2, p2⟩ := qc w r2 h2
 exact ⟨a, b, xs, ys, rfl, rfl, e1, e2, by rw [p1.1, p2.1]; exact hs, k _ _ q (p1.append p2)⟩⟩
abbrev AO := ASt -> MH -> (Option Int -> MH -> Prop) -> Prop
structure Jv (t : TO) (a : AO) : Prop where
 go : ∀ {σ : St} {H : Hp} {O : Own} {ρ : ASt} {M : MH} {Q : Option Int -> Hp -> Prop} {Q' : Option Int -> MH -> Prop}, Wf H O M -> Er H O M σ ρ -> a ρ M Q' -> (∀ x M' H' O', Q' x M' -> Ext H O M H' O' M' -> Wf H' O' M' -> Q x H') -> t σ H Q
def Ve : AO := fun _ M Q => Q none M
def K0 (a : AE) : AO := fun ρ M Q => a ρ M fun x M1 => ∃ i, x = .d (.int i) /\ Q (some i) M1
theorem JK : Jv xQ Ve := ⟨fun w _ q k => k _ _ _ _ q .refl w⟩
theorem Qq {t : TE} {a : AE} (h : zL t a) : Jv (Q6 t) (K0 a) := ⟨fun w e q k => h.go w e q fun x M1 v H1 O1 ⟨i, e1, q1⟩ k1 w1 r1 => by
 subst e1; exact ⟨i, zK r1, k _ _ _ _ q1 k1 w1⟩⟩
def kR {α : Type} (xs : List α) (lo hi : Option Int) : List α := (xs.drop (HT.sIx xs.length 0 lo)).take (HT.sIx xs.length xs.length hi - HT.sIx xs.length 0 lo)
theorem ze.cut {H : Hp} {O : Own} {M : MH} {xs : List V} {l : List AV} (a : ze H O M xs l) (lo hi : Option Int) : ze H O M (xp xs lo hi) (kR l lo hi) := by
 unfold xp kR
 rw [a.1]
 exact (a.drop _).take _
theorem ZZ {α β : Type} (f : α -> β) (l : List α) (lo hi : Option Int) : kR (l.map f) lo hi = (kR l lo hi).map f := by
 unfold kR
 rw [List.length_map, <- List.map_drop, <- List.map_take]
theorem xO {H : Hp} {O : Own} {M : MH} (w : Wf H O M) {p : Addr} (hp : H p = none) {xs : List V} {l : List Dat} (r : ze H O M xs (l.map .d)) : zk (upd H p (.tup xs)) O M (.ref p) (.d (.tup l)) :=
 have r2 := r.pure
 Rep.tup (w.fresh hp).1 zd r2.1 fun i x d e1 e2 => (r2.2 i x d e1 e2).ext (qj w hp _)
def Vo (a : AE) (lo hi : AO) : AE := fun ρ M Q => a ρ M fun x M1 => lo ρ M1 fun i M2 => hi ρ M2 fun j M3 => ∃ l, x = .d (.tup l) /\ ¬ (HT.sIx l.length 0 i = 0 /\ HT.sIx l.length l.length j = l.length) /\ Q (.d (.tup (kR l i j))) M3
theorem KH {K : PySem.W.Frag} {t : TE} {tl th : TO} {a : AE} {lo hi : AO} (h1 : zL t a) (h2 : Jv tl lo) (h3 : Jv th hi) : zL (tSl (Yb K) t tl th) (Vo a lo hi) :=
 ⟨fun w e q k => h1.go w e q fun x M1 v H1 O1 q1 k1 w1 r1 => h2.go w1 (e.ext k1) q1 fun i M2 H2 O2 q2 k2 w2 => h3.go w2 (e.ext (k1.trans k2)) q2 fun j M3 H3 O3 ⟨l, hl, hn, q3⟩ k3 w3 => by
  subst hl
  obtain ⟨a, xs, rfl, e1, p1⟩ := qp (l := l.map .d) (r1.ext (k2.trans k3)) rfl
  have l1 := p1.1
  rw [List.length_map] at l1
  refine ⟨a, xs, rfl, SqT.of e1, by rw [l1]; exact hn, fun p hp => ?_⟩
  have p2 := p1.cut i j
  rw [ZZ] at p2
  exact k _ _ _ _ _ q3 (((k1.trans k2).trans k3).trans (qj w3 hp _)) (kN w3 hp _) (xO w3 hp p2)⟩
def KZ : AR2 := fun x y M Q => ∃ l m, x = .d (.tup l) /\ y = .d (.tup m) /\ l ≠ [] /\ l.length + m.length <= sizeLine /\ Q (.d (.tup (l ++ m))) M
theorem Q9 {K : PySem.W.Frag} : vF (v4 K) KZ := ⟨fun w r1 r2 ⟨l, m, e1, e2, hl, hs, q⟩ k => by
 subst e1 e2
 obtain ⟨a, xs, rfl, h1, p1⟩ := qp (l := l.map .d) r1 rfl
 obtain ⟨b, ys, rfl, h2, p2⟩ := qp (l := m.map .d) r2 rfl
 have l1 := p1.1
 have l2 := p2.1
 rw [List.length_map] at l1 l2
 refine ⟨a, b, xs, ys, rfl, rfl, SqT.of h1, SqT.of h2, fun z => hl (List.length_eq_zero_iff.mp (by rw [<- l1, z]; rfl)), by rw [l1, l2]; exact hs, fun z => ?_, fun _ p hp => ?_⟩
 ·have : m = [] := List.length_eq_zero_iff.mp (by rw [<- l2, z]; rfl)
  subst this
  rw [List.append_nil] at q
  exact k _ _ _ _ _ q .refl w r1
 ·have p3 := p1.append p2
  rw [<- List.map_append] at p3
  exact k _ _ _ _ _ q (qj w hp _) (kN w hp _) (xO w hp p3)⟩
end L2
set_option Elab.async false
set_option linter.all false
set_option maxRecDepth 100000
set_option maxHeartbeats 4000000
namespace L2
open PySem PySem.Spec PyProof.Rows
mutual
def eqD : Dat -> Dat -> Bool
 | .non, .non => true
 | .bl a, .bl b => a == b
 | .bl a, .int b => (if a then 1 else 0) == b
 | .int a, .bl b => a == (if b then 1 else 0)
 | .int a, .int b => a == b
 | .str a, .str b => a == b
 | .lst a, .lst b => kE a b
 | .tup a, .tup b => kE a b
 | _, _ => false
def kE : List Dat -> List Dat -> Bool
 | [], [] => true
 | a :: r, b :: r' => eqD a b && kE r r'
 | _, _ => false
end
mutual
def dp : Dat -> Nat
 | .lst l => dps l + 1
 | .tup l => dps l + 1
 | .rng _ _ _ => 1000
 | .scr _ _ => 1000
 | .ty _ => 1000
 | _ => 0
def dps : List Dat -> Nat
 | [] => 0
 | a :: r => max (dp a) (dps r)
end
theorem ZX {l : List Dat} {n : Nat} (h : ∀ d ∈ l, dp d <= n) : dps l <= n := by
 induction l with
 | nil => exact Nat.zero_le _
 | cons a r ih => rw [dps]; exact Nat.max_le.mpr ⟨h a (by simp), ih fun d hd => h d (by simp [hd])⟩
theorem zJ {l : List Dat} {d : Dat} (h : d ∈ l) : dp d <= dps l := by
 induction l with
 | nil => cases h
 | cons a r ih =>
  rw [dps]
  rcases List.mem_cons.mp h with rfl | h
  ·exact Nat.le_max_left _ _
  ·exact Nat.le_trans (ih h) (Nat.le_max_right _ _)
theorem jj : ∀ (l m : List Dat), l.length = m.length -> kE l m = (List.range l.length).all fun j => eqD (l.getD j .non) (m.getD j .non)
 | [], [], _ => rfl
 | a :: r, b :: r', h => by
  rw [kE, jj r r' (by simpa using h), List.length_cons, List.range_succ_eq_map, List.all_cons, List.all_map]; rfl
 | [], _ :: _, h => by simp at h
 | _ :: _, [], h => by simp at h
theorem ji : ∀ (l m : List Dat), l.length ≠ m.length -> kE l m = false
 | [], [], h => absurd rfl h
 | a :: r, b :: r', h => by rw [kE, ji r r' (fun z => h (by simp [z])), Bool.and_false]
 | [], _ :: _, h => by simp [kE]
 | _ :: _, [], h => by simp [kE]
theorem ZS (l m : List Dat) : eqD (.lst l) (.tup m) = false := by simp [eqD]
theorem Jf (l m : List Dat) : eqD (.tup l) (.lst m) = false := by simp [eqD]
theorem Ku {p : Dat -> Prop} (h : ∀ a, (∀ b, dp b < dp a -> p b) -> p a) (a : Dat) : p a := by
 have : ∀ n a, dp a <= n -> p a := fun n => by
  induction n with
  | zero => intro a ha; exact h a fun b hb => absurd hb (by omega)
  | succ n ih => intro a ha; exact h a fun b hb => ih b (by omega)
 exact this (dp a) a (Nat.le_refl _)
theorem xL {l : List Dat} (h : ∀ d ∈ l, eqD d d = true) : kE l l = true := by
 induction l with
 | nil => rfl
 | cons a r ih => rw [kE, h a (by simp), ih fun d hd => h d (by simp [hd])]; rfl
theorem vc {a : Dat} : dp a < 1000 -> eqD a a = true := by
 refine Ku (p := fun a => dp a < 1000 -> eqD a a = true) (fun a ih ha => ?_) a
 cases a with
 | non => rfl
 | bl b => rw [eqD]; simp
 | int i => rw [eqD]; simp
 | str x => rw [eqD]; simp
 | lst l =>
  rw [eqD]
  rw [dp] at ha ih
  exact xL fun d hd => ih d (by have := zJ hd; omega) (by have := zJ hd; omega)
 | tup l =>
  rw [eqD]
  rw [dp] at ha ih
  exact xL fun d hd => ih d (by have := zJ hd; omega) (by have := zJ hd; omega)
 | rng a b c => rw [dp] at ha; omega
 | scr _ l => rw [dp] at ha; omega
 | ty l => rw [dp] at ha; omega
theorem Rep.fn {H : Hp} {O O' : Own} {v : V} {a b : Dat} (r : Rep H O v a) : Rep H O' v b -> dp a < 1000 -> dp b < 1000 -> a = b := by
 induction r generalizing b with
 | non => intro r' _ _; cases r'; rfl
 | bl => intro r' _ _; cases r'; rfl
 | int => intro r' _ _; cases r'; rfl
 | str => intro r' _ _; cases r'; rfl
 | ty => intro r' h _; rw [dp] at h; omega
 | rng _ _ => intro r' h _; rw [dp] at h; omega
 | scr _ _ => intro r' h _; rw [dp] at h; omega
 | scrK _ => intro r' h _; rw [dp] at h; omega
 | @lst a xs l o1 h1 l1 r1 ih =>
  intro r' ha hb
  cases r' with
  | @lst _ ys m o2 h2 l2 r2 =>
   rw [h1] at h2; cases h2
   congr 1
   refine List.ext_getElem (l1.symm.trans l2) fun i i1 i2 => ?_
   have i0 : i < xs.length := by omega
   rw [dp] at ha hb
   refine ih i xs[i] l[i] (by simp [i0]) (by simp [i1]) (r2 i xs[i] m[i] (by simp [i0]) (by simp [i2])) ?_ ?_
   ·have := zJ (List.getElem_mem i1); omega
   ·have := zJ (List.getElem_mem i2); omega
  | @tup _ ys m o2 h2 => rw [h1] at h2; cases h2
  | rng o2 h2 => rw [dp] at hb; omega
  | scr o2 h2 => rw [dp] at hb; omega
  | scrK _ => rw [dp] at hb; omega
 | @tup a xs l o1 h1 l1 r1 ih =>
  intro r' ha hb
  cases r' with
  | @tup _ ys m o2 h2 l2 r2 =>
   rw [h1] at h2; cases h2
   congr 1
   refine List.ext_getElem (l1.symm.trans l2) fun i i1 i2 => ?_
   have i0 : i < xs.length := by omega
   rw [dp] at ha hb
   refine ih i xs[i] l[i] (by simp [i0]) (by simp [i1]) (r2 i xs[i] m[i] (by simp [i0]) (by simp [i2])) ?_ ?_
   ·have := zJ (List.getElem_mem i1); omega
   ·have := zJ (List.getElem_mem i2); omega
  | @lst _ ys m o2 h2 => rw [h1] at h2; cases h2
  | rng o2 h2 => rw [dp] at hb; omega
  | scr o2 h2 => rw [dp] at hb; omega
  | scrK _ => rw [dp] at hb; omega
section
variable {X : Cx} {pins : List (Addr × Obj)} {s : Shared} {σ : St} {H : Hp}
theorem je {xs : List V} {us : List Value} (r : zp xs us) {j : Nat} (h : j < us.toArray.size) : ∃ x, xs[j]? = some x /\ zt x us.toArray[j] := by
 have h' : j < us.length := by simpa using h
 have hx : j < xs.length := by rw [r.length]; exact h'
 obtain ⟨u, hu, ru⟩ := r.get (i := j) (List.getElem?_eq_getElem hx)
 have e : us.toArray[j] = u := by
  have := (List.getElem?_eq_some_iff.mp hu).2
  simpa using this
 exact ⟨xs[j], List.getElem?_eq_getElem hx, by rw [e]; exact ru⟩
theorem ZL (I : Inv X pins σ H s) {A : Around} {p q : Addr} {O O' : Own} {a b : Dat} (ih : ∀ (c d : Dat) (v u : V) (v' u' : Value), dp c < dp a -> Rep H O v c -> Rep H O' u d -> dp d < 1000 -> zt v v' -> zt u u' -> SeqAt.EqAt A.in1 s v' u' (eqD c d))
    (ra : Rep H O (.ref p) a) (rb : Rep H O' (.ref q) b) (ha : dp a < 1000) (hb : dp b < 1000) (hu : A.units < cLine) : SeqAt.RcAt A s (.ref p) (.ref q) (eqD a b) := by
  cases ra with
  | @lst _ xs l o1 h1 l1 r1 =>
    obtain ⟨us, u1, p1, z1⟩ := I.list (SqL.of h1)
    cases rb with
    | @lst _ ys m o2 h2 l2 r2 =>
      obtain ⟨ws, u2, p2, z2⟩ := I.list (SqL.of h2)
      have s1 : us.toArray.size = l.length := by rw [List.size_toArray, <- u1.length, l1]
      have s2 : ws.toArray.size = m.length := by rw [List.size_toArray, <- u2.length, l2]
      by_cases e : l.length = m.length
      · have h := SeqAt.RcAt.lists (A := A) (e := fun j => eqD (l.getD j .non) (m.getD j .non)) p1.isList p2.isList (by rw [s1, s2, e]) hu (fun j j1 j2 => by
          obtain ⟨x, hx, rx⟩ := je u1 j1
          obtain ⟨y, hy, ry⟩ := je u2 j2
          have k1 : j < l.length := by rw [<- s1]; exact j1
          have k2 : j < m.length := by rw [<- s2]; exact j2
          rw [dp] at ha hb ih
          refine ih _ _ x y _ _ ?_ (r1 j x _ hx ?_) (r2 j y _ hy ?_) ?_ rx ry
          · rw [List.getD_eq_getElem?_getD, List.getElem?_eq_getElem k1]
            have := zJ (List.getElem_mem k1); show dp l[j] < _; omega
          · rw [List.getD_eq_getElem?_getD, List.getElem?_eq_getElem k1]; rfl
          · rw [List.getD_eq_getElem?_getD, List.getElem?_eq_getElem k2]; rfl
          · rw [List.getD_eq_getElem?_getD, List.getElem?_eq_getElem k2]
            have := zJ (List.getElem_mem k2); show dp m[j] < _; omega)
        rw [s1, <- jj l m e] at h
        rw [eqD]; exact h
      · rw [eqD, ji l m e]
        exact SeqAt.RcAt.lists_lengths p1.isList p2.isList (by rw [s1, s2]; simpa using e) hu
    | @tup _ ys m o2 h2 l2 r2 =>
      obtain ⟨ws, u2, p2, z2⟩ := I.tuple (SqT.of h2)
      rw [ZS]
      exact SeqAt.RcAt.list_tuple p1.isList p2 hu
    | rng o2 h2 => rw [dp] at hb; omega
    | scr o2 h2 => rw [dp] at hb; omega
    | scrK _ => rw [dp] at hb; omega
  | @tup _ xs l o1 h1 l1 r1 =>
    obtain ⟨us, u1, p1, z1⟩ := I.tuple (SqT.of h1)
    cases rb with
    | @tup _ ys m o2 h2 l2 r2 =>
      obtain ⟨ws, u2, p2, z2⟩ := I.tuple (SqT.of h2)
      have s1 : us.toArray.size = l.length := by rw [List.size_toArray, <- u1.length, l1]
      have s2 : ws.toArray.size = m.length := by rw [List.size_toArray, <- u2.length, l2]
      have h := SeqAt.RcAt.tuples (A := A) (e := fun j => eqD (l.getD j .non) (m.getD j .non)) (show s.heap.IsTuple p us.toArray from p1) (show s.heap.IsTuple q ws.toArray from p2) hu (fun j j1 j2 => by
          obtain ⟨x, hx, rx⟩ := je u1 j1
          obtain ⟨y, hy, ry⟩ := je u2 j2
          have k1 : j < l.length := by rw [<- s1]; exact j1
          have k2 : j < m.length := by rw [<- s2]; exact j2
          rw [dp] at ha hb ih
          refine ih _ _ x y _ _ ?_ (r1 j x _ hx ?_) (r2 j y _ hy ?_) ?_ rx ry
          · rw [List.getD_eq_getElem?_getD, List.getElem?_eq_getElem k1]
            have := zJ (List.getElem_mem k1); show dp l[j] < _; omega
          · rw [List.getD_eq_getElem?_getD, List.getElem?_eq_getElem k1]; rfl
          · rw [List.getD_eq_getElem?_getD, List.getElem?_eq_getElem k2]; rfl
          · rw [List.getD_eq_getElem?_getD, List.getElem?_eq_getElem k2]
            have := zJ (List.getElem_mem k2); show dp m[j] < _; omega)
      rw [s1, s2] at h
      rw [eqD]
      by_cases e : l.length = m.length
      · rw [<- e, Nat.min_self, beq_self_eq_true, Bool.and_true, <- jj l m e] at h
        exact h
      · rw [ji l m e]
        rw [show (l.length == m.length) = false by simpa using e, Bool.and_false] at h
        exact h
    | @lst _ ys m o2 h2 l2 r2 =>
      obtain ⟨ws, u2, p2, z2⟩ := I.list (SqL.of h2)
      rw [Jf]
      exact SeqAt.RcAt.tuple_list p1 p2.isList hu
    | rng o2 h2 => rw [dp] at hb; omega
    | scr o2 h2 => rw [dp] at hb; omega
    | scrK _ => rw [dp] at hb; omega
  | rng o2 h2 => rw [dp] at ha; omega
  | scr o2 h2 => rw [dp] at ha; omega
  | scrK _ => rw [dp] at ha; omega
theorem Wb (I : Inv X pins σ H s) {a : Addr} {xs : List V} (h : H a = some (.lst xs)) : ∃ us, s.heap.IsList a us := let ⟨_, _, p, _⟩ := I.list (SqL.of h); ⟨_, p.isList⟩
theorem V8 (I : Inv X pins σ H s) {a : Addr} {xs : List V} (h : H a = some (.tup xs)) : ∃ us, s.heap.IsTuple a us := let ⟨_, _, p, _⟩ := I.tuple (SqT.of h); ⟨_, p⟩
local macro_rules | `(tactic| walk_at "sc") => `(tactic| first
 | with_reducible exact .same _ | with_reducible exact .none_none | with_reducible exact .none_bool _ | with_reducible exact .none_int _ _ | with_reducible exact .none_str _ _ | with_reducible exact .bool_none _ | with_reducible exact .bool_bool _ _ | with_reducible exact .bool_int _ _ _ | with_reducible exact .bool_str _ _ _ | with_reducible exact .int_none _ _ | with_reducible exact .int_bool _ _ _ | with_reducible exact .int_int _ _ _ _ | with_reducible exact .int_str _ _ _ _ | with_reducible exact .str_none _ _ | with_reducible exact .str_bool _ _ _ | with_reducible exact .str_int _ _ _ _ | with_reducible exact .str_str _ _ _ _)
theorem ls_ (I : Inv X pins σ H s) {a : Addr} {xs : List V} (h : H a = some (.lst xs)) : s.heap.IsList a (Classical.choose (Wb I h)) := Classical.choose_spec _
theorem ts_ (I : Inv X pins σ H s) {a : Addr} {xs : List V} (h : H a = some (.tup xs)) : s.heap.IsTuple a (Classical.choose (V8 I h)) := Classical.choose_spec _
local macro_rules | `(tactic| walk_at "sq") => `(tactic| first
 | with_reducible exact .none_list (ls_ (by assumption) (by assumption)) (by assumption) | with_reducible exact .bool_list _ (ls_ (by assumption) (by assumption)) (by assumption) | with_reducible exact .int_list _ _ (ls_ (by assumption) (by assumption)) (by assumption) | with_reducible exact .str_list _ _ (ls_ (by assumption) (by assumption)) (by assumption) | with_reducible exact .list_none (ls_ (by assumption) (by assumption)) (by assumption) | with_reducible exact .list_bool _ (ls_ (by assumption) (by assumption)) (by assumption) | with_reducible exact .list_int _ _ (ls_ (by assumption) (by assumption)) (by assumption) | with_reducible exact .list_str _ _ (ls_ (by assumption) (by assumption)) (by assumption)
 | with_reducible exact .none_tuple (ts_ (by assumption) (by assumption)) (by assumption) | with_reducible exact .bool_tuple _ (ts_ (by assumption) (by assumption)) (by assumption) | with_reducible exact .int_tuple _ _ (ts_ (by assumption) (by assumption)) (by assumption) | with_reducible exact .str_tuple _ _ (ts_ (by assumption) (by assumption)) (by assumption) | with_reducible exact .tuple_none (ts_ (by assumption) (by assumption)) (by assumption) | with_reducible exact .tuple_bool _ (ts_ (by assumption) (by assumption)) (by assumption) | with_reducible exact .tuple_int _ _ (ts_ (by assumption) (by assumption)) (by assumption) | with_reducible exact .tuple_str _ _ (ts_ (by assumption) (by assumption)) (by assumption))
theorem wq (I : Inv X pins σ H s) {O O' : Own} (A : Around) (hu : A.units < cLine) (a b : Dat) (v u : V) (v' u' : Value) (ha : dp a < 1000) (ra : Rep H O v a) (rb : Rep H O' u b) (hb : dp b < 1000) (rv : zt v v') (ru : zt u u')
    (ih : ∀ (c d : Dat) (v u : V) (v' u' : Value), dp c < dp a -> Rep H O v c -> Rep H O' u d -> dp d < 1000 -> zt v v' -> zt u u' -> SeqAt.EqAt A.in1 s v' u' (eqD c d)) : SeqAt.EqAt A s v' u' (eqD a b) := by
  by_cases hr : ∃ p q, v = .ref p /\ u = .ref q
  · obtain ⟨p, q, rfl, rfl⟩ := hr
    cases rv
    cases ru
    by_cases e : p = q
    · subst e
      rw [<- ra.fn rb ha hb, vc ha]
      exact .same _
    · exact .of_refs e (ZL I ih ra rb ha hb hu)
  · cases ra <;> cases rb <;> first
      | with_reducible exact absurd ⟨_, _, rfl, rfl⟩ hr
      | (rw [dp] at ha; omega)
      | (rw [dp] at hb; omega)
      | ((first | (obtain ⟨t0, rfl⟩ := rv) | cases rv); (first | (obtain ⟨t1, rfl⟩ := ru) | cases ru); simp only [eqD, Bool.not_false, Bool.not_true]; first | walk_at "sc" | walk_at "sq")
theorem Q2 (I : Inv X pins σ H s) {O O' : Own} : ∀ (n : Nat) (A : Around), A.units + n < cLine -> ∀ (a b : Dat) (v u : V) (v' u' : Value), dp a <= n -> n < 1000 -> Rep H O v a -> Rep H O' u b -> dp b < 1000 -> zt v v' -> zt u u' -> SeqAt.EqAt A s v' u' (eqD a b) := by
 intro n
 induction n with
 | zero =>
  intro A hu a b v u v' u' ha _ ra rb hb rv ru
  exact wq I A (by omega) a b v u v' u' (by omega) ra rb hb rv ru fun _ _ _ _ _ _ h => absurd h (by omega)
 | succ n ih =>
  intro A hu a b v u v' u' ha hn ra rb hb rv ru
  exact wq I A (by omega) a b v u v' u' (by omega) ra rb hb rv ru fun c d x y x' y' hc rc rd hd rx ry => ih A.in1 (by show A.units + 1 + n < _; omega) c d x y x' y' (by omega) (by omega) rc rd hd rx ry
def Yw (f : Bool -> Bool) : R2 := fun x y H Q => ∃ O O' a b, Rep H O x a /\ Rep H O' y b /\ dp a <= 40 /\ dp b <= 40 /\ Q (.bl (f (eqD a b))) H
theorem X2 (I : Inv X pins σ H s) {O O' : Own} (A : Around) (hu : A.units + 41 < cLine) (a b : Dat) (v u : V) (v' u' : Value) (ha : dp a <= 40) (ra : Rep H O v a) (rb : Rep H O' u b) (hb : dp b <= 40) (rv : zt v v') (ru : zt u u') : SeqAt.RcAt A s v' u' (eqD a b) := by
  have ih : ∀ (c d : Dat) (v u : V) (v' u' : Value), dp c < dp a -> Rep H O v c -> Rep H O' u d -> dp d < 1000 -> zt v v' -> zt u u' -> SeqAt.EqAt A.in1 s v' u' (eqD c d) := fun c d v u v' u' hc rc rd hd rv ru => Q2 I 40 A.in1 (by show A.units + 1 + 40 < _; omega) c d v u v' u' (by omega) (by omega) rc rd hd rv ru
  replace hu : A.units < cLine := by omega
  by_cases hr : ∃ p q, v = .ref p /\ u = .ref q
  · obtain ⟨p, q, rfl, rfl⟩ := hr
    cases rv
    cases ru
    exact ZL I ih ra rb (by omega) (by omega) hu
  · cases ra <;> cases rb <;> first
      | with_reducible exact absurd ⟨_, _, rfl, rfl⟩ hr
      | (rw [dp] at ha; omega)
      | (rw [dp] at hb; omega)
      | ((first | (obtain ⟨t0, rfl⟩ := rv) | cases rv); (first | (obtain ⟨t1, rfl⟩ := ru) | cases ru); simp only [eqD, Bool.not_false, Bool.not_true]; first | walk_at "sc" | walk_at "sq")
theorem Qh (I : Inv X pins σ H s) {A : Around} {p q : Addr} {O O' : Own} {a b : Dat} (ih : ∀ (c d : Dat) (v u : V) (v' u' : Value), dp c < dp a -> Rep H O v c -> Rep H O' u d -> dp d < 1000 -> zt v v' -> zt u u' -> SeqAt.EqAt A.in1 s v' u' (eqD c d))
    (ra : Rep H O (.ref p) a) (rb : Rep H O' (.ref q) b) (ha : dp a < 1000) (hb : dp b < 1000) (hu : A.units < cLine) : SeqAt.RcNeAt A s (.ref p) (.ref q) (!(eqD a b)) := by
  cases ra with
  | @lst _ xs l o1 h1 l1 r1 =>
    obtain ⟨us, u1, p1, z1⟩ := I.list (SqL.of h1)
    cases rb with
    | @lst _ ys m o2 h2 l2 r2 =>
      obtain ⟨ws, u2, p2, z2⟩ := I.list (SqL.of h2)
      have s1 : us.toArray.size = l.length := by rw [List.size_toArray, <- u1.length, l1]
      have s2 : ws.toArray.size = m.length := by rw [List.size_toArray, <- u2.length, l2]
      by_cases e : l.length = m.length
      · have h := SeqAt.RcNeAt.lists (A := A) (e := fun j => eqD (l.getD j .non) (m.getD j .non)) p1.isList p2.isList (by rw [s1, s2, e]) hu (fun j j1 j2 => by
          obtain ⟨x, hx, rx⟩ := je u1 j1
          obtain ⟨y, hy, ry⟩ := je u2 j2
          have k1 : j < l.length := by rw [<- s1]; exact j1
          have k2 : j < m.length := by rw [<- s2]; exact j2
          rw [dp] at ha hb ih
          refine ih _ _ x y _ _ ?_ (r1 j x _ hx ?_) (r2 j y _ hy ?_) ?_ rx ry
          · rw [List.getD_eq_getElem?_getD, List.getElem?_eq_getElem k1]
            have := zJ (List.getElem_mem k1); show dp l[j] < _; omega
          · rw [List.getD_eq_getElem?_getD, List.getElem?_eq_getElem k1]; rfl
          · rw [List.getD_eq_getElem?_getD, List.getElem?_eq_getElem k2]; rfl
          · rw [List.getD_eq_getElem?_getD, List.getElem?_eq_getElem k2]
            have := zJ (List.getElem_mem k2); show dp m[j] < _; omega)
        rw [s1, <- jj l m e] at h
        rw [eqD]; exact h
      · rw [eqD, ji l m e]
        exact SeqAt.RcNeAt.lists_lengths p1.isList p2.isList (by rw [s1, s2]; simpa using e) hu
    | @tup _ ys m o2 h2 l2 r2 =>
      obtain ⟨ws, u2, p2, z2⟩ := I.tuple (SqT.of h2)
      rw [ZS]
      exact SeqAt.RcNeAt.list_tuple p1.isList p2 hu
    | rng o2 h2 => rw [dp] at hb; omega
    | scr o2 h2 => rw [dp] at hb; omega
    | scrK _ => rw [dp] at hb; omega
  | @tup _ xs l o1 h1 l1 r1 =>
    obtain ⟨us, u1, p1, z1⟩ := I.tuple (SqT.of h1)
    cases rb with
    | @tup _ ys m o2 h2 l2 r2 =>
      obtain ⟨ws, u2, p2, z2⟩ := I.tuple (SqT.of h2)
      have s1 : us.toArray.size = l.length := by rw [List.size_toArray, <- u1.length, l1]
      have s2 : ws.toArray.size = m.length := by rw [List.size_toArray, <- u2.length, l2]
      have h := SeqAt.RcNeAt.tuples (A := A) (e := fun j => eqD (l.getD j .non) (m.getD j .non)) (show s.heap.IsTuple p us.toArray from p1) (show s.heap.IsTuple q ws.toArray from p2) hu (fun j j1 j2 => by
          obtain ⟨x, hx, rx⟩ := je u1 j1
          obtain ⟨y, hy, ry⟩ := je u2 j2
          have k1 : j < l.length := by rw [<- s1]; exact j1
          have k2 : j < m.length := by rw [<- s2]; exact j2
          rw [dp] at ha hb ih
          refine ih _ _ x y _ _ ?_ (r1 j x _ hx ?_) (r2 j y _ hy ?_) ?_ rx ry
          · rw [List.getD_eq_getElem?_getD, List.getElem?_eq_getElem k1]
            have := zJ (List.getElem_mem k1); show dp l[j] < _; omega
          · rw [List.getD_eq_getElem?_getD, List.getElem?_eq_getElem k1]; rfl
          · rw [List.getD_eq_getElem?_getD, List.getElem?_eq_getElem k2]; rfl
          · rw [List.getD_eq_getElem?_getD, List.getElem?_eq_getElem k2]
            have := zJ (List.getElem_mem k2); show dp m[j] < _; omega)
      rw [s1, s2] at h
      rw [eqD]
      by_cases e : l.length = m.length
      · rw [<- e, Nat.min_self, beq_self_eq_true, Bool.and_true, <- jj l m e] at h
        exact h
      · rw [ji l m e]
        rw [show (l.length == m.length) = false by simpa using e, Bool.and_false] at h
        exact h
    | @lst _ ys m o2 h2 l2 r2 =>
      obtain ⟨ws, u2, p2, z2⟩ := I.list (SqL.of h2)
      rw [Jf]
      exact SeqAt.RcNeAt.tuple_list p1 p2.isList hu
    | rng o2 h2 => rw [dp] at hb; omega
    | scr o2 h2 => rw [dp] at hb; omega
    | scrK _ => rw [dp] at hb; omega
  | rng o2 h2 => rw [dp] at ha; omega
  | scr o2 h2 => rw [dp] at ha; omega
  | scrK _ => rw [dp] at ha; omega
theorem ZN (I : Inv X pins σ H s) {O O' : Own} (A : Around) (hu : A.units + 41 < cLine) (a b : Dat) (v u : V) (v' u' : Value) (ha : dp a <= 40) (ra : Rep H O v a) (rb : Rep H O' u b) (hb : dp b <= 40) (rv : zt v v') (ru : zt u u') : SeqAt.RcNeAt A s v' u' (!(eqD a b)) := by
  have ih : ∀ (c d : Dat) (v u : V) (v' u' : Value), dp c < dp a -> Rep H O v c -> Rep H O' u d -> dp d < 1000 -> zt v v' -> zt u u' -> SeqAt.EqAt A.in1 s v' u' (eqD c d) := fun c d v u v' u' hc rc rd hd rv ru => Q2 I 40 A.in1 (by show A.units + 1 + 40 < _; omega) c d v u v' u' (by omega) (by omega) rc rd hd rv ru
  replace hu : A.units < cLine := by omega
  by_cases hr : ∃ p q, v = .ref p /\ u = .ref q
  · obtain ⟨p, q, rfl, rfl⟩ := hr
    cases rv
    cases ru
    exact Qh I ih ra rb (by omega) (by omega) hu
  · cases ra <;> cases rb <;> first
      | with_reducible exact absurd ⟨_, _, rfl, rfl⟩ hr
      | (rw [dp] at ha; omega)
      | (rw [dp] at hb; omega)
      | ((first | (obtain ⟨t0, rfl⟩ := rv) | cases rv); (first | (obtain ⟨t1, rfl⟩ := ru) | cases ru); simp only [eqD, Bool.not_false, Bool.not_true]; first | walk_at "sc" | walk_at "sq")
theorem qR (hu : X.A.units + 64 < cLine) : OpR X (compareOp .Eq) (Yw id) := by
 intro pins s σ H x y v u Q I rx ry h
 obtain ⟨O, O', a, b, ra, rb, ha, hb, k⟩ := h
 exact X2 I X.A (by omega) a b x y v u ha ra rb hb rx ry _ _ _ _ ⟨.bl _, H, I, rfl, k⟩
theorem vJ (hu : X.A.units + 64 < cLine) : OpR X (compareOp .NotEq) (Yw not) := by
 intro pins s σ H x y v u Q I rx ry h
 obtain ⟨O, O', a, b, ra, rb, ha, hb, k⟩ := h
 exact ZN I X.A (by omega) a b x y v u ha ra rb hb rx ry _ _ _ _ ⟨.bl _, H, I, rfl, k⟩
end
def jI (x : AV) (M : MH) : Option Dat := match x with
 | .d x => some x
 | .ref a => match M a with
  | some (.lst l) => (pur l).map .lst
  | _ => none
theorem Yx (x : Dat) (M : MH) : jI (.d x) M = some x := rfl
theorem jQ {a : Addr} {M : MH} {l : List AV} {ds : List Dat} (h : M a = some (.lst l)) (hp : pur l = some ds) : jI (.ref a) M = some (.lst ds) := by unfold jI; dsimp only; rw [h]; dsimp only; rw [hp]; rfl
theorem ku {H : Hp} {O : Own} {M : MH} {v : V} {x : AV} {d : Dat} (w : Wf H O M) (r : zk H O M v x) (h : jI x M = some d) : ∃ O', Rep H O' v d := by
 cases x with
 | d x => cases h; exact ⟨O, r⟩
 | ref a =>
  unfold jI at h
  dsimp only at h
  cases e : M a with
  | none => rw [e] at h; cases h
  | some o =>
   rw [e] at h
   cases o with
   | lst l =>
    dsimp only at h
    cases ep : pur l with
    | none => rw [ep] at h; cases h
    | some ds =>
     rw [ep] at h
     cases h
     obtain ⟨xs, hx, rx⟩ := w.mo a _ e
     rw [qQ ep] at rx
     have rp := rx.pure
     refine ⟨yq O a, ?_⟩
     rw [r.1]
     exact Rep.lst (fun z => z.1 rfl) hx rp.1 fun i x d e1 e2 => (rp.2 i x d e1 e2).imp (jq a)
   | _ => cases h
def Y8 (f : Bool -> Bool) : AR2 := fun x y M Q => ∃ a b, jI x M = some a /\ jI y M = some b /\ dp a <= 40 /\ dp b <= 40 /\ Q (.d (.bl (f (eqD a b)))) M
theorem Jw {f : Bool -> Bool} : vF (Yw f) (Y8 f) := ⟨fun w r1 r2 ⟨a, b, e1, e2, h1, h2, q⟩ k => by
 obtain ⟨O1, p1⟩ := ku w r1 e1
 obtain ⟨O2, p2⟩ := ku w r2 e2
 exact ⟨O1, O2, a, b, p1, p2, h1, h2, k _ _ _ _ _ q .refl w .bl⟩⟩
theorem yg (i : Int) : dp (.int i) = 0 := by simp [dp]
end L2
set_option Elab.async false
set_option linter.all false
set_option maxRecDepth 100000
set_option maxHeartbeats 4000000
namespace L2
open PySem PySem.Spec PyProof.Rows
theorem jC {H : Hp} {O : Own} {M : MH} {vs : List V} {x : AV} (r : ze H O M vs [x]) : ∃ v, vs = [v] /\ zk H O M v x := by
 obtain ⟨v1, r', rfl, a1, r2⟩ := r.cons_inv
 rw [r2.nil_inv]; exact ⟨v1, rfl, a1⟩
theorem jZ {H : Hp} {O : Own} {M : MH} {vs : List V} {x y : AV} (r : ze H O M vs [x, y]) : ∃ v u, vs = [v, u] /\ zk H O M v x /\ zk H O M u y := by
 obtain ⟨v1, r', rfl, a1, r2⟩ := r.cons_inv
 obtain ⟨v2, rfl, a2⟩ := jC r2
 exact ⟨v1, v2, rfl, a1, a2⟩
def Vt : List AV -> MH -> AK -> Prop := fun xs M Q => ∃ x l, xs = [x] /\ qF x M = some l /\ Q (.d (.int (l.length : Nat))) M
theorem Kt {K : PySem.W.Frag} : xY (fun xs H Q => ∃ p ys, xs = [V.ref p] /\ (SqL K H p ys \/ SqT K H p ys) /\ Q (V.int ys.length) H) Vt := ⟨fun w r ⟨x, l, e, h, q⟩ k => by
 subst e
 obtain ⟨v, rfl, rv⟩ := jC r
 obtain ⟨a, xs, rfl, h1, r1⟩ := Jc w rv h
 exact ⟨a, xs, rfl, h1.elim (fun h => .inl (SqL.of h)) (fun h => .inr (SqT.of h)), by rw [r1.1]; exact k _ _ _ _ _ q .refl w .int⟩⟩
def bI2 (f : Int -> Int -> Int) : List AV -> MH -> AK -> Prop := fun xs M Q => ∃ i j, xs = [.d (.int i), .d (.int j)] /\ Q (.d (.int (f i j))) M
theorem XF {f : Int -> Int -> Int} : xY (fun xs H Q => ∃ i j, xs = [V.int i, V.int j] /\ Q (V.int (f i j)) H) (bI2 f) := ⟨fun w r ⟨i, j, e, q⟩ k => by
 subst e
 obtain ⟨v, u, rfl, rv, ru⟩ := jZ r
 exact ⟨i, j, by rw [zK rv, zK ru], k _ _ _ _ _ q .refl w .int⟩⟩
def K4 : List AV -> MH -> AK -> Prop := fun xs M Q => ∃ c, xs = [.d (.bl c)] /\ Q (.d (.int (if c = true then 1 else 0))) M
theorem Jd : xY (fun xs H Q => ∃ k, xs = [V.bl k] /\ Q (V.int (if k = true then 1 else 0)) H) K4 := ⟨fun w r ⟨c, e, q⟩ k => by
 subst e
 obtain ⟨v, rfl, rv⟩ := jC r
 exact ⟨c, by rw [j7 rv], k _ _ _ _ _ q .refl w .int⟩⟩
def Z4 : List AV -> MH -> AK -> Prop := fun xs M Q => ∃ x l ds, xs = [x] /\ qF x M = some l /\ pur l = some ds /\ Q (.d (.tup ds)) M
theorem Zs {K : PySem.W.Frag} : xY (fun xs H Q => ∃ p ys, xs = [V.ref p] /\ ((SqL K H p ys /\ ∀ l, H l = none -> Q (V.ref l) (upd H l (HO.tup ys))) \/ SqT K H p ys /\ Q (V.ref p) H)) Z4 := ⟨fun w r ⟨x, l, ds, e, h, hp, q⟩ k => by
 subst e
 obtain ⟨v, rfl, rv⟩ := jC r
 rw [qQ hp] at h
 rcases jO h with h' | ⟨m, rfl, e2⟩
 ·obtain ⟨a, xs, rfl, h1, r1⟩ := qc w rv h'
  exact ⟨a, xs, rfl, .inl ⟨SqL.of h1, fun p hp => k _ _ _ _ _ q (qj w hp _) (kN w hp _) (xO w hp r1)⟩⟩
 ·obtain rfl : ds = m := by have := congrArg pur e2; rw [zA, zA] at this; cases this; rfl
  obtain ⟨a, xs, rfl, h1, r1⟩ := qp (l := ds.map .d) rv rfl
  exact ⟨a, xs, rfl, .inr ⟨SqT.of h1, k _ _ _ _ _ q .refl w rv⟩⟩⟩
structure VF (r : List V -> Hp -> VK -> Prop) (a : List AV -> MH -> (List AV -> Prop) -> Prop) : Prop where
 go : ∀ {vs : List V} {xs : List AV} {H : Hp} {O : Own} {M : MH} {Q : VK} {Q' : List AV -> Prop}, Wf H O M -> ze H O M vs xs -> a xs M Q' -> (∀ l ys, Q' l -> ze H O M ys l -> ∀ p, H p = none -> Q (.ref p) (upd H p (.lst ys))) -> r vs H Q
def fCB (r : List AV -> MH -> (List AV -> Prop) -> Prop) (b : AA) : AF := fun ρ M Q => b ρ M fun xs M1 => r xs M1 fun l => Q l M1
theorem Ki {r : List V -> Hp -> VK -> Prop} {ra : List AV -> MH -> (List AV -> Prop) -> Prop} {u : TA} {b : AA} (hr : VF r ra) (h : ky u b) : yR (tCB r u) (fCB ra b) :=
 ⟨fun w e q k => h.go w e q fun x M1 v H1 O1 q1 k1 w1 r1 => hr.go w1 r1 q1 fun l ys q3 r3 p hp =>
  k l M1 p ys _ _ q3 (k1.trans (qB w1 hp _)) (ye w1 hp _ (fun _ z => nomatch z)) (.inl rfl) (w1.fresh hp).2 (xa w1 k1 hp) zd (r3.ext (qB w1 hp _))⟩
theorem kZ {H : Hp} {O : Own} {M : MH} : ∀ {ns : List Int} {xs : List V}, ze H O M xs (ns.map fun i => AV.d (.int i)) -> xs = ns.map V.int
 | [], xs, r => r.nil_inv
 | i :: ns, xs, r => by
  obtain ⟨v, r', rfl, a1, r2⟩ := r.cons_inv
  rw [zK a1, kZ r2]; rfl
def tyA (x : AV) (M : MH) : Option String := match x with
 | .d .non => some "NoneType"
 | .d (.bl _) => some "bool"
 | .d (.int _) => some "int"
 | .d (.str _) => some "str"
 | .d (.lst _) => some "list"
 | .d (.tup _) => some "tuple"
 | .ref a => match M a with
  | some (.lst _) => some "list"
  | some (.dK _) => some "dict"
  | _ => none
 | _ => none
theorem QV {K : PySem.W.Frag} {H : Hp} {O : Own} {M : MH} {v : V} {x : AV} {t : String} (w : Wf H O M) (r : zk H O M v x) (h : tyA x M = some t) : jk K H v (.type t) := by
 cases x with
 | d x =>
  cases (show Rep H O v x from r) with
  | non => cases h; exact .non
  | bl => cases h; exact .bl _
  | int => cases h; exact .int _
  | str => cases h; exact .str _
  | lst o e => cases h; exact .lst e
  | tup o e => cases h; exact .tup e
  | ty => cases h
  | rng _ _ => cases h
  | scr _ _ => cases h
  | scrK _ => cases h
 | ref a =>
  unfold tyA at h
  dsimp only at h
  rw [r.1]
  cases e : M a with
  | none => rw [e] at h; cases h
  | some o =>
   rw [e] at h
   have := w.mo a o e
   cases o with
   | lst l => cases h; obtain ⟨xs, hx, _⟩ := this; exact .lst hx
   | dK l => cases h; obtain ⟨xs, hx, _⟩ := this; exact .dK hx
   | ins C fs => cases h
def Vs : List AV -> MH -> AK -> Prop := fun xs M Q => ∃ x t c b, xs = [x, .d (.ty c)] /\ tyA x M = some t /\ isT t c = some b /\ Q (.d (.bl b)) M
theorem JT {K : PySem.W.Frag} : xY (fun xs H Q => ∃ x t c b, xs = [x, V.ty c] /\ jk K H x (Value.type t) /\ isT t c = some b /\ Q (V.bl b) H) Vs := ⟨fun w r ⟨x, t, c, b, e, h, hb, q⟩ k => by
 subst e
 obtain ⟨v, u, rfl, rv, ru⟩ := jZ r
 exact ⟨v, t, c, b, by rw [QA ru], QV w rv h, hb, k _ _ _ _ _ q .refl w .bl⟩⟩
theorem wG {H : Hp} {O : Own} {M : MH} : ∀ {ns : List String} {xs : List V}, ze H O M xs ((ns.map Dat.ty).map .d) -> xs = ns.map V.ty
 | [], xs, r => r.nil_inv
 | i :: ns, xs, r => by
  obtain ⟨v, r', rfl, a1, r2⟩ := r.cons_inv
  rw [QA a1, wG r2]; rfl
def yW : List Dat -> Option (List String)
 | [] => some []
 | .ty n :: r => (yW r).map (n :: ·)
 | _ => none
theorem wc : ∀ {l : List Dat} {cs : List String}, yW l = some cs -> l = cs.map Dat.ty
 | [], cs, h => by cases h; rfl
 | .ty n :: r, cs, h => by
  unfold yW at h
  cases e : yW r with
  | none => rw [e] at h; cases h
  | some m => rw [e] at h; cases h; rw [wc e]; rfl
 | .non :: _, _, h => by cases h
 | .bl _ :: _, _, h => by cases h
 | .int _ :: _, _, h => by cases h
 | .str _ :: _, _, h => by cases h
 | .lst _ :: _, _, h => by cases h
 | .tup _ :: _, _, h => by cases h
 | .rng _ _ _ :: _, _, h => by cases h
 | .scr _ _ :: _, _, h => by cases h
def K3 : List AV -> MH -> AK -> Prop := fun xs M Q => ∃ x t l cs b, xs = [x, .d (.tup l)] /\ yW l = some cs /\ tyA x M = some t /\ xh t cs = some b /\ Q (.d (.bl b)) M
theorem QI {K : PySem.W.Frag} : xY (fun xs H Q => ∃ x t p cs b, xs = [x, V.ref p] /\ H p = some (HO.tup (List.map V.ty cs)) /\ jk K H x (Value.type t) /\ xh t cs = some b /\ Q (V.bl b) H) K3 := ⟨fun w r ⟨x, t, l, cs, b, e, hc, h, hb, q⟩ k => by
 subst e
 obtain ⟨v, u, rfl, rv, ru⟩ := jZ r
 rw [wc hc] at ru
 obtain ⟨a, xs, rfl, h1, r1⟩ := qp (l := (cs.map Dat.ty).map .d) ru rfl
 rw [wG r1] at h1
 exact ⟨v, t, a, cs, b, rfl, h1, QV w rv h, hb, k _ _ _ _ _ q .refl w .bl⟩⟩
theorem wH {H : Hp} {O : Own} {M : MH} : ∀ {ns : List Bool} {xs : List V}, ze H O M xs (ns.map fun i => AV.d (.bl i)) -> xs = ns.map V.bl
 | [], xs, r => r.nil_inv
 | i :: ns, xs, r => by
  obtain ⟨v, r', rfl, a1, r2⟩ := r.cons_inv
  rw [j7 a1, wH r2]; rfl
def Vi (f : List Bool -> Bool) : List AV -> MH -> AK -> Prop := fun xs M Q => ∃ x bs, xs = [x] /\ zU x M = some (List.map (fun b => AV.d (.bl b)) bs) /\ Q (.d (.bl (f bs))) M
theorem JM {K : PySem.W.Frag} {f : List Bool -> Bool} : xY (fun xs H Q => ∃ p bs, xs = [V.ref p] /\ SqL K H p (List.map V.bl bs) /\ Q (V.bl (f bs)) H) (Vi f) := ⟨fun w r ⟨x, bs, e, h, q⟩ k => by
 subst e
 obtain ⟨v, rfl, rv⟩ := jC r
 obtain ⟨a, xs, rfl, h1, r1⟩ := qc w rv h
 rw [wH r1] at h1
 exact ⟨a, bs, rfl, SqL.of h1, k _ _ _ _ _ q .refl w .bl⟩⟩
structure KE (r : V -> List V -> Hp -> VK -> Prop) (a : AV -> List AV -> MH -> AK -> Prop) : Prop where
 go : ∀ {x : V} {dx : AV} {vs : List V} {xs : List AV} {H : Hp} {O : Own} {M : MH} {Q : VK} {Q' : AK}, Wf H O M -> zk H O M x dx -> ze H O M vs xs -> a dx xs M Q' -> (∀ x M' v H' O', Q' x M' -> Ext H O M H' O' M' -> Wf H' O' M' -> zk H' O' M' v x -> Q v H') -> r x vs H Q
def aBM (r : AV -> List AV -> MH -> AK -> Prop) (a : AE) (b : AA) : AE := fun ρ M Q => a ρ M fun x M1 => (∃ l, zU x M1 = some l) /\ b ρ M1 fun xs M2 => r x xs M2 Q
theorem Xw {K : PySem.W.Frag} {r : V -> List V -> Hp -> VK -> Prop} {ra : AV -> List AV -> MH -> AK -> Prop} {t : TE} {u : TA} {a : AE} {b : AA} (hr : KE r ra) (h1 : zL t a) (h2 : ky u b) : zL (tBM K "list" r t u) (aBM ra a b) :=
 ⟨fun w e q k => h1.go w e q fun x M1 v H1 O1 ⟨⟨l, hl⟩, q1⟩ k1 w1 r1 => ⟨by
  obtain ⟨a, xs, rfl, hx, _⟩ := qc w1 r1 hl
  exact .inl ⟨rfl, xs, SqL.of hx⟩, h2.go w1 (e.ext k1) q1 fun y M2 u H2 O2 q2 k2 w2 r2 => hr.go w2 (r1.ext k2) r2 q2 fun z M3 v3 H3 O3 q3 k3 w3 r3 => k z M3 v3 H3 O3 q3 ((k1.trans k2).trans k3) w3 r3⟩⟩
def VU (r : AV -> List AV -> MH -> AK -> Prop) (a : AE) : AE := fun ρ M Q => a ρ M fun x M1 => (∃ l, zU x M1 = some l) /\ r x [] M1 Q
theorem Kq {K : PySem.W.Frag} {r : V -> List V -> Hp -> VK -> Prop} {ra : AV -> List AV -> MH -> AK -> Prop} {t : TE} {a : AE} (hr : KE r ra) (h1 : zL t a) : zL (Xq K "list" r t) (VU ra a) :=
 ⟨fun w e q k => h1.go w e q fun x M1 v H1 O1 ⟨⟨l, hl⟩, q1⟩ k1 w1 r1 => ⟨by
  obtain ⟨a, xs, rfl, hx, _⟩ := qc w1 r1 hl
  exact .inl ⟨rfl, xs, SqL.of hx⟩, hr.go w1 r1 .nil q1 fun z M3 v3 H3 O3 q3 k3 w3 r3 => k z M3 v3 H3 O3 q3 (k1.trans k3) w3 r3⟩⟩
theorem yz {H : Hp} {O : Own} {M : MH} {p : Addr} {l l' : List AV} {xs' : List V} (w : Wf H O M) (hm : M p = some (.lst l)) (r : ze H O M xs' l') : Ext H O M (upd H p (.lst xs')) O (mup M p (.lst l')) /\ Wf (upd H p (.lst xs')) O (mup M p (.lst l')) :=
 have np := jt hm
 ⟨xS w np _ _, Yu w np (fun _ z => nomatch z) ⟨_, zd, r.ext (xS w np _ _)⟩⟩
def wt : AV -> List AV -> MH -> AK -> Prop := fun x xs M Q => ∃ p l y, x = .ref p /\ xs = [y] /\ M p = some (.lst l) /\ l.length < sizeLine /\ Q (.d .non) (mup M p (.lst (l ++ [y])))
theorem vO : KE kf wt := ⟨fun w r1 r2 ⟨p, l, y, e1, e2, hm, hs, q⟩ k => by
 subst e1 e2
 obtain ⟨v, rfl, rv⟩ := jC r2
 obtain ⟨xs, hx, rx⟩ := w.mo p _ hm
 obtain ⟨k1, w1⟩ := yz w hm (rx.snoc rv)
 exact ⟨p, xs, v, r1.1, rfl, hx, by rw [rx.1]; exact hs, k _ _ _ _ _ q k1 w1 .non⟩⟩
def QR : AV -> List AV -> MH -> AK -> Prop := fun x xs M Q => ∃ p l, x = .ref p /\ xs = [] /\ M p = some (.lst l) /\ Q (.d .non) (mup M p (.lst []))
theorem Zp : KE yp QR := ⟨fun w r1 r2 ⟨p, l, e1, e2, hm, q⟩ k => by
 subst e1 e2
 obtain ⟨xs, hx, rx⟩ := w.mo p _ hm
 obtain ⟨k1, w1⟩ := yz w hm .nil
 exact ⟨p, xs, r1.1, r2.nil_inv, hx, k _ _ _ _ _ q k1 w1 .non⟩⟩
def kX (r : Addr) : MO -> Prop
 | .lst l => AV.ref r ∈ l
 | .dK kvs => AV.ref r ∈ kvs.map (·.2)
 | .ins _ fs => AV.ref r ∈ fs.map (·.2)
structure QY (M0 M' : MH) (x x' : AV) (M'' : MH) : Prop where
 sub : ∀ q, M'' q = M' q \/ (M0 q = none /\ M'' q = none)
 cl : ∀ q o, M'' q = some o -> M0 q = some o \/ ∀ r, kX r o -> M'' r ≠ none
 res : (x' = x /\ ∀ p, x = .ref p -> M'' p ≠ none) \/ ∃ p l ds, x = .ref p /\ M' p = some (.lst l) /\ pur l = some ds /\ M'' p = none /\ x' = .d (.lst ds)
theorem vt {H0 H : Hp} {O0 O : Own} {M0 M' M'' : MH} {x x' : AV} {v : V} (w0 : Wf H0 O0 M0) (w : Wf H O M') (k : Ext H0 O0 M0 H O M') (r : zk H O M' v x) (f : QY M0 M' x x' M'') :
    ∃ O'', Wf H O'' M'' /\ Ext H0 O0 M0 H O'' M'' /\ zk H O'' M'' v x' := by
  have ks : ∀ a u, ¬ O a -> H a = some u -> H a = some u /\ ¬ (O a /\ ¬ (M' a ≠ none /\ M'' a = none)) := fun a u h e => ⟨e, fun z => h z.1⟩
  have k0 : ∀ a, M0 a ≠ none -> M'' a = M' a := fun a h => (f.sub a).elim (fun z => z) (fun z => absurd z.1 h)
  have m0 : ∀ a, M0 a ≠ none -> M'' a ≠ none := fun a h => by rw [k0 a h]; exact k.mst a h
  have avs : ∀ {xs : List V} {l : List AV}, ze H O M' xs l -> (∀ r, AV.ref r ∈ l -> M'' r ≠ none) -> ze H (fun a => O a /\ ¬ (M' a ≠ none /\ M'' a = none)) M'' xs l := fun {xs l} rr hr => ⟨rr.1, fun i y d e1 e2 => by
    have := rr.2 i y d e1 e2
    cases d with
    | d d => exact Rep.imp ks this
    | ref a => exact ⟨this.1, hr a (List.mem_of_getElem? e2)⟩⟩
  have refs0 : ∀ q o, M0 q = some o -> ∀ r, kX r o -> M0 r ≠ none := fun q o e r hr => by
    have := w0.mo q o e
    cases o with
    | lst l =>
      obtain ⟨xs, _, rr⟩ := this
      obtain ⟨i, hi⟩ := List.getElem?_of_mem hr
      obtain ⟨y, _, ry⟩ := rr.get hi
      exact ry.2
    | dK l =>
      obtain ⟨xs, _, rr⟩ := this
      obtain ⟨i, hi⟩ := List.getElem?_of_mem hr
      obtain ⟨y, _, ry⟩ := rr.2.get hi
      exact ry.2
    | ins C l =>
      obtain ⟨dx, xs, _, rr, _⟩ := this
      obtain ⟨i, hi⟩ := List.getElem?_of_mem hr
      obtain ⟨y, _, ry⟩ := rr.2.get hi
      exact ry.2
  refine ⟨fun a => O a /\ ¬ (M' a ≠ none /\ M'' a = none), ⟨fun q o e => ?_, fun a h => ?_, fun a h => w.al a h.1⟩, ⟨fun a u h e => ?_, fun a h e => ?_, m0⟩, ?_⟩
  · have e' : M' q = some o := by
      rcases f.sub q with z | z
      · rw [<- z]; exact e
      · rw [z.2] at e; cases e
    have hr : ∀ r, kX r o -> M'' r ≠ none := by
      rcases f.cl q o e with z | z
      · exact fun r hr => m0 r (refs0 q o z r hr)
      · exact z
    have := w.mo q o e'
    cases o with
    | lst l => obtain ⟨xs, h1, rr⟩ := this; exact ⟨xs, h1, avs rr hr⟩
    | dK l => obtain ⟨xs, h1, rr⟩ := this; exact ⟨xs, h1, rr.1, avs rr.2 hr⟩
    | ins C l =>
      obtain ⟨dx, xs, h1, rr, h2, h3, h4⟩ := this
      refine ⟨dx, xs, h1, ⟨rr.1, avs rr.2 hr⟩, ⟨h2, fun z => z.1 h3⟩, ?_, h4⟩
      rcases f.sub dx with z | z
      · rw [z]; exact h3
      · exact z.2
  · refine ⟨w.own a ?_, fun z => h z.2⟩
    rcases f.sub a with z | z
    · rw [<- z]; exact h
    · exact absurd z.2 h
  · obtain ⟨x1, x2⟩ := k.fix a u h e
    exact ⟨x1, fun z => x2 z.1⟩
  · obtain ⟨x1, x2, x3⟩ := k.prv a h e
    refine ⟨x1, ⟨x2, fun z => z.1 x3⟩, ?_⟩
    rcases f.sub a with z | z
    · rw [z]; exact x3
    · exact z.2
  · rcases f.res with ⟨rfl, hp⟩ | ⟨p, l, ds, rfl, hm, hp, hn, rfl⟩
    · cases x' with
      | d d => exact Rep.imp ks r
      | ref a => exact ⟨r.1, hp a rfl⟩
    · obtain ⟨xs, hx, rx⟩ := w.mo p _ hm
      rw [qQ hp] at rx
      have rp := rx.pure
      rw [r.1]
      exact Rep.lst (fun z => z.2 ⟨jt hm, hn⟩) hx rp.1 fun i x d e1 e2 => (rp.2 i x d e1 e2).imp ks
def Fr (M0 M : MH) : Prop := ∀ q, M0 q ≠ none -> M q = M0 q
theorem Fr.refl {M : MH} : Fr M M := fun _ _ => rfl
theorem Fr.mup {M0 M : MH} (f : Fr M0 M) {p : Addr} (h : M0 p = none) (o : MO) : Fr M0 (mup M p o) := fun q hq => by rw [zC (fun z => hq (by rw [z]; exact h))]; exact f q hq
theorem Fr.sub {M0 M : MH} (f : Fr M0 M) (q : Addr) : M0 q = M q \/ (M0 q = none /\ M0 q = none) := by
 cases e : M0 q with
 | none => exact .inr ⟨rfl, rfl⟩
 | some o => exact .inl (by rw [f q (by rw [e]; exact fun z => nomatch z), e])
theorem K8 {M0 M : MH} (f : Fr M0 M) (d : Dat) : QY M0 M (.d d) (.d d) M0 := ⟨f.sub, fun q o e => .inl e, .inl ⟨rfl, fun p z => nomatch z⟩⟩
theorem wd {M0 M : MH} (f : Fr M0 M) {p : Addr} {l : List AV} {ds : List Dat} (h0 : M0 p = none) (h : M p = some (.lst l)) (hp : pur l = some ds) : QY M0 M (.ref p) (.d (.lst ds)) M0 := ⟨f.sub, fun q o e => .inl e, .inr ⟨p, l, ds, rfl, h, hp, h0, rfl⟩⟩
theorem vX {l : List AV} {ds : List Dat} (h : pur l = some ds) (r : Addr) : AV.ref r ∉ l := by
 rw [qQ h]; intro z
 obtain ⟨d, _, e⟩ := List.mem_map.mp z
 cases e
theorem wJ {M0 M : MH} (f : Fr M0 M) {p : Addr} {l : List AV} {ds : List Dat} (h0 : M0 p = none) (h : M p = some (.lst l)) (hp : pur l = some ds) : QY M0 M (.ref p) (.ref p) (mup M0 p (.lst l)) := by
 refine ⟨fun q => ?_, fun q o e => ?_, .inl ⟨rfl, fun q z => by cases z; rw [zj]; exact fun z => nomatch z⟩⟩
 ·by_cases c : q = p
  ·rw [c, zj, h]; exact .inl rfl
  ·rw [zC c]; exact f.sub q
 ·by_cases c : q = p
  ·rw [c, zj] at e
   cases e
   exact .inr fun r hr => absurd hr (vX hp r)
  ·rw [zC c] at e; exact .inl e
def jF (N : List Str) (xs : List AV) : ASt := xs.map some ++ List.replicate (N.length - xs.length) none
theorem Qt {H : Hp} {O : Own} {M : MH} {vs : List V} {xs : List AV} (r : ze H O M vs xs) (N : List Str) : Er H O M (ql N vs) (jF N xs) := by
 unfold ql jF
 refine ⟨by simp [r.1], fun i x h => ?_⟩
 by_cases c : i < xs.length
 ·rw [List.getElem?_append_left (by simpa using c), List.getElem?_map] at h
  cases e : xs[i]? with
  | none => rw [e] at h; cases h
  | some y =>
   rw [e] at h
   cases h
   obtain ⟨v, hv, rv⟩ := r.get e
   exact ⟨v, by rw [List.getElem?_append_left (by rw [List.length_map, r.1]; exact c), List.getElem?_map, hv]; rfl, rv⟩
 ·rw [List.getElem?_append_right (by simp; omega), List.getElem?_replicate] at h
  split at h <;> cases h
def rtA (M0 : MH) (Q : AK) : AK := fun x M' => ∃ x' M'', QY M0 M' x x' M'' /\ Q x' M''
theorem dfA {P : Program} {w : World} {K : PySem.W.Frag} {mg : Str -> Option Value} {base : Heap} {x : Str} {st : Stmt} {N ps : List Str} {k : Nat} {a : ASp} (at_ : At K mg x st) (S : zN N ps (zn st))
  (hb : ∀ (kV doc pm : Value) (an : Option Addr) (cdv ct : Value) (us : List Value), us.length = ps.length -> bindArgs (PySem.W.fnOf x x (qE st) (zZ st) (zn st) .none kV doc pm an cdv ct) ⟨us, []⟩ = pure (ps.zip us))
  (len : ∀ xs M Q, a xs M Q -> xs.length = ps.length)
  (hbody : ∀ (f : Addr) (cdv : Value) (A : Around) (outer : List Env) (s : Shared) (H : Hp) (E : XK), qL k (A.deeper (envOfC x (zn st) s.heap.objs.size f cdv)) ->
   ∃ t, PSs (yc CX0 P w K mg base N x (zn st) f cdv A outer s H E).nox (zZ st) t /\ ∃ b, jf t b /\ ∀ xs M Q, a xs M Q -> b M { nx := fun _ M' => rtA M Q (.d .non) M', rt := rtA M Q } (jF N xs) M) : Df P w K mg base x ps (k + 1) (cSp a) := by
 refine ka at_ S hb (fun vs H Q E h => ?_) (fun f cdv A outer s H vs Q E hr h => ?_)
 ·obtain ⟨xs, M, O, Q', w, r, q, _⟩ := h
  rw [r.1]; exact len xs M Q' q
 ·obtain ⟨t, ht, b, hb, hq⟩ := hbody f cdv A outer s H E hr
  refine ⟨t, ht, ?_⟩
  obtain ⟨xs, M, O, Q', w, r, q, kk⟩ := h
  refine hb.go w w (Qt r N) .refl (hq xs M Q' q) ⟨fun σ H' O' ρ M' w' e' x' q' => ?_, fun v y H' O' M' w' x' r' q' => ?_, fun _ _ _ _ _ _ _ _ z => z.elim, fun _ _ _ _ _ _ _ _ z => z.elim⟩
  ·obtain ⟨y', M'', f, q2⟩ := q'
   obtain ⟨O'', w2, k2, r2⟩ := vt w w' x' (show zk H' O' M' .non (.d .non) from .non) f
   exact kk _ _ _ _ _ q2 k2 w2 r2
  ·obtain ⟨y', M'', f, q2⟩ := q'
   obtain ⟨O'', w2, k2, r2⟩ := vt w w' x' r' f
   exact kk _ _ _ _ _ q2 k2 w2 r2
end L2
set_option Elab.async false
set_option linter.all false
set_option maxRecDepth 100000
set_option maxHeartbeats 4000000
namespace L2
open PySem PySem.Spec PyProof.Rows
structure yk (tr : Addr -> TR) (a : ATR) : Prop where
 go : ∀ D, xH D (tr D) a
theorem wY {t : TE} {a : AE} (h : zL t a) : yk (kz t) (xx a) := ⟨fun D => kF h⟩
theorem Zx {wi : TI} {g : TG} {tt : TT} {tr : Addr -> TR} {ai : AI} {ag : AG} {at_ : AT} {atr : ATR} (hi : xR wi ai) (hg : kK g ag) (ht : jH tt at_) (hr : yk tr atr) : yk (yn wi g tt tr) (vj ai ag at_ atr) := ⟨fun D => xA hi hg ht (hr.go D)⟩
theorem vP {ts : List Nat} {wi : TI} {g : TG} {tt : TT} {tr : Addr -> TR} {ai : AI} {ag : AG} {at_ : AT} {atr : ATR} (hi : xR wi ai) (hg : kK g ag) (ht : jH tt at_) (hr : yk tr atr) : yR (xk ts wi g tt tr) (wb ts ai ag at_ atr) := xb hi hg ht hr.go
theorem QM {t u : TE} {a b : AE} (h1 : zL t a) (h2 : zL u b) : zL (tOp Km t u) (aFz (fOp Ym a b)) := v7 (wf yw h1 h2)
theorem ex2 {t : TS} {q : AS -> Prop} {b : AS} (h : jf t b) (k : q b) : ∃ b, jf t b /\ q b := ⟨b, h, k⟩
section
variable {X : Cx} {K : PySem.W.Frag}
theorem ya {tg l : Expr} {tl : TE} (h : X.K = K) (hl : PE X l tl) : PI X tg l (iLT K tl) := h ▸ jA hl
theorem yf (h : X.K = K) : SlR X (Yb K) := h ▸ Xc
theorem kP (h : X.K = K) : OpR X (binaryOp .Add) (v4 K) := h ▸ J3
theorem z0 (h : X.K = K) : qo X (.type "tuple") (fun xs H Q => ∃ p ys, xs = [V.ref p] /\ ((SqL K H p ys /\ ∀ (l : Addr), H l = none -> Q (V.ref l) (upd H l (HO.tup ys))) \/ SqT K H p ys /\ Q (V.ref p) H)) := h ▸ qI
end
theorem qS {τ : Type} (R : τ -> ASt) (f : AV -> AV) {ag : AG} {ae : AE} {G : MH -> Prop} {N : List AV -> ASt -> MH -> Prop} {l : List AV} {ρ : ASt} {M : MH} (h0 : ∃ o, ρ = R o) (hG : G M) (hl : l.length <= 100000)
  (hs : ∀ (o : τ) (x : AV) (Q : AV -> ASt -> MH -> Prop), x ∈ l -> (∀ o', Q (f x) (R o') M) -> ag x (R o) M fun ρ2 M2 => ae ρ2 M2 fun y M3 => Q y ρ2 M3) (hN : ∀ o, N (l.map f) (R o) M) : Js ag wz (xx ae) G N l [] ρ M := by
 have hsl : 100000 < sizeLine := by rw [sizeLine_eq]; decide
 refine ⟨fun i acc ρ' M' => i <= l.length /\ acc = (l.take i).map f /\ M' = M /\ ∃ o, ρ' = R o, ⟨Nat.zero_le _, rfl, rfl, h0⟩, ?_, ?_⟩
 ·rintro i x acc ρ' M' hx ⟨hi, rfl, rfl, o, rfl⟩
  have hil := (List.getElem?_eq_some_iff.mp hx).1
  refine ⟨hG, ?_⟩
  refine hs o x (fun y ρ2 M3 => ((l.take i).map f).length < sizeLine /\ (i + 1 <= l.length /\ (l.take i).map f ++ [y] = (l.take (i + 1)).map f /\ M3 = M' /\ ∃ o, ρ2 = R o)) (List.mem_of_getElem? hx) fun o' => ⟨by rw [List.length_map, List.length_take]; omega, hil, ?_, rfl, o', rfl⟩
  rw [List.take_add_one, hx, List.map_append]; rfl
 ·rintro acc ρ' M' ⟨_, rfl, rfl, o, rfl⟩
  rw [List.take_length]
  exact ⟨hG, hN o⟩
theorem YY : isT "int" "int" = some true := by decide +kernel
theorem Y0 : isT "int" "bool" = some false := by decide +kernel
theorem Xh : isT "int" "str" = some false := by decide +kernel
theorem YB : isT "int" "list" = some false := by decide +kernel
theorem XY : isT "int" "tuple" = some false := by decide +kernel
theorem Ys : isT "bool" "int" = some true := by decide +kernel
theorem XE : isT "bool" "bool" = some true := by decide +kernel
theorem Xy : isT "bool" "str" = some false := by decide +kernel
theorem XI : isT "bool" "list" = some false := by decide +kernel
theorem YZ : isT "bool" "tuple" = some false := by decide +kernel
theorem Xe : isT "str" "int" = some false := by decide +kernel
theorem X0 : isT "str" "bool" = some false := by decide +kernel
theorem YG : isT "str" "str" = some true := by decide +kernel
theorem X5 : isT "str" "list" = some false := by decide +kernel
theorem YF : isT "str" "tuple" = some false := by decide +kernel
theorem Xr : isT "NoneType" "int" = some false := by decide +kernel
theorem YR : isT "NoneType" "bool" = some false := by decide +kernel
theorem Xt : isT "NoneType" "str" = some false := by decide +kernel
theorem Yy : isT "NoneType" "list" = some false := by decide +kernel
theorem XO : isT "NoneType" "tuple" = some false := by decide +kernel
theorem XJ : isT "list" "int" = some false := by decide +kernel
theorem XZ : isT "list" "bool" = some false := by decide +kernel
theorem XS : isT "list" "str" = some false := by decide +kernel
theorem Xb : isT "list" "list" = some true := by decide +kernel
theorem Yd : isT "list" "tuple" = some false := by decide +kernel
theorem XT : isT "tuple" "int" = some false := by decide +kernel
theorem X4 : isT "tuple" "bool" = some false := by decide +kernel
theorem XX : isT "tuple" "str" = some false := by decide +kernel
theorem Yo : isT "tuple" "list" = some false := by decide +kernel
theorem XD : isT "tuple" "tuple" = some true := by decide +kernel
theorem YQ : xh "int" ["list", "tuple"] = some false := by decide +kernel
theorem YE : xh "bool" ["list", "tuple"] = some false := by decide +kernel
theorem Yz : xh "str" ["list", "tuple"] = some false := by decide +kernel
theorem Yv : xh "NoneType" ["list", "tuple"] = some false := by decide +kernel
theorem YM : xh "list" ["list", "tuple"] = some true := by decide +kernel
theorem YW : xh "tuple" ["list", "tuple"] = some true := by decide +kernel
theorem ZT : yW [] = some [] := rfl
theorem wV {n : String} {r : List Dat} : yW (.ty n :: r) = (yW r).map (n :: ·) := rfl
theorem VN (M : MH) : tyA (.d .non) M = some "NoneType" := rfl
theorem Vz (b : Bool) (M : MH) : tyA (.d (.bl b)) M = some "bool" := rfl
theorem VI (i : Int) (M : MH) : tyA (.d (.int i)) M = some "int" := rfl
theorem VH (s : Str) (M : MH) : tyA (.d (.str s)) M = some "str" := rfl
theorem VO (l : List Dat) (M : MH) : tyA (.d (.lst l)) M = some "list" := rfl
theorem Vy (l : List Dat) (M : MH) : tyA (.d (.tup l)) M = some "tuple" := rfl
theorem Zt (x : Dat) (r : List AV) : pur (.d x :: r) = match pur r with | some l => some (x :: l) | none => none := rfl
theorem YH (i j : Int) : eqS (.int i) (.int j) = some (decide (i = j)) := rfl
theorem Yl (i j : Bool) : eqS (.bl i) (.bl j) = some (decide (i = j)) := rfl
theorem XH (i j : Str) : eqS (.str i) (.str j) = some (decide (i = j)) := rfl
theorem JN : jz (.d .non) = true := rfl
theorem JH (i : Int) : jz (.d (.int i)) = false := rfl
theorem JY (i : List Dat) : jz (.d (.lst i)) = false := rfl
theorem KG (i : List Dat) : jz (.d (.tup i)) = false := rfl
theorem KN (i : Addr) : jz (.ref i) = false := rfl
theorem J0 (i : Str) : jz (.d (.str i)) = false := rfl
theorem Ky (i : Bool) : jz (.d (.bl i)) = false := rfl
end L2
set_option Elab.async false
set_option linter.all false
set_option maxRecDepth 100000
set_option maxHeartbeats 4000000
namespace L2
open PySem PySem.Spec PyProof.Rows
theorem Qb {H H' : Hp} {O : Own} {M : MH} (w : Wf H O M) (k : Kp [] H H') : Ext H O M H' O M /\ Wf H' O M := by
 have e : Ext H O M H' O M := ⟨fun a o h e => ⟨k a o (by simp) e, h⟩, fun a h e => ⟨by
  obtain ⟨o, ho, _⟩ := w.al a h
  rw [ho]; exact k a o (by simp) ho, h, e⟩, fun _ h => h⟩
 refine ⟨e, ⟨fun a o h => qu.ext e ?_ (w.mo a o h), w.own, fun a h => ?_⟩⟩
 ·obtain ⟨u, hu, _⟩ := w.al a (w.own a (by rw [h]; exact fun z => nomatch z))
  rw [hu]; exact k a u (by simp) hu
 ·obtain ⟨o, ho, hn⟩ := w.al a h
  exact ⟨o, k a o (by simp) ho, hn⟩
theorem Yc {H H' : Hp} {O : Own} {M : MH} (w : Wf H O M) {b : Addr} {l : List AV} (hb : M b = some (.lst l)) (k : Kp [b] H H') {ns : List Int} (h : H' b = some (.lst (ns.map V.int))) :
  Ext H O M H' O (mup M b (.lst (ns.map fun i => .d (.int i)))) /\ Wf H' O (mup M b (.lst (ns.map fun i => .d (.int i)))) := by
 have hOb := w.own b (jt hb)
 have kk : ∀ a o, a ≠ b -> H a = some o -> H' a = some o := fun a o ha e => k a o (by simpa using ha) e
 have e : Ext H O M H' O (mup M b (.lst (ns.map fun i => .d (.int i)))) := ⟨fun a o h e => ⟨kk a o (fun z => h (by rw [z]; exact hOb)) e, h⟩, fun a ha e => by
  have hne : a ≠ b := fun z => by rw [z, hb] at e; cases e
  obtain ⟨o, ho, _⟩ := w.al a ha
  exact ⟨by rw [ho]; exact kk a o hne ho, ha, by rw [zC hne]; exact e⟩, fun a ha => by
  by_cases c : a = b
  ·rw [c, zj]; exact fun z => nomatch z
  ·rw [zC c]; exact ha⟩
 refine ⟨e, ⟨fun a o ho => ?_, fun a ha => ?_, fun a ha => ?_⟩⟩
 ·by_cases c : a = b
  ·subst c; rw [zj] at ho; cases ho; exact ⟨_, h, Ji ns⟩
  ·rw [zC c] at ho
   refine qu.ext e ?_ (w.mo a o ho)
   obtain ⟨u, hu, _⟩ := w.al a (w.own a (jt ho))
   rw [hu]; exact kk a u c hu
 ·by_cases c : a = b
  ·rw [c]; exact hOb
  ·rw [zC c] at ha; exact w.own a ha
 ·by_cases c : a = b
  ·rw [c]; exact ⟨_, h, fun xs z => nomatch z⟩
  ·obtain ⟨o, ho, hn⟩ := w.al a ha
   exact ⟨o, kk a o c ho, hn⟩
theorem Jq {H : Hp} {O : Own} {p : Addr} {ns : List Int} (ho : ¬ O p) (h : H p = some (.lst (ns.map V.int))) : Rep H O (.ref p) (.lst (ns.map .int)) :=
 Rep.lst ho h (by simp) fun i x d e1 e2 => by
  rw [List.getElem?_map] at e1 e2
  cases e : ns[i]? with
  | none => rw [e] at e1; cases e1
  | some n => rw [e] at e1 e2; cases e1; cases e2; exact .int
theorem Wf.tup {H : Hp} {O : Own} {M : MH} (w : Wf H O M) {p : Addr} {xs : List V} (h : H p = some (.tup xs)) : ¬ O p := fun z => by
 obtain ⟨o, ho, hn⟩ := w.al p z
 rw [h] at ho; cases ho; exact hn xs rfl
theorem Qn {H : Hp} {O : Own} {M : MH} {v : V} {x : AV} {ns : List Int} (w : Wf H O M) (r : zk H O M v x) (h : zU x M = some (ns.map fun i => .d (.int i))) : ∃ a, v = .ref a /\ H a = some (.lst (ns.map V.int)) := by
 obtain ⟨a, xs, rfl, h1, r1⟩ := qc w r h
 rw [kZ r1] at h1
 exact ⟨a, rfl, h1⟩
theorem Df.imp' {P : Program} {w : World} {K : PySem.W.Frag} {mg : Str -> Option Value} {base : Heap} {x : Str} {ps : List Str} {sp sp' : Sp} {k : Nat} (D : Df P w K mg base x ps k sp) (h : ∀ vs H Q E, sp' vs H Q E -> sp vs H Q E) : Df P w K mg base x ps k sp' :=
 let ⟨f, fd, F, r⟩ := D
 ⟨f, fd, F.imp h, r⟩
mutual
def wdt : Dat -> Nat
 | .lst l => max l.length (vL l)
 | .tup l => max l.length (vL l)
 | _ => 0
def vL : List Dat -> Nat
 | [] => 0
 | a :: r => max (wdt a) (vL r)
end
theorem vW {l : List Dat} {n : Nat} (h : ∀ d ∈ l, wdt d <= n) : vL l <= n := by
 induction l with
 | nil => exact Nat.zero_le _
 | cons a r ih => rw [vL]; exact Nat.max_le.mpr ⟨h a (by simp), ih fun d hd => h d (by simp [hd])⟩
theorem ww {l : List Dat} {d : Dat} (h : d ∈ l) : wdt d <= vL l := by
 induction l with
 | nil => cases h
 | cons a r ih =>
  rw [vL]
  rcases List.mem_cons.mp h with rfl | h
  ·exact Nat.le_max_left _ _
  ·exact Nat.le_trans (ih h) (Nat.le_max_right _ _)
def qm (n : Nat) (d : Dat) : Prop := dp d <= n /\ wdt d <= 100000
theorem qm.mono {n m : Nat} {d : Dat} (h : qm n d) (k : n <= m) : qm m d := ⟨Nat.le_trans h.1 k, h.2⟩
theorem kI {n : Nat} {l : List Dat} (hl : l.length <= 100000) (h : ∀ d ∈ l, qm n d) : qm (n + 1) (.lst l) := ⟨by rw [dp]; exact Nat.succ_le_succ (ZX fun d hd => (h d hd).1), by rw [wdt]; exact Nat.max_le.mpr ⟨hl, vW fun d hd => (h d hd).2⟩⟩
theorem QJ {n : Nat} {l : List Dat} (hl : l.length <= 100000) (h : ∀ d ∈ l, qm n d) : qm (n + 1) (.tup l) := ⟨by rw [dp]; exact Nat.succ_le_succ (ZX fun d hd => (h d hd).1), by rw [wdt]; exact Nat.max_le.mpr ⟨hl, vW fun d hd => (h d hd).2⟩⟩
theorem QG (n : Nat) (i : Int) : qm n (.int i) := ⟨by simp [dp], by simp [wdt]⟩
theorem Qf (n : Nat) (i : Str) : qm n (.str i) := ⟨by simp [dp], by simp [wdt]⟩
theorem qm.lst {n : Nat} {l : List Dat} (h : qm (n + 1) (.lst l)) : l.length <= 100000 /\ ∀ d ∈ l, qm n d := by
 obtain ⟨h1, h2⟩ := h
 rw [dp] at h1
 rw [wdt] at h2
 exact ⟨(Nat.max_le.mp h2).1, fun d hd => ⟨by have := zJ hd; omega, Nat.le_trans (ww hd) (Nat.max_le.mp h2).2⟩⟩
theorem qm.tup {n : Nat} {l : List Dat} (h : qm (n + 1) (.tup l)) : l.length <= 100000 /\ ∀ d ∈ l, qm n d := by
 obtain ⟨h1, h2⟩ := h
 rw [dp] at h1
 rw [wdt] at h2
 exact ⟨(Nat.max_le.mp h2).1, fun d hd => ⟨by have := zJ hd; omega, Nat.le_trans (ww hd) (Nat.max_le.mp h2).2⟩⟩
theorem qm.no_l {l : List Dat} (h : qm 0 (.lst l)) : False := by have := h.1; rw [dp] at this; omega
theorem qm.no_t {l : List Dat} (h : qm 0 (.tup l)) : False := by have := h.1; rw [dp] at this; omega
theorem yJ {x : AV} {M : MH} {l : List Dat} (h : jI x M = some (.lst l)) : zU x M = some (l.map .d) /\ qF x M = some (l.map .d) /\ tyA x M = some "list" /\ jz x = false := by
 cases x with
 | d x => cases h; exact ⟨rfl, rfl, rfl, rfl⟩
 | ref a =>
  unfold jI at h
  dsimp only at h
  cases e : M a with
  | none => rw [e] at h; cases h
  | some o =>
   rw [e] at h
   cases o with
   | lst m =>
    dsimp only at h
    cases ep : pur m with
    | none => rw [ep] at h; cases h
    | some ds =>
     rw [ep] at h
     cases h
     rw [qQ ep] at e
     exact ⟨jR e, jN e, by unfold tyA; dsimp only; rw [e], rfl⟩
   | _ => cases h
theorem zP {x : AV} {M : MH} {d : Dat} (h : jI x M = some d) (hd : ∀ l, d ≠ .lst l) : x = .d d := by
 cases x with
 | d x => cases h; rfl
 | ref a =>
  unfold jI at h
  dsimp only at h
  cases e : M a with
  | none => rw [e] at h; cases h
  | some o =>
   rw [e] at h
   cases o with
   | lst m =>
    dsimp only at h
    cases ep : pur m with
    | none => rw [ep] at h; cases h
    | some ds => rw [ep] at h; cases h; exact absurd rfl (hd ds)
   | _ => cases h
theorem VG (b : Bool) : dp (.bl b) = 0 := by simp [dp]
theorem XU (b : Str) : dp (.str b) = 0 := by simp [dp]
theorem YO : dp .non = 0 := by simp [dp]
theorem Yf (a b : Bool) : eqD (.bl a) (.bl b) = decide (a = b) := by rw [eqD]; cases a <;> cases b <;> rfl
theorem XN (a b : Int) : eqD (.int a) (.int b) = decide (a = b) := by rw [eqD]; by_cases h : a = b <;> simp [h]
theorem Xu (a b : Str) : eqD (.str a) (.str b) = decide (a = b) := by rw [eqD]; by_cases h : a = b <;> simp [h]
theorem Xf : eqD .non .non = true := by simp [eqD]
theorem YX (i : Int) : eqD .non (.int i) = false := by simp [eqD]
theorem YS (i : Int) : eqD (.int i) .non = false := by simp [eqD]
theorem Yk (i : Int) (s : Str) : eqD (.int i) (.str s) = false := by simp [eqD]
theorem Y1 (i : Int) (s : Str) : eqD (.str s) (.int i) = false := by simp [eqD]
theorem YD (s : Str) : eqD (.str s) .non = false := by simp [eqD]
theorem YA (s : Str) : eqD .non (.str s) = false := by simp [eqD]
theorem Q3 (ns : List Int) : List.map AV.d (List.map Dat.int ns) = List.map (fun i => AV.d (.int i)) ns := by rw [List.map_map]; rfl
theorem KP (ns : List Bool) : List.map AV.d (List.map Dat.bl ns) = List.map (fun i => AV.d (.bl i)) ns := by rw [List.map_map]; rfl
theorem jM (ns : List Int) : pur (List.map (fun i => AV.d (.int i)) ns) = some (ns.map Dat.int) := by rw [<- Q3, zA]
theorem Kx (ns : List Bool) : pur (List.map (fun i => AV.d (.bl i)) ns) = some (ns.map Dat.bl) := by rw [<- KP, zA]
theorem jV {α : Type} (xs : List α) (k : Nat) : kR xs (some (k : Int)) none = xs.drop k := by
 unfold kR
 rw [HT.sIx_nat, HT.sIx_none, List.take_of_length_le (by rw [List.length_drop]; omega)]
 by_cases h : k <= xs.length
 ·rw [Nat.min_eq_left h]
 ·rw [Nat.min_eq_right (by omega), List.drop_length, List.drop_of_length_le (by omega)]
theorem zE {a qf : AS} {B : MH} {D : xC} {ρ : ASt} {M : MH} (h : ∀ r, r = qf -> wR a r B D ρ M) : wR a qf B D ρ M := h qf rfl
theorem Fr.non {M M' : MH} (f : Fr M M') {p : Addr} (h : M' p = none) : M p = none := by
 cases e : M p with
 | none => rfl
 | some o => rw [f p (by rw [e]; exact fun z => nomatch z), e] at h; cases h
abbrev ilD (os : List Int) : Dat := .lst (os.map .int)
theorem JE (ns : List Int) (M : MH) : zU (.d (ilD ns)) M = some (ns.map fun i => .d (.int i)) := by rw [Qe, Q3]
def BxM (M : MH) (b : Addr) (N : Nat) : Prop := ∃ x y z : Int, M b = some (.lst [.d (.int x), .d (.int y), .d (.int z)]) /\ 0 <= x /\ 0 <= y /\ y < 2147483648 /\ 0 <= z /\ z <= N
theorem BxM.mono {M : MH} {b : Addr} {N N' : Nat} (h : BxM M b N) (hn : N <= N') : BxM M b N' := by
 obtain ⟨x, y, z, h1, h2, h3, h4, h5, h6⟩ := h
 exact ⟨x, y, z, h1, h2, h3, h4, h5, by omega⟩
theorem BxM.ne {M : MH} {b : Addr} {N : Nat} (h : BxM M b N) : M b ≠ none := by obtain ⟨x, y, z, h1, _⟩ := h; exact jt h1
theorem BxM.bx {H : Hp} {O : Own} {M : MH} {b : Addr} {N : Nat} (w : Wf H O M) (h : BxM M b N) : Bx H b N := by
 obtain ⟨x, y, z, h1, h2⟩ := h
 obtain ⟨xs, hx, rx⟩ := w.mo b _ h1
 rw [kZ (ns := [x, y, z]) rx] at hx
 exact ⟨x, y, z, hx, h2⟩
def BxS (M M' : MH) (b : Addr) (N : Nat) : Prop := BxM M' b N /\ ∃ o, M' = mup M b o
theorem BxS.at {M M' : MH} {b : Addr} {N : Nat} (h : BxS M M' b N) {q : Addr} (hq : q ≠ b) : M' q = M q := by
 obtain ⟨_, o, rfl⟩ := h
 exact zC hq
theorem Fr.bx {M0 M M' : MH} (f : Fr M0 M) {b : Addr} {N : Nat} (h : BxS M M' b N) (hb : M0 b = none) : Fr M0 M' := fun q hq => by rw [h.at (fun z => hq (by rw [z]; exact hb))]; exact f q hq
theorem Q0 {H H' : Hp} {O : Own} {M : MH} (w : Wf H O M) {b : Addr} {N N' : Nat} (hb : BxM M b N) (k : Kp [b] H H') (h : Bx H' b N') : ∃ M', BxS M M' b N' /\ Ext H O M H' O M' /\ Wf H' O M' := by
 obtain ⟨x, y, z, h1, _⟩ := hb
 obtain ⟨x', y', z', g1, g2⟩ := h
 obtain ⟨e1, e2⟩ := Yc w h1 k (ns := [x', y', z']) g1
 exact ⟨_, ⟨⟨x', y', z', zj, g2⟩, _, rfl⟩, e1, e2⟩
end L2
set_option Elab.async false
set_option linter.all false
set_option maxRecDepth 100000
set_option maxHeartbeats 4000000
namespace L2
open PySem PySem.Spec PyProof.Rows
mutual
def pdD : Dat -> PyData
 | .bl b => .bool b
 | .int i => .int i
 | .str x => .str x
 | .lst l => .list (qK l)
 | .tup l => .tuple (qK l)
 | _ => .none
def qK : List Dat -> List PyData
 | [] => []
 | a :: r => pdD a :: qK r
end
section
variable {X : Cx} {pins : List (Addr × Obj)} {s : Shared} {σ : St} {H : Hp} {O : Own}
theorem jb : ∀ {xs : List V} {us : List Value} {l : List Dat}, zp xs us -> xs.length = l.length -> (∀ (i : Nat) x d, xs[i]? = some x -> l[i]? = some d -> ∀ v', zt x v' -> ∃ as, Reads s.heap v' (pdD d) as) -> ∃ as, ReadsAll s.heap us (qK l) as
 | [], _, [], .nil, _, _ => ⟨_, by rw [qK]; exact .nil⟩
 | x :: xs, _, d :: l, .cons r t, hl, h => by
  obtain ⟨as, ha⟩ := h 0 x d rfl rfl _ r
  obtain ⟨bs, hb⟩ := jb t (by simpa using hl) (fun i y e h1 h2 => h (i + 1) y e (by simpa using h1) (by simpa using h2))
  exact ⟨as ++ bs, by rw [qK]; exact .cons ha hb⟩
theorem Jn (I : Inv X pins σ H s) {v : V} {d : Dat} (r : Rep H O v d) : dp d < 1000 -> ∀ v', zt v v' -> ∃ as, Reads s.heap v' (pdD d) as := by
 induction r with
 | non => intro _ v' rv; cases rv; exact ⟨_, by rw [show pdD .non = .none by simp [pdD]]; exact .none⟩
 | bl => intro _ v' rv; cases rv; exact ⟨_, by rw [pdD]; exact .bool _⟩
 | int => intro _ v' rv; obtain ⟨t, rfl⟩ := rv; exact ⟨_, by rw [pdD]; exact .int _ _⟩
 | str => intro _ v' rv; obtain ⟨t, rfl⟩ := rv; exact ⟨_, by rw [pdD]; exact .str _ _⟩
 | ty => intro h; rw [dp] at h; omega
 | rng _ _ => intro h; rw [dp] at h; omega
 | scr _ _ => intro h; rw [dp] at h; omega
 | scrK _ => intro h; rw [dp] at h; omega
 | @lst a xs l o h hl _ ih =>
  intro hd v' rv
  cases rv
  rw [dp] at hd
  obtain ⟨_, its, n, vs, hg⟩ := (show zG X.prog X.w H s.heap a (.lst xs) from I.hok a _ h)
  obtain ⟨as, ha⟩ := jb vs hl (fun i x d e1 e2 => ih i x d e1 e2 (by have := zJ (List.mem_of_getElem? e2); omega))
  exact ⟨_, by rw [pdD]; exact .list hg rfl rfl (by simpa using ha)⟩
 | @tup a xs l o h hl _ ih =>
  intro hd v' rv
  cases rv
  rw [dp] at hd
  obtain ⟨_, its, vs, o, ho, hc, n, hdt⟩ := (show zG X.prog X.w H s.heap a (.tup xs) from I.hok a _ h)
  obtain ⟨as, ha⟩ := jb vs hl (fun i x d e1 e2 => ih i x d e1 e2 (by have := zJ (List.mem_of_getElem? e2); omega))
  exact ⟨_, by rw [pdD]; exact .tuple ho hc hdt (by simpa using ha)⟩
mutual
theorem Q4 : ∀ d : Dat, (pdD d).hasDict = false
 | .non => by simp [pdD, PyData.hasDict]
 | .bl _ => by simp [pdD, PyData.hasDict]
 | .int _ => by simp [pdD, PyData.hasDict]
 | .str _ => by simp [pdD, PyData.hasDict]
 | .ty _ => by simp [pdD, PyData.hasDict]
 | .rng _ _ _ => by simp [pdD, PyData.hasDict]
 | .scr _ _ => by simp [pdD, PyData.hasDict]
 | .lst l => by rw [pdD, PyData.hasDict]; exact yd l
 | .tup l => by rw [pdD, PyData.hasDict]; exact yd l
theorem yd : ∀ l : List Dat, PyData.hasDictAll (qK l) = false
 | [] => by simp [qK, PyData.hasDictAll]
 | a :: r => by rw [qK, PyData.hasDictAll, Q4 a, yd r]; rfl
end
mutual
theorem yT : ∀ d : Dat, (pdD d).depth <= dp d
 | .non => by simp [pdD, PyData.depth]
 | .bl _ => by simp [pdD, PyData.depth]
 | .int _ => by simp [pdD, PyData.depth]
 | .str _ => by simp [pdD, PyData.depth]
 | .ty _ => by simp [pdD, PyData.depth]
 | .rng _ _ _ => by simp [pdD, PyData.depth]
 | .scr _ _ => by simp [pdD, PyData.depth]
 | .lst l => by rw [pdD, PyData.depth, dp]; exact Nat.succ_le_succ (jY l)
 | .tup l => by rw [pdD, PyData.depth, dp]; exact Nat.succ_le_succ (jY l)
theorem jY : ∀ l : List Dat, PyData.depthAll (qK l) <= dps l
 | [] => by simp [qK, PyData.depthAll]
 | a :: r => by rw [qK, PyData.depthAll, dps]; exact Nat.max_le.mpr ⟨Nat.le_trans (yT a) (Nat.le_max_left _ _), Nat.le_trans (jY r) (Nat.le_max_right _ _)⟩
end
def K5 : List V -> Hp -> VK -> Prop := fun xs H Q => ∃ a O d, xs = [.ref a] /\ Rep H O (.ref a) d /\ dp d <= 40 /\ (pdD d).showable = true /\ (pdD d).shown.length <= sizeLine /\ Q (.str (pdD d).shown) H
theorem xB (hg : X.A.guards = some []) (hu : X.A.units + 64 < cLine) : qo X (.type "str") K5 := by
 intro pins s σ H xs us Q I r h
 obtain ⟨a, O, d, rfl, rd, hd, hs, hz, q⟩ := h
 have hdp := yT d
 obtain ⟨u, rfl, ru⟩ : ∃ u, us = [u] /\ zt (.ref a) u := by
  cases r with
  | cons p q => cases q; exact ⟨_, rfl, p⟩
 cases ru
 obtain ⟨as, ha⟩ := Jn I rd (by omega) _ rfl
 exact str_of_reads ha hs (PyData.noDict_hsm (Q4 d)) hg (by omega) (fun _ _ e => e) (fun h' u tk hk => ⟨.str _, H, I.kept hk, ⟨_, rfl⟩, q⟩) hz
end
def shD (d : Dat) : Str := (pdD d).shown
def K6 : List AV -> MH -> AK -> Prop := fun xs M Q => ∃ x d, xs = [x] /\ jI x M = some d /\ ((∃ l, d = .lst l) \/ ∃ l, d = .tup l) /\ dp d <= 40 /\ (pdD d).showable = true /\ (pdD d).shown.length <= sizeLine /\ Q (.d (.str (shD d))) M
theorem Jb : xY K5 K6 := ⟨fun w r ⟨x, d, e, hx, hk, h1, h3, h4, q⟩ k => by
 subst e
 obtain ⟨v, rfl, rv⟩ := jC r
 obtain ⟨O', r'⟩ := ku w rv hx
 obtain ⟨a, rfl⟩ : ∃ a, v = .ref a := by
  rcases hk with ⟨l, rfl⟩ | ⟨l, rfl⟩
  ·cases r' with | lst _ _ => exact ⟨_, rfl⟩
  ·cases r' with | tup _ _ => exact ⟨_, rfl⟩
 exact ⟨a, O', d, rfl, r', h1, h3, h4, k _ _ _ _ _ q .refl w .str⟩⟩
section
variable {X : Cx}
end
structure Sh (b : Nat) (d : Dat) : Prop where
 s : (pdD d).showable = true
 l : (pdD d).shown.length <= b
theorem Sh.mono {b c : Nat} {d : Dat} (h : Sh b d) (k : b <= c) : Sh c d := ⟨h.s, Nat.le_trans h.l k⟩
theorem Y4 {i : Int} (h : i.natAbs < 10 ^ 20) : Sh 22 (.int i) := by
 have h1 : i.natAbs.log2 < 1920 := by
  by_cases z : i.natAbs = 0
  ·rw [z]; decide
  ·exact (Nat.log2_lt z).mpr (Nat.lt_trans h (by decide +kernel))
 refine ⟨by rw [pdD, PyData.showable]; exact decide_eq_true h1, ?_⟩
 rw [pdD, PyData.shown]
 have := int_text_length_le10 (a := i) (k := 20) (by decide) h
 have e : (Str.ofString (toString i)).length = (toString i).length := PySem.ofString_length _
 show (Str.ofString (toString i)).length <= 22
 omega
theorem wD {l : List Dat} (h : ∀ d ∈ l, (pdD d).showable = true) : PyData.showableAll (qK l) = true := by
 induction l with
 | nil => simp [qK, PyData.showableAll]
 | cons a r ih => rw [qK, PyData.showableAll, h a (by simp), ih fun d hd => h d (by simp [hd])]; rfl
theorem jP {b : Nat} {l : List Dat} (h : ∀ d ∈ l, (pdD d).shown.length <= b) : ((PyData.shownAll (qK l)).map (·.length)).sum <= l.length * b /\ (PyData.shownAll (qK l)).length = l.length := by
 induction l with
 | nil => simp [qK, PyData.shownAll]
 | cons a r ih =>
  obtain ⟨h1, h2⟩ := ih fun d hd => h d (by simp [hd])
  have h3 := h a (by simp)
  rw [qK, PyData.shownAll]
  simp only [List.map_cons, List.sum_cons, List.length_cons]
  refine ⟨?_, by rw [h2]⟩
  rw [Nat.add_mul, Nat.one_mul]
  omega
theorem Q7 {b n : Nat} {l : List Dat} (hn : l.length <= n) (h : ∀ d ∈ l, Sh b d) : Sh (n * b + 2 * n + 3) (.lst l) := by
 obtain ⟨h1, h2⟩ := jP (fun d hd => (h d hd).l)
 refine ⟨by rw [pdD, PyData.showable]; exact wD fun d hd => (h d hd).s, ?_⟩
 rw [pdD, PyData.shown]
 have := listText_len_le (PyData.shownAll (qK l))
 have hm : l.length * b <= n * b := Nat.mul_le_mul_right b hn
 omega
theorem Xi {b n : Nat} {l : List Dat} (hn : l.length <= n) (h : ∀ d ∈ l, Sh b d) : Sh (n * b + 2 * n + 3) (.tup l) := by
 obtain ⟨h1, h2⟩ := jP (fun d hd => (h d hd).l)
 refine ⟨by rw [pdD, PyData.showable]; exact wD fun d hd => (h d hd).s, ?_⟩
 rw [pdD, PyData.shown]
 have := tupleText_len_le (PyData.shownAll (qK l))
 have hm : l.length * b <= n * b := Nat.mul_le_mul_right b hn
 omega
theorem yr {x : Str} (h : ∀ c ∈ x.cps.toList, c < 16 ^ 8) : Sh (10 * x.length + 2) (.str x) := ⟨by rw [pdD, PyData.showable], by rw [pdD, PyData.shown]; exact StrLaws.reprText_len x h⟩
def Vr (i : Nat) (t : TS) : TS := t
theorem Ko {X : Cx} {ss : List Stmt} {t : TS} (i : Nat) (h : PSs X ss t) : PSs X ss (Vr i t) := h
def VE (i : Nat) (a : AS) : AS := fun B D ρ M => ∃ p l ds, ρ[i]? = some (some (.ref p)) /\ M p = some (.lst l) /\ pur l = some ds /\ B p = none /\ (∀ j : Nat, j ≠ i -> ρ[j]? ≠ some (some (.ref p))) /\ (∀ q o, q ≠ p -> M q = some o -> B q = some o \/ ¬ kX p o) /\ a B D (ρ.set i (some (.d (.lst ds)))) (mdel M p)
theorem Qw {i : Nat} {t : TS} {a : AS} (h : jf t a) : jf (Vr i t) (VE i a) := ⟨fun {H0 O0 M0 D D' σ H O ρ M} w0 w e x q E => by
 obtain ⟨p, l, ds, hi, hm, hp, hb, ho, hr, q⟩ := q
 obtain ⟨xs, hx, rx⟩ := w.mo p _ hm
 have rx0 := rx
 rw [qQ hp] at rx
 have rp := rx.pure
 have ks := jq (H := H) (O := O) p
 have refs0 : ∀ q o, M0 q = some o -> ¬ kX p o := fun q o eq hr' => by
  have := w0.mo q o eq
  cases o with
  | lst l => obtain ⟨xs, _, rr⟩ := this; obtain ⟨i, hi⟩ := List.getElem?_of_mem hr'; obtain ⟨y, _, ry⟩ := rr.get hi; exact ry.2 hb
  | dK l => obtain ⟨xs, _, rr⟩ := this; obtain ⟨i, hi⟩ := List.getElem?_of_mem hr'; obtain ⟨y, _, ry⟩ := rr.2.get hi; exact ry.2 hb
  | ins C l => obtain ⟨dx, xs, _, rr, _⟩ := this; obtain ⟨i, hi⟩ := List.getElem?_of_mem hr'; obtain ⟨y, _, ry⟩ := rr.2.get hi; exact ry.2 hb
 have av : ∀ {v : V} {y : AV}, zk H O M v y -> y ≠ .ref p -> zk H (yq O p) (mdel M p) v y := fun {v y} r hy => by
  cases y with
  | d y => exact Rep.imp ks r
  | ref a => exact ⟨r.1, by rw [qv (fun z => hy (by rw [z]))]; exact r.2⟩
 have avs : ∀ {vs : List V} {ys : List AV}, ze H O M vs ys -> AV.ref p ∉ ys -> ze H (yq O p) (mdel M p) vs ys := fun r hy => ⟨r.1, fun i v y e1 e2 => av (r.2 i v y e1 e2) fun z => hy (by rw [<- z]; exact List.mem_of_getElem? e2)⟩
 have hOd : ∀ dx b, O dx -> M dx = none -> H dx = some (.own b) -> yq O p dx /\ mdel M p dx = none := fun dx b h1 h2 h3 => ⟨⟨wu h3 hx (fun z => nomatch z), h1⟩, by unfold mdel; split; rfl; exact h2⟩
 refine h.go w0 ⟨fun q o eq => ?_, fun a ha => ?_, fun a (ha : yq O p a) => w.al a ha.2⟩ ⟨?_, fun j y hj => ?_⟩ ⟨fun a o ha eo => ⟨(x.fix a o ha eo).1, fun (z : yq O p a) => (x.fix a o ha eo).2 z.2⟩, fun a ha eo => ?_, fun a ha => ?_⟩ q E
 ·have hq : q ≠ p := fun z => by rw [z, j6] at eq; cases eq
  rw [qv hq] at eq
  have hno : ¬ kX p o := (hr q o hq eq).elim (fun z => refs0 q o z) (fun z => z)
  have := w.mo q o eq
  cases o with
  | lst l => obtain ⟨xs, h1, rr⟩ := this; exact ⟨xs, h1, avs rr hno⟩
  | dK l => obtain ⟨xs, h1, rr⟩ := this; exact ⟨xs, h1, rr.1, avs rr.2 hno⟩
  | ins C l => obtain ⟨dx, xs, h1, rr, h2, h3, h4⟩ := this; exact ⟨dx, xs, h1, ⟨rr.1, avs rr.2 hno⟩, (hOd dx q h2 h3 h4).1, (hOd dx q h2 h3 h4).2, h4⟩
 ·have hq : a ≠ p := fun z => ha (by rw [z, j6])
  rw [qv hq] at ha
  exact ⟨hq, w.own a ha⟩
 ·rw [List.length_set]; exact e.len
 ·rw [List.getElem?_set] at hj
  by_cases c : i = j
  ·rw [if_pos c] at hj
   split at hj
   ·cases hj
    obtain ⟨v, hv, rv⟩ := e.get i _ hi
    rw [<- c]
    exact ⟨v, hv, by rw [rv.1]; exact Rep.lst (fun z => z.1 rfl) hx rp.1 fun i x d e1 e2 => (rp.2 i x d e1 e2).imp ks⟩
   ·cases hj
  ·rw [if_neg c] at hj
   obtain ⟨v, hv, rv⟩ := e.get j y hj
   exact ⟨v, hv, av rv fun z => ho j (fun z' => c z'.symm) (by rw [<- z]; exact hj)⟩
 ·obtain ⟨x1, x2, x3⟩ := x.prv a ha eo
  have hne : a ≠ p := fun z => by rw [z, hm] at x3; cases x3
  exact ⟨x1, ⟨hne, x2⟩, by rw [qv hne]; exact x3⟩
 ·have hq : a ≠ p := fun z => ha (by rw [z]; exact hb)
  rw [qv hq]; exact x.mst a ha⟩
theorem wF {a b : ASp} (h : ∀ xs M Q, b xs M Q -> a xs M (rtA M Q)) (vs : List V) (H : Hp) (Q : VK) (E : XK) (q : cSp b vs H Q E) : cSp a vs H Q E := by
 obtain ⟨xs, M, O, Q', w, r, q, k⟩ := q
 refine ⟨xs, M, O, _, w, r, h xs M Q' q, fun x M' v H' O' q' e' w' r' => ?_⟩
 obtain ⟨y', M'', f, q2⟩ := q'
 obtain ⟨O'', w2, k2, r2⟩ := vt w w' e' r' f
 exact k _ _ _ _ _ q2 k2 w2 r2
end L2
set_option Elab.async false
set_option linter.all false
set_option maxRecDepth 100000
set_option maxHeartbeats 4000000
namespace Ot
open PySem PySem.Spec PyProof.Rows L2
def top (i : Nat) : Stmt := PySem.Challenge.pw_ownturn_k53_plans_joined_and_shifted.main.body.getD i (.Pass ⟨0, 0, 0, 0⟩)
section
variable {P : Program} {w : World} {K : PySem.W.Frag} {mg : Str -> Option Value} {base : Heap} {k : Nat}
local macro_rules | `(tactic| walk_at "rd") => `(tactic| try simp only [QT, yG, Xo, QZ, tOp, Ke, tC, tB, XW, VQ, wl, rI0, rI, Jm, vi, KM, Qg, ZK, Kw, Qo, XB, Vq, tCB, Z3, Xs, wj, KU, Jt, Km, Vu, rEq, Vv, YT, YL, tBM, kf, wk, yp, Xq, ZA, vH, VL, v4, Zl, ZC, tIf, tOr, Vf, YK, Z0, VV, K9, wn, Jo, cxK, Qp, iLT, KQ, tSl, Q6, xQ, Vb, List.append_nil,
 List.getElem?_cons_zero, List.getElem?_cons_succ, Option.some.injEq, exists_eq_left', exists_eq_left, V.int.injEq, V.ref.injEq, V.bl.injEq, List.cons.injEq, and_true, true_and, and_assoc, decide_eq_true_eq, Bool.not_eq_true', decide_eq_false_iff_not, Bool.false_eq_true, if_false, if_true, reduceIte, exists_and_left, exists_and_right, List.set_cons_zero, List.set_cons_succ, List.nil_append, List.cons_append])
theorem jg {H : Hp} {a b : Addr} {o : HO} (h' : H b = none) (h : H a = some o) : a ≠ b := zi h h'
theorem yS {H H' : Hp} {l : Addr} (h : H' l = none) (e : Kp [] H H') : H l = none := e.free h
theorem vI {K : PySem.W.Frag} {H H' : Hp} {a : Addr} {xs : List V} (h : SqL K H a xs) (e : Kp [] H H') : SqL K H' a xs := by
 rcases h with (h | ⟨o, h⟩) | h
 ·exact .inl (.inl (e _ _ (by simp) h))
 ·exact .inl (.inr ⟨o, e _ _ (by simp) h⟩)
 ·exact .inr h
theorem hsl : 100000 < sizeLine := by rw [sizeLine_eq]; decide
theorem Vl {α : Type} (k : Nat) (v : α) : (List.replicate k [v]).flatten = List.replicate k v := by simp
theorem qP (i : Int) {j : Int} (h : 0 < j) : 0 <= i % j /\ i % j < j := ⟨Int.emod_nonneg _ (by omega), Int.emod_lt_of_pos _ h⟩
theorem X3 {i j : Int} (h1 : 0 <= i) (h2 : i < 18446744073709551616) : QS i j := .inl ⟨by omega, by omega⟩
theorem QE {i j : Int} (h1 : 0 <= j) (h2 : j < 18446744073709551616) : QS i j := .inr ⟨by omega, by omega⟩
theorem b01 (c : Prop) [Decidable c] : 0 <= (if c then (1 : Int) else 0) := by split <;> decide
theorem J2 {i j : Int} (h1 : 0 < j) (h2 : j < 1073741824) : Xd i j := ⟨h1, h2⟩
local macro_rules | `(tactic| walk_at "ne") => `(tactic| first | (with_reducible assumption) | exact Ne.symm (by with_reducible assumption) | exact jg (by with_reducible assumption) (by walk_at "hp") | exact Ne.symm (jg (by with_reducible assumption) (by walk_at "hp")))
local macro_rules | `(tactic| walk_at "hp") => `(tactic| first | (with_reducible assumption) | (with_reducible exact zd) | ((with_reducible refine Eq.trans (zh ?ne) ?_); (case ne => walk_at "ne"); walk_at "hp"))
local macro_rules | `(tactic| walk_at "kp") => `(tactic| first | (with_reducible assumption) | (with_reducible exact Kp.refl) | ((with_reducible refine Kp.trans ?_ (Kp.new _ ?h)); (case h => with_reducible assumption); walk_at "kp") | ((with_reducible refine Kp.trans ?_ (Kp.set _ ?h)); (case h => (simp; done)); walk_at "kp"))
local macro_rules | `(tactic| walk_at "fr") => `(tactic| first | (with_reducible assumption) | exact yS (by with_reducible assumption) (by walk_at "kp"))
local macro_rules | `(tactic| walk_at "sz") => `(tactic| (simp only [List.length_cons, List.length_nil, List.length_map, List.length_append, List.length_replicate, List.length_take, List.length_drop, qA, Vl, Nat.zero_add, Nat.one_mul]; omega))
local macro_rules | `(tactic| walk_at "fact") => `(tactic| first | (with_reducible assumption) | exact rfl | exact SqL.of (by walk_at "hp") | exact SqT.of (by walk_at "hp") | exact Or.inl (SqL.of (by walk_at "hp")) | exact Or.inr (SqT.of (by walk_at "hp")) | exact Or.inl (by with_reducible assumption) | exact vI (by with_reducible assumption) (by walk_at "kp") | exact Or.inl (vI (by with_reducible assumption) (by walk_at "kp")) | exact Exists.intro _ (SqL.of (by walk_at "hp")) | exact Exists.intro _ (vI (by with_reducible assumption) (by walk_at "kp")) | (walk_at "hp") | decide | omega | exact X3 (by omega) (by omega) | exact QE (by omega) (by omega) | exact J2 (by omega) (by omega) | exact ⟨by omega, by omega⟩ | (walk_at "sz") | exact ⟨by decide, by decide, by decide⟩ | exact QE (b01 _) (b01' _) | (walk_at "fr"))
local macro_rules | `(tactic| walk_at "x1") => `(tactic| first
 | ((with_reducible refine Exists.intro ?w (And.intro ?h ?_)); (case h => walk_at "fact"))
 | ((with_reducible refine And.intro ?h ?_); (case h => walk_at "fact"))
 | ((with_reducible refine Exists.intro ?w (Exists.intro ?w2 (And.intro ?h ?_))); (case h => walk_at "fact")))
local macro_rules | `(tactic| walk_at "xs") => `(tactic| repeat walk_at "x1")
local macro_rules | `(tactic| walk_at "sim1") => `(tactic| first
 | with_reducible exact JF | with_reducible exact Yg | with_reducible exact Xn | with_reducible exact Xl | with_reducible exact Xp | with_reducible exact Xk | with_reducible exact JP | with_reducible exact QH | with_reducible exact Zf | with_reducible exact Qi | with_reducible exact JK
 | with_reducible exact ZG | with_reducible exact Jw | with_reducible exact YV | with_reducible exact Kb | with_reducible exact Ql
 | with_reducible exact JD | with_reducible exact Q9 | with_reducible exact Kt
 | with_reducible exact XF | with_reducible exact Jd | with_reducible exact Zs | with_reducible exact JT | with_reducible exact QI | with_reducible exact Jb | with_reducible exact JM
 | with_reducible exact vO | with_reducible exact Zp | with_reducible exact yw
 | (with_reducible apply Ka) | (with_reducible apply Ks) | (with_reducible apply JB) | (with_reducible apply JR) | (with_reducible apply QO) | (with_reducible apply J4) | (with_reducible apply QL)
 | (with_reducible apply Ze) | (with_reducible apply Jp) | (with_reducible apply Vh) | (with_reducible apply Y3) | (with_reducible apply JO) | (with_reducible apply Yq) | (with_reducible apply JV)
 | (with_reducible apply JW) | (with_reducible apply Qd) | (with_reducible apply Qx) | (with_reducible apply Jy) | (with_reducible apply Qz)
 | (with_reducible apply Qq) | (with_reducible apply KH) | (with_reducible apply Xw) | (with_reducible apply Kq) | (with_reducible apply kF) | (with_reducible apply xA) | (with_reducible apply QC) | (with_reducible apply wf)
 | (with_reducible apply Ki) | (with_reducible apply Zb) | (with_reducible apply KJ) | (with_reducible apply Qw) | (with_reducible apply QM) | (with_reducible apply XM) | (with_reducible apply XA)
 | (with_reducible apply vP) | (with_reducible apply wY) | (with_reducible apply Zx)
 | (with_reducible apply v7))
local macro_rules | `(tactic| walk_at "sim") => `(tactic| repeat' walk_at "sim1")
local macro_rules | `(tactic| walk_at "ra") => `(tactic| try simp only [JZ, aC, aOp, Yp, vY, aCB, ZU, aFz, aOw, Vw, Y6, aB, wz, aOr, Vc, KO, ZH, wR, K1, VM, Vx, qt, ZJ, xX, Jr, VB, VT, aiS, VR, VA, xx, vj, wb, aI, aI0, VP, aIx, fOp, Ym, Ve, K0, Vo, KZ, Y8, Vt, bI2, K4, Z4, fCB, Vs, K3, K6, VE, Vi, aBM, VU, wt, QR, Kg, Yx, Qe, Xv, qH, jh, VN, Vz, VI, VH, VO, Vy, ZT, wV, Option.map_some, YQ, YE, Yz, Yv, YM, YW, YY, Y0, Xh, YB, XY, Ys, XE, Xy, XI, YZ, Xe, X0, YG, X5, YF, Xr, YR, Xt, Yy, XO, XJ, XZ, XS, Xb, Yd, XT, X4, XX, Yo, XD, JL, Zt, zA, jM, Kx, Q3, KP, YH, Yl, XH, JN, JH, JY, KG, KN, J0, Ky, yg, VG, XU, YO, Yf, XN, Xu, Xf, YX, YS, Yk, Y1, YD, YA, id, decide_true, decide_false, Bool.decide_eq_true, not_true_eq_false, not_false_eq_true, v0,
 List.getElem?_cons_zero, List.getElem?_cons_succ, Option.some.injEq, exists_eq_left', exists_eq_left, AV.d.injEq, AV.ref.injEq, Dat.int.injEq, Dat.bl.injEq, Dat.str.injEq, Dat.lst.injEq, Dat.tup.injEq, Dat.ty.injEq, List.cons.injEq, and_true, true_and, and_assoc, decide_eq_true_eq, Bool.not_eq_true', decide_eq_false_iff_not, Bool.false_eq_true, if_false, if_true, reduceIte, exists_and_left, exists_and_right, List.set_cons_zero, List.set_cons_succ, List.nil_append, List.cons_append, List.length_map, List.map_cons, List.map_nil, Nat.zero_le, Bool.not_true, Bool.not_false, Bool.true_eq_false, eq_self, List.length_cons, List.length_nil])
theorem yA (ns : List Int) (lo hi : Option Int) : xp (ns.map V.int) lo hi = List.map V.int ((ns.drop (HT.sIx ns.length 0 lo)).take (HT.sIx ns.length ns.length hi - HT.sIx ns.length 0 lo)) := by
 unfold xp
 rw [List.length_map, <- List.map_drop, <- List.map_take]
theorem wI (cs : List Int) (j : Nat) (v : Int) : (cs.map V.int).set j (.int v) = (cs.set j v).map V.int := by rw [List.map_set]
theorem yP {cs : List Int} {k : Int} (h0 : 0 <= k) (h1 : k < cs.length) : ixN (cs.map V.int).length k = some k.toNat /\ atI (cs.map V.int) k = some (.int (cs.getD k.toNat 0)) := by
 have hk : k.toNat < cs.length := by omega
 have e1 : ixN (cs.map V.int).length k = some k.toNat := by unfold ixN; rw [List.length_map, if_pos h0, if_pos h1]
 refine ⟨e1, ?_⟩
 unfold atI
 rw [e1]
 show (cs.map V.int)[k.toNat]? = _
 rw [List.getElem?_map, List.getD_eq_getElem?_getD, List.getElem?_eq_getElem hk]; rfl
theorem ym {ns : List Int} {i : Nat} {x : V} (h : (ns.map V.int)[i]? = some x) : x = .int (ns.getD i 0) /\ i < ns.length := by
 rw [List.getElem?_map] at h
 cases e : ns[i]? with
 | none => rw [e] at h; cases h
 | some v =>
  rw [e] at h
  cases h
  exact ⟨by rw [List.getD_eq_getElem?_getD, e]; rfl, (List.getElem?_eq_some_iff.mp e).1⟩
theorem Kp.un {bs : List Addr} {p : Addr} {H H' : Hp} (h : Kp (p :: bs) H H') (hp : H p = none) : Kp bs H H' := fun c o n e => h c o (by
 intro z
 rcases List.mem_cons.mp z with z | z
 ·subst z; rw [hp] at e; cases e
 ·exact n z) e
abbrev vN : Stmt := top 5
theorem vZ : zN ["_law_box_here", "_law_many", "_law_once", "_law_found"] ["_law_box_here", "_law_many"] (zn vN) := ⟨rfl, rfl, rfl, by decide +kernel, rfl, by decide +kernel, by decide +kernel⟩
def vn : Sp := fun vs H Q _ => ∃ (b : Addr) (many : Int) (N : Nat), vs = [.ref b, .int many] /\ Bx H b N /\ N < 1000000000 /\ 0 < many /\ many < 1073741824 /\ ∀ r H', Kp [b] H H' -> Bx H' b (N + 1) -> 0 <= r -> r < many -> Q (.int r) H'
theorem Ju (a : At K mg "_law_take" vN) (B : Blt mg) : Df P w K mg base "_law_take" ["_law_box_here", "_law_many"] 1 vn := by
 refine ka (k := 0) a vZ (fun _ _ _ _ _ _ us hl => match us, hl with | [_, _], _ => rfl) (fun vs H Q E h => ?_) (fun f cdv A outer s H vs Q E hr h => ?_)
 ·obtain ⟨b, m, N, rfl, _⟩ := h; rfl
 obtain ⟨b, m, N, rfl, ⟨x, y, z, hb, hx, hy, hy', hz, hz'⟩, hN, hm, hm', q⟩ := h
 have sc := vZ
 refine ⟨_, (zg (qk (zD Xa (zq zw (pv 0) zc (fun _ _ => rfl)) zc (zy _)) (zg (qU (zl yK rfl B.divmod wM (za (zq zw (pv 0) zc (fun _ _ => rfl)) (za (pv 1) zb))) (qC (K := K) 2 rfl rfl (zF (qJ (pv 0) zc zO) (zF (zu (i := 3) sc.nd rfl (by first | exact Or.inl rfl | exact Or.inr rfl)) qD))))
  (zm (zQ (pv 3)))) zH)
  (zg (qU (zo zY (zq zw (pv 0) zc (fun _ _ => rfl)) zc) (qJ (pv 0) zc zO))
  (zg (zM (i := 2) sc.nd rfl (by first | exact Or.inl rfl | exact Or.inr rfl) (zo qG (zo qZ (zo zY (zq zw (pv 0) zc (fun _ _ => rfl)) (zo qZ zc (zq zw (pv 0) zc (fun _ _ => rfl)))) (zo zY zc (zq zw (pv 0) zc (fun _ _ => rfl)))) zc))
  (zg (qU (zo qG (zo zY (zo qZ (pv 2) (zo zY (zo qG (pv 2) zc) zc)) (zq zw (pv 0) zc (fun _ _ => rfl))) zc) (qJ (pv 0) zc zO))
  (zm (zQ (zo qG (zo KL (zo qG (zo qZ (zq zw (pv 0) zc (fun _ _ => rfl)) (zo zY (zo qG (zq zw (pv 0) zc (fun _ _ => rfl)) zc) zc)) zc) zc) (pv 1)))))))), ?_⟩
 rw [show ql ["_law_box_here", "_law_many", "_law_once", "_law_found"] [V.ref b, V.int m] = [some (.ref b), some (.int m), none, none] from rfl]
 walk_at "rd"
 walk_at "xs"
 refine VS (fun c => ?_) (fun c => ?_)
 ·walk_at "xs"
  refine fun p hp => ?_
  walk_at "xs"
  refine q _ _ ((Kp.new _ hp).trans (Kp.set _ (by simp))) ⟨_, _, _, zd, Int.ediv_nonneg hx (by omega), hy, hy', hz, by omega⟩ (qP x hm).1 (qP x hm).2
 ·walk_at "xs"
  refine q _ _ ((Kp.set _ (by simp)).trans (Kp.set _ (by simp))) ⟨_, _, _, zd, hx, ?_, ?_, ?_, ?_⟩ (qP _ hm).1 (qP _ hm).2
  ·exact (qP _ (by decide)).1
  ·exact Int.lt_trans (qP _ (by decide)).2 (by decide)
  ·omega
  ·omega
abbrev Jg : Stmt := top 4
theorem Qm : zN ["_law_script", "_law_k", "_law_cell"] ["_law_script", "_law_k"] (zn Jg) := ⟨rfl, rfl, rfl, by decide +kernel, rfl, by decide +kernel, by decide +kernel⟩
def K7 : Sp := fun vs H Q _ => ∃ (a : Addr) (k : Int) (cs : List Int), vs = [.ref a, .int k] /\ H a = some (il cs) /\ 0 <= k /\ k <= 1000 /\ cs.length <= 1000 /\ ∀ p H', Kp [] H H' -> H p = none -> Bx H' p 0 -> Q (.ref p) H'
theorem JC {cs : List Int} {k : Int} (h0 : 0 <= k) : ∃ c : Int, atI (cs.map V.int ++ List.replicate (k + 1).toNat (V.int 0)) k = some (.int c) := by
 have e : cs.map V.int ++ List.replicate (k + 1).toNat (V.int 0) = (cs ++ List.replicate (k + 1).toNat 0).map V.int := by simp
 have ek : k = ((k.toNat : Nat) : Int) := by omega
 have hk : k.toNat < (cs ++ List.replicate (k + 1).toNat (0 : Int)).length := by rw [List.length_append, List.length_replicate]; omega
 refine ⟨(cs ++ List.replicate (k + 1).toNat 0)[k.toNat], ?_⟩
 rw [e]
 have q : atI ((cs ++ List.replicate (k + 1).toNat (0 : Int)).map V.int) ((k.toNat : Nat) : Int) = some (.int (cs ++ List.replicate (k + 1).toNat 0)[k.toNat]) := qX (by rw [List.getElem?_map, List.getElem?_eq_getElem hk] <;> rfl)
 rw [<- ek] at q
 exact q
theorem Ya (a : At K mg "_law_box" Jg) (B : Blt mg) : Df P w K mg base "_law_box" ["_law_script", "_law_k"] 1 K7 := by
 refine ka (k := 0) a Qm (fun _ _ _ _ _ _ us hl => match us, hl with | [_, _], _ => rfl) (fun vs H Q E h => ?_) (fun f cdv A outer s H vs Q E hr h => ?_)
 ·obtain ⟨a, k, cs, rfl, _⟩ := h; rfl
 obtain ⟨a, k, cs, rfl, ha, hk, hk', hcs, q⟩ := h
 have sc := Qm
 have hsl := hsl
 refine ⟨_, (zg (zM (i := 2) sc.nd rfl (by first | exact Or.inl rfl | exact Or.inr rfl) (zq zw (zo vx (pv 0) (zo Qj (zR (za zc zb)) (zo zY (pv 1) zc))) (pv 1) (fun _ _ => rfl)))
  (zm (zQ (zR (za (zo qZ (zl yZ rfl B.abs Qu (za (pv 2) zb)) (zz jp rfl B.int xl (za (qi Vg (zl yZ rfl B.abs Qu (za (pv 2) zb)) (zo x0 zc zc) (zy _)) zb))) (za (zo qG (zo qZ (zo zY (zo zY (zo qG (pv 2) zc) (zo qZ zc (pv 1))) zc) zc) zc) (za zc zb))))))), ?_⟩
 rw [show ql ["_law_script", "_law_k", "_law_cell"] [V.ref a, V.int k] = [some (.ref a), some (.int k), none] from rfl]
 walk_at "rd"
 walk_at "xs"
 intro p1 hp1
 walk_at "xs"
 intro p2 hp2
 walk_at "xs"
 intro p3 hp3
 simp only [Vl] at hp3 ⊢
 obtain ⟨c, hc⟩ := JC (cs := cs) hk
 walk_at "xs"
 intro p4 hp4
 refine q _ _ (by walk_at "kp") (by walk_at "fr") ⟨_, _, _, zd, ?_, ?_, ?_, ?_, ?_⟩
 ·exact Int.mul_nonneg (by split <;> omega) (b01 _)
 ·exact (qP _ (by decide)).1
 ·exact Int.lt_trans (qP _ (by decide)).2 (by decide)
 ·decide
 ·decide
abbrev kY : Stmt := top 6
theorem xt : zN ["_law_script", "_law_many", "_law_cells", "_law_k", "_law_cell"] ["_law_script", "_law_many"] (zn kY) := ⟨rfl, rfl, rfl, by decide +kernel, rfl, by decide +kernel, by decide +kernel⟩
def yx (K : PySem.W.Frag) : Sp := fun vs H Q _ => ∃ (a : Addr) (m : Int) (ns : List Int), vs = [.ref a, .int m] /\ SqL K H a (ns.map V.int) /\ 0 < m /\ m <= 60 /\ ns.length <= 63 /\ ∀ p H' cs, Kp [] H H' -> H p = none -> H' p = some (il cs) -> cs.length <= 1000 -> Q (.ref p) H'
theorem ZF (a : At K mg "_law_folded" kY) (B : Blt mg) : Df P w K mg base "_law_folded" ["_law_script", "_law_many"] 1 (yx K) := by
 refine ka (k := 0) a xt (fun _ _ _ _ _ _ us hl => match us, hl with | [_, _], _ => rfl) (fun vs H Q E h => ?_) (fun f cdv A outer s H vs Q E hr h => ?_)
 ·obtain ⟨a, k, cs, rfl, _⟩ := h; rfl
 obtain ⟨a, m, ns, rfl, ha, hm, hm', hns, q⟩ := h
 obtain ⟨M, rfl⟩ : ∃ M : Nat, m = M := ⟨m.toNat, by omega⟩
 have sc := xt
 have hsl := hsl
 refine ⟨_, (zg (zM (i := 2) sc.nd rfl (by first | exact Or.inl rfl | exact Or.inr rfl) (zz jJ rfl B.list jr (za (jd v8 (pv 0) kj (js (pv 1))) zb)))
  (zg (jE PassesOwn.never rfl (JJ rfl B.enumerate (za (jd v8 (pv 0) (js (pv 1)) (js zc)) zb)) (qC (K := K) 2 rfl rfl (zF (zu (i := 3) sc.nd rfl (by first | exact Or.inl rfl | exact Or.inr rfl)) (zF (zu (i := 4) sc.nd rfl (by first | exact Or.inl rfl | exact Or.inr rfl)) qD))) (zm (qU (zo zY (zq zw (pv 2) (zo qG (pv 3) (pv 1)) (fun _ _ => rfl)) (zo qZ (pv 4) (zo zY (pv 3) zc))) (qJ (pv 2) (zo qG (pv 3) (pv 1)) zO))))
  (zm (zQ (pv 2))))), ?_⟩
 rw [show ql ["_law_script", "_law_many", "_law_cells", "_law_k", "_law_cell"] [V.ref a, V.int M] = [some (.ref a), some (.int M), none, none, none] from rfl]
 walk_at "rd"
 walk_at "xs"
 intro p1 hp1
 rw [yA]
 walk_at "xs"
 intro p2 hp2
 walk_at "xs"
 intro p3 hp3
 rw [yA]
 have e63 : (63 : Int) = ((63 : Nat) : Int) := rfl
 simp only [HT.sIx_none, HT.sIx_nat, e63, List.drop_zero, Nat.sub_zero] at hp2 hp3 ⊢
 walk_at "xs"
 generalize hc0 : ns.take (min M ns.length) = c0 at hp2 hp3 ⊢
 generalize hd0 : (ns.drop (min M ns.length)).take (min 63 ns.length - min M ns.length) = d0 at hp2 hp3 ⊢
 have lc : c0.length = min M ns.length := by rw [<- hc0, List.length_take]; omega
 have ld : d0.length <= ns.length - M := by rw [<- hd0, List.length_take, List.length_drop]; omega
 have n23 : p2 ≠ p3 := by walk_at "ne"
 refine Kn (xs := d0.map V.int) (fun i τ H' => ∃ u v cs, τ = [some (.ref a), some (.int M), some (.ref p2), u, v] /\ Kp [p2] (upd (upd (upd H p1 (HO.lst (List.map V.int c0))) p2 (HO.lst (List.map V.int c0))) p3 (HO.lst (List.map V.int d0))) H' /\ H' p2 = some (il cs) /\ cs.length = c0.length) ?_ ?_ ?_ ?_
 ·exact ⟨none, none, c0, rfl, Kp.refl, by walk_at "hp", rfl⟩
 ·rintro i τ H' _ ⟨u, v, cs, rfl, kp, _⟩
  exact SqL.of (kp _ _ (by simp [Ne.symm n23]) (by walk_at "hp"))
 ·rintro i x pp τ H' hx hpp ⟨u, v, cs, rfl, kp, hcs, hl⟩
  obtain ⟨rfl, hi⟩ := ym hx
  have b1 := qP (i : Int) hm
  obtain ⟨g1, g2⟩ := yP (cs := cs) (k := (i : Int) % (M : Int)) b1.1 (by omega)
  have hcs' : upd H' pp (HO.tup [V.int i, V.int (d0.getD i 0)]) p2 = some (il cs) := by walk_at "hp"
  walk_at "rd"
  walk_at "xs"
  refine ⟨(kp.trans (Kp.new _ hpp)).trans (Kp.set _ (by simp)), _, zd.trans (congrArg some (congrArg HO.lst (wI _ _ _))), by rw [List.length_set]; exact hl⟩
 ·rintro τ H' ⟨u, v, cs, rfl, kp, hcs, hl⟩
  walk_at "rd"
  refine q _ _ cs (fun c o hc hh => kp c o ?_ ((((Kp.new _ hp1).trans (Kp.new _ hp2)).trans (Kp.new _ hp3)) c o hc hh)) (by walk_at "fr") hcs (by omega)
  have : c ≠ p2 := jg (yS hp2 (Kp.new _ hp1)) hh
  simpa using this
def cE : Option Int -> V
 | none => .non
 | some x => .int x
inductive De where
 | swap (a b : Nat) | take (p : Nat) | move (p g : Nat) | lay (g : Nat)
abbrev Y9 : V := .str (Str.ofString "swap")
abbrev VD : V := .str (Str.ofString "take")
abbrev Vj : V := .str (Str.ofString "move")
abbrev V2 : V := .str (Str.ofString "lay")
def deV : De -> List V
 | .swap a b => [Y9, .int (a : Int), .int (b : Int)]
 | .take p => [VD, .int (p : Int)]
 | .move p g => [Vj, .int (p : Int), .int (g : Int)]
 | .lay g => [V2, .int (g : Int)]
abbrev ES := List (Option Int) × Option Int
inductive DoE : De -> ES -> ES -> Prop
 | swap {a b : Nat} {row : List (Option Int)} {h : Option Int} {x y : Int} : a ≠ b -> row[a]? = some (some x) -> row[b]? = some (some y) -> DoE (.swap a b) (row, h) ((row.set a (some y)).set b (some x), h)
 | take {p : Nat} {row : List (Option Int)} {x : Int} : row[p]? = some (some x) -> DoE (.take p) (row, none) (row.set p none, some x)
 | move {p g : Nat} {row : List (Option Int)} {h : Option Int} {x : Int} : row[p]? = some (some x) -> row[g]? = some none -> DoE (.move p g) (row, h) ((row.set p none).set g (some x), h)
 | lay {g : Nat} {row : List (Option Int)} {x : Int} : row[g]? = some none -> DoE (.lay g) (row, some x) (row.set g (some x), none)
inductive jw : List De -> ES -> ES -> Prop
 | nil {s : ES} : jw [] s s
 | cons {d : De} {l : List De} {s t u : ES} : DoE d s t -> jw l t u -> jw (d :: l) s u
theorem jw.append {a b : List De} {s t u : ES} (h1 : jw a s t) (h2 : jw b t u) : jw (a ++ b) s u := by
 induction h1 with
 | nil => exact h2
 | cons d _ ih => exact .cons d (ih h2)
theorem jw.one {d : De} {s t : ES} (h : DoE d s t) : jw [d] s t := .cons h .nil
theorem DoE.len {d : De} {s t : ES} (h : DoE d s t) : t.1.length = s.1.length := by
 cases h <;> simp
theorem jw.len {l : List De} {s t : ES} (h : jw l s t) : t.1.length = s.1.length := by
 induction h with
 | nil => rfl
 | cons d _ ih => rw [ih, d.len]
theorem qy {row : List (Option Int)} {p : Nat} {c : Option Int} (h : row[p]? = some c) : ixN (row.map cE).length (p : Int) = some p /\ atI (row.map cE) (p : Int) = some (cE c) := by
 have hp := (List.getElem?_eq_some_iff.mp h).1
 have e : ixN (row.map cE).length (p : Int) = some p := by rw [List.length_map]; unfold ixN; rw [if_pos (by omega), if_pos (by omega), Int.toNat_natCast]
 refine ⟨e, ?_⟩
 unfold atI
 rw [e]
 show (row.map cE)[p]? = _
 rw [List.getElem?_map, h]; rfl
theorem xV {H W : Hp} {bx p : Addr} {N : Nat} (k : Kp [bx] H W) (b : Bx W bx N) (h : W p = none) : H p = none := by
 cases e : H p with
 | none => rfl
 | some o =>
  by_cases c : p ∈ [bx]
  ·have : p = bx := by simpa using c
   subst this
   obtain ⟨_, _, _, e2, _⟩ := b
   rw [h] at e2; cases e2
  ·have := k _ _ c e
   rw [h] at this; cases this
theorem zx {X qf : TS} {D : jG} {σ : L2.St} {H : Hp} (h : ∀ r, r = qf -> yG X r D σ H) : yG X qf D σ H := h qf rfl
abbrev vR : Stmt := top 8
theorem wm : zN ["_law_row", "_law_hand", "_law_deed_here", "_law_one", "_law_other"] ["_law_row", "_law_hand", "_law_deed_here"] (zn vR) := ⟨rfl, rfl, rfl, by decide +kernel, rfl, by decide +kernel, by decide +kernel⟩
def QB : Sp := fun vs H Q _ => ∃ (a b : Addr) (d : De) (st st' : ES), vs = [.ref a, cE st.2, .ref b] /\ H a = some (.lst (st.1.map cE)) /\ H b = some (.tup (deV d)) /\ DoE d st st' /\ st.1.length <= 1000 /\
 ∀ t p H', Kp [] H H' -> H t = none -> H p = none -> H' t = some (.tup [.ref p, cE st'.2]) -> H' p = some (.lst (st'.1.map cE)) -> Q (.ref t) H'
theorem JA (a : At K mg "_law_done" vR) (B : Blt mg) : Df P w K mg base "_law_done" ["_law_row", "_law_hand", "_law_deed_here"] 1 QB := by
 refine ka (k := 0) a wm (fun _ _ _ _ _ _ us hl => match us, hl with | [_, _, _], _ => rfl) (fun vs H Q E h => ?_) (fun f cdv A outer s H vs Q E hr h => ?_)
 ·obtain ⟨a, b, d, st, st', rfl, _⟩ := h; rfl
 obtain ⟨a, b, d, st, st', rfl, ha, hb, hdo, hl, q⟩ := h
 have sc := wm
 have hsl := hsl
 refine ⟨_, (zg (zM (i := 0) sc.nd rfl (by first | exact Or.inl rfl | exact Or.inr rfl) (zz jJ rfl B.list jr (za (pv 0) zb)))
  (zg (qk (zD wC (zq zX (pv 2) zc (fun _ _ => rfl)) qT (zy _)) (zg (Xz (i := 3) (j := 4) rfl sc.nd rfl rfl (by decide) rfl rfl (za (zq zw (pv 0) (zq zX (pv 2) zc (fun _ _ => rfl)) (fun _ _ => rfl)) (za (zq zw (pv 0) (zq zX (pv 2) zc (fun _ _ => rfl)) (fun _ _ => rfl)) zb)) rfl)
  (zm (qU (zT (za (pv 4) (za (pv 3) zb))) (qC (K := K) 2 rfl rfl (zF (qJ (pv 0) (zq zX (pv 2) zc (fun _ _ => rfl)) zO) (zF (qJ (pv 0) (zq zX (pv 2) zc (fun _ _ => rfl)) zO) qD)))))) zH)
  (zg (qk (zD wC (zq zX (pv 2) zc (fun _ _ => rfl)) qT (zy _)) (zm (qU (zT (za qz (za (zq zw (pv 0) (zq zX (pv 2) zc (fun _ _ => rfl)) (fun _ _ => rfl)) zb))) (qC (K := K) 2 rfl rfl (zF (qJ (pv 0) (zq zX (pv 2) zc (fun _ _ => rfl)) zO) (zF (zu (i := 1) sc.nd rfl (by first | exact Or.inl rfl | exact Or.inr rfl)) qD))))) zH)
  (zg (qk (zD wC (zq zX (pv 2) zc (fun _ _ => rfl)) qT (zy _)) (zm (qU (zT (za qz (za (zq zw (pv 0) (zq zX (pv 2) zc (fun _ _ => rfl)) (fun _ _ => rfl)) zb))) (qC (K := K) 2 rfl rfl (zF (qJ (pv 0) (zq zX (pv 2) zc (fun _ _ => rfl)) zO) (zF (qJ (pv 0) (zq zX (pv 2) zc (fun _ _ => rfl)) zO) qD))))) zH)
  (zg (qk (zD wC (zq zX (pv 2) zc (fun _ _ => rfl)) qT (zy _)) (zm (qU (zT (za (pv 1) (za qz zb))) (qC (K := K) 2 rfl rfl (zF (qJ (pv 0) (zq zX (pv 2) zc (fun _ _ => rfl)) zO) (zF (zu (i := 1) sc.nd rfl (by first | exact Or.inl rfl | exact Or.inr rfl)) qD))))) zH)
  (zm (zQ (zT (za (pv 0) (za (pv 1) zb)))))))))), ?_⟩
 rw [show ql ["_law_row", "_law_hand", "_law_deed_here", "_law_one", "_law_other"] [V.ref a, cE st.2, V.ref b] = [some (.ref a), some (cE st.2), some (.ref b), none, none] from rfl]
 refine zx fun r hr0 => ?_
 walk_at "rd"
 refine ⟨_, .inl (SqL.of ha), fun l hl0 => ?_⟩
 subst hr0
 have kl := Kp.new (bs := []) (HO.lst (st.1.map cE)) hl0
 have hl1 := zd (H := H) (a := l) (o := HO.lst (st.1.map cE))
 have hb1 := kl _ _ (by simp) hb
 have nbl : b ≠ l := zi hb hl0
 generalize upd H l (HO.lst (st.1.map cE)) = H1 at *
 have hnl := hl0
 cases hdo with
 | @swap sa sb row h x y ne hp hg =>
  obtain ⟨c1, c2⟩ := qy hp
  obtain ⟨g1, g2⟩ := qy hg
  refine zx fun r hr0 => ?_
  walk_at "rd"
  refine ⟨_, SqT.of hb1, _, rfl, rfl, ?_⟩
  rw [if_pos rfl]
  refine ⟨_, SqT.of hb1, _, rfl, _, _, rfl, SqL.of hl1, _, c2, _, SqT.of hb1, _, rfl, _, _, rfl, SqL.of hl1, _, g2, by show 2 <= sizeLine; omega, fun pt hpt => ?_⟩
  have kt := Kp.new (bs := []) (HO.tup [cE (some y), cE (some x)]) hpt
  have hbt := kt _ _ (by simp) hb1
  have ib2 : ixN ((row.map cE).set sa (cE (some y))).length (sb : Int) = some sb := by rw [List.length_set]; exact g1
  refine ⟨_, SqT.of zd, rfl, _, _, rfl, _, SqT.of hbt, _, rfl, _, rfl, _, kt _ _ (by simp) hl1, _, c1, _, _, rfl, _, SqT.of ((zh nbl).trans hbt), _, rfl, _, rfl, _, zd, _, ib2, rfl, ?_⟩
  subst hr0
  have hl2 := zd (H := upd (upd H1 pt (HO.tup [cE (some y), cE (some x)])) l (HO.lst ((row.map cE).set sa (cE (some y))))) (a := l) (o := HO.lst (((row.map cE).set sa (cE (some y))).set sb (cE (some x))))
  have hb2 : upd (upd (upd H1 pt (HO.tup [cE (some y), cE (some x)])) l (HO.lst ((row.map cE).set sa (cE (some y))))) l (HO.lst (((row.map cE).set sa (cE (some y))).set sb (cE (some x)))) b = some (.tup (deV (.swap sa sb))) := (zh nbl).trans ((zh nbl).trans hbt)
  have kn := ((kt.mono (bs' := [l]) (by simp)).trans (Kp.set (HO.lst ((row.map cE).set sa (cE (some y)))) (by simp : l ∈ [l]))).trans (Kp.set (HO.lst (((row.map cE).set sa (cE (some y))).set sb (cE (some x)))) (by simp : l ∈ [l]))
  have hl2 := hl2.trans (show _ = some (HO.lst (((row.set sa (some y)).set sb (some x)).map cE)) by rw [List.map_set, List.map_set])
  show yG _ _ _ _ (upd (upd (upd H1 pt (HO.tup [cE (some y), cE (some x)])) l (HO.lst ((row.map cE).set sa (cE (some y))))) l (HO.lst (((row.map cE).set sa (cE (some y))).set sb (cE (some x)))))
  generalize upd (upd (upd H1 pt (HO.tup [cE (some y), cE (some x)])) l (HO.lst ((row.map cE).set sa (cE (some y))))) l (HO.lst (((row.map cE).set sa (cE (some y))).set sb (cE (some x)))) = H2 at *
  refine zx fun r hr0 => ?_
  walk_at "rd"
  refine ⟨_, SqT.of hb2, _, rfl, rfl, ?_⟩
  rw [if_neg (by show ¬ (V.str (Str.ofString "swap") = V.str (Str.ofString "take")); decide)]
  subst hr0
  refine zx fun r hr0 => ?_
  walk_at "rd"
  refine ⟨_, SqT.of hb2, _, rfl, rfl, ?_⟩
  rw [if_neg (by show ¬ (V.str (Str.ofString "swap") = V.str (Str.ofString "move")); decide)]
  subst hr0
  refine zx fun r hr0 => ?_
  walk_at "rd"
  refine ⟨_, SqT.of hb2, _, rfl, rfl, ?_⟩
  rw [if_neg (by show ¬ (V.str (Str.ofString "swap") = V.str (Str.ofString "lay")); decide)]
  subst hr0
  walk_at "rd"
  refine ⟨by show 2 <= sizeLine; omega, fun t ht => ?_⟩
  have kt2 := Kp.new (bs := []) (HO.tup [V.ref l, cE h]) ht
  have kx : Kp [] H H2 := Kp.un (bs := []) ((kl.mono (bs' := [l]) (by simp)).trans kn) hnl
  exact q t l _ (kx.trans kt2) (kx.free ht) hnl zd (kt2 _ _ (by simp) hl2)
 | @take p row x hp =>
  obtain ⟨c1, c2⟩ := qy hp
  refine zx fun r hr0 => ?_
  walk_at "rd"
  refine ⟨_, SqT.of hb1, _, rfl, rfl, ?_⟩
  rw [if_neg (by show ¬ (V.str (Str.ofString "take") = V.str (Str.ofString "swap")); decide)]
  subst hr0
  refine zx fun r hr0 => ?_
  walk_at "rd"
  refine ⟨_, SqT.of hb1, _, rfl, rfl, ?_⟩
  rw [if_pos rfl]
  refine ⟨_, SqT.of hb1, _, rfl, _, _, rfl, SqL.of hl1, _, c2, by show 2 <= sizeLine; omega, fun pt hpt => ?_⟩
  have kt := Kp.new (bs := []) (HO.tup [V.non, cE (some x)]) hpt
  refine ⟨_, SqT.of zd, rfl, _, _, rfl, _, SqT.of (kt _ _ (by simp) hb1), _, rfl, _, rfl, _, kt _ _ (by simp) hl1, _, c1, _, _, rfl, rfl, ?_⟩
  subst hr0
  have hl2 := zd (H := upd H1 pt (HO.tup [V.non, cE (some x)])) (a := l) (o := HO.lst ((row.map cE).set p V.non))
  have hb2 : upd (upd H1 pt (HO.tup [V.non, cE (some x)])) l (HO.lst ((row.map cE).set p V.non)) b = some (.tup (deV (.take p))) := (zh nbl).trans (kt _ _ (by simp) hb1)
  have kn := (kt.mono (bs' := [l]) (by simp)).trans (Kp.set (HO.lst ((row.map cE).set p V.non)) (by simp : l ∈ [l]))
  have hl2 := hl2.trans (show _ = some (HO.lst ((row.set p none).map cE)) by rw [List.map_set]; rfl)
  show yG _ _ _ _ (upd (upd H1 pt (HO.tup [V.non, cE (some x)])) l (HO.lst ((row.map cE).set p V.non)))
  generalize upd (upd H1 pt (HO.tup [V.non, cE (some x)])) l (HO.lst ((row.map cE).set p V.non)) = H2 at *
  refine zx fun r hr0 => ?_
  walk_at "rd"
  refine ⟨_, SqT.of hb2, _, rfl, rfl, ?_⟩
  rw [if_neg (by show ¬ (V.str (Str.ofString "take") = V.str (Str.ofString "move")); decide)]
  subst hr0
  refine zx fun r hr0 => ?_
  walk_at "rd"
  refine ⟨_, SqT.of hb2, _, rfl, rfl, ?_⟩
  rw [if_neg (by show ¬ (V.str (Str.ofString "take") = V.str (Str.ofString "lay")); decide)]
  subst hr0
  walk_at "rd"
  refine ⟨by show 2 <= sizeLine; omega, fun t ht => ?_⟩
  have kt2 := Kp.new (bs := []) (HO.tup [V.ref l, cE (some x)]) ht
  have kx : Kp [] H H2 := Kp.un (bs := []) ((kl.mono (bs' := [l]) (by simp)).trans kn) hnl
  exact q t l _ (kx.trans kt2) (kx.free ht) hnl zd (kt2 _ _ (by simp) hl2)
 | @move p g row h x hp hg =>
  obtain ⟨c1, c2⟩ := qy hp
  obtain ⟨g1, g2⟩ := qy hg
  refine zx fun r hr0 => ?_
  walk_at "rd"
  refine ⟨_, SqT.of hb1, _, rfl, rfl, ?_⟩
  rw [if_neg (by show ¬ (V.str (Str.ofString "move") = V.str (Str.ofString "swap")); decide)]
  subst hr0
  refine zx fun r hr0 => ?_
  walk_at "rd"
  refine ⟨_, SqT.of hb1, _, rfl, rfl, ?_⟩
  rw [if_neg (by show ¬ (V.str (Str.ofString "move") = V.str (Str.ofString "take")); decide)]
  subst hr0
  refine zx fun r hr0 => ?_
  walk_at "rd"
  refine ⟨_, SqT.of hb1, _, rfl, rfl, ?_⟩
  rw [if_pos rfl]
  refine ⟨_, SqT.of hb1, _, rfl, _, _, rfl, SqL.of hl1, _, c2, by show 2 <= sizeLine; omega, fun pt hpt => ?_⟩
  have kt := Kp.new (bs := []) (HO.tup [V.non, cE (some x)]) hpt
  have ig : ixN ((row.map cE).set p V.non).length (g : Int) = some g := by rw [List.length_set]; exact g1
  have hbt := kt _ _ (by simp) hb1
  refine ⟨_, SqT.of zd, rfl, _, _, rfl, _, SqT.of hbt, _, rfl, _, rfl, _, kt _ _ (by simp) hl1, _, c1, _, _, rfl, _, SqT.of ((zh nbl).trans hbt), _, rfl, _, rfl, _, zd, _, ig, rfl, ?_⟩
  subst hr0
  have hl2 := zd (H := upd (upd H1 pt (HO.tup [V.non, cE (some x)])) l (HO.lst ((row.map cE).set p V.non))) (a := l) (o := HO.lst (((row.map cE).set p V.non).set g (cE (some x))))
  have hb2 : upd (upd (upd H1 pt (HO.tup [V.non, cE (some x)])) l (HO.lst ((row.map cE).set p V.non))) l (HO.lst (((row.map cE).set p V.non).set g (cE (some x)))) b = some (.tup (deV (.move p g))) := (zh nbl).trans ((zh nbl).trans hbt)
  have kn := ((kt.mono (bs' := [l]) (by simp)).trans (Kp.set (HO.lst ((row.map cE).set p V.non)) (by simp : l ∈ [l]))).trans (Kp.set (HO.lst (((row.map cE).set p V.non).set g (cE (some x)))) (by simp : l ∈ [l]))
  have hl2 := hl2.trans (show _ = some (HO.lst (((row.set p none).set g (some x)).map cE)) by rw [List.map_set, List.map_set]; rfl)
  show yG _ _ _ _ (upd (upd (upd H1 pt (HO.tup [V.non, cE (some x)])) l (HO.lst ((row.map cE).set p V.non))) l (HO.lst (((row.map cE).set p V.non).set g (cE (some x)))))
  generalize upd (upd (upd H1 pt (HO.tup [V.non, cE (some x)])) l (HO.lst ((row.map cE).set p V.non))) l (HO.lst (((row.map cE).set p V.non).set g (cE (some x)))) = H2 at *
  refine zx fun r hr0 => ?_
  walk_at "rd"
  refine ⟨_, SqT.of hb2, _, rfl, rfl, ?_⟩
  rw [if_neg (by show ¬ (V.str (Str.ofString "move") = V.str (Str.ofString "lay")); decide)]
  subst hr0
  walk_at "rd"
  refine ⟨by show 2 <= sizeLine; omega, fun t ht => ?_⟩
  have kt2 := Kp.new (bs := []) (HO.tup [V.ref l, cE h]) ht
  have kx : Kp [] H H2 := Kp.un (bs := []) ((kl.mono (bs' := [l]) (by simp)).trans kn) hnl
  exact q t l _ (kx.trans kt2) (kx.free ht) hnl zd (kt2 _ _ (by simp) hl2)
 | @lay g row x hg =>
  obtain ⟨g1, g2⟩ := qy hg
  refine zx fun r hr0 => ?_
  walk_at "rd"
  refine ⟨_, SqT.of hb1, _, rfl, rfl, ?_⟩
  rw [if_neg (by show ¬ (V.str (Str.ofString "lay") = V.str (Str.ofString "swap")); decide)]
  subst hr0
  refine zx fun r hr0 => ?_
  walk_at "rd"
  refine ⟨_, SqT.of hb1, _, rfl, rfl, ?_⟩
  rw [if_neg (by show ¬ (V.str (Str.ofString "lay") = V.str (Str.ofString "take")); decide)]
  subst hr0
  refine zx fun r hr0 => ?_
  walk_at "rd"
  refine ⟨_, SqT.of hb1, _, rfl, rfl, ?_⟩
  rw [if_neg (by show ¬ (V.str (Str.ofString "lay") = V.str (Str.ofString "move")); decide)]
  subst hr0
  refine zx fun r hr0 => ?_
  walk_at "rd"
  refine ⟨_, SqT.of hb1, _, rfl, rfl, ?_⟩
  rw [if_pos rfl]
  refine ⟨by show 2 <= sizeLine; omega, fun pt hpt => ?_⟩
  have kt := Kp.new (bs := []) (HO.tup [cE (some x), V.non]) hpt
  have hbt := kt _ _ (by simp) hb1
  refine ⟨_, SqT.of zd, rfl, _, _, rfl, _, SqT.of hbt, _, rfl, _, rfl, _, kt _ _ (by simp) hl1, _, g1, _, _, rfl, rfl, ?_⟩
  subst hr0
  have hl2 := zd (H := upd H1 pt (HO.tup [cE (some x), V.non])) (a := l) (o := HO.lst ((row.map cE).set g (cE (some x))))
  have kn := (kt.mono (bs' := [l]) (by simp)).trans (Kp.set (HO.lst ((row.map cE).set g (cE (some x)))) (by simp : l ∈ [l]))
  have hl2 := hl2.trans (show _ = some (HO.lst ((row.set g (some x)).map cE)) by rw [List.map_set])
  show KM _ _ _ (upd (upd H1 pt (HO.tup [cE (some x), V.non])) l (HO.lst ((row.map cE).set g (cE (some x)))))
  generalize upd (upd H1 pt (HO.tup [cE (some x), V.non])) l (HO.lst ((row.map cE).set g (cE (some x)))) = H2 at *
  walk_at "rd"
  refine ⟨by show 2 <= sizeLine; omega, fun t ht => ?_⟩
  have kt2 := Kp.new (bs := []) (HO.tup [V.ref l, cE none]) ht
  have kx : Kp [] H H2 := Kp.un (bs := []) ((kl.mono (bs' := [l]) (by simp)).trans kn) hnl
  exact q t l _ (kx.trans kt2) (kx.free ht) hnl zd (kt2 _ _ (by simp) hl2)
def thN (row : List (Option Int)) : List Nat := (List.range row.length).filter fun k => (row.getD k none).isSome
def frN (row : List (Option Int)) : List Nat := (List.range row.length).filter fun k => (row.getD k none).isNone
def nI (xs : List Nat) : List Int := xs.map fun (k : Nat) => (k : Int)
theorem yl {row : List (Option Int)} {p : Nat} (h : p ∈ thN row) : ∃ v, row[p]? = some (some v) := by
 unfold thN at h
 obtain ⟨h1, h2⟩ := List.mem_filter.mp h
 rw [List.mem_range] at h1
 rw [List.getD_eq_getElem?_getD, List.getElem?_eq_getElem h1] at h2
 obtain ⟨v, hv⟩ := Option.isSome_iff_exists.mp h2
 exact ⟨v, by rw [List.getElem?_eq_getElem h1]; exact congrArg some hv⟩
theorem ZW {row : List (Option Int)} {p : Nat} (h : p ∈ frN row) : row[p]? = some none := by
 unfold frN at h
 obtain ⟨h1, h2⟩ := List.mem_filter.mp h
 rw [List.mem_range] at h1
 rw [List.getD_eq_getElem?_getD, List.getElem?_eq_getElem h1] at h2
 have hv := Option.isNone_iff_eq_none.mp h2
 rw [List.getElem?_eq_getElem h1]; exact congrArg some hv
theorem Kj (row : List (Option Int)) : (thN row).length <= row.length := by
 have := List.length_filter_le (fun k => (row.getD k none).isSome) (List.range row.length)
 rw [List.length_range] at this; exact this
theorem Jx (row : List (Option Int)) : (frN row).length <= row.length := by
 have := List.length_filter_le (fun k => (row.getD k none).isNone) (List.range row.length)
 rw [List.length_range] at this; exact this
theorem Zv (row : List (Option Int)) : (thN row).Nodup := List.nodup_range.sublist List.filter_sublist
theorem qa (xs : List Nat) : (nI xs).length = xs.length := by unfold nI; rw [List.length_map]
theorem xq {xs : List Nat} {r : Int} (h0 : 0 <= r) (h1 : r < xs.length) : ∃ p, p ∈ xs /\ xs[r.toNat]? = some p /\ atI ((nI xs).map V.int) r = some (.int (p : Int)) := by
 have hr : r.toNat < xs.length := by omega
 refine ⟨xs[r.toNat], List.getElem_mem hr, List.getElem?_eq_getElem hr, ?_⟩
 have e : atI ((nI xs).map V.int) (r.toNat : Int) = some (.int ((xs[r.toNat] : Nat) : Int)) := by
  refine qX ?_
  unfold nI
  rw [List.getElem?_map, List.getElem?_map, List.getElem?_eq_getElem hr]; rfl
 rwa [show (r.toNat : Int) = r by omega] at e
theorem Qa {xs : List Nat} {r t : Int} (h0 : 0 <= r) (h1 : r < xs.length) (t0 : 0 <= t) (t1 : t < (xs.length : Int) - 1) : ∃ j : Nat, j ≠ r.toNat /\ ∃ p, p ∈ xs /\ xs[j]? = some p /\ atI ((nI xs).map V.int) (r - 1 - t) = some (.int (p : Int)) := by
 by_cases c : 0 <= r - 1 - t
 ·obtain ⟨p, hp, e1, e2⟩ := xq (xs := xs) c (by omega)
  exact ⟨(r - 1 - t).toNat, by omega, p, hp, e1, e2⟩
 ·have hj : (r - 1 - t + xs.length).toNat < xs.length := by omega
  refine ⟨(r - 1 - t + xs.length).toNat, by omega, xs[(r - 1 - t + xs.length).toNat], List.getElem_mem hj, List.getElem?_eq_getElem hj, ?_⟩
  unfold atI ixN
  rw [List.length_map, qa, if_neg c, if_pos (by omega)]
  show ((nI xs).map V.int)[(r - 1 - t + (xs.length : Int)).toNat]? = _
  unfold nI
  rw [List.getElem?_map, List.getElem?_map, List.getElem?_eq_getElem hj]; rfl
abbrev deP (qs : List (Addr × De)) : List (Addr × List V) := qs.map fun q => (q.1, deV q.2)
def kd (H0 : Hp) (bx rw_ : Addr) (row : List (Option Int)) (h : Option Int) (N k : Nat) (pt pf : Addr) (σ : L2.St) (H : Hp) : Prop :=
 ∃ (ps : Addr) (qs : List (Addr × De)) (u6 u7 : Option V), σ = [some (.ref bx), some (.ref rw_), some (cE h), some (.ref pt), some (.ref pf), some (.ref ps), u6, u7] /\ Kp [bx] H0 H /\ H ps = some (.lst (tfs (deP qs))) /\ H0 ps = none /\ (pt ≠ ps /\ pf ≠ ps) /\
  (∀ q ∈ qs, H0 q.1 = none /\ H q.1 = some (.tup (deV q.2)) /\ ∃ t, DoE q.2 (row, h) t) /\ qs.length <= 2 * k /\ Bx H bx (N + 2 * k) /\ H pt = some (il (nI (thN row))) /\ H pf = some (il (nI (frN row)))
theorem qO (a : List (Addr × List V)) : (tfs a).length = a.length := by unfold tfs; rw [List.length_map]
theorem kd.kp {H0 H H' : Hp} {bx rw_ pt pf : Addr} {row : List (Option Int)} {h : Option Int} {N k : Nat} {σ : L2.St} (I : kd H0 bx rw_ row h N k pt pf σ H) (k2 : Kp [] H H') : kd H0 bx rw_ row h N k pt pf σ H' := by
 obtain ⟨ps, qs, u6, u7, e, k1, hps, nps, ne, hqs, lqs, b1, ht1, hf1⟩ := I
 exact ⟨ps, qs, u6, u7, e, k1.trans (k2.mono (by simp)), k2 _ _ (by simp) hps, nps, ne, fun q hq => ⟨(hqs q hq).1, k2 _ _ (by simp) (hqs q hq).2.1, (hqs q hq).2.2⟩, lqs, b1.kp k2, k2 _ _ (by simp) ht1, k2 _ _ (by simp) hf1⟩
theorem kd.up {H0 H : Hp} {bx rw_ pt pf : Addr} {row : List (Option Int)} {h : Option Int} {N k : Nat} {σ : L2.St} (I : kd H0 bx rw_ row h N k pt pf σ H) : kd H0 bx rw_ row h N (k + 1) pt pf σ H := by
 obtain ⟨ps, qs, u6, u7, e, k1, hps, nps, ne, hqs, lqs, b1, ht1, hf1⟩ := I
 exact ⟨ps, qs, u6, u7, e, k1, hps, nps, ne, hqs, by omega, b1.mono (by omega), ht1, hf1⟩
theorem xf {H0 H1 H2 : Hp} {bx rw_ pt pf ps p : Addr} {row : List (Option Int)} {h : Option Int} {N k : Nat} {qs : List (Addr × De)} {u6 u7 : Option V} {d : De} {t : ES} (hb : Bx H0 bx N) (hpt : H0 pt = none) (hpf : H0 pf = none)
  (k1 : Kp [bx] H0 H1) (hps : H1 ps = some (.lst (tfs (deP qs)))) (nps : H0 ps = none) (ne : pt ≠ ps /\ pf ≠ ps) (hqs : ∀ q ∈ qs, H0 q.1 = none /\ H1 q.1 = some (.tup (deV q.2)) /\ ∃ t, DoE q.2 (row, h) t) (lqs : qs.length <= 2 * k)
  (ht1 : H1 pt = some (il (nI (thN row)))) (hf1 : H1 pf = some (il (nI (frN row)))) (k2 : Kp [bx] H1 H2) (b2 : Bx H2 bx (N + 2 * (k + 1))) (hp : H2 p = none) (hd : DoE d (row, h) t) :
  H2 ps = some (.lst (tfs (deP qs))) /\ kd H0 bx rw_ row h N (k + 1) pt pf [some (.ref bx), some (.ref rw_), some (cE h), some (.ref pt), some (.ref pf), some (.ref ps), u6, u7] (upd (upd H2 p (.tup (deV d))) ps (.lst (tfs (deP qs) ++ [V.ref p]))) := by
 have nb : ∀ c, H0 c = none -> c ∉ [bx] := fun c hc => by simpa using Ne.symm (hb.ne hc)
 have hps2 := k2 _ _ (nb _ nps) hps
 have n1 : Kp [] H2 (upd H2 p (.tup (deV d))) := Kp.new _ hp
 have npd : ∀ c o, c ≠ ps -> H2 c = some o -> upd (upd H2 p (.tup (deV d))) ps (.lst (tfs (deP qs) ++ [V.ref p])) c = some o := fun c o hc hh => (zh hc).trans (n1 _ _ (by simp) hh)
 have hp0 : H0 p = none := by
  cases e : H0 p with
  | none => rfl
  | some o =>
   by_cases c : p ∈ [bx]
   ·have : p = bx := by simpa using c
    subst this
    obtain ⟨_, _, _, e2, _⟩ := b2
    rw [hp] at e2; cases e2
   ·have := k2 _ _ c (k1 _ _ c e)
    rw [hp] at this; cases this
 refine ⟨hps2, ps, qs ++ [(p, d)], u6, u7, rfl, ?_, zd.trans (by unfold deP tfs; rw [List.map_append, List.map_append]; rfl), nps, ne, fun q hq => ?_, by rw [List.length_append]; show qs.length + 1 <= _; omega, ?_, npd _ _ ne.1 (k2 _ _ (nb _ hpt) ht1), npd _ _ ne.2 (k2 _ _ (nb _ hpf) hf1)⟩
 ·intro c o hc hh
  have cs : c ≠ ps := fun z => by rw [z, nps] at hh; cases hh
  exact npd _ _ cs (k2 _ _ hc (k1 _ _ hc hh))
 ·rcases List.mem_append.mp hq with z | z
  ·obtain ⟨z1, z2, z3⟩ := hqs q z
   refine ⟨z1, npd _ _ (fun e => ?_) (k2 _ _ (nb _ z1) z2), z3⟩
   rw [e, hps] at z2; cases z2
  ·rw [List.mem_singleton.mp z]
   refine ⟨hp0, (zh (fun e => ?_)).trans zd, t, hd⟩
   have e : p = ps := e
   rw [e, hps2] at hp; cases hp
 ·obtain ⟨x, y, z, e, r⟩ := b2
  have cs : bx ≠ ps := fun w => by have := nb _ nps; rw [w] at this; simp at this
  exact ⟨x, y, z, npd _ _ cs e, r⟩
theorem y0 (p : Nat -> Bool) (k : Nat) : (List.range (k + 1)).filter p = (List.range k).filter p ++ if p k = true then [k] else [] := by
 rw [List.range_succ, List.filter_append]
 congr 1
 rw [List.filter_cons]
 rfl
theorem Q1 (p : Nat -> Bool) (k : Nat) : ((List.range k).filter p).length <= k := by
 have := List.length_filter_le p (List.range k)
 rwa [List.length_range] at this
abbrev vG : Stmt := top 7
theorem wg : zN ["_law_box_here", "_law_row", "_law_hand", "_law_there", "_law_free", "_law_some", "_law_one", "_law_k"] ["_law_box_here", "_law_row", "_law_hand"] (zn vG) := ⟨rfl, rfl, rfl, by decide +kernel, rfl, by decide +kernel, by decide +kernel⟩
def QD : Sp := fun vs H Q _ => ∃ (bx rw_ : Addr) (row : List (Option Int)) (h : Option Int) (N : Nat), vs = [.ref bx, .ref rw_, cE h] /\ Bx H bx N /\ N < 100000000 /\ H rw_ = some (.lst (row.map cE)) /\ row.length <= 1000 /\
 ∀ H', Kp [bx] H H' -> Bx H' bx (N + 10) -> Q .non H' /\ ∀ p d t, H p = none -> H' p = some (.tup (deV d)) -> DoE d (row, h) t -> Q (.ref p) H'
theorem KI (a : At K mg "_law_deed" vG) (B : Blt mg) (D_law_take : Df P w K mg base "_law_take" ["_law_box_here", "_law_many"] 1 vn) : Df P w K mg base "_law_deed" ["_law_box_here", "_law_row", "_law_hand"] 2 QD := by
  refine ka (k := 1) a wg (fun _ _ _ _ _ _ us hl => match us, hl with | [_, _, _], _ => rfl) (fun vs H Q E h => ?_) (fun f cdv A outer s H vs Q E hr h => ?_)
  · obtain ⟨bx, rw_, row, h, N, rfl, _⟩ := h; rfl
  obtain ⟨bx, rw_, row, h, N, rfl, hb, hN, hrw, hrl, q⟩ := h
  have sc := wg
  have hsl := hsl
  refine ⟨_, (zg (ko (j := 3) rfl sc.nd rfl (by first | exact Or.inl rfl | exact Or.inr rfl) (ts := [7]) rfl (qN rfl B.range (za (zl zr rfl B.len qg (za (pv 1) zb)) zb)) (fun _ _ _ _ => (zu (i := 7) sc.nd rfl (by first | exact Or.inl rfl | exact Or.inr rfl))) (fun _ _ _ _ => v6 (zD yh (zq (yC (K := K) rfl) (pv 1) (pv 7) (fun _ _ => rfl)) qz (zy _))) (fun _ _ _ _ => (pv 7)))
    (zg (ko (j := 4) rfl sc.nd rfl (by first | exact Or.inl rfl | exact Or.inr rfl) (ts := [7]) rfl (qN rfl B.range (za (zl zr rfl B.len qg (za (pv 1) zb)) zb)) (fun _ _ _ _ => (zu (i := 7) sc.nd rfl (by first | exact Or.inl rfl | exact Or.inr rfl))) (fun _ _ _ _ => v6 (zD vA (zq (yC (K := K) rfl) (pv 1) (pv 7) (fun _ _ => rfl)) qz (zy _))) (fun _ _ _ _ => (pv 7)))
    (zg (zM (i := 5) sc.nd rfl (by first | exact Or.inl rfl | exact Or.inr rfl) (zR zb))
    (zg (qk (zD Xa (zl zr rfl B.len qg (za (pv 3) zb)) zc (zy _)) (zg (zM (i := 6) sc.nd rfl (by first | exact Or.inl rfl | exact Or.inr rfl) (zB D_law_take hr rfl (za (pv 0) (za (zl zr rfl B.len qg (za (pv 3) zb)) zb))))
    (zm (qV (xu PySem.F.plainAttrs_list PySem.F.slot_list_append PySem.F.type_list_append qw (pv 5) (za (zT (za qT (za (zq zw (pv 3) (pv 6) (fun _ _ => rfl)) (za (zq zw (pv 3) (zo jm (zo jm (pv 6) zc) (zB D_law_take hr rfl (za (pv 0) (za (zo jm (zl zr rfl B.len qg (za (pv 3) zb)) zc) zb)))) (fun _ _ => rfl)) zb)))) zb))))) zH)
    (zg (qk (PW.pt (vz (zD vA (pv 2) qz (zy _)) (yj (zD (yu hr.units) (pv 3) (zR zb) (zy _))))) (zm (qV (xu PySem.F.plainAttrs_list PySem.F.slot_list_append PySem.F.type_list_append qw (pv 5) (za (zT (za qT (za (zq zw (pv 3) (zB D_law_take hr rfl (za (pv 0) (za (zl zr rfl B.len qg (za (pv 3) zb)) zb))) (fun _ _ => rfl)) zb))) zb)))) zH)
    (zg (qk (PW.pt (vz (zD (yu hr.units) (pv 3) (zR zb) (zy _)) (yj (zD (yu hr.units) (pv 4) (zR zb) (zy _))))) (zm (zM (i := 5) sc.nd rfl (by first | exact Or.inl rfl | exact Or.inr rfl) (zo vx (pv 5) (zo Qj (zR (za (zT (za qT (za (zq zw (pv 3) (zB D_law_take hr rfl (za (pv 0) (za (zl zr rfl B.len qg (za (pv 3) zb)) zb))) (fun _ _ => rfl)) (za (zq zw (pv 4) (zB D_law_take hr rfl (za (pv 0) (za (zl zr rfl B.len qg (za (pv 4) zb)) zb))) (fun _ _ => rfl)) zb)))) zb)) zc)))) zH)
    (zg (qk (PW.pt (vz (zD yh (pv 2) qz (zy _)) (yj (zD (yu hr.units) (pv 4) (zR zb) (zy _))))) (zm (qV (xu PySem.F.plainAttrs_list PySem.F.slot_list_append PySem.F.type_list_append qw (pv 5) (za (zT (za qT (za (zq zw (pv 4) (zB D_law_take hr rfl (za (pv 0) (za (zl zr rfl B.len qg (za (pv 4) zb)) zb))) (fun _ _ => rfl)) zb))) zb)))) zH)
    (zm (zQ (QP (zD (Xg hr.units) (pv 5) (zR zb) (zy _)) (zq zw (pv 5) (zB D_law_take hr rfl (za (pv 0) (za (zl zr rfl B.len qg (za (pv 5) zb)) zb))) (fun _ _ => rfl)) qz)))))))))), ?_⟩
  rw [show ql ["_law_box_here", "_law_row", "_law_hand", "_law_there", "_law_free", "_law_some", "_law_one", "_law_k"] [V.ref bx, V.ref rw_, cE h] = [some (.ref bx), some (.ref rw_), some (cE h), none, none, none, none, none] from rfl]
  have thE : ∀ k, k < row.length -> ∃ c, row[k]? = some c /\ atI (row.map cE) (k : Int) = some (cE c) /\ row.getD k none = c := fun k hk => ⟨row[k], List.getElem?_eq_getElem hk, (qy (List.getElem?_eq_getElem hk)).2, by rw [List.getD_eq_getElem?_getD, List.getElem?_eq_getElem hk]; rfl⟩
  refine zx fun r hr0 => ?_
  walk_at "rd"
  refine ⟨_, .inl (SqL.of hrw), by omega, by rw [List.length_map]; omega, fun D hD => ?_⟩
  rw [List.length_map, Int.toNat_natCast]
  refine vh (fun k τ G => ∃ u, τ = [some (.ref bx), some (.ref rw_), some (cE h), none, none, none, none, u] /\ Kp [D] (upd H D (.lst [])) G /\ G D = some (il (nI ((List.range k).filter fun k => (row.getD k none).isSome)))) ?_ ?_ ?_
  · exact ⟨none, rfl, Kp.refl, zd⟩
  · rintro k τ G hk ⟨u, rfl, kq, hq⟩
    obtain ⟨c, hc1, hc2, hc3⟩ := thE k hk
    rw [Int.zero_add]
    walk_at "rd"
    have lf := Q1 (fun k => (row.getD k none).isSome) k
    refine ⟨_, SqL.of ((Kp.drop1 hD kq) _ _ (by simp) hrw), _, hc2, ?_⟩
    rw [y0, hc3]
    cases c with
    | none =>
      rw [if_neg (show ¬ ¬ cE none = V.non from not_not_intro rfl), if_neg (by decide), List.append_nil]
      exact ⟨kq, hq⟩
    | some v =>
      rw [if_pos (show ¬ cE (some v) = V.non from fun z => nomatch z), if_pos (show (some v).isSome = true from rfl)]
      refine ⟨_, hq, by rw [List.length_map, qa]; omega, kq.trans (Kp.set _ (by simp)), ?_⟩
      exact zd.trans (congrArg some (congrArg HO.lst (by unfold nI; rw [List.map_append, List.map_append]; rfl)))
  · rintro τ G ⟨u, rfl, kq, hq⟩
    have kD := Kp.drop1 hD kq
    have hth : G D = some (il (nI (thN row))) := hq
    have hrG := kD _ _ (by simp) hrw
    clear hq kq
    subst hr0
    refine zx fun r hr0 => ?_
    walk_at "rd"
    refine ⟨_, .inl (SqL.of hrG), by omega, by rw [List.length_map]; omega, fun D2 hD2 => ?_⟩
    rw [List.length_map, Int.toNat_natCast]
    refine vh (fun k τ G2 => ∃ u, τ = [some (.ref bx), some (.ref rw_), some (cE h), some (.ref D), none, none, none, u] /\ Kp [D2] (upd G D2 (.lst [])) G2 /\ G2 D2 = some (il (nI ((List.range k).filter fun k => (row.getD k none).isNone)))) ?_ ?_ ?_
    · exact ⟨none, rfl, Kp.refl, zd⟩
    · rintro k τ G2 hk ⟨u, rfl, kq, hq⟩
      obtain ⟨c, hc1, hc2, hc3⟩ := thE k hk
      rw [Int.zero_add]
      walk_at "rd"
      have lf := Q1 (fun k => (row.getD k none).isNone) k
      refine ⟨_, SqL.of ((Kp.drop1 hD2 kq) _ _ (by simp) hrG), _, hc2, ?_⟩
      rw [y0, hc3]
      cases c with
      | some v =>
        rw [if_neg (show ¬ cE (some v) = V.non from fun z => nomatch z), if_neg (show ¬ (some v).isNone = true from fun z => nomatch z), List.append_nil]
        exact ⟨kq, hq⟩
      | none =>
        rw [if_pos (show cE none = V.non from rfl), if_pos (show (none : Option Int).isNone = true from rfl)]
        refine ⟨_, hq, by rw [List.length_map, qa]; omega, kq.trans (Kp.set _ (by simp)), ?_⟩
        exact zd.trans (congrArg some (congrArg HO.lst (by unfold nI; rw [List.map_append, List.map_append]; rfl)))
    · rintro τ G2 ⟨u, rfl, kq, hq⟩
      have kD2 := Kp.drop1 hD2 kq
      have hfr : G2 D2 = some (il (nI (frN row))) := hq
      have hth2 := kD2 _ _ (by simp) hth
      have kH2 := kD.trans kD2
      have hb2 := hb.kp kH2
      clear hq kq
      have nDb : D ≠ bx := Ne.symm (hb.ne hD)
      have nD2b : D2 ≠ bx := Ne.symm ((hb.kp kD).ne hD2)
      subst hr0
      refine zx fun r hr0 => ?_
      walk_at "rd"
      refine ⟨Nat.zero_le _, fun pS hpS => ?_⟩
      have kS := Kp.new (bs := []) (HO.lst []) hpS
      have I0 : kd H bx rw_ row h N 0 D D2 [some (.ref bx), some (.ref rw_), some (cE h), some (.ref D), some (.ref D2), some (.ref pS), none, none] (upd G2 pS (.lst [])) := ⟨pS, [], none, none, rfl, (kH2.trans kS).mono (by simp), zd, kH2.free hpS, ⟨zi hth2 hpS, zi hfr hpS⟩, (fun q hq => nomatch hq), by simp, hb2.kp kS, kS _ _ (by simp) hth2, kS _ _ (by simp) hfr⟩
      subst hr0
      clear hrG hth hrw
      have hth0 := Kj row
      have hfr0 := Jx row
      generalize upd G2 pS (HO.lst []) = G3 at *
      generalize [some (V.ref bx), some (V.ref rw_), some (cE h), some (V.ref D), some (V.ref D2), some (V.ref pS), none, none] = σ0 at *
      refine zx fun r hr0 => ?_
      have ndb : ∀ c, H c = none -> c ∉ [bx] := fun c hc => by simpa using Ne.symm (hb.ne hc)
      have hD2n : H D2 = none := kD.free hD2
      suffices key : ∀ σ G, kd H bx rw_ row h N 1 D D2 σ G -> r { nx := fun x H' => Q V.non H', rt := Q } σ G by
        have I0' := I0
        obtain ⟨ps, qs, u6, u7, rfl, k1, hps, nps, ne, hqs, lqs, b1, ht1, hf1⟩ := I0
        walk_at "rd"
        refine ⟨_, .inl (SqL.of ht1), ?_⟩
        rw [List.length_map, qa]
        refine VS (fun z => ?_) (fun z => ?_)
        · refine ⟨_, .inl (SqL.of ht1), ?_⟩
          rw [List.length_map, qa]
          refine ⟨bx, _, _, rfl, b1, by omega, by omega, by omega, fun r1 A1 a1 c1 l1 v1 => ?_⟩
          have hpsA := a1 _ _ (ndb _ nps) hps
          have htA := a1 _ _ (ndb _ hD) ht1
          obtain ⟨p1, hp1, e1, g1⟩ := xq (xs := thN row) l1 v1
          refine ⟨.inl ⟨rfl, _, SqL.of hpsA⟩, _, r1, rfl, SqL.of htA, _, g1, r1, rfl, _, .inl (SqL.of htA), ?_⟩
          rw [List.length_map, qa]
          refine ⟨bx, _, _, rfl, c1, by omega, by omega, by omega, fun r2 A2 a2 c2 l2 v2 => ?_⟩
          have htA2 := a2 _ _ (ndb _ hD) htA
          obtain ⟨j, hj, p2, hp2, e2, g2⟩ := Qa (xs := thN row) l1 v1 l2 (by omega)
          obtain ⟨w1, hw1⟩ := yl hp1
          obtain ⟨w2, hw2⟩ := yl hp2
          have hne : p1 ≠ p2 := fun z => by
            subst z
            have hj1 := (List.getElem?_eq_some_iff.mp e1)
            have hj2 := (List.getElem?_eq_some_iff.mp e2)
            obtain ⟨x1, y1⟩ := hj1
            obtain ⟨x2, y2⟩ := hj2
            exact hj ((List.getElem_inj (Zv row)).mp (y2.trans y1.symm))
          refine ⟨_, rfl, _, SqL.of htA2, _, g2, by show 3 <= sizeLine; omega, fun p hp => ?_⟩
          obtain ⟨f1, f2⟩ := xf (rw_ := rw_) (u6 := some (V.int r1)) (u7 := u7) (d := .swap p1 p2) hb hD hD2n k1 hps nps ne hqs lqs ht1 hf1 (a1.trans a2) c2 hp (DoE.swap hne hw1 hw2)
          refine ⟨_, (Kp.new (bs := []) _ hp) _ _ (by simp) f1, by rw [qO, List.length_map]; omega, key _ _ f2⟩
        · exact key _ _ I0'.up
      intro σ1 G4 I1
      subst hr0
      refine zx fun r hr0 => ?_
      suffices key : ∀ σ G, kd H bx rw_ row h N 2 D D2 σ G -> r { nx := fun x H' => Q V.non H', rt := Q } σ G by
        have I1' := I1
        obtain ⟨ps, qs, u6, u7, rfl, k1, hps, nps, ne, hqs, lqs, b1, ht1, hf1⟩ := I1
        walk_at "rd"
        cases h with
        | some v => rw [if_neg (show ¬ cE (some v) = V.non from fun z => nomatch z)]; exact key _ _ I1'.up
        | none =>
          rw [if_pos (show cE none = V.non from rfl)]
          refine ⟨Nat.zero_le _, fun p0 hp0 => ?_⟩
          have k0 := Kp.new (bs := []) (HO.lst []) hp0
          have ht0 := k0 _ _ (by simp) ht1
          refine ⟨_, SqL.of ht0, [], SqL.of zd, ?_⟩
          by_cases z : nI (thN row) = []
          · rw [if_neg (not_not_intro z)]
            exact key _ _ (I1'.kp k0).up
          · rw [if_pos z]
            have hl0 : 0 < (thN row).length := by
              rw [<- qa]
              exact List.length_pos_iff.mpr z
            have hps0 := k0 _ _ (by simp) hps
            have b0 := b1.kp k0
            generalize upd G4 p0 (HO.lst []) = G40 at *
            refine ⟨.inl ⟨rfl, _, SqL.of hps0⟩, _, .inl (SqL.of ht0), ?_⟩
            rw [List.length_map, qa]
            refine ⟨bx, _, _, rfl, b0, by omega, by omega, by omega, fun r1 A1 a1 c1 l1 v1 => ?_⟩
            have htA := a1 _ _ (ndb _ hD) ht0
            obtain ⟨p1, hp1, e1, g1⟩ := xq (xs := thN row) l1 v1
            obtain ⟨w1, hw1⟩ := yl hp1
            refine ⟨_, _, rfl, SqL.of htA, _, g1, by show 2 <= sizeLine; omega, fun p hp => ?_⟩
            obtain ⟨f1, f2⟩ := xf (rw_ := rw_) (u6 := u6) (u7 := u7) (d := .take p1) hb hD hD2n k1 hps nps ne hqs lqs ht1 hf1 ((k0.mono (by simp)).trans a1) (c1.mono (by omega)) hp (DoE.take hw1)
            refine ⟨_, (Kp.new (bs := []) _ hp) _ _ (by simp) f1, by rw [qO, List.length_map]; omega, key _ _ f2⟩
      intro σ2 G5 I2
      subst hr0
      refine zx fun r hr0 => ?_
      suffices key : ∀ σ G, kd H bx rw_ row h N 3 D D2 σ G -> r { nx := fun x H' => Q V.non H', rt := Q } σ G by
        have I2' := I2
        obtain ⟨ps, qs, u6, u7, rfl, k1, hps, nps, ne, hqs, lqs, b1, ht1, hf1⟩ := I2
        walk_at "rd"
        refine ⟨Nat.zero_le _, fun p0 hp0 => ?_⟩
        have k0 := Kp.new (bs := []) (HO.lst []) hp0
        have ht0 := k0 _ _ (by simp) ht1
        refine ⟨_, SqL.of ht0, [], SqL.of zd, ?_⟩
        by_cases z : nI (thN row) = []
        · rw [if_neg (not_not_intro z)]
          exact key _ _ (I2'.kp k0).up
        · rw [if_pos z]
          have hl0 : 0 < (thN row).length := by
            rw [<- qa]
            exact List.length_pos_iff.mpr z
          have hf0 := k0 _ _ (by simp) hf1
          generalize upd G5 p0 (HO.lst []) = G50 at *
          refine ⟨Nat.zero_le _, fun p9 hp9 => ?_⟩
          have k9 := Kp.new (bs := []) (HO.lst []) hp9
          have hf9 := k9 _ _ (by simp) hf0
          refine ⟨_, SqL.of hf9, [], SqL.of zd, ?_⟩
          by_cases zf : nI (frN row) = []
          · rw [if_neg (not_not_intro zf)]
            exact key _ _ (I2'.kp (k0.trans k9)).up
          · rw [if_pos zf]
            have hlf : 0 < (frN row).length := by
              rw [<- qa]
              exact List.length_pos_iff.mpr zf
            have k09 := k0.trans k9
            have ht9 := k9 _ _ (by simp) ht0
            have hps9 := k09 _ _ (by simp) hps
            have b9 := b1.kp k09
            generalize upd G50 p9 (HO.lst []) = G59 at *
            refine ⟨_, .inl (SqL.of ht9), ?_⟩
            rw [List.length_map, qa]
            refine ⟨bx, _, _, rfl, b9, by omega, by omega, by omega, fun r1 A1 a1 c1 l1 v1 => ?_⟩
            have htA := a1 _ _ (ndb _ hD) ht9
            have hfA := a1 _ _ (ndb _ hD2n) hf9
            obtain ⟨p1, hp1, e1, g1⟩ := xq (xs := thN row) l1 v1
            obtain ⟨w1, hw1⟩ := yl hp1
            refine ⟨_, _, rfl, SqL.of htA, _, g1, _, .inl (SqL.of hfA), ?_⟩
            rw [List.length_map, qa]
            refine ⟨bx, _, _, rfl, c1, by omega, by omega, by omega, fun r2 A2 a2 c2 l2 v2 => ?_⟩
            have hfA2 := a2 _ _ (ndb _ hD2n) hfA
            obtain ⟨p2, hp2, e2, g2⟩ := xq (xs := frN row) l2 v2
            have hw2 := ZW hp2
            refine ⟨_, _, rfl, SqL.of hfA2, _, g2, ?_⟩
            refine ⟨by show 3 <= sizeLine; omega, fun p hp => ⟨by show 1 <= sizeLine; omega, fun pl hpl => ?_⟩⟩
            have n1 := Kp.new (bs := []) (HO.tup [V.str (Str.ofString "move"), V.int (p1 : Int), V.int (p2 : Int)]) hp
            have n2 := Kp.new (bs := []) (HO.lst [V.ref p]) hpl
            have hpA := n2 _ _ (by simp) (zd (H := A2) (a := p) (o := HO.tup [V.str (Str.ofString "move"), V.int (p1 : Int), V.int (p2 : Int)]))
            have hplA := zd (H := upd A2 p (HO.tup [V.str (Str.ofString "move"), V.int (p1 : Int), V.int (p2 : Int)])) (a := pl) (o := HO.lst [V.ref p])
            have n12 := n1.trans n2
            generalize upd (upd A2 p (HO.tup [V.str (Str.ofString "move"), V.int (p1 : Int), V.int (p2 : Int)])) pl (HO.lst [V.ref p]) = A3 at *
            refine ⟨_, hplA, by decide, by decide, by show 1 * 2 <= sizeLine; omega, fun pm hpm => ?_⟩
            have n3 := Kp.new (bs := []) (HO.lst (List.replicate (Int.toNat 2) [V.ref p]).flatten) hpm
            have hmA := zd (H := A3) (a := pm) (o := HO.lst (List.replicate (Int.toNat 2) [V.ref p]).flatten)
            have hpA4 := n3 _ _ (by simp) hpA
            have n13 := n12.trans n3
            generalize upd A3 pm (HO.lst (List.replicate (Int.toNat 2) [V.ref p]).flatten) = A4 at *
            have kA : Kp [bx] G5 A4 := (((k09.mono (by simp)).trans a1).trans a2).trans (n13.mono (by simp))
            have hpsA := kA _ _ (ndb _ nps) hps
            refine ⟨_, hpsA, _, hmA, by rw [qO, List.length_map]; show qs.length + 2 <= sizeLine; omega, fun pn hpn => ?_⟩
            have n4 := Kp.new (bs := []) (HO.lst (tfs (deP qs) ++ (List.replicate (Int.toNat 2) [V.ref p]).flatten)) hpn
            have kA4 : Kp [bx] H A4 := k1.trans kA
            have hp0H : H p = none := by
              cases e : H p with
              | none => rfl
              | some o =>
                by_cases c : p ∈ [bx]
                · have : p = bx := by simpa using c
                  subst this
                  obtain ⟨_, _, _, e2, _⟩ := c2
                  rw [hp] at e2; cases e2
                · have := (((k1.trans (k09.mono (by simp))).trans a1).trans a2) _ _ c e
                  rw [hp] at this; cases this
            have hpnH : H pn = none := by
              cases e : H pn with
              | none => rfl
              | some o =>
                by_cases c : pn ∈ [bx]
                · have : pn = bx := by simpa using c
                  subst this
                  obtain ⟨_, _, _, e2, _⟩ := c2.kp n13
                  rw [hpn] at e2; cases e2
                · have := kA4 _ _ c e
                  rw [hpn] at this; cases this
            refine key _ _ ⟨pn, qs ++ [(p, .move p1 p2), (p, .move p1 p2)], u6, u7, rfl, kA4.trans (n4.mono (by simp)), zd.trans (by unfold deP tfs; rw [List.map_append, List.map_append]; rfl), hpnH, ⟨zi (kA _ _ (ndb _ hD) ht1) hpn, zi (kA _ _ (ndb _ hD2n) hf1) hpn⟩, fun qq hqq => ?_, by rw [List.length_append]; show qs.length + 2 <= _; omega, ((c2.kp n13).kp n4).mono (by omega), n4 _ _ (by simp) (kA _ _ (ndb _ hD) ht1), n4 _ _ (by simp) (kA _ _ (ndb _ hD2n) hf1)⟩
            rcases List.mem_append.mp hqq with y | y
            · exact ⟨(hqs qq y).1, n4 _ _ (by simp) (kA _ _ (ndb _ (hqs qq y).1) (hqs qq y).2.1), (hqs qq y).2.2⟩
            · have : qq = (p, .move p1 p2) := by
                rcases List.mem_cons.mp y with y | y
                · exact y
                · exact List.mem_singleton.mp y
              subst this
              exact ⟨hp0H, n4 _ _ (by simp) hpA4, _, DoE.move hw1 hw2⟩
      intro σ3 G6 I3
      subst hr0
      refine zx fun r hr0 => ?_
      suffices key : ∀ σ G, kd H bx rw_ row h N 4 D D2 σ G -> r { nx := fun x H' => Q V.non H', rt := Q } σ G by
        have I3' := I3
        obtain ⟨ps, qs, u6, u7, rfl, k1, hps, nps, ne, hqs, lqs, b1, ht1, hf1⟩ := I3
        walk_at "rd"
        cases h with
        | none => rw [if_neg (show ¬ ¬ cE none = V.non from not_not_intro rfl)]; exact key _ _ I3'.up
        | some v =>
          rw [if_pos (show ¬ cE (some v) = V.non from fun z => nomatch z)]
          refine ⟨Nat.zero_le _, fun p0 hp0 => ?_⟩
          have k0 := Kp.new (bs := []) (HO.lst []) hp0
          have ht0 := k0 _ _ (by simp) hf1
          refine ⟨_, SqL.of ht0, [], SqL.of zd, ?_⟩
          by_cases z : nI (frN row) = []
          · rw [if_neg (not_not_intro z)]
            exact key _ _ (I3'.kp k0).up
          · rw [if_pos z]
            have hl0 : 0 < (frN row).length := by
              rw [<- qa]
              exact List.length_pos_iff.mpr z
            have hps0 := k0 _ _ (by simp) hps
            have b0 := b1.kp k0
            generalize upd G6 p0 (HO.lst []) = G60 at *
            refine ⟨.inl ⟨rfl, _, SqL.of hps0⟩, _, .inl (SqL.of ht0), ?_⟩
            rw [List.length_map, qa]
            refine ⟨bx, _, _, rfl, b0, by omega, by omega, by omega, fun r1 A1 a1 c1 l1 v1 => ?_⟩
            have htA := a1 _ _ (ndb _ hD2n) ht0
            obtain ⟨p1, hp1, e1, g1⟩ := xq (xs := frN row) l1 v1
            have hw1 := ZW hp1
            refine ⟨_, _, rfl, SqL.of htA, _, g1, by show 2 <= sizeLine; omega, fun p hp => ?_⟩
            obtain ⟨f1, f2⟩ := xf (rw_ := rw_) (u6 := u6) (u7 := u7) (d := .lay p1) hb hD hD2n k1 hps nps ne hqs lqs ht1 hf1 ((k0.mono (by simp)).trans a1) (c1.mono (by omega)) hp (DoE.lay hw1)
            refine ⟨_, (Kp.new (bs := []) _ hp) _ _ (by simp) f1, by rw [qO, List.length_map]; omega, key _ _ f2⟩
      intro σ4 G7 I4
      obtain ⟨ps, qs, u6, u7, rfl, k1, hps, nps, ne, hqs, lqs, b1, ht1, hf1⟩ := I4
      subst hr0
      walk_at "rd"
      refine ⟨Nat.zero_le _, fun p0 hp0 => ?_⟩
      have k0 := Kp.new (bs := []) (HO.lst []) hp0
      have hps0 := k0 _ _ (by simp) hps
      have b0 := b1.kp k0
      refine ⟨_, SqL.of hps0, SqL.of zd, ?_⟩
      generalize upd G7 p0 (HO.lst []) = G70 at *
      cases qs with
      | nil =>
        rw [if_neg (show ¬ (tfs (deP [])).isEmpty = false from fun z => nomatch z)]
        exact (q _ (k1.trans (k0.mono (by simp))) (b0.mono (by omega))).1
      | cons qq qr =>
        rw [if_pos (show (tfs (deP (qq :: qr))).isEmpty = false from rfl)]
        have hlen : (tfs (deP (qq :: qr))).length = qr.length + 1 := by rw [qO, List.length_map]; rfl
        have lqs' : qr.length + 1 <= 8 := lqs
        refine ⟨_, .inl (SqL.of hps0), ?_⟩
        rw [hlen]
        refine ⟨bx, _, _, rfl, b0, by omega, by omega, by omega, fun r1 A1 a1 c1 l1 v1 => ?_⟩
        have hpsA := a1 _ _ (ndb _ nps) hps0
        have hr1 : r1.toNat < (qq :: qr).length := by show r1.toNat < qr.length + 1; omega
        have g : atI (tfs (deP (qq :: qr))) (r1.toNat : Int) = some (.ref ((qq :: qr)[r1.toNat]).1) := by
          refine qX ?_
          unfold tfs deP
          rw [List.getElem?_map, List.getElem?_map, List.getElem?_eq_getElem hr1]; rfl
        rw [show (r1.toNat : Int) = r1 by omega] at g
        obtain ⟨z1, z2, t, z3⟩ := hqs _ (List.getElem_mem hr1)
        refine ⟨_, _, rfl, SqL.of hpsA, _, g, ?_⟩
        exact (q _ ((k1.trans (k0.mono (by simp))).trans a1) (c1.mono (by omega))).2 _ _ t z1 (a1 _ _ (ndb _ z1) (k0 _ _ (by simp) z2)) z3
abbrev vD : Stmt := top 9
theorem wy : zN ["_law_box_here", "_law_n", "_law_many", "_law_turn", "_law_row", "_law_hand", "_law_plan_here", "_law_deed_here"] ["_law_box_here", "_law_n", "_law_many"] (zn vD) := ⟨rfl, rfl, rfl, by decide +kernel, rfl, by decide +kernel, by decide +kernel⟩
def Qs : Sp := fun vs H Q _ => ∃ (bx : Addr) (n N : Nat) (m : Int), vs = [.ref bx, .int n, .int m] /\ n <= 1000 /\ 0 <= m /\ m <= 100 /\ Bx H bx N /\ N < 1000000 /\
 ∀ p pq pr H' (qs : List (Addr × De)) (st : ES), Kp [bx] H H' -> Bx H' bx (N + 10 * m.toNat) -> H p = none -> H' p = some (.tup [.ref pq, .ref pr, cE st.2]) -> H' pq = some (.lst (tfs (deP qs))) -> H' pr = some (.lst (st.1.map cE)) -> H pq = none -> H pr = none -> pq ≠ pr ->
  (∀ q ∈ qs, H q.1 = none /\ H' q.1 = some (.tup (deV q.2))) -> qs.length <= m.toNat -> jw (qs.map (·.2)) ((ju 0 1 n).map some, none) st -> Q (.ref p) H'
theorem J8 (a : At K mg "_law_plan" vD) (B : Blt mg) (D_law_deed : Df P w K mg base "_law_deed" ["_law_box_here", "_law_row", "_law_hand"] 2 QD) (D_law_done : Df P w K mg base "_law_done" ["_law_row", "_law_hand", "_law_deed_here"] 2 QB) : Df P w K mg base "_law_plan" ["_law_box_here", "_law_n", "_law_many"] 3 Qs := by
 refine ka (k := 2) a wy (fun _ _ _ _ _ _ us hl => match us, hl with | [_, _, _], _ => rfl) (fun vs H Q E h => ?_) (fun f cdv A outer s H vs Q E hr h => ?_)
 ·obtain ⟨bx, n, N, m, rfl, _⟩ := h; rfl
 obtain ⟨bx, n, N, m, rfl, hn, hm0, hm1, hb, hN, q⟩ := h
 have sc := wy
 have hsl := hsl
 refine ⟨_, (zg (J1 (i := 4) (j := 5) (k := 6) rfl sc.nd rfl rfl rfl (by decide) (by decide) (by decide) rfl rfl rfl (za (zz (xo rfl) rfl B.list jr (za (zz vd rfl B.range ZI (za (pv 1) zb)) zb)) (za qz (za (zR zb) zb))) rfl)
  (zg (jE PassesOwn.never rfl (qN rfl B.range (za (pv 2) zb)) (zu (i := 3) sc.nd rfl (by first | exact Or.inl rfl | exact Or.inr rfl)) (zg (zM (i := 7) sc.nd rfl (by first | exact Or.inl rfl | exact Or.inr rfl) (zB D_law_deed hr rfl (za (pv 0) (za (pv 4) (za (pv 5) zb)))))
  (zm (qk (zD yh (pv 7) qz (zy _)) (zg (qV (xu PySem.F.plainAttrs_list PySem.F.slot_list_append PySem.F.type_list_append qw (pv 6) (za (pv 7) zb)))
  (zm (qU (zB D_law_done hr rfl (za (pv 4) (za (pv 5) (za (pv 7) zb)))) (qC (K := K) 2 rfl rfl (zF (zu (i := 4) sc.nd rfl (by first | exact Or.inl rfl | exact Or.inr rfl)) (zF (zu (i := 5) sc.nd rfl (by first | exact Or.inl rfl | exact Or.inr rfl)) qD)))))) zH))))
  (zm (zQ (zT (za (pv 6) (za (pv 4) (za (pv 5) zb)))))))), ?_⟩
 rw [show ql ["_law_box_here", "_law_n", "_law_many", "_law_turn", "_law_row", "_law_hand", "_law_plan_here", "_law_deed_here"] [V.ref bx, V.int n, V.int m] = [some (.ref bx), some (.int n), some (.int m), none, none, none, none, none] from rfl]
 walk_at "rd"
 refine fun g1 hg1 => ⟨_, _, _, zd, small_one (by omega) (by omega) (by omega) (by omega), n, by rw [rangeSize_one]; split <;> omega, by omega, fun pr0 hpr0 => ⟨Nat.zero_le _, fun pq hpq => ⟨by omega, by omega, ?_⟩⟩⟩
 have kA := (Kp.new (bs := []) (xT g1 0 (n : Int) 1) hg1).trans (Kp.new (HO.lst (List.map V.int (ju 0 1 n))) hpr0)
 have hprA := zd (H := upd H g1 (xT g1 0 (n : Int) 1)) (a := pr0) (o := HO.lst (List.map V.int (ju 0 1 n)))
 have npr0 : H pr0 = none := (Kp.new (bs := []) (xT g1 0 (n : Int) 1) hg1).free hpr0
 generalize upd (upd H g1 (xT g1 0 (n : Int) 1)) pr0 (HO.lst (List.map V.int (ju 0 1 n))) = H1 at *
 have kB := Kp.new (bs := []) (HO.lst []) hpq
 have hpqB := zd (H := H1) (a := pq) (o := HO.lst [])
 have npq : H pq = none := kA.free hpq
 have hprB := kB _ _ (by simp) hprA
 have neq : pq ≠ pr0 := Ne.symm (zi hprA hpq)
 have kAB := kA.trans kB
 generalize upd H1 pq (HO.lst []) = H2 at *
 have ndb : ∀ c, H c = none -> c ∉ [bx] := fun c hc => by simpa using Ne.symm (hb.ne hc)
 refine Je (fun i τ G => ∃ (u3 u7 : Option V) (pr : Addr) (st : ES) (qs : List (Addr × De)), τ = [some (.ref bx), some (.int n), some (.int m), u3, some (.ref pr), some (cE st.2), some (.ref pq), u7] /\ Kp [bx] H G /\ H pr = none /\ G pr = some (.lst (st.1.map cE)) /\ G pq = some (.lst (tfs (deP qs))) /\ (∀ q ∈ qs, H q.1 = none /\ G q.1 = some (.tup (deV q.2))) /\ pq ≠ pr /\ Bx G bx (N + 10 * i) /\ qs.length <= i /\ jw (qs.map (·.2)) ((ju 0 1 n).map some, none) st) ?_ ?_ ?_
 ·exact ⟨none, none, pr0, ((ju 0 1 n).map some, none), [], rfl, kAB.mono (by simp), npr0, hprB.trans (by rw [List.map_map]; rfl), hpqB, fun q hq => (nomatch hq), neq, hb.kp kAB, Nat.zero_le _, .nil⟩
 ·rintro i τ G hi ⟨u3, u7, pr, st, qs, rfl, kg, npr, hpr, hq, hqs, ne, bg, lqs, hdo⟩
  have hst := hdo.len
  rw [List.length_map, qA] at hst
  have hi' : i < 100 := by omega
  walk_at "rd"
  refine ⟨bx, pr, st.1, st.2, _, rfl, bg, by omega, hpr, by omega, fun G1 k1 b1 => ⟨?_, fun p d t hp hpd hde => ?_⟩⟩
  ·show (fun x H1 => _) _ _
   dsimp only
   rw [if_neg (not_not_intro rfl)]
   exact ⟨_, st, rfl, rfl, kg.trans k1, npr, k1 _ _ (ndb _ npr) hpr, qs, k1 _ _ (ndb _ npq) hq, fun y hy => ⟨(hqs y hy).1, k1 _ _ (ndb _ (hqs y hy).1) (hqs y hy).2⟩, ne, b1.mono (by omega), by omega, hdo⟩
  ·show (fun x H1 => _) _ _
   dsimp only
   rw [if_pos (fun z => nomatch z)]
   have hq1 := k1 _ _ (ndb _ npq) hq
   have hpr1 := k1 _ _ (ndb _ npr) hpr
   have np : p ≠ pq := fun z => by rw [z, hq1] at hpd; cases hpd
   have npH : H p = none := xV kg bg hp
   refine ⟨.inl ⟨rfl, _, SqL.of hq1⟩, _, hq1, by rw [qO, List.length_map]; omega, ?_⟩
   have kW : Kp [bx, pq] H (upd G1 pq (HO.lst (tfs (deP qs) ++ [V.ref p]))) := ((kg.trans k1).mono (by simp)).trans (Kp.set _ (by simp))
   have keep : ∀ c o, c ≠ pq -> G1 c = some o -> upd G1 pq (HO.lst (tfs (deP qs) ++ [V.ref p])) c = some o := fun c o hc hh => (zh hc).trans hh
   have kWb : Kp [bx] H (upd G1 pq (HO.lst (tfs (deP qs) ++ [V.ref p]))) := fun c o hc hh => keep _ _ (fun z => by rw [z, npq] at hh; cases hh) ((kg.trans k1) c o hc hh)
   have hqW := zd (H := G1) (a := pq) (o := HO.lst (tfs (deP qs) ++ [V.ref p]))
   have hprW := keep _ _ (Ne.symm ne) hpr1
   have hpW := keep _ _ np hpd
   have hqsW : ∀ y ∈ qs, H y.1 = none /\ upd G1 pq (HO.lst (tfs (deP qs) ++ [V.ref p])) y.1 = some (.tup (deV y.2)) := fun y hy => by
    have h1 := k1 _ _ (ndb _ (hqs y hy).1) (hqs y hy).2
    exact ⟨(hqs y hy).1, keep _ _ (fun z => by rw [z, hq1] at h1; cases h1) h1⟩
   have bW : Bx (upd G1 pq (HO.lst (tfs (deP qs) ++ [V.ref p]))) bx (N + 10 * i + 10) := b1.kps (Kp.set (bs := [pq]) _ (by simp)) (fun z => by have := ndb _ npq; rw [z] at this; simp at this)
   generalize upd G1 pq (HO.lst (tfs (deP qs) ++ [V.ref p])) = W at *
   refine ⟨pr, p, d, st, t, rfl, hprW, hpW, hde, by omega, fun tt pp W' kw ntt npp htt hpp => ?_⟩
   refine ⟨tt, rfl, _, SqT.of htt, rfl, _, _, rfl, _, _, rfl, rfl, _, pp, rfl, t, rfl, rfl, kWb.trans (kw.mono (by simp)), xV kWb bW npp, hpp, qs ++ [(p, d)], (kw _ _ (by simp) hqW).trans (by unfold deP tfs; rw [List.map_append, List.map_append]; rfl), fun y hy => ?_, Ne.symm (fun z => by rw [z, hqW] at npp; cases npp), (bW.kp kw).mono (by omega), by rw [List.length_append]; show qs.length + 1 <= _; omega, by rw [List.map_append]; exact hdo.append (.one hde)⟩
   rcases List.mem_append.mp hy with z | z
   ·exact ⟨(hqsW y z).1, kw _ _ (by simp) (hqsW y z).2⟩
   ·rw [List.mem_singleton.mp z]
    exact ⟨npH, kw _ _ (by simp) hpW⟩
 ·rintro τ G ⟨u3, u7, pr, st, qs, rfl, kg, npr, hpr, hq, hqs, ne, bg, lqs, hdo⟩
  walk_at "rd"
  refine ⟨by show 3 <= sizeLine; omega, fun p hp => ?_⟩
  have kn := Kp.new (bs := []) (HO.tup [V.ref pq, V.ref pr, cE st.2]) hp
  have npH : H p = none := xV kg bg hp
  exact q p pq pr _ qs st (kg.trans (kn.mono (by simp))) (bg.kp kn) npH zd (kn _ _ (by simp) hq) (kn _ _ (by simp) hpr) npq npr ne (fun y hy => ⟨(hqs y hy).1, kn _ _ (by simp) (hqs y hy).2⟩) lqs hdo
def KS : ASp := fun xs M Q => ∃ (b : Addr) (many : Int) (N : Nat), xs = [.ref b, .d (.int many)] /\ BxM M b N /\ N < 1000000000 /\ 0 < many /\ many < 1073741824 /\ ∀ r M', BxS M M' b (N + 1) -> 0 <= r -> r < many -> Q (.d (.int r)) M'
theorem Kv (vs : List V) (H : Hp) (Q : VK) (E : XK) (h : cSp KS vs H Q E) : vn vs H Q E := by
 obtain ⟨xs, M, O, Q', w, r, ⟨b, many, N, rfl, hb, h1, h2, h3, q⟩, k⟩ := h
 obtain ⟨v, u, rfl, rv, ru⟩ := jZ r
 rw [zK ru, rv.1]
 refine ⟨b, many, N, rfl, hb.bx w, h1, h2, h3, fun r H' kp hb' r0 r1 => ?_⟩
 obtain ⟨M', s, e, w'⟩ := Q0 w hb kp hb'
 exact k _ _ _ _ _ (q r M' s r0 r1) e w' .int
def Va : ASp := fun xs M Q => ∃ (x : AV) (k : Int) (cs : List Int), xs = [x, .d (.int k)] /\ zU x M = some (cs.map fun i => .d (.int i)) /\ 0 <= k /\ k <= 1000 /\ cs.length <= 1000 /\ ∀ p o, M p = none -> BxM (mup M p o) p 0 -> Q (.ref p) (mup M p o)
theorem YC (vs : List V) (H : Hp) (Q : VK) (E : XK) (h : cSp Va vs H Q E) : K7 vs H Q E := by
 obtain ⟨xs, M, O, Q', w, r, ⟨x, n, cs, rfl, hx, h1, h2, h3, q⟩, k⟩ := h
 obtain ⟨v, u, rfl, rv, ru⟩ := jZ r
 rw [zK ru]
 obtain ⟨a, rfl, ha⟩ := Qn w rv hx
 refine ⟨a, n, cs, rfl, ha, h1, h2, h3, fun p H' kp hp hb' => ?_⟩
 obtain ⟨x', y', z', g1, g2⟩ := hb'
 obtain ⟨e1, w1⟩ := Qb w kp
 have fr := w.fresh hp
 have e2 := Ext.owned (O' := wZ O p) (p := p) w ⟨fun a o h e => ⟨(e1.fix a o h e).1, fun z => z.elim (zi e hp) h⟩, fun a h e => ⟨(e1.prv a h e).1, .inr h, e⟩, fun _ h => h⟩ hp (.lst ([x', y', z'].map fun i => .d (.int i)))
 refine k _ _ _ _ _ (q p _ fr.2 ⟨x', y', z', zj, g2⟩) e2 (yQ (O := wZ O p) (xs := [V.int x', V.int y', V.int z']) ⟨fun a o h => ?_, fun a h => .inr (w1.own a h), fun a h => ?_⟩ (.inl rfl) fr.2 g1 (Ji [x', y', z'])) ⟨rfl, by rw [zj]; exact fun z => nomatch z⟩
 ·have e3 : Ext H O M H' (wZ O p) M := ⟨fun a o h e => ⟨(e1.fix a o h e).1, fun z => z.elim (zi e hp) h⟩, fun a h e => ⟨(e1.prv a h e).1, .inr h, e⟩, fun _ h => h⟩
  refine qu.ext e3 ?_ (w.mo a o h)
  obtain ⟨u, hu, _⟩ := w.al a (w.own a (jt h))
  rw [hu]; exact kp a u (by simp) hu
 ·rcases h with rfl | h
  ·exact ⟨_, g1, fun xs z => nomatch z⟩
  ·exact w1.al a h
def v9 (K : PySem.W.Frag) : ASp := fun xs M Q => ∃ (m : Int) (ns : List Int), xs = [.d (.scr K ns), .d (.int m)] /\ 0 < m /\ m <= 60 /\ ns.length <= 63 /\ ∀ cs : List Int, cs.length <= 1000 -> Q (.d (.lst (cs.map .int))) M
theorem Zj (vs : List V) (H : Hp) (Q : VK) (E : XK) (h : cSp (v9 K) vs H Q E) : yx K vs H Q E := by
 obtain ⟨xs, M, O, Q', w, r, ⟨m, ns, rfl, h1, h2, h3, q⟩, k⟩ := h
 obtain ⟨v, u, rfl, rv, ru⟩ := jZ r
 rw [zK ru]
 obtain ⟨a, rfl, ha⟩ := JS rv
 refine ⟨a, m, ns, rfl, ha, h1, h2, h3, fun p H' cs kp hp hc lc => ?_⟩
 obtain ⟨e1, w1⟩ := Qb w kp
 exact k _ _ _ _ _ (q cs lc) e1 w1 (Jq (w.fresh hp).1 hc)
def deD : De -> Dat
 | .swap a b => .tup [.str (Str.ofString "swap"), .int (a : Int), .int (b : Int)]
 | .take p => .tup [.str (Str.ofString "take"), .int (p : Int)]
 | .move p g => .tup [.str (Str.ofString "move"), .int (p : Int), .int (g : Int)]
 | .lay g => .tup [.str (Str.ofString "lay"), .int (g : Int)]
def cD : Option Int -> Dat
 | none => .non
 | some x => .int x
theorem Jh {H : Hp} {O : Own} (c : Option Int) : Rep H O (cE c) (cD c) := by cases c; exact .non; exact .int
theorem qM {H : Hp} {O : Own} {p : Addr} {xs : List V} {l : List Dat} (ho : ¬ O p) (h : H p = some (.tup xs)) (r : ze H O (fun _ => none) xs (l.map .d)) : Rep H O (.ref p) (.tup l) := Rep.tup ho h r.pure.1 r.pure.2
def K2 : ASp := fun xs M Q => ∃ (b : Addr) (n N : Nat) (m : Int), xs = [.ref b, .d (.int n), .d (.int m)] /\ n <= 1000 /\ 0 <= m /\ m <= 100 /\ BxM M b N /\ N < 1000000 /\
 ∀ M' (ds : List De) (st : ES), BxS M M' b (N + 10 * m.toNat) -> ds.length <= m.toNat -> jw ds ((ju 0 1 n).map some, none) st -> Q (.d (.tup [.lst (ds.map deD), .lst (st.1.map cD), cD st.2])) M'
theorem KC {H : Hp} {O : Own} {p : Addr} {d : De} (ho : ¬ O p) (h : H p = some (.tup (deV d))) : Rep H O (.ref p) (deD d) := by
 cases d
 ·exact qM ho h (.cons .str (.cons .int (.cons .int .nil)))
 ·exact qM ho h (.cons .str (.cons .int .nil))
 ·exact qM ho h (.cons .str (.cons .int (.cons .int .nil)))
 ·exact qM ho h (.cons .str (.cons .int .nil))
theorem Kc (vs : List V) (H : Hp) (Q : VK) (E : XK) (h : cSp K2 vs H Q E) : Qs vs H Q E := by
 obtain ⟨xs, M, O, Q', w, r, ⟨b, n, N, m, rfl, hn, hm0, hm1, hb, hN, q⟩, k⟩ := h
 obtain ⟨v, r', rfl, rv, r1⟩ := r.cons_inv
 obtain ⟨v2, r', rfl, rv2, r2⟩ := r1.cons_inv
 obtain ⟨v3, r', rfl, rv3, r3⟩ := r2.cons_inv
 rw [r3.nil_inv, zK rv2, zK rv3, rv.1]
 refine ⟨b, n, N, m, rfl, hn, hm0, hm1, hb.bx w, hN, fun p pq pr H' qs st kp hb' hp hpt hpq hpr nq nr _ hqs lq hdo => ?_⟩
 obtain ⟨M', s, e, w'⟩ := Q0 w hb kp hb'
 have q := q M' (qs.map (·.2)) st s (by rw [List.length_map]; exact lq) hdo
 refine k _ _ _ _ _ q e w' (qM (w'.tup hpt) hpt (.cons ?_ (.cons ?_ (.cons (Jh _) .nil))))
 ·refine Rep.lst (w.fresh nq).1 hpq (by simp [tfs, deP]) fun i x d i1 i2 => ?_
  unfold tfs deP at i1
  rw [List.getElem?_map, List.getElem?_map] at i1 i2
  cases e : qs[i]? with
  | none => rw [e] at i1; cases i1
  | some c =>
   rw [e] at i1 i2; cases i1; cases i2
   exact KC (w.fresh (hqs c (List.mem_of_getElem? e)).1).1 (hqs c (List.mem_of_getElem? e)).2
 ·refine Rep.lst (w.fresh nr).1 hpr (by simp) fun i x d i1 i2 => ?_
  rw [List.getElem?_map] at i1 i2
  cases e : st.1[i]? with
  | none => rw [e] at i1; cases i1
  | some c => rw [e] at i1 i2; cases i1; cases i2; exact Jh c
abbrev DI := Str × List Int
def dI (q : DI) : Dat := .tup (.str q.1 :: q.2.map .int)
def deI : De -> DI
 | .swap a b => (Str.ofString "swap", [(a : Int), (b : Int)])
 | .take p => (Str.ofString "take", [(p : Int)])
 | .move p g => (Str.ofString "move", [(p : Int), (g : Int)])
 | .lay g => (Str.ofString "lay", [(g : Int)])
theorem kC (d : De) : deD d = dI (deI d) := by cases d <;> rfl
def j4 (l : List Dat) : List Int := l.filterMap fun d => match d with | .int i => some i | _ => none
theorem y8 (l : List Int) : j4 (l.map .int) = l := by
 unfold j4
 rw [List.filterMap_map]
 exact List.filterMap_some
def diA : AV -> DI
 | .d (.tup (.str w :: r)) => (w, j4 r)
 | _ => (Str.ofString "", [])
theorem jD (q : DI) : diA (.d (dI q)) = q := by
 show (q.1, j4 (q.2.map .int)) = q
 rw [y8]
def ZO (k : Int) : AV -> AV
 | .d (.int i) => .d (.int (i + k))
 | x => x
theorem jT (k : Int) (l : List Int) : (l.map fun i => AV.d (.int i)).map (ZO k) = (l.map (· + k)).map fun i => AV.d (.int i) := by
 rw [List.map_map, List.map_map]; rfl
def shI (k : Int) (q : DI) : DI := (q.1, q.2.map (· + k))
abbrev kL : Stmt := top 1
theorem xF : zN ["plans", "plan", "deed"] ["plans"] (zn kL) := ⟨rfl, rfl, rfl, by decide +kernel, rfl, by decide +kernel, by decide +kernel⟩
def sqD : Dat -> Option (List Dat)
 | .lst l => some l
 | .tup l => some l
 | _ => none
theorem xM {d : Dat} {l : List Dat} (h : sqD d = some l) (M : MH) : qF (.d d) M = some (l.map .d) := by
 cases d <;> cases h
 ·exact qH _ _
 ·exact jh _ _
def xm : ASp := fun xs M Q => ∃ (x : AV) (ps : List Dat) (ls : List (List Dat)), xs = [x] /\ qF x M = some (ps.map .d) /\ ps.map sqD = ls.map some /\ ls.length <= 100 /\ (∀ l ∈ ls, l.length <= 1000) /\ ∀ p, M p = none -> Q (.ref p) (mup M p (.lst (ls.flatten.map .d)))
theorem vp (a : At K mg "joined" kL) (B : Blt mg) : Df P w K mg base "joined" ["plans"] 1 (cSp xm) := by
 refine dfA (k := 0) a xF (fun _ _ _ _ _ _ us hl => match us, hl with | [_], _ => rfl) (fun xs M Q h => ?_) (fun f cdv A outer s H E hr => ?_)
 ·obtain ⟨_, _, _, rfl, _⟩ := h; rfl
 have sc := xF
 have hsl := hsl
 refine ⟨_, (zm (zQ (vM (QX (ts := [1, 2]) rfl rfl (jA (pv 0)) (fun _ _ _ _ => (zu (i := 1) sc.nd rfl (by first | exact Or.inl rfl | exact Or.inr rfl))) (fun _ _ _ _ => qb) (fun _ _ _ _ _ => (Kk rfl rfl (by intro _ e; cases e <;> rfl) (ya (K := K) rfl (pv 1)) (fun _ => rfl) (zu (i := 2) sc.nd rfl (by first | exact Or.inl rfl | exact Or.inr rfl)) qb (KF rfl (pv 2) (fun _ _ z => z)) (fun _ _ z => z))))))), ?_⟩
 refine ex2 (by walk_at "sim") ?_
 rintro xs M Q ⟨x, ps, ls, rfl, hx, hls, hl1, hl2, q⟩
 rw [show jF ["plans", "plan", "deed"] [x] = [some x, none, none] from rfl]
 walk_at "ra"
 refine ⟨_, hx, ?_⟩
 have hps : ∀ (i : Nat) d, ps[i]? = some d -> ∃ l, ls[i]? = some l /\ sqD d = some l := fun i d e => by
  have := congrArg (fun z : List (Option (List Dat)) => z[i]?) hls
  simp only [List.getElem?_map, e] at this
  cases e2 : ls[i]? with
  | none => rw [e2] at this; cases this
  | some l => rw [e2] at this; exact ⟨l, rfl, by simpa using this⟩
 have hpl : ps.length = ls.length := by have := congrArg List.length hls; simpa using this
 have hfl : ∀ i, ((ls.take i).flatten).length <= 1000 * i := fun i => by
  induction i with
  | zero => simp
  | succ i ih =>
   cases e : ls[i]? with
   | none => rw [List.take_add_one, e]; simp only [Option.toList_none, List.append_nil]; omega
   | some l =>
    have := hl2 l (List.mem_of_getElem? e)
    rw [List.take_add_one, e, List.flatten_append, List.length_append]
    simp only [Option.toList_some, List.flatten_cons, List.flatten_nil, List.append_nil]
    omega
 refine ⟨fun i acc ρ M' => M = M' /\ (∃ u v, ρ = [some x, u, v]) /\ acc = ((ls.take i).flatten).map .d, ⟨rfl, ⟨_, _, rfl⟩, rfl⟩, ?_, ?_⟩
 ·rintro i y acc ρ M' hy ⟨rfl, ⟨u, v, rfl⟩, rfl⟩
  rw [List.getElem?_map] at hy
  cases e : ps[i]? with
  | none => rw [e] at hy; cases hy
  | some d =>
   rw [e] at hy; cases hy
   obtain ⟨l, hl, hs⟩ := hps i d e
   have hll := hl2 l (List.mem_of_getElem? hl)
   have hi : i < 100 := by have := (List.getElem?_eq_some_iff.mp hl).1; omega
   have hf := hfl i
   refine ⟨hx, ?_⟩
   walk_at "ra"
   refine ⟨_, xM hs M, ?_⟩
   refine ⟨fun j acc ρ M' => M = M' /\ (∃ v, ρ = [some x, some (.d d), v]) /\ acc = ((ls.take i).flatten ++ l.take j).map .d, ⟨rfl, ⟨_, rfl⟩, by simp⟩, ?_, ?_⟩
   ·rintro j z acc ρ M' hz ⟨rfl, ⟨v, rfl⟩, rfl⟩
    rw [List.getElem?_map] at hz
    cases e3 : l[j]? with
    | none => rw [e3] at hz; cases hz
    | some c =>
     rw [e3] at hz; cases hz
     refine ⟨xM hs M, ?_⟩
     walk_at "ra"
     have hj := (List.getElem?_eq_some_iff.mp e3).1
     refine ⟨?_, ⟨_, rfl⟩, ?_⟩
     ·rw [List.length_append, List.length_take]; omega
     ·rw [List.take_add_one, e3, <- List.append_assoc, List.map_append (l₂ := (some c).toList)]; rfl
   ·rintro acc ρ M' ⟨rfl, ⟨v, rfl⟩, rfl⟩
    refine ⟨xM hs M, rfl, ⟨_, _, rfl⟩, ?_⟩
    rw [List.length_map, List.take_length, List.take_add_one, hl, List.flatten_append]
    simp
 ·rintro acc ρ M' ⟨rfl, ⟨u, v, rfl⟩, rfl⟩
  refine ⟨hx, fun p hp _ => ?_⟩
  rw [List.length_map, hpl, List.take_length]
  exact ⟨_, _, wJ (Fr.refl.mup hp _) hp zj (zA _), q p hp⟩
abbrev j5 : Stmt := top 2
theorem xi : zN ["plan", "by", "deed", "place"] ["plan", "by"] (zn j5) := ⟨rfl, rfl, rfl, by decide +kernel, rfl, by decide +kernel, by decide +kernel⟩
def jS : ASp := fun xs M Q => ∃ (x : AV) (k : Int) (l : List DI), xs = [x, .d (.int k)] /\ qF x M = some ((l.map dI).map .d) /\ l.length <= 10000 /\ (∀ q ∈ l, q.2.length <= 10) /\ ∀ p, M p = none -> Q (.ref p) (mup M p (.lst (((l.map (shI k)).map dI).map .d)))
theorem yD (a : At K mg "shifted" j5) (B : Blt mg) : Df P w K mg base "shifted" ["plan", "by"] 1 (cSp jS) := by
  refine dfA (k := 0) a xi (fun _ _ _ _ _ _ us hl => match us, hl with | [_, _], _ => rfl) (fun xs M Q h => ?_) (fun f cdv A outer s H E hr => ?_)
  · obtain ⟨_, _, _, rfl, _⟩ := h; rfl
  have sc := xi
  have hsl := hsl
  refine ⟨_, (zm (zQ (vM (qW (ts := [2]) rfl rfl (jA (pv 0)) (fun _ _ _ _ => (zu (i := 2) sc.nd rfl (by first | exact Or.inl rfl | exact Or.inr rfl))) (fun _ _ _ _ => qb) (fun _ _ _ _ => (zo (kP (K := K) rfl) (zT (za (zq (vk (K := K) rfl) (pv 2) zc (fun _ _ => rfl)) zb)) (zz (z0 (K := K) rfl) rfl B.tuple qe (za (qW (ts := [3]) rfl rfl (ya (K := K) rfl (jd (yf (K := K) rfl) (pv 2) (js zc) kj)) (fun _ _ _ _ => (zu (i := 3) sc.nd rfl (by first | exact Or.inl rfl | exact Or.inr rfl))) (fun _ _ _ _ => qb) (fun _ _ _ _ => (zo zY (pv 3) (pv 1)))) zb)))))))), ?_⟩
  refine ex2 (by walk_at "sim") ?_
  rintro xs M Q ⟨x, k, l, rfl, hx, hl1, hl2, q⟩
  rw [show jF ["plan", "by", "deed", "place"] [x, .d (.int k)] = [some x, some (.d (.int k)), none, none] from rfl]
  walk_at "ra"
  refine ⟨_, hx, ?_⟩
  refine qS (fun (o : Option AV × Option AV) => [some x, some (.d (.int k)), o.1, o.2]) (fun y => .d (dI (shI k (diA y)))) ⟨(none, none), rfl⟩ hx (by rw [List.length_map, List.length_map]; omega) (fun o y Q hy q => ?_) fun o p hp _ => ?_
  · rw [List.map_map] at hy
    obtain ⟨c, hc, rfl⟩ := List.mem_map.mp hy
    have q := q (some (.d (dI c)), o.2)
    rw [show (AV.d ∘ dI) c = .d (dI c) from rfl, jD] at q
    have hcl := hl2 c hc
    show qt 2 (AV.d (dI c)) _ _ _
    walk_at "ra"
    refine ⟨_, jh _ _, .d (.str c.1), qX (xs := (Dat.str c.1 :: c.2.map Dat.int).map AV.d) (j := 0) rfl, by omega, [.str c.1], rfl, _, rfl, fun z => ?_, ?_⟩
    · rw [show (1 : Int) = ((1 : Nat) : Int) from rfl, HT.sIx_nat] at z
      have z := z.1
      simp at z
    have hc1 : kR (Dat.str c.1 :: c.2.map Dat.int) (some 1) none = c.2.map Dat.int := jV (Dat.str c.1 :: c.2.map Dat.int) 1
    rw [hc1, List.map_map]
    refine qS (fun o => [some x, some (.d (.int k)), some (.d (dI c)), o]) (ZO k) ⟨_, rfl⟩ trivial (by rw [List.length_map]; omega) (fun o y Q hy q => ?_) fun o => ?_
    · obtain ⟨i, hi, rfl⟩ := List.mem_map.mp hy
      show qt 3 (AV.d (.int i)) _ _ _
      walk_at "ra"
      exact q (some (.d (.int i)))
    · rw [show c.2.map (AV.d ∘ Dat.int) = c.2.map fun i => AV.d (.int i) from rfl, jT, jM]
      exact ⟨_, rfl, by simp, by simp; omega, q⟩
  · rw [show ((l.map dI).map AV.d).map (fun y => AV.d (dI (shI k (diA y)))) = ((l.map (shI k)).map dI).map .d by
      simp only [List.map_map]
      exact List.map_congr_left fun c _ => by show AV.d (dI (shI k (diA (.d (dI c))))) = _; rw [jD]; rfl]
    exact ⟨_, _, wJ (Fr.refl.mup hp _) hp zj (zA _), q p hp⟩
def wa : ASp := fun xs M Q => ∃ (x : AV) (ps : List Dat) (ls : List (List Dat)), xs = [x] /\ qF x M = some (ps.map .d) /\ ps.map sqD = ls.map some /\ ls.length <= 100 /\ (∀ l ∈ ls, l.length <= 1000) /\ Q (.d (.lst ls.flatten)) M
theorem Zq (vs : List V) (H : Hp) (Q : VK) (E : XK) : cSp wa vs H Q E -> cSp xm vs H Q E := wF (fun xs M Q ⟨x, ps, ls, e, h1, h2, h3, h4, q⟩ => ⟨x, ps, ls, e, h1, h2, h3, h4, fun p hp => ⟨_, _, wd (Fr.refl.mup hp _) hp zj (zA _), q⟩⟩) vs H Q E
def yH : ASp := fun xs M Q => ∃ (x : AV) (k : Int) (l : List DI), xs = [x, .d (.int k)] /\ qF x M = some ((l.map dI).map .d) /\ l.length <= 10000 /\ (∀ q ∈ l, q.2.length <= 10) /\ Q (.d (.lst ((l.map (shI k)).map dI))) M
theorem vV (vs : List V) (H : Hp) (Q : VK) (E : XK) : cSp yH vs H Q E -> cSp jS vs H Q E := wF (fun xs M Q ⟨x, k, l, e, h1, h2, h3, q⟩ => ⟨x, k, l, e, h1, h2, h3, fun p hp => ⟨_, _, wd (Fr.refl.mup hp _) hp zj (zA _), q⟩⟩) vs H Q E
abbrev kU : Stmt := top 10
theorem xP : zN ["_law_found", "_law_due", "_law_one", "_law_other"] ["_law_found", "_law_due"] (zn kU) := ⟨rfl, rfl, rfl, by decide +kernel, rfl, by decide +kernel, by decide +kernel⟩
def xy (n : Nat) : ASp := fun xs M Q => ∃ (x y : AV) (d : Dat), xs = [x, y] /\ jI x M = some d /\ jI y M = some d /\ qm n d /\ n <= 30 /\ Q (.d (.bl true)) M
def aNo : ASp := fun _ _ _ => False
theorem yI {x y : AV} {M : MH} {l : List Dat} {n : Nat} {sp : ASp} (hsp : ∀ xs M Q, xy n xs M Q -> sp xs M Q) {N : List AV -> ASt -> MH -> Prop} (hl : l.length <= 100000) (hd : ∀ d ∈ l, qm n d) (hn : n <= 30) {u v : Option AV} (hN : N (l.map fun _ => AV.d (.bl true)) [] M) (hN' : ∀ acc ρ ρ' M, N acc ρ M -> N acc ρ' M) :
  Js (Jr 2 (xX (qt 2) (xX (qt 3) ZJ))) wz (xx (ZU sp (vY (JZ 2) (vY (JZ 3) Yp)))) (fun M' => zU x M' = zU x M /\ zU y M' = zU y M) N (yi l l) [] [some x, some y, u, v] M := by
 have e : (yi l l).map (fun _ => AV.d (.bl true)) = l.map fun _ => AV.d (.bl true) := by
  rw [List.map_const', List.map_const', jl, Nat.min_self]
 refine qS (fun (o : Option AV × Option AV) => [some x, some y, o.1, o.2]) (fun _ => .d (.bl true)) ⟨(u, v), rfl⟩ ⟨rfl, rfl⟩ (by rw [jl, Nat.min_self]; exact hl) (fun o z Q hz q => ?_) fun o => by rw [e]; exact hN' _ _ _ _ hN
 obtain ⟨i, hi⟩ := List.getElem?_of_mem hz
 obtain ⟨d, d', h1, h2, rfl⟩ := kQ hi
 rw [h1] at h2; cases h2
 walk_at "ra"
 exact hsp _ _ _ ⟨_, _, d, rfl, rfl, rfl, hd d (List.mem_of_getElem? h1), hn, q (some (.d d), some (.d d))⟩
theorem yU {l : List Dat} : ∃ bs : List Bool, (l.map fun _ => Dat.bl true) = bs.map Dat.bl /\ (l.map fun _ => AV.d (Dat.bl true)) = bs.map (fun b => AV.d (.bl b)) /\ bs.all id = true := ⟨l.map fun _ => true, by rw [List.map_map]; rfl, by rw [List.map_map]; rfl, by simp⟩
theorem Vk (a : At K mg "_law_same" kU) : Df P w K mg base "_law_same" ["_law_found", "_law_due"] 1 (cSp aNo) :=
 ka (k := 0) a xP (fun _ _ _ _ _ _ us hl => match us, hl with | [_, _], _ => rfl) (fun vs H Q E h => by obtain ⟨_, _, _, _, _, _, h, _⟩ := h; exact h.elim) (fun f cdv A outer s H vs Q E hr h => by obtain ⟨_, _, _, _, _, _, h, _⟩ := h; exact h.elim)
theorem wL (a : At K mg "_law_same" kU) (B : Blt mg) (Ball : mg "all" = none) {kk : Nat} (n : Nat) {sp : ASp} (hsp : ∀ xs M Q, 1 <= n -> xy (n - 1) xs M Q -> sp xs M Q) (D_law_same : Df P w K mg base "_law_same" ["_law_found", "_law_due"] kk (cSp sp)) : Df P w K mg base "_law_same" ["_law_found", "_law_due"] (kk + 1) (cSp (xy n)) := by
 refine dfA (k := kk) a xP (fun _ _ _ _ _ _ us hl => match us, hl with | [_, _], _ => rfl) (fun xs M Q h => ?_) (fun f cdv A outer s H E hr => ?_)
 ·obtain ⟨_, _, _, rfl, _⟩ := h; rfl
 have sc := xP
 have hsl := hsl
 have hs2 : 0 + 1 + 1 <= sizeLine := by omega
 refine ⟨_, (zg (qk (jn (zl Zi rfl B.isinstance zv (za (pv 1) (za (zT (za (zW (v := .ty "list") rfl B.list jr rfl) (za (zW (v := .ty "tuple") rfl B.tuple qe rfl) zb))) zb))) (fun _ => rfl)) (zg (qk (PW.pt (ve (zD (vJ hr.units) (zl zV rfl B.isinstance zv (za (pv 0) (za (zW (v := .ty "list") rfl B.list jr rfl) zb))) (zl zV rfl B.isinstance zv (za (pv 1) (za (zW (v := .ty "list") rfl B.list jr rfl) zb))) (zy _)) (xg (zD (vJ hr.units) (zl zV rfl B.isinstance zv (za (pv 0) (za (zW (v := .ty "tuple") rfl B.tuple qe rfl) zb))) (zl zV rfl B.isinstance zv (za (pv 1) (za (zW (v := .ty "tuple") rfl B.tuple qe rfl) zb))) (zy _))))) (zm (zQ yB)) zH)
  (zm (zQ (xW (qi (qR hr.units) (zl zr rfl B.len qg (za (pv 0) zb)) (zl zr rfl B.len qg (za (pv 1) zb)) (zy _)) (vC (zl (Zy rfl) rfl Ball Yi (za (qW (ts := [2, 3]) rfl rfl (Qy rfl B.zip (za (pv 0) (za (pv 1) zb))) (fun _ _ _ _ => (qC (K := K) 2 rfl rfl (zF (zu (i := 2) sc.nd rfl (by first | exact Or.inl rfl | exact Or.inr rfl)) (zF (zu (i := 3) sc.nd rfl (by first | exact Or.inl rfl | exact Or.inr rfl)) qD)))) (fun _ _ _ _ => qb) (fun _ _ _ _ => (zB D_law_same hr rfl (za (pv 2) (za (pv 3) zb))))) zb))))))) zH)
  (zg (qk (PW.pt (ve (zD vA (pv 1) qz (zy _)) (xg (jn (zl zV rfl B.isinstance zv (za (pv 1) (za (zW (v := .ty "str") rfl B.str kG rfl) zb))) (fun _ => rfl))))) (zm (zQ (xW (qi (qR hr.units) (pv 0) (pv 1) (zy _)) (vC (qi (qR hr.units) (zl zV rfl B.isinstance zv (za (pv 0) (za (zW (v := .ty "str") rfl B.str kG rfl) zb))) (zl zV rfl B.isinstance zv (za (pv 1) (za (zW (v := .ty "str") rfl B.str kG rfl) zb))) (zy _)))))) zH)
  (zm (zQ (xW (zl zV rfl B.isinstance zv (za (pv 0) (za (zW (v := .ty "int") rfl B.int xl rfl) zb))) (xW (qi (qR hr.units) (zl zV rfl B.isinstance zv (za (pv 0) (za (zW (v := .ty "bool") rfl B.bool wx rfl) zb))) (zl zV rfl B.isinstance zv (za (pv 1) (za (zW (v := .ty "bool") rfl B.bool wx rfl) zb))) (zy _)) (vC (qi (qR hr.units) (pv 0) (pv 1) (zy _))))))))), ?_⟩
 refine ex2 (by walk_at "sim") ?_
 rintro xs M Q ⟨x, y, d, rfl, hx, hy, hd, hn, q⟩
 rw [show jF ["_law_found", "_law_due", "_law_one", "_law_other"] [x, y] = [some x, some y, none, none] from rfl]
 have fin := K8 (M0 := M) Fr.refl (.bl true)
 cases d with
 | non => obtain rfl := zP hx (fun _ z => nomatch z); obtain rfl := zP hy (fun _ z => nomatch z); walk_at "ra"; exact ⟨hs2, _, _, fin, q⟩
 | bl b => obtain rfl := zP hx (fun _ z => nomatch z); obtain rfl := zP hy (fun _ z => nomatch z); walk_at "ra"; exact ⟨hs2, _, _, fin, q⟩
 | int i => obtain rfl := zP hx (fun _ z => nomatch z); obtain rfl := zP hy (fun _ z => nomatch z); walk_at "ra"; exact ⟨hs2, _, _, fin, q⟩
 | str i => obtain rfl := zP hx (fun _ z => nomatch z); obtain rfl := zP hy (fun _ z => nomatch z); walk_at "ra"; exact ⟨hs2, _, _, fin, q⟩
 | tup l =>
  obtain rfl := zP hx (fun _ z => nomatch z)
  obtain rfl := zP hy (fun _ z => nomatch z)
  cases n with
  | zero => exact hd.no_t.elim
  | succ n =>
   obtain ⟨hl, hd'⟩ := hd.tup
   walk_at "ra"
   refine ⟨hs2, l, l, .inr ⟨rfl, rfl, Nat.le_refl _⟩, yI (n := n) (sp := sp) (fun xs M Q h => hsp xs M Q (by omega) h) hl hd' (by omega) ?_ (fun _ _ _ _ z => z)⟩
   obtain ⟨bs, b1, b2, b3⟩ := yU (l := l)
   refine ⟨l.map fun _ => .bl true, ?_, bs, by rw [List.map_map]; exact b2, ?_⟩
   ·rw [<- zA (l.map fun _ => Dat.bl true), List.map_map]; rfl
   ·rw [b3]; exact ⟨_, _, fin, q⟩
 | lst l =>
  obtain ⟨x1, x2, x3, x4⟩ := yJ hx
  obtain ⟨y1, y2, y3, y4⟩ := yJ hy
  cases n with
  | zero => exact hd.no_l.elim
  | succ n =>
   obtain ⟨hl, hd'⟩ := hd.lst
   walk_at "ra"
   simp only [x2, x3, x4, y2, y3, y4]
   walk_at "ra"
   refine ⟨hs2, l, l, .inl ⟨x1, y1⟩, yI (n := n) (sp := sp) (fun xs M Q h => hsp xs M Q (by omega) h) hl hd' (by omega) ?_ (fun _ _ _ _ z => z)⟩
   obtain ⟨bs, b1, b2, b3⟩ := yU (l := l)
   refine ⟨l.map fun _ => .bl true, ?_, bs, by rw [List.map_map]; exact b2, ?_⟩
   ·rw [<- zA (l.map fun _ => Dat.bl true), List.map_map]; rfl
   ·rw [b3]; exact ⟨_, _, fin, q⟩
 | ty t => have := hd.1; rw [dp] at this; omega
 | rng _ _ _ => have := hd.1; rw [dp] at this; omega
 | scr _ _ => have := hd.1; rw [dp] at this; omega
theorem yY (a : At K mg "_law_same" kU) (B : Blt mg) (Ball : mg "all" = none) : ∀ n, Df P w K mg base "_law_same" ["_law_found", "_law_due"] (n + 2) (cSp (xy n))
 | 0 => wL a B Ball 0 (sp := aNo) (fun _ _ _ h => absurd h (by omega)) (Vk a)
 | n + 1 => wL a B Ball (n + 1) (sp := xy n) (fun _ _ _ _ h => h) (yY a B Ball n)
abbrev ZM : Stmt := top 11
theorem Ja : zN ["_law_script", "_law_k", "_law_box_here", "_law_some", "_law_turn", "_law_whole", "_law_plan_here", "_law_by", "_law_due", "_law_kept", "_law_handed", "_law_less", "_law_found", "_law_deed_here", "_law_place"] ["_law_script"] (zn ZM) := ⟨rfl, rfl, rfl, by decide +kernel, rfl, by decide +kernel, by decide +kernel⟩
def wB (K : PySem.W.Frag) : Sp := fun vs H Q _ => ∃ (a : Addr) (ns : List Int), vs = [.ref a] /\ SqL K H a (ns.map V.int) /\ ns.length <= 63 /\ ∀ H', Q (.bl true) H'
def VC (K : PySem.W.Frag) : ASp := fun xs M Q => ∃ ns : List Int, xs = [.d (.scr K ns)] /\ ns.length <= 63 /\ Q (.d (.bl true)) M
theorem sp_law (vs : List V) (H : Hp) (Q : VK) (E : XK) (h : wB K vs H Q E) : cSp (VC K) vs H Q E := by
 obtain ⟨a, ns, rfl, ha, hn, q⟩ := h
 refine ⟨[.d (.scr K ns)], fun _ => none, fun _ => False, fun x _ => x = .d (.bl true), ⟨(fun a o e => nomatch e), (fun a h => h rfl), fun a h => h.elim⟩, .cons (Kz (fun _ z => z) ha) .nil, ⟨ns, rfl, hn, rfl⟩, fun x M' v H' O' hx _ _ r => ?_⟩
 subst hx
 rw [j7 r]
 exact q H'
def Mn (M0 M : MH) : Prop := ∀ q, M0 q ≠ none -> M q ≠ none
theorem Mn.mup {M0 M : MH} (h : Mn M0 M) (p : Addr) (o : MO) : Mn M0 (mup M p o) := fun q hq => by
 by_cases c : q = p
 ·rw [c, zj]; exact fun z => nomatch z
 ·rw [zC c]; exact h q hq
theorem Mn.bx {M0 M M' : MH} (h : Mn M0 M) {b : Addr} {N : Nat} (s : BxS M M' b N) : Mn M0 M' := by
 obtain ⟨_, o, rfl⟩ := s
 exact h.mup b o
theorem Mn.mdel {M0 M : MH} (h : Mn M0 M) {p : Addr} (hp : M0 p = none) : Mn M0 (mdel M p) := fun q hq => by rw [qv (fun z => hq (by rw [z]; exact hp))]; exact h q hq
def TX (x u : Option AV) : Prop := u = x \/ ∃ d, u = some (.d d)
theorem TX.lv {M1 M : MH} {x u : Option AV} {q : Addr} (t : TX x u) (mn : Mn M1 M) (hx : some (.ref q) = x -> M1 q ≠ none) (h : some (.ref q) = u) : M q ≠ none := by
 rcases t with t | ⟨d, t⟩
 ·exact mn q (hx (h.trans t))
 ·rw [t] at h; cases h
theorem TX.ne {x u : Option AV} {p : Addr} (h : TX x u) (n : x ≠ some (.ref p)) : u ≠ some (.ref p) := fun z => by
 rcases h with h | ⟨d, h⟩
 ·exact n (h.symm.trans z)
 ·rw [h] at z; cases z
theorem yN (k : Int) (I : List DI) : (I.map (shI k)).map (shI (0 - k)) = I := by
 rw [List.map_map]
 refine (List.map_congr_left fun q _ => ?_).trans (List.map_id I)
 show (q.1, (q.2.map (· + k)).map (· + (0 - k))) = q
 rw [List.map_map]
 refine Prod.ext rfl ((List.map_congr_left fun i _ => ?_).trans (List.map_id q.2))
 show i + k + (0 - k) = i
 omega
def wW : Dat -> Dat
 | .lst l => .tup l
 | d => d
def wU : AV -> AV
 | .d d => .d (wW d)
 | x => x
theorem Z8 {q : DI} (h : q.2.length <= 10) : qm 1 (dI q) := QJ (n := 0) (by rw [List.length_cons, List.length_map]; omega) fun d hd => by
 rcases List.mem_cons.mp hd with rfl | hd
 ·exact Qf _ _
 ·obtain ⟨i, _, rfl⟩ := List.mem_map.mp hd; exact QG _ _
theorem yO {I : List DI} (h1 : I.length <= 10000) (h2 : ∀ q ∈ I, q.2.length <= 10) : qm 2 (.lst (I.map dI)) := kI (n := 1) (by rw [List.length_map]; omega) fun d hd => by
 obtain ⟨q, hq, rfl⟩ := List.mem_map.mp hd; exact Z8 (h2 q hq)
theorem yo (d : De) : (deI d).2.length <= 2 := by cases d <;> simp [deI]
def Pu (M0 M : MH) : Prop := ∀ q o, M q = some o -> M0 q = some o \/ ∀ r, ¬ kX r o
theorem Pu.refl {M : MH} : Pu M M := fun _ _ h => .inl h
theorem Pu.mup {M0 M : MH} (h : Pu M0 M) (p : Addr) (l : List Dat) : Pu M0 (mup M p (.lst (l.map .d))) := fun q o e => by
 by_cases c : q = p
 ·rw [c, zj] at e
  cases e
  exact .inr fun r hr => vX (zA l) r hr
 ·rw [zC c] at e; exact h q o e
theorem Pu.mdel {M0 M : MH} (h : Pu M0 M) (p : Addr) : Pu M0 (mdel M p) := fun q o e => by
 by_cases c : q = p
 ·rw [c, j6] at e; cases e
 ·rw [qv c] at e; exact h q o e
theorem Pu.box {M0 M M' : MH} (h : Pu M0 M) {b : Addr} {o : MO} (e : M' = L2.mup M b o) {N : Nat} (hb : BxM M' b N) : Pu M0 M' := by
 obtain ⟨x, y, z, h1, _⟩ := hb
 subst e
 rw [zj] at h1
 cases h1
 exact h.mup b ([x, y, z].map .int)
theorem Pu.bx {M0 M M' : MH} (h : Pu M0 M) {b : Addr} {N : Nat} (s : BxS M M' b N) : Pu M0 M' := by
 obtain ⟨hb, o, e⟩ := s
 exact h.box e hb
theorem Fr.mdel {M0 M : MH} (f : L2.Fr M0 M) {p : Addr} (h : M0 p = none) : L2.Fr M0 (mdel M p) := fun q hq => by rw [qv (fun z => hq (by rw [z]; exact h))]; exact f q hq
def Lv (M : MH) (xs : ASt) : Prop := ∀ q, some (AV.ref q) ∈ xs -> M q ≠ none
theorem Kf {α : Type} {n : Nat} {ls : List (List α)} (h : ∀ l ∈ ls, l.length <= n) (i : Nat) : ((ls.take i).flatten).length <= n * i := by
 induction i with
 | zero => simp
 | succ i ih =>
  rw [Nat.mul_succ]
  cases e : ls[i]? with
  | none => rw [List.take_add_one, e]; simp only [Option.toList_none, List.append_nil]; omega
  | some l =>
   have := h l (List.mem_of_getElem? e)
   rw [List.take_add_one, e, List.flatten_append, List.length_append]
   simp only [Option.toList_some, List.flatten_cons, List.flatten_nil, List.append_nil]
   omega
def pls (ls : List (List De)) : List Dat := ls.map fun l => .lst (l.map deD)
def xN (ls : List (List De)) : List AV := (pls ls).map .d
def deB (d : De) : Prop := ∀ i ∈ (deI d).2, 0 <= i /\ i < 1000
def Ye (l : List De) : Prop := l.length <= 9 /\ ∀ d ∈ l, deB d
theorem XR {d : De} (h : deB d) : Sh 135 (deD d) := by
 rw [kC]
 have hl := yo d
 refine (Xi (n := 3) (b := 42) (by rw [List.length_cons, List.length_map]; omega) fun x hx => ?_).mono (by omega)
 rcases List.mem_cons.mp hx with rfl | hx
 ·cases d
  ·exact (yr (x := Str.ofString "swap") (by decide +kernel)).mono (by decide +kernel)
  ·exact (yr (x := Str.ofString "take") (by decide +kernel)).mono (by decide +kernel)
  ·exact (yr (x := Str.ofString "move") (by decide +kernel)).mono (by decide +kernel)
  ·exact (yr (x := Str.ofString "lay") (by decide +kernel)).mono (by decide +kernel)
 ·obtain ⟨i, hi, rfl⟩ := List.mem_map.mp hx
  have := h i hi
  exact (Y4 (Nat.lt_trans (show i.natAbs < 1000 by omega) (by decide))).mono (by omega)
theorem Yn {ls : List (List De)} (h1 : ls.length <= 12) (h2 : ∀ l ∈ ls, Ye l) : Sh 20000 (.lst (pls ls)) := by
 refine (Q7 (n := 12) (b := 1300) (by unfold pls; rw [List.length_map]; exact h1) fun x hx => ?_).mono (by omega)
 obtain ⟨l, hl, rfl⟩ := List.mem_map.mp hx
 refine (Q7 (n := 9) (b := 135) (by rw [List.length_map]; exact (h2 l hl).1) fun x hx => ?_).mono (by omega)
 obtain ⟨d, hd, rfl⟩ := List.mem_map.mp hx
 exact XR ((h2 l hl).2 d hd)
theorem Kl {ls : List (List De)} (h1 : ls.length <= 12) (h2 : ∀ l ∈ ls, Ye l) : qm 3 (.lst (pls ls)) := kI (n := 2) (by unfold pls; rw [List.length_map]; omega) fun x hx => by
 obtain ⟨l, hl, rfl⟩ := List.mem_map.mp hx
 refine kI (n := 1) (by rw [List.length_map]; have := (h2 l hl).1; omega) fun x hx => ?_
 obtain ⟨d, hd, rfl⟩ := List.mem_map.mp hx
 rw [kC]
 exact Z8 (by have := yo d; omega)
theorem DoE.bnd {d : De} {s t : ES} (h : DoE d s t) (hl : s.1.length <= 1000) : deB d := by
 have g : ∀ {row : List (Option Int)} {p : Nat} {x : Option Int}, row[p]? = some x -> row.length <= 1000 -> 0 <= (p : Int) /\ (p : Int) < 1000 := fun e h => by
  have := (List.getElem?_eq_some_iff.mp e).1
  omega
 intro i hi
 cases h with
 | swap _ e1 e2 =>
  rcases List.mem_cons.mp hi with rfl | hi
  ·exact g e1 hl
  ·rw [List.mem_singleton.mp hi]; exact g e2 hl
 | take e1 => rw [List.mem_singleton.mp hi]; exact g e1 hl
 | move e1 e2 =>
  rcases List.mem_cons.mp hi with rfl | hi
  ·exact g e1 hl
  ·rw [List.mem_singleton.mp hi]; exact g e2 hl
 | lay e1 => rw [List.mem_singleton.mp hi]; exact g e1 hl
theorem jw.bnd {l : List De} {s t : ES} (h : jw l s t) : s.1.length <= 1000 -> ∀ d ∈ l, deB d := by
 induction h with
 | nil => exact fun _ d hd => nomatch hd
 | cons h1 _ ih =>
  intro hl d hd
  rcases List.mem_cons.mp hd with rfl | hd
  ·exact h1.bnd hl
  ·exact ih (by rw [h1.len]; exact hl) d hd
def shA (k : Int) : AV -> AV
 | .d (.lst l) => .d (.lst (l.map fun d => dI (shI k (diA (.d d)))))
 | x => x
theorem Z7 (k : Int) (l : List De) : shA k (.d (.lst (l.map deD))) = .d (.lst (((l.map deI).map (shI k)).map dI)) := by
 show AV.d (.lst ((l.map deD).map _)) = _
 simp only [List.map_map]
 congr 2
 exact List.map_congr_left fun d _ => by show dI (shI k (diA (.d (deD d)))) = _; rw [kC, jD]; rfl
theorem X9 (a : At K mg "law" ZM) (B : Blt mg) (D_law_box : Df P w K mg base "_law_box" ["_law_script", "_law_k"] 19 (cSp Va)) (D_law_folded : Df P w K mg base "_law_folded" ["_law_script", "_law_many"] 19 (cSp (v9 K))) (D_law_take : Df P w K mg base "_law_take" ["_law_box_here", "_law_many"] 19 (cSp KS))
  (D_law_plan : Df P w K mg base "_law_plan" ["_law_box_here", "_law_n", "_law_many"] 19 (cSp K2)) (D_law_same : Df P w K mg base "_law_same" ["_law_found", "_law_due"] 19 (cSp (xy 6)))
  (D_joined : Df P w K mg base "joined" ["plans"] 19 (cSp wa)) (D_joined_o : Df P w K mg base "joined" ["plans"] 19 (cSp xm)) (D_shifted : Df P w K mg base "shifted" ["plan", "by"] 19 (cSp yH)) (D_shifted_o : Df P w K mg base "shifted" ["plan", "by"] 19 (cSp jS)) :
  Df P w K mg base "law" ["_law_script"] 20 (cSp (VC K)) := by
 refine dfA (k := 19) a Ja (fun _ _ _ _ _ _ us hl => match us, hl with | [_], _ => rfl) (fun xs M Q h => ?_) (fun f cdv A outer s H E hr => ?_)
 ·obtain ⟨_, rfl, _⟩ := h; rfl
 have sc := Ja
 have hsl := hsl
 refine ⟨_, (zg (zM (i := 0) sc.nd rfl (by first | exact Or.inl rfl | exact Or.inr rfl) (zB D_law_folded hr rfl (za (pv 0) (za zc zb))))
  (zg (jE PassesOwn.never rfl (qN rfl B.range (za (zl (ZE rfl) rfl B.max YN (za zc (za (zl zr rfl B.len qg (za (pv 0) zb)) zb))) zb)) (zu (i := 1) sc.nd rfl (by first | exact Or.inl rfl | exact Or.inr rfl)) (zg (zM (i := 2) sc.nd rfl (by first | exact Or.inl rfl | exact Or.inr rfl) (zB D_law_box hr rfl (za (pv 0) (za (pv 1) zb))))
  (zg (zM (i := 3) sc.nd rfl (by first | exact Or.inl rfl | exact Or.inr rfl) (vM (zR zb)))
  (zg (jE PassesOwn.never rfl (qN rfl B.range (za (zq xr (zR (za (zB D_law_take hr rfl (za (pv 2) (za zc zb))) (za (zo zY zc (zB D_law_take hr rfl (za (pv 2) (za zc zb)))) zb))) (zz jp rfl B.int xl (za (qi (qR hr.units) (zB D_law_take hr rfl (za (pv 2) (za zc zb))) zc (zy _)) zb)) (fun _ _ => rfl)) zb)) (zu (i := 4) sc.nd rfl (by first | exact Or.inl rfl | exact Or.inr rfl)) (zm (qV (xu PySem.F.plainAttrs_list PySem.F.slot_list_append PySem.F.type_list_append qw (pv 3) (za (zq xr (zB D_law_plan hr rfl (za (pv 2) (za (zB D_law_take hr rfl (za (pv 2) (za zc zb))) (za (zB D_law_take hr rfl (za (pv 2) (za zc zb))) zb)))) zc (fun _ _ => rfl)) zb)))))
  (zg (zM (i := 5) sc.nd rfl (by first | exact Or.inl rfl | exact Or.inr rfl) (zR zb))
  (zg (jE PassesOwn.never rfl (jA (pv 3)) (zu (i := 6) sc.nd rfl (by first | exact Or.inl rfl | exact Or.inr rfl)) (zm (zM (i := 5) sc.nd rfl (by first | exact Or.inl rfl | exact Or.inr rfl) (zo vx (pv 5) (pv 6)))))
  (zg (zM (i := 7) sc.nd rfl (by first | exact Or.inl rfl | exact Or.inr rfl) (zq xr (zR (za (zB D_law_take hr rfl (za (pv 2) (za zc zb))) (za (zq xr (zR (za (zo x0 zc zc) (za (zo jm (zo x0 zc zc) zc) zb))) (zB D_law_take hr rfl (za (pv 2) (za zc zb))) (fun _ _ => rfl)) zb))) (zz jp rfl B.int xl (za (qi (qR hr.units) (zB D_law_take hr rfl (za (pv 2) (za zc zb))) zc (zy _)) zb)) (fun _ _ => rfl)))
  (zg (ko (j := 8) rfl sc.nd rfl (by first | exact Or.inl rfl | exact Or.inr rfl) (ts := [13]) rfl (jA (pv 5)) (fun _ _ _ _ => (zu (i := 13) sc.nd rfl (by first | exact Or.inl rfl | exact Or.inr rfl))) (fun _ _ _ _ => qb) (fun _ _ _ _ => (zo (kP (K := K) rfl) (zT (za (zq (vk (K := K) rfl) (pv 13) zc (fun _ _ => rfl)) zb)) (zz (z0 (K := K) rfl) rfl B.tuple qe (za (qW (ts := [14]) rfl rfl (ya (K := K) rfl (jd (yf (K := K) rfl) (pv 13) (js zc) kj)) (fun _ _ _ _ => (zu (i := 14) sc.nd rfl (by first | exact Or.inl rfl | exact Or.inr rfl))) (fun _ _ _ _ => qb) (fun _ _ _ _ => (zo zY (pv 14) (pv 7)))) zb)))))
  (zg (zM (i := 9) sc.nd rfl (by first | exact Or.inl rfl | exact Or.inr rfl) (zz (xB hr.gd hr.units) rfl B.str kG (za (pv 3) zb)))
  (Ko 3 (zg (jE PassesOwn.never rfl (jA (zT (za (pv 3) (za (zz qI rfl B.tuple qe (za (pv 3) zb)) (za (qW (ts := [6]) rfl rfl (jA (pv 3)) (fun _ _ _ _ => (zu (i := 6) sc.nd rfl (by first | exact Or.inl rfl | exact Or.inr rfl))) (fun _ _ _ _ => qb) (fun _ _ _ _ => (zz (z0 (K := K) rfl) rfl B.tuple qe (za (pv 6) zb)))) zb))))) (zu (i := 10) sc.nd rfl (by first | exact Or.inl rfl | exact Or.inr rfl)) (zg (zM (i := 12) sc.nd rfl (by first | exact Or.inl rfl | exact Or.inr rfl) (zB D_joined_o hr rfl (za (pv 10) zb)))
  (zg (qk (j3 (jn (zB D_law_same hr rfl (za (pv 12) (za (pv 5) zb))) (fun _ => rfl))) (zm (zQ yB)) zH)
  (zm (qV (xu PySem.F.plainAttrs_list PySem.F.slot_list_append PySem.F.type_list_append qw (pv 12) (za (zT (za qT (za zc zb))) zb)))))))
  (zg (jE PassesOwn.never rfl (jA (zT (za (pv 5) (za (zz qI rfl B.tuple qe (za (pv 5) zb)) zb)))) (zu (i := 10) sc.nd rfl (by first | exact Or.inl rfl | exact Or.inr rfl)) (zg (zM (i := 12) sc.nd rfl (by first | exact Or.inl rfl | exact Or.inr rfl) (zB D_shifted_o hr rfl (za (pv 10) (za (pv 7) zb))))
  (zg (qk (PW.pt (ve (j3 (jn (zB D_law_same hr rfl (za (pv 12) (za (pv 8) zb))) (fun _ => rfl))) (xg (j3 (jn (zB D_law_same hr rfl (za (zB D_shifted hr rfl (za (pv 12) (za (zo jm zc (pv 7)) zb))) (za (pv 5) zb))) (fun _ => rfl)))))) (zm (zQ yB)) zH)
  (zm (qV (XC PySem.F.plainAttrs_list PySem.F.slot_list_clear PySem.F.type_list_clear Q8 (pv 12)))))))
  (zg (qk (PW.pt (ve (j3 (jn (zB D_law_same hr rfl (za (zB D_joined hr rfl (za (qW (ts := [6]) rfl rfl (jA (pv 3)) (fun _ _ _ _ => (zu (i := 6) sc.nd rfl (by first | exact Or.inl rfl | exact Or.inr rfl))) (fun _ _ _ _ => qb) (fun _ _ _ _ => (zB D_shifted hr rfl (za (pv 6) (za (pv 7) zb))))) zb)) (za (pv 8) zb))) (fun _ => rfl))) (xg (zD (vJ hr.units) (zz (xB hr.gd hr.units) rfl B.str kG (za (pv 3) zb)) (pv 9) (zy _))))) (zm (zQ yB)) zH)
  (zg (zM (i := 11) sc.nd rfl (by first | exact Or.inl rfl | exact Or.inr rfl) (zq xr (zR (za (zB D_law_take hr rfl (za (pv 2) (za zc zb))) (za (zo jm (zo x0 zc zc) zc) zb))) (zz jp rfl B.int xl (za (qi (qR hr.units) (zB D_law_take hr rfl (za (pv 2) (za zc zb))) zc (zy _)) zb)) (fun _ _ => rfl)))
  (zg (zM (i := 12) sc.nd rfl (by first | exact Or.inl rfl | exact Or.inr rfl) (zB D_shifted_o hr rfl (za (pv 5) (za (zo jm zc (pv 11)) zb))))
  (zg (ko (j := 8) rfl sc.nd rfl (by first | exact Or.inl rfl | exact Or.inr rfl) (ts := [13]) rfl (jA (pv 5)) (fun _ _ _ _ => (zu (i := 13) sc.nd rfl (by first | exact Or.inl rfl | exact Or.inr rfl))) (fun _ _ _ _ => qb) (fun _ _ _ _ => (zo (kP (K := K) rfl) (zT (za (zq (vk (K := K) rfl) (pv 13) zc (fun _ _ => rfl)) zb)) (zz (z0 (K := K) rfl) rfl B.tuple qe (za (qW (ts := [14]) rfl rfl (ya (K := K) rfl (jd (yf (K := K) rfl) (pv 13) (js zc) kj)) (fun _ _ _ _ => (zu (i := 14) sc.nd rfl (by first | exact Or.inl rfl | exact Or.inr rfl))) (fun _ _ _ _ => qb) (fun _ _ _ _ => (zo jm (pv 14) (pv 11)))) zb)))))
  (zm (qk (PW.pt (ve (j3 (jn (zB D_law_same hr rfl (za (pv 12) (za (pv 8) zb))) (fun _ => rfl))) (xg (j3 (jn (zB D_law_same hr rfl (za (zB D_shifted hr rfl (za (pv 12) (za (pv 11) zb))) (za (pv 5) zb))) (fun _ => rfl)))))) (zm (zQ yB)) zH))))))))))))))))))
  (zm (zQ (qi (qR hr.units) (zB D_joined hr rfl (za (zR zb) zb)) (zR zb) (zy _)))))), ?_⟩
 refine ex2 (by walk_at "sim") ?_
 rintro xs M Q ⟨ns, rfl, hn, q⟩
 rw [show jF ["_law_script", "_law_k", "_law_box_here", "_law_some", "_law_turn", "_law_whole", "_law_plan_here", "_law_by", "_law_due", "_law_kept", "_law_handed", "_law_less", "_law_found", "_law_deed_here", "_law_place"] [.d (.scr K ns)] = some (.d (.scr K ns)) :: List.replicate 14 none from rfl]
 refine zE fun r hr0 => ?_
 walk_at "ra"
 refine ⟨6, ns, rfl, by omega, by omega, hn, fun cs lc => ?_⟩
 subst hr0
 refine zE fun r hr0 => ?_
 walk_at "ra"
 refine ⟨by split <;> omega, by split <;> omega, ?_⟩
 refine ⟨fun i ρ M' => (∃ x1 x2 x3 x4 x5 x6 x7 x8 x9 x10 x11 x12 x13 x14, ρ = [some (.d (ilD cs)), x1, x2, x3, x4, x5, x6, x7, x8, x9, x10, x11, x12, x13, x14] /\ Lv M' [x1, x2, x3, x4, x5, x6, x7, x8, x9, x10, x11, x12, x13, x14]) /\ Fr M M' /\ Pu M M', ⟨⟨_, _, _, _, _, _, _, _, _, _, _, _, _, _, rfl, fun q hq => by simp at hq⟩, Fr.refl, Pu.refl⟩, ?_, ?_⟩
 ·rintro i y ρ M1 hy ⟨⟨x1, x2, x3, x4, x5, x6, x7, x8, x9, x10, x11, x12, x13, x14, rfl, lv⟩, f1, pu1⟩
  obtain ⟨hi, rfl⟩ := kJ hy
  have hi' : (i : Int) <= 1000 := by
   have : (i : Int) < (if (cs.length : Int) > 2 then (cs.length : Int) else 2) := by omega
   split at this <;> omega
  refine ⟨trivial, ?_⟩
  rw [Int.zero_add, Int.mul_one]
  show wR _ _ _ _ _ _
  refine zE fun r2 hr2 => ?_
  walk_at "ra"
  refine ⟨_, i, cs, rfl, JE _ _, by omega, by omega, by omega, fun b o hb bx => ?_⟩
  have b0 := f1.non hb
  have f2 := f1.mup b0 o
  have pu2 := pu1.box rfl bx
  have mn2 : Mn M1 (mup M1 b o) := Mn.mup (fun _ h => h) b o
  have lv2 : ∀ q, mup M1 b o q = none -> M1 q = none := fun q hq => by
   by_cases c : q = b
   ·rw [c]; exact hb
   ·rw [zC c] at hq; exact hq
  generalize mup M1 b o = M2 at *
  subst hr2
  refine zE fun r2 hr2 => ?_
  walk_at "ra"
  refine fun p hp _ => ?_
  have p0 := f2.non hp
  have nx : ∀ x ∈ [x1, x2, x3, x4, x5, x6, x7, x8, x9, x10, x11, x12, x13, x14], x ≠ some (AV.ref p) := fun x hx z => lv p (by rw [<- z]; exact hx) (lv2 p hp)
  have pu3 := pu2.mup p []
  have p1 := lv2 p hp
  have mn3 := mn2.mup p (.lst [])
  have hpb : p ≠ b := fun z => by
   obtain ⟨_, _, _, z1, _⟩ := bx
   rw [z, z1] at hp; cases hp
  have f3 := f2.mup p0 (.lst [])
  have bx3 : BxM (mup M2 p (.lst [])) b 0 := by
   obtain ⟨z1, z2, z3, z4, z5⟩ := bx
   exact ⟨z1, z2, z3, by rw [zC (Ne.symm hpb)]; exact z4, z5⟩
  have hp3 := zj (M := M2) (a := p) (o := .lst [])
  rw [List.map_nil] at pu3
  generalize mup M2 p (.lst []) = M3 at *
  clear bx f2 hp
  subst hr2
  refine zE fun r2 hr2 => ?_
  walk_at "ra"
  refine ⟨b, 6, 0, rfl, bx3, by omega, by omega, by omega, fun c1 M4 s4 c10 c11 => ⟨b, 6, 1, rfl, s4.1, by omega, by omega, by omega, fun c2 M5 s5 c20 c21 => ⟨_, rfl, by omega, _, rfl, b, 8, 2, rfl, s5.1, by omega, by omega, by omega, fun c3 M6 s6 _ _ => ⟨_, rfl, by rw [yg]; omega, ?_⟩⟩⟩⟩
  obtain ⟨m, hm, hm0, hm1⟩ : ∃ m : Int, atI (List.map AV.d [Dat.int c1, Dat.int (7 + c2)]) (if eqD (Dat.int c3) (Dat.int 0) = true then 1 else 0) = some (.d (.int m)) /\ 0 <= m /\ m <= 12 := by
   split
   ·exact ⟨7 + c2, rfl, by omega, by omega⟩
   ·exact ⟨c1, rfl, by omega, by omega⟩
  refine ⟨_, hm, m, rfl, by omega, by omega, ?_⟩
  have f6 := ((f3.bx s4 b0).bx s5 b0).bx s6 b0
  have pu6 := ((pu3.bx s4).bx s5).bx s6
  have mn6 := ((mn3.bx s4).bx s5).bx s6
  have hp6 : M6 p = some (.lst []) := by rw [s6.at hpb, s5.at hpb, s4.at hpb]; exact hp3
  have bx6 := s6.1
  clear hm c10 c11 c20 c21 s4 s5 s6 f3 bx3 hp3
  refine ⟨fun j ρ M' => (∃ u ls, ρ = [some (.d (ilD cs)), some (.d (.int i)), some (.ref b), some (.ref p), u, x5, x6, x7, x8, x9, x10, x11, x12, x13, x14] /\ M' p = some (.lst (xN ls)) /\ ls.length = j /\ (∀ l ∈ ls, Ye l) /\ TX x4 u) /\ Fr M M' /\ BxM M' b (3 + 102 * j) /\ Pu M M' /\ Mn M1 M', ⟨⟨_, [], rfl, hp6, rfl, (fun l hl => nomatch hl), .inl rfl⟩, f6, bx6, pu6, mn6⟩, ?_, ?_⟩
  ·rintro j y ρ M7 hy ⟨⟨u, ls, rfl, hp7, hls, hok, nu⟩, f7, bx7, pu7, mn7⟩
   obtain ⟨hj, rfl⟩ := kJ hy
   refine ⟨trivial, ?_⟩
   walk_at "ra"
   have hj' : j < 12 := by omega
   refine ⟨⟨_, jR hp7⟩, b, 10, _, rfl, bx7, by omega, by omega, by omega, fun c4 M8 s8 c40 c41 => ⟨b, 10, _, rfl, s8.1, by omega, by omega, by omega, fun c5 M9 s9 c50 c51 => ?_⟩⟩
   obtain ⟨n, rfl⟩ : ∃ n : Nat, c4 = n := ⟨c4.toNat, by omega⟩
   refine ⟨b, n, _, c5, rfl, by omega, by omega, by omega, s9.1, by omega, fun M10 ds st s10 ld hdo => ⟨_, jh _ _, _, qX (j := 0) rfl, _, (s10.at hpb).trans ((s9.at hpb).trans ((s8.at hpb).trans hp7)), ?_, ⟨ls ++ [ds], zj.trans (by unfold xN pls; rw [List.map_append, List.map_append]; rfl), by rw [List.length_append, hls]; rfl, (fun l hl => ?_), .inr ⟨_, rfl⟩⟩, ((((f7.bx s8 b0).bx s9 b0).bx s10 b0).mup p0 _), ?_, ?_, ((((mn7.bx s8).bx s9).bx s10).mup p _)⟩⟩
   ·unfold xN pls; rw [List.length_map, List.length_map]; omega
   ·rcases List.mem_append.mp hl with hl | hl
    ·exact hok l hl
    ·rw [List.mem_singleton.mp hl]
     exact ⟨by omega, hdo.bnd (by rw [List.length_map, qA]; omega)⟩
   ·obtain ⟨z1, z2, z3, z4, z5⟩ := s10.1
    exact BxM.mono ⟨z1, z2, z3, by rw [zC (Ne.symm hpb)]; exact z4, z5⟩ (by omega)
   ·have := (((pu7.bx s8).bx s9).bx s10).mup p (pls ls ++ [.lst (ds.map deD)])
    rwa [List.map_append] at this
  rintro ρ M7 ⟨⟨u, ls, rfl, hp7, hls, hok, nu⟩, f7, bx7, pu7, mn7⟩
  refine ⟨trivial, ?_⟩
  rw [kM] at hls bx7
  clear f6 hp6 bx6 pu6 mn6
  subst hr2
  dsimp only
  refine zE fun r2 hr2 => ?_
  walk_at "ra"
  subst hr2
  refine zE fun r2 hr2 => ?_
  walk_at "ra"
  have hl12 : ls.length <= 12 := by omega
  have hW : ∀ k, ((ls.take k).flatten).length <= 9 * k := fun k => Kf (fun l hl => (hok l hl).1) k
  have hsq : ∀ M, M p = some (.lst (xN ls)) -> qF (.ref p) M = some (xN ls) := fun M h => jN h
  refine ⟨_, hsq _ hp7, ?_⟩
  refine ⟨fun j ρ M' => M7 = M' /\ ∃ v, TX x6 v /\ ρ = [some (.d (ilD cs)), some (.d (.int i)), some (.ref b), some (.ref p), u, some (.d (.lst (((ls.take j).flatten).map deD))), v, x7, x8, x9, x10, x11, x12, x13, x14], ⟨rfl, _, .inl rfl, rfl⟩, ?_, ?_⟩
  ·rintro j y ρ M' hy ⟨rfl, v, nv, rfl⟩
   unfold xN pls at hy
   rw [List.getElem?_map, List.getElem?_map] at hy
   cases e : ls[j]? with
   | none => rw [e] at hy; cases hy
   | some l =>
    rw [e] at hy; cases hy
    have hj := (List.getElem?_eq_some_iff.mp e).1
    have h1 := hW j
    have h2 := (hok l (List.mem_of_getElem? e)).1
    refine ⟨hsq _ hp7, ?_⟩
    walk_at "ra"
    refine ⟨by omega, ((ls.take j).flatten ++ l).map deD, by rw [<- zA, List.map_append, List.map_append], some (.d (.lst (l.map deD))), .inr ⟨_, rfl⟩, ?_, rfl⟩
    rw [List.take_add_one, e, List.flatten_append]
    simp
  rintro ρ M' ⟨rfl, v, nv, rfl⟩
  refine ⟨hsq _ hp7, ?_⟩
  rw [show (xN ls).length = ls.length by unfold xN pls; rw [List.length_map, List.length_map], List.take_length]
  have hW := hW ls.length
  rw [List.take_length] at hW
  have hWb : ∀ d ∈ ls.flatten, deB d := fun d hd => by
   obtain ⟨l, hl, hd⟩ := List.mem_flatten.mp hd
   exact (hok l hl).2 d hd
  generalize hWe : ls.flatten = W at *
  subst hr2
  dsimp only
  refine zE fun r2 hr2 => ?_
  walk_at "ra"
  refine ⟨b, 12, _, rfl, bx7, by omega, by omega, by omega, fun c1 M4 s4 c10 c11 => ⟨⟨by decide, by decide, by decide⟩, ⟨by decide, by decide, by decide⟩, by omega, b, 2, _, rfl, s4.1, by omega, by omega, by omega, fun c2 M5 s5 c20 c21 => ?_⟩⟩
  obtain ⟨m2, hm2, hm20, hm21⟩ : ∃ m : Int, atI [AV.d (Dat.int (10 ^ Int.toNat 9)), AV.d (Dat.int (10 ^ Int.toNat 18 - 10))] c2 = some (.d (.int m)) /\ 0 <= m /\ m < 10 ^ 18 := by
   rcases (show c2 = 0 \/ c2 = 1 by omega) with rfl | rfl
   ·exact ⟨_, rfl, by decide, by decide⟩
   ·exact ⟨_, rfl, by decide, by decide⟩
  refine ⟨_, rfl, _, hm2, by omega, _, rfl, b, 8, _, rfl, s5.1, by omega, by omega, by omega, fun c3 M6 s6 _ _ => ⟨_, rfl, by rw [yg]; omega, ?_⟩⟩
  obtain ⟨by_, hby, hb0, hb1⟩ : ∃ m : Int, atI (List.map AV.d [Dat.int c1, Dat.int m2]) (if eqD (Dat.int c3) (Dat.int 0) = true then 1 else 0) = some (.d (.int m)) /\ 0 <= m /\ m < 10 ^ 18 := by
   split
   ·exact ⟨m2, rfl, by omega, by omega⟩
   ·exact ⟨c1, rfl, by omega, by omega⟩
  refine ⟨_, hby, ?_⟩
  have f6 := ((f7.bx s4 b0).bx s5 b0).bx s6 b0
  have pu6 := ((pu7.bx s4).bx s5).bx s6
  have mn6 := ((mn7.bx s4).bx s5).bx s6
  have hp6 : M6 p = some (.lst (xN ls)) := by rw [s6.at hpb, s5.at hpb, s4.at hpb]; exact hp7
  have bx6 := s6.1
  clear hm2 c10 c11 c20 c21 s4 s5 s6 f7 bx7 hp7 hby
  clear hm20 hm21
  subst hr2
  refine zE fun r2 hr2 => ?_
  walk_at "ra"
  have eW : W.map deD = (W.map deI).map dI := by rw [List.map_map]; exact List.map_congr_left fun d _ => kC d
  have hI1 : (W.map deI).length <= 108 := by rw [List.length_map]; omega
  have hI2 : ∀ q ∈ W.map deI, q.2.length <= 2 := fun q hq => by
   obtain ⟨d, _, rfl⟩ := List.mem_map.mp hq
   cases d <;> simp [deI]
  have eJ : ((ls.map fun l => l.map deD).flatten) = (W.map deI).map dI := by rw [<- eW, <- hWe, List.map_flatten]
  have eS : ∀ k, (ls.map fun l => ((l.map deI).map (shI k)).map dI).flatten = ((W.map deI).map (shI k)).map dI := fun k => by rw [<- hWe, List.map_flatten, List.map_flatten, List.map_flatten, List.map_map, List.map_map]; rfl
  rw [eW]
  generalize W.map deI = I at *
  refine qS (fun (o : Option AV × Option AV) => [some (.d (ilD cs)), some (.d (.int i)), some (.ref b), some (.ref p), u, some (.d (.lst (I.map dI))), v, some (.d (.int by_)), x8, x9, x10, x11, x12, o.1, o.2]) (fun y => .d (dI (shI by_ (diA y)))) ⟨(_, _), rfl⟩ trivial (by rw [List.length_map, List.length_map]; omega) (fun o y Q hy q => ?_) fun o => ?_
  ·rw [List.map_map] at hy
   obtain ⟨c, hc, rfl⟩ := List.mem_map.mp hy
   have q := q (some (.d (dI c)), o.2)
   rw [show (AV.d ∘ dI) c = .d (dI c) from rfl, jD] at q
   have hcl := hI2 c hc
   show qt 13 (AV.d (dI c)) _ _ _
   walk_at "ra"
   refine ⟨_, jh _ _, .d (.str c.1), qX (xs := (Dat.str c.1 :: c.2.map Dat.int).map AV.d) (j := 0) rfl, by omega, [.str c.1], rfl, _, rfl, fun z => ?_, ?_⟩
   ·rw [show (1 : Int) = ((1 : Nat) : Int) from rfl, HT.sIx_nat] at z
    have z := z.1
    simp at z
   rw [show kR (Dat.str c.1 :: c.2.map Dat.int) (some 1) none = c.2.map Dat.int from jV (Dat.str c.1 :: c.2.map Dat.int) 1, show (c.2.map Dat.int).map AV.d = c.2.map (AV.d ∘ Dat.int) from List.map_map]
   refine qS (fun z => [some (.d (ilD cs)), some (.d (.int i)), some (.ref b), some (.ref p), u, some (.d (.lst (I.map dI))), v, some (.d (.int by_)), x8, x9, x10, x11, x12, some (.d (dI c)), z]) (ZO by_) ⟨_, rfl⟩ trivial (by rw [List.length_map]; omega) (fun o y Q hy q => ?_) fun o => ?_
   ·obtain ⟨i, hi, rfl⟩ := List.mem_map.mp hy
    show qt 14 (AV.d (.int i)) _ _ _
    walk_at "ra"
    exact q (some (.d (.int i)))
   ·rw [show c.2.map (AV.d ∘ Dat.int) = c.2.map fun i => AV.d (.int i) from rfl, jT, jM]
    exact ⟨_, rfl, by simp, by simp; omega, q⟩
  rw [show ((I.map dI).map AV.d).map (fun y => AV.d (dI (shI by_ (diA y)))) = ((I.map (shI by_)).map dI).map .d by
   simp only [List.map_map]
   exact List.map_congr_left fun c _ => by show AV.d (dI (shI by_ (diA (.d (dI c))))) = _; rw [jD]; rfl]
  refine ⟨_, zA _, ?_⟩
  clear o
  subst hr2
  refine zE fun r2 hr2 => ?_
  walk_at "ra"
  have hps := Kl hl12 hok
  have hsh := Yn hl12 hok
  have hdat : ∀ M, jI (.d (.lst (pls ls))) M = some (.lst (pls ls)) := fun _ => rfl
  refine ⟨_, jQ hp6 (zA _), .inl ⟨_, rfl⟩, Nat.le_trans hps.1 (by omega), hsh.s, Nat.le_trans hsh.l (by omega), ?_⟩
  subst hr2
  refine ⟨p, _, pls ls, rfl, hp6, zA _, p0, ?_, ?_, ?_⟩
  ·intro j hj hjj
   match j, hj, hjj with
   | 0, _, h => cases h
   | 1, _, h => cases h
   | 2, _, h => exact hpb (by injection h with h; injection h with h; injection h with h; exact h.symm)
   | 3, c, _ => exact c rfl
   | 4, _, h => exact nu.ne (nx x4 (by simp)) (Option.some.inj h)
   | 5, _, h => cases h
   | 6, _, h => exact nv.ne (nx x6 (by simp)) (Option.some.inj h)
   | 7, _, h => cases h
   | 8, _, h => cases h
   | 9, _, h => cases h
   | 10, _, h => exact nx x10 (by simp) (Option.some.inj h)
   | 11, _, h => exact nx x11 (by simp) (Option.some.inj h)
   | 12, _, h => exact nx x12 (by simp) (Option.some.inj h)
   | 13, _, h => exact nx x13 (by simp) (Option.some.inj h)
   | 14, _, h => exact nx x14 (by simp) (Option.some.inj h)
   | (n + 15), _, h => cases h
  ·intro q o hq e
   exact (pu6 q o e).imp (fun z => z) (fun z => z p)
  have f8 := Fr.mdel f6 p0
  have pu8 := pu6.mdel p
  have mn8 := mn6.mdel p1
  have bx8 : BxM (mdel M6 p) b (3 + 102 * m.toNat + 1 + 1 + 1) := by
   obtain ⟨z1, z2, z3, z4, z5⟩ := bx6
   exact ⟨z1, z2, z3, by rw [qv (Ne.symm hpb)]; exact z4, z5⟩
  generalize mdel M6 p = M8 at *
  show wR _ _ _ _ [some (.d (ilD cs)), some (.d (.int i)), some (.ref b), some (.d (.lst (pls ls))), u, some (.d (.lst (I.map dI))), v, some (.d (.int by_)), some (.d (.lst ((I.map (shI by_)).map dI))), some (.d (.str (shD (.lst (pls ls))))), x10, x11, x12, x13, x14] _
  refine zE fun r2 hr2 => ?_
  walk_at "ra"
  have tupOf : ∀ M, qF (.d (.lst ((pls ls).map wW))) M = some (((pls ls).map wW).map .d) := fun M => qH _ _
  have e1 : (pls ls).map sqD = (ls.map fun l => l.map deD).map some := by unfold pls; rw [List.map_map, List.map_map]; rfl
  have e2 : ((pls ls).map wW).map sqD = (ls.map fun l => l.map deD).map some := by unfold pls; rw [List.map_map, List.map_map, List.map_map]; rfl
  have l1 : ((ls.map fun l => l.map deD)).length <= 100 := by rw [List.length_map]; omega
  have l2 : ∀ l ∈ (ls.map fun l => l.map deD), l.length <= 1000 := fun l hl => by
   obtain ⟨l', hl', rfl⟩ := List.mem_map.mp hl
   have := (hok l' hl').1
   rw [List.length_map]; omega
  have hI3 : ∀ q ∈ I, q.2.length <= 10 := fun q hq => by have := hI2 q hq; omega
  have hfI : qm 6 (.lst (I.map dI)) := (yO (by omega) hI3).mono (by omega)
  refine qS (fun o => [some (.d (ilD cs)), some (.d (.int i)), some (.ref b), some (.d (.lst (pls ls))), u, some (.d (.lst (I.map dI))), o, some (.d (.int by_)), some (.d (.lst ((I.map (shI by_)).map dI))), some (.d (.str (shD (.lst (pls ls))))), x10, x11, x12, x13, x14]) wU ⟨_, rfl⟩ trivial (by unfold pls; rw [List.length_map, List.length_map]; omega) (fun o y Q hy q => ?_) fun o => ?_
  ·unfold pls at hy
   rw [List.map_map] at hy
   obtain ⟨l, hl, rfl⟩ := List.mem_map.mp hy
   have q := q (some (.d (.lst (l.map deD))))
   show qt 6 (AV.d (.lst (l.map deD))) _ _ _
   walk_at "ra"
   exact q
  rw [show ((pls ls).map AV.d).map wU = ((pls ls).map wW).map .d by unfold pls; simp only [List.map_map]; rfl]
  refine ⟨_, zA _, by omega, ?_⟩
  clear o
  refine ⟨fun j ρ M' => (∃ w z, TX x10 w /\ (∀ q, z = some (.ref q) -> M' q ≠ none) /\ ρ = [some (.d (ilD cs)), some (.d (.int i)), some (.ref b), some (.d (.lst (pls ls))), u, some (.d (.lst (I.map dI))), v, some (.d (.int by_)), some (.d (.lst ((I.map (shI by_)).map dI))), some (.d (.str (shD (.lst (pls ls))))), w, x11, z, x13, x14]) /\ Fr M M' /\ Pu M M' /\ BxM M' b (3 + 102 * m.toNat + 1 + 1 + 1) /\ Mn M1 M', ⟨⟨_, _, .inl rfl, (fun q hq => mn8 q (lv q (by rw [<- hq]; simp))), rfl⟩, f8, pu8, bx8, mn8⟩, ?_, ?_⟩
  ·rintro j y ρ M9 hy ⟨⟨w, z, tw, tz, rfl⟩, f9, pu9, bx9, mn9⟩
   have hy2 : ∃ (ps : List Dat) (d : Dat), y = .d d /\ (∀ M, qF y M = some (ps.map .d)) /\ ps.map sqD = (ls.map fun l => l.map deD).map some := by
    match j, hy with
    | 0, hy => injection hy with hy; rw [<- hy]; exact ⟨pls ls, _, rfl, fun M => qH _ _, e1⟩
    | 1, hy => injection hy with hy; rw [<- hy]; exact ⟨pls ls, _, rfl, fun M => jh _ _, e1⟩
    | 2, hy => injection hy with hy; rw [<- hy]; exact ⟨(pls ls).map wW, _, rfl, fun M => qH _ _, e2⟩
    | (j + 3), hy => cases hy
   obtain ⟨ps, dy, rfl, hy2, hy3⟩ := hy2
   refine ⟨trivial, ?_⟩
   walk_at "ra"
   refine ⟨_, ps, _, rfl, hy2 _, hy3, l1, l2, fun p2 hp2 => ?_⟩
   rw [eJ]
   refine ⟨.ref p2, _, .lst (I.map dI), rfl, jQ zj (zA _), rfl, hfI, by omega, _, rfl, ?_⟩
   walk_at "ra"
   have q0 := f9.non hp2
   have nb2 : b ≠ p2 := fun z => bx9.ne (by rw [z]; exact hp2)
   refine ⟨⟨_, jR zj⟩, by omega, _, zj, by rw [List.length_map, List.length_map]; omega, ?_⟩
   have hx : (I.map dI).map AV.d ++ [AV.d (Dat.tup [Dat.str (Str.ofString "take"), Dat.int 0])] = (I.map dI ++ [Dat.tup [Dat.str (Str.ofString "take"), Dat.int 0]]).map .d := by rw [List.map_append]; rfl
   rw [hx]
   refine ⟨⟨some (.d dy), .inr ⟨_, rfl⟩, some (.ref p2), ?_, rfl, rfl⟩, f9.mup q0 _, pu9.mup p2 _, ?_, mn9.mup p2 _⟩
   ·intro q hq; injection hq with hq; injection hq with hq; rw [<- hq, zj]; exact fun z => nomatch z
   ·obtain ⟨z1, z2, z3, z4, z5⟩ := bx9
    exact ⟨z1, z2, z3, by rw [zC nb2]; exact z4, z5⟩
  rintro ρ M9 ⟨⟨w, z, tw, tz, rfl⟩, f9, pu9, bx9, mn9⟩
  refine ⟨trivial, ?_⟩
  subst hr2
  dsimp only
  refine zE fun r2 hr2 => ?_
  walk_at "ra"
  have hfS : ∀ k, qm 6 (.lst ((I.map (shI k)).map dI)) := fun k => (yO (by rw [List.length_map]; omega) fun q hq => by
   obtain ⟨c, hc, rfl⟩ := List.mem_map.mp hq
   show (c.2.map (· + k)).length <= 10
   rw [List.length_map]; exact hI3 c hc).mono (by omega)
  have hS3 : ∀ k, ∀ q ∈ I.map (shI k), q.2.length <= 10 := fun k q hq => by
   obtain ⟨c, hc, rfl⟩ := List.mem_map.mp hq
   show (c.2.map (· + k)).length <= 10
   rw [List.length_map]; exact hI3 c hc
  refine ⟨by omega, ?_⟩
  refine ⟨fun j ρ M' => (∃ w z, TX x10 w /\ (∀ q, z = some (.ref q) -> M' q ≠ none) /\ ρ = [some (.d (ilD cs)), some (.d (.int i)), some (.ref b), some (.d (.lst (pls ls))), u, some (.d (.lst (I.map dI))), v, some (.d (.int by_)), some (.d (.lst ((I.map (shI by_)).map dI))), some (.d (.str (shD (.lst (pls ls))))), w, x11, z, x13, x14]) /\ Fr M M' /\ Pu M M' /\ BxM M' b (3 + 102 * m.toNat + 1 + 1 + 1) /\ Mn M1 M', ⟨⟨_, _, tw, tz, rfl⟩, f9, pu9, bx9, mn9⟩, ?_, ?_⟩
  ·clear f9 pu9 bx9 mn9 tw tz
   rintro j y ρ M9 hy ⟨⟨w, z, tw, tz, rfl⟩, f9, pu9, bx9, mn9⟩
   have hy2 : ∃ d : Dat, y = .d d /\ ∀ M, qF y M = some ((I.map dI).map .d) := by
    match j, hy with
    | 0, hy => injection hy with hy; rw [<- hy]; exact ⟨_, rfl, fun M => qH _ _⟩
    | 1, hy => injection hy with hy; rw [<- hy]; exact ⟨_, rfl, fun M => jh _ _⟩
    | (j + 2), hy => cases hy
   obtain ⟨dy, rfl, hy2⟩ := hy2
   refine ⟨trivial, ?_⟩
   walk_at "ra"
   refine ⟨_, by_, I, rfl, hy2 _, by omega, hI3, fun p2 hp2 => ?_⟩
   refine ⟨.ref p2, _, .lst ((I.map (shI by_)).map dI), rfl, jQ zj (zA _), rfl, hfS _, by omega, _, rfl, ?_⟩
   walk_at "ra"
   have q0 := f9.non hp2
   have nb2 : b ≠ p2 := fun z => bx9.ne (by rw [z]; exact hp2)
   refine ⟨_, _, I.map (shI by_), rfl, jN zj, by rw [List.length_map]; omega, hS3 _, ?_⟩
   rw [yN]
   refine ⟨_, _, .lst (I.map dI), rfl, rfl, rfl, hfI, by omega, _, rfl, ?_⟩
   rw [if_neg (by decide)]
   refine ⟨⟨_, jR zj⟩, ⟨_, zj⟩, ?_⟩
   rw [v0]
   refine ⟨⟨some (.d dy), .inr ⟨_, rfl⟩, some (.ref p2), ?_, rfl, rfl⟩, f9.mup q0 _, pu9.mup p2 [], ?_, mn9.mup p2 _⟩
   ·intro q hq; injection hq with hq; injection hq with hq; rw [<- hq, zj]; exact fun z => nomatch z
   ·obtain ⟨z1, z2, z3, z4, z5⟩ := bx9
    exact ⟨z1, z2, z3, by rw [zC nb2]; exact z4, z5⟩
  clear f9 pu9 bx9 mn9 tw tz
  rintro ρ M9 ⟨⟨w, z, tw, tz, rfl⟩, f9, pu9, bx9, mn9⟩
  refine ⟨trivial, ?_⟩
  subst hr2
  dsimp only
  refine zE fun r2 hr2 => ?_
  walk_at "ra"
  refine qS (fun o => [some (.d (ilD cs)), some (.d (.int i)), some (.ref b), some (.d (.lst (pls ls))), u, some (.d (.lst (I.map dI))), o, some (.d (.int by_)), some (.d (.lst ((I.map (shI by_)).map dI))), some (.d (.str (shD (.lst (pls ls))))), w, x11, z, x13, x14]) (shA by_) ⟨_, rfl⟩ trivial (by unfold pls; rw [List.length_map, List.length_map]; omega) (fun o y Q hy q => ?_) fun o => ?_
  ·unfold pls at hy
   rw [List.map_map] at hy
   obtain ⟨l, hl, rfl⟩ := List.mem_map.mp hy
   have q := q (some (.d (.lst (l.map deD))))
   have hl9 := (hok l hl).1
   rw [show shA by_ ((AV.d ∘ fun l => Dat.lst (l.map deD)) l) = _ from Z7 by_ l] at q
   show qt 6 (AV.d (.lst (l.map deD))) _ _ _
   walk_at "ra"
   refine ⟨_, by_, l.map deI, rfl, ?_, by rw [List.length_map]; omega, (fun q hq => ?_), q⟩
   ·rw [show (l.map deI).map dI = l.map deD by rw [List.map_map]; exact List.map_congr_left fun d _ => (kC d).symm]; exact qH _ _
   ·obtain ⟨d, _, rfl⟩ := List.mem_map.mp hq
    have := yo d; omega
  rw [show ((pls ls).map AV.d).map (shA by_) = (ls.map fun l => Dat.lst (((l.map deI).map (shI by_)).map dI)).map .d by
   unfold pls
   simp only [List.map_map]
   exact List.map_congr_left fun l _ => (Z7 by_ l).trans (by simp only [List.map_map]; rfl)]
  refine ⟨_, zA _, _, _, ls.map fun l => ((l.map deI).map (shI by_)).map dI, rfl, qH _ _, by rw [List.map_map, List.map_map]; rfl, by rw [List.length_map]; omega, fun l hl => ?_, ?_⟩
  ·obtain ⟨l', hl', rfl⟩ := List.mem_map.mp hl
   have := (hok l' hl').1
   simp only [List.length_map]; omega
  clear o
  rw [eS]
  refine ⟨_, _, .lst ((I.map (shI by_)).map dI), rfl, rfl, rfl, hfS _, by omega, _, rfl, ?_⟩
  rw [if_neg (by decide)]
  refine ⟨.inl ⟨_, rfl⟩, Nat.le_trans hps.1 (by omega), hsh.s, Nat.le_trans hsh.l (by omega), ?_⟩
  subst hr2
  refine zE fun r2 hr2 => ?_
  walk_at "ra"
  refine ⟨b, 12, _, rfl, bx9, by omega, by omega, by omega, fun c1 M4 s4 c10 c11 => ?_⟩
  refine ⟨⟨by decide, by decide, by decide⟩, by omega, _, rfl, b, 8, _, rfl, s4.1, by omega, by omega, by omega, fun c3 M5 s5 _ _ => ⟨_, rfl, by rw [yg]; omega, ?_⟩⟩
  obtain ⟨le, hle⟩ : ∃ m : Int, atI (List.map AV.d [Dat.int c1, Dat.int (10 ^ Int.toNat 18 - 10)]) (if eqD (Dat.int c3) (Dat.int 0) = true then 1 else 0) = some (.d (.int m)) := by
   split
   ·exact ⟨_, rfl⟩
   ·exact ⟨_, rfl⟩
  refine ⟨_, hle, ?_⟩
  have f10 := (f9.bx s4 b0).bx s5 b0
  have pu10 := (pu9.bx s4).bx s5
  have mn10 := (mn9.bx s4).bx s5
  have bx10 := s5.1
  subst hr2
  refine zE fun r2 hr2 => ?_
  walk_at "ra"
  refine ⟨_, 0 - le, I, rfl, qH _ _, by omega, hI3, fun p3 hp3 => ?_⟩
  have q0 := f10.non hp3
  have f11 := f10.mup q0 (.lst (((I.map (shI (0 - le))).map dI).map .d))
  have pu11 := pu10.mup p3 ((I.map (shI (0 - le))).map dI)
  have mn11 := mn10.mup p3 (.lst (((I.map (shI (0 - le))).map dI).map .d))
  have hp11 := zj (M := M5) (a := p3) (o := .lst (((I.map (shI (0 - le))).map dI).map .d))
  have b11 : mup M5 p3 (.lst (((I.map (shI (0 - le))).map dI).map .d)) b ≠ none := by
   by_cases c : b = p3
   ·rw [c, zj]; exact fun z => nomatch z
   ·rw [zC c]; exact bx10.ne
  generalize mup M5 p3 (.lst (((I.map (shI (0 - le))).map dI).map .d)) = M11 at *
  subst hr2
  refine zE fun r2 hr2 => ?_
  walk_at "ra"
  refine qS (fun (o : Option AV × Option AV) => [some (.d (ilD cs)), some (.d (.int i)), some (.ref b), some (.d (.lst (pls ls))), u, some (.d (.lst (I.map dI))), v, some (.d (.int by_)), some (.d (.lst ((I.map (shI by_)).map dI))), some (.d (.str (shD (.lst (pls ls))))), w, some (.d (.int le)), some (.ref p3), o.1, o.2]) (fun y => .d (dI (shI (0 - le) (diA y)))) ⟨(_, _), rfl⟩ trivial (by rw [List.length_map, List.length_map]; omega) (fun o y Q hy q => ?_) fun o => ?_
  ·rw [List.map_map] at hy
   obtain ⟨c, hc, rfl⟩ := List.mem_map.mp hy
   have q := q (some (.d (dI c)), o.2)
   rw [show (AV.d ∘ dI) c = .d (dI c) from rfl, jD] at q
   have hcl := hI2 c hc
   show qt 13 (AV.d (dI c)) _ _ _
   walk_at "ra"
   refine ⟨_, jh _ _, .d (.str c.1), qX (xs := (Dat.str c.1 :: c.2.map Dat.int).map AV.d) (j := 0) rfl, by omega, [.str c.1], rfl, _, rfl, fun z => ?_, ?_⟩
   ·rw [show (1 : Int) = ((1 : Nat) : Int) from rfl, HT.sIx_nat] at z
    have z := z.1
    simp at z
   rw [show kR (Dat.str c.1 :: c.2.map Dat.int) (some 1) none = c.2.map Dat.int from jV (Dat.str c.1 :: c.2.map Dat.int) 1, show (c.2.map Dat.int).map AV.d = c.2.map (AV.d ∘ Dat.int) from List.map_map]
   refine qS (fun z => [some (.d (ilD cs)), some (.d (.int i)), some (.ref b), some (.d (.lst (pls ls))), u, some (.d (.lst (I.map dI))), v, some (.d (.int by_)), some (.d (.lst ((I.map (shI by_)).map dI))), some (.d (.str (shD (.lst (pls ls))))), w, some (.d (.int le)), some (.ref p3), some (.d (dI c)), z]) (ZO (0 - le)) ⟨_, rfl⟩ trivial (by rw [List.length_map]; omega) (fun o y Q hy q => ?_) fun o => ?_
   ·obtain ⟨i, hi, rfl⟩ := List.mem_map.mp hy
    have q := q (some (.d (.int i)))
    rw [show ZO (0 - le) ((AV.d ∘ Dat.int) i) = .d (.int (i - le)) by show AV.d (.int (i + (0 - le))) = _; rw [show i + (0 - le) = i - le by omega]] at q
    show qt 14 (AV.d (.int i)) _ _ _
    walk_at "ra"
    exact q
   ·rw [show c.2.map (AV.d ∘ Dat.int) = c.2.map fun i => AV.d (.int i) from rfl, jT, jM]
    exact ⟨_, rfl, by simp, by simp; omega, q⟩
  rw [show ((I.map dI).map AV.d).map (fun y => AV.d (dI (shI (0 - le) (diA y)))) = ((I.map (shI (0 - le))).map dI).map .d by
   simp only [List.map_map]
   exact List.map_congr_left fun c _ => by show AV.d (dI (shI (0 - le) (diA (.d (dI c))))) = _; rw [jD]; rfl]
  refine ⟨_, zA _, ?_⟩
  clear o
  subst hr2
  walk_at "ra"
  refine ⟨_, _, .lst ((I.map (shI (0 - le))).map dI), rfl, jQ hp11 (zA _), rfl, hfS _, by omega, _, rfl, ?_⟩
  rw [if_neg (by decide)]
  have hbk : (I.map (shI (0 - le))).map (shI le) = I := by
   have := yN (0 - le) I
   rwa [show 0 - (0 - le) = le by omega] at this
  refine ⟨_, le, I.map (shI (0 - le)), rfl, jN hp11, by rw [List.length_map]; omega, hS3 _, ?_⟩
  rw [hbk]
  refine ⟨_, _, .lst (I.map dI), rfl, rfl, rfl, hfI, by omega, _, rfl, ?_⟩
  rw [if_neg (by decide)]
  refine ⟨fun q hq => ?_, f11, pu11⟩
  have hx : ∀ x, x ∈ [x1, x2, x3, x4, x5, x6, x7, x8, x9, x10, x11, x12, x13, x14] -> some (AV.ref q) = x -> M1 q ≠ none := fun x hx z => lv q (by rw [z]; exact hx)
  simp only [List.mem_cons, List.not_mem_nil, or_false] at hq
  rcases hq with h | h | h | h | h | h | h | h | h | h | h | h | h | h
  ·cases h
  ·injection h with h; injection h with h; rw [h]; exact b11
  ·cases h
  ·exact nu.lv mn11 (hx x4 (by simp)) h
  ·cases h
  ·exact nv.lv mn11 (hx x6 (by simp)) h
  ·cases h
  ·cases h
  ·cases h
  ·exact tw.lv mn11 (hx x10 (by simp)) h
  ·cases h
  ·injection h with h; injection h with h; rw [h, hp11]; exact fun z => nomatch z
  ·exact mn11 q (hx x13 (by simp) h)
  ·exact mn11 q (hx x14 (by simp) h)
 ·rintro ρ M' ⟨⟨x1, x2, x3, x4, x5, x6, x7, x8, x9, x10, x11, x12, x13, x14, rfl, lv⟩, f1, pu1⟩
  refine ⟨trivial, ?_⟩
  subst hr0
  walk_at "ra"
  refine ⟨_, [], [], rfl, qH _ _, rfl, by simp, (fun l hl => nomatch hl), _, rfl, by decide, by decide, ?_⟩
  rw [show ([] : List (List Dat)).flatten = [] from rfl, vc (by decide)]
  exact ⟨_, _, K8 f1 _, q⟩
end
theorem all_mk {l : PySem.W.OpenLaw} {w : World} {K : PySem.W.Frag} {h : Heap} {mg : Str -> Option Value} {fa : Addr} (X : K.In h) (G : h.Ns mainGlobals mg) (hfa : mg "law" = some (.ref fa)) (a : At K mg "law" ZM) (B : Blt mg) (Ball : mg "all" = none)
  (a__law_take : At K mg "_law_take" vN) (a__law_box : At K mg "_law_box" Jg) (a__law_folded : At K mg "_law_folded" kY) (a__law_deed : At K mg "_law_deed" vG) (a__law_done : At K mg "_law_done" vR) (a__law_plan : At K mg "_law_plan" vD) (a__law_same : At K mg "_law_same" kU) (a_joined : At K mg "joined" kL) (a_shifted : At K mg "shifted" j5)
  : ∃ fd : FuncData, (∀ (s : Shared) (v : Value), BindsTo s fd ⟨[v], []⟩ [("_law_script", v)]) /\ ∀ base : Heap, K.In base -> base.Ns mainGlobals mg -> jv l.prog w K mg base CX0 20 fa fd ["_law_script"] (wB K) := by
 obtain ⟨f, fd, F, m⟩ := id a
 obtain rfl : fa = f := by rw [hfa] at m; cases m; rfl
 obtain ⟨oc, od, kV, doc, pm, an, cdv, ct, osl, e, lk, hcd⟩ := F.ex
 refine ⟨fd, fun s v => ?_, fun base _ _ => ?_⟩
 ·subst e; exact .of_eq rfl
 ·have T := Ju (P := l.prog) (w := w) (base := base) a__law_take B
  have pl := (J8 (P := l.prog) (w := w) (base := base) a__law_plan B (KI a__law_deed B T) ((JA a__law_done B).mono (by decide))).imp' Kc
  have jo := vp (P := l.prog) (w := w) (base := base) a_joined B
  have sh := yD (P := l.prog) (w := w) (base := base) a_shifted B
  have L := X9 (P := l.prog) (w := w) (base := base) a B (((Ya a__law_box B).imp' YC).mono (by decide)) (((ZF a__law_folded B).imp' Zj).mono (by decide)) ((T.imp' Kv).mono (by decide)) (pl.mono (by decide)) ((yY a__law_same B Ball 6).mono (by decide)) ((jo.imp' Zq).mono (by decide)) (jo.mono (by decide)) ((sh.imp' vV).mono (by decide)) (sh.mono (by decide))
  exact (L.imp' (sp_law (K := K))).fn m lk
theorem walk {l : PySem.W.OpenLaw} {q : Program} {loose : List Str} {XP : (Str -> Option Value) -> Heap -> Prop} {YP : World -> Heap -> Prop} {d : DefRec} {K : Params -> PySem.W.Frag} (hn : l.most = some 63) (hdf : d.params.defaults = [])
  (hY : ∀ (w : World) (h : Heap), YP w h -> (K w.params).In h)
  (F : ∀ (w : World) (mg : Str -> Option Value) (fa : Addr) (h : Heap), (K w.params).In h -> h.Ns mainGlobals mg -> mg d.name = some (.ref fa) ->
   ∃ fd : FuncData, (∀ (s : Shared) (u : Value), BindsTo s fd ⟨[u], []⟩ [("_law_script", u)]) /\ ∀ base : Heap, (K w.params).In base -> base.Ns mainGlobals mg -> jv l.prog w (K w.params) mg base CX0 20 fa fd ["_law_script"] (wB (K w.params))) :
  PySem.W.WalkO q loose XP YP l.row.toRowW d [] (fun f vs => PySem.call f vs) :=
 L2.walk_of (n := 63) (k := 20) (x := "_law_script") (CX := fun _ => CX0) (sp := fun w => wB (K w.params)) hn (by decide) hdf ⟨rfl, rfl, by decide, by decide⟩ hY F (fun _ _ a ns hl _ hS => ⟨a, ns, rfl, hS, hl, fun _ => rfl⟩) fun _ _ _ _ _ z => z
end Ot
open PySem PySem.W PyProof.Rows
set_option maxRecDepth 100000 in
set_option maxHeartbeats 0 in
theorem PySem.Challenge.cw_ownturn_k53_plans_joined_and_shifted_holds : PySem.Challenge.rw_ownturn_k53_plans_joined_and_shifted.Holds := by
 w_on; o_law; k_head; (case hw => w_witness2)
 k_fill
 refine Ot.walk (l := PySem.Challenge.rw_ownturn_k53_plans_joined_and_shifted) rfl rfl (fun w h Y => PySem.W.kIn_of Y) ?F
 case F =>
  intro w mg fa h KX G hmg
  refine' Ot.all_mk KX G hmg (L2.at_mk KX G ?a0 ?l0 ?c0 ?k0) (L2.blt_mk KX G ?z1 ?z2 ?z3 ?z4 ?z5 ?z6 ?z7 ?z8 ?z9 ?z10 ?z11 ?z12 ?z13 ?z14 ?z15 ?z16) (PySem.W.mg_none_of KX G ?zall) (L2.at_mk KX G ?a1 ?l1 ?c1 ?k1) (L2.at_mk KX G ?a2 ?l2 ?c2 ?k2) (L2.at_mk KX G ?a3 ?l3 ?c3 ?k3) (L2.at_mk KX G ?a4 ?l4 ?c4 ?k4) (L2.at_mk KX G ?a5 ?l5 ?c5 ?k5) (L2.at_mk KX G ?a6 ?l6 ?c6 ?k6) (L2.at_mk KX G ?a7 ?l7 ?c7 ?k7) (L2.at_mk KX G ?a8 ?l8 ?c8 ?k8) (L2.at_mk KX G ?a9 ?l9 ?c9 ?k9)
  (case a0 => k_is); (case l0 => k_is); (case c0 => k_is); (case k0 => k_is)
  (case a1 => k_is); (case l1 => k_is); (case c1 => k_is); (case k1 => k_is)
  (case a2 => k_is); (case l2 => k_is); (case c2 => k_is); (case k2 => k_is)
  (case a3 => k_is); (case l3 => k_is); (case c3 => k_is); (case k3 => k_is)
  (case a4 => k_is); (case l4 => k_is); (case c4 => k_is); (case k4 => k_is)
  (case a5 => k_is); (case l5 => k_is); (case c5 => k_is); (case k5 => k_is)
  (case a6 => k_is); (case l6 => k_is); (case c6 => k_is); (case k6 => k_is)
  (case a7 => k_is); (case l7 => k_is); (case c7 => k_is); (case k7 => k_is)
  (case a8 => k_is); (case l8 => k_is); (case c8 => k_is); (case k8 => k_is)
  (case a9 => k_is); (case l9 => k_is); (case c9 => k_is); (case k9 => k_is)
  (case zall => k_is)
  (case z1 => k_is)
  (case z2 => k_is)
  (case z3 => k_is)
  (case z4 => k_is)
  (case z5 => k_is)
  (case z6 => k_is)
  (case z7 => k_is)
  (case z8 => k_is)
  (case z9 => k_is)
  (case z10 => k_is)
  (case z11 => k_is)
  (case z12 => k_is)
  (case z13 => k_is)
  (case z14 => k_is)
  (case z15 => k_is)
  (case z16 => k_is)
