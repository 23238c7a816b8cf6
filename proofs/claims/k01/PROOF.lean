import PyProof.Rows.All
import Wide.All
import OpenK.AllK
import Wide.FinOn
import Lean
import PyProof.EqAt
import PyProof.EqKinds
import PyProof.TupleCall
import PySem.Challenge.RW_ownturn_k01_what_orders_are
set_option Elab.async false
set_option linter.all false
set_option maxRecDepth 100000
namespace L2
open PySem PySem.Spec PyProof.Rows
abbrev Key := Sum Int Str
def K9 : Key -> Value -> Bool
 | .inl k, v => Value.isInt k v
 | .inr x, v => Value.isStrOf x v
def Wl (w : World) : Key -> Int
 | .inl k => hashInt k
 | .inr x => hashStr w x
theorem zP : ∀ {k : Key} {v : Value}, K9 k v = true -> (∃ i t, k = Sum.inl i /\ v = Value.int i t) \/ (∃ x t, k = Sum.inr x /\ v = Value.str x t)
 | .inl i, v, h => by
  obtain ⟨t, e⟩ := Value.isInt_shape (k := i) (v := v) h
  exact .inl ⟨i, t, rfl, e⟩
 | .inr x, v, h => by
  obtain ⟨t, e⟩ := Value.isStrOf_shape (x := x) (v := v) h
  exact .inr ⟨x, t, rfl, e⟩
theorem YS (a b : Int) : decide ((Sum.inl a : Key) = Sum.inl b) = (a == b) := by
 by_cases e : a = b
 ·subst e; simp
 ·have h : ¬ (Sum.inl a : Key) = Sum.inl b := fun q => e (Sum.inl.inj q)
  rw [decide_eq_false h]
  exact (beq_eq_false_iff_ne.mpr e).symm
theorem Vg (a b : Str) : decide ((Sum.inr a : Key) = Sum.inr b) = decide (a = b) := by
 by_cases e : a = b
 ·subst e; simp
 ·have h : ¬ (Sum.inr a : Key) = Sum.inr b := fun q => e (Sum.inr.inj q)
  rw [decide_eq_false h, decide_eq_false e]
theorem Ye (a : Int) (b : Str) : decide ((Sum.inl a : Key) = Sum.inr b) = false := decide_eq_false (fun q => nomatch q)
theorem Yn (a : Str) (b : Int) : decide ((Sum.inr a : Key) = Sum.inl b) = false := decide_eq_false (fun q => nomatch q)
def kC (prog : Program) (w : World) : PySem.KeyKind prog w Key where
 is := K9
 hash := Wl w
 inj := fun v a b ha hb => by
  rcases zP ha with ⟨i, t, rfl, rfl⟩ | ⟨x, t, rfl, rfl⟩
  ·rcases zP hb with ⟨j, u, rfl, e⟩ | ⟨y, u, rfl, e⟩
   ·injection e with e1 _; rw [e1]
   ·exact nomatch e
  ·rcases zP hb with ⟨j, u, rfl, e⟩ | ⟨y, u, rfl, e⟩
   ·exact nomatch e
   ·injection e with e1 _; rw [e1]
 byValue := fun k v h => by
  rcases zP h with ⟨i, t, rfl, rfl⟩ | ⟨x, t, rfl, rfl⟩ <;> rfl
 pyHash := fun hv h => by
  rcases zP hv with ⟨i, t, rfl, rfl⟩ | ⟨x, t, rfl, rfl⟩
  ·exact wpAny_pyHash_int h
  ·exact wpAny_pyHash_str h
 eqBool := fun hu hv h => by
  rcases zP hu with ⟨i, t, rfl, rfl⟩ | ⟨x, t, rfl, rfl⟩
  ·rcases zP hv with ⟨j, u, rfl, rfl⟩ | ⟨y, u, rfl, rfl⟩
   ·rw [YS] at h; exact wpAny_eqBool_int h
   ·rw [Ye] at h; exact SeqAt.EqAt.int_str i t y u _ _ _ _ h
  ·rcases zP hv with ⟨j, u, rfl, rfl⟩ | ⟨y, u, rfl, rfl⟩
   ·rw [Yn] at h; exact SeqAt.EqAt.str_int x t j u _ _ _ _ h
   ·rw [Vg] at h; exact wpAny_eqBool_str h
 «strs» := fun k x t v h => by
  rcases zP h with ⟨i, u, rfl, e⟩ | ⟨y, u, rfl, e⟩
  ·exact nomatch e
  ·injection e with e1 _
   subst e1
   cases v <;> rfl
end L2
namespace L2
open PySem PySem.Spec PyProof.Rows
inductive V where
 | non | bl (b : Bool) | int (i : Int) | str (x : Str) | byt (b : Array UInt8) | flt (b : UInt64) | ref (a : Addr) | ty (n : String)
 deriving DecidableEq
def zr : V -> Value -> Prop
 | .non, u => u = Value.none
 | .bl b, u => u = Value.bool b
 | .int i, u => ∃ t, u = Value.int i t
 | .str x, u => ∃ t, u = Value.str x t
 | .byt b, u => ∃ t, u = Value.bytes b t
 | .flt b, u => ∃ t, u = Value.float b t
 | .ref a, u => u = Value.ref a
 | .ty n, u => u = Value.type n
abbrev zq : List V -> List Value -> Prop := Paired zr
theorem zq.length {xs : List V} {us : List Value} (r : zq xs us) : xs.length = us.length := Paired.length r
theorem zq.get : ∀ {xs : List V} {us : List Value} {i : Nat} {x : V}, zq xs us -> xs[i]? = some x -> ∃ u, us[i]? = some u /\ zr x u
 | _, _, _, _, .nil, e => by simp at e
 | _, _, 0, _, .cons r _, e => by simp at e; subst e; exact ⟨_, rfl, r⟩
 | _, _, i + 1, x, .cons _ t, e => by
  obtain ⟨u, h1, h2⟩ := zq.get (i := i) (x := x) t (by simpa using e)
  exact ⟨u, by simpa using h1, h2⟩
theorem zq.set {x : V} {u : Value} (r : zr x u) : ∀ {xs : List V} {us : List Value} (i : Nat), zq xs us -> zq (xs.set i x) (us.set i u)
 | _, _, _, .nil => .nil
 | _, _, 0, .cons _ t => .cons r t
 | _, _, i + 1, .cons q t => .cons q (zq.set r i t)
theorem zq.append : ∀ {xs ys : List V} {us ws : List Value}, zq xs us -> zq ys ws -> zq (xs ++ ys) (us ++ ws)
 | _, _, _, _, .nil, s => s
 | _, _, _, _, .cons r t, s => .cons r (zq.append t s)
theorem zq.take : ∀ {xs : List V} {us : List Value} (n : Nat), zq xs us -> zq (xs.take n) (us.take n)
 | _, _, 0, _ => .nil
 | _, _, _ + 1, .nil => .nil
 | _, _, n + 1, .cons r t => .cons r (zq.take n t)
theorem zq.drop : ∀ {xs : List V} {us : List Value} (n : Nat), zq xs us -> zq (xs.drop n) (us.drop n)
 | _, _, 0, r => r
 | _, _, _ + 1, .nil => .nil
 | _, _, n + 1, .cons _ t => zq.drop n t
def Yl : Option V -> Option Value -> Prop
 | some v, some u => zr v u
 | none, none => True
 | _, _ => False
def KV {κ : Type} : List (κ × V) -> List (κ × Value) -> Prop := Paired fun (p : κ × V) (q : κ × Value) => p.1 = q.1 /\ zr p.2 q.2
def kV : Key -> V
 | .inl i => .int i
 | .inr x => .str x
inductive HO where
  | lst (xs : List V)
  | tup (xs : List V)
  | dK (kvs : List (Key × V)) | dT (kvs : List (List Key × V))
  | set (S : Int -> Bool) (n : Nat)
  | ins (C dx : Addr) (fs : List (Str × V))
  | own (x : Addr)
  | xd (fs : List (Str × V))
  | met (f x : Addr)
  | rng (lo hi : Int)
  | frz (o : Obj) (u : HO)
  | tbl (ps : Array Value)
  | ext (φ : Heap -> Prop)
abbrev Hp := Addr -> Option HO
def upd (H : Hp) (a : Addr) (o : HO) : Hp := fun b => if b = a then some o else H b
theorem zf {H : Hp} {a : Addr} {o : HO} : upd H a o a = some o := by unfold upd; rw [if_pos rfl]
theorem zh {H : Hp} {a b : Addr} {o : HO} (h : b ≠ a) : upd H a o b = H b := by unfold upd; rw [if_neg h]
theorem Qq {H : Hp} {a b : Addr} {o u : HO} (h : H a = some o) (h' : H b = some u) (d : o ≠ u) : a ≠ b := by
 intro e; subst e; rw [h] at h'; exact d (Option.some.inj h')
theorem zd {H : Hp} {a b : Addr} {o : HO} (h : H a = some o) (h' : H b = none) : a ≠ b := by
 intro e; subst e; rw [h] at h'; cases h'
section
variable (P : Program) (w : World)
def zK (H : Hp) (h : Heap) (a : Addr) : HO -> Prop
  | .lst xs => xs.length <= sizeLine /\ ∃ (its : List Value) (n : Nat), zq xs its /\ h.get? a = some { cls := .type "list", data := .seq its.toArray n }
  | .tup xs => xs.length <= sizeLine /\ ∃ its : List Value, zq xs its /\ IsTup h a its.toArray
  | .dK kvs => kvs.length <= sizeLine /\ (a == sysModules) = false /\ ∃ vs, KV kvs vs /\ h.DictOf (kC P w) a vs
  | .dT kvs => kvs.length <= sizeLine /\ (a == sysModules) = false /\ ∃ xs : List (List Key × Addr × Value),
      Paired (fun (p : List Key × V) (q : List Key × Addr × Value) => p.1 = q.1 /\ H q.2.1 = some (.tup (p.1.map kV)) /\ zr p.2 q.2.2) kvs xs /\
      ∃ o es ep, h.get? a = some o /\ o.ExactDict /\ o.data = .dict es ep /\ es.toList = xs.map (entryOfKey (tupleKind (kC P w))) /\ (xs.map (·.1)).Nodup
  | .set S n => h.SetOf (intKind P w) a S n
  | .ins C dx fs => H dx = some (.own a) /\ fs.length <= 1000 /\ dx ≠ a /\ h.get? a = some (PySem.W.instObj C dx) /\
      ∃ mA, h.Ns1 dx mA /\ (∀ f, Yl (fs.lookup f) (mA f)) /\ PySem.Within mA (fs.map (·.1))
  | .own _ => ∃ o, h.get? a = some o
  | .xd fs => ∃ mA, h.Ns1 a mA /\ ∀ f, Yl (fs.lookup f) (mA f)
  | .rng lo hi => ∃ t u v, h.get? a = some { cls := .type "range", data := .fields #[.int lo t, .int hi u, .int 1 v] }
  | .frz o u => h.get? a = some o /\ zK H h a u
  | .tbl ps => h.get? a = some { cls := .none, data := .fields ps }
  | .met f x => h.get? a = some (PySem.W.methodObj (.ref f) (.ref x))
  | .ext φ => φ h /\ (∃ o, h.get? a = some o) /\ ∀ h1 h2 : Heap, φ h1 -> (∀ o, h1.get? a = some o -> h2.get? a = some o) -> φ h2
def HOk (H : Hp) (h : Heap) : Prop := ∀ a o, H a = some o -> zK P w H h a o
end
section
variable {P : Program} {w : World} {H H' : Hp} {h h' : Heap} {a : Addr} {o : HO}
theorem zK.lt (x : zK P w H h a o) : a < h.objs.size := by
 cases o with
 | lst xs => obtain ⟨_, _, _, _, e⟩ := x; exact Heap.lt_size e
 | tup xs => obtain ⟨_, _, _, p⟩ := x; exact p.lt
 | dK kvs => obtain ⟨_, _, _, _, o, _, _, e, _⟩ := x; exact Heap.lt_size e
 | dT kvs => obtain ⟨_, _, _, _, o, _, _, e, _⟩ := x; exact Heap.lt_size e
 | set S n => obtain ⟨o, _, _, _, e, _⟩ := x; exact Heap.lt_size e
 | ins C dx fs => obtain ⟨_, _, _, e, _⟩ := x; exact Heap.lt_size e
 | own y => obtain ⟨_, e⟩ := x; exact Heap.lt_size e
 | xd fs => obtain ⟨_, ⟨_, _, _, e, _⟩, _⟩ := x; exact Heap.lt_size e
 | rng lo hi => obtain ⟨_, _, _, e⟩ := x; exact Heap.lt_size e
 | frz ob u => obtain ⟨e, _⟩ := x; exact Heap.lt_size e
 | tbl ps => exact Heap.lt_size (show h.get? a = some _ from x)
 | met f y => exact Heap.lt_size (show h.get? a = some _ from x)
 | ext φ => obtain ⟨_, ⟨_, e⟩, _⟩ := x; exact Heap.lt_size e
theorem Paired.mapP {α β : Type} {F G : α -> β -> Prop} : ∀ {l₁ : List α} {l₂ : List β}, Paired F l₁ l₂ -> (∀ a b, F a b -> G a b) -> Paired G l₁ l₂
 | _, _, .nil, _ => .nil
 | _, _, .cons r t, f => .cons (f _ _ r) (Paired.mapP t f)
theorem zK.stay (x : zK P w H h a o) (k : ∀ b u, (b = a \/ H b = some (.own a)) -> h.get? b = some u -> h'.get? b = some u)
  (ho : ∀ b, H b = some (.own a) -> H' b = some (.own a)) (ht : ∀ b xs, H b = some (.tup xs) -> H' b = some (.tup xs)) : zK P w H' h' a o := by
 induction o with
 | lst xs => obtain ⟨z, its, n, r, e⟩ := x; exact ⟨z, its, n, r, k _ _ (.inl rfl) e⟩
 | tup xs => obtain ⟨z, its, r, ob, e, c⟩ := x; exact ⟨z, its, r, ob, k _ _ (.inl rfl) e, c⟩
 | dK kvs => obtain ⟨z, y, vs, r, ob, es, ep, e, c⟩ := x; exact ⟨z, y, vs, r, ob, es, ep, k _ _ (.inl rfl) e, c⟩
 | dT kvs =>
  obtain ⟨z, y, xs, r, ob, es, ep, e, c⟩ := x
  exact ⟨z, y, xs, Paired.mapP r fun p q z => ⟨z.1, ht _ _ z.2.1, z.2.2⟩, ob, es, ep, k _ _ (.inl rfl) e, c⟩
 | set S n => obtain ⟨ob, es, ep, t, e, c⟩ := x; exact ⟨ob, es, ep, t, k _ _ (.inl rfl) e, c⟩
 | ins C dx fs =>
  obtain ⟨d, z, ne, e, mA, ⟨od, es, ep, e2, c⟩, r⟩ := x
  exact ⟨ho _ d, z, ne, k _ _ (.inl rfl) e, mA, ⟨od, es, ep, k _ _ (.inr d) e2, c⟩, r⟩
 | own y => obtain ⟨ob, e⟩ := x; exact ⟨ob, k _ _ (.inl rfl) e⟩
 | xd fs => obtain ⟨mA, ⟨od, es, ep, e, c⟩, r⟩ := x; exact ⟨mA, ⟨od, es, ep, k _ _ (.inl rfl) e, c⟩, r⟩
 | rng lo hi => obtain ⟨t, u, v, e⟩ := x; exact ⟨t, u, v, k _ _ (.inl rfl) e⟩
 | frz ob u ih => obtain ⟨e, q⟩ := x; exact ⟨k _ _ (.inl rfl) e, ih q⟩
 | tbl ps =>
  have e : h.get? a = some { cls := .none, data := .fields ps } := x
  show h'.get? a = some { cls := .none, data := .fields ps }
  exact k a _ (.inl rfl) e
 | met f y =>
  have e : h.get? a = some (PySem.W.methodObj (.ref f) (.ref y)) := x
  show h'.get? a = some (PySem.W.methodObj (.ref f) (.ref y))
  exact k a _ (.inl rfl) e
 | ext φ => obtain ⟨p, ⟨o, e⟩, st⟩ := x; exact ⟨st _ _ p fun o q => k _ _ (.inl rfl) q, ⟨o, k _ _ (.inl rfl) e⟩, st⟩
theorem HOk.lt (x : HOk P w H h) (e : H a = some o) : a < h.objs.size := (x a o e).lt
theorem HOk.fresh (x : HOk P w H h) (e : h.objs.size <= a) : H a = none := by
 cases q : H a with
 | none => rfl
 | some u => exact absurd (Nat.lt_of_lt_of_le (x.lt q) e) (Nat.lt_irrefl _)
theorem HOk.kept (x : HOk P w H h) (k : ∀ b u, h.get? b = some u -> h'.get? b = some u) : HOk P w H h' := fun a o e =>
 (x a o e).stay (fun b u _ q => k b u q) (fun _ q => q) fun _ _ q => q
theorem HOk.laid (x : HOk P w H h) (k : ∀ b u, h.get? b = some u -> h'.get? b = some u) (hp : h.objs.size <= a) (new : zK P w (upd H a o) h' a o) : HOk P w (upd H a o) h' := fun b u e => by
 have hn := x.fresh hp
 by_cases hb : b = a
 ·subst hb; rw [zf] at e; cases e; exact new
 ·rw [zh hb] at e
  exact (x b u e).stay (fun c v _ q => k c v q) (fun c q => by rw [zh (zd q hn)]; exact q) fun c xs q => by rw [zh (zd q hn)]; exact q
end
def Rd (H : Hp) (a : Addr) (u : HO) : Prop := H a = some u \/ ∃ o, H a = some (.frz o u)
theorem Rd.ok {P : Program} {w : World} {H : Hp} {h : Heap} {a : Addr} {u : HO} (r : Rd H a u) (x : HOk P w H h) : zK P w H h a u := by
 rcases r with r | ⟨o, r⟩
 ·exact x a u r
 ·obtain ⟨_, q⟩ := x a _ r
  exact q
def Mut : Option HO -> Prop
 | some (.lst _) => True
 | some (.dK _) => True
 | some (.dT _) => True
 | some (.set _ _) => True
 | some (.ins _ _ _) => True
 | some (.ext _) => True
 | _ => False
section
variable {P : Program} {w : World} {H : Hp} {h h' : Heap} {x e : Addr} {o' : HO}
theorem HOk.write (ok : HOk P w H h) (mu : Mut (H x)) (he : e = x \/ H e = some (.own x)) (k : ∀ b u, b ≠ e -> h.get? b = some u -> h'.get? b = some u) (heo : ∃ u, h'.get? e = some u)
    (new : zK P w (upd H x o') h' x o') : HOk P w (upd H x o') h' := fun b u q => by
  have nown : ∀ c y, H c = some (.own y) -> c ≠ x := fun c y r z => by subst z; rw [r] at mu; exact mu
  have ntup : ∀ c xs, H c = some (.tup xs) -> c ≠ x := fun c xs r z => by subst z; rw [r] at mu; exact mu
  by_cases hb : b = x
  · subst hb; rw [zf] at q; cases q; exact new
  · rw [zh hb] at q
    by_cases hbe : b = e
    · have q' : H b = some (.own x) := by
        rcases he with z | z
        · exact absurd (hbe.trans z) hb
        · rw [hbe]; exact z
      rw [q] at q'; cases q'
      obtain ⟨v, hv⟩ := heo
      exact ⟨v, by rw [hbe]; exact hv⟩
    · refine (ok b u q).stay (fun c v hc r => k c v ?_ r) (fun c r => by rw [zh (nown c b r)]; exact r) fun c xs r => by rw [zh (ntup c xs r)]; exact r
      rcases hc with rfl | hc
      · exact hbe
      · rintro rfl
        rcases he with z | z
        · exact nown c b hc z
        · rw [hc] at z; cases z; exact hb rfl
end
structure Un (fs ex : List Addr) (H H' : Hp) (h h' : Heap) : Prop where
 keep : ∀ b o, h.get? b = some o -> H b = none -> b ∉ fs -> b ∉ ex -> h'.get? b = some o
 slot : ∀ b o, h.get? b = some o -> H b = none -> b ∈ fs -> b ∉ ex -> ∃ sl, h'.get? b = some { o with slots := sl }
 free : ∀ b o, h.get? b = some o -> H b = none -> b ∉ ex -> H' b = none
 there : ∀ b o, h.get? b = some o -> b ∉ ex -> ∃ o', h'.get? b = some o'
 tups : ∀ b xs, H b = some (.tup xs) -> H' b = some (.tup xs)
 frzs : ∀ b o u, H b = some (.frz o u) -> H' b = some (.frz o u)
 tbls : ∀ b ps, H b = some (.tbl ps) -> ∃ more, H' b = some (.tbl (ps ++ more))
section
variable {fs fs' ex ex' : List Addr} {H H1 H2 : Hp} {h h1 h2 h' : Heap} {a x e : Addr} {o : HO}
theorem Un.any (u : Un fs ex H H1 h h1) {b : Addr} {ob : Obj} (q : h.get? b = some ob) (n : H b = none) (hx : b ∉ ex) : ∃ sl, h1.get? b = some { ob with slots := sl } := by
 by_cases hb : b ∈ fs
 ·exact u.slot b ob q n hb hx
 ·exact ⟨ob.slots, u.keep b ob q n hb hx⟩
theorem Un.kept (k : ∀ b u, h.get? b = some u -> h'.get? b = some u) : Un fs ex H H h h' :=
 ⟨fun b ob q _ _ _ => k b ob q, fun b ob q _ _ _ => ⟨ob.slots, k b ob q⟩, fun _ _ _ n _ => n, fun b ob q _ => ⟨ob, k b ob q⟩, fun _ _ q => q, fun _ _ _ q => q, fun _ ps q => ⟨#[], by rw [q]; simp⟩⟩
theorem Un.refl : Un fs ex H H h h := Un.kept fun _ _ q => q
theorem Un.laid (k : ∀ b u, h.get? b = some u -> h'.get? b = some u) (hp : h.objs.size <= a) (hn : H a = none) : Un fs ex H (upd H a o) h h' where
 keep := fun b u q _ _ _ => k b u q
 slot := fun b u q _ _ _ => ⟨u.slots, k b u q⟩
 free := fun b u q n _ => by rw [zh (Nat.ne_of_lt (Nat.lt_of_lt_of_le (Heap.lt_size q) hp))]; exact n
 there := fun b u q _ => ⟨u, k b u q⟩
 tups := fun b xs q => by rw [zh (zd q hn)]; exact q
 frzs := fun b u xs q => by rw [zh (zd q hn)]; exact q
 tbls := fun b ps q => ⟨#[], by rw [zh (zd q hn), q]; simp⟩
theorem Un.write (mu : Mut (H x)) (he : e = x \/ H e = some (.own x)) (k : ∀ b u, b ≠ e -> h.get? b = some u -> h'.get? b = some u) (heo : ∃ u, h'.get? e = some u) : Un fs ex H (upd H x o) h h' := by
 have hx : ∀ b, H b = none -> b ≠ x := fun b n z => by subst z; rw [n] at mu; exact mu
 have hb : ∀ b, H b = none -> b ≠ e := fun b n z => by
  subst z
  rcases he with r | r
  ·exact hx b n r
  ·rw [n] at r; cases r
 have hm : ∀ b u, H b = some u -> ¬ Mut (some u) -> b ≠ x := fun b u q nm z => by subst z; rw [q] at mu; exact nm mu
 refine ⟨fun b u q n _ _ => k b u (hb b n) q, fun b u q n _ _ => ⟨u.slots, k b u (hb b n) q⟩, fun b u q n _ => by rw [zh (hx b n)]; exact n, fun b u q _ => ?_,
  fun b xs q => by rw [zh (hm b _ q fun z => z)]; exact q, fun b u xs q => by rw [zh (hm b _ q fun z => z)]; exact q, fun b ps q => ⟨#[], by rw [zh (hm b _ q fun z => z), q]; simp⟩⟩
 by_cases hbe : b = e
 ·subst hbe; exact heo
 ·exact ⟨u, k b u hbe q⟩
end
def trk (h : Heap) (H : Hp) : List Addr := (List.range h.objs.size).filter fun a => (H a).isSome
def yi (h : Heap) (H : Hp) : Heap := PySem.W.hideAll h (trk h H)
theorem w6 (h : Heap) (H : Hp) : (yi h H).objs.size = h.objs.size := PySem.W.hideAll_size _ _
theorem JD {h : Heap} {H : Hp} {b : Addr} {o : Obj} (e : h.get? b = some o) (n : H b = none) : (yi h H).get? b = some o :=
 PySem.W.hideAll_get _ e fun hm => by
  have q : (H b).isSome = true := (List.mem_filter.mp hm).2
  rw [n] at q; simp at q
theorem JV {h : Heap} {H : Hp} {b : Addr} {o : Obj} (e : (yi h H).get? b = some o) : h.get? b = some o /\ H b = none := by
 have e' : h.get? b = some o := PySem.W.of_hideAll (trk h H) e
 refine ⟨e', ?_⟩
 cases q : H b with
 | none => rfl
 | some x =>
  have hm : b ∈ trk h H := List.mem_filter.mpr ⟨List.mem_range.mpr (Heap.lt_size e'), by simp [q]⟩
  have z : (yi h H).get? b = none := PySem.W.hideAll_none (trk h H) hm
  rw [z] at e; cases e
def JX (g h : Heap) (L : Addr) : List (Addr × Obj) := (List.range h.objs.size).filterMap fun a => if a = L \/ (g.get? a).isSome = true then none else (h.get? a).map fun o => (a, o)
def jr (g h : Heap) (L d : Addr) : List (Addr × Obj) := (JX g h L).filter fun p => decide (p.1 ≠ d)
end L2
namespace L2
open PySem PySem.Spec PyProof.Rows
structure Mod (K : PySem.W.Frag) (mg : Str -> Option Value) (base : Heap) : Prop where
 kin : K.In base
 glob : base.Ns mainGlobals mg
 blt : ∃ mb, base.Ns builtinsNs mb /\ ∀ x : Str, x ≠ "__name__" -> mb x = bootBuiltins x
 nolimit : base.NoLimit
structure Cx where
 prog : Program
 w : World
 K : PySem.W.Frag
 mg : Str -> Option Value
 base : Heap
 A : Around
 N : List Str
 s₀ : Shared
 H₀ : Hp
 env : Env
 outer : List Env
 stack : List Env
 ex : List Addr
 fn : Str -> Bool
 calm : Bool
 pn : List (Addr × Obj)
 xe : Value -> Shared -> Prop
def frs (l : List Env) : List Addr := l.filterMap (·.frame)
abbrev Cx.fs (X : Cx) : List Addr := frs X.outer
def Vis (sc : Scope) (x : Str) : Prop := sc.names.lookup x = some .local \/ sc.names.lookup x = some .cell \/ sc.names.lookup x = some .free
def Loc (sc : Scope) (x : Str) : Prop := sc.names.lookup x = some .local \/ sc.names.lookup x = some .cell
def Wq (env : Env) (h : Heap) (m : Str -> Option Value) (x : Str) (u : Value) : Prop :=
 (env.kindOf x = some .local /\ m x = some u) \/ ((env.kindOf x = some .cell \/ env.kindOf x = some .free) /\ ∃ c, env.cells.lookup x = some c /\ h.IsCell c (some u))
structure Cx.Ok (X : Cx) : Prop where
 mod : Mod X.K X.mg X.base
 kind : X.env.scope.kind = .function
 glob : X.env.globals = mainGlobals
 blt : X.env.builtins = builtinsNs
 above : X.s₀.heap.objs.size <= X.env.locals
 inj : ∀ x y c, X.env.cells.lookup x = some c -> X.env.cells.lookup y = some c -> x = y
 has : ∀ x, (X.env.kindOf x = some .cell \/ X.env.kindOf x = some .free) -> ∃ c, X.env.cells.lookup x = some c
 cab : ∀ x c, X.fn x = true -> X.env.cells.lookup x = some c -> X.s₀.heap.objs.size <= c
 hd : X.calm = true -> X.A.handled = none
 frames : X.A.frames = some X.stack
 stk : X.stack = X.outer \/ (X.stack = X.env :: X.outer /\ X.env.frame = some X.env.locals)
 exf : ∀ b ∈ X.ex, b ≠ X.env.locals /\ ∀ x c, X.env.cells.lookup x = some c -> c ≠ b
 bs : ∀ b o, X.base.get? b = some o -> X.s₀.heap.get? b = some o /\ X.H₀ b = none
 bsz : X.base.objs.size <= X.s₀.heap.objs.size
 noex : ∀ b o, X.base.get? b = some o -> b ∉ X.ex
 exfs : ∀ b ∈ X.ex, b ∉ X.fs
 funs : X.s₀.heap.FunFrames X.base X.outer
 frf : ∀ b ∈ X.fs, X.H₀ b = none
structure Inv (X : Cx) (pins : List (Addr × Obj)) (σ : List (Option V)) (H : Hp) (s : Shared) : Prop where
 ok : X.Ok
 os : s.os = X.s₀.os
 bare : AllBare s.gens
 base : Un X.fs X.ex X.H₀ H X.s₀.heap s.heap
 loc : ∃ m, s.heap.Ns X.env.locals m /\ ∀ (i : Nat) (x : Str) (v : V), X.N[i]? = some x -> σ[i]? = some (some v) -> Vis X.env.scope x -> ∃ u, zr v u /\ Wq X.env s.heap m x u
 cell : ∀ x c, X.env.cells.lookup x = some c -> ∃ v, s.heap.IsCell c v
 free : H X.env.locals = none
 freeC : ∀ x c, X.env.cells.lookup x = some c -> H c = none
 pin : ∀ p ∈ X.pn ++ pins, s.heap.get? p.1 = some p.2 /\ H p.1 = none /\ p.1 ≠ X.env.locals /\ p.1 ∉ X.fs /\ ∀ v, p.2.data ≠ .cell v
 hok : HOk X.prog X.w H s.heap
 len : σ.length = X.N.length
section
variable {X : Cx} {pins : List (Addr × Obj)} {σ : List (Option V)} {H H' : Hp} {s : Shared} {h' : Heap}
theorem Cx.Ok.nofr (ok : X.Ok) {b : Addr} {o : Obj} (e : X.base.get? b = some o) : b ∉ X.fs := fun hb => by
 have := (ok.funs.mem hb).1
 rw [e] at this; cases this
theorem Inv.bs (I : Inv X pins σ H s) : ∀ b o, X.base.get? b = some o -> s.heap.get? b = some o /\ H b = none := fun b o e =>
 ⟨I.base.keep b o (I.ok.bs b o e).1 (I.ok.bs b o e).2 (I.ok.nofr e) (I.ok.noex b o e), I.base.free b o (I.ok.bs b o e).1 (I.ok.bs b o e).2 (I.ok.noex b o e)⟩
theorem Inv.bk (I : Inv X pins σ H s) : ∀ b o, X.base.get? b = some o -> s.heap.get? b = some o := fun b o e => (I.bs b o e).1
theorem Inv.mod (I : Inv X pins σ H s) : Mod X.K X.mg X.base := I.ok.mod
theorem Inv.kIn (I : Inv X pins σ H s) : X.K.In s.heap := I.ok.mod.kin.keeps I.bk
theorem Inv.lt (I : Inv X pins σ H s) : X.env.locals < s.heap.objs.size := let ⟨_, hn, _⟩ := I.loc; hn.lt
theorem Inv.sz (I : Inv X pins σ H s) : X.s₀.heap.objs.size <= s.heap.objs.size := Nat.le_trans I.ok.above (Nat.le_of_lt I.lt)
theorem Inv.nofs (I : Inv X pins σ H s) {a : Addr} (h : s.heap.objs.size <= a) : a ∉ X.fs := fun hb => by
 obtain ⟨_, o, ho, _⟩ := I.ok.funs.mem hb
 exact absurd (Nat.lt_of_lt_of_le (Heap.lt_size ho) (Nat.le_trans I.sz h)) (Nat.lt_irrefl _)
theorem Inv.cne (I : Inv X pins σ H s) : ∀ x c, X.env.cells.lookup x = some c -> c ≠ X.env.locals := fun x c e z => by
 obtain ⟨v, o, ho, hd⟩ := I.cell x c e
 obtain ⟨m, ⟨o', es, ep, ho', hd', _⟩, _⟩ := I.loc
 rw [z, ho'] at ho; cases ho; rw [hd'] at hd; cases hd
theorem Inv.funs (I : Inv X pins σ H s) : s.heap.FunFrames X.base X.outer := by
 have all : ∀ (l : List Env), (∀ b ∈ frs l, b ∈ X.fs) -> X.s₀.heap.FunFrames X.base l -> s.heap.FunFrames X.base l := by
  intro l
  induction l with
  | nil => intro _ _; trivial
  | cons env r ih =>
   intro hs hl
   obtain ⟨hk, ⟨L, o, hf, hn, ho, hd⟩, hr⟩ := hl
   have hL : L ∈ X.fs := hs L (by unfold frs; rw [List.filterMap_cons, hf]; exact List.mem_cons_self)
   obtain ⟨sl, e⟩ := I.base.slot L o ho (I.ok.frf L hL) hL fun z => I.ok.exfs L z hL
   exact ⟨hk, ⟨L, _, hf, hn, e, hd⟩, ih (fun b hb => hs b (by unfold frs; rw [List.filterMap_cons, hf]; exact List.mem_cons_of_mem _ hb)) hr⟩
 exact all X.outer (fun _ hb => hb) I.ok.funs
theorem Inv.stack (I : Inv X pins σ H s) : s.heap.FunFrames X.base X.stack := by
 rcases I.ok.stk with e | ⟨e, hf⟩
 ·rw [e]; exact I.funs
 ·rw [e]
  obtain ⟨m, hn, _⟩ := I.loc
  refine .cons (by rw [I.ok.kind]; decide) hf hn ?_ I.funs
  exact Heap.get?_none_of_le (Nat.le_trans I.ok.bsz I.ok.above)
theorem Inv.stkSub (I : Inv X pins σ H s) : ∀ b ∈ frs X.stack, b ∈ X.env.locals :: X.fs := fun b hb => by
 rcases I.ok.stk with e | ⟨e, hf⟩
 ·rw [e] at hb; exact List.mem_cons_of_mem _ hb
 ·rw [e] at hb
  unfold frs at hb
  rw [List.filterMap_cons, hf] at hb
  exact hb
theorem Inv.stkFree (I : Inv X pins σ H s) : ∀ b ∈ frs X.stack, H b = none := fun b hb => by
 rcases List.mem_cons.mp (I.stkSub b hb) with e | hb
 ·rw [e]; exact I.free
 ·obtain ⟨_, o, ho, _⟩ := I.ok.funs.mem hb
  exact I.base.free b o ho (I.ok.frf b hb) fun z => I.ok.exfs b z hb
theorem Inv.step {g' : Array GenState} {t' : Nat} {d' : Drawn} {ch : List Addr} (I : Inv X pins σ H s)
  (hch : ∀ b ∈ ch, (b ∈ X.ex \/ X.s₀.heap.objs.size <= b) /\ b ≠ X.env.locals /\ (∀ x c, X.env.cells.lookup x = some c -> c ≠ b) /\ ∀ p ∈ X.pn ++ pins, p.1 ≠ b)
  (keep : ∀ b o, b ≠ X.env.locals -> b ∉ X.fs -> b ∉ ch -> s.heap.get? b = some o -> H b = none -> h'.get? b = some o)
  (slot : ∀ b o, b ≠ X.env.locals -> b ∈ X.fs -> b ∉ ch -> s.heap.get? b = some o -> H b = none -> ∃ sl, h'.get? b = some { o with slots := sl }) (free : ∀ b o, b ∉ ch -> s.heap.get? b = some o -> H b = none -> H' b = none)
  (there : ∀ b o, b ∉ ch -> s.heap.get? b = some o -> ∃ o', h'.get? b = some o')
  (tups : ∀ b xs, H b = some (.tup xs) -> H' b = some (.tup xs)) (frzs : ∀ b o u, H b = some (.frz o u) -> H' b = some (.frz o u)) (tbls : ∀ b ps, H b = some (.tbl ps) -> ∃ more, H' b = some (.tbl (ps ++ more)))
  (ns : ∀ m, s.heap.Ns X.env.locals m -> h'.Ns X.env.locals m) (hok : HOk X.prog X.w H' h') (hg : AllBare g') :
  Inv X pins σ H' { s with heap := h', gens := g', drawn := d', toks := t' } := by
 have neL : ∀ b o, X.s₀.heap.get? b = some o -> b ≠ X.env.locals := fun b o e => Nat.ne_of_lt (Nat.lt_of_lt_of_le (Heap.lt_size e) I.ok.above)
 have neC : ∀ b o, X.s₀.heap.get? b = some o -> b ∉ X.ex -> b ∉ ch := fun b o e hx hb => by
  rcases (hch b hb).1 with z | z
  ·exact hx z
  ·exact absurd (Nat.lt_of_lt_of_le (Heap.lt_size e) z) (Nat.lt_irrefl _)
 have cellK : ∀ x c, X.env.cells.lookup x = some c -> ∀ v, s.heap.IsCell c v -> h'.IsCell c v := fun x c e v ⟨o, ho, hd⟩ => by
  have nch : c ∉ ch := fun z => (hch c z).2.2.1 x c e rfl
  by_cases hc : c ∈ X.fs
  ·obtain ⟨sl, q⟩ := slot c o (I.cne x c e) hc nch ho (I.freeC x c e)
   exact ⟨_, q, hd⟩
  ·exact ⟨o, keep c o (I.cne x c e) hc nch ho (I.freeC x c e), hd⟩
 refine ⟨I.ok, I.os, hg, ⟨fun b o e n hb hx => ?_, fun b o e n hb hx => ?_, fun b o e n hx => ?_, fun b o e hx => ?_, fun b xs e => tups b xs (I.base.tups b xs e), fun b o xs e => frzs b o xs (I.base.frzs b o xs e), fun b ps e => ?_⟩, ?_, fun x c e => ?_, ?_, fun x c e => ?_, fun p hp => ?_, hok, I.len⟩
 ·exact keep b o (neL b o e) hb (neC b o e hx) (I.base.keep b o e n hb hx) (I.base.free b o e n hx)
 ·obtain ⟨sl, e1⟩ := I.base.slot b o e n hb hx
  obtain ⟨sl', e2⟩ := slot b _ (neL b o e) hb (neC b o e hx) e1 (I.base.free b o e n hx)
  exact ⟨sl', e2⟩
 ·obtain ⟨o', e1⟩ := I.base.there b o e hx
  exact free b o' (neC b o e hx) e1 (I.base.free b o e n hx)
 ·obtain ⟨o', e1⟩ := I.base.there b o e hx
  exact there b o' (neC b o e hx) e1
 ·obtain ⟨m1, e1⟩ := I.base.tbls b ps e
  obtain ⟨m2, e2⟩ := tbls b _ e1
  exact ⟨m1 ++ m2, by rw [e2, Array.append_assoc]⟩
 ·obtain ⟨m, hn, hl⟩ := I.loc
  refine ⟨m, ns m hn, fun i x v e1 e2 e3 => ?_⟩
  obtain ⟨u, r, l⟩ := hl i x v e1 e2 e3
  refine ⟨u, r, ?_⟩
  rcases l with l | ⟨k, c, e, z⟩
  ·exact .inl l
  ·exact .inr ⟨k, c, e, cellK x c e _ z⟩
 ·obtain ⟨v, z⟩ := I.cell x c e
  exact ⟨v, cellK x c e v z⟩
 ·obtain ⟨m, ⟨o, _, _, ho, _⟩, _⟩ := I.loc
  exact free _ o (fun z => (hch _ z).2.1 rfl) ho I.free
 ·obtain ⟨v, o, ho, hd⟩ := I.cell x c e
  exact free c o (fun z => (hch c z).2.2.1 x c e rfl) ho (I.freeC x c e)
 ·obtain ⟨e, n, ne, nf, d⟩ := I.pin p hp
  have nch : p.1 ∉ ch := fun z => (hch p.1 z).2.2.2 p hp rfl
  exact ⟨keep p.1 p.2 ne nf nch e n, free p.1 p.2 nch e n, ne, nf, d⟩
theorem Inv.un {t' : Nat} (I : Inv X pins σ H s) (u : Un X.fs [] H H' s.heap h') (hok : HOk X.prog X.w H' h') : Inv X pins σ H' { s with heap := h', toks := t' } := by
 obtain ⟨m, ⟨o, es, ep, ho, r⟩, _⟩ := id I.loc
 obtain ⟨sl, hL⟩ := u.any ho I.free (by simp)
 exact I.step (g' := s.gens) (d' := s.drawn) (ch := []) (fun _ z => nomatch z) (fun b o _ hb _ e n => u.keep b o e n hb (by simp)) (fun b o _ hb _ e n => u.slot b o e n hb (by simp)) (fun b o _ e n => u.free b o e n (by simp)) (fun b o _ e => u.there b o e (by simp)) u.tups u.frzs u.tbls (fun m' hm => by
  obtain ⟨o', es', ep', ho', r'⟩ := hm
  rw [ho] at ho'; cases ho'
  exact ⟨_, es', ep', hL, r'⟩) hok I.bare
theorem Inv.call {g' : Array GenState} {t' : Nat} {d' : Drawn} {ch : List Addr} (I : Inv X pins σ H s) (u : Un (frs X.stack) ch H H' s.heap h') (hok : HOk X.prog X.w H' h') (hg : AllBare g')
  (hch : ∀ b ∈ ch, (b ∈ X.ex \/ X.s₀.heap.objs.size <= b) /\ b ≠ X.env.locals /\ (∀ x c, X.env.cells.lookup x = some c -> c ≠ b) /\ ∀ p ∈ X.pn ++ pins, p.1 ≠ b) :
  Inv X pins σ H' { s with heap := h', gens := g', drawn := d', toks := t' } := by
 obtain ⟨m, ⟨o, es, ep, ho, r⟩, _⟩ := id I.loc
 obtain ⟨sl, hL⟩ := u.any ho I.free fun z => (hch _ z).2.1 rfl
 exact I.step (ch := ch) hch (fun b o hL hb hc e n => u.keep b o e n (fun z => (List.mem_cons.mp (I.stkSub b z)).elim hL hb) hc) (fun b o _ _ hc e n => u.any e n hc) (fun b o hc e n => u.free b o e n hc) (fun b o hc e => u.there b o e hc) u.tups u.frzs u.tbls (fun m' hm => by
  obtain ⟨o', es', ep', ho', r'⟩ := hm
  rw [ho] at ho'; cases ho'
  exact ⟨_, es', ep', hL, r'⟩) hok hg
theorem Inv.turned {t' : Nat} {it : Addr} (I : Inv X pins σ H s) (k : ∀ b o, b ≠ it -> s.heap.get? b = some o -> h'.get? b = some o) (hn : H it = none) (hL : it ≠ X.env.locals)
  (h1 : it ∈ X.ex \/ X.s₀.heap.objs.size <= it) (h2 : ∀ x c, X.env.cells.lookup x = some c -> c ≠ it) (h3 : ∀ p ∈ X.pn ++ pins, p.1 ≠ it) : Inv X pins σ H { s with heap := h', toks := t' } := by
 have nit : ∀ b u, H b = some u -> b ≠ it := fun b u e z => by rw [z, hn] at e; cases e
 refine I.step (g' := s.gens) (d' := s.drawn) (ch := [it]) (fun b hb => ?_) (fun b o _ _ hc e _ => k b o (fun z => hc (by simp [z])) e) (fun b o _ _ hc e _ => ⟨o.slots, k b o (fun z => hc (by simp [z])) e⟩) (fun _ _ _ _ n => n)
  (fun b o hc e => ⟨o, k b o (fun z => hc (by simp [z])) e⟩) (fun _ _ e => e) (fun _ _ _ e => e) (fun b ps e => ⟨#[], by rw [e]; simp⟩) (fun m hm => ?_) (fun b u e => ?_) I.bare
 ·have e : b = it := by simpa using hb
  subst e
  exact ⟨h1, hL, h2, h3⟩
 ·obtain ⟨o, es, ep, ho, r⟩ := hm
  exact ⟨o, es, ep, k _ o (Ne.symm hL) ho, r⟩
 ·refine (I.hok b u e).stay (fun c v hc q => k c v ?_ q) (fun _ q => q) fun _ _ q => q
  rcases hc with z | z
  ·rw [z]; exact nit b u e
  ·exact nit c _ z
theorem Inv.tok (I : Inv X pins σ H s) (t : Nat) : Inv X pins σ H { s with toks := t } := I.un (h' := s.heap) (t' := t) Un.refl I.hok
theorem Inv.kept {t' : Nat} (I : Inv X pins σ H s) (k : ∀ b u, s.heap.get? b = some u -> h'.get? b = some u) : Inv X pins σ H { s with heap := h', toks := t' } := I.un (Un.kept k) (I.hok.kept k)
theorem Inv.laid {a : Addr} {o : HO} {t' : Nat} (I : Inv X pins σ H s) (k : ∀ b u, s.heap.get? b = some u -> h'.get? b = some u) (hp : s.heap.objs.size <= a) (new : zK X.prog X.w (upd H a o) h' a o) :
  Inv X pins σ (upd H a o) { s with heap := h', toks := t' } := I.un (Un.laid k hp (I.hok.fresh hp)) (I.hok.laid k hp new)
theorem Inv.write {x e : Addr} {o : HO} {t' : Nat} (I : Inv X pins σ H s) (mu : Mut (H x)) (he : e = x \/ H e = some (.own x)) (k : ∀ b u, b ≠ e -> s.heap.get? b = some u -> h'.get? b = some u) (heo : ∃ u, h'.get? e = some u)
  (new : zK X.prog X.w (upd H x o) h' x o) : Inv X pins σ (upd H x o) { s with heap := h', toks := t' } := I.un (Un.write mu he k heo) (I.hok.write mu he k heo new)
theorem Inv.pins_of {pins' : List (Addr × Obj)} (I : Inv X pins σ H s) (h : ∀ p ∈ pins', s.heap.get? p.1 = some p.2 /\ H p.1 = none /\ p.1 ≠ X.env.locals /\ p.1 ∉ X.fs /\ ∀ v, p.2.data ≠ .cell v) : Inv X pins' σ H s :=
 ⟨I.ok, I.os, I.bare, I.base, I.loc, I.cell, I.free, I.freeC, fun p hp => (List.mem_append.mp hp).elim (fun z => I.pin p (List.mem_append_left _ z)) (h p), I.hok, I.len⟩
theorem y9 {N : List Str} (hN : N.Nodup) {i j : Nat} {x : Str} (a : N[i]? = some x) (b : N[j]? = some x) : i = j := by
 obtain ⟨h1, e1⟩ := List.getElem?_eq_some_iff.mp a
 obtain ⟨h2, e2⟩ := List.getElem?_eq_some_iff.mp b
 exact (List.getElem_inj hN).mp (e1.trans e2.symm)
theorem xF {M : Model} {A : Around} {E : Value -> Shared -> Prop} {i : Nat} {x : Str} {v : V} {u : Value} {Q : Unit -> Shared -> Prop} (I : Inv X pins σ H s) (hN : X.N.Nodup) (hi : X.N[i]? = some x) (hx : Loc X.env.scope x) (r : zr v u)
    (h : ∀ s', Inv X pins (σ.set i (some v)) H s' -> (∃ a, Heap.SameBut a s.heap s'.heap /\ (a = X.env.locals \/ X.env.cells.lookup x = some a)) -> Q () s') (hf : X.fn x = true \/ X.env.scope.names.lookup x = some .local := by first | exact .inl rfl | exact .inr rfl | assumption) : wpAny M A (storeName X.env x u) Q E s := by
  obtain ⟨m, hn, hl⟩ := id I.loc
  have hcls : (X.env.scope.kind == .class || (X.env.scope.kind == .module && X.env.locals != X.env.globals)) = false := by rw [I.ok.kind]; rfl
  have hiσ : i < σ.length := by rw [I.len]; exact (List.getElem?_eq_some_iff.mp hi).1
  have cne := I.cne
  have tracked : ∀ {a : Addr} {h' : Heap}, (∃ o, s.heap.get? a = some o /\ H a = none) -> Heap.SameBut a s.heap h' -> HOk X.prog X.w H h' := fun {a h'} ha hs b ob e => by
    obtain ⟨_, _, hfree⟩ := ha
    refine (I.hok b ob e).stay (fun c w' hc q => (hs.2 c ?_).trans q) (fun _ q => q) fun _ _ q => q
    rintro rfl
    rcases hc with rfl | hc
    · rw [hfree] at e; cases e
    · rw [hfree] at hc; cases hc
  rcases hx with hk | hk
  · refine wpAny_storeName_local hk hn (fun h' hn' hs => ?_) hcls
    obtain ⟨oL, _, _, hoL, _⟩ := id hn
    refine h _ ⟨I.ok, I.os, I.bare, ⟨fun b o e n hb hx => ?_, fun b o e n hb hx => ?_, I.base.free, fun b o e hx => ?_, I.base.tups, I.base.frzs, I.base.tbls⟩, ⟨_, hn', fun j y v' e1 e2 e3 => ?_⟩, fun y c e => ?_, I.free, I.freeC, fun p hp => ?_, tracked ⟨oL, hoL, I.free⟩ hs, by simpa using I.len⟩ ⟨_, hs, .inl rfl⟩
    · exact (hs.2 b (Nat.ne_of_lt (Nat.lt_of_lt_of_le (Heap.lt_size e) I.ok.above))).trans (I.base.keep b o e n hb hx)
    · obtain ⟨sl, e1⟩ := I.base.slot b o e n hb hx
      exact ⟨sl, (hs.2 b (Nat.ne_of_lt (Nat.lt_of_lt_of_le (Heap.lt_size e) I.ok.above))).trans e1⟩
    · obtain ⟨o', e1⟩ := I.base.there b o e hx
      exact ⟨o', (hs.2 b (Nat.ne_of_lt (Nat.lt_of_lt_of_le (Heap.lt_size e) I.ok.above))).trans e1⟩
    · by_cases hj : j = i
      · subst hj
        rw [hi] at e1; cases e1
        rw [List.getElem?_set_self hiσ] at e2
        cases e2
        exact ⟨u, r, .inl ⟨hk, by simp⟩⟩
      · rw [List.getElem?_set_ne (Ne.symm hj)] at e2
        obtain ⟨u', r', q⟩ := hl j y v' e1 e2 e3
        refine ⟨u', r', ?_⟩
        rcases q with ⟨k, e⟩ | ⟨k, c, e, z⟩
        · refine .inl ⟨k, ?_⟩
          have : y ≠ x := fun e => hj (y9 hN e1 (e ▸ hi))
          simp [this, e]
        · exact .inr ⟨k, c, e, z.sameBut hs (cne y c e)⟩
    · obtain ⟨w', z⟩ := I.cell y c e
      exact ⟨w', z.sameBut hs (cne y c e)⟩
    · obtain ⟨e, n, ne, nf, d⟩ := I.pin p hp
      exact ⟨(hs.2 p.1 ne).trans e, n, ne, nf, d⟩
  · have hfn : X.fn x = true := by
      rcases hf with z | z
      · exact z
      · rw [z] at hk; cases hk
    obtain ⟨c, hc⟩ := I.ok.has x (.inl hk)
    obtain ⟨w', z⟩ := I.cell x c hc
    refine wpAny_storeName_cell I.ok.kind hk hc z (fun h' hc' hs => ?_)
    obtain ⟨oc, hoc, hocd⟩ := id z
    refine h { s with heap := h' } ⟨I.ok, I.os, I.bare, ⟨fun b o e n hb hx => ?_, fun b o e n hb hx => ?_, I.base.free, fun b o e hx => ?_, I.base.tups, I.base.frzs, I.base.tbls⟩, ⟨m, hn.sameBut hs (Ne.symm (cne x c hc)), fun j y v' e1 e2 e3 => ?_⟩, fun y c' e => ?_, I.free, I.freeC, fun p hp => ?_, tracked ⟨oc, hoc, I.freeC x c hc⟩ hs, by simpa using I.len⟩ ⟨c, hs, .inr hc⟩
    · exact (hs.2 b (Nat.ne_of_lt (Nat.lt_of_lt_of_le (Heap.lt_size e) (I.ok.cab x c hfn hc)))).trans (I.base.keep b o e n hb hx)
    · obtain ⟨sl, e1⟩ := I.base.slot b o e n hb hx
      exact ⟨sl, (hs.2 b (Nat.ne_of_lt (Nat.lt_of_lt_of_le (Heap.lt_size e) (I.ok.cab x c hfn hc)))).trans e1⟩
    · obtain ⟨o', e1⟩ := I.base.there b o e hx
      exact ⟨o', (hs.2 b (Nat.ne_of_lt (Nat.lt_of_lt_of_le (Heap.lt_size e) (I.ok.cab x c hfn hc)))).trans e1⟩
    · by_cases hj : j = i
      · subst hj
        rw [hi] at e1; cases e1
        rw [List.getElem?_set_self hiσ] at e2
        cases e2
        exact ⟨u, r, .inr ⟨.inl hk, c, hc, hc'⟩⟩
      · rw [List.getElem?_set_ne (Ne.symm hj)] at e2
        obtain ⟨u', r', q⟩ := hl j y v' e1 e2 e3
        refine ⟨u', r', ?_⟩
        rcases q with q | ⟨k, c', e, z'⟩
        · exact .inl q
        · refine .inr ⟨k, c', e, z'.sameBut hs ?_⟩
          rintro rfl
          exact hj (y9 hN e1 (I.ok.inj _ _ _ e hc ▸ hi))
    · by_cases hcc : c' = c
      · subst hcc; exact ⟨_, hc'⟩
      · obtain ⟨w2, z2⟩ := I.cell y c' e
        exact ⟨w2, z2.sameBut hs hcc⟩
    · obtain ⟨e, n, ne, nf, d⟩ := I.pin p hp
      refine ⟨(hs.2 p.1 ?_).trans e, n, ne, nf, d⟩
      intro q
      rw [q, hoc] at e
      have q' : oc = p.2 := Option.some.inj e
      exact d w' (by rw [<- q']; exact hocd)
theorem jG {M : Model} {A : Around} {E : Value -> Shared -> Prop} {i : Nat} {x : Str} {v : V} {u : Value} {Q : Unit -> Shared -> Prop} (I : Inv X pins σ H s) (hN : X.N.Nodup) (hi : X.N[i]? = some x) (hx : Loc X.env.scope x) (r : zr v u)
  (h : ∀ s', Inv X pins (σ.set i (some v)) H s' -> Q () s') (hf : X.fn x = true \/ X.env.scope.names.lookup x = some .local := by first | exact .inl rfl | exact .inr rfl | assumption) : wpAny M A (storeName X.env x u) Q E s :=
 xF I hN hi hx r (fun s' I' _ => h s' I') hf
theorem Inv.call' {s' : Shared} {ch : List Addr} (I : Inv X pins σ H s) (ho : s'.os = s.os) (u : Un (frs X.stack) ch H H' s.heap s'.heap) (hok : HOk X.prog X.w H' s'.heap) (hg : AllBare s'.gens)
  (hch : ∀ b ∈ ch, (b ∈ X.ex \/ X.s₀.heap.objs.size <= b) /\ b ≠ X.env.locals /\ (∀ x c, X.env.cells.lookup x = some c -> c ≠ b) /\ ∀ p ∈ X.pn ++ pins, p.1 ≠ b) : Inv X pins σ H' s' := by
 obtain ⟨h', g', d', t', o'⟩ := s'
 have e : o' = s.os := ho
 subst e
 exact I.call (g' := g') (t' := t') (d' := d') u hok hg hch
end
abbrev XK := Value -> Option Addr -> Hp -> Prop
abbrev St := List (Option V)
abbrev VK := V -> Hp -> Prop
abbrev TE := St -> Hp -> VK -> Prop
abbrev TT := St -> Hp -> (Bool -> Hp -> Prop) -> Prop
abbrev TA := St -> Hp -> (List V -> Hp -> Prop) -> Prop
structure ju where
 nx : St -> Hp -> Prop
 rt : VK
 bk : St -> Hp -> Prop := fun _ _ => False
 ct : St -> Hp -> Prop := fun _ _ => False
abbrev TS := ju -> St -> Hp -> Prop
def EP (X : Cx) (pins : List (Addr × Obj)) (σ : St) (Q : VK) (u : Value) (s' : Shared) : Prop := ∃ v H', Inv X pins σ H' s' /\ zr v u /\ Q v H'
def TP (X : Cx) (pins : List (Addr × Obj)) (σ : St) (Q : Bool -> Hp -> Prop) (b : Bool) (s' : Shared) : Prop := ∃ H', Inv X pins σ H' s' /\ Q b H'
def AP (X : Cx) (pins : List (Addr × Obj)) (σ : St) (Q : List V -> Hp -> Prop) (us : List Value) (s' : Shared) : Prop := ∃ vs H', Inv X pins σ H' s' /\ zq vs us /\ Q vs H'
def SP (X : Cx) (pins : List (Addr × Obj)) (D : ju) (f : Flow) (s' : Shared) : Prop :=
 match f with
 | .next => ∃ σ' H', Inv X pins σ' H' s' /\ D.nx σ' H'
 | .brk => ∃ σ' H', Inv X pins σ' H' s' /\ D.bk σ' H'
 | .cont => ∃ σ' H', Inv X pins σ' H' s' /\ D.ct σ' H'
 | .ret u => ∃ v σ' H', Inv X pins σ' H' s' /\ zr v u /\ D.rt v H'
def PE (X : Cx) (e : Expr) (t : TE) : Prop :=
 ∀ (pins : List (Addr × Obj)) (s : Shared) (σ : St) (H : Hp) (Q : VK), Inv X pins σ H s -> t σ H Q -> wpAny (model X.prog X.w) X.A (eval e X.env) (EP X pins σ Q) X.xe s
def PT (X : Cx) (e : Expr) (t : TT) : Prop :=
 ∀ (pins : List (Addr × Obj)) (s : Shared) (σ : St) (H : Hp) (Q : Bool -> Hp -> Prop), Inv X pins σ H s -> t σ H Q -> wpAny (model X.prog X.w) X.A (isTrue e X.env (eval e X.env)) (TP X pins σ Q) X.xe s
def PW (X : Cx) (e : Expr) (t : TT) : Prop :=
 ∀ (whole : Sem Value) (pins : List (Addr × Obj)) (s : Shared) (σ : St) (H : Hp) (Q : Bool -> Hp -> Prop), Inv X pins σ H s -> t σ H Q -> wpAny (model X.prog X.w) X.A (isTrue e X.env whole) (TP X pins σ Q) X.xe s
theorem PW.pt {X : Cx} {e : Expr} {t : TT} (h : PW X e t) : PT X e t := h _
def PA (X : Cx) (es : List Expr) (t : TA) : Prop :=
 ∀ (pos : Pos) (pins : List (Addr × Obj)) (s : Shared) (σ : St) (H : Hp) (Q : List V -> Hp -> Prop), Inv X pins σ H s -> t σ H Q -> wpAny (model X.prog X.w) X.A (spliced (backTo pos (starEach es X.env))) (AP X pins σ Q) X.xe s
def PS (X : Cx) (st : Stmt) (t : TS) : Prop :=
 ∀ (pins : List (Addr × Obj)) (s : Shared) (σ : St) (H : Hp) (D : ju), Inv X pins σ H s -> t D σ H -> wpAny (model X.prog X.w) X.A (exec st X.env) (SP X pins D) X.xe s
def PSs (X : Cx) (st : List Stmt) (t : TS) : Prop :=
 ∀ (pins : List (Addr × Obj)) (s : Shared) (σ : St) (H : Hp) (D : ju), Inv X pins σ H s -> t D σ H -> wpAny (model X.prog X.w) X.A (execs st X.env) (SP X pins D) X.xe s
theorem thn {α : Type} {t : Sem α} {Q Q' : α -> Shared -> Prop} {M : Model} {A : Around} {E : Value -> Shared -> Prop} {s : Shared} (h : wpAny M A t Q E s) (hQ : ∀ a s, Q a s -> Q' a s) : wpAny M A t Q' E s := wpAny_mono h hQ fun _ _ x => x
end L2
namespace L2
open PySem PySem.Spec PyProof.Rows
section
variable {X : Cx}
theorem bin {a b : Expr} {ta tb : TE} (ha : PE X a ta) (hb : PE X b tb) {pins : List (Addr × Obj)} {s : Shared} {σ : St} {H : Hp} {R : V -> V -> Hp -> Prop} (I : Inv X pins σ H s) (h : ta σ H fun x H1 => tb σ H1 fun y H2 => R x y H2)
  {α : Type} {Q : α -> Shared -> Prop} {f : Value -> Value -> Sem α}
  (hf : ∀ v u s2 x y H2, Inv X pins σ H2 s2 -> zr x v -> zr y u -> R x y H2 -> wpAny (model X.prog X.w) X.A (f v u) Q X.xe s2) :
  wpAny (model X.prog X.w) X.A (eval a X.env) (fun v s₁ => wpAny (model X.prog X.w) X.A (eval b X.env) (fun u s₂ => wpAny (model X.prog X.w) X.A (f v u) Q X.xe s₂) X.xe s₁) X.xe s := by
 refine thn (ha pins s σ H _ I h) fun v s1 ⟨x, H1, I1, r1, q1⟩ => ?_
 refine thn (hb pins s1 σ H1 _ I1 q1) fun u s2 ⟨y, H2, I2, r2, q2⟩ => ?_
 exact hf v u s2 x y H2 I2 r1 r2 q2
def JY (i : Nat) : TE := fun σ H Q => ∃ v, σ[i]? = some (some v) /\ Q v H
def tC (v : V) : TE := fun _ H Q => Q v H
theorem Xy {i : Nat} {x : Str} {pos : Pos} (hN : X.N[i]? = some x) (hv : Vis X.env.scope x) (hd : (x == ("__debug__" : Str)) = false := by decide) (hcd : (x == ("__classdict__" : Str)) = false := by decide) : PE X (.Name x pos) (JY i) := by
 intro pins s σ H Q I h
 obtain ⟨v, e, h⟩ := h
 obtain ⟨m, hn, hl⟩ := I.loc
 obtain ⟨u, r, l⟩ := hl i x v hN e hv
 have fin : EP X pins σ Q u s := ⟨v, H, I, r, h⟩
 rcases l with ⟨hk, hm⟩ | ⟨hk, c, hc, hcell⟩
 ·exact wpAny_Name (wpAny_loadName_local I.ok.kind hk hn hm fin) hd
 ·rcases hk with hk | hk
  ·exact wpAny_Name (wpAny_loadName_cell I.ok.kind hk hc hcell fin) hd
  ·exact wpAny_Name (wpAny_loadName_free I.ok.kind hk hc hcell fin hcd) hd
theorem zc {i j pos} : PE X (.Constant (.int i) j pos) (tC (.int i)) := fun _ _ _ H _ I h => wpAny_Constant_int ⟨.int i, H, I.tok _, ⟨_, rfl⟩, h⟩
theorem qq {b j pos} : PE X (.Constant (.bool b) j pos) (tC (.bl b)) := fun _ _ _ H _ I h => Constant_bool ⟨.bl b, H, I, rfl, h⟩
theorem vM {j pos} : PE X (.Constant .none j pos) (tC .non) := fun _ _ _ H _ I h => Constant_none ⟨.non, H, I, rfl, h⟩
theorem vA {x j pos} : PE X (.Constant (.str x) j pos) (tC (.str x)) := fun _ _ _ H _ I h => Calls.Constant_str ⟨.str x, H, I.tok _, ⟨_, rfl⟩, h⟩
def Gl (X : Cx) (x : Str) : Prop := X.env.kindOf x = some .globalImplicit
theorem KN {E : Value -> Shared -> Prop} {pins : List (Addr × Obj)} {s : Shared} {σ : St} {H : Hp} {x : Str} {u : Value} {pos : Pos} {Q : Value -> Shared -> Prop} (I : Inv X pins σ H s) (hg : Gl X x) (hm : X.mg x = some u) (h : Q u s)
  (hd : (x == ("__debug__" : Str)) = false := by decide) : wpAny (model X.prog X.w) X.A (eval (.Name x pos) X.env) Q E s :=
 Calls.Name_function_global I.ok.kind hg (Calls.loadGlobal_global (by rw [I.ok.glob]; exact I.mod.glob.keeps I.bk) hm h) hd
theorem jb {E : Value -> Shared -> Prop} {pins : List (Addr × Obj)} {s : Shared} {σ : St} {H : Hp} {x : Str} {u : Value} {pos : Pos} {Q : Value -> Shared -> Prop} (I : Inv X pins σ H s) (hg : Gl X x) (hm : X.mg x = none) (hv : bootBuiltins x = some u) (h : Q u s)
  (hn : x ≠ "__name__" := by decide) (hd : (x == ("__debug__" : Str)) = false := by decide) : wpAny (model X.prog X.w) X.A (eval (.Name x pos) X.env) Q E s := by
 obtain ⟨mb, h1, h2⟩ := I.mod.blt
 exact Calls.Name_function_global I.ok.kind hg (Calls.loadGlobal_builtin (by rw [I.ok.glob]; exact I.mod.glob.keeps I.bk) hm (by rw [I.ok.blt]; exact h1.keeps I.bk) ((h2 x hn).trans hv) h) hd
theorem qk {x : Str} {v : V} {u : Value} {pos : Pos} (hg : Gl X x) (hm : X.mg x = none) (hv : bootBuiltins x = some u) (r : zr v u) (hn : x ≠ "__name__" := by decide) (hd : (x == ("__debug__" : Str)) = false := by decide) : PE X (.Name x pos) (tC v) :=
 fun _ _ _ H _ I h => jb I hg hm hv ⟨v, H, I, r, h⟩ hn hd
variable {a b : Expr} {ta tb : TE} {pos : Pos}
def PC (X : Cx) (op : CmpOp) (a b : Expr) (t : TE) : Prop :=
 ∀ (pins : List (Addr × Obj)) (s : Shared) (σ : St) (H : Hp) (Q : VK), Inv X pins σ H s -> t σ H Q ->
  wpAny (model X.prog X.w) X.A (eval a X.env) (fun v s₁ => wpAny (model X.prog X.w) X.A (eval b X.env) (fun u s₂ => wpAny (model X.prog X.w) X.A (compareOp op v u) (EP X pins σ Q) X.xe s₂) X.xe s₁) X.xe s
theorem Qz (b : Expr) {op : CmpOp} (h : op ≠ .In) (h2 : op ≠ .NotIn) : behindInMarks op b = false := by
 have e1 : (op == CmpOp.In) = false := by cases op <;> first | rfl | exact absurd rfl h
 have e2 : (op == CmpOp.NotIn) = false := by cases op <;> first | rfl | exact absurd rfl h2
 cases b <;> simp [behindInMarks, e1, e2]
def tB (t : TE) : TT := fun σ H Q => t σ H fun x H1 => ∃ c, x = .bl c /\ Q c H1
theorem We {op : CmpOp} {t : TE} (h : PC X op a b t) (h1 : behindInMarks op b = false := by first | exact Qz _ (by decide) (by decide) | rfl) : PT X (.Compare a [op] [b] pos) (tB t) := by
 intro pins s σ H Q I hw
 refine wpAny_isTrue_Compare1 (thn (h pins s σ H _ I hw) fun v s1 h1 => thn h1 fun u s2 h2 => thn h2 fun c s3 ⟨x, H1, I1, r1, q1⟩ => ?_) h1
 obtain ⟨d, rfl, q⟩ := q1
 cases r1
 exact wpAny_truthy_bool ⟨H1, I1, q⟩
theorem qI {e : Expr} {t : TE} (h : PE X e t) (he : ∀ whole, isTrue e X.env whole = (do let v <- whole; standAt e.pos; holding [v] (truthy v)) := by intro _; rfl) : PT X e (tB t) := by
 intro pins s σ H Q I hw
 refine isTrue_plain (thn (h pins s σ H _ I hw) fun v s1 ⟨x, H1, I1, r1, q1⟩ => ?_) (he _)
 obtain ⟨d, rfl, q⟩ := q1
 cases r1
 exact wpAny_truthy_bool ⟨H1, I1, q⟩
variable {tA tB' : TT} {jr : List Expr}
def XO (t u : TT) : TT := fun σ H Q => t σ H fun c H1 => if c = true then u σ H1 Q else Q false H1
def tOr (t u : TT) : TT := fun σ H Q => t σ H fun c H1 => if c = true then Q true H1 else u σ H1 Q
def YV (t : TT) : TT := fun σ H Q => t σ H fun c H1 => Q (!c) H1
theorem J3 (ha : PT X a tA) : PW X (.BoolOp .And [a] pos) tA := by
 intro wh pins s σ H Q I h
 refine isTrue_and (thn (ha pins s σ H Q I h) fun c s1 e => ?_)
 cases c with
 | true => exact isTrue_and_nil e
 | false => exact e
theorem kc (ha : PT X a tA) : PW X (.BoolOp .Or [a] pos) tA := by
 intro wh pins s σ H Q I h
 refine isTrue_or (thn (ha pins s σ H Q I h) fun c s1 e => ?_)
 cases c with
 | false => exact isTrue_or_nil e
 | true => exact e
theorem YO (ha : PT X a tA) (hb : PW X (.BoolOp .And (b :: jr) pos) tB') : PW X (.BoolOp .And (a :: b :: jr) pos) (XO tA tB') := by
 intro wh pins s σ H Q I h
 refine isTrue_and (thn (ha pins s σ H _ I h) fun c s1 ⟨H1, I1, q1⟩ => ?_)
 cases c with
 | true => exact hb wh pins s1 σ H1 Q I1 q1
 | false => exact ⟨H1, I1, q1⟩
theorem kh (ha : PT X a tA) (hb : PW X (.BoolOp .Or (b :: jr) pos) tB') : PW X (.BoolOp .Or (a :: b :: jr) pos) (tOr tA tB') := by
 intro wh pins s σ H Q I h
 refine isTrue_or (thn (ha pins s σ H _ I h) fun c s1 ⟨H1, I1, q1⟩ => ?_)
 cases c with
 | true => exact ⟨H1, I1, q1⟩
 | false => exact hb wh pins s1 σ H1 Q I1 q1
theorem jy (ha : PT X a tA) : PT X (.UnaryOp .Not a pos) (YV tA) := by
 intro pins s σ H Q I h
 exact isTrue_not (ha pins s σ H (fun c H1 => Q (!c) H1) I h)
def Qf (ta tb : TE) : TE := fun σ H Q => ta σ H fun x H1 => ∃ c, x = .bl c /\ if c = true then tb σ H1 Q else Q (.bl false) H1
theorem XI {op} {t : TE} (h : PE X a t) : PE X (.BoolOp op [a] pos) t := fun pins s σ H Q I hw => BoolOp_one (h pins s σ H Q I hw)
theorem X8 (ha : PE X a ta) (hb : PE X (.BoolOp .And (b :: jr) pos) tb) : PE X (.BoolOp .And (a :: b :: jr) pos) (Qf ta tb) := by
 intro pins s σ H Q I h
 refine BoolOp_and (thn (ha pins s σ H _ I h) fun v s1 ⟨x, H1, I1, r1, q1⟩ => ?_)
 obtain ⟨c, rfl, q1⟩ := q1
 cases r1
 refine wpAny_truthy_bool ?_
 cases c with
 | true => exact hb pins s1 σ H1 Q I1 q1
 | false => exact ⟨.bl false, H1, I1, rfl, q1⟩
end
end L2
namespace L2
open PySem PySem.Spec PyProof.Rows
def SqL (K : PySem.W.Frag) (H : Hp) (a : Addr) (xs : List V) : Prop :=
 Rd H a (.lst xs) \/
  ∃ (o : Obj) (its : Array Value) (n : Nat), K.lookup a = some o /\ o.cls = .type "list" /\ o.dict = none /\ o.data = .seq its n /\ its.size <= sizeLine /\ zq xs its.toList
def SqT (K : PySem.W.Frag) (H : Hp) (a : Addr) (xs : List V) : Prop :=
 Rd H a (.tup xs) \/
  ∃ (o : Obj) (its : Array Value) (n : Nat), K.lookup a = some o /\ o.cls = .type "tuple" /\ o.data = .seq its n /\ its.size <= sizeLine /\ zq xs its.toList
def Wo : Value -> Option V
 | .none => some .non
 | .bool b => some (.bl b)
 | .int i _ => some (.int i)
 | .str x _ => some (.str x)
 | .bytes b _ => some (.byt b)
 | .float b _ => some (.flt b)
 | .ref a => some (.ref a)
 | .type n => some (.ty n)
 | _ => none
theorem zr.abs {x : V} {u : Value} (r : zr x u) : Wo u = some x := by
 cases x with
 | non => cases r; rfl
 | bl _ => cases r; rfl
 | int _ => obtain ⟨t, rfl⟩ := r; rfl
 | str _ => obtain ⟨t, rfl⟩ := r; rfl
 | byt _ => obtain ⟨t, rfl⟩ := r; rfl
 | flt _ => obtain ⟨t, rfl⟩ := r; rfl
 | ref _ => cases r; rfl
 | ty _ => cases r; rfl
theorem zr.inj {x y : V} {u : Value} (r : zr x u) (q : zr y u) : x = y := Option.some.inj (r.abs.symm.trans q.abs)
theorem zq.inj : ∀ {xs ys : List V} {us : List Value}, zq xs us -> zq ys us -> xs = ys
 | _, _, _, .nil, .nil => rfl
 | _, _, _, .cons r t, .cons r' t' => by rw [r.inj r', zq.inj t t']
section
variable {X : Cx} {pins : List (Addr × Obj)} {σ : St} {H : Hp} {s : Shared} {a : Addr} {xs ys : List V}
theorem SqL.of {K : PySem.W.Frag} (h : H a = some (.lst xs)) : SqL K H a xs := .inl (.inl h)
theorem SqT.of {K : PySem.W.Frag} (h : H a = some (.tup xs)) : SqT K H a xs := .inl (.inl h)
theorem Inv.list (I : Inv X pins σ H s) (h : SqL X.K H a xs) : ∃ its : List Value, zq xs its /\ PlainL s.heap a its.toArray /\ xs.length <= sizeLine := by
 rcases h with h | ⟨o, its, n, hk, hc, hd, hs, hz, r⟩
 ·obtain ⟨z, its, n, r, e⟩ := h.ok I.hok
  exact ⟨its, r, ⟨_, n, e, rfl, rfl, rfl⟩, z⟩
 ·refine ⟨its.toList, r, ⟨o, n, I.kIn a o hk, hc, hd, by simpa using hs⟩, ?_⟩
  have e := r.length
  simp only [Array.length_toList] at e
  omega
theorem Inv.tuple (I : Inv X pins σ H s) (h : SqT X.K H a xs) : ∃ its : List Value, zq xs its /\ IsTup s.heap a its.toArray /\ xs.length <= sizeLine := by
 rcases h with h | ⟨o, its, n, hk, hc, hs, hz, r⟩
 ·obtain ⟨z, its, r, p⟩ := h.ok I.hok
  exact ⟨its, r, p, z⟩
 ·refine ⟨its.toList, r, ⟨o, I.kIn a o hk, hc, n, by simpa using hs⟩, ?_⟩
  have e := r.length
  simp only [Array.length_toList] at e
  omega
theorem Inv.list_inj (I : Inv X pins σ H s) (h : SqL X.K H a xs) (h' : SqL X.K H a ys) : xs = ys := by
 obtain ⟨its, r, ⟨o, n, e, _, _, d⟩, _⟩ := I.list h
 obtain ⟨its', r', ⟨o', n', e', _, _, d'⟩, _⟩ := I.list h'
 rw [e] at e'; cases e'
 rw [d] at d'
 injection d' with d1 _
 have : its = its' := by simpa using congrArg Array.toList d1
 subst this
 exact r.inj r'
theorem Inv.tuple_inj (I : Inv X pins σ H s) (h : SqT X.K H a xs) (h' : SqT X.K H a ys) : xs = ys := by
 obtain ⟨its, r, ⟨o, e, _, n, d⟩, _⟩ := I.tuple h
 obtain ⟨its', r', ⟨o', e', _, n', d'⟩, _⟩ := I.tuple h'
 rw [e] at e'; cases e'
 rw [d] at d'
 injection d' with d1 _
 have : its = its' := by simpa using congrArg Array.toList d1
 subst this
 exact r.inj r'
end
abbrev Cx.wish (X : Cx) (E : Value -> Shared -> Prop) : Cx := { X with xe := E }
abbrev Cx.nox (X : Cx) : Cx := X.wish fun _ _ => False
theorem Cx.Ok.wish {X : Cx} (ok : X.Ok) (E : Value -> Shared -> Prop) : (X.wish E).Ok :=
 ⟨ok.mod, ok.kind, ok.glob, ok.blt, ok.above, ok.inj, ok.has, ok.cab, ok.hd, ok.frames, ok.stk, ok.exf, ok.bs, ok.bsz, ok.noex, ok.exfs, ok.funs, ok.frf⟩
theorem Cx.Ok.unwish {X : Cx} {E : Value -> Shared -> Prop} (ok : (X.wish E).Ok) : X.Ok :=
 ⟨ok.mod, ok.kind, ok.glob, ok.blt, ok.above, ok.inj, ok.has, ok.cab, ok.hd, ok.frames, ok.stk, ok.exf, ok.bs, ok.bsz, ok.noex, ok.exfs, ok.funs, ok.frf⟩
section
variable {X : Cx} {pins : List (Addr × Obj)} {σ : St} {H : Hp} {s : Shared} {E : Value -> Shared -> Prop}
theorem Inv.wish (I : Inv X pins σ H s) (E : Value -> Shared -> Prop) : Inv (X.wish E) pins σ H s := ⟨I.ok.wish E, I.os, I.bare, I.base, I.loc, I.cell, I.free, I.freeC, I.pin, I.hok, I.len⟩
theorem Inv.unwish (I : Inv (X.wish E) pins σ H s) : Inv X pins σ H s := ⟨I.ok.unwish, I.os, I.bare, I.base, I.loc, I.cell, I.free, I.freeC, I.pin, I.hok, I.len⟩
theorem SP.unwish {D : ju} {f : Flow} {s' : Shared} (h : SP (X.wish E) pins D f s') : SP X pins D f s' := by
 cases f with
 | next => obtain ⟨σ', H', I, q⟩ := h; exact ⟨σ', H', I.unwish, q⟩
 | brk => obtain ⟨σ', H', I, q⟩ := h; exact ⟨σ', H', I.unwish, q⟩
 | cont => obtain ⟨σ', H', I, q⟩ := h; exact ⟨σ', H', I.unwish, q⟩
 | ret u => obtain ⟨v, σ', H', I, r, q⟩ := h; exact ⟨v, σ', H', I.unwish, r, q⟩
theorem PSs.nox {st : List Stmt} {t : TS} (h : PSs X.nox st t) : PSs X st t := fun pins s σ H D I hw =>
 wpAny_mono (h pins s σ H D (I.wish _) hw) (fun _ _ q => q.unwish) fun _ _ z => False.elim z
end
section
variable {X : Cx} {st : Stmt} {jr : List Stmt} {t u : TS} {e : Expr} {te : TE} {pos : Pos}
def Qk : TS := fun D σ H => D.nx σ H
def Y3 (t u : TS) : TS := fun D σ H => t { D with nx := u D } σ H
theorem zO : PSs X [] Qk := fun _ _ σ H _ I h => wpAny_execs_nil ⟨σ, H, I, h⟩
theorem ze (h1 : PS X st t) (h2 : PSs X jr u) : PSs X (st :: jr) (Y3 t u) := by
 intro pins s σ H D I h
 refine wpAny_execs_cons (thn (h1 pins s σ H { D with nx := u D } I h) fun f s1 q => ?_)
 cases f with
 | next =>
  obtain ⟨σ', H', I', q⟩ := q
  exact h2 pins s1 σ' H' D I' q
 | ret v => exact q
 | brk => exact q
 | cont => exact q
theorem zj (h1 : PS X st t) : PSs X [st] t := by
 intro pins s σ H D I h
 refine wpAny_execs_cons (thn (h1 pins s σ H D I h) fun f s1 q => ?_)
 cases f with
 | next => exact wpAny_execs_nil q
 | ret v => exact q
 | brk => exact q
 | cont => exact q
theorem Inv.quiet {pins : List (Addr × Obj)} {σ : St} {H : Hp} {s : Shared} (I : Inv X pins σ H s) : interactive X.env = false := by simp [interactive, I.ok.kind]
def Qp (te : TE) : TS := fun D σ H => te σ H fun _ H1 => D.nx σ H1
theorem wq (he : PE X e te) (hs : swapsWith e none pos.line X.env = pure false := by rfl) : PS X (.Expr e pos) (Qp te) := by
 intro pins s σ H D I h
 exact wpAny_Expr_any (thn (he pins s σ H _ I h) fun v s1 ⟨x, H1, I1, r1, q1⟩ => ⟨σ, H1, I1, q1⟩) I.quiet hs
def Vr (te : TE) : TS := fun D σ H => te σ H D.rt
theorem zu (he : PE X e te) : PS X (.Return (some e) pos) (Vr te) := by
 intro pins s σ H D I h
 exact wpAny_Return_some (thn (he pins s σ H _ I h) fun v s1 ⟨x, H1, I1, r1, q1⟩ => ⟨x, σ, H1, I1, r1, q1⟩)
def Vy (c : TT) (t u : TS) : TS := fun D σ H => c σ H fun b H1 => if b = true then t D σ H1 else u D σ H1
theorem qm {c : Expr} {a b : List Stmt} {tc : TT} (hc : PT X c tc) (ha : PSs X a t) (hb : PSs X b u) : PS X (.If c a b pos) (Vy tc t u) := by
 intro pins s σ H D I h
 refine wpAny_If (thn (hc pins s σ H _ I h) fun d s1 ⟨H1, I1, q1⟩ => ?_)
 cases d with
 | true => exact ha pins s1 σ H1 D I1 q1
 | false => exact hb pins s1 σ H1 D I1 q1
end
abbrev TG := V -> St -> Hp -> (St -> Hp -> Prop) -> Prop
abbrev TGs := List V -> St -> Hp -> (St -> Hp -> Prop) -> Prop
def PG (X : Cx) (target : Expr) (t : TG) : Prop :=
 ∀ (pins : List (Addr × Obj)) (s : Shared) (σ : St) (H : Hp) (v : V) (u : Value) (Q : St -> Hp -> Prop), Inv X pins σ H s -> zr v u -> t v σ H Q ->
  wpAny (model X.prog X.w) X.A (assign target X.env u) (fun _ s' => ∃ σ' H', Inv X pins σ' H' s' /\ Q σ' H') X.xe s
def PGs (X : Cx) (ts : List Expr) (t : TGs) : Prop :=
 ∀ (pins : List (Addr × Obj)) (s : Shared) (σ : St) (H : Hp) (vs : List V) (us : List Value) (Q : St -> Hp -> Prop), Inv X pins σ H s -> zq vs us -> t vs σ H Q ->
  wpAny (model X.prog X.w) X.A (assignInOrder ((assignEach ts X.env).map (·.2)) us) (fun _ s' => ∃ σ' H', Inv X pins σ' H' s' /\ Q σ' H') X.xe s
abbrev QD := V -> V -> V -> Hp -> (Hp -> Prop) -> Prop
def XZ (X : Cx) (t : QD) : Prop :=
 ∀ (pins : List (Addr × Obj)) (s : Shared) (σ : St) (H : Hp) (o i v : V) (ov iv u : Value) (Q : Hp -> Prop), Inv X pins σ H s -> zr o ov -> zr i iv -> zr v u -> t o i v H Q ->
  wpAny (model X.prog X.w) X.A (setItem ov iv u) (fun _ s' => ∃ H', Inv X pins σ H' s' /\ Q H') X.xe s
abbrev TIp := V -> V -> Hp -> VK -> Prop
section
variable {X : Cx} {pos : Pos}
def yK (i : Nat) : TG := fun v σ H Q => Q (σ.set i (some v)) H
theorem zE {i : Nat} {x : Str} (hN : X.N.Nodup) (hi : X.N[i]? = some x) (hx : Loc X.env.scope x) (hf : X.fn x = true \/ X.env.scope.names.lookup x = some .local := by first | exact .inl rfl | exact .inr rfl | assumption) : PG X (.Name x pos) (yK i) := by
 intro pins s σ H v u Q I r h
 exact wpAny_assign_Name (jG I hN hi hx r (fun s' I' => ⟨_, H, I', h⟩) hf)
def Vj : TGs := fun vs σ H Q => vs = [] /\ Q σ H
def JE (t : TG) (u : TGs) : TGs := fun vs σ H Q => ∃ v r, vs = v :: r /\ t v σ H fun σ' H' => u r σ' H' Q
theorem jQ : PGs X [] Vj := by
 intro pins s σ H vs us Q I r h
 obtain ⟨e, h⟩ := h
 subst e
 cases r
 exact assignInOrder_nil ⟨σ, H, I, h⟩
theorem zX {e : Expr} {es : List Expr} {t : TG} {u : TGs} (h1 : PG X e t) (h2 : PGs X es u)
  (hs : (assignEach (e :: es) X.env).map (·.2) = assign e X.env :: (assignEach es X.env).map (·.2) := by rfl) : PGs X (e :: es) (JE t u) := by
 intro pins s σ H vs us Q I r h
 obtain ⟨v, vr, e1, h⟩ := h
 subst e1
 cases r with
 | cons r rr =>
  rw [hs]
  refine assignInOrder_cons (thn (h1 pins s σ H _ _ _ I r h) fun _ s1 ⟨σ1, H1, I1, q1⟩ => ?_)
  exact h2 pins s1 σ1 H1 _ _ Q I1 rr q1
def K3 (K : PySem.W.Frag) (n : Nat) (t : TGs) : TG := fun v σ H Q => ∃ a xs, v = .ref a /\ SqT K H a xs /\ xs.length = n /\ t xs σ H Q
theorem Va {es : List Expr} {k : Nat} {t : TGs} {n : Nat} (hc : X.calm = true) (h : PGs X es t)
  (hn : (assignEach es X.env).length = n := by rfl) (hst : (assignEach es X.env).findIdx? (·.1) = none := by rfl) : PG X (.Tuple es k pos) (K3 X.K n t) := by
 intro pins s σ H v u Q I r hw
 obtain ⟨a, xs, e1, hq, hl, hw⟩ := hw
 subst e1
 cases r
 obtain ⟨its, rv, ht, hz⟩ := I.tuple hq
 refine assign_Tuple_tuple (I.ok.hd hc) ht (by simp [hn, <- hl, rv.length]) hst fun h' hx => ?_
 have I1 : Inv X pins σ H { s with heap := h' } := I.kept (t' := s.toks) fun b o e => hx b o (Nat.ne_of_lt (Heap.lt_size e)) e
 exact h pins _ σ H xs _ Q I1 (by simpa using rv) hw
def XT (to ti : TE) (t : QD) : TG := fun v σ H Q => to σ H fun o H1 => ti σ H1 fun i H2 => t o i v H2 fun H3 => Q σ H3
theorem qU {o i : Expr} {to ti : TE} {t : QD} (ho : PE X o to) (hi : PE X i ti) (hs : XZ X t)
  (ha : ∀ v, assign (.Subscript o i pos) X.env v = (do
   let ov <- holding [v] (eval o X.env)
   let iv <- holding [v, ov] (eval i X.env)
   standAt pos
   holding [v, ov, iv] (setItem ov iv v)
   release [v, ov, iv] []) := by intro _; rfl) : PG X (.Subscript o i pos) (XT to ti t) := by
 intro pins s σ H v u Q I r h
 rw [ha]
 refine wpAny_bind (wpAny_holding (thn (ho pins s σ H _ I h) fun ov s1 ⟨x, H1, I1, r1, q1⟩ => ?_))
 refine wpAny_bind (wpAny_holding (thn (hi pins s1 σ H1 _ I1 q1) fun iv s2 ⟨y, H2, I2, r2, q2⟩ => ?_))
 refine wpAny_bind (wpAny_standAt (wpAny_bind (wpAny_holding (thn (hs pins s2 σ H2 x y v ov iv u _ I2 r1 r2 r q2) fun _ s3 ⟨H3, I3, q3⟩ => ?_))))
 exact wpAny_release ⟨σ, H3, I3, q3⟩
def ZR (te : TE) (g : TG) : TS := fun D σ H => te σ H fun x H1 => g x σ H1 D.nx
theorem jx {tg e : Expr} {te : TE} {g : TG} (he : PE X e te) (hg : PG X tg g) (hs : swapsWithSole [tg] e pos.line X.env = pure false := by rfl) (hw : swappedStores [tg] e X.env = pure none := by rfl)
  (h1 : (assignEach [tg] X.env).map (·.2) = [assign tg X.env] := by rfl) : PS X (.Assign [tg] e pos) (ZR te g) := by
 intro pins s σ H D I h
 refine wpAny_Assign_stores (thn (he pins s σ H _ I h) fun v s1 ⟨x, H1, I1, r1, q1⟩ => ?_) hs hw
 rw [h1]
 exact thn (hg pins s1 σ H1 x v _ I1 r1 q1) fun _ s2 q => q
theorem zB {i : Nat} {x : Str} {e : Expr} {te : TE} {pos' : Pos} (hN : X.N.Nodup) (hi : X.N[i]? = some x) (hx : Loc X.env.scope x) (he : PE X e te) (hs : swapsWith e (some (.Name x pos')) pos.line X.env = pure false := by rfl) (hf : X.fn x = true \/ X.env.scope.names.lookup x = some .local := by first | exact .inl rfl | exact .inr rfl | assumption) :
  PS X (.Assign [.Name x pos'] e pos) (ZR te (yK i)) := by
 intro pins s σ H D I h
 refine wpAny_Assign_Name (thn (he pins s σ H _ I h) fun v s1 ⟨y, H1, I1, r1, q1⟩ => ?_) hs
 exact jG I1 hN hi hx r1 (fun s2 I2 => ⟨_, H1, I2, q1⟩) hf
def VJ (i j : Nat) (ta : TA) : TS := fun D σ H => ta σ H fun vs H1 => ∃ v w, vs = [v, w] /\ D.nx ((σ.set i (some v)).set j (some w)) H1
theorem YQ {i j : Nat} {x y : Str} {a b : Expr} {ta : TA} {px py pt : Pos} {kt k2 pt2} (hc : X.calm = true) (hN : X.N.Nodup) (hi : X.N[i]? = some x) (hj : X.N[j]? = some y) (hij : i ≠ j)
  (hx : X.env.scope.names.lookup x = some .local) (hy : X.env.scope.names.lookup y = some .local) (ha : PA X [a, b] ta)
  (hw : swappedStores [.Tuple [.Name x px, .Name y py] kt pt] (.Tuple [a, b] k2 pt2) X.env = pure (some [x, y]))
  (hs : swapsWithSole [.Tuple [.Name x px, .Name y py] kt pt] (.Tuple [a, b] k2 pt2) pos.line X.env = pure false := by rfl) :
  PS X (.Assign [.Tuple [.Name x px, .Name y py] kt pt] (.Tuple [a, b] k2 pt2) pos) (VJ i j ta) := by
 intro pins s σ H D I h
 rw [exec_Assign_arm]
 refine wpAny_bind (wpAny_standAt ?_)
 rw [hs]
 refine wpAny_bind (wpAny_pure ?_)
 rw [if_neg (by decide)]
 refine wpAny_bind (Tuple_ (thn (ha _ pins s σ H _ I h) fun us s1 ⟨vs, H1, I1, r1, q1⟩ => ?_))
 obtain ⟨v, w, e1, q1⟩ := q1
 subst e1
 obtain ⟨u1, u2, rfl, rv, rw'⟩ : ∃ u1 u2, us = [u1, u2] /\ zr v u1 /\ zr w u2 := by
  cases r1 with
  | cons p q =>
   cases q with
   | cons p' q' =>
    cases q'
    exact ⟨_, _, rfl, p, p'⟩
 refine wpAny_newObj_type ?_ (by show 2 <= sizeLine; decide)
 have I2 : Inv X pins σ H1 { s1 with heap := s1.heap.push { cls := .type "tuple", data := .seq [u1, u2].toArray } } := I1.kept (t' := s1.toks) fun b o e => Heap.get?_push_of_some _ e
 rw [hw]
 refine wpAny_bind (wpAny_pure ?_)
 show wpAny (model X.prog X.w) X.A (do rule "assign.swapped-stores"; let items <- unpackItems (.ref s1.heap.objs.size) 2 none; assignInOrder [fun v => bindName X.env y v, fun v => bindName X.env x v] items.reverse; pure Flow.next) _ _ _
 refine wpAny_bind (wpAny_rule (wpAny_bind (unpackItems_tuple (items := #[u1, u2]) (I.ok.hd hc) (IsTup.new s1.heap _) fun h' hx' => ?_)))
 have I3 := I2.kept (h' := h') (t' := s1.toks) fun b o e => hx' b o (Nat.ne_of_lt (Heap.lt_size e)) e
 show wpAny _ _ (assignInOrder [fun v => bindName X.env y v, fun v => bindName X.env x v] [u2, u1] >>= fun _ => pure Flow.next) _ _ _
 refine wpAny_bind (assignInOrder_cons (wpAny_bindName (jG I3 hN hj (.inl hy) rw' (fun s2 I4 => ?_) (.inr hy))))
 refine assignInOrder_cons (wpAny_bindName (jG I4 hN hi (.inl hx) rv (fun s3 I5 => assignInOrder_nil (wpAny_pure ?_)) (.inr hx)))
 rw [List.set_comm _ _ (Ne.symm hij)] at I5
 exact ⟨_, H1, I5, q1⟩
end
section
variable {X : Cx} {pos : Pos}
end
structure It where
 go : Nat -> Hp -> Prop
 yld : Nat -> Hp -> V -> Hp -> Prop
 stop : Nat -> Hp -> Prop
def kl (X : Cx) (pins : List (Addr × Obj)) (H : Hp) (b : Addr) : Prop :=
 H b = none /\ b ≠ X.env.locals /\ b ∉ X.fs /\ (b ∈ X.ex \/ X.s₀.heap.objs.size <= b) /\ (∀ x c, X.env.cells.lookup x = some c -> c ≠ b) /\ ∀ p ∈ X.pn ++ pins, p.1 ≠ b
theorem Inv.fpOk {X : Cx} {pins : List (Addr × Obj)} {σ : St} {H H' : Hp} {s : Shared} {b : Addr} (I : Inv X pins σ H s) (hb : s.heap.objs.size <= b) (hn : H' b = none) : kl X pins H' b := by
 refine ⟨hn, Nat.ne_of_gt (Nat.lt_of_lt_of_le I.lt hb), I.nofs hb, .inr (Nat.le_trans I.sz hb), fun x c e z => ?_, fun p hp z => ?_⟩
 ·obtain ⟨v, q⟩ := I.cell x c e
  exact absurd (Nat.lt_of_lt_of_le q.lt (by rw [z]; exact hb)) (Nat.lt_irrefl _)
 ·exact absurd (Nat.lt_of_lt_of_le (Heap.lt_size (I.pin p hp).1) (by rw [z]; exact hb)) (Nat.lt_irrefl _)
structure vV (P : Program) (w : World) (K : PySem.W.Frag) (tg : Expr) (J : It) (fp : List Addr) (it : Addr) (tn : Nat -> Heap -> Prop) : Prop where
 mem : it ∈ fp
 obj : ∀ i h, tn i h -> ∀ b ∈ fp, ∃ o, h.get? b = some o /\ ∀ v, o.data ≠ .cell v
 keep : ∀ i h h', tn i h -> (∀ b ∈ fp, ∀ o, h.get? b = some o -> h'.get? b = some o) -> tn i h'
 item : ∀ (X : Cx), X.prog = P -> X.w = w -> X.K = K -> X.calm = true -> ∀ (i : Nat) (pins : List (Addr × Obj)) (s : Shared) (σ : St) (H : Hp) (E : Value -> Shared -> Prop), Inv X pins σ H s -> (∀ b ∈ fp, kl X pins H b) -> tn i s.heap -> J.go i H ->
  wpAny (model P w) X.A (pyNext (.ref it)) (fun r s1 => ∃ u, r = some u /\
   wpAny (model P w) X.A (letOwnedTupleGo tg (.ref it) u) (fun _ s2 => ∃ x H', Inv X pins σ H' s2 /\ zr x u /\ J.yld i H x H' /\ tn (i + 1) s2.heap /\ ∀ b ∈ fp, H' b = none) E s1) E s
 done : ∀ (X : Cx), X.prog = P -> X.w = w -> X.K = K -> X.calm = true -> ∀ (i : Nat) (pins : List (Addr × Obj)) (s : Shared) (σ : St) (H : Hp) (E : Value -> Shared -> Prop), Inv X pins σ H s -> (∀ b ∈ fp, kl X pins H b) -> tn i s.heap -> J.stop i H ->
  wpAny (model P w) X.A (pyNext (.ref it)) (fun r s1 => r = none /\ Inv X pins σ H s1) E s
 self : ∀ (A : Around) (i : Nat) (s : Shared) (Q : Value -> Shared -> Prop) (E : Value -> Shared -> Prop), tn i s.heap -> Q (.ref it) s -> wpAny (model P w) A (pyIter (.ref it)) Q E s
abbrev TI := St -> Hp -> (It -> Hp -> Prop) -> Prop
def PIE (X : Cx) (pins : List (Addr × Obj)) (σ : St) (tg : Expr) (R : It -> Hp -> Prop) (itv : Value) (s2 : Shared) : Prop :=
 ∃ (it : Addr) (fp : List Addr) (tn : Nat -> Heap -> Prop) (J : It) (H' : Hp), itv = .ref it /\ Inv X pins σ H' s2 /\ vV X.prog X.w X.K tg J fp it tn /\ tn 0 s2.heap /\ (∀ b ∈ fp, kl X pins H' b) /\ R J H'
def PI (X : Cx) (tg iter : Expr) (wi : TI) : Prop :=
 ∀ (pins : List (Addr × Obj)) (s : Shared) (σ : St) (H : Hp) (R : It -> Hp -> Prop), Inv X pins σ H s -> wi σ H R ->
  wpAny (model X.prog X.w) X.A (eval iter X.env) (fun v s1 => wpAny (model X.prog X.w) X.A (pyIter v) (PIE X pins σ tg R) X.xe s1) X.xe s
theorem QW {M : Model} {A : Around} {E : Value -> Shared -> Prop} {s : Shared} {tg : Expr} {it : Addr} {u : Value} {o : Obj} {n : String} {vs : Array Value} {Q : Unit -> Shared -> Prop} (ho : s.heap.get? it = some o) (hc : o.cls = .type n) (hd : o.data = .fields vs)
    (hn : ["enumerate", "zip", "dict_itemiterator", "dict_reverseitemiterator", "odict_iterator", "itertools.zip_longest", "itertools.pairwise"].contains n = false) (hQ : Q () s) : wpAny M A (letOwnedTupleGo tg (.ref it) u) Q E s := by
  unfold letOwnedTupleGo
  cases tg <;> first
    | exact wpAny_pure hQ
    | (cases u <;> first
        | exact wpAny_pure hQ
        | (refine wpAny_bind (wpAny_load ho ?_)
           rw [hc, hd]
           show wpAny M A (if (["enumerate", "zip", "dict_itemiterator", "dict_reverseitemiterator", "odict_iterator", "itertools.zip_longest", "itertools.pairwise"].contains n && vs[0]? == some (rawInt _)) = true then _ else _) Q E s
           rw [if_neg (by intro h; rw [hn, Bool.false_and] at h; cases h)]
           exact wpAny_pure hQ))
def Itl (K : PySem.W.Frag) (a : Addr) : It :=
 ⟨fun i H => ∃ xs x, SqL K H a xs /\ xs[i]? = some x, fun i H x H' => H' = H /\ ∀ xs, SqL K H a xs -> xs[i]? = some x, fun i H => ∃ xs, SqL K H a xs /\ xs.length <= i⟩
def Itt (K : PySem.W.Frag) (a : Addr) : It :=
 ⟨fun i H => ∃ xs x, SqT K H a xs /\ xs[i]? = some x, fun i H x H' => H' = H /\ ∀ xs, SqT K H a xs -> xs[i]? = some x, fun i H => ∃ xs, SqT K H a xs /\ xs.length <= i⟩
def Itr (lo : Int) (n : Nat) : It := ⟨fun i _ => i < n, fun i H x H' => H' = H /\ x = .int (lo + i), fun i _ => n <= i⟩
theorem ZJ {P : Program} {w : World} {K : PySem.W.Frag} {tg : Expr} (a it : Addr) : vV P w K tg (Itl K a) [it] it (fun i h => h.IsListIter it a i) where
 mem := by simp
 obj := fun i h st b hb => by
  have e : b = it := by simpa using hb
  subst e
  obtain ⟨o, e, c, d⟩ := st
  exact ⟨o, e, fun v z => by rw [d] at z; cases z⟩
 keep := fun i h h' st k => st.at fun o e => k it (by simp) o e
 item := by
  intro X hP hw hK hc i pins s σ H E I hf st hg
  subst hP hw hK
  obtain ⟨xs, x, hq, hx⟩ := hg
  obtain ⟨its, rv, p, hz⟩ := I.list hq
  obtain ⟨u, hu, ru⟩ := rv.get hx
  obtain ⟨f0, f1, f2, f3, f4, f5⟩ := hf it (by simp)
  refine wpAny_pyNext_list_item st p.isList (x := u) (by simpa using hu) fun h' st' sb => ?_
  have I1 : Inv X pins σ H { s with heap := h' } := I.turned (t' := s.toks) (fun b o hb e => (sb.2 b hb).trans e) f0 f1 f3 f4 f5
  obtain ⟨o, e, c, d⟩ := id st'
  exact ⟨u, rfl, QW (s := { s with heap := h' }) e c d (by decide) ⟨x, H, I1, ru, ⟨rfl, fun ys hy => by rw [I.list_inj hy hq]; exact hx⟩, st', fun b hb => (hf b hb).1⟩⟩
 done := by
  intro X hP hw hK hc i pins s σ H E I hf st hg
  subst hP hw hK
  obtain ⟨xs, hq, hx⟩ := hg
  obtain ⟨its, rv, p, hz⟩ := I.list hq
  obtain ⟨f0, f1, f2, f3, f4, f5⟩ := hf it (by simp)
  have hl := rv.length
  exact wpAny_pyNext_list_end (I.ok.hd hc) st p.isList (by simp; omega) fun h' eb => ⟨rfl, I.turned (t' := s.toks) (fun b o hb e => eb b o hb e) f0 f1 f3 f4 f5⟩
 self := fun _ _ _ _ _ st h => wpAny_pyIter_listiter st h
theorem vH {P : Program} {w : World} {K : PySem.W.Frag} {tg : Expr} (a it : Addr) : vV P w K tg (Itt K a) [it] it (fun i h => h.IsTupleIter it a i) where
 mem := by simp
 obj := fun i h st b hb => by
  have e : b = it := by simpa using hb
  subst e
  obtain ⟨o, e, c, d⟩ := st
  exact ⟨o, e, fun v z => by rw [d] at z; cases z⟩
 keep := fun i h h' st k => st.at fun o e => k it (by simp) o e
 item := by
  intro X hP hw hK hc i pins s σ H E I hf st hg
  subst hP hw hK
  obtain ⟨xs, x, hq, hx⟩ := hg
  obtain ⟨its, rv, p, hz⟩ := I.tuple hq
  obtain ⟨u, hu, ru⟩ := rv.get hx
  obtain ⟨f0, f1, f2, f3, f4, f5⟩ := hf it (by simp)
  refine wpAny_pyNext_tuple_item st (show s.heap.IsTuple a its.toArray from p) (x := u) (by simpa using hu) fun h' st' sb => ?_
  have I1 : Inv X pins σ H { s with heap := h' } := I.turned (t' := s.toks) (fun b o hb e => (sb.2 b hb).trans e) f0 f1 f3 f4 f5
  obtain ⟨o, e, c, d⟩ := id st'
  exact ⟨u, rfl, QW (s := { s with heap := h' }) e c d (by decide) ⟨x, H, I1, ru, ⟨rfl, fun ys hy => by rw [I.tuple_inj hy hq]; exact hx⟩, st', fun b hb => (hf b hb).1⟩⟩
 done := by
  intro X hP hw hK hc i pins s σ H E I hf st hg
  subst hP hw hK
  obtain ⟨xs, hq, hx⟩ := hg
  obtain ⟨its, rv, p, hz⟩ := I.tuple hq
  obtain ⟨f0, f1, f2, f3, f4, f5⟩ := hf it (by simp)
  have hl := rv.length
  exact wpAny_pyNext_tuple_end (I.ok.hd hc) st (show s.heap.IsTuple a its.toArray from p) (by simp; omega) fun h' eb => ⟨rfl, I.turned (t' := s.toks) (fun b o hb e => eb b o hb e) f0 f1 f3 f4 f5⟩
 self := fun _ _ _ _ _ st h => wpAny_pyIter_tupleiter st h
theorem vx {P : Program} {w : World} {K : PySem.W.Frag} {tg : Expr} (it : Addr) (lo : Int) (n : Nat) : vV P w K tg (Itr lo n) [it] it (fun i h => IsRangeIter h it (lo + (i : Nat) * 1) ((n : Int) - (i : Nat)) 1) where
 mem := by simp
 obj := fun i h st b hb => by
  have e : b = it := by simpa using hb
  subst e
  exact ⟨_, st, fun v z => by
   have z' : Data.fields _ = Data.cell v := z
   cases z'⟩
 keep := fun i h h' st k => k it (by simp) _ st
 item := by
  intro X hP hw hK hc i pins s σ H E I hf st hg
  subst hP hw hK
  obtain ⟨f0, f1, f2, f3, f4, f5⟩ := hf it (by simp)
  have W := Walks.range (prog := X.prog) (w := X.w) (I.ok.hd hc) it lo 1 n
  refine W.item i s _ _ hg st fun v h' tk hv st' kk => ?_
  obtain ⟨t, rfl⟩ := hv
  have I1 : Inv X pins σ H { s with heap := h', toks := tk } := I.turned (fun b o hb e => kk b o (by simpa using hb) e) f0 f1 f3 f4 f5
  refine ⟨_, rfl, QW (s := { s with heap := h', toks := tk }) (n := "range_iterator") st' rfl rfl (by decide) ⟨.int (lo + i), H, I1, ⟨t, ?_⟩, ⟨rfl, rfl⟩, st', fun b hb => (hf b hb).1⟩⟩
  rw [Int.mul_one]
 done := by
  intro X hP hw hK hc i pins s σ H E I hf st hg
  subst hP hw hK
  obtain ⟨f0, f1, f2, f3, f4, f5⟩ := hf it (by simp)
  exact wpAny_pyNext_range_end (I.ok.hd hc) st (by have : n <= i := hg; omega) fun h' eb => ⟨rfl, I.turned (t' := s.toks) (fun b o hb e => eb b o hb e) f0 f1 f3 f4 f5⟩
 self := fun _ _ _ _ _ st h => wpAny_pyIter_rangeiter st h
end L2
namespace L2
open PySem PySem.Spec PyProof.Rows
section
variable {X : Cx} {tg : Expr}
theorem vm {pins : List (Addr × Obj)} {σ : St} {H : Hp} {s : Shared} {R : It -> Hp -> Prop} {E : Value -> Shared -> Prop} {lo hi : Int} {t u v : Tok} {tk : Nat} (I : Inv X pins σ H s) (h1 : -(2 ^ 62) <= lo) (h2 : lo < 2 ^ 62) (h3 : -(2 ^ 62) <= hi) (h4 : hi < 2 ^ 62)
  (q : R (Itr lo (hi - lo).toNat) H) : wpAny (model X.prog X.w) X.A (pyIter (.ref s.heap.objs.size)) (PIE X pins σ tg R) E { s with heap := s.heap.push { cls := .type "range", data := .fields #[.int lo t, .int hi u, .int 1 v] }, toks := tk } := by
 refine wpAny_pyIter_range (IsRange.new ..) (small_one h1 h2 h3 h4) ?_
 have I1 : Inv X pins σ H { s with heap := s.heap.push { cls := .type "range", data := .fields #[.int lo t, .int hi u, .int 1 v] }, toks := tk } := I.kept fun b o e => Heap.get?_push_of_some _ e
 refine ⟨(s.heap.push { cls := .type "range", data := .fields #[.int lo t, .int hi u, .int 1 v] }).objs.size, [(s.heap.push { cls := .type "range", data := .fields #[.int lo t, .int hi u, .int 1 v] }).objs.size], _, _, H, rfl,
  I1.kept (t' := tk) fun b o e => Heap.get?_push_of_some _ e, vx _ lo (hi - lo).toNat, ?_, fun b hb => ?_, q⟩
 ·have e1 : lo + ((0 : Nat) : Int) * 1 = lo := by simp
  have e2 : (((hi - lo).toNat : Nat) : Int) - ((0 : Nat) : Int) = Builtin.Range.rangeSize lo hi 1 := by rw [rangeSize_one]; split <;> omega
  show IsRangeIter _ _ (lo + ((0 : Nat) : Int) * 1) ((((hi - lo).toNat : Nat) : Int) - ((0 : Nat) : Int)) 1
  rw [e1, e2]
  exact Heap.get?_push_size _ rfl
 ·have e : b = (s.heap.push { cls := .type "range", data := .fields #[.int lo t, .int hi u, .int 1 v] }).objs.size := by simpa using hb
  subst e
  exact I1.fpOk (Nat.le_refl _) (I1.hok.fresh (Nat.le_refl _))
def Qr (ta : TA) : TI := fun σ H R => ta σ H fun vs H1 => ∃ j : Int, vs = [.int j] /\ -(2 ^ 62) <= j /\ j < 2 ^ 62 /\ R (Itr 0 j.toNat) H1
def Xi (ta : TA) : TI := fun σ H R => ta σ H fun vs H1 => ∃ i j : Int, vs = [.int i, .int j] /\ (-(2 ^ 62) <= i /\ i < 2 ^ 62 /\ -(2 ^ 62) <= j /\ j < 2 ^ 62) /\ R (Itr i (j - i).toNat) H1
theorem qh {a : Expr} {ta : TA} {p pos : Pos} (hg : Gl X "range") (hm : X.mg "range" = none) (ha : PA X [a] ta) (hs : starEach [a] X.env = [(false, eval a X.env)] := by rfl) : PI X tg (.Call (.Name "range" p) [a] [] pos) (Qr ta) := by
 intro pins s σ H R I h
 refine Call_ (jb I hg hm boot_range (PyProof.Rows.callWith_type1 (thn (ha pos pins s σ H _ I h) fun us s1 ⟨vs, H1, I1, r1, q1⟩ => ?_) hs rfl))
 obtain ⟨j, e, q1, q2, q⟩ := q1
 subst e
 cases r1 with
 | cons r rr =>
  cases rr
  obtain ⟨t, rfl⟩ := r
  exact call_range_1 (vm I1 (by omega) (by omega) q1 q2 (by simpa using q))
theorem xq {a b : Expr} {ta : TA} {p pos : Pos} (hg : Gl X "range") (hm : X.mg "range" = none) (ha : PA X [a, b] ta) (hs : starEach [a, b] X.env = [(false, eval a X.env), (false, eval b X.env)] := by rfl) (hs2 : starEach [b] X.env = [(false, eval b X.env)] := by rfl) :
  PI X tg (.Call (.Name "range" p) [a, b] [] pos) (Xi ta) := by
 intro pins s σ H R I h
 refine Call_ (jb I hg hm boot_range (PyProof.Rows.callWith_type1 (thn (ha pos pins s σ H _ I h) fun us s1 ⟨vs, H1, I1, r1, q1⟩ => ?_) (by rw [hs, hs2]) (by rw [hs2]; rfl)))
 obtain ⟨i, j, e, ⟨q1, q2, q3, q4⟩, q⟩ := q1
 subst e
 cases r1 with
 | cons r rr =>
  cases rr with
  | cons r' rr =>
   cases rr
   obtain ⟨t, rfl⟩ := r
   obtain ⟨t', rfl⟩ := r'
   exact call_range_2 (vm I1 q1 q2 q3 q4 q)
def Vt (wi : TI) (g : TG) (tb : TS) : TS := fun D σ H => wi σ H fun J H1 => ∃ W : Nat -> Nat -> St -> Hp -> Prop, (∃ m, W 0 m σ H1) /\ ∀ i m σ H, W i m σ H ->
 (J.stop i H /\ D.nx σ H) \/ (J.go i H /\ ∃ N : St -> Hp -> Prop, (∀ σ' H', N σ' H' -> ∃ m', m' < m /\ W (i + 1) m' σ' H') /\ ∀ x H', J.yld i H x H' -> g x σ H' fun σ2 H2 => tb { D with nx := N, ct := N, bk := D.nx } σ2 H2)
def xg (fp : List Addr) (h : Heap) : List (Addr × Obj) := fp.filterMap fun b => (h.get? b).map fun o => (b, o)
theorem qN {fp : List Addr} {h : Heap} {b : Addr} {o : Obj} (hb : b ∈ fp) (e : h.get? b = some o) : (b, o) ∈ xg fp h := List.mem_filterMap.mpr ⟨b, hb, by rw [e]; rfl⟩
theorem Zh {fp : List Addr} {h : Heap} {p : Addr × Obj} (hp : p ∈ xg fp h) : p.1 ∈ fp /\ h.get? p.1 = some p.2 := by
 obtain ⟨b, hb, e⟩ := List.mem_filterMap.mp hp
 cases q : h.get? b with
 | none => rw [q] at e; cases e
 | some o =>
  rw [q] at e
  have e' : (b, o) = p := Option.some.inj e
  subst e'
  exact ⟨hb, q⟩
theorem Inv.pinned {pins : List (Addr × Obj)} {σ : St} {H : Hp} {s : Shared} {fp : List Addr} (I : Inv X pins σ H s) (hf : ∀ b ∈ fp, kl X pins H b) (ho : ∀ b ∈ fp, ∃ o, s.heap.get? b = some o /\ ∀ v, o.data ≠ .cell v) : Inv X (pins ++ xg fp s.heap) σ H s :=
 I.pins_of fun p hp => (List.mem_append.mp hp).elim (fun z => I.pin p (List.mem_append_right _ z)) fun z => by
  obtain ⟨hb, e⟩ := Zh z
  obtain ⟨f0, f1, f2, _⟩ := hf p.1 hb
  obtain ⟨o, e', d⟩ := ho p.1 hb
  rw [e] at e'; cases e'
  exact ⟨e, f0, f1, f2, d⟩
theorem Inv.unpinned {pins pl : List (Addr × Obj)} {σ : St} {H : Hp} {s : Shared} (I : Inv X (pins ++ pl) σ H s) : Inv X pins σ H s := I.pins_of fun p hp => I.pin p (List.mem_append_right _ (List.mem_append_left _ hp))
theorem qZ {iter : Expr} {body : List Stmt} {wi : TI} {g : TG} {tb : TS} {pos : Pos} (hp : PassesOwn (model X.prog X.w) X.A X.env X.xe) (hc : X.calm = true) (hi : PI X tg iter wi) (hg : PG X tg g) (hb : PSs X body tb)
  (hs : ∀ x, foldedSetIterable iter X.env x = pure x := by intro _; rfl) : PS X (.For tg iter body [] pos) (Vt wi g tb) := by
 intro pins s σ H D I h
 refine wpAny_For (thn (hi pins s σ H _ I h) fun v s1 h1 => thn h1 fun itv s2 h2 => ?_) hs
 obtain ⟨it, fp, tn, J, H2, e, I2, T, st2, f2, W, ⟨m0, w0⟩, turn⟩ := h2
 subst e
 have stat : ∀ {H' : Hp}, (∀ b ∈ fp, H' b = none) -> ∀ b ∈ fp, kl X pins H' b := fun hn b hb => ⟨hn b hb, (f2 b hb).2⟩
 refine codeAny_forLoop_any (fun n s' => ∃ i σ' H', Inv X pins σ' H' s' /\ tn i s'.heap /\ (∀ b ∈ fp, H' b = none) /\ W i n σ' H') ?_ m0 ⟨0, σ, H2, I2, st2, fun b hb => (f2 b hb).1, w0⟩
 rintro n s3 ⟨i, σ3, H3, I3, st3, fr3, w3⟩
 rcases turn i n σ3 H3 w3 with ⟨stop, qn⟩ | ⟨go, N, hN, step⟩
 ·refine wpAny_passesOwn hp (thn (T.done X rfl rfl rfl hc i pins s3 σ3 H3 X.xe I3 (stat fr3) st3 stop) fun r s4 ⟨hr, I4⟩ => ?_)
  subst hr
  exact wpAny_execs_nil ⟨σ3, H3, I4, qn⟩
 ·refine wpAny_passesOwn hp (thn (T.item X rfl rfl rfl hc i pins s3 σ3 H3 X.xe I3 (stat fr3) st3 go) fun r s4 ⟨u, hr, h4⟩ => ?_)
  subst hr
  refine wpAny_passesOwn hp (thn h4 fun _ s5 ⟨x, H5, I5, r5, y5, st5, fr5⟩ => ?_)
  have I5' := I5.pinned (stat fr5) (T.obj _ _ st5)
  refine wpAny_passesOwn hp (thn (hg _ s5 σ3 H5 x u _ I5' r5 (step x H5 y5)) fun _ s6 ⟨σ6, H6, I6, q6⟩ => ?_)
  refine wpAny_passesOwn hp (thn (hb _ s6 σ6 H6 _ I6 q6) fun f s7 q7 => ?_)
  have again : ∀ {σ7 : St} {H7 : Hp}, Inv X (pins ++ xg fp s5.heap) σ7 H7 s7 -> N σ7 H7 -> ∃ m, m < n /\ ∃ i σ' H', Inv X pins σ' H' s7 /\ tn i s7.heap /\ (∀ b ∈ fp, H' b = none) /\ W i m σ' H' := fun {σ7 H7} I7 n7 => by
   obtain ⟨m', hm, w7⟩ := hN σ7 H7 n7
   refine ⟨m', hm, i + 1, σ7, H7, I7.unpinned, T.keep _ _ _ st5 fun b hb o e => (I7.pin (b, o) (List.mem_append_right _ (List.mem_append_right _ (qN hb e)))).1, fun b hb => ?_, w7⟩
   obtain ⟨o, e, d⟩ := T.obj _ _ st5 b hb
   exact (I7.pin (b, o) (List.mem_append_right _ (List.mem_append_right _ (qN hb e)))).2.1
  cases f with
  | next => obtain ⟨σ7, H7, I7, n7⟩ := q7; exact again I7 n7
  | cont => obtain ⟨σ7, H7, I7, n7⟩ := q7; exact again I7 n7
  | brk => obtain ⟨σ7, H7, I7, q7⟩ := q7; exact ⟨σ7, H7, I7.unpinned, q7⟩
  | ret v => obtain ⟨x7, σ7, H7, I7, r7, q7⟩ := q7; exact ⟨x7, σ7, H7, I7.unpinned, r7, q7⟩
end
theorem ZL {lo : Int} {n : Nat} {g : TG} {tb : TS} {D : ju} {σ : St} {H : Hp} (Pv : Nat -> St -> Hp -> Prop) (h0 : Pv 0 σ H)
  (hs : ∀ i σ H, i < n -> Pv i σ H -> g (.int (lo + i)) σ H fun σ2 H2 => tb { D with nx := Pv (i + 1), ct := Pv (i + 1), bk := D.nx } σ2 H2) (hd : ∀ σ H, Pv n σ H -> D.nx σ H) :
  ∃ W : Nat -> Nat -> St -> Hp -> Prop, (∃ m, W 0 m σ H) /\ ∀ i m σ H, W i m σ H ->
   ((Itr lo n).stop i H /\ D.nx σ H) \/ ((Itr lo n).go i H /\ ∃ N : St -> Hp -> Prop, (∀ σ' H', N σ' H' -> ∃ m', m' < m /\ W (i + 1) m' σ' H') /\ ∀ x H', (Itr lo n).yld i H x H' -> g x σ H' fun σ2 H2 => tb { D with nx := N, ct := N, bk := D.nx } σ2 H2) := by
 refine ⟨fun i m σ H => m = n - i /\ i <= n /\ Pv i σ H, ⟨n, by simp, Nat.zero_le _, h0⟩, ?_⟩
 rintro i m σ H ⟨rfl, hi, p⟩
 by_cases hlt : i < n
 ·refine .inr ⟨hlt, Pv (i + 1), fun σ' H' p' => ⟨n - (i + 1), by omega, rfl, hlt, p'⟩, fun x H' y => ?_⟩
  obtain ⟨e, y⟩ := y
  subst e y
  exact hs i σ _ hlt p
 ·have e : i = n := by omega
  subst e
  exact .inl ⟨Nat.le_refl _, hd σ H p⟩
end L2
namespace L2
open PySem PySem.Spec PyProof.Rows
abbrev R2 := V -> V -> Hp -> VK -> Prop
def OpR (X : Cx) (f : Value -> Value -> Sem Value) (r : R2) : Prop :=
 ∀ (pins : List (Addr × Obj)) (s : Shared) (σ : St) (H : Hp) (x y : V) (v u : Value) (Q : VK), Inv X pins σ H s -> zr x v -> zr y u -> r x y H Q ->
  wpAny (model X.prog X.w) X.A (f v u) (EP X pins σ Q) X.xe s
def UnR (X : Cx) (f : Value -> Sem Value) (r : V -> Hp -> VK -> Prop) : Prop :=
 ∀ (pins : List (Addr × Obj)) (s : Shared) (σ : St) (H : Hp) (x : V) (v : Value) (Q : VK), Inv X pins σ H s -> zr x v -> r x H Q ->
  wpAny (model X.prog X.w) X.A (f v) (EP X pins σ Q) X.xe s
def zY (X : Cx) (f : Value) (r : List V -> Hp -> VK -> Prop) : Prop :=
 ∀ (pins : List (Addr × Obj)) (s : Shared) (σ : St) (H : Hp) (xs : List V) (us : List Value) (Q : VK), Inv X pins σ H s -> zq xs us -> r xs H Q ->
  wpAny (model X.prog X.w) X.A (call f us) (EP X pins σ Q) X.xe s
def tOp (r : R2) (ta tb : TE) : TE := fun σ H Q => ta σ H fun x H1 => tb σ H1 fun y H2 => r x y H2 Q
def tUn (r : V -> Hp -> VK -> Prop) (ta : TE) : TE := fun σ H Q => ta σ H fun x H1 => r x H1 Q
def rI (C : Int -> Int -> Prop) (g : Int -> Int -> V) : R2 := fun x y H Q => ∃ i j, x = .int i /\ y = .int j /\ C i j /\ Q (g i j) H
def rI0 (g : Int -> Int -> V) : R2 := fun x y H Q => ∃ i j, x = .int i /\ y = .int j /\ Q (g i j) H
def rU (g : Int -> V) : V -> Hp -> VK -> Prop := fun x H Q => ∃ i, x = .int i /\ Q (g i) H
section
variable {X : Cx} {a b c : Expr} {ta tb tc : TE} {pos : Pos}
theorem YY (ha : PE X a ta) (hb : PE X b tb) {pins : List (Addr × Obj)} {s : Shared} {σ : St} {H : Hp} {R : V -> V -> Hp -> Prop} (I : Inv X pins σ H s)
  (h : ta σ H fun x H1 => tb σ H1 fun y H2 => R x y H2) {Q : Value -> Shared -> Prop} {f : Value -> Value -> Sem Value}
  (hf : ∀ v u s2 x y H2, Inv X pins σ H2 s2 -> zr x v -> zr y u -> R x y H2 -> wpAny (model X.prog X.w) X.A (f v u) Q X.xe s2) :
  wpAny (model X.prog X.w) X.A (eval a X.env) (fun v s₁ => wpAny (model X.prog X.w) X.A (eval b X.env) (fun u s₂ => wpAny (model X.prog X.w) X.A (f v u) Q X.xe s₂) X.xe s₁) X.xe s := by
 refine thn (ha pins s σ H _ I h) fun v s1 ⟨x, H1, I1, r1, q1⟩ => ?_
 refine thn (hb pins s1 σ H1 _ I1 q1) fun u s2 ⟨y, H2, I2, r2, q2⟩ => ?_
 exact hf v u s2 x y H2 I2 r1 r2 q2
theorem zi {op : Operator} {r : R2} (ho : OpR X (binaryOp op) r) (ha : PE X a ta) (hb : PE X b tb) : PE X (.BinOp a op b pos) (tOp r ta tb) := by
 intro pins s σ H Q I h
 exact wpAny_BinOp (YY ha hb I h fun v u s2 x y H2 I2 rx ry q => ho pins s2 σ H2 x y v u Q I2 rx ry q)
theorem Xt {op : UnaryOp} {r : V -> Hp -> VK -> Prop} (ho : UnR X (unaryOp op) r) (ha : PE X a ta) : PE X (.UnaryOp op a pos) (tUn r ta) := by
 intro pins s σ H Q I h
 exact UnaryOp_ (thn (ha pins s σ H _ I h) fun v s1 ⟨x, H1, I1, r1, q1⟩ => ho pins s1 σ H1 x v Q I1 r1 q1)
theorem opI {f : Value -> Value -> Sem Value} {C : Int -> Int -> Prop} {g : Int -> Int -> Int}
  (rule : ∀ (i j : Int) (t u : Tok) (s : Shared) (Q : Value -> Shared -> Prop) (E : Value -> Shared -> Prop), C i j -> Q (.int (g i j) s.toks) { s with toks := s.toks + 1 } -> wpAny (model X.prog X.w) X.A (f (.int i t) (.int j u)) Q E s) :
  OpR X f (rI C fun i j => .int (g i j)) := by
 intro pins s σ H x y v u Q I rx ry h
 obtain ⟨i, j, rfl, rfl, hc, q⟩ := h
 obtain ⟨t, rfl⟩ := rx
 obtain ⟨t', rfl⟩ := ry
 exact rule i j t t' s _ _ hc ⟨.int (g i j), H, I.tok _, ⟨_, rfl⟩, q⟩
theorem V0 {f : Value -> Value -> Sem Value} {g : Int -> Int -> Int}
  (rule : ∀ (i j : Int) (t u : Tok) (s : Shared) (Q : Value -> Shared -> Prop) (E : Value -> Shared -> Prop), Q (.int (g i j) s.toks) { s with toks := s.toks + 1 } -> wpAny (model X.prog X.w) X.A (f (.int i t) (.int j u)) Q E s) :
  OpR X f (rI0 fun i j => .int (g i j)) := by
 intro pins s σ H x y v u Q I rx ry h
 obtain ⟨i, j, rfl, rfl, q⟩ := h
 obtain ⟨t, rfl⟩ := rx
 obtain ⟨t', rfl⟩ := ry
 exact rule i j t t' s _ _ ⟨.int (g i j), H, I.tok _, ⟨_, rfl⟩, q⟩
theorem KO {f : Value -> Value -> Sem Value} {g : Int -> Int -> Bool}
  (rule : ∀ (i j : Int) (t u : Tok) (s : Shared) (Q : Value -> Shared -> Prop) (E : Value -> Shared -> Prop), Q (.bool (g i j)) s -> wpAny (model X.prog X.w) X.A (f (.int i t) (.int j u)) Q E s) :
  OpR X f (rI0 fun i j => .bl (g i j)) := by
 intro pins s σ H x y v u Q I rx ry h
 obtain ⟨i, j, rfl, rfl, q⟩ := h
 obtain ⟨t, rfl⟩ := rx
 obtain ⟨t', rfl⟩ := ry
 exact rule i j t t' s _ _ ⟨.bl (g i j), H, I, rfl, q⟩
def Yq (i j : Int) : Prop := 0 < j /\ j < 1073741824
def Wk (i j : Int) : Prop := 0 <= j /\ j <= 1000000 /\ i.natAbs < 2 ^ 64
def Qn (i j : Int) : Prop := (-(2 ^ 64) < i /\ i < 2 ^ 64) \/ (-(2 ^ 64) < j /\ j < 2 ^ 64)
theorem Qn.ok {i j : Int} (h : Qn i j) : IntMulOk i j := by
 rcases h with ⟨h1, h2⟩ | ⟨h1, h2⟩
 ·exact .of_left (intBits_le_64 h1 h2)
 ·exact .of_right (intBits_le_64 h1 h2)
theorem zC : OpR X (binaryOp .Add) (rI0 fun i j => .int (i + j)) := V0 fun _ _ _ _ _ _ _ q => add_int q
theorem jv : OpR X (binaryOp .Sub) (rI0 fun i j => .int (i - j)) := V0 fun _ _ _ _ _ _ _ q => sub_int q
theorem qB : OpR X (binaryOp .Mult) (rI Qn fun i j => .int (i * j)) := opI fun _ _ _ _ _ _ _ hc q => mul_int q hc.ok
theorem jJ : OpR X (binaryOp .FloorDiv) (rI Yq fun i j => .int (i / j)) := opI fun i j _ _ _ _ _ hc q => by
 have h1 : (0 : Int) < j := hc.1
 have h2 : j < 1073741824 := hc.2
 exact floordiv_int (by omega) (by rw [Int.fdiv_eq_ediv_of_nonneg i (by omega)]; exact q) (.inl (PyProof.noPylong_small (by omega)))
theorem qc : OpR X (binaryOp .Mod) (rI (fun _ j => 0 < j) fun i j => .int (i % j)) := opI fun i j _ _ _ _ _ hc q => by
 have h1 : (0 : Int) < j := hc
 exact mod_int' (by omega) (by rw [Int.fmod_eq_emod_of_nonneg i (by omega)]; exact q)
theorem JG : OpR X (binaryOp .Pow) (rI Wk fun i j => .int (i ^ j.toNat)) := opI fun _ _ _ _ _ _ _ hc q => pow_int_small hc.1 hc.2.1 hc.2.2 q
theorem unI {f : Value -> Sem Value} {g : Int -> Int}
  (rule : ∀ (i : Int) (t : Tok) (s : Shared) (Q : Value -> Shared -> Prop) (E : Value -> Shared -> Prop), Q (.int (g i) s.toks) { s with toks := s.toks + 1 } -> wpAny (model X.prog X.w) X.A (f (.int i t)) Q E s) :
  UnR X f (rU fun i => .int (g i)) := by
 intro pins s σ H x v Q I rx h
 obtain ⟨i, rfl, q⟩ := h
 obtain ⟨t, rfl⟩ := rx
 exact rule i t s _ _ ⟨.int (g i), H, I.tok _, ⟨_, rfl⟩, q⟩
theorem QQ : UnR X (unaryOp .USub) (rU fun i => .int (-i)) := unI fun _ _ _ _ _ q => neg_int q
end
def Wg : V -> V -> Bool
 | .non, .non => true | .non, .int _ => true | .int _, .non => true | .non, .bl _ => true | .bl _, .non => true | .non, .str _ => true | .str _, .non => true
 | .int _, .int _ => true | .bl _, .bl _ => true | .str _, .str _ => true | .byt _, .byt _ => true
 | .int _, .str _ => true | .str _, .int _ => true | .bl _, .str _ => true | .str _, .bl _ => true
 | _, _ => false
def rEq : R2 := fun x y H Q => Wg x y = true /\ Q (.bl (decide (x = y))) H
theorem J1 {i j : Int} : decide (V.int i = V.int j) = (i == j) := by
 rw [Bool.eq_iff_iff]
 simp
theorem Y7 {i j : Bool} : decide (V.bl i = V.bl j) = (i == j) := by
 rw [Bool.eq_iff_iff]
 simp
theorem Km {i j : Str} : decide (V.str i = V.str j) = (i == j) := by
 rw [Bool.eq_iff_iff]
 simp
theorem Kj {i j : Array UInt8} : decide (V.byt i = V.byt j) = (i.toList == j.toList) := by
 rw [Bool.eq_iff_iff]
 cases i
 cases j
 simp
section
variable {X : Cx} {a b c : Expr} {ta tb tc : TE} {pos : Pos}
theorem qa {pins : List (Addr × Obj)} {σ : St} {H : Hp} {s : Shared} {Q : VK} {k k' : Bool} (I : Inv X pins σ H s) (q : Q (.bl k) H) (e : k = k') : EP X pins σ Q (.bool k') s := by
 subst e
 exact ⟨.bl k, H, I, rfl, q⟩
theorem jS : OpR X (compareOp .Eq) rEq := by
 intro pins s σ H x y v u Q I rx ry h
 obtain ⟨hs, q⟩ := h
 cases x with
 | non =>
  cases rx
  cases y with
  | non => cases ry; exact PySem.EqNone.eq_none_none (qa I q (by simp))
  | bl j => cases ry; exact PySem.EqNone.eq_none_bool (qa I q (by simp))
  | int j => obtain ⟨t', rfl⟩ := ry; exact PySem.EqNone.eq_none_int (qa I q (by simp))
  | str j => obtain ⟨t', rfl⟩ := ry; exact PySem.EqNone.eq_none_str (qa I q (by simp))
  | _ => exact absurd (show false = true from hs) Bool.false_ne_true
 | bl i =>
  cases rx
  cases y with
  | non => cases ry; exact PySem.EqNone.eq_bool_none (qa I q (by simp))
  | bl j => cases ry; exact eq_bool (qa I q Y7)
  | str j => obtain ⟨t', rfl⟩ := ry; exact PySem.EqMixed.eq_bool_str (qa I q (by simp))
  | _ => exact absurd (show false = true from hs) Bool.false_ne_true
 | int i =>
  obtain ⟨t, rfl⟩ := rx
  cases y with
  | non => cases ry; exact PySem.EqNone.eq_int_none (qa I q (by simp))
  | int j => obtain ⟨t', rfl⟩ := ry; exact eq_int (qa I q J1)
  | str j => obtain ⟨t', rfl⟩ := ry; exact PySem.EqMixed.eq_int_str (qa I q (by simp))
  | _ => exact absurd (show false = true from hs) Bool.false_ne_true
 | str i =>
  obtain ⟨t, rfl⟩ := rx
  cases y with
  | non => cases ry; exact PySem.EqNone.eq_str_none (qa I q (by simp))
  | bl j => cases ry; exact PySem.EqMixed.eq_str_bool (qa I q (by simp))
  | int j => obtain ⟨t', rfl⟩ := ry; exact PySem.EqMixed.eq_str_int (qa I q (by simp))
  | str j => obtain ⟨t', rfl⟩ := ry; exact eq_str (qa I q Km)
  | _ => exact absurd (show false = true from hs) Bool.false_ne_true
 | byt i =>
  obtain ⟨t, rfl⟩ := rx
  cases y with
  | byt j => obtain ⟨t', rfl⟩ := ry; exact PySem.W.eq_bytes (qa I q Kj)
  | _ => exact absurd (show false = true from hs) Bool.false_ne_true
 | _ => cases y <;> exact absurd (show false = true from hs) Bool.false_ne_true
theorem Jf : OpR X (compareOp .Lt) (rI0 fun i j => .bl (decide (i < j))) := KO fun _ _ _ _ _ _ _ q => lt_int q
theorem Wb : OpR X (compareOp .LtE) (rI0 fun i j => .bl (decide (i <= j))) := KO fun _ _ _ _ _ _ _ q => le_int q
theorem VT : OpR X (compareOp .Gt) (rI0 fun i j => .bl (decide (j < i))) := KO fun _ _ _ _ _ _ _ q => gt_int q
theorem V7 : OpR X (compareOp .GtE) (rI0 fun i j => .bl (decide (j <= i))) := KO fun _ _ _ _ _ _ _ q => ge_int q
theorem zG (b : Expr) {op : CmpOp} (h : op ≠ .In := by decide) (h2 : op ≠ .NotIn := by decide) : behindInMarks op b = false := by
 have e1 : (op == CmpOp.In) = false := by cases op <;> first | rfl | exact absurd rfl h
 have e2 : (op == CmpOp.NotIn) = false := by cases op <;> first | rfl | exact absurd rfl h2
 cases b <;> simp [behindInMarks, e1, e2]
theorem jC {op : CmpOp} {r : R2} (ho : OpR X (compareOp op) r) (ha : PE X a ta) (hb : PE X b tb) (hm : behindInMarks op b = false) : PE X (.Compare a [op] [b] pos) (tOp r ta tb) := by
 intro pins s σ H Q I h
 exact wpAny_Compare1 (YY ha hb I h fun v u s2 x y H2 I2 rx ry q => ho pins s2 σ H2 x y v u Q I2 rx ry q) hm
def Qs (t : TE) : TT := fun σ H Q => t σ H fun x H' => ∃ k, x = .bl k /\ Q k H'
theorem zH {op : CmpOp} {r : R2} (ho : OpR X (compareOp op) r) (ha : PE X a ta) (hb : PE X b tb) (hm : behindInMarks op b = false) : PT X (.Compare a [op] [b] pos) (Qs (tOp r ta tb)) := by
 intro pins s σ H Q I h
 refine wpAny_isTrue_Compare1 (thn (ha pins s σ H _ I h) fun v s1 ⟨x, H1, I1, r1, q1⟩ => thn (hb pins s1 σ H1 _ I1 q1) fun u s2 ⟨y, H2, I2, r2, q2⟩ =>
  thn (ho pins s2 σ H2 x y v u _ I2 r1 r2 q2) fun c s3 ⟨z, H3, I3, r3, k, e, q3⟩ => ?_) hm
 subst e
 cases r3
 exact wpAny_truthy_bool ⟨H3, I3, q3⟩
def Jy (r r' : R2) (ta tb tc : TE) : TE := fun σ H Q => ta σ H fun x H1 => tb σ H1 fun y H2 => r x y H2 fun z H3 => ∃ k, z = .bl k /\
 (if k = true then tc σ H3 fun w' H4 => r' y w' H4 Q else Q (.bl false) H3)
theorem Qw {op op' : CmpOp} {r r' : R2} (ho : OpR X (compareOp op) r) (ho' : OpR X (compareOp op') r') (ha : PE X a ta) (hb : PE X b tb) (hc : PE X c tc)
  (hm : lastMarks [op, op'] [b, c] = false := by with_unfolding_all rfl) : PE X (.Compare a [op, op'] [b, c] pos) (Jy r r' ta tb tc) := by
 intro pins s σ H Q I h
 refine Compare_chain (thn (ha pins s σ H _ I h) fun v s1 ⟨x, H1, I1, r1, q1⟩ => chain_link (thn (hb pins s1 σ H1 _ I1 q1) fun u s2 ⟨y, H2, I2, r2, q2⟩ =>
  thn (ho pins s2 σ H2 x y v u _ I2 r1 r2 q2) fun d s3 ⟨z, H3, I3, r3, k, e, q3⟩ => ?_)) hm
 subst e
 cases r3
 refine wpAny_truthy_bool ?_
 cases k with
 | false => exact ite_ff ⟨.bl false, H3, I3, rfl, q3⟩
 | true => exact ite_tt (chain_last (thn (hc pins s3 σ H3 _ I3 q3) fun w' s4 ⟨z', H4, I4, r4, q4⟩ => ho' pins s4 σ H4 y z' u w' Q I4 r2 r4 q4))
theorem kL : (sizeLine : Nat) < 2 ^ 63 := by rw [sizeLine_eq]; decide
theorem qR {x : V} {us : List Value} (r : zq [x] us) : ∃ u, us = [u] /\ zr x u := by
 cases r with
 | cons r1 r2 => cases r2; exact ⟨_, rfl, r1⟩
theorem xE {x y : V} {us : List Value} (r : zq [x, y] us) : ∃ u w', us = [u, w'] /\ zr x u /\ zr y w' := by
 cases r with
 | cons r1 r2 =>
  cases r2 with
  | cons r3 r4 => cases r4; exact ⟨_, _, rfl, r1, r3⟩
theorem y0 : zY X (.builtin "abs") (fun xs H Q => ∃ i, xs = [.int i] /\ Q (.int (if i < 0 then -i else i)) H) := by
 intro pins s σ H xs us Q I r h
 obtain ⟨i, rfl, q⟩ := h
 obtain ⟨u, rfl, t, rfl⟩ := qR r
 exact call_abs_int fun u tk => ⟨.int (if i < 0 then -i else i), H, I.tok _, ⟨_, rfl⟩, q⟩
theorem wV (hc : X.calm = true) : zY X (.builtin "max") (fun xs H Q => ∃ i j, xs = [.int i, .int j] /\ Q (.int (if j > i then j else i)) H) := by
 intro pins s σ H xs us Q I r h
 obtain ⟨i, j, rfl, q⟩ := h
 obtain ⟨u, w', rfl, ⟨t, rfl⟩, ⟨t', rfl⟩⟩ := xE r
 refine max_two_ints (I.ok.hd hc) fun h' tk k => ⟨_, H, I.kept k, ?_, q⟩
 by_cases hj : j > i
 ·rw [if_pos hj, if_pos hj]; exact ⟨_, rfl⟩
 ·rw [if_neg hj, if_neg hj]; exact ⟨_, rfl⟩
theorem Za (hc : X.calm = true) : zY X (.builtin "min") (fun xs H Q => ∃ i j, xs = [.int i, .int j] /\ Q (.int (if j < i then j else i)) H) := by
 intro pins s σ H xs us Q I r h
 obtain ⟨i, j, rfl, q⟩ := h
 obtain ⟨u, w', rfl, ⟨t, rfl⟩, ⟨t', rfl⟩⟩ := xE r
 refine min_two_ints (I.ok.hd hc) fun h' tk k => ⟨_, H, I.kept k, ?_, q⟩
 by_cases hj : j < i
 ·rw [if_pos hj, if_pos hj]; exact ⟨_, rfl⟩
 ·rw [if_neg hj, if_neg hj]; exact ⟨_, rfl⟩
theorem wO : zY X (.type "int") (fun xs H Q => (∃ i, xs = [.int i] /\ Q (.int i) H) \/ ∃ k, xs = [.bl k] /\ Q (.int (if k then 1 else 0)) H) := by
 intro pins s σ H xs us Q I r h
 rcases h with ⟨i, rfl, q⟩ | ⟨k, rfl, q⟩
 ·obtain ⟨u, rfl, t, rfl⟩ := qR r
  exact call_int_int ⟨.int i, H, I, ⟨_, rfl⟩, q⟩
 ·obtain ⟨u, rfl, r1⟩ := qR r
  cases r1
  exact call_int_bool ⟨.int (if k then 1 else 0), H, I.tok _, ⟨_, rfl⟩, q⟩
theorem yu : zY X (.type "str") (fun xs H Q => ∃ i, xs = [.int i] /\ i.natAbs.log2 < 1920 /\ Q (.str (toString i)) H) := by
 intro pins s σ H xs us Q I r h
 obtain ⟨i, rfl, hz, q⟩ := h
 obtain ⟨u, rfl, t, rfl⟩ := qR r
 exact PySem.P.str_of_int hz ⟨.str _, H, I.tok _, ⟨_, rfl⟩, q⟩
theorem yN : zY X (.builtin "divmod") (fun xs H Q => ∃ i j, xs = [.int i, .int j] /\ Yq i j /\ ∀ p, H p = none -> Q (.ref p) (upd H p (.tup [.int (i / j), .int (i % j)]))) := by
 intro pins s σ H xs us Q I r h
 obtain ⟨i, j, rfl, ⟨h1, h2⟩, q⟩ := h
 obtain ⟨u, w', rfl, ⟨t, rfl⟩, ⟨t', rfl⟩⟩ := xE r
 refine divmod_int (by omega) ?_ (.inl (PyProof.noPylong_small (by omega)))
 rw [Int.fdiv_eq_ediv_of_nonneg i (by omega), Int.fmod_eq_emod_of_nonneg i (by omega)]
 have hn : H s.heap.objs.size = none := I.hok.fresh (Nat.le_refl _)
 refine ⟨.ref s.heap.objs.size, _, ?_, rfl, q _ hn⟩
 refine I.laid (fun b o e => Heap.get?_push_of_some _ e) (Nat.le_refl _) ⟨by simp only [List.length_cons, List.length_nil]; rw [sizeLine_eq]; decide, [.int (i / j) s.toks, .int (i % j) (s.toks + 1)], .cons ⟨_, rfl⟩ (.cons ⟨_, rfl⟩ .nil), ?_⟩
 exact ⟨_, Heap.get?_push_size s.heap rfl, rfl, 0, rfl⟩
end
end L2
namespace L2
open PySem PySem.Spec PyProof.Rows
structure Q4 (h : Heap) (x dx C : Addr) (mA : Str -> Option Value) : Prop where
 obj : h.get? x = some (PySem.W.instObj C dx)
 ns : h.Ns1 dx mA
 ne : dx ≠ x
theorem wW {h : Heap} {dx : Addr} {mA : Str -> Option Value} (n : h.Ns1 dx mA) : ∃ od, h.get? dx = some od /\ ∀ name, PySem.W.lookIn name od = some (mA name) := by
 obtain ⟨o, es, ep, ho, hd, hk, _, hm⟩ := n
 refine ⟨o, ho, fun name => ?_⟩
 have e := hm name
 unfold nsFind findBy at e
 rw [<- Array.find?_toList] at e
 unfold PySem.W.lookIn
 rw [hd]
 dsimp only
 split
 ·rename_i y q
  rw [q] at e
  exact congrArg some e
 ·rename_i q
  rw [q] at e
  have a : es.toList.any (·.refKey) = false := by
   rw [List.any_eq_false]
   intro y hy
   obtain ⟨z, t, hkey⟩ := hk y (Array.mem_toList_iff.mp hy)
   simp [DictEntry.refKey, hkey]
  have a' : ¬ es.toList.any (·.refKey) = true := by rw [a]; exact Bool.false_ne_true
  rw [if_neg a']
  exact congrArg some e
theorem Q4.look {h : Heap} {x dx C : Addr} {mA : Str -> Option Value} (I : Q4 h x dx C mA) : ∃ od, PySem.W.InstAt h x (PySem.W.instObj C dx) C (some od) /\ ∀ name, PySem.W.lookIn name od = some (mA name) :=
 let ⟨od, ho, hl⟩ := wW I.ns
 ⟨od, ⟨I.obj, rfl, rfl, ho⟩, hl⟩
section
variable {prog : Program} {w : World} {A : Around} {E : Value -> Shared -> Prop} {s : Shared} {K : PySem.W.Frag} {x dx C f : Addr} {mA : Str -> Option Value} {name : Str} {v : Value}
theorem jU {ns : List Str} {Q : Unit -> Shared -> Prop} (X : K.In s.heap) (I : Q4 s.heap x dx C mA)
  (hs : PySem.W.findIn K (.ref C) "__setattr__" = some (some (.builtin "object.__setattr__"))) (hp : PySem.W.plainOver K C = true) (ht : PySem.W.takerIn K C name = some none) (hh : PySem.W.hasDictIn K C = true)
  (hw : PySem.Within mA ns) (hsz : ns.length <= sizeLine)
  (h : ∀ h', Q4 h' x dx C (fun y => if y = name then some v else mA y) -> Heap.SameBut dx s.heap h' -> Q () { s with heap := h', toks := s.toks + 2 }) :
  wpAny (model prog w) A (setAttr (.ref x) name v) Q E s := by
 obtain ⟨od, J, hl⟩ := I.look
 refine PySem.W.set_plain X J hs (PySem.W.osa_open (s := { s with toks := s.toks + 1 }) (r := none) X J hp ht fun b => ?_)
 obtain ⟨cd, hc, hd'⟩ := PySem.W.any_some hh
 have hx : s.heap.get? x = some ⟨.ref C, some dx, .plain, #[]⟩ := I.obj
 refine wpAny_bind (wpAny_pure (wpAny_bind (wpAny_bind (wpAny_loadPart hx (wpAny_bind (PySem.W.Looks.here (s := { s with toks := s.toks + 1 }) (PySem.W.looks_clsIn X hc) ?_))))))
 rw [hd']
 refine wpAny_pure (a := some dx) (wpAny_bind (wpAny_pure (wpAny_bind ?_)))
 refine wpAny_nsSet1 (s := { s with toks := s.toks + 1 }) I.ns fun h' hn2 hs2 => ?_
 obtain ⟨oD, esD, epD, hoD, hdD, hcD⟩ := hn2.count (PySem.Within.cons name v hw)
 refine wpAny_bind (wpAny_lookBehind hoD (by rw [hdD]; exact pastItsLine_dict (Nat.le_trans hcD (by rw [List.length_cons]; omega))) ?_)
 exact wpAny_pure (h _ ⟨(hs2.2 _ (Ne.symm I.ne)).trans I.obj, hn2, I.ne⟩ hs2)
end
section
variable {P : Program} {w : World} {H H' : Hp} {h h' : Heap} {a C dx : Addr} {fs fs' : List (Str × V)}
theorem JN (hok : HOk P w H h) (e : H a = some (.ins C dx fs)) : ∃ mA, Q4 h a dx C mA /\ (∀ f, Yl (fs.lookup f) (mA f)) /\ PySem.Within mA (fs.map (·.1)) /\ fs.length <= 1000 /\ H dx = some (.own a) := by
 obtain ⟨d, z, ne, ob, mA, n, r, q⟩ := (show zK P w H h a (.ins C dx fs) from hok a _ e)
 exact ⟨mA, ⟨ob, n, ne⟩, r, q, z, d⟩
end
structure Cls (K : PySem.W.Frag) (C : Addr) : Prop where
 pg : PySem.W.plainGet K C Str.empty = true
 hd : PySem.W.hasDictIn K C = true
 po : PySem.W.plainOver K C = true
 sa : PySem.W.findIn K (.ref C) "__setattr__" = some (some (.builtin "object.__setattr__"))
theorem Cls.get {K : PySem.W.Frag} {C : Addr} (c : Cls K C) (f : Str) : PySem.W.plainGet K C f = true := c.pg
structure Con (K : PySem.W.Frag) (C : Addr) (f : Str) (v : V) (u : Value) : Prop where
 at_ : PySem.W.findIn K (.ref C) f = some (some u)
 rel : zr v u
 get : PySem.W.specialIn K u "__get__" = some none
 cp : PySem.W.copiedNames.contains f = false
structure Wr (K : PySem.W.Frag) (C : Addr) (m : Str) (f : Addr) : Prop where
 at_ : PySem.W.findIn K (.ref C) m = some (some (.ref f))
 fn : PySem.W.isFn K (.ref f) = true
 kp : PySem.W.keepIn K (.ref f) = true
section
variable {X : Cx} {pins : List (Addr × Obj)} {σ : St} {H : Hp} {s : Shared} {a C dx : Addr} {fs : List (Str × V)} {f : Str} {v : V} {A : Around} {E : Value -> Shared -> Prop}
end
section
variable {X : Cx} {o e value : Expr} {f : Str} {pos pos' tpos : Pos} {ta tv : TE}
end
section
variable {X : Cx} {pins : List (Addr × Obj)} {σ : St} {H : Hp} {s : Shared} {A : Around} {E : Value -> Shared -> Prop} {Q : Value -> Shared -> Prop} {c : Value} {b : Bool}
inductive qS (K : PySem.W.Frag) (H : Hp) : V -> Value -> Prop where
  | non : qS K H .non (.type "NoneType")
  | bl (x : Bool) : qS K H (.bl x) (.type "bool")
  | int (i : Int) : qS K H (.int i) (.type "int")
  | str (x : Str) : qS K H (.str x) (.type "str")
  | flt (x : UInt64) : qS K H (.flt x) (.type "float")
  | lst {a : Addr} {xs : List V} (e : H a = some (.lst xs)) : qS K H (.ref a) (.type "list")
  | frz {a : Addr} {o : Obj} {xs : List V} (e : H a = some (.frz o (.lst xs))) : qS K H (.ref a) (.type "list")
  | tup {a : Addr} {xs : List V} (e : H a = some (.tup xs)) : qS K H (.ref a) (.type "tuple")
  | dK {a : Addr} {kvs : List (Key × V)} (e : H a = some (.dK kvs)) : qS K H (.ref a) (.type "dict")
  | dT {a : Addr} {kvs : List (List Key × V)} (e : H a = some (.dT kvs)) : qS K H (.ref a) (.type "dict")
  | ins {a C dx : Addr} {fs : List (Str × V)} (e : H a = some (.ins C dx fs)) (cl : Cls K C) (ha : PySem.W.findIn K (.ref C) "__class__" = some (some (.builtin "object.__class__")))
      (hn : PySem.W.specialIn K (.builtin "object.__class__") "__get__" = some (some (.builtin "getset_descriptor.__get__"))) (htk : PySem.W.takesIn K (.builtin "object.__class__") = some true)
      (hm : PySem.W.mroIn K C (.type "object") = some true) : qS K H (.ref a) (.ref C)
theorem Zm {x : V} {u t : Value} (I : Inv X pins σ H s) (rx : zr x u) (ty : qS X.K H x t) (e : PySem.W.kitOne X.K t c = some b) (h : ∀ tk, Q (.bool b) { s with toks := tk }) :
  wpAny (model X.prog X.w) A (call (.builtin "isinstance") [u, c]) Q E s := by
 cases ty with
 | non => cases (show u = Value.none from rx); exact PySem.W.kia_one PySem.W.kitx_none I.kIn True.intro e (fun z => nomatch z) h
 | bl y => cases (show u = Value.bool y from rx); exact PySem.W.kia_one PySem.W.kitx_bool I.kIn True.intro e (fun z => nomatch z) h
 | int i => obtain ⟨t, q⟩ := (show ∃ t, u = Value.int i t from rx); cases q; exact PySem.W.kia_one PySem.W.kitx_int I.kIn True.intro e (fun z => nomatch z) h
 | str y => obtain ⟨t, q⟩ := (show ∃ t, u = Value.str y t from rx); cases q; exact PySem.W.kia_one PySem.W.kitx_str I.kIn True.intro e (fun z => nomatch z) h
 | flt y => obtain ⟨t, q⟩ := (show ∃ t, u = Value.float y t from rx); cases q; exact PySem.W.kia_one PySem.W.kitx_float I.kIn True.intro e (fun z => nomatch z) h
 | @lst a xs ea =>
  cases (show u = Value.ref a from rx)
  obtain ⟨_, _, n, _, h1⟩ := (show zK X.prog X.w H s.heap a (.lst xs) from I.hok a _ ea)
  exact PySem.W.kia_one PySem.W.kitx_list I.kIn ⟨_, h1, rfl⟩ e (fun z => nomatch z) h
 | @frz a ob xs ea =>
  cases (show u = Value.ref a from rx)
  obtain ⟨_, _, _, n, _, h1⟩ := (show zK X.prog X.w H s.heap a (.frz ob (.lst xs)) from I.hok a _ ea)
  exact PySem.W.kia_one PySem.W.kitx_list I.kIn ⟨_, h1, rfl⟩ e (fun z => nomatch z) h
 | @tup a xs ea =>
  cases (show u = Value.ref a from rx)
  obtain ⟨_, _, _, p⟩ := (show zK X.prog X.w H s.heap a (.tup xs) from I.hok a _ ea)
  obtain ⟨o, h1, h2, _⟩ := p
  exact PySem.W.kia_one PySem.W.kitx_tuple I.kIn ⟨o, h1, h2⟩ e (fun z => nomatch z) h
 | @dK a kvs ea =>
  cases (show u = Value.ref a from rx)
  obtain ⟨_, _, vs, _, p⟩ := (show zK X.prog X.w H s.heap a (.dK kvs) from I.hok a _ ea)
  obtain ⟨o, es, ep, h1, h2, _⟩ := p
  exact PySem.W.kia_one PySem.W.kitx_dict I.kIn ⟨o, h1, h2.1⟩ e (fun z => nomatch z) h
 | @dT a kvs ea =>
  cases (show u = Value.ref a from rx)
  obtain ⟨_, _, xs, _, o, es, ep, h1, h2, _⟩ := (show zK X.prog X.w H s.heap a (.dT kvs) from I.hok a _ ea)
  exact PySem.W.kia_one PySem.W.kitx_dict I.kIn ⟨o, h1, h2.1⟩ e (fun z => nomatch z) h
 | @ins a C dx fs ea cl ha hn htk hm =>
  cases (show u = Value.ref a from rx)
  obtain ⟨mA, O, _⟩ := JN I.hok ea
  obtain ⟨od, J, _⟩ := O.look
  exact PySem.W.kia_one (PySem.W.kitx_own (cl.get _) cl.hd ha hn htk hm) I.kIn J e (fun z => nomatch z) h
end
end L2
namespace L2
open PySem PySem.Spec PyProof.Rows
structure qJ (k : Nat) (A : Around) : Prop where
 hd : A.handled = none
 gd : A.guards = some []
 dp : A.depth + 3 * k + 5 < recursionLimit
 un : A.units + 16 * k + 200 < cLine
theorem qJ.mono {j k : Nat} {A : Around} (r : qJ k A) (h : j <= k) : qJ j A := ⟨r.hd, r.gd, by have := r.dp; omega, by have := r.un; omega⟩
theorem qJ.deeper {k : Nat} {A : Around} (r : qJ (k + 1) A) (env : Env) : qJ k (A.deeper env) :=
 ⟨r.hd, r.gd, by have := r.dp; show A.depth + 1 + 3 * k + 5 < _; omega, by have := r.un; show A.units + 3 + 16 * k + 200 < _; omega⟩
theorem qJ.depth {k : Nat} {A : Around} (r : qJ k A) : A.depth < recursionLimit := by have := r.dp; omega
theorem qJ.units {k : Nat} {A : Around} (r : qJ k A) : A.units + 64 < cLine := by have := r.un; omega
def Yu : TA := fun _ H Q => Q [] H
def Q5 (ta : TE) (tr : TA) : TA := fun σ H Q => ta σ H fun x H1 => tr σ H1 fun xs H2 => Q (x :: xs) H2
section
variable {X : Cx} {e : Expr} {es : List Expr} {te : TE} {t : TA} {pos : Pos}
theorem zb : PA X [] Yu := fun _ _ _ _ H Q I h => Calls.spliced_nil ⟨[], H, I, .nil, h⟩
theorem za (ha : PE X e te) (hr : PA X es t) (hs : starEach (e :: es) X.env = (false, eval e X.env) :: starEach es X.env := by rfl) : PA X (e :: es) (Q5 te t) := by
 intro pos pins s σ H Q I h
 rw [hs]
 show wpAny _ _ (spliced ((false, eval e X.env) :: backTo pos (starEach es X.env))) _ _ s
 refine Calls.spliced_cons (thn (ha pins s σ H _ I h) fun u s1 ⟨x, H1, I1, r1, q1⟩ => ?_)
 exact thn (hr pos pins s1 σ H1 _ I1 q1) fun us s2 ⟨xs, H2, I2, r2, q2⟩ => ⟨x :: xs, H2, I2, .cons r1 r2, q2⟩
def YX (t : TA) : TE := fun σ H Q => t σ H fun xs H1 => xs.length <= sizeLine /\ ∀ p, H1 p = none -> Q (.ref p) (upd H1 p (.tup xs))
def XN (t : TA) : TE := fun σ H Q => t σ H fun xs H1 => xs.length <= sizeLine /\ ∀ p, H1 p = none -> Q (.ref p) (upd H1 p (.lst xs))
theorem xh {x1} (h : PA X es t) : PE X (.Tuple es x1 pos) (YX t) := by
 intro pins s σ H Q I hq
 refine wpAny_Tuple_spliced (thn (h pos pins s σ H _ I hq) fun us s1 ⟨xs, H1, I1, r, z, q⟩ => ⟨by rw [<- r.length]; exact z, ?_⟩)
 have hf : H1 s1.heap.objs.size = none := I1.hok.fresh (Nat.le_refl _)
 refine ⟨.ref s1.heap.objs.size, upd H1 s1.heap.objs.size (.tup xs), I1.laid (t' := s1.toks) (fun b u e => Heap.get?_push_of_some _ e) (Nat.le_refl _) ?_, rfl, q _ hf⟩
 exact ⟨z, us, r, ⟨_, Heap.get?_push_size _ rfl, rfl, _, rfl⟩⟩
theorem zM (h : PA X es t) : PE X (.List es pos) (XN t) := by
 intro pins s σ H Q I hq
 refine wpAny_List_spliced (thn (h pos pins s σ H _ I hq) fun us s1 ⟨xs, H1, I1, r, z, q⟩ => ⟨by rw [<- r.length]; exact z, ?_⟩)
 have hf : H1 s1.heap.objs.size = none := I1.hok.fresh (Nat.le_refl _)
 refine ⟨.ref s1.heap.objs.size, upd H1 s1.heap.objs.size (.lst xs), I1.laid (t' := s1.toks) (fun b u e => Heap.get?_push_of_some _ e) (Nat.le_refl _) ?_, rfl, q _ hf⟩
 exact ⟨z, us, 0, r, Heap.get?_push_size _ rfl⟩
end
abbrev Sp := List V -> Hp -> VK -> XK -> Prop
abbrev CXT := List Env -> Hp -> Shared -> XK -> Value -> Shared -> Prop
structure KM (P : Program) (w : World) (K : PySem.W.Frag) (mg : Str -> Option Value) (base : Heap) (A : Around) (outer : List Env) (s : Shared) (H : Hp) : Prop where
 frames : A.frames = some outer
 mod : Mod K mg base
 bs : ∀ b o, base.get? b = some o -> s.heap.get? b = some o /\ H b = none
 bsz : base.objs.size <= s.heap.objs.size
 funs : s.heap.FunFrames base outer
 frf : ∀ b ∈ frs outer, H b = none
 hok : HOk P w H s.heap
 bare : AllBare s.gens
def CE (outer : List Env) (P : Program) (w : World) (H : Hp) (s : Shared) (Q : VK) (u : Value) (s' : Shared) : Prop :=
 ∃ v H', s'.os = s.os /\ AllBare s'.gens /\ Un (frs outer) [] H H' s.heap s'.heap /\ HOk P w H' s'.heap /\ zr v u /\ Q v H'
def CR (CX : CXT) (outer : List Env) (P : Program) (w : World) (H : Hp) (s : Shared) (Q : VK) (E : XK) (r : Result) (s' : Shared) : Prop :=
 match r with
 | .ok (.ret u) => CE outer P w H s Q u s'
 | .ok _ => False
 | .error e => CX outer H s E e s'
structure jj (P : Program) (w : World) (K : PySem.W.Frag) (mg : Str -> Option Value) (base : Heap) (CX : CXT) (k : Nat) (f : Addr) (fd : FuncData) (ps : List Str) (sp : Sp) : Prop where
 len : ∀ vs H Q E, sp vs H Q E -> vs.length = ps.length
 run : ∀ (A : Around) (outer : List Env) (s : Shared) (H : Hp) (args : Args) (us : List Value) (vs : List V) (Q : VK) (E : XK), qJ k A -> KM P w K mg base A outer s H -> BindsTo s fd args (ps.zip us) -> zq vs us -> sp vs H Q E ->
  codeAny (model P w) A (.call (.ref f) args) (CR CX outer P w H s Q E) s
theorem jj.mono {P : Program} {w : World} {K : PySem.W.Frag} {mg : Str -> Option Value} {base : Heap} {CX : CXT} {j k : Nat} {f : Addr} {fd : FuncData} {ps : List Str} {sp : Sp} (F : jj P w K mg base CX j f fd ps sp) (h : j <= k) :
  jj P w K mg base CX k f fd ps sp := ⟨F.len, fun A outer s H args us vs Q E hr => F.run A outer s H args us vs Q E (hr.mono h)⟩
theorem jj.imp {P : Program} {w : World} {K : PySem.W.Frag} {mg : Str -> Option Value} {base : Heap} {CX : CXT} {k : Nat} {f : Addr} {fd : FuncData} {ps : List Str} {sp sp' : Sp} (F : jj P w K mg base CX k f fd ps sp)
  (h : ∀ vs H Q E, sp' vs H Q E -> sp vs H Q E) : jj P w K mg base CX k f fd ps sp' :=
 ⟨fun vs H Q E q => F.len vs H Q E (h _ _ _ _ q), fun A outer s H args us vs Q E hr he hb hv hs => F.run A outer s H args us vs Q E hr he hb hv (h _ _ _ _ hs)⟩
section
variable {X : Cx} {pins : List (Addr × Obj)} {σ : St} {H : Hp} {s s' : Shared}
theorem Inv.env0 (I : Inv X pins σ H s) : KM X.prog X.w X.K X.mg X.base X.A X.stack s H :=
 ⟨I.ok.frames, I.ok.mod, I.bs, Nat.le_trans I.ok.bsz I.sz, I.stack, I.stkFree, I.hok, I.bare⟩
theorem Inv.after {Q : VK} {u : Value} (I : Inv X pins σ H s) (h : CE X.stack X.prog X.w H s Q u s') : EP X pins σ Q u s' := by
 obtain ⟨v, H', os, bare, un, hok, r, q⟩ := h
 obtain ⟨hh, g, d, t, os'⟩ := s'
 obtain rfl : os' = s.os := os
 exact ⟨v, H', I.call (h' := hh) (g' := g) (d' := d) (t' := t) (ch := []) un hok bare (fun b z => absurd z (by simp)), r, q⟩
end
def wI (sp : Sp) (dvs : List V) (E : XK) (t : TA) : TE := fun σ H Q => t σ H fun vs H1 => sp (vs ++ dvs) H1 Q E
def xu (K : PySem.W.Frag) (fd : FuncData) (ps : List Str) (ds : List Value) : Prop :=
 ∀ (s : Shared) (us : List Value), K.In s.heap -> (us ++ ds).length = ps.length -> BindsTo s fd ⟨us, []⟩ (ps.zip (us ++ ds))
theorem xu.all {K : PySem.W.Frag} {fd : FuncData} {ps : List Str} (h : ∀ us : List Value, us.length = ps.length -> bindArgs fd ⟨us, []⟩ = pure (ps.zip us)) : xu K fd ps [] := fun s us _ hl => by
 rw [List.append_nil] at hl ⊢
 exact .of_eq (h us hl)
def vo (CX : CXT) (X : Cx) (E : XK) : Prop := ∀ (pins : List (Addr × Obj)) (σ : St) (H : Hp) (s : Shared) (e : Value) (s' : Shared), Inv X pins σ H s -> CX X.stack H s E e s' -> X.xe e s'
section
variable {X : Cx} {CX : CXT} {k : Nat} {f C : Addr} {fd : FuncData} {ps : List Str} {sp : Sp} {dvs : List V} {ds : List Value} {E : XK} {x m : Str} {p pos apos : Pos} {e o : Expr} {es : List Expr} {ta : TE} {t : TA}
theorem Vd {pins : List (Addr × Obj)} {σ : St} {H : Hp} {s : Shared} {Q : VK} {us : List Value} {vs : List V} (F : jj X.prog X.w X.K X.mg X.base CX k f fd ps sp) (hr : qJ k X.A) (hb : xu X.K fd ps ds) (hd : zq dvs ds) (hx : vo CX X E)
  (I : Inv X pins σ H s) (r : zq vs us) (h : sp (vs ++ dvs) H Q E) : wpAny (model X.prog X.w) X.A (call (.ref f) us) (EP X pins σ Q) X.xe s := by
 have r2 : zq (vs ++ dvs) (us ++ ds) := r.append hd
 have hl : (us ++ ds).length = ps.length := by rw [<- r2.length]; exact F.len _ _ _ _ h
 refine wpAny_call (codeAny_mono (F.run X.A X.stack s H ⟨us, []⟩ (us ++ ds) (vs ++ dvs) Q E hr I.env0 (hb s us I.kIn hl) r2 h) fun r s' hq => ?_)
 cases r with
 | error e => exact hx pins σ H s e s' I hq
 | ok fl =>
  cases fl with
  | ret u => exact I.after hq
  | next => exact False.elim hq
  | brk => exact False.elim hq
  | cont => exact False.elim hq
theorem Kt (F : jj X.prog X.w X.K X.mg X.base CX k f fd ps sp) (hr : qJ k X.A) (hg : Gl X x) (hm : X.mg x = some (.ref f)) (hk : PySem.W.keepIn X.K (.ref f) = true) (hb : xu X.K fd ps ds) (hd : zq dvs ds) (hx : vo CX X E)
  (ha : PA X (e :: es) t) (hdb : (x == ("__debug__" : Str)) = false := by decide) (he : starEach (e :: es) X.env = (false, eval e X.env) :: starEach es X.env := by rfl) (hpl : (backTo pos (starEach es X.env)).any (·.1) = false := by rfl) :
  PE X (.Call (.Name x p) (e :: es) [] pos) (wI sp dvs E t) := by
 intro pins s σ H Q I h
 refine wpAny_Call_Name_kw (KN I hg hm ?_ hdb)
 refine PySem.W.callWith_K (h₀ := X.base) I.ok.mod.kin hk (thn (ha pos pins s σ H _ I h) fun us s1 ⟨vs, H1, I1, r, q⟩ => ⟨I1.kIn, ?_⟩) he hpl
 exact Vd F hr hb hd hx I1 r q
structure Mk (K : PySem.W.Frag) (C f : Addr) : Prop where
 makes : PySem.W.makesIn K C = true
 init : PySem.W.findIn K (.ref C) "__init__" = some (some (.ref f))
 fn : PySem.W.isFn K (.ref f) = true
 kp : PySem.W.keepIn K (.ref C) = true
end
section
variable {X : Cx} {CX : CXT} {k : Nat} {f C : Addr} {fd : FuncData} {ps ks : List Str} {sp : Sp} {E : XK} {x m : Str} {p pos apos kpos : Pos} {e o : Expr} {es : List Expr} {kws : List Keyword} {te ta : TE} {t tk : TA} {nm : Option Str}
structure Wd (K : PySem.W.Frag) (fd : FuncData) (ps ks : List Str) (g : List Value -> List Value -> List Value) (gV : List V -> List V -> List V) : Prop where
 to : ∀ (s : Shared) (us ws : List Value), K.In s.heap -> (g us ws).length = ps.length -> BindsTo s fd ⟨us, ks.zip ws⟩ (ps.zip (g us ws))
 rel : ∀ {vs : List V} {us : List Value} {zs : List V} {ws : List Value}, zq vs us -> zq zs ws -> zq (gV vs zs) (g us ws)
variable {g : List Value -> List Value -> List Value} {gV : List V -> List V -> List V}
end
structure zA (N P : List Str) (sc : Scope) : Prop where
 kind : sc.kind = .function
 co : sc.isCoroutine = false
 gen : sc.isGenerator = false
 nd : N.Nodup
 pre : N.take P.length = P
 par : ∀ x ∈ P, sc.names.lookup x = some .local \/ sc.names.lookup x = some .cell
 nofree : ∀ y ∈ sc.names, y.2 ≠ .free
theorem xC {kindOf : Str -> Option NameKind} {x : Str} : ∀ {binds : List (Str × Value)} {m : Str -> Option Value}, (∀ v, (x, v) ∉ binds) -> bindL kindOf binds m x = m x
 | [], _, _ => rfl
 | (n, v) :: r, m, h => by
  unfold bindL
  rw [xC fun w hw => h w (List.mem_cons_of_mem _ hw)]
  split
  ·have : x ≠ n := by rintro rfl; exact h v List.mem_cons_self
   simp [this]
  ·rfl
theorem xG {kindOf : Str -> Option NameKind} {x : Str} : ∀ {binds : List (Str × Value)} {m : Str -> Option Value}, (∀ v, (x, v) ∉ binds) -> bindC kindOf binds m x = m x
 | [], _, _ => rfl
 | (n, v) :: r, m, h => by
  unfold bindC
  rw [xG fun w hw => h w (List.mem_cons_of_mem _ hw)]
  split
  ·rfl
  ·have : x ≠ n := by rintro rfl; exact h v List.mem_cons_self
   simp [this]
theorem xH {kindOf : Str -> Option NameKind} {x : Str} {v : Value} : ∀ {P : List Str} {vs : List Value} {i : Nat} {m : Str -> Option Value}, P.Nodup -> P[i]? = some x -> vs[i]? = some v -> kindOf x = some .local ->
  bindL kindOf (P.zip vs) m x = some v
 | [], _, _, _, _, h, _, _ => by simp at h
 | _ :: _, [], _, _, _, _, h, _ => by simp at h
 | p :: P, w :: vs, 0, m, nd, h1, h2, hk => by
  simp at h1 h2; subst h1; subst h2
  show bindL kindOf ((p, w) :: P.zip vs) m p = _
  unfold bindL
  rw [xC fun v hv => (List.nodup_cons.mp nd).1 (List.of_mem_zip hv).1, if_pos hk]
  simp
 | p :: P, w :: vs, i + 1, m, nd, h1, h2, hk => by
  show bindL kindOf ((p, w) :: P.zip vs) m x = _
  unfold bindL
  exact xH (i := i) (List.nodup_cons.mp nd).2 (by simpa using h1) (by simpa using h2) hk
theorem xK {kindOf : Str -> Option NameKind} {x : Str} {v : Value} : ∀ {P : List Str} {vs : List Value} {i : Nat} {m : Str -> Option Value}, P.Nodup -> P[i]? = some x -> vs[i]? = some v -> kindOf x ≠ some .local ->
  bindC kindOf (P.zip vs) m x = some v
 | [], _, _, _, _, h, _, _ => by simp at h
 | _ :: _, [], _, _, _, _, h, _ => by simp at h
 | p :: P, w :: vs, 0, m, nd, h1, h2, hk => by
  simp at h1 h2; subst h1; subst h2
  show bindC kindOf ((p, w) :: P.zip vs) m p = _
  unfold bindC
  rw [xG fun v hv => (List.nodup_cons.mp nd).1 (List.of_mem_zip hv).1, if_neg hk]
  simp
 | p :: P, w :: vs, i + 1, m, nd, h1, h2, hk => by
  show bindC kindOf ((p, w) :: P.zip vs) m x = _
  unfold bindC
  exact xK (i := i) (List.nodup_cons.mp nd).2 (by simpa using h1) (by simpa using h2) hk
def start (N : List Str) (vs : List V) : St := vs.map some ++ List.replicate (N.length - vs.length) none
def xU (CX : CXT) (P : Program) (w : World) (K : PySem.W.Frag) (mg : Str -> Option Value) (base : Heap) (N : List Str) (qual : Str) (scope : Scope) (f : Addr) (cd : Value) (A : Around) (outer : List Env) (s : Shared) (H : Hp) (E : XK) : Cx where
 prog := P
 w := w
 K := K
 mg := mg
 base := base
 A := A.deeper (envOfC qual scope s.heap.objs.size f cd)
 N := N
 s₀ := s
 H₀ := H
 env := envOfC qual scope s.heap.objs.size f cd
 outer := outer
 stack := envOfC qual scope s.heap.objs.size f cd :: outer
 ex := []
 calm := true
 fn := fun _ => true
 pn := []
 xe := fun e s' => wpAny (model P w) (A.deeper (envOfC qual scope s.heap.objs.size f cd)) (leaving (envOfC qual scope s.heap.objs.size f cd) e) (fun _ s'' => CX outer H s E e s'') (fun e' s'' => CX outer H s E e' s'') s'
theorem vb {sc : Scope} {n : Nat} {x : Str} (h : sc.names.lookup x = some .cell) : ∃ c, (cellsFrom n sc.names []).lookup x = some c := by
 have q := PySem.W.cellsFrom_some sc.names n [] (.inl h)
 exact Option.isSome_iff_exists.mp q
theorem Zp {CX : CXT} {P : Program} {w : World} {K : PySem.W.Frag} {mg : Str -> Option Value} {base : Heap} {N ps : List Str} {qual : Str} {scope : Scope} {f : Addr} {cd : Value} {A : Around} {outer : List Env} {s s1 : Shared} {H : Hp} {E : XK} {us : List Value} {vs : List V}
    (S : zA N ps scope) (hd : A.handled = none) (e0 : KM P w K mg base A outer s H) (hl : vs.length = ps.length) (r : zq vs us)
    (x : InCallC s s.heap.objs.size (bindL (envOfC qual scope s.heap.objs.size f cd).kindOf (ps.zip us) fun _ => none) (cellsFrom (s.heap.objs.size + 1) scope.names []) (bindC (envOfC qual scope s.heap.objs.size f cd).kindOf (ps.zip us) fun _ => none) s1) :
    Inv (xU CX P w K mg base N qual scope f cd A outer s H E) [] (start N vs) H s1 := by
  have hpl : ps.length <= N.length := by have := congrArg List.length S.pre; rw [List.length_take] at this; omega
  obtain ⟨h1, tk, rfl, hk⟩ := x.done
  have noA : ∀ b : Addr, b ∉ (xU CX P w K mg base N qual scope f cd A outer s H E).ex := fun b z => absurd (show b ∈ ([] : List Addr) from z) (by simp)
  refine ⟨⟨e0.mod, S.kind, rfl, rfl, Nat.le_refl _, fun y z c h1 h2 => ?_, fun y hy => ?_, fun y c _ h => ?_, fun _ => hd, Around.frames_deeper e0.frames, .inr ⟨rfl, rfl⟩, fun b z => absurd z (noA b), e0.bs, e0.bsz, fun b _ _ => noA b, fun b z => absurd z (noA b), e0.funs, e0.frf⟩,
    rfl, e0.bare, Un.kept hk, ⟨_, x.toInCall.ns, fun i y v h1 h2 h3 => ?_⟩, fun y c h => ⟨_, x.cell y c h⟩, e0.hok.fresh (Nat.le_refl _), fun y c h => ?_, fun p hp => absurd (show p ∈ ([] : List (Addr × Obj)) from hp) (by simp), e0.hok.kept hk, ?_⟩
  · exact name_of_addr x.apart (PySem.mem_of_lookup h1) (PySem.mem_of_lookup h2)
  · have hy : scope.names.lookup y = some .cell \/ scope.names.lookup y = some .free := hy
    rcases hy with hy | hy
    · exact vb hy
    · exact absurd rfl (S.nofree _ (PySem.mem_of_lookup hy))
  · exact Nat.le_of_lt (x.above y c (PySem.mem_of_lookup h))
  · have hi : i < vs.length := by
      unfold start at h2
      by_cases hi : i < vs.length
      · exact hi
      · rw [List.getElem?_append_right (by simpa using hi)] at h2
        rw [List.getElem?_replicate] at h2
        split at h2 <;> cases h2
    have ha : vs[i]? = some v := by
      unfold start at h2
      rw [List.getElem?_append_left (by simpa using hi), List.getElem?_map] at h2
      cases e : vs[i]? with
      | none => rw [e] at h2; cases h2
      | some a => rw [e] at h2; cases h2; rfl
    obtain ⟨u, hu, rv⟩ := r.get ha
    have hp : ps[i]? = some y := by
      rw [<- S.pre, List.getElem?_take_of_lt (by omega)]; exact h1
    have ndP : ps.Nodup := by rw [<- S.pre]; exact S.nd.sublist (List.take_sublist _ _)
    refine ⟨u, rv, ?_⟩
    rcases S.par y (List.mem_of_getElem? hp) with k | k
    · exact .inl ⟨k, xH ndP hp hu k⟩
    · obtain ⟨c, e⟩ := vb (n := s.heap.objs.size + 1) k
      refine .inr ⟨.inl k, c, e, ?_⟩
      have q := x.cell y c e
      rw [xK ndP hp hu (by show scope.names.lookup y ≠ _; rw [k]; decide)] at q
      exact q
  · exact e0.hok.fresh (Nat.le_of_lt (x.above y c (PySem.mem_of_lookup h)))
  · unfold start
    show _ = N.length
    rw [List.length_append, List.length_map, List.length_replicate]
    omega
theorem V9 {CX : CXT} {P : Program} {w : World} {K : PySem.W.Frag} {mg : Str -> Option Value} {base : Heap} {k : Nat} {f : Addr} {name qual : Str} {params : Arguments} {body : List Stmt} {scope : Scope} {dV kV doc pm cdv ct oc : Value} {an od : Option Addr}
  {osl : Array (Option Value)} {N ps : List Str} {sp : Sp} (lk : K.lookup f = some ⟨oc, od, .func (PySem.W.fnOf name qual params body scope dV kV doc pm an cdv ct), osl⟩) (hcd : PySem.W.codeIn K cdv qual = true) (S : zA N ps scope)
  (len : ∀ vs H Q E, sp vs H Q E -> vs.length = ps.length)
  (hbody : ∀ (A : Around) (outer : List Env) (s : Shared) (H : Hp) (vs : List V) (Q : VK) (E : XK), qJ k (A.deeper (envOfC qual scope s.heap.objs.size f cdv)) -> sp vs H Q E ->
   ∃ t, PSs (xU CX P w K mg base N qual scope f cdv A outer s H E) body t /\ t { nx := fun _ H' => Q .non H', rt := Q } (start N vs) H) :
  jj P w K mg base CX (k + 1) f (PySem.W.fnOf name qual params body scope dV kV doc pm an cdv ct) ps sp := by
 refine ⟨len, fun A outer s H args us vs Q E hr e0 hb r hsp => ?_⟩
 have hl := len _ _ _ _ hsp
 have KX : K.In s.heap := e0.mod.kin.keeps fun b o e => (e0.bs b o e).1
 have lim : s.heap.NoLimit := e0.mod.nolimit.keeps fun b o e => (e0.bs b o e).1
 have hkind : ∀ y ∈ ps.zip us, scope.names.lookup y.1 = some .local \/ (scope.names.lookup y.1 = some .cell /\ ((cellsFrom (s.heap.objs.size + 1) scope.names []).lookup y.1).isSome = true) := fun ⟨n, v⟩ hy => by
  rcases S.par n (List.of_mem_zip hy).1 with q | q
  ·exact .inl q
  ·exact .inr ⟨q, PySem.W.cellsFrom_some _ _ _ (.inl q)⟩
 refine codeAny_call_function hr.depth (KX _ _ lk) rfl S.co S.gen rfl (PySem.W.codeRec_of KX hcd) (hb _ _ _ _ ?_)
 refine wpAny_newFunctionEnv_cells S.kind hkind fun env he s1 x => ?_
 subst he
 refine ⟨lim.keeps x.toInCall.keep, codeAny_func ?_⟩
 obtain ⟨t, ht, hq⟩ := hbody A outer s H vs Q E (hr.deeper _) hsp
 have I : Inv (xU CX P w K mg base N qual scope f cdv A outer s H E) [] (start N vs) H s1 := Zp S hr.hd e0 hl r x
 refine wpAny_mono (ht [] s1 (start N vs) H _ I hq) (fun fl s' hs => ?_) fun e s' hs => hs
 have fin : ∀ {σ' : St} {H' : Hp} {v : V} {u : Value}, Inv (xU CX P w K mg base N qual scope f cdv A outer s H E) [] σ' H' s' -> zr v u -> Q v H' -> CE outer P w H s Q u s' :=
  fun {σ' H' v u} J rv q => ⟨v, H', J.os, J.bare, J.base, J.hok, rv, q⟩
 cases fl with
 | ret u =>
  obtain ⟨v, σ', H', J, rv, q⟩ := hs
  exact fin J rv q
 | next =>
  obtain ⟨σ', H', J, q⟩ := hs
  exact fin (v := V.non) (u := Value.none) J rfl q
 | brk =>
  obtain ⟨_, _, _, q⟩ := hs
  exact False.elim q
 | cont =>
  obtain ⟨_, _, _, q⟩ := hs
  exact False.elim q
end L2
namespace L2
open PySem PySem.Spec PyProof.Rows
section
variable {X : Cx} {x : Str} {p pos : Pos} {e : Expr} {es : List Expr} {t : TA} {id T : String} {r : List V -> Hp -> VK -> Prop}
def tCB (r : List V -> Hp -> VK -> Prop) (t : TA) : TE := fun σ H Q => t σ H fun vs H1 => r vs H1 Q
theorem zm (hc : zY X (.builtin id) r) (hg : Gl X x) (hm : X.mg x = none) (hv : bootBuiltins x = some (.builtin id)) (ha : PA X (e :: es) t) (hn : x ≠ "__name__" := by decide) (hdb : (x == ("__debug__" : Str)) = false := by decide)
  (he : starEach (e :: es) X.env = (false, eval e X.env) :: starEach es X.env := by rfl) (hpl : (backTo pos (starEach es X.env)).any (·.1) = false := by rfl) : PE X (.Call (.Name x p) (e :: es) [] pos) (tCB r t) := by
 intro pins s σ H Q I h
 refine wpAny_Call_Name_kw (jb I hg hm hv ?_ hn hdb)
 exact PyProof.Rows.callWith_builtin1 (thn (ha pos pins s σ H _ I h) fun us s1 ⟨vs, H1, I1, r1, q1⟩ => hc pins s1 σ H1 vs us Q I1 r1 q1) he hpl
theorem zl (hc : zY X (.type T) r) (hg : Gl X x) (hm : X.mg x = none) (hv : bootBuiltins x = some (.type T)) (ha : PA X (e :: es) t) (hn : x ≠ "__name__" := by decide) (hdb : (x == ("__debug__" : Str)) = false := by decide)
  (he : starEach (e :: es) X.env = (false, eval e X.env) :: starEach es X.env := by rfl) (hpl : (backTo pos (starEach es X.env)).any (·.1) = false := by rfl) : PE X (.Call (.Name x p) (e :: es) [] pos) (tCB r t) := by
 intro pins s σ H Q I h
 refine wpAny_Call_Name_kw (jb I hg hm hv ?_ hn hdb)
 exact PyProof.Rows.callWith_type1 (thn (ha pos pins s σ H _ I h) fun us s1 ⟨vs, H1, I1, r1, q1⟩ => hc pins s1 σ H1 vs us Q I1 r1 q1) he hpl
end
end L2
namespace HT
open PySem PyProof.Rows
section
open PySem.SeqAt
open PySem.AutoSeq1 (wpAny_loadPart')
open PySem.MeetsSeq PySem.MeetsSeq2 PySem.MeetsSeq3
end
section
variable {prog : Program} {w : World} {A : Around} {E : Value -> Shared -> Prop} {s : Shared}
def sIx (n d : Nat) : Option Int -> Nat
 | none => d
 | some v => if v < 0 then (v + (n : Int)).toNat else min v.toNat n
theorem sIx_none (n d : Nat) : sIx n d none = d := rfl
theorem sIx_nat (n d k : Nat) : sIx n d (some (k : Int)) = min k n := by
 show (if (k : Int) < 0 then ((k : Int) + (n : Int)).toNat else min (k : Int).toNat n) = min k n
 rw [if_neg (by omega), Int.toNat_natCast]
end
end HT
namespace L2
open PySem PySem.Spec PyProof.Rows
abbrev TO := St -> Hp -> (Option Int -> Hp -> Prop) -> Prop
def PO (X : Cx) (e : Option Expr) (t : TO) : Prop :=
 ∀ (pins : List (Addr × Obj)) (s : Shared) (σ : St) (H : Hp) (Q : Option Int -> Hp -> Prop), Inv X pins σ H s -> t σ H Q ->
  wpAny (model X.prog X.w) X.A (evalPart e X.env) (fun u s' => ∃ o H', Inv X pins σ H' s' /\ IsPart u o /\ Q o H') X.xe s
def yn : TO := fun _ H Q => Q none H
def Ql (t : TE) : TO := fun σ H Q => t σ H fun x H1 => ∃ i, x = .int i /\ Q (some i) H1
theorem vL {ns : List Int} : ∀ {us : List Value}, zq (ns.map V.int) us -> IntsAre us ns := by
 induction ns with
 | nil => intro us r; rw [List.map_nil] at r; cases r; exact .nil
 | cons n ns ih =>
  intro us r
  rw [List.map_cons] at r
  cases r with
  | cons r1 r2 =>
   obtain ⟨t, e⟩ := r1
   subst e
   exact .cons n t (ih r2)
section
variable {X : Cx} {e : Expr} {te : TE} {lo hi : Option Expr} {tl th : TO} {pos p2 : Pos}
theorem jh : PO X none yn := by
 intro pins s σ H Q I h
 rw [evalPart_none]
 exact wpAny_pure ⟨none, H, I, .none, h⟩
theorem qD (h : PE X e te) : PO X (some e) (Ql te) := by
 intro pins s σ H Q I hw
 rw [evalPart_some]
 refine thn (h pins s σ H _ I hw) fun u s1 ⟨x, H1, I1, r1, q1⟩ => ?_
 obtain ⟨i, rfl, q⟩ := q1
 obtain ⟨t, rfl⟩ := r1
 exact ⟨some i, H1, I1, .int i t, q⟩
def SlR (X : Cx) (r : V -> Option Int -> Option Int -> Hp -> VK -> Prop) : Prop :=
 ∀ (pins : List (Addr × Obj)) (s : Shared) (σ : St) (H : Hp) (x : V) (v vl vu : Value) (lo hi : Option Int) (sl : Addr) (Q : VK), Inv X pins σ H s -> zr x v -> s.heap.IsSliceOf sl vl vu .none -> IsPart vl lo -> IsPart vu hi -> r x lo hi H Q ->
  ∃ T id, typeLookup (.type T) "__getitem__" = pure (some (.builtin id)) /\ s.TypeIs v T /\ wpAny (model X.prog X.w) X.A (getItem v (.ref sl)) (EP X pins σ Q) X.xe s
def tSl (r : V -> Option Int -> Option Int -> Hp -> VK -> Prop) (te : TE) (tl th : TO) : TE := fun σ H Q => te σ H fun x H1 => tl σ H1 fun l H2 => th σ H2 fun u H3 => r x l u H3 Q
theorem qy {r : V -> Option Int -> Option Int -> Hp -> VK -> Prop} (hr : SlR X r) (he : PE X e te) (hl : PO X lo tl) (hu : PO X hi th) : PE X (.Subscript e (.Slice lo hi none p2) pos) (tSl r te tl th) := by
 intro pins s σ H Q I h
 refine Subscript_ (thn (he pins s σ H _ I h) fun v s1 ⟨x, H1, I1, r1, q1⟩ => ?_)
 refine wpAny_Slice (thn (hl pins s1 σ H1 _ I1 q1) fun vl s2 ⟨l, H2, I2, pl, q2⟩ => thn (hu pins s2 σ H2 _ I2 q2) fun vu s3 ⟨u, H3, I3, pu, q3⟩ => ?_)
 rw [evalPart_none]
 refine wpAny_pure ?_
 have I4 : Inv X pins σ H3 { s3 with heap := s3.heap.push { cls := .type "slice", data := .fields #[vl, vu, .none] } } := I3.kept (t' := s3.toks) fun b ob q => Heap.get?_push_of_some _ q
 obtain ⟨T, id, hT, ht, hg⟩ := hr pins { s3 with heap := s3.heap.push { cls := .type "slice", data := .fields #[vl, vu, .none] } } σ H3 x v vl vu l u s3.heap.objs.size Q I4 r1 (Heap.IsSliceOf.new ..) pl pu q3
 show wpAny (model X.prog X.w) X.A (subscriptTail e (.Slice lo hi none p2) v (.ref s3.heap.objs.size)) (EP X pins σ Q) X.xe { s3 with heap := s3.heap.push { cls := .type "slice", data := .fields #[vl, vu, .none] } }
 exact tail_any (ops := [.ref s3.heap.objs.size, v]) ht hT hg (by with_unfolding_all rfl)
def yf (xs : List V) (lo hi : Option Int) : List V := (xs.drop (HT.sIx xs.length 0 lo)).take (HT.sIx xs.length xs.length hi - HT.sIx xs.length 0 lo)
theorem yz (xs : List V) (lo hi : Option Int) : (yf xs lo hi).length <= xs.length := by
 unfold yf
 rw [List.length_take, List.length_drop]
 omega
end
end L2
namespace L2
open PySem PySem.Spec PyProof.Rows
def ixN (n : Nat) (i : Int) : Option Nat := if 0 <= i then (if i < n then some i.toNat else none) else if -(n : Int) <= i then some (i + n).toNat else none
def atI {α : Type} (xs : List α) (i : Int) : Option α := (ixN xs.length i).bind fun j => xs[j]?
theorem wj {n : Nat} {i : Int} {j : Nat} (h : ixN n i = some j) : seqIndex? i n = some j /\ j < n /\ -(n : Int) <= i /\ i < n := by
 unfold ixN at h
 by_cases h0 : 0 <= i
 ·rw [if_pos h0] at h
  by_cases h1 : i < n
  ·rw [if_pos h1] at h
   have e : i.toNat = j := Option.some.inj h
   exact ⟨by rw [seqIndex_of h0 h1, e], by omega, by omega, h1⟩
  ·rw [if_neg h1] at h; cases h
 ·rw [if_neg h0] at h
  by_cases h1 : -(n : Int) <= i
  ·rw [if_pos h1] at h
   have e : (i + n).toNat = j := Option.some.inj h
   exact ⟨by rw [seqIndex_neg (by omega) h1, e], by omega, h1, by omega⟩
  ·rw [if_neg h1] at h; cases h
theorem wt {α : Type} {xs : List α} {i : Int} {v : α} (h : atI xs i = some v) : ∃ j, seqIndex? i xs.length = some j /\ xs[j]? = some v /\ j < xs.length /\ -(xs.length : Int) <= i /\ i < xs.length := by
 unfold atI at h
 cases e : ixN xs.length i with
 | none => rw [e] at h; cases h
 | some j =>
  rw [e] at h
  obtain ⟨h1, h2, h3, h4⟩ := wj e
  exact ⟨j, h1, h, h2, h3, h4⟩
theorem KR {α : Type} {xs : List α} {j : Nat} {v : α} (h : xs[j]? = some v) : atI xs (j : Int) = some v := by
 have hj : j < xs.length := (List.getElem?_eq_some_iff.mp h).1
 have e : ixN xs.length (j : Int) = some j := by
  unfold ixN
  rw [if_pos (by omega), if_pos (by omega)]; simp
 unfold atI; rw [e]; exact h
def Ka (b : Expr) : Prop := ∀ o i, subscripted b false o i = operate [o, i] (getItem o i)
def IxR (X : Cx) (r : R2) : Prop :=
 ∀ (value slice : Expr) (pins : List (Addr × Obj)) (s : Shared) (σ : St) (H : Hp) (x y : V) (v u : Value) (Q : VK), Inv X pins σ H s -> zr x v -> zr y u -> r x y H Q ->
  subscripted slice false v u = operate [v, u] (getItem v u) -> wpAny (model X.prog X.w) X.A (subscriptTail value slice v u) (EP X pins σ Q) X.xe s
def MtR (X : Cx) (id : String) (r : V -> List V -> Hp -> VK -> Prop) : Prop :=
 ∀ (pins : List (Addr × Obj)) (s : Shared) (σ : St) (H : Hp) (x : V) (xs : List V) (v : Value) (us : List Value) (Q : VK), Inv X pins σ H s -> zr x v -> zq xs us -> r x xs H Q ->
  wpAny (model X.prog X.w) X.A (call (.builtin id) (v :: us)) (EP X pins σ Q) X.xe s
section
variable {X : Cx} {a b : Expr} {ta tb : TE} {pos : Pos}
theorem zR {r : R2} (hr : IxR X r) (ha : PE X a ta) (hb : PE X b tb) (hs : Ka b) : PE X (.Subscript a b pos) (tOp r ta tb) := by
 intro pins s σ H Q I h
 exact Subscript_ (YY ha hb I h fun v u s2 x y H2 I2 rx ry q => hr a b pins s2 σ H2 x y v u Q I2 rx ry q (hs _ _))
def V4 (K : PySem.W.Frag) : R2 := fun x y H Q => ∃ p xs i v, x = .ref p /\ y = .int i /\ SqL K H p xs /\ atI xs i = some v /\ Q v H
def V8 (K : PySem.W.Frag) : R2 := fun x y H Q => ∃ p xs i v, x = .ref p /\ y = .int i /\ SqT K H p xs /\ atI xs i = some v /\ Q v H
theorem zF : IxR X (V4 X.K) := by
  intro value slice pins s σ H x y v u Q I rx ry h hs
  obtain ⟨p, xs, i, z, rfl, rfl, hq, he, q⟩ := h
  cases rx
  obtain ⟨t, rfl⟩ := ry
  obtain ⟨its, r, pl, hz⟩ := I.list hq
  obtain ⟨j, h1, h2, h3, h4, h5⟩ := wt he
  obtain ⟨w, ew, rw'⟩ := r.get h2
  have hl := r.length
  have hn := kL
  have fin : EP X pins σ Q w s := ⟨z, H, I, rw', q⟩
  by_cases h0 : 0 <= i
  · have hj : i.toNat = j := by
      rw [seqIndex_of h0 h5] at h1
      exact Option.some.inj h1
    exact item_listR pl.isList h0 (by omega) (by rw [hj]; simpa using ew) fin hs
  · have hj : (i + (its.toArray.size : Int)).toNat = j := by
      rw [seqIndex_neg (by omega) h4] at h1
      rw [List.size_toArray, <- hl]
      exact Option.some.inj h1
    exact subscriptTail_builtinR (x := w) pl.isList.typeIs slot_list_getitem.lookup
      (wpAny_getItem_list_neg (Q := fun r s' => r = w /\ EP X pins σ Q r s') pl.isList (by omega) (by rw [List.size_toArray] <;> omega) (by omega) (by rw [hj]; simpa using ew) ⟨rfl, fin⟩) hs
theorem Yv : IxR X (V8 X.K) := by
 intro value slice pins s σ H x y v u Q I rx ry h hs
 obtain ⟨p, xs, i, z, rfl, rfl, hq, he, q⟩ := h
 cases rx
 obtain ⟨t, rfl⟩ := ry
 obtain ⟨its, r, pl, hz⟩ := I.tuple hq
 obtain ⟨j, h1, h2, h3, h4, h5⟩ := wt he
 obtain ⟨w, ew, rw'⟩ := r.get h2
 have hl := r.length
 have hn := kL
 have fin : EP X pins σ Q w s := ⟨z, H, I, rw', q⟩
 exact subscriptTail_builtinR (x := w) pl.typeIs slot_tuple_getitem.lookup
  (getItem_tuple (j := j) (Q := fun r s' => r = w /\ EP X pins σ Q r s') pl (by omega) (by omega) (by rw [List.size_toArray, <- hl]; exact h1) (by simpa using ew) ⟨rfl, fin⟩) hs
theorem vy (its : List Value) (n j : Nat) (u : Value) : Obj.mapSeq (·.setIfInBounds j u) { cls := .type "list", data := .seq its.toArray n } = { cls := .type "list", data := .seq (its.set j u).toArray n } := by
 simp [Obj.mapSeq]
theorem Inv.lst {pins : List (Addr × Obj)} {σ : St} {H : Hp} {s : Shared} {p : Addr} {xs : List V} (I : Inv X pins σ H s) (h : H p = some (.lst xs)) :
  ∃ (its : List Value) (n : Nat), zq xs its /\ s.heap.get? p = some { cls := .type "list", data := .seq its.toArray n } /\ xs.length <= sizeLine := by
 obtain ⟨z, its, n, r, e⟩ := I.hok p _ h
 exact ⟨its, n, r, e, z⟩
theorem Inv.lstUpd {pins : List (Addr × Obj)} {σ : St} {H : Hp} {s : Shared} {p : Addr} {xs ys : List V} {its its' : List Value} {n n' : Nat} {f : Obj -> Obj} (I : Inv X pins σ H s) (h : H p = some (.lst xs))
  (ho : s.heap.get? p = some { cls := .type "list", data := .seq its.toArray n }) (hf : f { cls := .type "list", data := .seq its.toArray n } = { cls := .type "list", data := .seq its'.toArray n' }) (r : zq ys its') (hz : ys.length <= sizeLine) (t : Nat) :
  Inv X pins σ (upd H p (.lst ys)) { s with heap := s.heap.update p f, toks := t } := by
 have e : (s.heap.update p f).get? p = some { cls := .type "list", data := .seq its'.toArray n' } := by
  rw [Heap.get?_update_self f ho (by rw [hf] <;> rfl), hf]
 refine I.write (x := p) (e := p) (by rw [h]; trivial) (.inl rfl) (fun b u hb q => (Heap.get?_update_other _ _ (Ne.symm hb)).trans q) ⟨_, e⟩ ?_
 exact ⟨hz, its', n', r, e⟩
def Xd : V -> V -> V -> Hp -> (Hp -> Prop) -> Prop := fun o i v H Q => ∃ p xs k j, o = .ref p /\ i = .int k /\ H p = some (.lst xs) /\ ixN xs.length k = some j /\ Q (upd H p (.lst (xs.set j v)))
theorem Z1 : XZ X Xd := by
  intro pins s σ H o i v ov iv u Q I ro ri rv h
  obtain ⟨p, xs, k, j, rfl, rfl, hp, hj, q⟩ := h
  cases ro
  obtain ⟨t, rfl⟩ := ri
  obtain ⟨its, n, r, ho, hz⟩ := I.lst hp
  obtain ⟨h1, h2, h3, h4⟩ := wj hj
  have hl := r.length
  have hn := kL
  have I' : Inv X pins σ (upd H p (.lst (xs.set j v))) { s with heap := s.heap.update p (Obj.mapSeq (·.setIfInBounds j u)) } :=
    I.lstUpd hp ho (vy its n j u) (r.set rv j) (by rw [List.length_set]; exact hz) s.toks
  by_cases h0 : 0 <= k
  · have hk : k.toNat = j := by
      rw [seqIndex_of h0 h4] at h1
      exact Option.some.inj h1
    exact PySem.W.ki_setAt ho h0 (by omega) (by rw [List.size_toArray, <- hl]; exact h4) (by rw [hk]; exact ⟨_, I', q⟩)
  · have hk : (k + (its.toArray.size : Int)).toNat = j := by
      rw [seqIndex_neg (by omega) h3] at h1
      rw [List.size_toArray, <- hl]
      exact Option.some.inj h1
    exact PySem.W.ki_setBack ho (by omega) (by rw [List.size_toArray, <- hl]; exact h3) (by omega) (by rw [hk]; exact ⟨_, I', q⟩)
theorem yd (lo hi : Option Int) (n : Nat) : (sliceBounds lo hi none n).1 = ((HT.sIx n 0 lo : Nat) : Int) /\ (sliceBounds lo hi none n).2.1 = ((HT.sIx n n hi : Nat) : Int) /\ (sliceBounds lo hi none n).2.2 = 1 := by
 refine ⟨?_, ?_, rfl⟩
 ·cases lo with
  | none => simp [sliceBounds, HT.sIx]
  | some i =>
   simp only [sliceBounds, HT.sIx, Option.getD_none, show (1 : Int) > 0 by decide, if_true]
   by_cases h : i < 0
   ·simp only [h, if_true] <;> omega
   ·simp only [h, if_false] <;> omega
 ·cases hi with
  | none => simp [sliceBounds, HT.sIx]
  | some i =>
   simp only [sliceBounds, HT.sIx, Option.getD_none, show (1 : Int) > 0 by decide, if_true]
   by_cases h : i < 0
   ·simp only [h, if_true] <;> omega
   ·simp only [h, if_false] <;> omega
theorem xo (its : List Value) (lo hi : Option Int) : slicePick its.toArray lo hi none = ((its.drop (HT.sIx its.length 0 lo)).take (HT.sIx its.length its.length hi - HT.sIx its.length 0 lo)).toArray := by
 obtain ⟨h1, h2, h3⟩ := yd lo hi its.toArray.size
 unfold slicePick
 rw [h1, h2, h3]
 simp only [sliceRange_one, pick_run, List.size_toArray] <;> rfl
def Y1 (K : PySem.W.Frag) : V -> Option Int -> Option Int -> Hp -> VK -> Prop := fun x lo hi H Q => ∃ a xs, x = .ref a /\ SqL K H a xs /\ ∀ p, H p = none -> Q (.ref p) (upd H p (.lst (yf xs lo hi)))
theorem qM : SlR X (Y1 X.K) := by
 intro pins s σ H x v vl vu lo hi sl Q I rx hs pl pu h
 obtain ⟨a, xs, rfl, hx, q⟩ := h
 cases rx
 obtain ⟨its, r, ht, hz⟩ := I.list hx
 have hlen := r.length
 refine ⟨"list", _, slot_list_getitem.lookup, ht.isList.typeIs, ?_⟩
 refine wpAny_getItem_list_slice ht.isList hs pl pu .none (by simp) ?_ (by rw [List.size_toArray] <;> omega)
 rw [xo, <- hlen]
 refine ⟨.ref s.heap.objs.size, _, I.laid (t' := s.toks) (o := .lst (yf xs lo hi)) (fun b ob q => Heap.get?_push_of_some _ q) (Nat.le_refl _) ?_, rfl, q _ (I.hok.fresh (Nat.le_refl _))⟩
 exact ⟨Nat.le_trans (yz xs lo hi) hz, _, 0, (r.drop (HT.sIx xs.length 0 lo)).take (HT.sIx xs.length xs.length hi - HT.sIx xs.length 0 lo), Heap.get?_push_size _ rfl⟩
theorem zo : zY X (.builtin "len") (fun xs H Q => ∃ p ys, xs = [.ref p] /\ (SqL X.K H p ys \/ SqT X.K H p ys) /\ Q (.int ys.length) H) := by
 intro pins s σ H xs us Q I r h
 obtain ⟨p, ys, rfl, hq, q⟩ := h
 obtain ⟨u, rfl, rx⟩ := qR r
 cases rx
 have hn := kL
 rcases hq with hq | hq
 ·obtain ⟨its, r', pl, hz⟩ := I.list hq
  have hlen := r'.length
  exact Calls.call_len_list pl.isList (by simp only [List.size_toArray] <;> omega) ⟨.int ys.length, H, I.tok _, ⟨s.toks + 1, by rw [List.size_toArray, hlen]⟩, q⟩
 ·obtain ⟨its, r', pl, hz⟩ := I.tuple hq
  have hlen := r'.length
  exact len_tuple pl (by simp only [List.size_toArray] <;> omega) ⟨.int ys.length, H, I.tok _, ⟨s.toks + 1, by rw [List.size_toArray, hlen]⟩, q⟩
theorem yp : zY X (.type "list") (fun xs H Q => ∃ p ys, xs = [.ref p] /\ (SqL X.K H p ys \/ SqT X.K H p ys) /\ ∀ l, H l = none -> Q (.ref l) (upd H l (.lst ys))) := by
 intro pins s σ H xs us Q I r h
 obtain ⟨p, ys, rfl, hq, q⟩ := h
 obtain ⟨u, rfl, rx⟩ := qR r
 cases rx
 have fin : ∀ (its : List Value), zq ys its -> ys.length <= sizeLine -> ∀ (h' : Heap) (c' : Nat), (∀ b o', s.heap.get? b = some o' -> h'.get? b = some o') ->
   h'.get? s.heap.objs.size = some { cls := .type "list", dict := none, data := .seq its.toArray c', slots := #[] } -> EP X pins σ Q (.ref s.heap.objs.size) { s with heap := h' } := fun its r' hz h' c' kp e =>
  ⟨.ref s.heap.objs.size, _, I.laid (t' := s.toks) kp (Nat.le_refl _) (show zK X.prog X.w _ h' _ (.lst ys) from ⟨hz, its, c', r', e⟩), rfl, q _ (I.hok.fresh (Nat.le_refl _))⟩
 rcases hq with hq | hq
 ·obtain ⟨its, r', pl, hz⟩ := I.list hq
  have hlen := r'.length
  obtain ⟨o, ho, hc, n, hd⟩ := pl.isList
  exact call_list_seq p (.inl rfl) ho hc hd (fun h' c' kp e => fin its r' hz h' c' kp e) (by simp only [List.size_toArray] <;> omega)
 ·obtain ⟨its, r', pl, hz⟩ := I.tuple hq
  have hlen := r'.length
  obtain ⟨o, ho, hc, n, hd⟩ := pl
  exact call_list_seq p (.inr rfl) ho hc hd (fun h' c' kp e => fin its r' hz h' c' kp e) (by simp only [List.size_toArray] <;> omega)
theorem jl : zY X (.type "tuple") (fun xs H Q => ∃ p ys, xs = [.ref p] /\ ((SqL X.K H p ys /\ ∀ l, H l = none -> Q (.ref l) (upd H l (.tup ys))) \/ (SqT X.K H p ys /\ Q (.ref p) H))) := by
 intro pins s σ H xs us Q I r h
 obtain ⟨p, ys, rfl, h⟩ := h
 obtain ⟨u, rfl, rx⟩ := qR r
 cases rx
 rcases h with ⟨hq, q⟩ | ⟨hq, q⟩
 ·obtain ⟨its, r', pl, hz⟩ := I.list hq
  have hlen := r'.length
  refine call_tuple_list pl.isList (fun h' kp => ?_) (by simp only [List.size_toArray] <;> omega)
  have I1 : Inv X pins σ H { s with heap := h' } := I.kept (t' := s.toks) kp
  have I2 : Inv X pins σ (upd H h'.objs.size (.tup ys)) { s with heap := h'.push { cls := .type "tuple", data := .seq its.toArray } } :=
   I1.laid (t' := s.toks) (fun b o e => Heap.get?_push_of_some _ e) (Nat.le_refl _) (show zK X.prog X.w _ _ _ (.tup ys) from ⟨hz, its, r', IsTup.new _ _⟩)
  exact ⟨.ref h'.objs.size, _, I2, rfl, q _ (I1.hok.fresh (Nat.le_refl _))⟩
 ·obtain ⟨its, r', pl, hz⟩ := I.tuple hq
  exact call_tuple_same pl ⟨.ref p, H, I, rfl, q⟩
def tyV (K : PySem.W.Frag) (T : String) (x : V) (H : Hp) : Prop := match x with
  | .str _ => T = "str"
  | .int _ => T = "int"
  | .ref p => (T = "list" /\ ∃ xs, SqL K H p xs) \/ (T = "tuple" /\ ∃ o, K.lookup p = some o /\ o.cls = .type "tuple" /\ o.dict = none) \/
      (T = "dict" /\ ((∃ kvs, H p = some (.dK kvs)) \/ ∃ kvs, H p = some (.dT kvs))) \/ (T = "set" /\ ∃ S n, H p = some (.set S n))
  | _ => False
theorem YK {pins : List (Addr × Obj)} {σ : St} {H : Hp} {s : Shared} {T : String} {x : V} {v : Value} (I : Inv X pins σ H s) (r : zr x v) (ty : tyV X.K T x H) :
    s.TypeIs v T /\ ∀ a, v = .ref a -> ∃ ob, s.heap.get? a = some ob /\ ob.dict = none := by
  cases x with
  | str z =>
    obtain ⟨t, rfl⟩ := r
    cases (show T = "str" from ty)
    exact ⟨typeIs_str s z t, fun _ e => nomatch e⟩
  | int i =>
    obtain ⟨t, rfl⟩ := r
    cases (show T = "int" from ty)
    exact ⟨typeIs_int s i t, fun _ e => nomatch e⟩
  | ref p =>
    cases r
    rcases ty with ⟨rfl, xs, hq⟩ | ⟨rfl, o, hk, hc, hd⟩ | ⟨rfl, hk⟩ | ⟨rfl, S, n, hk⟩
    · obtain ⟨its, _, pl, _⟩ := I.list hq
      refine ⟨pl.isList.typeIs, fun a e => ?_⟩
      cases e
      obtain ⟨o, n, e, c, hd, _⟩ := pl
      exact ⟨o, e, hd⟩
    · refine ⟨⟨o, I.kIn p o hk, hc⟩, fun a e => ?_⟩
      cases e
      exact ⟨o, I.kIn _ o hk, hd⟩
    · have z : ∃ o, s.heap.get? p = some o /\ o.ExactDict := by
        rcases hk with ⟨kvs, hk⟩ | ⟨kvs, hk⟩
        · obtain ⟨_, _, _, _, o, _, _, e, ex, _⟩ := I.hok p _ hk
          exact ⟨o, e, ex⟩
        · obtain ⟨_, _, _, _, o, _, _, e, ex, _⟩ := I.hok p _ hk
          exact ⟨o, e, ex⟩
      obtain ⟨o, e, ex⟩ := z
      refine ⟨⟨o, e, ex.1⟩, fun a e2 => ?_⟩
      cases e2
      exact ⟨o, e, ex.2.1⟩
    · obtain ⟨o, _, _, _, e, ex, _⟩ := I.hok p _ hk
      refine ⟨⟨o, e, ex.1⟩, fun a e2 => ?_⟩
      cases e2
      exact ⟨o, e, ex.2.1⟩
  | _ => exact False.elim ty
def tBM (K : PySem.W.Frag) (T : String) (r : V -> List V -> Hp -> VK -> Prop) (to : TE) (t : TA) : TE := fun σ H Q => to σ H fun x H1 => tyV K T x H1 /\ t σ H1 fun xs H2 => r x xs H2 Q
variable {o e : Expr} {es : List Expr} {to : TE} {t : TA} {name : Str} {apos cpos : Pos} {T id : String} {r : V -> List V -> Hp -> VK -> Prop}
theorem Xc (pa : PlainAttrs T) (slot : Slot T name id) (hty : typeOf (.builtin id) = pure (.type "method_descriptor")) (hm : MtR X id r) (ho : PE X o to) (ha : PA X (e :: es) t)
  (hbase : attributeBase o name X.env (eval o X.env) = eval o X.env := by rfl)
  (hfew : ((backTo cpos (starEach (e :: es) X.env)).all (fun x => !x.1) && (backToKw cpos (keywordEach [] X.env)).all (fun x => x.1.isSome)
   && decide ((e :: es).length + ([] : List Keyword).length + (if ([] : List Keyword).isEmpty then 0 else 1) < 30)) = true := by rfl)
  (hline : (apos.endLine == cpos.line) = true := by rfl) (hs : starEach (e :: es) X.env = (false, eval e X.env) :: starEach es X.env := by rfl) (hplain : (backTo cpos (starEach es X.env)).any (·.1) = false := by rfl) :
  PE X (.Call (.Attribute o name apos) (e :: es) [] cpos) (tBM X.K T r to t) := by
 intro pins s σ H Q I h
 refine wpAny_Call_method_late hbase hfew hline rfl (thn (ho pins s σ H _ I h) fun v s1 ⟨x, H1, I1, r1, ty, q1⟩ => ?_)
 obtain ⟨h1, h2⟩ := YK I1 r1 ty
 refine ⟨T, id, pa, slot, hty, h1, h2, ?_⟩
 have hA := ha cpos pins s1 σ H1 _ I1 q1
 rw [hs] at hA ⊢
 refine Calls.callWith_builtin (by show (false || (backTo cpos (starEach es X.env)).any (·.1)) = false; rw [hplain] <;> rfl) (Calls.evalArgs_plain ?_)
 exact thn hA fun us s2 ⟨vs, H2, I2, r2, q2⟩ => hm pins s2 σ H2 x vs v us Q I2 r1 r2 q2
/- xs.append(e), list.index on a module's tuple .. are MtR facts of 06m -/
end
end L2
namespace L2
open PySem PySem.Spec PyProof.Rows
def MtM (X : Cx) (id : String) (r : V -> List V -> Hp -> VK -> Prop) : Prop :=
 ∀ (pins : List (Addr × Obj)) (s : Shared) (σ : St) (H : Hp) (x : V) (xs : List V) (v : Value) (us : List Value) (Q : VK), Inv X pins σ H s -> zr x v -> zq xs us -> r x xs H Q ->
  wpAny (model X.prog X.w) X.A (call (.builtin id) (v :: us)) (EP X pins σ Q) X.xe s
theorem zq.one : ∀ {x : V} {us : List Value}, zq [x] us -> ∃ u, us = [u] /\ zr x u
 | _, _, .cons r .nil => ⟨_, rfl, r⟩
theorem zq.two : ∀ {x y : V} {us : List Value}, zq [x, y] us -> ∃ u v, us = [u, v] /\ zr x u /\ zr y v
 | _, _, _, .cons r (.cons q .nil) => ⟨_, _, rfl, r, q⟩
theorem zq.rep {xs : List V} {us : List Value} (h : zq xs us) : ∀ k : Nat, zq (List.replicate k xs).flatten (List.replicate k us).flatten
 | 0 => .nil
 | k + 1 => by
  rw [List.replicate_succ, List.replicate_succ, List.flatten_cons, List.flatten_cons]
  exact zq.append h (zq.rep h k)
theorem xv (its : List Value) : ∀ (k : Nat) (acc : List Value),
  List.foldl (fun x1 x2 => x1 ++ x2) acc.toArray (List.replicate k its.toArray) = (acc ++ (List.replicate k its).flatten).toArray
 | 0, acc => by simp
 | k + 1, acc => by
  have e : acc.toArray ++ its.toArray = (acc ++ its).toArray := by simp
  have e2 : (acc ++ its) ++ (List.replicate k its).flatten = acc ++ (List.replicate (k + 1) its).flatten := by
   rw [List.replicate_succ, List.flatten_cons, List.append_assoc]
  rw [<- e2, <- xv its k (acc ++ its), <- e, List.replicate_succ, List.foldl_cons]
section
variable {X : Cx} {pins : List (Addr × Obj)} {σ : St} {H : Hp} {s : Shared} {l b : Addr} {xs ys zs : List V}
theorem Inv.lset {its its' : List Value} {n : Nat} {f : Array Value -> Array Value} {t' : Nat} (I : Inv X pins σ H s) (hH : H l = some (.lst xs))
  (e : s.heap.get? l = some { cls := .type "list", data := .seq its.toArray n }) (hf : f its.toArray = its'.toArray) (hv : zq ys its') (hz : ys.length <= sizeLine) :
  Inv X pins σ (upd H l (.lst ys)) { s with heap := s.heap.update l (Obj.mapSeq f), toks := t' } := by
 have q := PySem.IsL.update e f
 rw [hf] at q
 refine I.write (x := l) (e := l) (by rw [hH]; exact trivial) (.inl rfl) (fun b' u hb hu => (Heap.get?_update_other s.heap (Obj.mapSeq f) (Ne.symm hb)).trans hu) ⟨_, q⟩ ?_
 exact ⟨hz, its', _, hv, q⟩
theorem Inv.lnew {its : List Value} {t' : Nat} (I : Inv X pins σ H s) (hv : zq ys its) (hz : ys.length <= sizeLine) :
  Inv X pins σ (upd H s.heap.objs.size (.lst ys)) { s with heap := s.heap.push { cls := .type "list", data := .seq its.toArray }, toks := t' } :=
 I.laid (fun _ _ q => Heap.get?_push_of_some _ q) (Nat.le_refl _) ⟨hz, its, 0, hv, Heap.get?_push_size _ rfl⟩
theorem Inv.fresh (I : Inv X pins σ H s) : H s.heap.objs.size = none := I.hok.fresh (Nat.le_refl _)
theorem Inv.lstM (I : Inv X pins σ H s) (hH : H l = some (.lst xs)) : xs.length <= sizeLine /\ ∃ (its : List Value) (n : Nat), zq xs its /\ xs.length = its.length /\ s.heap.get? l = some { cls := .type "list", data := .seq its.toArray n } := by
 obtain ⟨z, its, n, r, e⟩ := I.hok l _ hH
 exact ⟨z, its, n, r, r.length, e⟩
theorem vg {n : Nat} (h : n <= sizeLine) : Builtin.List.listTooLong n = false := by
 unfold Builtin.List.listTooLong
 exact decide_eq_false (by omega)
end
section
variable {X : Cx}
def kz : V -> List V -> Hp -> VK -> Prop := fun x vs H Q => ∃ l xs y, x = .ref l /\ vs = [y] /\ H l = some (.lst xs) /\ xs.length < sizeLine /\ Q .non (upd H l (.lst (xs ++ [y])))
theorem xM : MtM X "list.append" kz := by
 intro pins s σ H x vs v us Q I rx rv h
 obtain ⟨l, xs, y, rfl, rfl, hH, hz, q⟩ := h
 cases rx
 obtain ⟨u, rfl, ru⟩ := rv.one
 obtain ⟨z, its, n, r, hl, e⟩ := I.lstM hH
 refine call_meets F.slot_list_append ⟨_, e, rfl⟩ F.entry_list_append (F.args_list_append_2 _ _) (PySem.list_append l its.toArray n u (by rw [List.size_toArray]; omega)) ⟨e, ?_⟩
 refine ⟨.non, _, I.lset (its' := its ++ [u]) hH e (by simp) (r.append (.cons ru .nil)) ?_, rfl, q⟩
 rw [List.length_append, List.length_singleton]
 omega
def wy : V -> List V -> Hp -> VK -> Prop := fun x vs H Q => ∃ l b xs zs, x = .ref l /\ vs = [.ref b] /\ H l = some (.lst xs) /\ H b = some (.lst zs) /\ xs.length + zs.length <= sizeLine /\ Q .non (upd H l (.lst (xs ++ zs)))
theorem VD : MtM X "list.extend" wy := by
 intro pins s σ H x vs v us Q I rx rv h
 obtain ⟨l, b, xs, zs, rfl, rfl, hH, hB, hz, q⟩ := h
 cases rx
 obtain ⟨u, rfl, ru⟩ := rv.one
 cases ru
 obtain ⟨z, its, n, r, hl, e⟩ := I.lstM hH
 obtain ⟨z2, its2, n2, r2, hl2, e2⟩ := I.lstM hB
 have hsz : its.toArray.size + its2.toArray.size <= sizeLine := by rw [List.size_toArray, List.size_toArray]; omega
 have hlong : ¬ (!its.toArray.isEmpty && Builtin.List.listTooLong (its.toArray.size + its2.toArray.size)) = true := by
  rw [vg hsz, Bool.and_false]
  exact Bool.false_ne_true
 refine call_meets F.slot_list_extend ⟨_, e, rfl⟩ F.entry_list_extend (F.args_list_extend_2 _ _)
  (AutoSeq1.list_extend_list_list_0 l its.toArray n b its2.toArray n2 hlong (by rw [List.size_toArray]; omega) (by omega)) ⟨e, e2, ?_⟩
 refine ⟨.non, _, I.lset (its' := its ++ its2) hH e (by simp) (r.append r2) ?_, rfl, q⟩
 rw [List.length_append]
 omega
def JQ : R2 := fun x y H Q => ∃ l b xs zs, x = .ref l /\ y = .ref b /\ H l = some (.lst xs) /\ H b = some (.lst zs) /\ xs.length + zs.length <= sizeLine /\ ∀ p, H p = none -> Q (.ref p) (upd H p (.lst (xs ++ zs)))
theorem jg : OpR X (binaryOp .Add) JQ := by
 intro pins s σ H x y v u Q I rx ry h
 obtain ⟨l, b, xs, zs, rfl, rfl, hH, hB, hz, q⟩ := h
 cases rx
 cases ry
 obtain ⟨z, its, n, r, hl, e⟩ := I.lstM hH
 obtain ⟨z2, its2, n2, r2, hl2, e2⟩ := I.lstM hB
 refine PySem.P.add_list e e2 ?_ (by rw [List.size_toArray, List.size_toArray]; omega)
 have ea : its.toArray ++ its2.toArray = (its ++ its2).toArray := by simp
 rw [ea]
 exact ⟨.ref _, _, I.lnew (t' := s.toks) (r.append r2) (by rw [List.length_append]; omega), rfl, q _ I.fresh⟩
def Vz : R2 := fun x y H Q => ∃ l k xs, x = .ref l /\ y = .int k /\ H l = some (.lst xs) /\ -(2 ^ 63) <= k /\ k < 2 ^ 63 /\ xs.length * k.toNat <= sizeLine /\
 ∀ p, H p = none -> Q (.ref p) (upd H p (.lst (List.replicate k.toNat xs).flatten))
theorem Kd {α : Type} (xs : List α) (k : Nat) : (List.replicate k xs).flatten.length = k * xs.length := by
 induction k with
 | zero => simp
 | succ k ih => rw [List.replicate_succ, List.flatten_cons, List.length_append, ih, Nat.succ_mul, Nat.add_comm]
theorem Jn : OpR X (binaryOp .Mult) Vz := by
 intro pins s σ H x y v u Q I rx ry h
 obtain ⟨l, k, xs, rfl, rfl, hH, h1, h2, hz, q⟩ := h
 cases rx
 obtain ⟨t, rfl⟩ := ry
 obtain ⟨z, its, n, r, hl, e⟩ := I.lstM hH
 have hlen : its.toArray.size * k.toNat <= sizeLine := by rw [List.size_toArray, <- hl]; exact hz
 have hcap : ¬ its.toArray.size * k.toNat > (2 ^ 63 - 1) / 8 := by
  have : (sizeLine : Nat) <= (2 ^ 63 - 1) / 8 := by decide
  omega
 have hfit : ¬ (!Builtin.List.listFitsIndex k) = true := by
  rw [fitsIndex_both h1 h2]
  exact Bool.false_ne_true
 have hlong : ¬ Builtin.List.listTooLong (its.toArray.size * k.toNat) = true := by
  rw [vg hlen]
  exact Bool.false_ne_true
 have hnew : List.foldl (fun x1 x2 => x1 ++ x2) #[] (List.replicate (if its.toArray.isEmpty = true then 0 else k.toNat) its.toArray) = (List.replicate k.toNat its).flatten.toArray := by
  have f0 : ∀ m : Nat, List.foldl (fun x1 x2 => x1 ++ x2) #[] (List.replicate m its.toArray) = (List.replicate m its).flatten.toArray := fun m => by
   have := xv its m []
   rw [List.nil_append] at this
   exact this
  rw [f0]
  cases its with
  | nil => simp
  | cons a r' => rw [if_neg (by simp)]
 refine wpAny_binaryOp_repeat_ref (T := "list") (U := "int") (by decide) ⟨_, e, rfl⟩ (fun s' => typeIs_int s' k t) noFill_list_mul F.fills_int_mul F.slot_int_rmul repeat_list F.slot_int_index.lookup
  (call_meets F.slot_int_rmul (typeIs_int s k t) F.entry_int_rmul (F.args_int_rmul_2 _ _) (int___rmul___int_list k t l its.toArray n)
   ⟨e, rfl, ⟨_, e, rfl⟩, call_meets F.slot_list_mul ⟨_, e, rfl⟩ F.entry_list_mul (F.args_list_mul_2 _ _) (AutoListH.list___mul___list_int_3 l its.toArray n k t hfit hcap hlong) ⟨e, ?_⟩⟩)
 rw [hnew]
 exact ⟨.ref _, _, I.lnew (t' := s.toks) (r.rep k.toNat) (by rw [Kd, Nat.mul_comm]; exact hz), rfl, q _ I.fresh⟩
end
section
variable {prog : Program} {w : World} {A : Around} {E : Value -> Shared -> Prop} {s : Shared}
end
section
variable {X : Cx}
end
end L2
namespace Att
open PySem PySem.W PySem.Calls PyProof.Rows
theorem kn {P : Params} {h : Heap} : ∀ (ns : List Int) (vs : List Value), WellAll P h vs (ns.map WData.int) -> IntsAre vs ns := by
 intro ns
 induction ns with
 | nil =>
  intro vs w
  rw [List.map_nil] at w
  cases w
  exact .nil
 | cons n ns ih =>
  intro vs w
  rw [List.map_cons] at w
  cases w with
  | cons a b =>
   cases a
   exact .cons _ _ (ih _ b)
theorem Zr {l : OpenLaw} {n : Nat} (hn : l.most = some n) {P : Params} {h : Heap} {args : List WData} {vals : List Value}
  (hpre : l.row.toRowW.claim.pre args = true) (hwl : WellAll P h vals args) :
  ∃ a vs ns, vals = [Value.ref a] /\ args = [WData.list (ns.map WData.int)] /\ h.get? a = some { cls := .type "list", data := .seq vs.toArray } /\ IntsAre vs ns /\ ns.length <= n := by
 have hsh : WShape.hasAll [] args [.list .int] = true := (pre_splitW hpre).1
 have hc : l.pre.holds [] { args := args } = true := (pre_splitW hpre).2
 obtain ⟨d, r, rfl, h1, h2⟩ := hasAllW_cons hsh
 obtain rfl := hasAllW_nil h2
 obtain ⟨xs, rfl, h3⟩ := hasW_list h1
 obtain ⟨ns, rfl⟩ := items_int h3
 have hlen : ns.length <= n := by
  unfold OpenLaw.pre at hc
  have h4 : (WTm.not (.lt (.lit (.int (n : Int))) (.len (.arg 0)))).holds [] { args := [.list (ns.map .int)] } = true := by
   have h4 := (holds_andW hc).1
   rw [hn] at h4
   exact h4
  have h5 := condW_of h4 (w_not (w_lt w_lit (w_len_list (w_arg rfl))))
  rw [List.length_map] at h5
  refine Nat.le_of_not_lt fun q => ?_
  have q' : (n : Int) < ((ns.length : Nat) : Int) := by omega
  first
   | (rw [decide_eq_true q'] at h5; exact absurd h5 (by decide))
   | (simp at h5; omega)
 cases hwl with
 | cons w1 w2 =>
  cases w2
  cases w1 with
  | list ho hall => exact ⟨_, _, ns, rfl, rfl, ho, kn ns _ hall, hlen⟩
theorem ZF (l : OpenLaw) (args : List WData) : l.row.toRowW.claim.post args (.bool true) args = true :=
 postW_of (r := l.row.toRowW) (X := (true == true))
  (show WShape.has [] (.bool true) .bool = true by first | rfl | decide | simp [WShape.has, WShape.arms, WShape.armsAll])
  (show (WTm.eq .res (.lit (.bool true))).value [] { args := args, res := some (.bool true), after := args } = some (.bool (true == true)) from w_eq_bool (w_res rfl) w_lit) rfl
theorem attach_call {l : OpenLaw} {n : Nat} {q : Program} {loose : List Str} {XP : (Str -> Option Value) -> Heap -> Prop} {YP : World -> Heap -> Prop} {d : DefRec}
  (hn : l.most = some n) (hdf : d.params.defaults = [])
  (call : ∀ (w : World) (s₀ s₁ : Shared) (mg mb : Str -> Option Value) (fa : Addr) (o : Obj) (pm cd doc : Value) (a : Addr) (vs : List Value) (ns : List Int),
   Ground q loose [] XP w s₀ mg mb s₁.heap -> YP w s₁.heap ->
   s₁.heap.get? fa = some o -> o.data = .func (docDef d.name d.params d.body d.scope pm cd doc) -> s₁.heap.CodeRec cd d.name -> mg d.name = some (.ref fa) ->
   s₁.heap.get? a = some { cls := .type "list", data := .seq vs.toArray } -> IntsAre vs ns -> ns.length <= n -> s₁.gens = #[] ->
   codeAny (model l.prog w) callerA (.call (.ref fa) ⟨[.ref a], []⟩) (fun r s' => r = .ok (.ret (.bool true)) /\ OldK s₁.heap s'.heap /\ s'.os = s₁.os /\ AllBare s'.gens) s₁) :
  WalkO q loose XP YP l.row.toRowW d [] (fun f vs => PySem.call f vs) := by
 intro w s₀ s₁ mg mb G Y fa o pm cd doc dV kV ho hd hcd hD hmg hg args vals as hpre hlay hrd hwl hlo
 obtain rfl : dV = .none := Dflts.none hD hdf
 obtain rfl : kV = .none := Dflts.noKw hD
 obtain ⟨a, vs, ns, rfl, rfl, hobj, hints, hlen⟩ := Zr hn hpre hwl
 refine enter_call (codeAny_mono (call w s₀ s₁ mg mb fa o pm cd doc a vs ns G Y ho (fd_plain hd) hcd hmg hobj hints hlen hg) fun r s' hq => ?_)
 obtain ⟨rfl, h2, h3, h4⟩ := hq
 exact ⟨.inl ⟨.bool true, .bool true, [], rfl, fun _ => rfl, .bool true, ZF l _, fun _ => ⟨List.Pairwise.nil, fun _ hm => (nomatch hm)⟩⟩, h2, h3, h4⟩
section
variable {prog : Program} {w : World} {A : Around} {E : Value -> Shared -> Prop} {s : Shared} {K : Frag}
def Wh (h : Heap) (L d : Addr) : List (Addr × Obj) := (List.range h.objs.size).filterMap fun a => if a = L \/ a = d then none else (h.get? a).map fun o => (a, o)
end
end Att
namespace L2
open PySem PySem.Spec PyProof.Rows
theorem j0 : ∀ {vs : List Value} {ns : List Int}, IntsAre vs ns -> zq (ns.map V.int) vs
 | _, _, .nil => .nil
 | _, _, .cons n t h => .cons ⟨t, rfl⟩ (j0 h)
def YR (H : Hp) : Prop := ∀ b, H b = none \/ ∃ o xs, H b = some (.frz o (.lst xs))
theorem Jx {P : Program} {w : World} {K : PySem.W.Frag} {mg mb : Str -> Option Value} {CX : CXT} {k : Nat} {fa a : Addr} {fd : FuncData} {x : Str} {sp : Sp} {s₁ : Shared} {vs : List Value} {ns : List Int}
  (KX : K.In s₁.heap) (hns : s₁.heap.Ns mainGlobals mg) (hb : s₁.heap.Ns builtinsNs mb) (hbb : ∀ x : Str, x ≠ "__name__" -> mb x = bootBuiltins x) (hlim : s₁.heap.NoLimit) (hg : s₁.gens = #[])
  (ha : s₁.heap.get? a = some { cls := .type "list", data := .seq vs.toArray }) (hi : IntsAre vs ns) (hl : ns.length <= sizeLine) (hr : qJ k callerA)
  (F : ∀ base : Heap, K.In base -> base.Ns mainGlobals mg -> jj P w K mg base CX k fa fd [x] sp) (hbind : ∀ (s : Shared) (u : Value), BindsTo s fd ⟨[u], []⟩ [(x, u)])
  (hsp : ∀ H : Hp, YR H -> SqL K H a (ns.map V.int) -> sp [.ref a] H (fun v _ => v = .bl true) fun _ _ _ => False)
  (hCX : ∀ H e s', CX [] H s₁ (fun _ _ _ => False) e s' -> False) :
  codeAny (model P w) callerA (.call (.ref fa) ⟨[.ref a], []⟩) (fun r s' => r = .ok (.ret (.bool true)) /\ OldK s₁.heap s'.heap /\ s'.os = s₁.os /\ AllBare s'.gens) s₁ := by
 have rv := j0 hi
 have lenV := hi.length
 have core : ∀ H : Hp, YR H -> SqL K H a (ns.map V.int) -> HOk P w H s₁.heap -> (∀ b, H b ≠ none -> b = a) -> (H a ≠ none -> K.lookup a = none) ->
   codeAny (model P w) callerA (.call (.ref fa) ⟨[.ref a], []⟩) (fun r s' => r = .ok (.ret (.bool true)) /\ OldK s₁.heap s'.heap /\ s'.os = s₁.os /\ AllBare s'.gens) s₁ := by
  intro H hO hS hok hA hK
  have base_of : ∀ {b : Addr} {o : Obj}, s₁.heap.get? b = some o -> H b = none -> (yi s₁.heap H).get? b = some o := fun e n => JD e n
  have noA : ∀ {b : Addr} {o : Obj} {es : Array DictEntry} {ep : Nat}, s₁.heap.get? b = some o -> o.data = .dict es ep -> H b = none := fun {b o es ep} e d => by
   cases q : H b with
   | none => rfl
   | some u =>
    have e' : b = a := hA b (by rw [q]; simp)
    subst e'
    rw [ha] at e; cases e
    have d' : Data.seq vs.toArray _ = Data.dict es ep := d
    cases d'
  have nsK : ∀ {b : Addr} {m : Str -> Option Value}, s₁.heap.Ns b m -> (yi s₁.heap H).Ns b m := fun {b m} ⟨o, es, ep, e, d, r⟩ => ⟨o, es, ep, base_of e (noA e d), d, r⟩
  have hKb : K.In (yi s₁.heap H) := fun b o e => base_of (KX b o e) (by
   cases q : H b with
   | none => rfl
   | some u =>
    have e' : b = a := hA b (by rw [q]; simp)
    subst e'
    rw [hK (by rw [q]; simp)] at e; cases e)
  have hM : Mod K mg (yi s₁.heap H) := ⟨hKb, nsK hns, ⟨mb, nsK hb, hbb⟩, let ⟨mc, h1, h2⟩ := hlim; ⟨mc, nsK h1, h2⟩⟩
  have e0 : KM P w K mg (yi s₁.heap H) callerA [] s₁ H := ⟨rfl, hM, fun b o e => JV e, Nat.le_of_eq (w6 _ _), trivial, fun b hb => absurd (show b ∈ ([] : List Addr) from hb) (by simp), hok, .of_eq hg⟩
  refine codeAny_mono ((F _ hKb (nsK hns)).run callerA [] s₁ H ⟨[.ref a], []⟩ [.ref a] [.ref a] _ _ hr e0 (hbind s₁ (.ref a)) (.cons rfl .nil) (hsp H hO hS)) fun r s' h => ?_
  cases r with
  | error e => exact (hCX H e s' h).elim
  | ok fl =>
   cases fl with
   | next => exact False.elim h
   | brk => exact False.elim h
   | cont => exact False.elim h
   | ret u =>
    obtain ⟨v, H', os, bare, un, hok', r', q⟩ := h
    have q' : v = .bl true := q
    subst q'
    obtain rfl : u = Value.bool true := r'
    refine ⟨rfl, OldK.of_keep fun b o e => ?_, os, bare⟩
    cases q : H b with
    | none => exact un.keep b o e q (by intro z; exact absurd (show b ∈ ([] : List Addr) from z) (by simp)) (by simp)
    | some u =>
     rcases hO b with z | ⟨ob, xs, z⟩
     ·rw [q] at z; cases z
     ·have z2 := un.frzs b ob _ z
      obtain ⟨e1, _⟩ := hok b _ z
      obtain ⟨e2, _⟩ := hok' b _ z2
      rw [e] at e1; cases e1
      exact e2
 cases hk : K.lookup a with
 | some o =>
  have e := KX a o hk
  rw [ha] at e
  cases e
  refine core (fun _ => none) (fun _ => .inl rfl) (.inr ⟨_, vs.toArray, _, hk, rfl, rfl, rfl, by rw [List.size_toArray, lenV]; exact hl, by simpa using rv⟩) (fun b u z => by have z' : (none : Option HO) = some u := z; cases z') (fun b z => absurd rfl z) fun z => absurd rfl z
 | none =>
  refine core (fun b => if b = a then some (.frz { cls := .type "list", data := .seq vs.toArray } (.lst (ns.map V.int))) else none) (fun b => ?_) (.inl (.inr ⟨{ cls := .type "list", data := .seq vs.toArray }, if_pos rfl⟩)) (fun b u z => ?_) (fun b z => ?_) fun _ => hk
  ·by_cases hb : b = a
   ·exact .inr ⟨_, _, if_pos hb⟩
   ·exact .inl (if_neg hb)
  ·by_cases hb : b = a
   ·have z' := (if_pos hb).symm.trans z
    cases z'
    subst hb
    exact ⟨ha, by rw [List.length_map]; exact hl, vs, _, rv, ha⟩
   ·have z' := (if_neg hb).symm.trans z
    cases z'
  ·by_cases hb : b = a
   ·exact hb
   ·exact absurd (if_neg hb) z
end L2
namespace L2
open PySem PySem.Spec PyProof.Rows
abbrev KOf {K : PySem.W.Frag} {h : Heap} (_ : K.In h) : PySem.W.Frag := K
theorem walk_of {l : PySem.W.OpenLaw} {n k : Nat} {q : Program} {loose : List Str} {XP : (Str -> Option Value) -> Heap -> Prop} {YP : World -> Heap -> Prop} {d : DefRec} {K : Params -> PySem.W.Frag} {CX : World -> CXT} {sp : World -> Sp} {x : Str}
  (hn : l.most = some n) (hn2 : n <= sizeLine) (hdf : d.params.defaults = []) (hr : qJ k callerA)
  (hY : ∀ (w : World) (h : Heap), YP w h -> (K w.params).In h)
  (F : ∀ (w : World) (mg : Str -> Option Value) (fa : Addr) (h : Heap), (K w.params).In h -> h.Ns mainGlobals mg -> mg d.name = some (.ref fa) ->
   ∃ fd : FuncData, (∀ (s : Shared) (u : Value), BindsTo s fd ⟨[u], []⟩ [(x, u)]) /\
    ∀ base : Heap, (K w.params).In base -> base.Ns mainGlobals mg -> jj l.prog w (K w.params) mg base (CX w) k fa fd [x] (sp w))
  (hsp : ∀ (w : World) (H : Hp) (a : Addr) (ns : List Int), ns.length <= n -> YR H -> SqL (K w.params) H a (ns.map V.int) -> sp w [.ref a] H (fun v _ => v = .bl true) fun _ _ _ => False)
  (hCX : ∀ (w : World) (H : Hp) (s : Shared) (e : Value) (s' : Shared), CX w [] H s (fun _ _ _ => False) e s' -> False) :
  PySem.W.WalkO q loose XP YP l.row.toRowW d [] (fun f vs => PySem.call f vs) := by
 refine Att.attach_call hn hdf fun w s₀ s₁ mg mb fa o pm cd doc a vs ns G Y ho hd hcd hmg hobj hints hlen hg => ?_
 have KX := hY w _ Y
 obtain ⟨fd, hb, hF⟩ := F w mg fa _ KX G.T.g hmg
 exact Jx KX G.T.g G.T.b G.T.builtins G.T.nolimit hg hobj hints (Nat.le_trans hlen hn2) hr hF hb (fun H hO hS => hsp w H a ns hlen hO hS) fun H e s' => hCX w H s₁ e s'
end L2
/- THE LAST THEOREM (shape; LID, My.* are yours):
   My.Adr: a structure of the addresses that your layer names (classes, functions); My.Txt K t: a structure (Prop) of the equations over K;
   My.txt_mk : {K} {implicit addresses ..} (e1 : nsIn K mainGlobals "law" = some (some (.ref f))) (e2 : K.lookup f = some ⟨oc, od, .func (fnOf "law" "law" params body scope dV kV doc pm an cdv ct), sl⟩) (e3 : codeIn K cdv "law" = true) .. : ∃ t, My.Txt K t
set_option maxRecDepth 100000 in
set_option maxHeartbeats 0 in
theorem PySem.Challenge.cw_LID_holds : PySem.Challenge.rw_LID.Holds := by
 w_on; o_law; k_head; (case hw => w_witness2)
 k_fill
 refine L2.walk_of (l := PySem.Challenge.rw_LID) (n := 63) (k := 40) (x := "script") (CX := fun w => ..) (sp := fun _ => My.sp_law) rfl (by decide) rfl ⟨rfl, by decide, by decide⟩ (fun w h Y => PySem.W.kIn_of Y) ?F ?S ?C
 case F =>
  intro w mg fa h KX G hmg
  have T : ∃ t, My.Txt (L2.KOf KX) t := by
   dsimp only [L2.KOf]                          -- K must stand as «<heap const> w.params» for k_is
   refine' My.txt_mk ?e1 ?e2 ?e3 ..
   (case e1 => PySem.W.k_is)                    -- in the order: a name -> its address -> its object -> its parts
   (case e2 => PySem.W.k_is)
   ..
  obtain ⟨t, T⟩ := T
  have e0 := hmg.symm.trans (PySem.W.mg_of KX G T.law)
  cases e0                                       -- fa is the law's own address
  exact ⟨_, fun s u => .of_eq rfl, fun base kb nb => My.law_fn T kb nb⟩     -- if «.of_eq rfl» comes too early: refine' ⟨_, ?b, fun base kb nb => My.law_fn T kb nb⟩; exact fun s u => .of_eq rfl
 case S => exact fun w H a ns hl hO hS => ..
 case C => exact ..
(the tactic k_is has no namespace: write k_is) -/
namespace L2
open PySem PySem.Spec PyProof.Rows
def qE (s : Stmt) : Arguments := match s with
 | .FunctionDef _ a _ _ _ _ _ _ _ _ => a
 | _ => { posonlyargs := [], args := [], vararg := none, kwonlyargs := [], kw_defaults := [], kwarg := none, defaults := [] }
def qd (s : Stmt) : List Stmt := match s with
 | .FunctionDef _ _ b _ _ _ _ _ _ _ => b
 | _ => []
def zk (s : Stmt) : Scope := match s with
 | .FunctionDef _ _ _ _ _ _ sc _ _ _ => sc
 | _ => { kind := .function, names := [], isGenerator := false, isCoroutine := false }
abbrev CX0 : CXT := fun _ _ _ _ _ _ => False
abbrev E0 : XK := fun _ _ _ => False
theorem VS {X : Cx} : vo CX0 X E0 := fun _ _ _ _ _ _ _ h => h.elim
structure Fun (K : PySem.W.Frag) (x qual : Str) (st : Stmt) (f : Addr) (fd : FuncData) : Prop where
 ex : ∃ (oc : Value) (od : Option Addr) (kV doc pm : Value) (an : Option Addr) (cdv ct : Value) (osl : Array (Option Value)),
  fd = PySem.W.fnOf x qual (qE st) (qd st) (zk st) .none kV doc pm an cdv ct /\ K.lookup f = some ⟨oc, od, .func fd, osl⟩ /\ PySem.W.codeIn K cdv qual = true
 kp : PySem.W.keepIn K (.ref f) = true
section
variable {P : Program} {w : World} {K : PySem.W.Frag} {mg : Str -> Option Value} {base : Heap}
theorem Fun.ok {x qual : Str} {st : Stmt} {f : Addr} {fd : FuncData} {N ps : List Str} {k : Nat} {sp : Sp} (F : Fun K x qual st f fd) (S : zA N ps (zk st)) (len : ∀ vs H Q E, sp vs H Q E -> vs.length = ps.length)
  (hbody : ∀ (cdv : Value) (A : Around) (outer : List Env) (s : Shared) (H : Hp) (vs : List V) (Q : VK) (E : XK), qJ k (A.deeper (envOfC qual (zk st) s.heap.objs.size f cdv)) -> sp vs H Q E ->
   ∃ t, PSs (xU CX0 P w K mg base N qual (zk st) f cdv A outer s H E).nox (qd st) t /\ t { nx := fun _ H' => Q .non H', rt := Q } (start N vs) H) : jj P w K mg base CX0 (k + 1) f fd ps sp := by
 obtain ⟨oc, od, kV, doc, pm, an, cdv, ct, osl, rfl, lk, hcd⟩ := F.ex
 refine V9 lk hcd S len fun A outer s H vs Q E hr hsp => ?_
 obtain ⟨t, h, q⟩ := hbody cdv A outer s H vs Q E hr hsp
 exact ⟨t, h.nox, q⟩
theorem Fun.binds {x qual : Str} {st : Stmt} {f : Addr} {fd : FuncData} {ps : List Str} (F : Fun K x qual st f fd)
  (h : ∀ (kV doc pm : Value) (an : Option Addr) (cdv ct : Value) (us : List Value), us.length = ps.length -> bindArgs (PySem.W.fnOf x qual (qE st) (qd st) (zk st) .none kV doc pm an cdv ct) ⟨us, []⟩ = pure (ps.zip us)) : xu K fd ps [] := by
 obtain ⟨oc, od, kV, doc, pm, an, cdv, ct, osl, rfl, lk, hcd⟩ := F.ex
 exact .all (h kV doc pm an cdv ct)
theorem Jt {x qual : Str} {st : Stmt} {f : Addr} {oc : Value} {od an : Option Addr} {osl : Array (Option Value)} {kV doc pm cdv ct : Value} (l : K.lookup f = some ⟨oc, od, .func (PySem.W.fnOf x qual (qE st) (qd st) (zk st) .none kV doc pm an cdv ct), osl⟩)
  (c : PySem.W.codeIn K cdv qual = true) (k : PySem.W.keepIn K (.ref f) = true) : Fun K x qual st f (PySem.W.fnOf x qual (qE st) (qd st) (zk st) .none kV doc pm an cdv ct) := ⟨⟨oc, od, kV, doc, pm, an, cdv, ct, osl, rfl, l, c⟩, k⟩
end
theorem Zc {n : Nat} (h : n <= 1000) : n < sizeLine := Nat.lt_of_le_of_lt h (by decide)
section
variable {X : Cx}
theorem pv (i : Nat) {x : Str} {pos : Pos} (hN : X.N[i]? = some x := by rfl) (hv : Vis X.env.scope x := by first | exact Or.inl rfl | exact Or.inr (Or.inl rfl) | exact Or.inr (Or.inr rfl)) (hd : (x == ("__debug__" : Str)) = false := by decide)
  (hcd : (x == ("__classdict__" : Str)) = false := by decide) : PE X (.Name x pos) (JY i) := Xy hN hv hd hcd
end
theorem xm {c A B : Prop} [Decidable c] (h1 : c -> A) (h2 : ¬ c -> B) : if c then A else B := by
 by_cases h : c
 ·rw [if_pos h]
  exact h1 h
 ·rw [if_neg h]
  exact h2 h
end L2
namespace L2
open PySem PySem.Spec PyProof.Rows
section
variable {κ : Type} [DecidableEq κ]
end
section
variable {P : Program} {w : World} {H : Hp} {h : Heap} {a : Addr}
end
section
variable {X : Cx} {pins : List (Addr × Obj)} {σ : St} {H : Hp} {s : Shared} {a : Addr} {y v : V} {u r : Value} {o : Option V} {A : Around} {E : Value -> Shared -> Prop}
end
section
variable {X : Cx} {pins : List (Addr × Obj)} {σ : St} {H : Hp} {s : Shared} {a : Addr} {kvs : List (Key × V)} {k : Key} {u : Value} {A : Around} {E : Value -> Shared -> Prop}
end
section
variable {X : Cx} {o i e value : Expr} {pos pos' tpos : Pos} {td ty tv : TE}
end
section
variable {X : Cx} {pos : Pos}
end
structure M1 (X : Cx) (o : Expr) (m : Str) (apos : Pos) (e : Expr) (cpos : Pos) : Prop where
 base : attributeBase o m X.env (eval o X.env) = eval o X.env
 few : ((backTo cpos (starEach [e] X.env)).all (fun x => !x.1) && (backToKw cpos (keywordEach [] X.env)).all (fun x => x.1.isSome)
  && decide (([e] : List Expr).length + ([] : List Keyword).length + (if ([] : List Keyword).isEmpty then 0 else 1) < 30)) = true
 line : (apos.endLine == cpos.line) = true
 trees : backTo cpos (starEach [e] X.env) = [(false, eval e X.env)]
structure M2 (X : Cx) (o : Expr) (m : Str) (apos : Pos) (e f : Expr) (cpos : Pos) : Prop where
 base : attributeBase o m X.env (eval o X.env) = eval o X.env
 few : ((backTo cpos (starEach [e, f] X.env)).all (fun x => !x.1) && (backToKw cpos (keywordEach [] X.env)).all (fun x => x.1.isSome)
  && decide (([e, f] : List Expr).length + ([] : List Keyword).length + (if ([] : List Keyword).isEmpty then 0 else 1) < 30)) = true
 line : (apos.endLine == cpos.line) = true
 trees : backTo cpos (starEach [e, f] X.env) = [(false, eval e X.env), (false, eval f X.env)]
section
variable {X : Cx} {pins : List (Addr × Obj)} {σ : St} {H : Hp} {s : Shared} {a : Addr} {y d : V} {u r : Value} {o : Option V} {A : Around} {E : Value -> Shared -> Prop}
end
section
variable {X : Cx} {o e f : Expr} {apos cpos : Pos} {td ty tx : TE}
end
section
variable {X : Cx} {pins : List (Addr × Obj)} {σ : St} {H : Hp} {s : Shared} {a : Addr} {kvs : List (Key × V)} {A : Around} {E : Value -> Shared -> Prop}
end
section
variable {X : Cx} {pins : List (Addr × Obj)} {σ : St} {H : Hp} {s : Shared} {a : Addr} {y : V} {u : Value} {A : Around} {E : Value -> Shared -> Prop}
end
end L2
namespace L2
open PySem PySem.Spec PyProof.Rows
section
variable {κ : Type} [DecidableEq κ]
end
end L2
set_option Elab.async false
set_option linter.all false
set_option maxRecDepth 100000
set_option maxHeartbeats 4000000
namespace L2
open PySem PySem.Spec PyProof.Rows
def JH (N : List Str) (ts : List Nat) (sc : Scope) (kind : Str -> Option NameKind) : Bool :=
 sc.kind == .function && sc.names.all (fun y => y.2 != .cell && (y.2 != .local || sc.names.lookup y.1 == some .local) && (y.2 != .free || kind y.1 == some .cell || kind y.1 == some .free)) &&
  N.zipIdx.all (fun p => sc.names.lookup p.1 != some .local || ts.contains p.2)
def qg (cells : List (Str × Addr)) : List (Str × NameKind) -> List (Str × Addr) -> List (Str × Addr)
 | [], acc => acc
 | (n, k) :: r, acc => qg cells r (if k = .free then (n, (cells.lookup n).getD 0) :: acc else acc)
theorem yj {env : Env} : ∀ (names : List (Str × NameKind)) (acc : List (Str × Addr)), (∀ y ∈ names, y.2 = .free -> ∃ c, env.cells.lookup y.1 = some c) ->
  (forIn names acc fun (x : Str × NameKind) (cs : List (Str × Addr)) => (match x with | (name, kind) => if (kind == NameKind.free) = true then (do let c <- cellOf env name; pure (ForInStep.yield ((name, c) :: cs))) else pure (ForInStep.yield cs) : Sem (ForInStep (List (Str × Addr))))) = pure (qg env.cells names acc)
 | [], acc, _ => rfl
 | (n, k) :: r, acc, h => by
  rw [List.forIn_cons]
  by_cases hk : k = .free
  ·subst hk
   obtain ⟨c, hc⟩ := h (n, .free) List.mem_cons_self rfl
   have e1 : cellOf env n = pure c := by unfold cellOf; rw [hc]
   simp only [beq_self_eq_true, if_true, e1, pure_bind]
   rw [yj r _ fun y hy => h y (List.mem_cons_of_mem _ hy)]
   show _ = pure (qg env.cells r (if NameKind.free = .free then _ else _))
   rw [if_pos rfl, hc]; rfl
  ·have hb : (k == NameKind.free) = false := by simpa using hk
   simp only [hb, Bool.false_eq_true, if_false, pure_bind]
   rw [yj r _ fun y hy => h y (List.mem_cons_of_mem _ hy)]
   show _ = pure (qg env.cells r (if k = .free then _ else _))
   rw [if_neg hk]
theorem ka {cells : List (Str × Addr)} : ∀ (names : List (Str × NameKind)) (acc : List (Str × Addr)), (∀ y ∈ names, y.2 = .free -> ∃ c, cells.lookup y.1 = some c) -> (∀ x c, acc.lookup x = some c -> cells.lookup x = some c) ->
    (∀ x c, (qg cells names acc).lookup x = some c -> cells.lookup x = some c) /\ (∀ x c, acc.lookup x = some c -> ∃ c', (qg cells names acc).lookup x = some c') /\ ∀ y ∈ names, y.2 = .free -> ∃ c, (qg cells names acc).lookup y.1 = some c
  | [], acc, _, h2 => ⟨h2, fun x c e => ⟨c, e⟩, fun y hy => nomatch hy⟩
  | (n, k) :: r, acc, h1, h2 => by
    by_cases hk : k = .free
    · subst hk
      obtain ⟨c, hc⟩ := h1 (n, .free) List.mem_cons_self rfl
      have hc : cells.lookup n = some c := hc
      have e : qg cells ((n, .free) :: r) acc = qg cells r ((n, c) :: acc) := by
        show qg cells r (if NameKind.free = .free then _ else _) = _
        rw [if_pos rfl, hc]; rfl
      rw [e]
      obtain ⟨q1, q2, q3⟩ := ka (cells := cells) r ((n, c) :: acc) (fun y hy => h1 y (List.mem_cons_of_mem _ hy)) (fun x c' e' => by
        rw [List.lookup_cons] at e'
        cases hx : x == n with
        | true => rw [hx] at e'; have : x = n := by simpa using hx
                  subst this; cases e'; exact hc
        | false => rw [hx] at e'; exact h2 x c' e')
      refine ⟨q1, fun x c' e' => ?_, fun y hy hf => ?_⟩
      · cases hx : x == n with
        | true => exact q2 x c (by rw [List.lookup_cons, hx])
        | false => exact q2 x c' (by rw [List.lookup_cons, hx]; exact e')
      · rcases List.mem_cons.mp hy with rfl | hy
        · exact q2 n c (by rw [List.lookup_cons, beq_self_eq_true])
        · exact q3 y hy hf
    · have e : qg cells ((n, k) :: r) acc = qg cells r acc := by
        show qg cells r (if k = .free then _ else _) = _
        rw [if_neg hk]
      rw [e]
      obtain ⟨q1, q2, q3⟩ := ka (cells := cells) r acc (fun y hy => h1 y (List.mem_cons_of_mem _ hy)) h2
      refine ⟨q1, q2, fun y hy hf => ?_⟩
      rcases List.mem_cons.mp hy with rfl | hy
      · exact absurd hf hk
      · exact q3 y hy hf
theorem vp {scope : Scope} {env : Env} (h : ∀ y ∈ scope.names, y.2 = .free -> ∃ c, env.cells.lookup y.1 = some c) :
  ∃ cl, closureFor scope env = pure cl /\ (∀ x c, cl.lookup x = some c -> env.cells.lookup x = some c) /\ ∀ y ∈ scope.names, y.2 = .free -> ∃ c, cl.lookup y.1 = some c := by
 obtain ⟨q1, _, q3⟩ := ka (cells := env.cells) scope.names [] h (fun x c e => nomatch e)
 refine ⟨qg env.cells scope.names [], ?_, q1, q3⟩
 unfold closureFor
 have := yj (env := env) scope.names [] h
 first
  | exact this
  | (simp only [bind_pure]; exact this)
  | (refine Eq.trans ?_ this; simp)
theorem jV {env : Env} : ∀ {names : List (Str × NameKind)} {x : Str}, (names.map fun (n, k) => if (k == NameKind.free && env.scope.kind == .function && env.kindOf n == some .cell) then (n, NameKind.cell) else (n, k)).lookup x =
  (names.lookup x).map fun k => if (k == NameKind.free && env.scope.kind == .function && env.kindOf x == some .cell) then NameKind.cell else k
 | [], _ => rfl
 | (n, k) :: r, x => by
  have ih := @jV env r x
  rw [List.map_cons]
  cases hx : x == n with
  | true =>
   have e : x = n := by simpa using hx
   subst e
   rw [List.lookup_cons (as := r), beq_self_eq_true]
   show List.lookup x ((if (k == NameKind.free && env.scope.kind == .function && env.kindOf x == some .cell) = true then (x, NameKind.cell) else (x, k)) :: _) = some _
   by_cases hc : (k == NameKind.free && env.scope.kind == .function && env.kindOf x == some .cell) = true
   ·rw [if_pos hc, List.lookup_cons, beq_self_eq_true]; dsimp only; rw [if_pos hc]
   ·rw [if_neg hc, List.lookup_cons, beq_self_eq_true]; dsimp only; rw [if_neg hc]
  | false =>
   rw [List.lookup_cons (as := r), hx]
   show List.lookup x ((if (k == NameKind.free && env.scope.kind == .function && env.kindOf n == some .cell) = true then (n, NameKind.cell) else (n, k)) :: _) = _
   by_cases hc : (k == NameKind.free && env.scope.kind == .function && env.kindOf n == some .cell) = true
   ·rw [if_pos hc, List.lookup_cons, hx]; exact ih
   ·rw [if_neg hc, List.lookup_cons, hx]; exact ih
abbrev cxC (X : Cx) (scope : Scope) (cl : List (Str × Addr)) (s : Shared) (H : Hp) (fp : List Addr) : Cx :=
 { X with s₀ := s, H₀ := H, env := compEnvC scope cl s.heap.objs.size X.env, outer := X.stack, ex := fp, fn := fun _ => false, pn := [], xe := fun _ _ => False }
def clr : List Nat -> St -> St
 | [], σ => σ
 | j :: r, σ => clr r (σ.set j none)
theorem wg : ∀ (ts : List Nat) (σ : St), (clr ts σ).length = σ.length
 | [], _ => rfl
 | j :: r, σ => by show (clr r (σ.set j none)).length = _; rw [wg r]; simp
theorem yX : ∀ (ts : List Nat) (σ : St) (i : Nat) (v : V), (clr ts σ)[i]? = some (some v) -> i ∉ ts /\ σ[i]? = some (some v)
 | [], _, _, _, h => ⟨by simp, h⟩
 | j :: r, σ, i, v, h => by
  obtain ⟨h1, h2⟩ := yX r (σ.set j none) i v h
  by_cases e : j = i
  ·subst e
   rw [List.getElem?_set] at h2
   simp at h2
  ·rw [List.getElem?_set_ne e] at h2
   exact ⟨by simp [h1, Ne.symm e], h2⟩
structure ScF (X : Cx) (ts : List Nat) (scope : Scope) : Prop where
 kind : scope.kind = .function
 cell : ∀ y ∈ scope.names, y.2 ≠ .cell
 loc : ∀ y ∈ scope.names, y.2 = .local -> scope.names.lookup y.1 = some .local
 free : ∀ y ∈ scope.names, y.2 = .free -> X.env.kindOf y.1 = some .cell \/ X.env.kindOf y.1 = some .free
 ts : ∀ (i : Nat) x, X.N[i]? = some x -> scope.names.lookup x = some .local -> i ∈ ts
theorem Y0 {X : Cx} {ts : List Nat} {scope : Scope} (h : JH X.N ts scope X.env.kindOf = true) : ScF X ts scope := by
  unfold JH at h
  simp only [Bool.and_eq_true, List.all_eq_true, bne_iff_ne, ne_eq, Bool.or_eq_true, beq_iff_eq] at h
  obtain ⟨⟨h1, h2⟩, h3⟩ := h
  refine ⟨h1, fun y hy => (h2 y hy).1.1, fun y hy e => ?_, fun y hy e => ?_, fun i x e1 e2 => ?_⟩
  · rcases (h2 y hy).1.2 with z | z
    · exact absurd e z
    · exact z
  · rcases (h2 y hy).2 with (z | z) | z
    · exact absurd e z
    · exact .inl z
    · exact .inr z
  · have hm : (x, i) ∈ X.N.zipIdx := by
      rw [List.mem_zipIdx_iff_getElem?]; exact e1
    rcases h3 _ hm with z | z
    · exact absurd e2 z
    · simpa using z
section
variable {X : Cx} {ts : List Nat} {scope : Scope} {pins : List (Addr × Obj)} {σ : St} {H : Hp} {s : Shared} {fp : List Addr}
theorem vt (I : Inv X pins σ H s) (S : ScF X ts scope) (hf : ∀ b ∈ fp, kl X pins H b) (hfl : ∀ b ∈ fp, b < s.heap.objs.size) {cl : List (Str × Addr)} (c1 : ∀ x c, cl.lookup x = some c -> X.env.cells.lookup x = some c)
  (c2 : ∀ y ∈ scope.names, y.2 = .free -> ∃ c, cl.lookup y.1 = some c) {h1 : Heap} {t1 : Nat} (hns : h1.Ns s.heap.objs.size (fun x => ([] : List (Str × Value)).reverse.lookup x))
  (hk : ∀ b o, s.heap.get? b = some o -> h1.get? b = some o) : Inv (cxC X scope cl s H fp) [] (clr ts σ) H { s with heap := h1, toks := t1 } := by
 have hlk : ∀ x, (relabel scope X.env).names.lookup x = (scope.names.lookup x).map fun k => if (k == NameKind.free && X.env.scope.kind == .function && X.env.kindOf x == some .cell) then NameKind.cell else k := fun x => jV
 have cfree : ∀ x, ((relabel scope X.env).names.lookup x = some .cell \/ (relabel scope X.env).names.lookup x = some .free) -> (x, NameKind.free) ∈ scope.names := fun x hx => by
  rw [hlk] at hx
  cases e : scope.names.lookup x with
  | none => rw [e] at hx; rcases hx with hx | hx <;> cases hx
  | some k =>
   have hm := mem_of_lookup_some e
   cases k with
   | free => exact hm
   | cell => exact absurd rfl (S.cell _ hm)
   | «local» => rw [e] at hx; rcases hx with hx | hx <;> cases hx
   | globalExplicit => rw [e] at hx; rcases hx with hx | hx <;> cases hx
   | globalImplicit => rw [e] at hx; rcases hx with hx | hx <;> cases hx
 have ccell : ∀ x c, cl.lookup x = some c -> ∃ v, s.heap.IsCell c v := fun x c e => I.cell x c (c1 x c e)
 have fpne : ∀ b ∈ fp, b ∉ frs X.stack := fun b hb z => by
  obtain ⟨_, f1, f2, _⟩ := hf b hb
  rcases List.mem_cons.mp (I.stkSub b z) with e | e
  ·exact f1 e
  ·exact f2 e
 refine ⟨⟨I.ok.mod, S.kind, I.ok.glob, I.ok.blt, Nat.le_refl _, fun x y c e1 e2 => I.ok.inj x y c (c1 x c e1) (c1 y c e2), fun x hx => c2 (x, .free) (cfree x hx) rfl, (fun x c hx => nomatch hx), I.ok.hd, I.ok.frames, .inl rfl, fun b hb => ⟨Nat.ne_of_lt (hfl b hb), fun x c e => (hf b hb).2.2.2.2.1 x c (c1 x c e)⟩,
  I.bs, Nat.le_trans I.ok.bsz I.sz, fun b o e hb => ?_, fpne, I.stack, I.stkFree⟩, rfl, I.bare, Un.kept hk, ⟨_, hns, fun i x v e1 e2 e3 => ?_⟩, fun x c e => ?_, I.hok.fresh (Nat.le_refl _), fun x c e => I.freeC x c (c1 x c e), fun p hp => absurd hp (by simp), I.hok.kept hk, by rw [wg]; exact I.len⟩
 ·rcases (hf b hb).2.2.2.1 with z | z
  ·exact I.ok.noex b o e z
  ·exact absurd (Nat.lt_of_lt_of_le (Heap.lt_size e) (Nat.le_trans I.ok.bsz z)) (Nat.lt_irrefl _)
 ·obtain ⟨nt, e2⟩ := yX ts σ i v e2
  have e3' : (relabel scope X.env).names.lookup x = some .local \/ (relabel scope X.env).names.lookup x = some .cell \/ (relabel scope X.env).names.lookup x = some .free := e3
  rcases e3' with z | z
  ·rw [hlk] at z
   cases e : scope.names.lookup x with
   | none => rw [e] at z; cases z
   | some k =>
    rw [e] at z
    have z' : (if (k == NameKind.free && X.env.scope.kind == .function && X.env.kindOf x == some .cell) = true then NameKind.cell else k) = .local := Option.some.inj z
    split at z'
    ·cases z'
    ·subst z'
     exact absurd (S.ts i x e1 e) nt
  ·have hm := cfree x z
   obtain ⟨c, hc⟩ := c2 _ hm rfl
   obtain ⟨m, hn, hl⟩ := I.loc
   have vis : Vis X.env.scope x := by
    rcases S.free _ hm rfl with q | q
    ·exact .inr (.inl q)
    ·exact .inr (.inr q)
   obtain ⟨u, r, l⟩ := hl i x v e1 e2 vis
   refine ⟨u, r, .inr ⟨z, c, hc, ?_⟩⟩
   rcases l with ⟨q, _⟩ | ⟨_, c', hc', hcell⟩
   ·rcases S.free _ hm rfl with q' | q'
    ·rw [q'] at q; cases q
    ·rw [q'] at q; cases q
   ·rw [c1 x c hc] at hc'
    cases hc'
    obtain ⟨o, ho, hd⟩ := hcell
    exact ⟨o, hk _ _ ho, hd⟩
 ·obtain ⟨v, o, ho, hd⟩ := ccell x c e
  exact ⟨v, o, hk _ _ ho, hd⟩
end
section
variable {prog : Program} {w : World} {A : Around} {R : Result -> Shared -> Prop} {s : Shared}
theorem jk {elt target iter : Expr} {ifs : List Expr} {scope : Scope} {pos : Pos} {it acc : Value} {env : Env} (I : Nat -> Shared -> Prop)
    (turn : ∀ n s, I n s -> wpAny (model prog w) A (pyNext it) (fun r s₁ => match r with
      | none => R (.ok .next) s₁
      | some v => wpAny (model prog w) A (letOwnedTupleGo target it v) (fun _ s₀ => wpAny (model prog w) A (assign target env v) (fun _ s₂ =>
          wpAny (model prog w) A (forIn ifs true fun c r => if r = true then do let ok <- isTrue c env (eval c env); pure (ForInStep.yield ok) else pure (ForInStep.yield r)) (fun ok s₃ =>
            if ok = true then wpAny (model prog w) A (eval elt env) (fun x s₄ =>
              wpAny (model prog w) A (call (.builtin "list.append") [acc, x]) (fun _ s₅ => ∃ m, m < n /\ I m s₅) (fun _ _ => False) s₄) (fun _ _ => False) s₃
            else ∃ m, m < n /\ I m s₃) (fun _ _ => False) s₂) (fun _ _ => False) s₀) (fun _ _ => False) s₁) (fun _ _ => False) s)
    (n : Nat) (h : I n s) :
    codeAny (model prog w) A (.compLoop (.ListComp elt [⟨target, iter, ifs, 0⟩] scope pos) 0 it acc env) R s := by
  refine codeAny_loop rfl I (fun n s hI => ?_) n h
  show wpAny _ A ((compTurn (.ListComp elt [⟨target, iter, ifs, 0⟩] scope pos) 0 it acc env).onRaise (fun x => do noteFrame x env; theTreesLotGoes x)) _ _ s
  refine wpAny_noted ?_
  rw [compTurn_list]
  refine wpAny_bind (wpAny_standAt (wpAny_bind (wpAny_mono (turn n s hI) (fun r s₁ h₁ => ?_) fun _ _ h' => h'.elim)))
  cases r with
  | none => exact wpAny_pure h₁
  | some v =>
    refine wpAny_bind (wpAny_mono h₁ (fun _ s₀ h₀ => ?_) fun _ _ h' => h'.elim)
    refine wpAny_bind (wpAny_mono h₀ (fun _ s₂ h₂ => wpAny_bind (wpAny_mono h₂ (fun ok s₃ h₃ => ?_) fun _ _ h' => h'.elim)) fun _ _ h' => h'.elim)
    cases ok with
    | false => exact wpAny_pure ⟨rfl, h₃⟩
    | true =>
      exact wpAny_bind (wpAny_bind (wpAny_mono h₃ (fun x s₄ h₄ => wpAny_bind (wpAny_mono h₄ (fun _ s₅ h₅ => wpAny_pure (wpAny_pure ⟨rfl, h₅⟩)) fun _ _ h' => h'.elim)) fun _ _ h' => h'.elim))
end
def Qi : TT := fun _ H Q => Q true H
def PIf (X : Cx) (ifs : List Expr) (t : TT) : Prop :=
 ∀ (pins : List (Addr × Obj)) (s : Shared) (σ : St) (H : Hp) (Q : Bool -> Hp -> Prop), Inv X pins σ H s -> t σ H Q ->
  wpAny (model X.prog X.w) X.A (forIn ifs true fun c r => if r = true then do let ok <- isTrue c X.env (eval c X.env); pure (ForInStep.yield ok) else pure (ForInStep.yield r)) (TP X pins σ Q) X.xe s
theorem ky {X : Cx} : PIf X [] Qi := fun _ _ _ H _ I h => wpAny_tests_nil ⟨H, I, h⟩
theorem x0 {X : Cx} {c : Expr} {t : TT} (h : PT X c t) : PIf X [c] t := fun pins s σ H Q I hq => wpAny_tests_one (h pins s σ H Q I hq)
def vd (ts : List Nat) (wi : TI) (g : TG) (tt : TT) (te : TE) : TE := fun σ H Q => wi σ H fun J H1 => ∀ D, H1 D = none -> ∃ W : Nat -> Nat -> St -> Hp -> Prop, (∃ m, W 0 m (clr ts σ) (upd H1 D (.lst []))) /\ ∀ i m τ H2, W i m τ H2 ->
 (J.stop i H2 /\ Q (.ref D) H2) \/ (J.go i H2 /\ ∃ N : St -> Hp -> Prop, (∀ τ' H', N τ' H' -> ∃ m', m' < m /\ W (i + 1) m' τ' H') /\ ∀ x H', J.yld i H2 x H' -> g x τ H' fun τ2 H3 => tt τ2 H3 fun b H4 =>
  if b = true then te τ2 H4 fun v H5 => ∃ ys, H5 D = some (.lst ys) /\ ys.length < sizeLine /\ N τ2 (upd H5 D (.lst (ys ++ [v]))) else N τ2 H4)
section
variable {X : Cx} {ts : List Nat} {scope : Scope} {tg iter elt : Expr} {ifs : List Expr} {wi : TI} {g : TG} {tt : TT} {te : TE} {pos : Pos}
theorem vf (hc : X.calm = true) (hsc : JH X.N ts scope X.env.kindOf = true) (hi : PI X tg iter wi) (hg : ∀ cl s H fp, PG (cxC X scope cl s H fp) tg g) (ht : ∀ cl s H fp, PIf (cxC X scope cl s H fp) ifs tt) (he : ∀ cl s H fp, PE (cxC X scope cl s H fp) elt te)
  {pins : List (Addr × Obj)} {s : Shared} {σ : St} {H : Hp} {Q : VK} (I : Inv X pins σ H s) (h : vd ts wi g tt te σ H Q) {use : Option (Value -> Sem Unit)} {Q' : Value -> Shared -> Prop}
  (fin : ∀ (D C : Addr) (H' : Hp) (s' : Shared), Inv X pins σ H' s' -> (∃ m, s'.heap.Ns C m) -> H' C = none -> C ≠ X.env.locals -> (∀ x c, X.env.cells.lookup x = some c -> c ≠ C) -> X.s₀.heap.objs.size <= C -> (∀ p ∈ X.pn ++ pins, p.1 ≠ C) -> C ∉ X.fs -> Q (.ref D) H' ->
   compPost (model X.prog X.w) X.A X.xe use Q' (.ref D) C (.ok .next) s')
  (hs : ∀ x, foldedSetIterable iter X.env x = pure x) :
  wpAny (model X.prog X.w) X.A (comprehension (.ListComp elt [⟨tg, iter, ifs, 0⟩] scope pos) scope X.env (firstIterPos [⟨tg, iter, ifs, 0⟩] pos) (newList []) false (eval iter X.env) use) Q' X.xe s := by
 have S := Y0 hsc
 obtain ⟨cl, hcl, c1, c2⟩ := vp (scope := scope) (env := X.env) fun y hy e => I.ok.has y.1 (S.free y hy e)
 refine wpAny_comprehension_free (use := use) rfl hs hcl S.kind S.loc ?_
 refine wpAny_mono (hi pins s σ H _ I h) (fun v s1 h1 => wpAny_mono h1 (fun itv s2 h2 => ?_) fun _ _ e => e) fun _ _ e => e
 obtain ⟨it, fp, tn, J, H2, e, I2, T, st2, f2, q2⟩ := h2
 subst e
 have hD : H2 s2.heap.objs.size = none := I2.hok.fresh (Nat.le_refl _)
 obtain ⟨W, ⟨m0, w0⟩, turn⟩ := q2 _ hD
 refine wpAny_newObj_type (wpAny_newFunctionEnv S.cell (by intro y hy; simp at hy) (fun h₁ hns₁ hsb₁ => ?_) S.kind)
 dsimp only at hns₁ hsb₁ ⊢
 generalize hh3 : s2.heap.push { cls := .type "list", dict := none, data := .seq ([] : List Value).toArray } = g3 at hns₁ hsb₁ ⊢
 have I3 : Inv X pins σ (upd H2 s2.heap.objs.size (.lst [])) { s2 with heap := g3 } := by
  rw [<- hh3]
  exact I2.laid (t' := s2.toks) (fun b u e => Heap.get?_push_of_some _ e) (Nat.le_refl _) ⟨Nat.zero_le _, [], _, .nil, Heap.get?_push_size _ rfl⟩
 have st3 : tn 0 g3 := T.keep _ _ _ st2 fun b _ o e => by rw [<- hh3]; exact Heap.get?_push_of_some _ e
 have lt2 : ∀ b ∈ fp, b < s2.heap.objs.size := fun b hb => by obtain ⟨o, e, _⟩ := T.obj _ _ st2 b hb; exact Heap.lt_size e
 have hsz3 : g3.objs.size = s2.heap.objs.size + 1 := by rw [<- hh3, Heap.size_push]
 have f3 : ∀ b ∈ fp, kl X pins (upd H2 s2.heap.objs.size (.lst [])) b := fun b hb => ⟨by rw [zh (Nat.ne_of_lt (lt2 b hb))]; exact (f2 b hb).1, (f2 b hb).2⟩
 have lt3 : ∀ b ∈ fp, b < g3.objs.size := fun b hb => by rw [hsz3]; exact Nat.lt_succ_of_lt (lt2 b hb)
 have old : ∀ b o, g3.get? b = some o -> h₁.get? b = some o := fun b o e => hsb₁.extBut b o (Nat.ne_of_lt (Heap.lt_size e)) (Heap.get?_push_of_some _ e)
 have hns : h₁.Ns g3.objs.size (fun x => ([] : List (Str × Value)).reverse.lookup x) := hns₁
 have I4 : ∀ t, Inv (cxC X scope cl { s2 with heap := g3 } (upd H2 s2.heap.objs.size (.lst [])) fp) [] (clr ts σ) (upd H2 s2.heap.objs.size (.lst [])) { s2 with heap := h₁, toks := t } := fun t => vt I3 S f3 lt3 c1 c2 hns old
 have fpne : ∀ b ∈ fp, b ∉ frs X.stack := fun b hb z => by
  obtain ⟨_, f1, f2, _⟩ := f3 b hb
  rcases List.mem_cons.mp (I3.stkSub b z) with e | e
  ·exact f1 e
  ·exact f2 e
 have stat : ∀ {H' : Hp}, (∀ b ∈ fp, H' b = none) -> ∀ b ∈ fp, kl (cxC X scope cl { s2 with heap := g3 } (upd H2 s2.heap.objs.size (.lst [])) fp) [] H' b := fun hn b hb =>
  ⟨hn b hb, Nat.ne_of_lt (lt3 b hb), fpne b hb, .inl hb, fun x c e => (f2 b hb).2.2.2.2.1 x c (c1 x c e), fun p hp => absurd hp (by simp)⟩
 have loop : ∀ t, codeAny (model X.prog X.w) X.A (.compLoop (.ListComp elt [⟨tg, iter, ifs, 0⟩] scope pos) 0 (.ref it) (.ref s2.heap.objs.size) (compEnvC scope cl g3.objs.size X.env))
   (compPost (model X.prog X.w) X.A X.xe use Q' (.ref s2.heap.objs.size) g3.objs.size) { s2 with heap := h₁, toks := t } := by
  intro t
  refine jk (fun n s' => ∃ i τ H', Inv (cxC X scope cl { s2 with heap := g3 } (upd H2 s2.heap.objs.size (.lst [])) fp) [] τ H' s' /\ tn i s'.heap /\ (∀ b ∈ fp, H' b = none) /\ W i n τ H') ?_ m0
   ⟨0, clr ts σ, _, I4 t, T.keep _ _ _ st3 fun b _ o e => old b o e, fun b hb => (f3 b hb).1, w0⟩
  rintro n s5 ⟨i, τ, H5, I5, st5, fr5, w5⟩
  rcases turn i n τ H5 w5 with ⟨stop, qn⟩ | ⟨go, N, hN, step⟩
  ·refine thn (T.done (cxC X scope cl { s2 with heap := g3 } (upd H2 s2.heap.objs.size (.lst [])) fp) rfl rfl rfl hc i [] s5 τ H5 _ I5 (stat fr5) st5 stop) fun r s6 ⟨hr, I6⟩ => ?_
   subst hr
   have base : Un (frs X.stack) fp (upd H2 s2.heap.objs.size (.lst [])) H5 g3 s6.heap := I6.base
   have J6 : Inv X pins σ H5 s6 := I3.call' (ch := fp) I6.os base I6.hok I6.bare fun b hb => ⟨(f3 b hb).2.2.2.1, (f3 b hb).2.1, (f3 b hb).2.2.2.2.1, (f3 b hb).2.2.2.2.2⟩
   obtain ⟨m6, n6, _⟩ := I6.loc
   have hC : g3.get? g3.objs.size = none := Heap.get?_none_of_le (Nat.le_refl _)
   refine fin _ g3.objs.size H5 s6 J6 ⟨m6, n6⟩ I6.free (Nat.ne_of_gt I3.lt) (fun x c e z => ?_) I3.sz (fun p hp z => ?_) (I3.nofs (Nat.le_refl _)) qn
   ·obtain ⟨v, q⟩ := I3.cell x c e
    exact absurd q.lt (by rw [z]; exact Nat.lt_irrefl _)
   ·exact absurd (Heap.lt_size (I3.pin p hp).1) (by rw [z]; exact Nat.lt_irrefl _)
  ·refine thn (T.item (cxC X scope cl { s2 with heap := g3 } (upd H2 s2.heap.objs.size (.lst [])) fp) rfl rfl rfl hc i [] s5 τ H5 _ I5 (stat fr5) st5 go) fun r s6 ⟨u, hr, h6⟩ => ?_
   subst hr
   refine thn h6 fun _ s7 ⟨x, H7, I7, r7, y7, st7, fr7⟩ => ?_
   have I7' := I7.pinned (stat fr7) (T.obj _ _ st7)
   refine thn (hg cl { s2 with heap := g3 } _ fp _ s7 τ H7 x u _ I7' r7 (step x H7 y7)) fun _ s8 ⟨τ8, H8, I8, q8⟩ => ?_
   refine thn (ht cl { s2 with heap := g3 } _ fp _ s8 τ8 H8 _ I8 q8) fun b s9 ⟨H9, I9, q9⟩ => ?_
   have again : ∀ {τ9 : St} {H9 : Hp} {s9 : Shared}, Inv (cxC X scope cl { s2 with heap := g3 } (upd H2 s2.heap.objs.size (.lst [])) fp) ([] ++ xg fp s7.heap) τ9 H9 s9 -> N τ9 H9 ->
     ∃ m, m < n /\ ∃ i τ H', Inv (cxC X scope cl { s2 with heap := g3 } (upd H2 s2.heap.objs.size (.lst [])) fp) [] τ H' s9 /\ tn i s9.heap /\ (∀ b ∈ fp, H' b = none) /\ W i m τ H' := fun {τ9 H9 s9} I9 n9 => by
    obtain ⟨m', hm, w9⟩ := hN _ _ n9
    refine ⟨m', hm, i + 1, τ9, H9, I9.unpinned, T.keep _ _ _ st7 fun b hb o e => (I9.pin (b, o) (List.mem_append_right _ (List.mem_append_right _ (qN hb e)))).1, fun b hb => ?_, w9⟩
    obtain ⟨o, e, d⟩ := T.obj _ _ st7 b hb
    exact (I9.pin (b, o) (List.mem_append_right _ (List.mem_append_right _ (qN hb e)))).2.1
   cases b with
   | false =>
    rw [if_neg Bool.false_ne_true] at q9 ⊢
    exact again I9 q9
   | true =>
    rw [if_pos rfl] at q9 ⊢
    refine thn (he cl { s2 with heap := g3 } _ fp _ s9 τ8 H9 _ I9 q9) fun y s10 ⟨v, H10, I10, r10, ys, hys, hlen, n10⟩ => ?_
    exact thn (xM (X := cxC X scope cl { s2 with heap := g3 } (upd H2 s2.heap.objs.size (.lst [])) fp) _ s10 τ8 H10 (.ref s2.heap.objs.size) [v] (.ref s2.heap.objs.size) [y] (fun _ H11 => N τ8 H11) I10 rfl (.cons r10 .nil) ⟨_, ys, v, rfl, rfl, hys, hlen, n10⟩) fun _ s11 ⟨_, H11, I11, _, n11⟩ => again I11 n11
 have LW := loop (s2.toks + ([] : List (Str × Value)).length)
 exact codeAny_compStart_list LW (T.self _ 0 _ _ _ (T.keep _ _ _ st3 fun b _ o e => old b o e) LW)
end
end L2
set_option Elab.async false
set_option linter.all false
set_option maxRecDepth 100000
set_option maxHeartbeats 4000000
namespace L2
open PySem PySem.Spec PyProof.Rows
section
variable {X : Cx} {ts : List Nat} {scope : Scope} {tg iter elt : Expr} {ifs : List Expr} {wi : TI} {g : TG} {tt : TT} {te : TE} {pos : Pos}
theorem jA (hc : X.calm = true) (hsc : JH X.N ts scope X.env.kindOf = true) (hi : PI X tg iter wi) (hg : ∀ cl s H fp, PG (cxC X scope cl s H fp) tg g) (ht : ∀ cl s H fp, PIf (cxC X scope cl s H fp) ifs tt) (he : ∀ cl s H fp, PE (cxC X scope cl s H fp) elt te)
  (hs : ∀ x, foldedSetIterable iter X.env x = pure x := by intro _; rfl) : PE X (.ListComp elt [⟨tg, iter, ifs, 0⟩] scope pos) (vd ts wi g tt te) := by
 intro pins s σ H Q I h
 rw [eval_ListComp]
 refine vf hc hsc hi hg ht he I h (use := none) (fun D C H' s' I' ⟨m, hn⟩ hC hL hce hsz hp hfs q => ⟨m, hn, fun h' hs' => ?_⟩) hs
 exact ⟨.ref D, H', I'.turned (t' := s'.toks) (it := C) (fun b o hb e => (hs'.2 b hb).trans e) hC hL (.inr hsz) hce hp, rfl, q⟩
theorem wc {j : Nat} {y : Str} {py spos : Pos} (hc : X.calm = true) (hN : X.N.Nodup) (hj : X.N[j]? = some y) (hy : Loc X.env.scope y) (hsc : JH X.N ts scope X.env.kindOf = true) (hi : PI X tg iter wi) (hg : ∀ cl s H fp, PG (cxC X scope cl s H fp) tg g) (ht : ∀ cl s H fp, PIf (cxC X scope cl s H fp) ifs tt) (he : ∀ cl s H fp, PE (cxC X scope cl s H fp) elt te)
  (hsw : swapsWith (.ListComp elt [⟨tg, iter, ifs, 0⟩] scope pos) (some (.Name y py)) spos.line X.env = pure true := by rfl)
  (hs : ∀ x, foldedSetIterable iter X.env x = pure x := by intro _; rfl) (hf : X.fn y = true \/ X.env.scope.names.lookup y = some .local := by first | exact .inl rfl | exact .inr rfl | assumption) :
  PS X (.Assign [.Name y py] (.ListComp elt [⟨tg, iter, ifs, 0⟩] scope pos) spos) (ZR (vd ts wi g tt te) (yK j)) := by
 intro pins s σ H D I h
 rw [exec_Assign_Name_used _ _ _ _ hsw]
 refine wpAny_bind (wpAny_standAt (wpAny_bind ?_))
 show wpAny _ _ (do let _ <- comprehension (.ListComp elt [⟨tg, iter, ifs, 0⟩] scope pos) scope X.env _ (newList []) false (eval iter X.env) (some (assign (.Name y py) X.env))) _ _ s
 refine wpAny_bind (wpAny_mono (vf hc hsc hi hg ht he I h (use := some (assign (.Name y py) X.env)) (Q' := fun _ s' => SP X pins D .next s') (fun D' C H' s' I' ⟨m, hn⟩ hC hL hce hsz hp hfs q => ?_) hs) (fun _ s' hq => wpAny_pure (wpAny_pure hq)) fun _ _ e => e)
 show wpAny _ _ (assign (.Name y py) X.env (.ref D')) _ _ _
 refine wpAny_assign_Name (xF (v := .ref D') I' hN hj hy rfl (fun s2 I2 ⟨a, hsb, ha⟩ => ?_) hf)
 have hCa : C ≠ a := by
  rcases ha with rfl | ha
  ·exact hL
  ·exact Ne.symm (hce y a ha)
 refine ⟨m, hn.sameBut hsb hCa, fun h' hs' => ?_⟩
 exact ⟨_, H', I2.turned (t' := s2.toks) (it := C) (fun b o hb e => (hs'.2 b hb).trans e) hC hL (.inr hsz) hce hp, q⟩
end
def Ite (K : PySem.W.Frag) (a : Addr) : It :=
 ⟨fun i H => ∃ xs x, SqL K H a xs /\ xs[i]? = some x, fun i H y H' => ∃ p x, H p = none /\ y = .ref p /\ (∀ xs, SqL K H a xs -> xs[i]? = some x) /\ H' = upd H p (.tup [.int i, x]), fun i H => ∃ xs, SqL K H a xs /\ xs.length <= i⟩
theorem xR {P : Program} {w : World} {K : PySem.W.Frag} {es : List Expr} {kt : Nat} {tp : Pos} (a e it : Addr) (hei : e ≠ it) : vV P w K (.Tuple es kt tp) (Ite K a) [e, it] e (fun i h => (∃ old, IsEnum h e it (i : Nat) old) /\ h.IsListIter it a i) where
 mem := by simp
 obj := fun i h st b hb => by
  obtain ⟨⟨old, he⟩, ⟨o, e1, c, d⟩⟩ := st
  rcases List.mem_cons.mp hb with rfl | hb
  ·exact ⟨_, he, fun v z => by have z' : Data.fields _ = Data.cell v := z; cases z'⟩
  ·have e2 : b = it := by simpa using hb
   subst e2
   exact ⟨o, e1, fun v z => by rw [d] at z; cases z⟩
 keep := fun i h h' st k => by
  obtain ⟨⟨old, he⟩, st⟩ := st
  exact ⟨⟨old, k e (by simp) _ he⟩, st.at fun o e => k it (by simp) o e⟩
 item := by
  intro X hP hw hK hc i pins s σ H E I hf st hg
  subst hP hw hK
  obtain ⟨⟨old, he⟩, st⟩ := st
  obtain ⟨xs, x, hq, hx⟩ := hg
  obtain ⟨its, rv, p, hz⟩ := I.list hq
  obtain ⟨u, hu, ru⟩ := rv.get hx
  have fe := hf e (by simp)
  have fi := hf it (by simp)
  refine wpAny_pyNext_enum_item he st p.isList (x := u) (by simpa using hu) hei fun h1 heo hit1 ht1 hz1 hk1 => ?_
  refine ⟨.ref s.heap.objs.size, rfl, wpAny_letOwnedTupleGo_enum heo fun h2 he2 hs2 => ?_⟩
  replace hs2 : Heap.SameBut e h1 h2 := hs2
  have elt : e < s.heap.objs.size := Heap.lt_size he
  have hfr : H s.heap.objs.size = none := I.hok.fresh (Nat.le_refl _)
  have ht2 : h2.get? s.heap.objs.size = some { cls := .type "tuple", data := .seq #[.int i s.toks, u] } := (hs2.2 _ (Nat.ne_of_gt elt)).trans ht1
  have kk : ∀ b o, b ∉ [e, it] -> s.heap.get? b = some o -> h2.get? b = some o := fun b o hc q => by
   have n1 : b ≠ e := fun z => hc (by simp [z])
   have n2 : b ≠ it := fun z => hc (by simp [z])
   exact (hs2.2 b n1).trans (hk1 b o n1 n2 q)
  have nb : ∀ c v, H c = some v -> c ∉ [e, it] := fun c v z hm => by
   rcases List.mem_cons.mp hm with z' | z'
   ·rw [z', fe.1] at z; cases z
   ·have e2 : c = it := by simpa using z'
    rw [e2, fi.1] at z; cases z
  have I2 : Inv X pins σ (upd H s.heap.objs.size (.tup [.int i, x])) { s with heap := h2, toks := s.toks + 1 } := by
   refine I.step (g' := s.gens) (d' := s.drawn) (ch := [e, it]) (fun b hb => ?_) (fun b o _ _ hc q _ => kk b o hc q) (fun b o _ _ hc q _ => ⟨o.slots, kk b o hc q⟩) (fun b o _ q n => by rw [zh (Nat.ne_of_lt (Heap.lt_size q))]; exact n) (fun b o hc q => ⟨o, kk b o hc q⟩)
    (fun b xs q => by rw [zh (zd q hfr)]; exact q) (fun b o u q => by rw [zh (zd q hfr)]; exact q) (fun b ps q => ⟨#[], by rw [zh (zd q hfr), q]; simp⟩) (fun m hm => ?_) (fun b v q => ?_) I.bare
   ·rcases List.mem_cons.mp hb with z | hb
    ·rw [z]; exact ⟨fe.2.2.2.1, fe.2.1, fe.2.2.2.2.1, fe.2.2.2.2.2⟩
    ·have e2 : b = it := by simpa using hb
     rw [e2]; exact ⟨fi.2.2.2.1, fi.2.1, fi.2.2.2.2.1, fi.2.2.2.2.2⟩
   ·obtain ⟨o, es, ep, ho, r⟩ := hm
    exact ⟨o, es, ep, kk _ o (by simp [Ne.symm fe.2.1, Ne.symm fi.2.1]) ho, r⟩
   ·by_cases hb : b = s.heap.objs.size
    ·subst hb
     rw [zf] at q
     cases q
     exact ⟨by show 2 <= sizeLine; decide, [.int i s.toks, u], .cons ⟨_, rfl⟩ (.cons ru .nil), _, ht2, rfl, _, rfl⟩
    ·rw [zh hb] at q
     refine (I.hok b v q).stay (fun c o hc q' => kk c o ?_ q') (fun c z => by rw [zh (zd z hfr)]; exact z) fun c xs z => by rw [zh (zd z hfr)]; exact z
     rcases hc with z | z
     ·rw [z]; exact nb b v q
     ·exact nb c _ z
  refine ⟨.ref s.heap.objs.size, _, I2, rfl, ⟨s.heap.objs.size, x, hfr, rfl, fun ys hy => by rw [I.list_inj hy hq]; exact hx, rfl⟩, ⟨⟨_, by simpa using he2⟩, hit1.extBut hs2.extBut (Ne.symm hei)⟩, fun b hb => ?_⟩
  have hlt : b < s.heap.objs.size := by
   rcases List.mem_cons.mp hb with rfl | hb
   ·exact elt
   ·have e2 : b = it := by simpa using hb
    subst e2
    obtain ⟨o, e1, _⟩ := st
    exact Heap.lt_size e1
  rw [zh (Nat.ne_of_lt hlt)]
  exact (hf b hb).1
 done := by
  intro X hP hw hK hc i pins s σ H E I hf st hg
  subst hP hw hK
  obtain ⟨⟨old, he⟩, st⟩ := st
  obtain ⟨xs, hq, hx⟩ := hg
  obtain ⟨its, rv, p, hz⟩ := I.list hq
  obtain ⟨f0, f1, f2, f3, f4, f5⟩ := hf it (by simp)
  have hl := rv.length
  exact wpAny_pyNext_enum_end (I.ok.hd hc) he st p.isList (by simp; omega) fun h' eb => ⟨rfl, I.turned (t' := s.toks) (fun b o hb e => eb b o hb e) f0 f1 f3 f4 f5⟩
 self := fun _ _ _ _ _ st h => by
  obtain ⟨⟨old, he⟩, _⟩ := st
  exact wpAny_pyIter_enum he h
end L2
set_option Elab.async false
set_option linter.all false
set_option maxRecDepth 100000
set_option maxHeartbeats 4000000
namespace L2
open PySem PySem.Spec PyProof.Rows
section
variable {X : Cx} {pins : List (Addr × Obj)} {σ : St} {H : Hp} {s : Shared}
theorem Inv.yieldTup {ch : List Addr} {h2 : Heap} {tk : Nat} {T : Addr} {xs : List V} {us : List Value} (I : Inv X pins σ H s) (hf : ∀ b ∈ ch, kl X pins H b) (kk : ∀ b o, b ∉ ch -> s.heap.get? b = some o -> h2.get? b = some o) (hT : s.heap.objs.size <= T)
  (ht2 : h2.get? T = some { cls := .type "tuple", data := .seq us.toArray }) (rv : zq xs us) (hz : xs.length <= sizeLine) : Inv X pins σ (upd H T (.tup xs)) { s with heap := h2, toks := tk } := by
 have hfr : H T = none := I.hok.fresh hT
 have nb : ∀ c v, H c = some v -> c ∉ ch := fun c v z hm => by rw [(hf c hm).1] at z; cases z
 refine I.step (g' := s.gens) (d' := s.drawn) (ch := ch) (fun b hb => ⟨(hf b hb).2.2.2.1, (hf b hb).2.1, (hf b hb).2.2.2.2.1, (hf b hb).2.2.2.2.2⟩) (fun b o _ _ hc q _ => kk b o hc q) (fun b o _ _ hc q _ => ⟨o.slots, kk b o hc q⟩)
  (fun b o _ q n => by rw [zh (Nat.ne_of_lt (Nat.lt_of_lt_of_le (Heap.lt_size q) hT))]; exact n) (fun b o hc q => ⟨o, kk b o hc q⟩)
  (fun b xs q => by rw [zh (zd q hfr)]; exact q) (fun b o u q => by rw [zh (zd q hfr)]; exact q) (fun b ps q => ⟨#[], by rw [zh (zd q hfr), q]; simp⟩) (fun m hm => ?_) (fun b v q => ?_) I.bare
 ·obtain ⟨o, es, ep, ho, r⟩ := hm
  exact ⟨o, es, ep, kk _ o (fun z => (hf _ z).2.1 rfl) ho, r⟩
 ·by_cases hb : b = T
  ·subst hb
   rw [zf] at q
   cases q
   exact ⟨hz, us, rv, _, ht2, rfl, _, rfl⟩
  ·rw [zh hb] at q
   refine (I.hok b v q).stay (fun c o hc q' => kk c o ?_ q') (fun c z => by rw [zh (zd z hfr)]; exact z) fun c xs z => by rw [zh (zd z hfr)]; exact z
   rcases hc with z | z
   ·rw [z]; exact nb b v q
   ·exact nb c _ z
theorem Inv.turnedL {ch : List Addr} {h2 : Heap} {tk : Nat} (I : Inv X pins σ H s) (hf : ∀ b ∈ ch, kl X pins H b) (kk : ∀ b o, b ∉ ch -> s.heap.get? b = some o -> h2.get? b = some o) : Inv X pins σ H { s with heap := h2, toks := tk } := by
 have nb : ∀ c v, H c = some v -> c ∉ ch := fun c v z hm => by rw [(hf c hm).1] at z; cases z
 refine I.step (g' := s.gens) (d' := s.drawn) (ch := ch) (fun b hb => ⟨(hf b hb).2.2.2.1, (hf b hb).2.1, (hf b hb).2.2.2.2.1, (hf b hb).2.2.2.2.2⟩) (fun b o _ _ hc q _ => kk b o hc q) (fun b o _ _ hc q _ => ⟨o.slots, kk b o hc q⟩)
  (fun b o _ q n => n) (fun b o hc q => ⟨o, kk b o hc q⟩) (fun b xs q => q) (fun b o u q => q) (fun b ps q => ⟨#[], by rw [q]; simp⟩) (fun m hm => ?_) (fun b v q => ?_) I.bare
 ·obtain ⟨o, es, ep, ho, r⟩ := hm
  exact ⟨o, es, ep, kk _ o (fun z => (hf _ z).2.1 rfl) ho, r⟩
 ·refine (I.hok b v q).stay (fun c o hc q' => kk c o ?_ q') (fun c z => z) fun c xs z => z
  rcases hc with z | z
  ·rw [z]; exact nb b v q
  ·exact nb c _ z
end
def Itz (K : PySem.W.Frag) (a b : Addr) : It :=
 ⟨fun i H => ∃ xs ys x y, SqL K H a xs /\ SqL K H b ys /\ xs[i]? = some x /\ ys[i]? = some y, fun i H z H' => ∃ p x y, H p = none /\ z = .ref p /\ (∀ xs, SqL K H a xs -> xs[i]? = some x) /\ (∀ ys, SqL K H b ys -> ys[i]? = some y) /\ H' = upd H p (.tup [x, y]),
  fun i H => ∃ xs ys, SqL K H a xs /\ SqL K H b ys /\ (xs.length <= i \/ ys.length <= i)⟩
theorem Jg {P : Program} {w : World} {K : PySem.W.Frag} {es : List Expr} {kt : Nat} {tp : Pos} (l1 l2 z TI TO i1 i2 : Addr) (D : ZipApart z TI TO i1 i2 l1 l2) :
  vV P w K (.Tuple es kt tp) (Itz K l1 l2) [z, TI, TO, i1, i2] z (fun i h => IsZip h z TI TO .none /\ IsPair h TI (.ref i1) (.ref i2) /\ (∃ a b, IsPair h TO a b) /\ h.IsListIter i1 l1 i /\ h.IsListIter i2 l2 i) where
 mem := by simp
 obj := fun i h st b hb => by
  obtain ⟨hz, hTI, ⟨a, c, hTO⟩, ⟨o1, e1, c1, d1⟩, ⟨o2, e2, c2, d2⟩⟩ := st
  simp only [List.mem_cons, List.not_mem_nil, or_false] at hb
  rcases hb with rfl | rfl | rfl | rfl | rfl
  ·exact ⟨_, hz, fun v q => by have q' : Data.fields _ = Data.cell v := q; cases q'⟩
  ·exact ⟨_, hTI, fun v q => by have q' : Data.seq _ _ = Data.cell v := q; cases q'⟩
  ·exact ⟨_, hTO, fun v q => by have q' : Data.seq _ _ = Data.cell v := q; cases q'⟩
  ·exact ⟨o1, e1, fun v q => by rw [d1] at q; cases q⟩
  ·exact ⟨o2, e2, fun v q => by rw [d2] at q; cases q⟩
 keep := fun i h h' st k => by
  obtain ⟨hz, hTI, ⟨a, c, hTO⟩, h1, h2⟩ := st
  exact ⟨k _ (by simp) _ hz, k _ (by simp) _ hTI, ⟨a, c, k _ (by simp) _ hTO⟩, h1.at fun o e => k _ (by simp) o e, h2.at fun o e => k _ (by simp) o e⟩
 item := by
  intro X hP hw hK hc i pins s σ H E I hf st hg
  subst hP hw hK
  obtain ⟨hz, hTI, ⟨a, c, hTO⟩, h1, h2⟩ := st
  obtain ⟨xs, ys, x, y, hq1, hq2, hx, hy⟩ := hg
  obtain ⟨its1, rv1, p1, hz1⟩ := I.list hq1
  obtain ⟨its2, rv2, p2, hz2⟩ := I.list hq2
  obtain ⟨u, hu, ru⟩ := rv1.get hx
  obtain ⟨v, hv, rvv⟩ := rv2.get hy
  refine wpAny_pyNext_zip_item D hz hTI hTO h1 h2 p1.isList p2.isList (x := u) (y := v) (by simpa using hu) (by simpa using hv) fun g1 b1 b2 b3 b4 b5 b6 hk => ?_
  refine ⟨.ref s.heap.objs.size, rfl, wpAny_letOwnedTupleGo_zip b1 fun g2 hz2' hs2 => ?_⟩
  replace hs2 : Heap.SameBut z g1 g2 := hs2
  have zlt : z < s.heap.objs.size := Heap.lt_size hz
  have I2 : Inv X pins σ (upd H s.heap.objs.size (.tup [x, y])) { s with heap := g2, toks := s.toks } := by
   refine I.yieldTup (us := [u, v]) hf (fun b o hb e => ?_) (Nat.le_refl _) ((hs2.2 _ (Nat.ne_of_gt zlt)).trans b5) (.cons ru (.cons rvv .nil)) (by show 2 <= sizeLine; decide)
   simp only [List.mem_cons, List.not_mem_nil, or_false, not_or] at hb
   exact (hs2.2 b hb.1).trans (hk b o hb.1 hb.2.2.1 hb.2.2.2.1 hb.2.2.2.2 e)
  refine ⟨.ref s.heap.objs.size, _, I2, rfl, ⟨s.heap.objs.size, x, y, I.hok.fresh (Nat.le_refl _), rfl, fun xs' h' => by rw [I.list_inj h' hq1]; exact hx, fun ys' h' => by rw [I.list_inj h' hq2]; exact hy, rfl⟩,
   ⟨hz2', (hs2.2 _ D.TIz).trans (hk _ _ D.TIz D.TITO D.TIi1 D.TIi2 hTI), ⟨_, _, (hs2.2 _ D.TOz).trans b2⟩, b3.extBut hs2.extBut D.i1z, b4.extBut hs2.extBut D.i2z⟩, fun b hb => ?_⟩
  have hlt : b < s.heap.objs.size := by
   simp only [List.mem_cons, List.not_mem_nil, or_false] at hb
   rcases hb with rfl | rfl | rfl | rfl | rfl
   ·exact zlt
   ·exact Heap.lt_size hTI
   ·exact Heap.lt_size hTO
   ·obtain ⟨o, e, _⟩ := h1; exact Heap.lt_size e
   ·obtain ⟨o, e, _⟩ := h2; exact Heap.lt_size e
  rw [zh (Nat.ne_of_lt hlt)]
  exact (hf b hb).1
 done := by
  intro X hP hw hK hc i pins s σ H E I hf st hg
  subst hP hw hK
  obtain ⟨hz, hTI, ⟨a, c, hTO⟩, h1, h2⟩ := st
  obtain ⟨xs, ys, hq1, hq2, hend⟩ := hg
  obtain ⟨its1, rv1, p1, hz1⟩ := I.list hq1
  obtain ⟨its2, rv2, p2, hz2⟩ := I.list hq2
  have l1 := rv1.length
  have l2 := rv2.length
  refine wpAny_pyNext_zip_end (I.ok.hd hc) D hz hTI hTO h1 h2 p1.isList p2.isList (by simp; omega) fun h' hk => ⟨rfl, I.turnedL (tk := s.toks) hf fun b o hb e => ?_⟩
  simp only [List.mem_cons, List.not_mem_nil, or_false, not_or] at hb
  exact hk b o hb.1 hb.2.2.1 hb.2.2.2.1 hb.2.2.2.2 e
 self := fun _ _ _ _ _ st h => wpAny_pyIter_zip st.1 h
theorem kM : bootBuiltins "enumerate" = some (.type "enumerate") := by decide +kernel
theorem wK : bootBuiltins "zip" = some (.type "zip") := by decide +kernel
section
variable {X : Cx} {es : List Expr} {kt : Nat} {tp : Pos}
def Xv (K : PySem.W.Frag) (ta : TA) : TI := fun σ H R => ta σ H fun vs H1 => ∃ a, vs = [.ref a] /\ (∃ xs, SqL K H1 a xs) /\ R (Ite K a) H1
theorem J7 {e : Expr} {ta : TA} {p pos : Pos} (hg : Gl X "enumerate") (hm : X.mg "enumerate" = none) (ha : PA X [e] ta) (hs : starEach [e] X.env = [(false, eval e X.env)] := by rfl) :
  PI X (.Tuple es kt tp) (.Call (.Name "enumerate" p) [e] [] pos) (Xv X.K ta) := by
 intro pins s σ H R I h
 refine Call_ (jb I hg hm (kM) (PyProof.Rows.callWith_type1 (thn (ha pos pins s σ H _ I h) fun us s1 ⟨vs, H1, I1, r1, q1⟩ => ?_) hs rfl))
 obtain ⟨a, e, ⟨xs, hq⟩, q⟩ := q1
 subst e
 obtain ⟨u, rfl, ru⟩ := qR r1
 cases ru
 obtain ⟨its, rv, pl, hz⟩ := I1.list hq
 refine call_enumerate_list pl.isList fun h' he hit hsz hk => wpAny_pyIter_enum he ?_
 have I2 : Inv X pins σ H1 { s1 with heap := h' } := I1.kept (t' := s1.toks) hk
 refine ⟨s1.heap.objs.size + 1, [s1.heap.objs.size + 1, s1.heap.objs.size], _, _, H1, rfl, I2, xR a _ _ (Nat.succ_ne_self _), ⟨⟨_, he⟩, hit⟩, fun b hb => ?_, q⟩
 have hb' : s1.heap.objs.size <= b := by
  simp only [List.mem_cons, List.not_mem_nil, or_false] at hb
  rcases hb with rfl | rfl
  ·exact Nat.le_succ _
  ·exact Nat.le_refl _
 exact I1.fpOk hb' (I1.hok.fresh hb')
def VH (K : PySem.W.Frag) (ta : TA) : TI := fun σ H R => ta σ H fun vs H1 => ∃ a b, vs = [.ref a, .ref b] /\ (∃ xs, SqL K H1 a xs) /\ (∃ ys, SqL K H1 b ys) /\ R (Itz K a b) H1
theorem VC {e1 e2 : Expr} {ta : TA} {p pos : Pos} (hg : Gl X "zip") (hm : X.mg "zip" = none) (ha : PA X [e1, e2] ta) (hs : starEach [e1, e2] X.env = [(false, eval e1 X.env), (false, eval e2 X.env)] := by rfl) (hs2 : starEach [e2] X.env = [(false, eval e2 X.env)] := by rfl) :
  PI X (.Tuple es kt tp) (.Call (.Name "zip" p) [e1, e2] [] pos) (VH X.K ta) := by
 intro pins s σ H R I h
 refine Call_ (jb I hg hm wK (PyProof.Rows.callWith_type1 (thn (ha pos pins s σ H _ I h) fun us s1 ⟨vs, H1, I1, r1, q1⟩ => ?_) (by rw [hs, hs2]) (by rw [hs2]; rfl)))
 obtain ⟨a, b, e, ⟨xs, hq1⟩, ⟨ys, hq2⟩, q⟩ := q1
 subst e
 obtain ⟨u, v, rfl, ru, rv⟩ := xE r1
 cases ru
 cases rv
 obtain ⟨its1, rv1, p1, hz1⟩ := I1.list hq1
 obtain ⟨its2, rv2, p2, hz2⟩ := I1.list hq2
 have la : a < s1.heap.objs.size := by obtain ⟨o, e, _⟩ := p1.isList; exact Heap.lt_size e
 have lb : b < s1.heap.objs.size := by obtain ⟨o, e, _⟩ := p2.isList; exact Heap.lt_size e
 refine call_zip_2 p1.isList p2.isList fun h' b1 b2 b3 b4 b5 hsz hk => wpAny_pyIter_zip b1 ?_
 have I2 : Inv X pins σ H1 { s1 with heap := h' } := I1.kept (t' := s1.toks) hk
 refine ⟨s1.heap.objs.size + 4, [s1.heap.objs.size + 4, s1.heap.objs.size + 2, s1.heap.objs.size + 3, s1.heap.objs.size, s1.heap.objs.size + 1], _, _, H1, rfl, I2, Jg a b _ _ _ _ _ (zipApart_new la lb), ⟨b1, b2, ⟨_, _, b3⟩, b4, b5⟩, fun c hb => ?_, q⟩
 have hb' : s1.heap.objs.size <= c := by
  simp only [List.mem_cons, List.not_mem_nil, or_false] at hb
  rcases hb with rfl | rfl | rfl | rfl | rfl <;> first | exact Nat.le_refl _ | exact Nat.le_add_right _ _
 exact I1.fpOk hb' (I1.hok.fresh hb')
end
theorem QM {K : PySem.W.Frag} {a : Addr} {xs : List V} {g : TG} {tb : TS} {D : ju} {σ : St} {H : Hp} (Pv : Nat -> St -> Hp -> Prop) (h0 : Pv 0 σ H) (hl : ∀ i σ H, i <= xs.length -> Pv i σ H -> SqL K H a xs)
  (hs : ∀ i x p σ H, xs[i]? = some x -> H p = none -> Pv i σ H -> g (.ref p) σ (upd H p (.tup [.int i, x])) fun σ2 H2 => tb { D with nx := Pv (i + 1), ct := Pv (i + 1), bk := D.nx } σ2 H2) (hd : ∀ σ H, Pv xs.length σ H -> D.nx σ H) :
  ∃ W : Nat -> Nat -> St -> Hp -> Prop, (∃ m, W 0 m σ H) /\ ∀ i m σ H, W i m σ H ->
   ((Ite K a).stop i H /\ D.nx σ H) \/ ((Ite K a).go i H /\ ∃ N : St -> Hp -> Prop, (∀ σ' H', N σ' H' -> ∃ m', m' < m /\ W (i + 1) m' σ' H') /\ ∀ x H', (Ite K a).yld i H x H' -> g x σ H' fun σ2 H2 => tb { D with nx := N, ct := N, bk := D.nx } σ2 H2) := by
 refine ⟨fun i m σ H => m = xs.length - i /\ i <= xs.length /\ Pv i σ H, ⟨xs.length, by simp, Nat.zero_le _, h0⟩, ?_⟩
 rintro i m σ H ⟨rfl, hi, p⟩
 have q := hl i σ H hi p
 by_cases hlt : i < xs.length
 ·refine .inr ⟨⟨xs, xs[i], q, by simp [hlt]⟩, Pv (i + 1), fun σ' H' p' => ⟨xs.length - (i + 1), by omega, rfl, hlt, p'⟩, fun x H' y => ?_⟩
  obtain ⟨pp, x', hp, rfl, y, rfl⟩ := y
  exact hs i x' pp σ _ (y xs q) hp p
 ·have e : i = xs.length := by omega
  subst e
  exact .inl ⟨⟨xs, q, Nat.le_refl _⟩, hd σ H p⟩
end L2
set_option Elab.async false
set_option linter.all false
set_option maxRecDepth 100000
set_option maxHeartbeats 4000000
namespace L2
open PySem PySem.Spec PyProof.Rows
def qK (p : Addr) (a b c : Int) : HO := .ext fun h => ∃ t u v, h.get? p = some { cls := .type "range", data := .fields #[.int a t, .int b u, .int c v] }
theorem Q7 {P : Program} {w : World} {H : Hp} {h : Heap} {p : Addr} {a b c : Int} {t u v : Tok} (e : h.get? p = some { cls := .type "range", data := .fields #[.int a t, .int b u, .int c v] }) : zK P w H h p (qK p a b c) :=
 ⟨⟨t, u, v, e⟩, ⟨_, e⟩, fun h1 h2 ⟨t, u, v, q⟩ k => ⟨t, u, v, k _ q⟩⟩
def zw (a c : Int) (n : Nat) : List Int := (List.range n).map fun (i : Nat) => a + (i : Int) * c
theorem zp (a c : Int) (n : Nat) : (zw a c n).length = n := by simp [zw]
theorem vI {a c : Int} : ∀ {n : Nat} {acc : Array Value}, ItemsOf (fun (i : Nat) (v : Value) => ∃ t, v = Value.int (a + (i : Int) * c) t) acc n -> zq ((zw a c n).map V.int) acc.toList := by
 intro n acc ⟨hs, hi⟩
 have key : ∀ (k : Nat) (l : List Value), l.length = k -> (∀ (j : Nat) v, l[j]? = some v -> ∃ t, v = Value.int (a + (j : Int) * c) t) -> zq ((zw a c k).map V.int) l := by
  intro k
  induction k with
  | zero => intro l hl _; cases l with
   | nil => exact .nil
   | cons => simp at hl
  | succ k ih =>
   intro l hl hv
   obtain ⟨l', x, rfl⟩ : ∃ l' x, l = l' ++ [x] := ⟨l.dropLast, l.getLast (by intro e; rw [e] at hl; simp at hl), (List.dropLast_concat_getLast _).symm⟩
   have hl' : l'.length = k := by simpa using hl
   have e : (zw a c (k + 1)).map V.int = (zw a c k).map V.int ++ [.int (a + (k : Int) * c)] := by simp [zw, List.range_succ]
   rw [e]
   refine (ih l' hl' fun j v hj => hv j v ?_).append (.cons ?_ .nil)
   ·rw [List.getElem?_append_left (List.getElem?_eq_some_iff.mp hj).1]; exact hj
   ·obtain ⟨t, rfl⟩ := hv k x (by rw [List.getElem?_append_right (by omega), hl']; simp)
    exact ⟨t, rfl⟩
 exact key n acc.toList (by simpa using hs) fun j v hj => hi j v (by simpa using hj)
section
variable {X : Cx}
theorem zS : zY X (.type "range") (fun xs H Q => ∃ b : Int, xs = [.int b] /\ ∀ p, H p = none -> Q (.ref p) (upd H p (qK p 0 b 1))) := by
 intro pins s σ H xs us Q I r h
 obtain ⟨b, rfl, q⟩ := h
 obtain ⟨u, rfl, t, rfl⟩ := qR r
 refine call_range_1 ⟨.ref s.heap.objs.size, _, I.laid (fun b o e => Heap.get?_push_of_some _ e) (Nat.le_refl _) ?_, rfl, q _ (I.hok.fresh (Nat.le_refl _))⟩
 exact Q7 (Heap.get?_push_size _ rfl)
theorem yW : zY X (.type "range") (fun xs H Q => ∃ a b c : Int, xs = [.int a, .int b, .int c] /\ c ≠ 0 /\ c.natAbs < 1073741824 /\ ∀ p, H p = none -> Q (.ref p) (upd H p (qK p a b c))) := by
 intro pins s σ H xs us Q I r h
 obtain ⟨a, b, c, rfl, hc, hb, q⟩ := h
 cases r with
 | cons r1 r => cases r with
  | cons r2 r => cases r with
   | cons r3 r =>
    cases r
    obtain ⟨t1, rfl⟩ := r1
    obtain ⟨t2, rfl⟩ := r2
    obtain ⟨t3, rfl⟩ := r3
    refine call_range_3 hc ⟨.ref s.heap.objs.size, _, I.laid (t' := s.toks) (fun b o e => Heap.get?_push_of_some _ e) (Nat.le_refl _) ?_, rfl, q _ (I.hok.fresh (Nat.le_refl _))⟩ (.inl (PyProof.noPylong_small (by omega)))
    exact Q7 (Heap.get?_push_size _ rfl)
theorem zy (hc : X.calm = true) : zY X (.type "list") (fun xs H Q => ∃ p a b c n, xs = [.ref p] /\ H p = some (qK p a b c) /\ Builtin.Range.small a b c = true /\ Builtin.Range.rangeSize a b c = ((n : Nat) : Int) /\ n <= 100000 /\ ∀ l, H l = none -> Q (.ref l) (upd H l (.lst ((zw a c n).map V.int)))) := by
 intro pins s σ H xs us Q I r h
 obtain ⟨p, a, b, c, n, rfl, hp, hs, hn, hz, q⟩ := h
 obtain ⟨u, rfl, rx⟩ := qR r
 cases rx
 obtain ⟨⟨t, u, v, e⟩, _⟩ := (show zK X.prog X.w H s.heap p (qK p a b c) from I.hok _ _ hp)
 refine call_list_range (I.ok.hd hc) e hs hn (Nat.le_trans hz (by decide)) fun h' tk acc c' hk he hi => ?_
 refine ⟨.ref s.heap.objs.size, _, I.laid hk (Nat.le_refl _) (show zK X.prog X.w _ h' _ (.lst ((zw a c n).map V.int)) from ⟨?_, acc.toList, c', vI hi, by simpa using he⟩), rfl, q _ (I.hok.fresh (Nat.le_refl _))⟩
 rw [List.length_map, zp]
 exact Nat.le_trans hz (by decide)
theorem JM {i : Int} (h0 : 0 <= i) (h1 : i < 2 ^ 62) : ¬(!Builtin.List.listFitsIndex i) = true := by
 unfold Builtin.List.listFitsIndex
 simp
 omega
def xY : V -> List V -> Hp -> VK -> Prop := fun x vs H Q => ∃ l xs i y, x = .ref l /\ vs = [.int i, y] /\ H l = some (.lst xs) /\ 0 <= i /\ i <= xs.length /\ xs.length < sizeLine /\ Q .non (upd H l (.lst (xs.take i.toNat ++ y :: xs.drop i.toNat)))
theorem zq.insert {xs : List V} {us : List Value} {y : V} {u : Value} (r : zq xs us) (ry : zr y u) (k : Nat) : zq (xs.take k ++ y :: xs.drop k) (us.take k ++ u :: us.drop k) := (r.take k).append (.cons ry (r.drop k))
theorem w8 : MtM X "list.insert" xY := by
 intro pins s σ H x vs v us Q I rx rv h
 obtain ⟨l, xs, i, y, rfl, rfl, hH, h0, h1, hz, q⟩ := h
 cases rx
 obtain ⟨u, w, rfl, ⟨t, rfl⟩, rw'⟩ := rv.two
 obtain ⟨z, its, n, r, hl, e⟩ := I.lstM hH
 have l63 := kL
 have hb : i < 2 ^ 62 := by
  have : sizeLine < 2 ^ 62 := by rw [sizeLine_eq]; decide
  omega
 refine call_meets F.slot_list_insert ⟨_, e, rfl⟩ F.entry_list_insert (F.args_list_insert_3 _ _ _) (PySem.AutoSeq1.list_insert_list_int_val_1 l its.toArray n i t w (JM h0 hb) (by rw [List.size_toArray]; omega)) ⟨e, ?_⟩
 refine ⟨.non, _, I.lset (its' := its.take i.toNat ++ w :: its.drop i.toNat) hH e ?_ (r.insert rw' i.toNat) ?_, rfl, q⟩
 ·dsimp only
  rw [if_neg (by omega)]
  have hm : min i.toNat its.toArray.size = i.toNat := by rw [List.size_toArray]; omega
  rw [hm]
  apply Array.ext'
  simp
  first | done | omega | (rw [List.take_of_length_le (by simp)])
 ·rw [List.length_append, List.length_cons, List.length_take, List.length_drop]; omega
theorem jI : zY X (.builtin "sorted") (fun xs H Q => ∃ p ns, xs = [.ref p] /\ SqL X.K H p (List.map V.int ns) /\ ns.length < 64 /\ ∀ l ns', H l = none -> ns'.Perm ns -> ns'.Pairwise (· <= ·) -> Q (.ref l) (upd H l (.lst (List.map V.int ns')))) := by
 intro pins s σ H xs us Q I r h
 obtain ⟨p, ns, rfl, hq, h64, q⟩ := h
 obtain ⟨u, rfl, rx⟩ := qR r
 cases rx
 obtain ⟨its, rv, pl, hz⟩ := I.list hq
 have hlen := rv.length
 rw [List.length_map] at hlen
 refine sorted_ints pl.isList (vL rv) (by omega) fun out ns' a1 a2 a3 => ?_
 obtain ⟨k, he⟩ := sortedAll_at s.heap its out
 refine ⟨.ref (s.heap.objs.size + 1), _, I.laid (t' := s.toks) (fun _ _ => sortedAll_old) (Nat.le_succ _) (show zK X.prog X.w _ _ _ (.lst (List.map V.int ns')) from ⟨?_, out.toList, k, j0 a1, by simpa [seqObj] using he⟩), rfl, q _ _ (I.hok.fresh (Nat.le_succ _)) a2 a3⟩
 rw [List.length_map, a2.length_eq]
 exact Nat.le_of_lt (Zc (by omega))
end
end L2
set_option Elab.async false
set_option linter.all false
set_option maxRecDepth 100000
set_option maxHeartbeats 4000000
namespace L2
open PySem PySem.Spec PyProof.Rows
section
variable {X : Cx}
def isT (t c : String) : Option Bool := if (Value.type t == Value.type c) = true then some true else if PySem.W.kitMeta c = true then (fastBuiltinMro t).map (·.contains (Value.type c)) else none
theorem wk (K : PySem.W.Frag) (t c : String) : PySem.W.kitOne K (.type t) (.type c) = isT t c := rfl
def xi (t : String) : List String -> Option Bool
 | [] => some false
 | c :: r => match isT t c with
  | some true => some true
  | some false => xi t r
  | none => none
theorem vj (K : PySem.W.Frag) (t : String) : ∀ cs : List String, PySem.W.kitAny K (.type t) (cs.map Value.type) = xi t cs
 | [] => rfl
 | c :: r => by
  show (match PySem.W.kitOne K (.type t) (.type c) with | some true => some true | some false => PySem.W.kitAny K (.type t) (r.map Value.type) | none => none) = _
  rw [wk, vj K t r]; rfl
theorem jc : zY X (.builtin "isinstance") (fun xs H Q => ∃ x t c b, xs = [x, .ty c] /\ qS X.K H x (.type t) /\ isT t c = some b /\ Q (.bl b) H) := by
 intro pins s σ H xs us Q I r h
 obtain ⟨x, t, c, b, rfl, ty, e, q⟩ := h
 obtain ⟨u, v, rfl, ru, rv⟩ := xE r
 cases rv
 exact Zm I ru ty (by rw [wk]; exact e) fun tk => ⟨.bl b, H, I.tok _, rfl, q⟩
theorem yB : ∀ {cs : List String} {us : List Value}, zq (cs.map V.ty) us -> us = cs.map Value.type
 | [], _, .nil => rfl
 | c :: cs, _, .cons r t => by rw [yB t]; cases r; rfl
theorem xy : zY X (.builtin "isinstance") (fun xs H Q => ∃ x t p cs b, xs = [x, .ref p] /\ H p = some (.tup (List.map V.ty cs)) /\ qS X.K H x (.type t) /\ xi t cs = some b /\ Q (.bl b) H) := by
 intro pins s σ H xs us Q I r h
 obtain ⟨x, t, p, cs, b, rfl, hp, ty, e, q⟩ := h
 obtain ⟨u, v, rfl, rx, rv⟩ := xE r
 cases rv
 obtain ⟨_, its, rt, o, ho, hc, n, hd⟩ := (show zK X.prog X.w H s.heap p (.tup (List.map V.ty cs)) from I.hok _ _ hp)
 obtain ⟨oc, od, odt, osl⟩ := o
 simp only at hc hd
 subst hc hd
 have e' : PySem.W.kitAny X.K (.type t) its = some b := by rw [yB rt, vj]; exact e
 have fin : ∀ tk, EP X pins σ Q (.bool b) { s with toks := tk } := fun tk => ⟨.bl b, H, I.tok _, rfl, q⟩
 cases ty with
 | non => cases (show u = Value.none from rx); exact PySem.W.kia_tup PySem.W.kitx_none I.kIn True.intro ho e' (fun z => nomatch z) fin
 | bl y => cases (show u = Value.bool y from rx); exact PySem.W.kia_tup PySem.W.kitx_bool I.kIn True.intro ho e' (fun z => nomatch z) fin
 | int i => obtain ⟨t, q⟩ := (show ∃ t, u = Value.int i t from rx); cases q; exact PySem.W.kia_tup PySem.W.kitx_int I.kIn True.intro ho e' (fun z => nomatch z) fin
 | str y => obtain ⟨t, q⟩ := (show ∃ t, u = Value.str y t from rx); cases q; exact PySem.W.kia_tup PySem.W.kitx_str I.kIn True.intro ho e' (fun z => nomatch z) fin
 | flt y => obtain ⟨t, q⟩ := (show ∃ t, u = Value.float y t from rx); cases q; exact PySem.W.kia_tup PySem.W.kitx_float I.kIn True.intro ho e' (fun z => nomatch z) fin
 | @lst a xs ea =>
  cases (show u = Value.ref a from rx)
  obtain ⟨_, _, n, _, h1⟩ := (show zK X.prog X.w H s.heap a (.lst xs) from I.hok a _ ea)
  exact PySem.W.kia_tup PySem.W.kitx_list I.kIn ⟨_, h1, rfl⟩ ho e' (fun z => nomatch z) fin
 | @frz a ob xs ea =>
  cases (show u = Value.ref a from rx)
  obtain ⟨_, _, _, n, _, h1⟩ := (show zK X.prog X.w H s.heap a (.frz ob (.lst xs)) from I.hok a _ ea)
  exact PySem.W.kia_tup PySem.W.kitx_list I.kIn ⟨_, h1, rfl⟩ ho e' (fun z => nomatch z) fin
 | @tup a xs ea =>
  cases (show u = Value.ref a from rx)
  obtain ⟨_, _, _, p⟩ := (show zK X.prog X.w H s.heap a (.tup xs) from I.hok a _ ea)
  obtain ⟨o, h1, h2, _⟩ := p
  exact PySem.W.kia_tup PySem.W.kitx_tuple I.kIn ⟨o, h1, h2⟩ ho e' (fun z => nomatch z) fin
 | @dK a kvs ea =>
  cases (show u = Value.ref a from rx)
  obtain ⟨_, _, vs, _, p⟩ := (show zK X.prog X.w H s.heap a (.dK kvs) from I.hok a _ ea)
  obtain ⟨o, es, ep, h1, h2, _⟩ := p
  exact PySem.W.kia_tup PySem.W.kitx_dict I.kIn ⟨o, h1, h2.1⟩ ho e' (fun z => nomatch z) fin
 | @dT a kvs ea =>
  cases (show u = Value.ref a from rx)
  obtain ⟨_, _, xs, _, o, es, ep, h1, h2, _⟩ := (show zK X.prog X.w H s.heap a (.dT kvs) from I.hok a _ ea)
  exact PySem.W.kia_tup PySem.W.kitx_dict I.kIn ⟨o, h1, h2.1⟩ ho e' (fun z => nomatch z) fin
theorem vK {lo : Int} {n : Nat} {g : TG} {tt : TT} {te : TE} {Q : VK} {τ : St} {H1 : Hp} {D : Addr} (Pv : Nat -> St -> Hp -> Prop) (h0 : Pv 0 τ (upd H1 D (.lst [])))
  (hs : ∀ i τ H, i < n -> Pv i τ H -> g (.int (lo + i)) τ H fun τ2 H3 => tt τ2 H3 fun b H4 => if b = true then te τ2 H4 fun v H5 => ∃ ys, H5 D = some (.lst ys) /\ ys.length < sizeLine /\ Pv (i + 1) τ2 (upd H5 D (.lst (ys ++ [v]))) else Pv (i + 1) τ2 H4)
  (hd : ∀ τ H, Pv n τ H -> Q (.ref D) H) :
  ∃ W : Nat -> Nat -> St -> Hp -> Prop, (∃ m, W 0 m τ (upd H1 D (.lst []))) /\ ∀ i m τ H2, W i m τ H2 ->
   ((Itr lo n).stop i H2 /\ Q (.ref D) H2) \/ ((Itr lo n).go i H2 /\ ∃ N : St -> Hp -> Prop, (∀ τ' H', N τ' H' -> ∃ m', m' < m /\ W (i + 1) m' τ' H') /\ ∀ x H', (Itr lo n).yld i H2 x H' -> g x τ H' fun τ2 H3 => tt τ2 H3 fun b H4 =>
    if b = true then te τ2 H4 fun v H5 => ∃ ys, H5 D = some (.lst ys) /\ ys.length < sizeLine /\ N τ2 (upd H5 D (.lst (ys ++ [v]))) else N τ2 H4) := by
 refine ⟨fun i m τ H => m = n - i /\ i <= n /\ Pv i τ H, ⟨n, by simp, Nat.zero_le _, h0⟩, ?_⟩
 rintro i m τ H ⟨rfl, hi, p⟩
 by_cases hlt : i < n
 ·refine .inr ⟨hlt, Pv (i + 1), fun σ' H' p' => ⟨n - (i + 1), by omega, rfl, hlt, p'⟩, fun x H' y => ?_⟩
  obtain ⟨e, y⟩ := y
  subst e y
  exact hs i τ _ hlt p
 ·have e : i = n := by omega
  subst e
  exact .inl ⟨Nat.le_refl _, hd τ H p⟩
end
end L2
set_option Elab.async false
set_option linter.all false
set_option maxRecDepth 100000
set_option maxHeartbeats 4000000
namespace L2
open PySem PySem.Spec PyProof.Rows
def At (K : PySem.W.Frag) (mg : Str -> Option Value) (x : Str) (st : Stmt) : Prop := ∃ f fd, Fun K x x st f fd /\ mg x = some (.ref f)
def Df (P : Program) (w : World) (K : PySem.W.Frag) (mg : Str -> Option Value) (base : Heap) (x : Str) (ps : List Str) (k : Nat) (sp : Sp) : Prop :=
 ∃ f fd, jj P w K mg base CX0 k f fd ps sp /\ xu K fd ps [] /\ PySem.W.keepIn K (.ref f) = true /\ mg x = some (.ref f) /\ ∃ oc od osl, K.lookup f = some ⟨oc, od, .func fd, osl⟩
theorem Df.mono {P : Program} {w : World} {K : PySem.W.Frag} {mg : Str -> Option Value} {base : Heap} {x : Str} {ps : List Str} {j k : Nat} {sp : Sp} (D : Df P w K mg base x ps j sp) (h : j <= k) : Df P w K mg base x ps k sp :=
 let ⟨f, fd, F, r⟩ := D
 ⟨f, fd, F.mono h, r⟩
section
variable {X : Cx} {k : Nat} {x : Str} {ps : List Str} {sp : Sp} {p pos : Pos} {e : Expr} {es : List Expr} {t : TA}
theorem zx (D : Df X.prog X.w X.K X.mg X.base x ps k sp) (hr : qJ k X.A) (hg : Gl X x) (ha : PA X (e :: es) t) (hdb : (x == ("__debug__" : Str)) = false := by decide)
  (he : starEach (e :: es) X.env = (false, eval e X.env) :: starEach es X.env := by rfl) (hpl : (backTo pos (starEach es X.env)).any (·.1) = false := by rfl) : PE X (.Call (.Name x p) (e :: es) [] pos) (wI sp [] E0 t) := by
 obtain ⟨f, fd, F, b, kp, m, _⟩ := D
 exact Kt F hr hg m kp b .nil VS ha hdb he hpl
end
theorem jm {P : Program} {w : World} {K : PySem.W.Frag} {mg : Str -> Option Value} {base : Heap} {x : Str} {st : Stmt} {N ps : List Str} {k : Nat} {sp : Sp} (a : At K mg x st) (S : zA N ps (zk st))
  (hb : ∀ (kV doc pm : Value) (an : Option Addr) (cdv ct : Value) (us : List Value), us.length = ps.length -> bindArgs (PySem.W.fnOf x x (qE st) (qd st) (zk st) .none kV doc pm an cdv ct) ⟨us, []⟩ = pure (ps.zip us))
  (len : ∀ vs H Q E, sp vs H Q E -> vs.length = ps.length)
  (hbody : ∀ (f : Addr) (cdv : Value) (A : Around) (outer : List Env) (s : Shared) (H : Hp) (vs : List V) (Q : VK) (E : XK), qJ k (A.deeper (envOfC x (zk st) s.heap.objs.size f cdv)) -> sp vs H Q E ->
   ∃ t, PSs (xU CX0 P w K mg base N x (zk st) f cdv A outer s H E).nox (qd st) t /\ t { nx := fun _ H' => Q .non H', rt := Q } (start N vs) H) : Df P w K mg base x ps (k + 1) sp := by
 obtain ⟨f, fd, F, m⟩ := a
 obtain ⟨oc, od, kV, doc, pm, an, cdv, ct, osl, _, lk, _⟩ := id F.ex
 exact ⟨f, fd, F.ok S len fun cdv A outer s H vs Q E => hbody f cdv A outer s H vs Q E, F.binds hb, F.kp, m, oc, od, osl, lk⟩
theorem at_mk {K : PySem.W.Frag} {mg : Str -> Option Value} {h : Heap} {x : Str} {st : Stmt} {f : Addr} {oc : Value} {od an : Option Addr} {osl : Array (Option Value)} {kV doc pm cdv ct : Value} (X : K.In h) (G : h.Ns mainGlobals mg) (a : PySem.W.nsIn K mainGlobals x = some (some (.ref f)))
  (l : K.lookup f = some ⟨oc, od, .func (PySem.W.fnOf x x (qE st) (qd st) (zk st) .none kV doc pm an cdv ct), osl⟩) (c : PySem.W.codeIn K cdv x = true) (k : PySem.W.keepIn K (.ref f) = true) : At K mg x st := ⟨f, _, Jt l c k, PySem.W.mg_of X G a⟩
theorem Df.fn {P : Program} {w : World} {K : PySem.W.Frag} {mg : Str -> Option Value} {base : Heap} {x : Str} {ps : List Str} {k : Nat} {sp : Sp} {f : Addr} {fd : FuncData} {oc : Value} {od : Option Addr} {osl : Array (Option Value)} (D : Df P w K mg base x ps k sp) (m : mg x = some (.ref f)) (l : K.lookup f = some ⟨oc, od, .func fd, osl⟩) : jj P w K mg base CX0 k f fd ps sp := by
 obtain ⟨f', fd', F, _, _, m', oc', od', osl', l'⟩ := D
 rw [m] at m'
 cases m'
 rw [l] at l'
 cases l'
 exact F
structure Blt (mg : Str -> Option Value) : Prop where
 len : mg "len" = none
 range : mg "range" = none
 list : mg "list" = none
 tuple : mg "tuple" = none
 int : mg "int" = none
 bool : mg "bool" = none
 str : mg "str" = none
 abs : mg "abs" = none
 divmod : mg "divmod" = none
 enumerate : mg "enumerate" = none
 zip : mg "zip" = none
 sorted : mg "sorted" = none
 max : mg "max" = none
 min : mg "min" = none
 isinstance : mg "isinstance" = none
 all : mg "all" = none
theorem blt_mk {K : PySem.W.Frag} {mg : Str -> Option Value} {h : Heap} (X : K.In h) (G : h.Ns mainGlobals mg) (z1 : PySem.W.nsIn K mainGlobals "len" = some none) (z2 : PySem.W.nsIn K mainGlobals "range" = some none) (z3 : PySem.W.nsIn K mainGlobals "list" = some none) (z4 : PySem.W.nsIn K mainGlobals "tuple" = some none) (z5 : PySem.W.nsIn K mainGlobals "int" = some none) (z6 : PySem.W.nsIn K mainGlobals "bool" = some none) (z7 : PySem.W.nsIn K mainGlobals "str" = some none) (z8 : PySem.W.nsIn K mainGlobals "abs" = some none)
  (z9 : PySem.W.nsIn K mainGlobals "divmod" = some none) (z10 : PySem.W.nsIn K mainGlobals "enumerate" = some none) (z11 : PySem.W.nsIn K mainGlobals "zip" = some none) (z12 : PySem.W.nsIn K mainGlobals "sorted" = some none) (z13 : PySem.W.nsIn K mainGlobals "max" = some none) (z14 : PySem.W.nsIn K mainGlobals "min" = some none) (z15 : PySem.W.nsIn K mainGlobals "isinstance" = some none) (z16 : PySem.W.nsIn K mainGlobals "all" = some none) : Blt mg :=
 ⟨PySem.W.mg_none_of X G z1, PySem.W.mg_none_of X G z2, PySem.W.mg_none_of X G z3, PySem.W.mg_none_of X G z4, PySem.W.mg_none_of X G z5, PySem.W.mg_none_of X G z6, PySem.W.mg_none_of X G z7, PySem.W.mg_none_of X G z8, PySem.W.mg_none_of X G z9, PySem.W.mg_none_of X G z10, PySem.W.mg_none_of X G z11, PySem.W.mg_none_of X G z12, PySem.W.mg_none_of X G z13, PySem.W.mg_none_of X G z14, PySem.W.mg_none_of X G z15, PySem.W.mg_none_of X G z16⟩
theorem zI : bootBuiltins "isinstance" = some (.builtin "isinstance") := by decide +kernel
theorem xJ : bootBuiltins "sorted" = some (.builtin "sorted") := by decide +kernel
theorem Z5 : bootBuiltins "abs" = some (.builtin "abs") := by decide +kernel
theorem Zz : bootBuiltins "divmod" = some (.builtin "divmod") := by decide +kernel
theorem Ve : bootBuiltins "max" = some (.builtin "max") := by decide +kernel
theorem Yj : bootBuiltins "min" = some (.builtin "min") := by decide +kernel
theorem zZ : bootBuiltins "len" = some (.builtin "len") := by decide +kernel
theorem zV : bootBuiltins "list" = some (.type "list") := by decide +kernel
theorem jN : bootBuiltins "tuple" = some (.type "tuple") := by decide +kernel
theorem yo : bootBuiltins "int" = some (.type "int") := by decide +kernel
theorem ye : bootBuiltins "bool" = some (.type "bool") := by decide +kernel
theorem vY : bootBuiltins "str" = some (.type "str") := by decide +kernel
theorem qf : bootBuiltins "range" = some (.type "range") := by decide +kernel
def Kp (bs : List Addr) (H H' : Hp) : Prop := ∀ c o, c ∉ bs -> H c = some o -> H' c = some o
theorem Kp.refl {bs : List Addr} {H : Hp} : Kp bs H H := fun _ _ _ h => h
theorem Kp.trans {bs : List Addr} {H H1 H2 : Hp} (a : Kp bs H H1) (b : Kp bs H1 H2) : Kp bs H H2 := fun c o n h => b c o n (a c o n h)
theorem Kp.new {bs : List Addr} {H : Hp} {p : Addr} (o : HO) (h : H p = none) : Kp bs H (upd H p o) := fun c u _ q => by rw [zh (zd q h)]; exact q
theorem Kp.set {bs : List Addr} {H : Hp} {p : Addr} (o : HO) (h : p ∈ bs) : Kp bs H (upd H p o) := fun c u n q => by have hne : c ≠ p := (fun e => n (by rw [e]; exact h)); rw [zh hne]; exact q
theorem Kp.mono {bs bs' : List Addr} {H H' : Hp} (a : Kp bs H H') (h : ∀ b ∈ bs, b ∈ bs') : Kp bs' H H' := fun c o n q => a c o (fun z => n (h c z)) q
theorem Kp.free {H H' : Hp} (e : Kp [] H H') {l : Addr} (h : H' l = Option.none) : H l = Option.none := by
 cases q : H l with
 | none => rfl
 | some o => rw [e l o (by simp) q] at h; cases h
def Bx (H : Hp) (b : Addr) (N : Nat) : Prop := ∃ x y z : Int, H b = some (.lst [.int x, .int y, .int z]) /\ 0 <= x /\ 0 <= y /\ y < 2147483648 /\ 0 <= z /\ z <= N
abbrev il (ns : List Int) : HO := .lst (ns.map V.int)
end L2
set_option Elab.async false
set_option linter.all false
set_option maxRecDepth 100000
set_option maxHeartbeats 4000000
namespace L2
open PySem PySem.Spec PyProof.Rows
theorem cxK {CX : CXT} {P : Program} {w : World} {K : PySem.W.Frag} {mg : Str -> Option Value} {base : Heap} {N : List Str} {qual : Str} {scope : Scope} {f : Addr} {cd : Value} {A : Around} {outer : List Env} {s : Shared} {H : Hp} {E : XK} :
  (xU CX P w K mg base N qual scope f cd A outer s H E).K = K := rfl
def Kx (J : It) (g : TG) (tb : TS) (D : ju) (σ : St) (H : Hp) : Prop := ∃ W : Nat -> Nat -> St -> Hp -> Prop, (∃ m, W 0 m σ H) /\ ∀ i m σ H, W i m σ H ->
 (J.stop i H /\ D.nx σ H) \/ (J.go i H /\ ∃ N : St -> Hp -> Prop, (∀ σ' H', N σ' H' -> ∃ m', m' < m /\ W (i + 1) m' σ' H') /\ ∀ x H', J.yld i H x H' -> g x σ H' fun σ2 H2 => tb { D with nx := N, ct := N, bk := D.nx } σ2 H2)
theorem wo {wi : TI} {g : TG} {tb : TS} {D : ju} {σ : St} {H : Hp} : Vt wi g tb D σ H = wi σ H (fun J H1 => Kx J g tb D σ H1) := rfl
def K6 (J : It) (g : TG) (tt : TT) (te : TE) (D : Addr) (Q : VK) (τ : St) (H : Hp) : Prop := ∃ W : Nat -> Nat -> St -> Hp -> Prop, (∃ m, W 0 m τ H) /\ ∀ i m τ H2, W i m τ H2 ->
 (J.stop i H2 /\ Q (.ref D) H2) \/ (J.go i H2 /\ ∃ N : St -> Hp -> Prop, (∀ τ' H', N τ' H' -> ∃ m', m' < m /\ W (i + 1) m' τ' H') /\ ∀ x H', J.yld i H2 x H' -> g x τ H' fun τ2 H3 => tt τ2 H3 fun b H4 =>
  if b = true then te τ2 H4 fun v H5 => ∃ ys, H5 D = some (.lst ys) /\ ys.length < sizeLine /\ N τ2 (upd H5 D (.lst (ys ++ [v]))) else N τ2 H4)
theorem Jm {ts : List Nat} {wi : TI} {g : TG} {tt : TT} {te : TE} {σ : St} {H : Hp} {Q : VK} :
  vd ts wi g tt te σ H Q = wi σ H (fun J H1 => ∀ D, H1 D = none -> K6 J g tt te D Q (clr ts σ) (upd H1 D (.lst []))) := rfl
theorem kQ {lo : Int} {n : Nat} {g : TG} {tb : TS} {D : ju} {σ : St} {H : Hp} (Pv : Nat -> St -> Hp -> Prop) (h0 : Pv 0 σ H)
  (hs : ∀ i σ H, i < n -> Pv i σ H -> g (.int (lo + i)) σ H fun σ2 H2 => tb { D with nx := Pv (i + 1), ct := Pv (i + 1), bk := D.nx } σ2 H2) (hd : ∀ σ H, Pv n σ H -> D.nx σ H) : Kx (Itr lo n) g tb D σ H := ZL Pv h0 hs hd
theorem Kl {K : PySem.W.Frag} {a : Addr} {xs : List V} {g : TG} {tb : TS} {D : ju} {σ : St} {H : Hp} (Pv : Nat -> St -> Hp -> Prop) (h0 : Pv 0 σ H) (hl : ∀ i σ H, i <= xs.length -> Pv i σ H -> SqL K H a xs)
  (hs : ∀ i x p σ H, xs[i]? = some x -> H p = none -> Pv i σ H -> g (.ref p) σ (upd H p (.tup [.int i, x])) fun σ2 H2 => tb { D with nx := Pv (i + 1), ct := Pv (i + 1), bk := D.nx } σ2 H2) (hd : ∀ σ H, Pv xs.length σ H -> D.nx σ H) : Kx (Ite K a) g tb D σ H := QM Pv h0 hl hs hd
theorem Kh {K : PySem.W.Frag} {a b : Addr} {xs ys : List V} {g : TG} {tb : TS} {D : ju} {σ : St} {H : Hp} (Pv : Nat -> St -> Hp -> Prop) (hlen : ys.length <= xs.length) (h0 : Pv 0 σ H) (hl : ∀ i σ H, i <= ys.length -> Pv i σ H -> SqL K H a xs /\ SqL K H b ys)
  (hs : ∀ i x y p σ H, xs[i]? = some x -> ys[i]? = some y -> H p = none -> Pv i σ H -> g (.ref p) σ (upd H p (.tup [x, y])) fun σ2 H2 => tb { D with nx := Pv (i + 1), ct := Pv (i + 1), bk := D.nx } σ2 H2) (hd : ∀ σ H, Pv ys.length σ H -> D.nx σ H) : Kx (Itz K a b) g tb D σ H := by
 refine ⟨fun i m σ H => m = ys.length - i /\ i <= ys.length /\ Pv i σ H, ⟨ys.length, by simp, Nat.zero_le _, h0⟩, ?_⟩
 rintro i m σ H ⟨rfl, hi, p⟩
 obtain ⟨q, q'⟩ := hl i σ H hi p
 by_cases hlt : i < ys.length
 ·refine .inr ⟨⟨xs, ys, xs[i]'(by omega), ys[i], q, q', by first | (simp; done) | (simp; omega), by simp [hlt]⟩, Pv (i + 1), fun σ' H' p' => ⟨ys.length - (i + 1), by omega, rfl, hlt, p'⟩, fun x H' y => ?_⟩
  obtain ⟨pp, x', y', hp, rfl, y1, y2, rfl⟩ := y
  exact hs i x' y' pp σ _ (y1 xs q) (y2 ys q') hp p
 ·have e : i = ys.length := by omega
  subst e
  exact .inl ⟨⟨xs, ys, q, q', .inr (Nat.le_refl _)⟩, hd σ H p⟩
theorem jB {lo : Int} {n : Nat} {g : TG} {tt : TT} {te : TE} {Q : VK} {τ : St} {H1 : Hp} {D : Addr} (Pv : Nat -> St -> Hp -> Prop) (h0 : Pv 0 τ (upd H1 D (.lst [])))
  (hs : ∀ i τ H, i < n -> Pv i τ H -> g (.int (lo + i)) τ H fun τ2 H3 => tt τ2 H3 fun b H4 => if b = true then te τ2 H4 fun v H5 => ∃ ys, H5 D = some (.lst ys) /\ ys.length < sizeLine /\ Pv (i + 1) τ2 (upd H5 D (.lst (ys ++ [v]))) else Pv (i + 1) τ2 H4)
  (hd : ∀ τ H, Pv n τ H -> Q (.ref D) H) : K6 (Itr lo n) g tt te D Q τ (upd H1 D (.lst [])) := vK Pv h0 hs hd
end L2
set_option Elab.async false
set_option linter.all false
set_option maxRecDepth 100000
set_option maxHeartbeats 4000000
namespace L2
open PySem PySem.Spec PyProof.Rows
def vD : List Expr -> Option (List Int)
 | [] => some []
 | .Constant (.int i) _ _ :: r => (vD r).map (i :: ·)
 | _ => none
def Xu (is : List Int) : TA := fun _ H Q => Q (is.map V.int) H
theorem v9 {X : Cx} : ∀ {es : List Expr} {is : List Int}, vD es = some is -> PA X es (Xu is)
 | [], is, h => by
  cases (show some [] = some is from h)
  exact zb
 | .Constant (.int i) k p :: r, is, h => by
  obtain ⟨js, e, rfl⟩ := Option.map_eq_some_iff.mp (show (vD r).map (i :: ·) = some is from h)
  exact za (te := tC (.int i)) zc (v9 e)
theorem xL {X : Cx} : zY X (.type "int") (fun xs H Q => ∃ k, xs = [.bl k] /\ Q (.int (if k then 1 else 0)) H) := by
 intro pins s σ H xs us Q I r h
 exact wO pins s σ H xs us Q I r (.inr h)
theorem Bx.mono {H : Hp} {b : Addr} {N M : Nat} (h : Bx H b N) (le : N <= M) : Bx H b M := let ⟨x, y, z, h1, h2, h3, h4, h5, h6⟩ := h; ⟨x, y, z, h1, h2, h3, h4, h5, by omega⟩
theorem Bx.new {H : Hp} {b p : Addr} {N : Nat} {o : HO} (h : Bx H b N) (hp : H p = none) : Bx (upd H p o) b N := let ⟨x, y, z, h1, r⟩ := h; ⟨x, y, z, (zh (zd h1 hp)).trans h1, r⟩
theorem Bx.kp {H H' : Hp} {b : Addr} {N : Nat} (h : Bx H b N) (k : Kp [] H H') : Bx H' b N := let ⟨x, y, z, h1, r⟩ := h; ⟨x, y, z, k _ _ (by simp) h1, r⟩
end L2
set_option Elab.async false
set_option linter.all false
set_option maxRecDepth 100000
set_option maxHeartbeats 4000000
namespace L2
open PySem PySem.Spec PyProof.Rows
def IsOrd (n : Nat) (ns : List Int) : Prop := ns.length = n /\ ns.Nodup /\ ∀ x ∈ ns, 0 <= x /\ x < (n : Int)
theorem IsOrd.nil : IsOrd 0 [] := ⟨rfl, List.nodup_nil, fun x h => nomatch h⟩
theorem yL {α : Type} (xs : List α) (i : Nat) (y : α) : (xs.take i ++ y :: xs.drop i).Perm (y :: xs) := by
 refine (List.perm_middle).trans ?_
 rw [List.take_append_drop]
theorem IsOrd.insert {k : Nat} {ns : List Int} (h : IsOrd k ns) (i : Nat) : IsOrd (k + 1) (ns.take i ++ (k : Int) :: ns.drop i) := by
 obtain ⟨h1, h2, h3⟩ := h
 have pm := yL ns i (k : Int)
 refine ⟨by rw [pm.length_eq, List.length_cons, h1], ?_, fun x hx => ?_⟩
 ·refine pm.nodup_iff.mpr (List.nodup_cons.mpr ⟨fun hm => ?_, h2⟩)
  have := (h3 _ hm).2
  omega
 ·rcases List.mem_cons.mp (pm.mem_iff.mp hx) with rfl | hx
  ·omega
  ·have := h3 x hx; omega
theorem va : ∀ (n : Nat) (l : List Int), l.Nodup -> (∀ x ∈ l, 0 <= x /\ x < (n : Int)) -> l.length <= n
 | 0, l, _, h => by
  cases l with
  | nil => exact Nat.le_refl _
  | cons x r => have := h x List.mem_cons_self; omega
 | n + 1, l, hn, h => by
  have ih := va n (l.erase (n : Int)) (hn.erase _) (fun x hx => by
   have h1 := h x (List.mem_of_mem_erase hx)
   have h2 : x ≠ (n : Int) := fun e => by
    subst e
    exact (hn.not_mem_erase) hx
   omega)
  by_cases hm : (n : Int) ∈ l
  ·rw [List.length_erase_of_mem hm] at ih; omega
  ·rw [List.erase_of_not_mem hm] at ih; omega
theorem IsOrd.surj {n : Nat} {ns : List Int} (h : IsOrd n ns) {x : Int} (h0 : 0 <= x) (h1 : x < n) : x ∈ ns := by
 obtain ⟨l, d, b⟩ := h
 refine Classical.byContradiction fun hm => ?_
 have := va n (x :: ns) (List.nodup_cons.mpr ⟨hm, d⟩) (fun y hy => by
  rcases List.mem_cons.mp hy with rfl | hy
  ·exact ⟨h0, h1⟩
  ·exact b y hy)
 rw [List.length_cons, l] at this
 omega
theorem IsOrd.getD {n : Nat} {ns : List Int} (h : IsOrd n ns) {i : Nat} (hi : i < n) : 0 <= ns.getD i 0 /\ ns.getD i 0 < n := by
 obtain ⟨l, d, b⟩ := h
 have hi' : i < ns.length := by omega
 have e : ns.getD i 0 = ns[i] := by rw [List.getD_eq_getElem?_getD, List.getElem?_eq_getElem hi']; rfl
 rw [e]
 exact b _ (List.getElem_mem hi')
theorem zT {ns : List Int} {i : Nat} (h : i < ns.length) : ns.getD i 0 = ns[i] := by rw [List.getD_eq_getElem?_getD, List.getElem?_eq_getElem h]; rfl
theorem IsOrd.inj {n : Nat} {ns : List Int} (h : IsOrd n ns) {i j : Nat} (hi : i < n) (hj : j < n) (e : ns.getD i 0 = ns.getD j 0) : i = j := by
 obtain ⟨l, d, b⟩ := h
 rw [zT (by omega), zT (by omega)] at e
 exact (List.getElem_inj d).mp e
theorem qC {n : Nat} {ns : List Int} (l : ns.length = n) (b : ∀ i, i < n -> 0 <= ns.getD i 0 /\ ns.getD i 0 < n) (j : ∀ i k, i < n -> k < n -> ns.getD i 0 = ns.getD k 0 -> i = k) : IsOrd n ns := by
 refine ⟨l, ?_, fun x hx => ?_⟩
 ·rw [List.nodup_iff_pairwise_ne, List.pairwise_iff_getElem]
  intro i k hi hk hik e
  have := j i k (by omega) (by omega) (by rw [zT hi, zT hk]; exact e)
  omega
 ·obtain ⟨i, hi, rfl⟩ := List.mem_iff_getElem.mp hx
  have := b i (by omega)
  rwa [zT hi] at this
theorem IsOrd.ex {n : Nat} {ns : List Int} (h : IsOrd n ns) {j : Nat} (hj : j < n) : ∃ i, i < n /\ ns.getD i 0 = (j : Int) := by
 have hm := h.surj (x := (j : Int)) (by omega) (by omega)
 obtain ⟨i, hi, e⟩ := List.mem_iff_getElem.mp hm
 exact ⟨i, by rw [<- h.1]; exact hi, by rw [zT hi]; exact e⟩
theorem zW (n : Nat) {i : Nat} (h : i < n) : (zw 0 1 n).getD i 0 = (i : Int) := by
 rw [zT (by rw [zp]; exact h)]
 simp [zw]
theorem IsOrd.rng (n : Nat) : IsOrd n (zw 0 1 n) := by
 refine qC (zp 0 1 n) (fun i hi => ?_) (fun i k hi hk e => ?_)
 ·rw [zW n hi]; omega
 ·rw [zW n hi, zW n hk] at e; omega
theorem Kp.drop1 {bs : List Addr} {H H' : Hp} {p : Addr} {o : HO} (hp : H p = none) (k : Kp (p :: bs) (upd H p o) H') : Kp bs H H' := fun c u n h => by
 have hne : c ≠ p := zd h hp
 refine k c u ?_ ((zh hne).trans h)
 intro hm
 rcases List.mem_cons.mp hm with e | e
 ·exact hne e
 ·exact n e
theorem Bx.ne {H : Hp} {b p : Addr} {N : Nat} (h : Bx H b N) (hp : H p = none) : b ≠ p := let ⟨_, _, _, h1, _⟩ := h; zd h1 hp
theorem Bx.there {H : Hp} {b : Addr} {N : Nat} (h : Bx H b N) : ∃ o, H b = some o := let ⟨_, _, _, h1, _⟩ := h; ⟨_, h1⟩
theorem Bx.keep {H H' : Hp} {b : Addr} {N : Nat} {bs : List Addr} (h : Bx H b N) (k : Kp bs H H') (hb : b ∉ bs) : Bx H' b N := let ⟨x, y, z, h1, r⟩ := h; ⟨x, y, z, k _ _ hb h1, r⟩
theorem qX {ns : List Int} {i j : Nat} {v : Int} (h : i < ns.length) : (ns.set i v).getD j 0 = if j = i then v else ns.getD j 0 := by
 rw [List.getD_eq_getElem?_getD, List.getElem?_set]
 by_cases e : i = j
 ·subst e; simp [h]
 ·rw [if_neg e, if_neg (Ne.symm e), List.getD_eq_getElem?_getD]
def vU : V -> V -> V -> Hp -> (Hp -> Prop) -> Prop := fun o i v H Q => ∃ k, i = .int k /\ ∃ p, o = .ref p /\ ∃ xs, H p = some (.lst xs) /\ ∃ j, ixN xs.length k = some j /\ Q (upd H p (.lst (xs.set j v)))
section
variable {X : Cx}
theorem wJ : MtR X "list.append" kz := xM
theorem wQ : MtR X "list.insert" xY := w8
theorem jK {es : List Expr} {k : Nat} {t : TGs} {pos : Pos} {K : PySem.W.Frag} (n : Nat) (h : X.K = K) (hc : X.calm = true) (hs : PGs X es t) (hn : (assignEach es X.env).length = n := by rfl) (hst : (assignEach es X.env).findIdx? (·.1) = none := by rfl) : PG X (.Tuple es k pos) (K3 K n t) := h ▸ Va hc hs hn hst
theorem qb : XZ X vU := by
 intro pins s σ H o i v ov iv u Q I ro ri rv h
 obtain ⟨k, e1, p, e2, xs, h1, j, h2, q⟩ := h
 exact Z1 pins s σ H o i v ov iv u Q I ro ri rv ⟨p, xs, k, j, e2, e1, h1, h2, q⟩
end
end L2
set_option Elab.async false
set_option linter.all false
set_option maxRecDepth 100000
set_option maxHeartbeats 4000000
namespace L2
open PySem PySem.Spec PyProof.Rows
end L2
set_option Elab.async false
set_option linter.all false
set_option maxRecDepth 100000
set_option maxHeartbeats 4000000
namespace L2
open PySem PySem.Spec PyProof.Rows
section
variable {X : Cx}
def Z2 (K : PySem.W.Frag) : R2 := fun x y H Q => ∃ p xs i v, x = .ref p /\ y = .int i /\ (SqL K H p xs \/ SqT K H p xs) /\ atI xs i = some v /\ Q v H
theorem jL : IxR X (Z2 X.K) := by
 intro value slice pins s σ H x y v u Q I rx ry h hs
 obtain ⟨p, xs, i, z, e1, e2, hq | hq, he, q⟩ := h
 ·exact zF value slice pins s σ H x y v u Q I rx ry ⟨p, xs, i, z, e1, e2, hq, he, q⟩ hs
 ·exact Yv value slice pins s σ H x y v u Q I rx ry ⟨p, xs, i, z, e1, e2, hq, he, q⟩ hs
end
end L2
set_option Elab.async false
set_option linter.all false
set_option maxRecDepth 100000
set_option maxHeartbeats 4000000
namespace L2
open PySem PySem.Spec PyProof.Rows
end L2
set_option Elab.async false
set_option linter.all false
set_option maxRecDepth 100000
set_option maxHeartbeats 4000000
namespace L2
open PySem PySem.Spec PyProof.Rows
end L2
set_option Elab.async false
set_option linter.all false
set_option maxRecDepth 100000
set_option maxHeartbeats 4000000
namespace L2
open PySem PySem.Spec PyProof.Rows
section
variable {P : Program} {w : World} {A : Around} {E : Value -> Shared -> Prop} {s : Shared} {j t : Addr} {i : Nat} {its : Array Value} {Q : Value -> Shared -> Prop}
theorem yb {x : Value} (hj : s.heap.IsTupleIter j t i) (ht : s.heap.IsTuple t its) (hx : its[i]? = some x) (hQ : ∀ h', h'.IsTupleIter j t (i + 1) -> Heap.SameBut j s.heap h' -> Q x { s with heap := h' }) : wpAny (model P w) A (Builtin.SmallTypes.nextOf (.ref j)) Q E s := by
 obtain ⟨o, ho, hc, hd⟩ := id hj
 obtain ⟨ot, hot, _, nt, hdt⟩ := ht
 unfold Builtin.SmallTypes.nextOf
 refine wpAny_bind (wpAny_callSpecial?_slot (name := Str.ofString "__next__") hj.typeIs F.slot_tuple_iterator_next (wpAny_call_entry F.slot_tuple_iterator_next hj.typeIs F.entry_tuple_iterator_next ?_ (F.args_tuple_iterator_next_1 _)))
 refine wpAny_bind (m := field (.ref j) 0) (wpAny_field ho hd (x := .ref t) rfl ?_); show wpAny _ _ (if (Value.ref t == Value.none) = true then _ else _) _ _ s; rw [if_neg (show ¬ ((Value.ref t == Value.none) = true) from Bool.false_ne_true)]
 refine wpAny_bind (m := field (.ref j) 1) (wpAny_field ho hd (x := .int i 0) rfl ?_); refine wpAny_bind (m := seqItems? (.ref t)) (wpAny_seqItems hot hdt ?_); simp only [Int.toNat_natCast, hx]
 refine wpAny_bind (wpAny_setField ho hd (by simp) (wpAny_pure ⟨x, rfl, wpAny_pure (hQ _ ⟨_, Heap.get?_update_self _ ho (Obj.isFreed_of_fields (Obj.data_mapFields hd _)), (Obj.cls_mapFields ..).trans hc, by rw [Obj.data_mapFields hd]; simp [rawInt]⟩ (Heap.SameBut.update ..))⟩))
theorem kf (hh : A.handled = none) (hj : s.heap.IsTupleIter j t i) (ht : s.heap.IsTuple t its) (hx : its[i]? = none) (hE : ∀ h' e, Heap.ExtBut j s.heap h' -> (∃ o, h'.get? e = some o /\ o.cls = .type "StopIteration") -> E (.ref e) { s with heap := h' }) : wpAny (model P w) A (Builtin.SmallTypes.nextOf (.ref j)) Q E s := by
 obtain ⟨o, ho, hc, hd⟩ := id hj
 obtain ⟨ot, hot, _, nt, hdt⟩ := ht
 unfold Builtin.SmallTypes.nextOf
 refine wpAny_bind (wpAny_callSpecial?_slot (name := Str.ofString "__next__") hj.typeIs F.slot_tuple_iterator_next (wpAny_call_entry F.slot_tuple_iterator_next hj.typeIs F.entry_tuple_iterator_next ?_ (F.args_tuple_iterator_next_1 _)))
 refine wpAny_bind (m := field (.ref j) 0) (wpAny_field ho hd (x := .ref t) rfl ?_); show wpAny _ _ (if (Value.ref t == Value.none) = true then _ else _) _ _ s; rw [if_neg (show ¬ ((Value.ref t == Value.none) = true) from Bool.false_ne_true)]
 refine wpAny_bind (m := field (.ref j) 1) (wpAny_field ho hd (x := .int i 0) rfl ?_); refine wpAny_bind (m := seqItems? (.ref t)) (wpAny_seqItems hot hdt ?_); simp only [Int.toNat_natCast, hx]
 refine wpAny_bind (wpAny_rule (wpAny_bind (wpAny_setField ho hd (by simp) ?_))); refine wpAny_bind (m := newExc (.type "StopIteration") []) ?_; simp only [newExc, newTuple]; refine wpAny_bind (wpAny_newObj_type ?_ (by size_fits)); refine wpAny_bind (m := firstArgMember _ _) (wpAny_of_eq (a := Value.none) (by first | rfl | (simp only [firstArgMember]; rfl)) ?_); refine wpAny_newObj_type ?_ (by size_fits); simp only [raiseNew]; refine wpAny_bind (wpAny_handled ?_)
 (first | rw [show A.in1.handled = none from hh] | rw [hh]); refine wpAny_bind (wpAny_pure (wpAny_throw ?_)); exact hE _ _ (((Heap.SameBut.update ..).extBut.push _).push _) ⟨_, Heap.get?_push_size _ rfl, rfl⟩
end
theorem wR {P : Program} {w : World} {A : Around} (hh : A.handled = none) (j t : Addr) (hne : t ≠ j) (its : Array Value) :
  Draws P w A j [j, t] its.size (fun i v => its[i]? = some v) (fun i h => h.IsTupleIter j t i /\ h.IsTuple t its) where
 live := fun _ _ st => let ⟨o, ho, _⟩ := st.1; ⟨o, ho⟩
 frame := fun _ _ _ st hk => ⟨st.1.at fun o e => hk j (by simp) o e, let ⟨o, ho, r⟩ := st.2; ⟨o, hk t (by simp) o ho, r⟩⟩
 item := fun i s Q E hi st hQ => by
  refine yb st.1 st.2 (x := its[i]) (by simp [hi]) fun h' hit' hs' => ?_
  exact hQ _ h' s.toks (by simp [hi]) ⟨hit', let ⟨o, ho, r⟩ := st.2; ⟨o, (hs'.2 t hne).trans ho, r⟩⟩ hs'
 done := fun s Q E st hE => kf hh st.1 st.2 (by simp) hE
open AutoSeq1 (wpAny_loadPart') in
theorem wM (l : Addr) (its : Array Value) (n : Nat) (dct : Option Addr) (sl : Array (Option Value)) :
  Meets (Builtin.«enumerate.__new__» ⟨[.type "enumerate", .ref l], []⟩) (fun _ R s => s.heap.get? l = some { cls := .type "tuple", dict := dct, data := .seq its n, slots := sl } /\ R (.ok (.ret (.ref (s.heap.push { cls := .type "tuple_iterator", data := .fields #[.ref l, .int 0 0] }).objs.size))) { s with heap := (s.heap.push { cls := .type "tuple_iterator", data := .fields #[.ref l, .int 0 0] }).push { cls := .type "enumerate", data := .fields #[.none, .bool false, .ref s.heap.objs.size, rawInt 0, .none, .none] } }) :=
 .of_wp fun prog w A R s h => by
  obtain ⟨hp, g, d, tk, os⟩ := s
  obtain ⟨hl, h⟩ := h
  have hsub := sub_enumerate
  have hT : Heap.IsTuple (Shared.heap ⟨hp, g, d, tk, os⟩) l its := ⟨_, hl, rfl, n, rfl⟩
  wp_walk using wpAny_loadPart' hl
  refine wpAny_stack_any fun st => wpAny_pure ?_
  split
  ·rename_i c _ _ _ _ _
   cases (c == Value.type "enumerate")
   ·wp_walk using wpAny_loadPart' hl, wpAny_pyIter_tuple hT; exact ⟨_, rfl, h⟩
   ·wp_walk using wpAny_loadPart' hl, wpAny_pyIter_tuple hT; exact ⟨_, rfl, h⟩
  ·wp_walk using wpAny_loadPart' hl, wpAny_pyIter_tuple hT; exact ⟨_, rfl, h⟩
theorem vO {P : Program} {w : World} {A : Around} {E : Value -> Shared -> Prop} {s : Shared} {l : Addr} {its : Array Value} {Q : Value -> Shared -> Prop} (hT : s.heap.IsTuple l its)
  (h : ∀ h', IsEnum h' (s.heap.objs.size + 1) s.heap.objs.size 0 .none -> h'.IsTupleIter s.heap.objs.size l 0 -> (∀ b o, s.heap.get? b = some o -> h'.get? b = some o) -> Q (.ref (s.heap.objs.size + 1)) { s with heap := h' }) :
  wpAny (model P w) A (call (.type "enumerate") [.ref l]) Q E s := by
 obtain ⟨⟨c, dct, dt, sl⟩, hl, hc, n, hd⟩ := hT
 replace hc : c = .type "tuple" := hc
 replace hd : dt = .seq its n := hd
 subst hc hd
 refine callType_new F.called_enumerate (by decide) (F.typeCall_enumerate_1 _) (F.newCall_enumerate_1 _) (fun obj => F.args_object_init_2 obj _) F.entry_enumerate_new (wM l its n dct sl) ⟨hl, ?_⟩
 have hz : (s.heap.push { cls := .type "tuple_iterator", data := .fields #[.ref l, .int 0 0] }).objs.size = s.heap.objs.size + 1 := Heap.size_push ..
 show _ /\ _
 rw [hz]
 have he : IsEnum ((s.heap.push { cls := .type "tuple_iterator", data := .fields #[.ref l, .int 0 0] }).push { cls := .type "enumerate", data := .fields #[.none, .bool false, .ref s.heap.objs.size, rawInt 0, .none, .none] }) (s.heap.objs.size + 1) s.heap.objs.size 0 .none := by
  have hg := Heap.get?_push_size (s.heap.push { cls := .type "tuple_iterator", data := .fields #[.ref l, .int 0 0] }) (o := { cls := .type "enumerate", data := .fields #[.none, .bool false, .ref s.heap.objs.size, rawInt 0, .none, .none] }) rfl
  rw [hz] at hg; exact hg
 exact ⟨⟨_, he, rfl⟩, h _ he ⟨_, Heap.get?_push_of_some _ (Heap.get?_push_size _ rfl), rfl, rfl⟩ fun b o x => Heap.get?_push_of_some _ (Heap.get?_push_of_some _ x)⟩
theorem ZG {P : Program} {w : World} {A : Around} {E : Value -> Shared -> Prop} {s : Shared} {e j t : Addr} {i : Nat} {its : Array Value} {old : Value} {Q : Option Value -> Shared -> Prop} (hh : A.handled = none)
  (he : IsEnum s.heap e j i old) (hj : s.heap.IsTupleIter j t i) (ht : s.heap.IsTuple t its) (hx : its[i]? = none) (hQ : ∀ h', Heap.ExtBut j s.heap h' -> Q none { s with heap := h' }) : wpAny (model P w) A (pyNext (.ref e)) Q E s := by
 have hT : s.TypeIs (.ref e) "enumerate" := ⟨_, he, rfl⟩
 unfold pyNext
 refine wpAny_bind (wpAny_attempt (wpAny_callSpecial?_slot (name := Str.ofString "__next__") hT F.slot_enumerate_next (wpAny_call_entry F.slot_enumerate_next hT F.entry_enumerate_next ?_ (F.args_enumerate_next_1 _))))
 refine wpAny_bind (m := field (.ref e) 2) (wpAny_field he rfl (x := .ref j) rfl ?_); refine wpAny_bind (kf hh hj ht hx fun h' x he' hx' => ?_)
 obtain ⟨o, ho, hc⟩ := hx'
 refine wpAny_bind (wpAny_isInstance (T := "StopIteration") (b := true) ⟨o, ho, hc⟩ isSubtype_stop ?_); exact wpAny_pure (hQ _ he')
def YU (K : PySem.W.Frag) (a : Addr) : It :=
 ⟨fun i H => ∃ xs x, SqT K H a xs /\ xs[i]? = some x, fun i H y H' => ∃ p x, H p = none /\ y = .ref p /\ (∀ xs, SqT K H a xs -> xs[i]? = some x) /\ H' = upd H p (.tup [.int i, x]), fun i H => ∃ xs, SqT K H a xs /\ xs.length <= i⟩
theorem vX {P : Program} {w : World} {K : PySem.W.Frag} {es : List Expr} {kt : Nat} {tp : Pos} (a e it : Addr) (hei : e ≠ it) (hea : e ≠ a) (hai : a ≠ it) : vV P w K (.Tuple es kt tp) (YU K a) [e, it] e (fun i h => (∃ old, IsEnum h e it (i : Nat) old) /\ h.IsTupleIter it a i) where
 mem := by simp
 obj := fun i h st b hb => by
  obtain ⟨⟨old, he⟩, ⟨o, e1, c, d⟩⟩ := st
  rcases List.mem_cons.mp hb with rfl | hb
  ·exact ⟨_, he, fun v z => by have z' : Data.fields _ = Data.cell v := z; cases z'⟩
  ·have e2 : b = it := by simpa using hb
   subst e2
   exact ⟨o, e1, fun v z => by rw [d] at z; cases z⟩
 keep := fun i h h' st k => by
  obtain ⟨⟨old, he⟩, st⟩ := st
  exact ⟨⟨old, k e (by simp) _ he⟩, st.at fun o e => k it (by simp) o e⟩
 item := by
  intro X hP hw hK hc i pins s σ H E I hf st hg
  subst hP hw hK
  obtain ⟨⟨old, he⟩, st⟩ := st
  obtain ⟨xs, x, hq, hx⟩ := hg
  obtain ⟨its, rv, p, hz⟩ := I.tuple hq
  obtain ⟨u, hu, ru⟩ := rv.get hx
  have hlt : i < its.toArray.size := by
   have := (List.getElem?_eq_some_iff.mp hu).1
   simpa using this
  refine wpAny_pyNext_enum_itemD (wR (A := X.A.in1) (I.ok.hd hc) it a hai its.toArray) he ⟨st, p⟩ hlt hei (by simp [hei, hea]) fun x' h1 tk hP heo hit1 ht1 hz1 hk1 => ?_
  have hxu : x' = u := by
   have h1' : its[i]? = some x' := by simpa using hP
   rw [hu] at h1'; cases h1'; rfl
  subst hxu
  refine ⟨.ref s.heap.objs.size, rfl, wpAny_letOwnedTupleGo_enum heo fun h2 he2 hs2 => ?_⟩
  replace hs2 : Heap.SameBut e h1 h2 := hs2
  have elt : e < s.heap.objs.size := Heap.lt_size he
  have ht2 := (hs2.2 _ (Nat.ne_of_gt elt)).trans ht1
  have I2 : Inv X pins σ (upd H s.heap.objs.size (.tup [.int i, x])) { s with heap := h2, toks := tk + 1 } := by
   refine I.yieldTup (us := [.int i tk, x']) hf (fun b o hb q => ?_) (Nat.le_refl _) ht2 (.cons ⟨_, rfl⟩ (.cons ru .nil)) (by show 2 <= sizeLine; decide)
   have n1 : b ≠ e := fun z => hb (by simp [z])
   have n2 : b ≠ it := fun z => hb (by simp [z])
   exact (hs2.2 b n1).trans (hk1 b o n1 n2 q)
  refine ⟨.ref s.heap.objs.size, _, I2, rfl, ⟨s.heap.objs.size, x, I.hok.fresh (Nat.le_refl _), rfl, fun ys hy => by rw [I.tuple_inj hy hq]; exact hx, rfl⟩, ⟨⟨_, by simpa using he2⟩, hit1.1.extBut hs2.extBut (Ne.symm hei)⟩, fun b hb => ?_⟩
  have hlt : b < s.heap.objs.size := by
   rcases List.mem_cons.mp hb with rfl | hb
   ·exact elt
   ·have e2 : b = it := by simpa using hb
    subst e2
    obtain ⟨o, e1, _⟩ := st
    exact Heap.lt_size e1
  rw [zh (Nat.ne_of_lt hlt)]
  exact (hf b hb).1
 done := by
  intro X hP hw hK hc i pins s σ H E I hf st hg
  subst hP hw hK
  obtain ⟨⟨old, he⟩, st⟩ := st
  obtain ⟨xs, hq, hx⟩ := hg
  obtain ⟨its, rv, p, hz⟩ := I.tuple hq
  obtain ⟨f0, f1, f2, f3, f4, f5⟩ := hf it (by simp)
  have hl := rv.length
  exact ZG (I.ok.hd hc) he st p (by simp; omega) fun h' eb => ⟨rfl, I.turned (t' := s.toks) (fun b o hb e => eb b o hb e) f0 f1 f3 f4 f5⟩
 self := fun _ _ _ _ _ st h => by
  obtain ⟨⟨old, he⟩, _⟩ := st
  exact wpAny_pyIter_enum he h
section
variable {X : Cx} {es : List Expr} {kt : Nat} {tp : Pos}
def xW (K : PySem.W.Frag) (ta : TA) : TI := fun σ H R => ta σ H fun vs H1 => ∃ a, vs = [.ref a] /\ (((∃ xs, SqL K H1 a xs) /\ R (Ite K a) H1) \/ ((∃ xs, SqT K H1 a xs) /\ R (YU K a) H1))
theorem Ze {e : Expr} {ta : TA} {p pos : Pos} (hg : Gl X "enumerate") (hm : X.mg "enumerate" = none) (ha : PA X [e] ta) (hs : starEach [e] X.env = [(false, eval e X.env)] := by rfl) :
  PI X (.Tuple es kt tp) (.Call (.Name "enumerate" p) [e] [] pos) (xW X.K ta) := by
 intro pins s σ H R I h
 refine Call_ (jb I hg hm (kM) (PyProof.Rows.callWith_type1 (thn (ha pos pins s σ H _ I h) fun us s1 ⟨vs, H1, I1, r1, q1⟩ => ?_) hs rfl))
 obtain ⟨a, e, q⟩ := q1
 subst e
 obtain ⟨u, rfl, ru⟩ := qR r1
 cases ru
 have hb' : ∀ b ∈ [s1.heap.objs.size + 1, s1.heap.objs.size], s1.heap.objs.size <= b := by
  intro b hb
  simp only [List.mem_cons, List.not_mem_nil, or_false] at hb
  omega
 rcases q with ⟨⟨xs, hq⟩, q⟩ | ⟨⟨xs, hq⟩, q⟩
 ·obtain ⟨its, rv, pl, hz⟩ := I1.list hq
  refine call_enumerate_list pl.isList fun h' he hit hsz hk => wpAny_pyIter_enum he ?_
  have I2 : Inv X pins σ H1 { s1 with heap := h' } := I1.kept (t' := s1.toks) hk
  exact ⟨s1.heap.objs.size + 1, [s1.heap.objs.size + 1, s1.heap.objs.size], _, _, H1, rfl, I2, xR a _ _ (Nat.succ_ne_self _), ⟨⟨_, he⟩, hit⟩, fun b hb => I1.fpOk (hb' b hb) (I1.hok.fresh (hb' b hb)), q⟩
 ·obtain ⟨its, rv, pl, hz⟩ := I1.tuple hq
  have alt : a < s1.heap.objs.size := by obtain ⟨o, e, _⟩ := pl; exact Heap.lt_size e
  refine vO pl fun h' he hit hk => wpAny_pyIter_enum he ?_
  have I2 : Inv X pins σ H1 { s1 with heap := h' } := I1.kept (t' := s1.toks) hk
  exact ⟨s1.heap.objs.size + 1, [s1.heap.objs.size + 1, s1.heap.objs.size], _, _, H1, rfl, I2, vX a (s1.heap.objs.size + 1) s1.heap.objs.size (Nat.succ_ne_self _) (Nat.ne_of_gt (Nat.lt_succ_of_lt alt)) (Nat.ne_of_lt alt), ⟨⟨_, he⟩, hit⟩, fun b hb => I1.fpOk (hb' b hb) (I1.hok.fresh (hb' b hb)), q⟩
end
end L2
set_option Elab.async false
set_option linter.all false
set_option maxRecDepth 100000
set_option maxHeartbeats 4000000
namespace L2
open PySem PySem.Spec PyProof.Rows
end L2
set_option Elab.async false
set_option linter.all false
set_option maxRecDepth 100000
set_option maxHeartbeats 4000000
namespace L2
open PySem PySem.Spec PyProof.Rows
end L2
set_option Elab.async false
set_option linter.all false
set_option maxRecDepth 100000
set_option maxHeartbeats 4000000
namespace L2
open PySem PySem.Spec PyProof.Rows
end L2
set_option Elab.async false
set_option linter.all false
set_option maxRecDepth 100000
set_option maxHeartbeats 4000000
namespace L2
open PySem PySem.Spec PyProof.Rows
def iLT (K : PySem.W.Frag) (tl : TE) : TI := fun σ H R => tl σ H fun x H1 => ∃ a, x = .ref a /\ (((∃ xs, SqL K H1 a xs) /\ R (Itl K a) H1) \/ ((∃ xs, SqT K H1 a xs) /\ R (Itt K a) H1))
theorem Q0 {X : Cx} {tg : Expr} {l : Expr} {tl : TE} (hl : PE X l tl) : PI X tg l (iLT X.K tl) := by
 intro pins s σ H R I h
 refine thn (hl pins s σ H _ I h) fun v s1 ⟨x, H1, I1, r1, q1⟩ => ?_
 obtain ⟨a, e, q⟩ := q1
 subst e
 cases r1
 have fo : ∀ b ∈ [s1.heap.objs.size], kl X pins H1 b := fun b hb => by
  have e : b = s1.heap.objs.size := by simpa using hb
  subst e
  exact I1.fpOk (Nat.le_refl _) (I1.hok.fresh (Nat.le_refl _))
 rcases q with ⟨⟨xs, hq⟩, q⟩ | ⟨⟨xs, hq⟩, q⟩
 ·obtain ⟨its, rv, p, hz⟩ := I1.list hq
  refine wpAny_pyIter_list p.isList ?_
  exact ⟨s1.heap.objs.size, [s1.heap.objs.size], _, _, H1, rfl, I1.kept (t' := s1.toks) fun b o e => Heap.get?_push_of_some _ e, ZJ a _, ⟨_, Heap.get?_push_size _ rfl, rfl, rfl⟩, fo, q⟩
 ·obtain ⟨its, rv, p, hz⟩ := I1.tuple hq
  refine wpAny_pyIter_tuple (show s1.heap.IsTuple a its.toArray from p) ?_
  exact ⟨s1.heap.objs.size, [s1.heap.objs.size], _, _, H1, rfl, I1.kept (t' := s1.toks) fun b o e => Heap.get?_push_of_some _ e, vH a _, ⟨_, Heap.get?_push_size _ rfl, rfl, rfl⟩, fo, q⟩
end L2
set_option Elab.async false
set_option linter.all false
set_option maxRecDepth 100000
set_option maxHeartbeats 4000000
namespace L2
open PySem PySem.Spec PyProof.Rows
end L2
set_option Elab.async false
set_option linter.all false
set_option maxRecDepth 100000
set_option maxHeartbeats 4000000
namespace L2
open PySem PySem.Spec PyProof.Rows
section
variable {X : Cx}
end
end L2
set_option Elab.async false
set_option linter.all false
set_option maxRecDepth 100000
set_option maxHeartbeats 4000000
namespace L2
open PySem PySem.Spec PyProof.Rows
section
variable {X : Cx}
end
end L2
set_option Elab.async false
set_option linter.all false
set_option maxRecDepth 100000
set_option maxHeartbeats 4000000
namespace L2
open PySem PySem.Spec PyProof.Rows
end L2
set_option Elab.async false
set_option linter.all false
set_option maxRecDepth 100000
set_option maxHeartbeats 4000000
namespace L2
open PySem PySem.Spec PyProof.Rows
section
variable {prog : Program} {w : World} {A : Around} {R : Result -> Shared -> Prop} {s : Shared}
end
def CL (J : It) (g : TG) (tt : TT) (tr : St -> Hp -> (St -> Hp -> Prop) -> Prop) (N : St -> Hp -> Prop) (σ : St) (H : Hp) : Prop := ∃ W : Nat -> Nat -> St -> Hp -> Prop, (∃ m, W 0 m σ H) /\ ∀ i m τ H2, W i m τ H2 ->
 (J.stop i H2 /\ N τ H2) \/ (J.go i H2 /\ ∃ N1 : St -> Hp -> Prop, (∀ τ' H', N1 τ' H' -> ∃ m', m' < m /\ W (i + 1) m' τ' H') /\ ∀ x H', J.yld i H2 x H' -> g x τ H' fun τ2 H3 => tt τ2 H3 fun b H4 =>
  if b = true then tr τ2 H4 N1 else N1 τ2 H4)
abbrev TR := St -> Hp -> (St -> Hp -> Prop) -> Prop
def v6 (te : TE) (D : Addr) : TR := fun σ H N => te σ H fun v H5 => ∃ ys, H5 D = some (.lst ys) /\ ys.length < sizeLine /\ N σ (upd H5 D (.lst (ys ++ [v])))
def YW (wi : TI) (g : TG) (tt : TT) (tr : Addr -> TR) (D : Addr) : TR := fun σ H N => wi σ H fun J H1 => CL J g tt (tr D) N σ H1
section
variable {C : Cx} {elt tg iter : Expr} {ifs : List Expr} {gens : List Comprehension} {scope : Scope} {pos : Pos} {d : Nat} {D : Addr} {g : TG} {tt : TT} {te : TE} {tr : TR}
end
def Jw (ts : List Nat) (wi : TI) (g : TG) (tt : TT) (tr : Addr -> TR) : TE := fun σ H Q => wi σ H fun J H1 => ∀ D, H1 D = none -> CL J g tt (tr D) (fun _ H2 => Q (.ref D) H2) (clr ts σ) (upd H1 D (.lst []))
section
variable {X : Cx} {ts : List Nat} {scope : Scope} {tg iter elt : Expr} {ifs : List Expr} {jr : List Comprehension} {wi : TI} {g : TG} {tt : TT} {tr : Addr -> TR} {pos : Pos}
end
theorem Zb {ts : List Nat} {wi : TI} {g : TG} {tt : TT} {tr : Addr -> TR} {σ : St} {H : Hp} {Q : VK} :
  Jw ts wi g tt tr σ H Q = wi σ H (fun J H1 => ∀ D, H1 D = none -> CL J g tt (tr D) (fun _ H2 => Q (.ref D) H2) (clr ts σ) (upd H1 D (.lst []))) := rfl
theorem Zd {wi : TI} {g : TG} {tt : TT} {tr : Addr -> TR} {D : Addr} {σ : St} {H : Hp} {N : St -> Hp -> Prop} : YW wi g tt tr D σ H N = wi σ H (fun J H1 => CL J g tt (tr D) N σ H1) := rfl
theorem ZC {te : TE} {D : Addr} {σ : St} {H : Hp} {N : St -> Hp -> Prop} : v6 te D σ H N = te σ H (fun v H5 => ∃ ys, H5 D = some (.lst ys) /\ ys.length < sizeLine /\ N σ (upd H5 D (.lst (ys ++ [v])))) := rfl
end L2
set_option Elab.async false
set_option linter.all false
set_option maxRecDepth 100000
set_option maxHeartbeats 4000000
namespace L2
open PySem PySem.Spec PyProof.Rows
section
variable {P : Program} {w : World} {A : Around} {E : Value -> Shared -> Prop} {it l : Addr} {items : Array Value}
end
section
variable {X : Cx} {pos : Pos}
end
end L2
set_option Elab.async false
set_option linter.all false
set_option maxRecDepth 100000
set_option maxHeartbeats 4000000
namespace L2
open PySem PySem.Spec PyProof.Rows
def rep (o : Nat) (G : List Int) : List Int := (List.range (o * G.length)).map fun (i : Nat) => ((i / G.length * G.length : Nat) : Int) + G.getD (i % G.length) 0
end L2
set_option Elab.async false
set_option linter.all false
set_option maxRecDepth 100000
set_option maxHeartbeats 4000000
namespace L2
open PySem PySem.Spec PyProof.Rows
section
variable {P : Program} {w : World} {A : Around} {E : Value -> Shared -> Prop} {s : Shared} {z TI TO i1 i2 l1 l2 : Addr} {k : Nat} {xs ys : Array Value} {x y a b : Value} {Q : Option Value -> Shared -> Prop}
end
open AutoSeq1 (wpAny_loadPart') in
section
variable {X : Cx} {es : List Expr} {kt : Nat} {tp : Pos}
end
end L2
set_option Elab.async false
set_option linter.all false
set_option maxRecDepth 100000
set_option maxHeartbeats 4000000
namespace L2
open PySem PySem.Spec PyProof.Rows
section
variable {X : Cx} {e st : Expr} {te : TE} {lo hi : Option Expr} {tl th ts : TO} {p2 pos : Pos}
end
end L2
set_option Elab.async false
set_option linter.all false
set_option maxRecDepth 100000
set_option maxHeartbeats 4000000
namespace L2
open PySem PySem.Spec PyProof.Rows
end L2
set_option Elab.async false
set_option linter.all false
set_option maxRecDepth 100000
set_option maxHeartbeats 4000000
namespace L2
open PySem PySem.Spec PyProof.Rows
theorem xA {X : Cx} {K : PySem.W.Frag} (h : X.K = K) : zY X (.builtin "isinstance") (fun xs H Q => ∃ x t c b, xs = [x, .ty c] /\ qS K H x (.type t) /\ isT t c = some b /\ Q (.bl b) H) := h ▸ jc
end L2
set_option Elab.async false
set_option linter.all false
set_option maxRecDepth 100000
set_option maxHeartbeats 4000000
namespace L2
open PySem PySem.Spec PyProof.Rows
end L2
set_option Elab.async false
set_option linter.all false
set_option maxRecDepth 100000
set_option maxHeartbeats 4000000
namespace L2
open PySem PySem.Spec PyProof.Rows
section
variable {X : Cx}
variable {o e : Expr} {es : List Expr} {to : TE} {t : TA} {name : Str} {apos cpos : Pos} {T id : String} {r : V -> List V -> Hp -> VK -> Prop} {K : PySem.W.Frag}
end
end L2
set_option Elab.async false
set_option linter.all false
set_option maxRecDepth 100000
set_option maxHeartbeats 4000000
namespace L2
open PySem PySem.Spec PyProof.Rows
section
variable {X : Cx} {tg : Expr}
end
inductive Dd where
 | take (p : Nat) | move (p g : Nat) | lay (g : Nat)
abbrev RS := List (Option Int) × Option Int × List Int
def inc (mv : List Int) (x : Int) : List Int := mv.set x.toNat (mv.getD x.toNat 0 + 1)
inductive Do : Dd -> RS -> RS -> Prop
 | take {p : Nat} {row : List (Option Int)} {mv : List Int} {x : Int} : row[p]? = some (some x) -> Do (.take p) (row, none, mv) (row.set p none, some x, inc mv x)
 | move {p g : Nat} {row : List (Option Int)} {h : Option Int} {mv : List Int} {x : Int} : row[p]? = some (some x) -> row[g]? = some none -> Do (.move p g) (row, h, mv) ((row.set p none).set g (some x), h, inc mv x)
 | lay {g : Nat} {row : List (Option Int)} {mv : List Int} {x : Int} : row[g]? = some none -> Do (.lay g) (row, some x, mv) (row.set g (some x), none, inc mv x)
inductive Dos : List Dd -> RS -> RS -> Prop
 | nil {s : RS} : Dos [] s s
 | cons {d : Dd} {l : List Dd} {s t u : RS} : Do d s t -> Dos l t u -> Dos (d :: l) s u
end L2
set_option Elab.async false
set_option linter.all false
set_option maxRecDepth 100000
set_option maxHeartbeats 4000000
namespace L2
open PySem PySem.Spec PyProof.Rows
section
variable {X : Cx} {K : PySem.W.Frag}
end
end L2
set_option Elab.async false
set_option linter.all false
set_option maxRecDepth 100000
set_option maxHeartbeats 4000000
namespace L2
open PySem PySem.Spec PyProof.Rows
section
variable {X : Cx}
end
end L2
set_option Elab.async false
set_option linter.all false
set_option maxRecDepth 100000
set_option maxHeartbeats 4000000
namespace L2
open PySem PySem.Spec PyProof.Rows
section
variable {X : Cx}
end
section
variable {X : Cx} {e st : Expr} {te : TE} {ts : TO} {p2 pos : Pos}
end
end L2
set_option Elab.async false
set_option linter.all false
set_option maxRecDepth 100000
set_option maxHeartbeats 4000000
namespace L2
open PySem PySem.Spec PyProof.Rows
section
variable {X : Cx}
end
end L2
set_option Elab.async false
set_option linter.all false
set_option maxRecDepth 100000
set_option maxHeartbeats 4000000
namespace L2
open PySem PySem.Spec PyProof.Rows
def AtM (K : PySem.W.Frag) (C : Addr) (m qual : Str) (st : Stmt) : Prop := ∃ f fd, Fun K m qual st f fd /\ Wr K C m f
section
variable {X : Cx} {k : Nat} {C : Addr} {m x : Str} {ps : List Str} {sp : Sp} {p pos apos : Pos} {o e : Expr} {es : List Expr} {t : TA} {to : TE}
end
structure KD (K : PySem.W.Frag) (w : World) (a : Addr) (kvs : List (Key × V)) : Prop where
 ex : ∃ es ep, K.lookup a = some ⟨.type "dict", none, .dict es ep, #[]⟩ /\ ∀ P : Program, PySem.KeysOf (kC P w) es /\ ∃ vs, KV kvs vs /\ Pairs (kC P w) es.toList vs /\ (vs.map (·.1)).Nodup
 ns : (a == sysModules) = false
section
variable {X : Cx} {e : Expr} {ty : TE} {p apos cpos : Pos} {x : Str} {a : Addr} {kvs : List (Key × V)}
end
end L2
set_option Elab.async false
set_option linter.all false
set_option maxRecDepth 100000
set_option maxHeartbeats 4000000
namespace L2
open PySem PySem.Spec PyProof.Rows
section
variable {X : Cx}
end
theorem Wm {K : PySem.W.Frag} {C f : Addr} {m qual : Str} {st : Stmt} {oc kV dc pm cd ct : Value} {od an : Option Addr} {sl : Array (Option Value)} (a1 : PySem.W.findIn K (.ref C) m = some (some (.ref f))) (i1 : PySem.W.isFn K (.ref f) = true)
  (l1 : K.lookup f = some ⟨oc, od, .func (PySem.W.fnOf m qual (qE st) (qd st) (zk st) .none kV dc pm an cd ct), sl⟩) (c1 : PySem.W.codeIn K cd qual = true) (k1 : PySem.W.keepIn K (.ref f) = true) : AtM K C m qual st := ⟨f, _, Jt l1 c1 k1, ⟨a1, i1, k1⟩⟩
end L2
set_option Elab.async false
set_option linter.all false
set_option maxRecDepth 100000
set_option maxHeartbeats 4000000
namespace L2
open PySem PySem.Spec PyProof.Rows
section
variable {X : Cx}
end
end L2
set_option Elab.async false
set_option linter.all false
set_option maxRecDepth 100000
set_option maxHeartbeats 4000000
namespace L2
open PySem PySem.Spec PyProof.Rows
structure ScG (X : Cx) (ts : List Nat) (scope : Scope) : Prop where
 kind : scope.kind = .function
 cell : ∀ y ∈ scope.names, y.2 = .cell -> scope.names.lookup y.1 = some .cell
 loc : ∀ y ∈ scope.names, y.2 = .local -> scope.names.lookup y.1 = some .local
 free : ∀ y ∈ scope.names, y.2 = .free -> X.env.kindOf y.1 = some .cell \/ X.env.kindOf y.1 = some .free
 ts : ∀ (i : Nat) x, X.N[i]? = some x -> scope.names.lookup x = some .local \/ scope.names.lookup x = some .cell -> i ∈ ts
section
variable {X : Cx} {ts : List Nat} {scope : Scope} {pins : List (Addr × Obj)} {σ : St} {H : Hp} {s : Shared} {fp : List Addr}
end
section
variable {X : Cx} {ts : List Nat} {scope : Scope} {tg iter elt : Expr} {ifs : List Expr} {wi : TI} {g : TG} {tt : TT} {te : TE} {pos : Pos}
end
end L2
set_option Elab.async false
set_option linter.all false
set_option maxRecDepth 100000
set_option maxHeartbeats 4000000
namespace L2
open PySem PySem.Spec PyProof.Rows
section
variable {X : Cx}
end
end L2
set_option Elab.async false
set_option linter.all false
set_option maxRecDepth 100000
set_option maxHeartbeats 4000000
namespace L2
open PySem PySem.Spec PyProof.Rows
inductive Dat where
 | non | bl (b : Bool) | int (i : Int) | str (x : Str) | ty (n : String) | lst (l : List Dat) | tup (l : List Dat) | rng (lo hi c : Int) | scr (K : PySem.W.Frag) (l : List Int)
inductive AV where
 | d (x : Dat) | ref (a : Addr)
inductive MO where
 | lst (l : List AV) | dK (kvs : List (Key × AV)) | ins (C : Addr) (fs : List (Str × AV))
abbrev MH := Addr -> Option MO
abbrev ASt := List (Option AV)
def mup (M : MH) (a : Addr) (o : MO) : MH := fun b => if b = a then some o else M b
theorem zt {M : MH} {a : Addr} {o : MO} : mup M a o a = some o := if_pos rfl
theorem zL {M : MH} {a b : Addr} {o : MO} (h : b ≠ a) : mup M a o b = M b := if_neg h
theorem KL {M : MH} {a : Addr} {o u : MO} : mup (mup M a o) a u = mup M a u := by
 funext b; unfold mup; split <;> rfl
abbrev Own := Addr -> Prop
inductive Rep (H : Hp) (O : Own) : V -> Dat -> Prop
 | non : Rep H O .non .non
 | bl {b : Bool} : Rep H O (.bl b) (.bl b)
 | int {i : Int} : Rep H O (.int i) (.int i)
 | str {x : Str} : Rep H O (.str x) (.str x)
 | ty {n : String} : Rep H O (.ty n) (.ty n)
 | lst {a : Addr} {xs : List V} {l : List Dat} : ¬ O a -> H a = some (.lst xs) -> xs.length = l.length -> (∀ (i : Nat) x d, xs[i]? = some x -> l[i]? = some d -> Rep H O x d) -> Rep H O (.ref a) (.lst l)
 | tup {a : Addr} {xs : List V} {l : List Dat} : ¬ O a -> H a = some (.tup xs) -> xs.length = l.length -> (∀ (i : Nat) x d, xs[i]? = some x -> l[i]? = some d -> Rep H O x d) -> Rep H O (.ref a) (.tup l)
 | rng {a : Addr} {lo hi c : Int} : ¬ O a -> H a = some (qK a lo hi c) -> Rep H O (.ref a) (.rng lo hi c)
 | scr {a : Addr} {K : PySem.W.Frag} {l : List Int} : ¬ O a -> Rd H a (.lst (l.map V.int)) -> Rep H O (.ref a) (.scr K l)
 | scrK {a : Addr} {K : PySem.W.Frag} {l : List Int} : SqL K (fun _ => none) a (l.map V.int) -> Rep H O (.ref a) (.scr K l)
def wZ (H : Hp) (O : Own) (xs : List V) (l : List Dat) : Prop := xs.length = l.length /\ ∀ (i : Nat) x d, xs[i]? = some x -> l[i]? = some d -> Rep H O x d
def zn (H : Hp) (O : Own) (M : MH) (v : V) : AV -> Prop
 | .d x => Rep H O v x
 | .ref a => v = .ref a /\ M a ≠ none
def zg (H : Hp) (O : Own) (M : MH) (xs : List V) (l : List AV) : Prop := xs.length = l.length /\ ∀ (i : Nat) x d, xs[i]? = some x -> l[i]? = some d -> zn H O M x d
def y4 {κ : Type} (H : Hp) (O : Own) (M : MH) (xs : List (κ × V)) (l : List (κ × AV)) : Prop := xs.map (·.1) = l.map (·.1) /\ zg H O M (xs.map (·.2)) (l.map (·.2))
def qt (H : Hp) (O : Own) (M : MH) (a : Addr) : MO -> Prop
 | .lst l => ∃ xs, H a = some (.lst xs) /\ zg H O M xs l
 | .dK kvs => ∃ xs, H a = some (.dK xs) /\ y4 H O M xs kvs
 | .ins C fs => ∃ dx xs, H a = some (.ins C dx xs) /\ y4 H O M xs fs /\ O dx /\ M dx = none /\ H dx = some (.own a)
structure Wf (H : Hp) (O : Own) (M : MH) : Prop where
 mo : ∀ a o, M a = some o -> qt H O M a o
 own : ∀ a, M a ≠ none -> O a
 al : ∀ a, O a -> ∃ o, H a = some o /\ ∀ xs, o ≠ .tup xs
theorem Wf.ne {H : Hp} {O : Own} {M : MH} (w : Wf H O M) (a : Addr) (h : O a) : H a ≠ none := by obtain ⟨o, e, _⟩ := w.al a h; rw [e]; exact fun z => nomatch z
structure Ext (H : Hp) (O : Own) (M : MH) (H' : Hp) (O' : Own) (M' : MH) : Prop where
 fix : ∀ a o, ¬ O a -> H a = some o -> H' a = some o /\ ¬ O' a
 prv : ∀ a, O a -> M a = none -> H' a = H a /\ O' a /\ M' a = none
 mst : ∀ a, M a ≠ none -> M' a ≠ none
theorem Ext.refl {H : Hp} {O : Own} {M : MH} : Ext H O M H O M := ⟨fun _ _ h e => ⟨e, h⟩, fun _ h e => ⟨rfl, h, e⟩, fun _ h => h⟩
theorem Ext.trans {H H1 H2 : Hp} {O O1 O2 : Own} {M M1 M2 : MH} (a : Ext H O M H1 O1 M1) (b : Ext H1 O1 M1 H2 O2 M2) : Ext H O M H2 O2 M2 :=
 ⟨fun x o h e => let ⟨e1, h1⟩ := a.fix x o h e; b.fix x o h1 e1, fun x h e => by
  obtain ⟨e1, h1, n1⟩ := a.prv x h e
  obtain ⟨e2, h2, n2⟩ := b.prv x h1 n1
  exact ⟨e2.trans e1, h2, n2⟩, fun x h => b.mst x (a.mst x h)⟩
theorem Rep.imp {H H' : Hp} {O O' : Own} (k : ∀ a o, ¬ O a -> H a = some o -> H' a = some o /\ ¬ O' a) {v : V} {d : Dat} (r : Rep H O v d) : Rep H' O' v d := by
 induction r with
 | non => exact .non
 | bl => exact .bl
 | int => exact .int
 | str => exact .str
 | ty => exact .ty
 | lst h e l _ ih => exact .lst (k _ _ h e).2 (k _ _ h e).1 l ih
 | tup h e l _ ih => exact .tup (k _ _ h e).2 (k _ _ h e).1 l ih
 | rng h e => exact .rng (k _ _ h e).2 (k _ _ h e).1
 | scr h e =>
  rcases e with e | ⟨o, e⟩
  ·exact .scr (k _ _ h e).2 (.inl (k _ _ h e).1)
  ·exact .scr (k _ _ h e).2 (.inr ⟨o, (k _ _ h e).1⟩)
 | scrK h => exact .scrK h
theorem wF {H : Hp} {O : Own} {K : PySem.W.Frag} {v : V} {l : List Int} (r : Rep H O v (.scr K l)) : ∃ a, v = .ref a /\ SqL K H a (l.map V.int) := by
 cases r with
 | @scr a _ _ _ h => exact ⟨a, rfl, .inl h⟩
 | @scrK a _ _ h =>
  rcases h with (h | ⟨o, h⟩) | h
  ·cases h
  ·cases h
  ·exact ⟨a, rfl, .inr h⟩
theorem J2 {H : Hp} {O : Own} {K : PySem.W.Frag} {a : Addr} {l : List Int} (ho : ∀ a, ¬ O a) (h : SqL K H a (l.map V.int)) : Rep H O (.ref a) (.scr K l) := by
 rcases h with h | h
 ·exact .scr (ho a) h
 ·exact .scrK (.inr h)
theorem Rep.ext {H H' : Hp} {O O' : Own} {M M' : MH} (k : Ext H O M H' O' M') {v : V} {d : Dat} (r : Rep H O v d) : Rep H' O' v d := r.imp k.fix
theorem zn.ext {H H' : Hp} {O O' : Own} {M M' : MH} (k : Ext H O M H' O' M') {v : V} {x : AV} (r : zn H O M v x) : zn H' O' M' v x := by
 cases x with
 | d x => exact Rep.ext k r
 | ref a => exact ⟨r.1, k.mst a r.2⟩
theorem zg.ext {H H' : Hp} {O O' : Own} {M M' : MH} (k : Ext H O M H' O' M') {xs : List V} {l : List AV} (r : zg H O M xs l) : zg H' O' M' xs l := ⟨r.1, fun i x d e1 e2 => (r.2 i x d e1 e2).ext k⟩
theorem y4.ext {κ : Type} {H H' : Hp} {O O' : Own} {M M' : MH} (k : Ext H O M H' O' M') {xs : List (κ × V)} {l : List (κ × AV)} (r : y4 H O M xs l) : y4 H' O' M' xs l := ⟨r.1, r.2.ext k⟩
theorem zg.nil {H : Hp} {O : Own} {M : MH} : zg H O M [] [] := ⟨rfl, fun i x d e => by simp at e⟩
theorem zg.cons {H : Hp} {O : Own} {M : MH} {x : V} {d : AV} {xs : List V} {l : List AV} (h : zn H O M x d) (r : zg H O M xs l) : zg H O M (x :: xs) (d :: l) :=
 ⟨by simp [r.1], fun i y e h1 h2 => by
  cases i with
  | zero => simp at h1 h2; subst h1 h2; exact h
  | succ i => simp at h1 h2; exact r.2 i y e h1 h2⟩
theorem zg.head {H : Hp} {O : Own} {M : MH} {x : V} {d : AV} {xs : List V} {l : List AV} (r : zg H O M (x :: xs) (d :: l)) : zn H O M x d /\ zg H O M xs l :=
 ⟨r.2 0 x d rfl rfl, by have := r.1; simpa using this, fun i y e h1 h2 => r.2 (i + 1) y e (by simpa using h1) (by simpa using h2)⟩
theorem zg.nil_inv {H : Hp} {O : Own} {M : MH} {xs : List V} (r : zg H O M xs []) : xs = [] := List.length_eq_zero_iff.mp r.1
theorem zg.cons_inv {H : Hp} {O : Own} {M : MH} {xs : List V} {d : AV} {l : List AV} (r : zg H O M xs (d :: l)) : ∃ x r', xs = x :: r' /\ zn H O M x d /\ zg H O M r' l := by
 cases xs with
 | nil => have := r.1; simp at this
 | cons x r' => exact ⟨x, r', rfl, r.head⟩
theorem zg.append {H : Hp} {O : Own} {M : MH} {xs ys : List V} {l m : List AV} (a : zg H O M xs l) (b : zg H O M ys m) : zg H O M (xs ++ ys) (l ++ m) :=
 ⟨by rw [List.length_append, List.length_append, a.1, b.1], fun i x d h1 h2 => by
  by_cases c : i < xs.length
  ·rw [List.getElem?_append_left c] at h1
   rw [List.getElem?_append_left (by rw [<- a.1]; exact c)] at h2
   exact a.2 i x d h1 h2
  ·rw [List.getElem?_append_right (by omega)] at h1
   rw [List.getElem?_append_right (by rw [<- a.1]; omega), <- a.1] at h2
   exact b.2 _ x d h1 h2⟩
theorem zg.snoc {H : Hp} {O : Own} {M : MH} {xs : List V} {l : List AV} {x : V} {d : AV} (a : zg H O M xs l) (b : zn H O M x d) : zg H O M (xs ++ [x]) (l ++ [d]) := a.append (.cons b .nil)
theorem zg.set {H : Hp} {O : Own} {M : MH} {xs : List V} {l : List AV} {x : V} {d : AV} (a : zg H O M xs l) (b : zn H O M x d) (j : Nat) : zg H O M (xs.set j x) (l.set j d) :=
 ⟨by rw [List.length_set, List.length_set, a.1], fun i y e h1 h2 => by
  rw [List.getElem?_set] at h1 h2
  by_cases c : j = i
  ·rw [if_pos c] at h1 h2
   split at h1
   ·split at h2
    ·cases h1; cases h2; exact b
    ·cases h2
   ·cases h1
  ·rw [if_neg c] at h1 h2
   exact a.2 i y e h1 h2⟩
theorem zg.get {H : Hp} {O : Own} {M : MH} {xs : List V} {l : List AV} (a : zg H O M xs l) {i : Nat} {d : AV} (h : l[i]? = some d) : ∃ x, xs[i]? = some x /\ zn H O M x d := by
 have hi := (List.getElem?_eq_some_iff.mp h).1
 have hx : i < xs.length := by rw [a.1]; exact hi
 exact ⟨xs[i], by simp [hx], a.2 i _ _ (by simp [hx]) h⟩
theorem zg.drop {H : Hp} {O : Own} {M : MH} {xs : List V} {l : List AV} (a : zg H O M xs l) (k : Nat) : zg H O M (xs.drop k) (l.drop k) :=
 ⟨by rw [List.length_drop, List.length_drop, a.1], fun i x d h1 h2 => by rw [List.getElem?_drop] at h1 h2; exact a.2 _ x d h1 h2⟩
theorem zg.take {H : Hp} {O : Own} {M : MH} {xs : List V} {l : List AV} (a : zg H O M xs l) (k : Nat) : zg H O M (xs.take k) (l.take k) :=
 ⟨by rw [List.length_take, List.length_take, a.1], fun i x d h1 h2 => by
  rw [List.getElem?_take] at h1 h2
  by_cases c : i < k
  ·rw [if_pos c] at h1 h2
   exact a.2 _ x d h1 h2
  ·rw [if_neg c] at h1
   cases h1⟩
theorem wZ.av {H : Hp} {O : Own} {M : MH} {xs : List V} {l : List Dat} (r : wZ H O xs l) : zg H O M xs (l.map .d) :=
 ⟨by rw [List.length_map]; exact r.1, fun i x d h1 h2 => by
  rw [List.getElem?_map] at h2
  cases e : l[i]? with
  | none => rw [e] at h2; cases h2
  | some y => rw [e] at h2; cases h2; exact r.2 i x y h1 e⟩
theorem zg.pure {H : Hp} {O : Own} {M : MH} {xs : List V} {l : List Dat} (r : zg H O M xs (l.map .d)) : wZ H O xs l :=
 ⟨by have := r.1; rwa [List.length_map] at this, fun i x d h1 h2 => r.2 i x (.d d) h1 (by rw [List.getElem?_map, h2]; rfl)⟩
theorem Wf.fresh {H : Hp} {O : Own} {M : MH} (w : Wf H O M) {p : Addr} (h : H p = none) : ¬ O p /\ M p = none := by
 have : ¬ O p := fun z => w.ne p z h
 exact ⟨this, by
  cases e : M p with
  | none => rfl
  | some o => exact absurd (w.own p (by rw [e]; exact fun z => nomatch z)) this⟩
theorem qt.ext {H H' : Hp} {O O' : Own} {M M' : MH} (k : Ext H O M H' O' M') {a : Addr} {o : MO} (e : H' a = H a) (r : qt H O M a o) : qt H' O' M' a o := by
 cases o with
 | lst l => obtain ⟨xs, h, r⟩ := r; exact ⟨xs, e.trans h, r.ext k⟩
 | dK l => obtain ⟨xs, h, r⟩ := r; exact ⟨xs, e.trans h, r.ext k⟩
 | ins C fs => obtain ⟨dx, xs, h, r, q1, q2, q3⟩ := r; obtain ⟨x1, x2, x3⟩ := k.prv dx q1 q2; exact ⟨dx, xs, e.trans h, r.ext k, x2, x3, x1.trans q3⟩
theorem qv {H : Hp} {O : Own} {M : MH} (w : Wf H O M) {p : Addr} (h : H p = none) (o : HO) : Ext H O M (upd H p o) O M :=
 ⟨fun a u ha e => ⟨by rw [zh (zd e h)]; exact e, ha⟩, fun a ha e => ⟨zh (fun z => w.ne a ha (by rw [z]; exact h)), ha, e⟩, fun _ h => h⟩
theorem yc {H : Hp} {O : Own} {M : MH} (w : Wf H O M) {p : Addr} (h : H p = none) (o : HO) : Wf (upd H p o) O M :=
 ⟨fun a mo e => qt.ext (qv w h o) (zh (fun z => by rw [z, (w.fresh h).2] at e; cases e)) (w.mo a mo e), w.own, fun a ha => by
  have : a ≠ p := fun z => w.ne a ha (by rw [z]; exact h)
  rw [zh this]; exact w.al a ha⟩
def ZM (O : Own) (p : Addr) : Own := fun a => a = p \/ O a
def K5 (O : Own) (p : Addr) : Own := fun a => a ≠ p /\ O a
theorem jF {H : Hp} {O : Own} {M : MH} (w : Wf H O M) {p : Addr} (h : M p ≠ none) (o : HO) (mo : MO) : Ext H O M (upd H p o) O (mup M p mo) :=
 ⟨fun a u ha e => ⟨by rw [zh (fun z => ha (by rw [z]; exact w.own p h))]; exact e, ha⟩, fun a ha e => by
  have hne : a ≠ p := fun z => h (by rw [<- z]; exact e)
  exact ⟨zh hne, ha, by rw [zL hne]; exact e⟩, fun a ha => by
  by_cases e : a = p
  ·rw [e, zt]; exact fun z => nomatch z
  ·rw [zL e]; exact ha⟩
theorem Z4 {H : Hp} {O : Own} {M : MH} (w : Wf H O M) {p : Addr} (h : M p ≠ none) {o : HO} {mo : MO} (ho : ∀ xs, o ≠ .tup xs) (r : qt (upd H p o) O (mup M p mo) p mo) : Wf (upd H p o) O (mup M p mo) := by
 refine ⟨fun a u e => ?_, fun a ha => ?_, fun a ha => ?_⟩
 ·by_cases c : a = p
  ·subst c; rw [zt] at e; cases e; exact r
  ·rw [zL c] at e
   exact qt.ext (jF w h o mo) (zh c) (w.mo a u e)
 ·by_cases c : a = p
  ·subst c; exact w.own a h
  ·rw [zL c] at ha; exact w.own a ha
 ·by_cases c : a = p
  ·rw [c, zf]; exact ⟨o, rfl, ho⟩
  ·rw [zh c]; exact w.al a ha
theorem qj {H : Hp} {O : Own} {M : MH} (w : Wf H O M) {p : Addr} (h : H p = none) (o : HO) : Ext H O M (upd H p o) (ZM O p) M :=
 ⟨fun a u ha e => ⟨by rw [zh (zd e h)]; exact e, fun z => z.elim (zd e h) ha⟩, fun a ha e => by
  have hne : a ≠ p := fun z => w.ne a ha (by rw [z]; exact h)
  exact ⟨zh hne, .inr ha, e⟩, fun _ h => h⟩
theorem xk {H : Hp} {O : Own} {M : MH} (w : Wf H O M) {p : Addr} (h : H p = none) (o : HO) (ho : ∀ xs, o ≠ .tup xs) : Wf (upd H p o) (ZM O p) M :=
 ⟨fun a mo e => qt.ext (qj w h o) (zh (fun z => by rw [z, (w.fresh h).2] at e; cases e)) (w.mo a mo e), fun a ha => .inr (w.own a ha), fun a ha => by
  by_cases c : a = p
  ·rw [c, zf]; exact ⟨o, rfl, ho⟩
  ·rw [zh c]; exact w.al a (ha.resolve_left c)⟩
theorem kr {H : Hp} {O : Own} {p : Addr} (hO : O p) (o : HO) : ∀ a u, ¬ O a -> H a = some u -> upd H p o a = some u /\ ¬ O a := fun a u ha e => ⟨by rw [zh (fun z => ha (by rw [z]; exact hO))]; exact e, ha⟩
theorem zn.imp {H H' : Hp} {O O' : Own} {M M' : MH} (k : ∀ a o, ¬ O a -> H a = some o -> H' a = some o /\ ¬ O' a) (hm : ∀ a, M a ≠ none -> M' a ≠ none) {v : V} {x : AV} (r : zn H O M v x) : zn H' O' M' v x := by
 cases x with
 | d x => exact Rep.imp k r
 | ref a => exact ⟨r.1, hm a r.2⟩
theorem zg.imp {H H' : Hp} {O O' : Own} {M M' : MH} (k : ∀ a o, ¬ O a -> H a = some o -> H' a = some o /\ ¬ O' a) (hm : ∀ a, M a ≠ none -> M' a ≠ none) {xs : List V} {l : List AV} (r : zg H O M xs l) : zg H' O' M' xs l := ⟨r.1, fun i x d e1 e2 => (r.2 i x d e1 e2).imp k hm⟩
theorem qt.imp {H H' : Hp} {O O' : Own} {M : MH} (k : ∀ a o, ¬ O a -> H a = some o -> H' a = some o /\ ¬ O' a) {a : Addr} {o : MO} (e : H' a = H a) (hd : ∀ dx x, O dx -> M dx = none -> H dx = some (.own x) -> H' dx = some (.own x) /\ O' dx) (r : qt H O M a o) : qt H' O' M a o := by
 cases o with
 | lst l => obtain ⟨xs, h, r⟩ := r; exact ⟨xs, e.trans h, r.imp k fun _ z => z⟩
 | dK l => obtain ⟨xs, h, r⟩ := r; exact ⟨xs, e.trans h, r.1, r.2.imp k fun _ z => z⟩
 | ins C fs => obtain ⟨dx, xs, h, r, q1, q2, q3⟩ := r; exact ⟨dx, xs, e.trans h, ⟨r.1, r.2.imp k fun _ z => z⟩, (hd dx a q1 q2 q3).2, q2, (hd dx a q1 q2 q3).1⟩
theorem vP {H : Hp} {O : Own} {M : MH} (w : Wf H O M) {p : Addr} (hO : O p) (hM : M p = none) {xs : List V} (hp : H p = some (.lst xs)) (o : HO) (ho : ∀ xs, o ≠ .tup xs) : Wf (upd H p o) O M :=
 ⟨fun a mo e => qt.imp (kr hO o) (zh (fun z => by rw [z, hM] at e; cases e)) (fun dx x h1 _ h3 => ⟨by rw [zh (Qq h3 hp (fun z => nomatch z))]; exact h3, h1⟩) (w.mo a mo e), w.own, fun a ha => by
  by_cases c : a = p
  ·rw [c, zf]; exact ⟨o, rfl, ho⟩
  ·rw [zh c]; exact w.al a ha⟩
theorem j4 {H : Hp} {O : Own} (p : Addr) : ∀ a u, ¬ O a -> H a = some u -> H a = some u /\ ¬ K5 O p a := fun a u ha e => ⟨e, fun z => ha z.2⟩
theorem Q6 {H : Hp} {O : Own} {M : MH} (w : Wf H O M) {p : Addr} (hM : M p = none) {xs : List V} (hp : H p = some (.lst xs)) : Wf H (K5 O p) M :=
 ⟨fun a mo e => qt.imp (j4 p) rfl (fun dx x h1 _ h3 => ⟨h3, ⟨Qq h3 hp (fun z => nomatch z), h1⟩⟩) (w.mo a mo e), fun a ha => ⟨fun z => ha (by rw [z]; exact hM), w.own a ha⟩, fun a ha => w.al a ha.2⟩
end L2
set_option Elab.async false
set_option linter.all false
set_option maxRecDepth 100000
set_option maxHeartbeats 4000000
namespace L2
open PySem PySem.Spec PyProof.Rows
abbrev AK := AV -> MH -> Prop
abbrev AE := ASt -> MH -> AK -> Prop
abbrev AT := ASt -> MH -> (Bool -> MH -> Prop) -> Prop
abbrev AA := ASt -> MH -> (List AV -> MH -> Prop) -> Prop
structure kE where
 nx : ASt -> MH -> Prop
 rt : AK
 bk : ASt -> MH -> Prop := fun _ _ => False
 ct : ASt -> MH -> Prop := fun _ _ => False
abbrev AS := MH -> kE -> ASt -> MH -> Prop
abbrev AG := AV -> ASt -> MH -> (ASt -> MH -> Prop) -> Prop
abbrev AGs := List AV -> ASt -> MH -> (ASt -> MH -> Prop) -> Prop
abbrev AI := ASt -> MH -> (List AV -> (MH -> Prop) -> MH -> Prop) -> Prop
structure Er (H : Hp) (O : Own) (M : MH) (σ : St) (ρ : ASt) : Prop where
 len : σ.length = ρ.length
 get : ∀ (i : Nat) x, ρ[i]? = some (some x) -> ∃ v, σ[i]? = some (some v) /\ zn H O M v x
theorem Er.ext {H H' : Hp} {O O' : Own} {M M' : MH} {σ : St} {ρ : ASt} (e : Er H O M σ ρ) (k : Ext H O M H' O' M') : Er H' O' M' σ ρ := ⟨e.len, fun i x h => let ⟨v, h1, h2⟩ := e.get i x h; ⟨v, h1, h2.ext k⟩⟩
theorem Er.set {H : Hp} {O : Own} {M : MH} {σ : St} {ρ : ASt} (e : Er H O M σ ρ) {v : V} {x : AV} (r : zn H O M v x) (j : Nat) : Er H O M (σ.set j (some v)) (ρ.set j (some x)) :=
 ⟨by rw [List.length_set, List.length_set, e.len], fun i y h => by
  rw [List.getElem?_set] at h ⊢
  by_cases c : j = i
  ·rw [if_pos c] at h ⊢
   by_cases c2 : j < ρ.length
   ·rw [if_pos c2] at h; rw [if_pos (by rw [e.len]; exact c2)]; cases h; exact ⟨v, rfl, r⟩
   ·rw [if_neg c2] at h; cases h
  ·rw [if_neg c] at h ⊢; exact e.get i y h⟩
def Kr : List Nat -> ASt -> ASt
 | [], σ => σ
 | j :: r, σ => Kr r (σ.set j none)
theorem Er.clr {H : Hp} {O : Own} {M : MH} : ∀ (ts : List Nat) {σ : St} {ρ : ASt}, Er H O M σ ρ -> Er H O M (clr ts σ) (Kr ts ρ)
  | [], _, _, e => e
  | j :: r, σ, ρ, e => Er.clr r ⟨by rw [List.length_set, List.length_set, e.len], fun i y h => by
      rw [List.getElem?_set] at h ⊢
      by_cases c : j = i
      · rw [if_pos c] at h
        split at h <;> cases h
      · rw [if_neg c] at h ⊢; exact e.get i y h⟩
structure zN (t : TE) (a : AE) : Prop where
 go : ∀ {σ : St} {H : Hp} {O : Own} {ρ : ASt} {M : MH} {Q : VK} {Q' : AK}, Wf H O M -> Er H O M σ ρ -> a ρ M Q' -> (∀ x M' v H' O', Q' x M' -> Ext H O M H' O' M' -> Wf H' O' M' -> zn H' O' M' v x -> Q v H') -> t σ H Q
structure jz (t : TT) (a : AT) : Prop where
 go : ∀ {σ : St} {H : Hp} {O : Own} {ρ : ASt} {M : MH} {Q : Bool -> Hp -> Prop} {Q' : Bool -> MH -> Prop}, Wf H O M -> Er H O M σ ρ -> a ρ M Q' -> (∀ b M' H' O', Q' b M' -> Ext H O M H' O' M' -> Wf H' O' M' -> Q b H') -> t σ H Q
structure jE (t : TA) (a : AA) : Prop where
 go : ∀ {σ : St} {H : Hp} {O : Own} {ρ : ASt} {M : MH} {Q : List V -> Hp -> Prop} {Q' : List AV -> MH -> Prop}, Wf H O M -> Er H O M σ ρ -> a ρ M Q' -> (∀ x M' v H' O', Q' x M' -> Ext H O M H' O' M' -> Wf H' O' M' -> zg H' O' M' v x -> Q v H') -> t σ H Q
structure yU (t : TE) (a : ASt -> MH -> (List AV -> MH -> Prop) -> Prop) : Prop where
 go : ∀ {σ : St} {H : Hp} {O : Own} {ρ : ASt} {M : MH} {Q : VK} {Q' : List AV -> MH -> Prop}, Wf H O M -> Er H O M σ ρ -> a ρ M Q' ->
  (∀ l M' p xs H' O', Q' l M' -> Ext H O M H' O' M' -> Wf H' O' M' -> O' p -> M' p = none -> H p = none -> H' p = some (.lst xs) -> zg H' O' M' xs l -> Q (.ref p) H') -> t σ H Q
abbrev AR2 := AV -> AV -> MH -> AK -> Prop
structure vh (r : R2) (a : AR2) : Prop where
 go : ∀ {x y : V} {dx dy : AV} {H : Hp} {O : Own} {M : MH} {Q : VK} {Q' : AK}, Wf H O M -> zn H O M x dx -> zn H O M y dy -> a dx dy M Q' -> (∀ x M' v H' O', Q' x M' -> Ext H O M H' O' M' -> Wf H' O' M' -> zn H' O' M' v x -> Q v H') -> r x y H Q
structure Wa (r : V -> Hp -> VK -> Prop) (a : AV -> MH -> AK -> Prop) : Prop where
 go : ∀ {x : V} {dx : AV} {H : Hp} {O : Own} {M : MH} {Q : VK} {Q' : AK}, Wf H O M -> zn H O M x dx -> a dx M Q' -> (∀ x M' v H' O', Q' x M' -> Ext H O M H' O' M' -> Wf H' O' M' -> zn H' O' M' v x -> Q v H') -> r x H Q
structure ym (r : List V -> Hp -> VK -> Prop) (a : List AV -> MH -> AK -> Prop) : Prop where
 go : ∀ {vs : List V} {xs : List AV} {H : Hp} {O : Own} {M : MH} {Q : VK} {Q' : AK}, Wf H O M -> zg H O M vs xs -> a xs M Q' -> (∀ x M' v H' O', Q' x M' -> Ext H O M H' O' M' -> Wf H' O' M' -> zn H' O' M' v x -> Q v H') -> r vs H Q
def vn (i : Nat) : AE := fun ρ M Q => ∃ x, ρ[i]? = some (some x) /\ Q x M
def aC (d : Dat) : AE := fun _ M Q => Q (.d d) M
theorem Kq {i : Nat} : zN (JY i) (vn i) := ⟨fun w e ⟨x, h, q⟩ k => let ⟨v, h1, h2⟩ := e.get i x h; ⟨v, h1, k _ _ _ _ _ q .refl w h2⟩⟩
theorem Vm {i : Int} : zN (tC (.int i)) (aC (.int i)) := ⟨fun w _ q k => k _ _ _ _ _ q .refl w .int⟩
theorem X5 {i : Bool} : zN (tC (.bl i)) (aC (.bl i)) := ⟨fun w _ q k => k _ _ _ _ _ q .refl w .bl⟩
theorem YI : zN (tC .non) (aC .non) := ⟨fun w _ q k => k _ _ _ _ _ q .refl w .non⟩
theorem XD {i : Str} : zN (tC (.str i)) (aC (.str i)) := ⟨fun w _ q k => k _ _ _ _ _ q .refl w .str⟩
theorem X4 {i : String} : zN (tC (.ty i)) (aC (.ty i)) := ⟨fun w _ q k => k _ _ _ _ _ q .refl w .ty⟩
def aOp (r : AR2) (a b : AE) : AE := fun ρ M Q => a ρ M fun x M1 => b ρ M1 fun y M2 => r x y M2 Q
theorem XF {r : R2} {ra : AR2} {t u : TE} {a b : AE} (hr : vh r ra) (h1 : zN t a) (h2 : zN u b) : zN (tOp r t u) (aOp ra a b) :=
 ⟨fun w e q k => h1.go w e q fun x M1 v H1 O1 q1 k1 w1 r1 => h2.go w1 (e.ext k1) q1 fun y M2 u H2 O2 q2 k2 w2 r2 => hr.go w2 (r1.ext k2) r2 q2 fun z M3 v3 H3 O3 q3 k3 w3 r3 => k z M3 v3 H3 O3 q3 ((k1.trans k2).trans k3) w3 r3⟩
def aUn (r : AV -> MH -> AK -> Prop) (a : AE) : AE := fun ρ M Q => a ρ M fun x M1 => r x M1 Q
theorem XH {r : V -> Hp -> VK -> Prop} {ra : AV -> MH -> AK -> Prop} {t : TE} {a : AE} (hr : Wa r ra) (h1 : zN t a) : zN (tUn r t) (aUn ra a) :=
 ⟨fun w e q k => h1.go w e q fun x M1 v H1 O1 q1 k1 w1 r1 => hr.go w1 r1 q1 fun z M3 v3 H3 O3 q3 k3 w3 r3 => k z M3 v3 H3 O3 q3 (k1.trans k3) w3 r3⟩
def JT : AA := fun _ M Q => Q [] M
def yS (a : AE) (b : AA) : AA := fun ρ M Q => a ρ M fun x M1 => b ρ M1 fun xs M2 => Q (x :: xs) M2
theorem Kc : jE Yu JT := ⟨fun w _ q k => k _ _ _ _ _ q .refl w .nil⟩
theorem Jb {t : TE} {u : TA} {a : AE} {b : AA} (h1 : zN t a) (h2 : jE u b) : jE (Q5 t u) (yS a b) :=
 ⟨fun w e q k => h1.go w e q fun x M1 v H1 O1 q1 k1 w1 r1 => h2.go w1 (e.ext k1) q1 fun y M2 u H2 O2 q2 k2 w2 r2 => k _ _ _ _ _ q2 (k1.trans k2) w2 (.cons (r1.ext k2) r2)⟩
theorem xV {H : Hp} {O : Own} {M : MH} (is : List Int) : zg H O M (is.map V.int) (is.map fun i => .d (.int i)) := by
 induction is with
 | nil => exact .nil
 | cons i r ih => exact .cons .int ih
def aCB (r : List AV -> MH -> AK -> Prop) (b : AA) : AE := fun ρ M Q => b ρ M fun xs M1 => r xs M1 Q
theorem Vv {r : List V -> Hp -> VK -> Prop} {ra : List AV -> MH -> AK -> Prop} {u : TA} {b : AA} (hr : ym r ra) (h2 : jE u b) : zN (tCB r u) (aCB ra b) :=
 ⟨fun w e q k => h2.go w e q fun x M1 v H1 O1 q1 k1 w1 r1 => hr.go w1 r1 q1 fun z M3 v3 H3 O3 q3 k3 w3 r3 => k z M3 v3 H3 O3 q3 (k1.trans k3) w3 r3⟩
abbrev ASp := List AV -> MH -> AK -> Prop
def cSp (a : ASp) : Sp := fun vs H Q _ => ∃ xs M O Q', Wf H O M /\ zg H O M vs xs /\ a xs M Q' /\ ∀ x M' v H' O', Q' x M' -> Ext H O M H' O' M' -> Wf H' O' M' -> zn H' O' M' v x -> Q v H'
def QS (sp : ASp) (b : AA) : AE := fun ρ M Q => b ρ M fun xs M1 => sp xs M1 Q
theorem JC {sp : ASp} {u : TA} {b : AA} (h : jE u b) : zN (wI (cSp sp) [] E0 u) (QS sp b) :=
 ⟨fun w e q k => h.go w e q fun x M1 v H1 O1 q1 k1 w1 r1 => ⟨x, M1, O1, _, w1, by rw [List.append_nil]; exact r1, q1, fun z M3 v3 H3 O3 q3 k3 w3 r3 => k z M3 v3 H3 O3 q3 (k1.trans k3) w3 r3⟩⟩
def pur : List AV -> Option (List Dat)
 | [] => some []
 | .d x :: r => match pur r with | some l => some (x :: l) | none => none
 | .ref _ :: _ => none
theorem K2 : pur [] = some [] := rfl
theorem ZQ {x : Dat} {r : List AV} {l : List Dat} (h : pur r = some l) : pur (.d x :: r) = some (x :: l) := by unfold pur; rw [h]
theorem qu (l : List Dat) : pur (l.map .d) = some l := by
 induction l with
 | nil => rfl
 | cons x r ih => exact ZQ ih
theorem qP : ∀ {xs : List AV} {l : List Dat}, pur xs = some l -> xs = l.map .d
 | [], l, h => by cases h; rfl
 | .d x :: r, l, h => by
  unfold pur at h
  cases e : pur r with
  | none => rw [e] at h; cases h
  | some m => rw [e] at h; cases h; rw [qP e]; rfl
 | .ref _ :: _, _, h => by cases h
theorem Ext.shown {H H' : Hp} {O O' : Own} {M M' : MH} {p : Addr} (w : Wf H O M) (k : Ext H O M H' O' M') (h : H p = none) : Ext H O M H' (K5 O' p) M' :=
 ⟨fun a o ha e => ⟨(k.fix a o ha e).1, fun z => (k.fix a o ha e).2 z.2⟩, fun a ha e => ⟨(k.prv a ha e).1, ⟨fun z => w.ne a ha (by rw [z]; exact h), (k.prv a ha e).2.1⟩, (k.prv a ha e).2.2⟩, k.mst⟩
theorem Ext.owned {H H' : Hp} {O O' : Own} {M M' : MH} {p : Addr} (w : Wf H O M) (k : Ext H O M H' O' M') (h : H p = none) (mo : MO) : Ext H O M H' O' (mup M' p mo) :=
 ⟨k.fix, fun a ha e => ⟨(k.prv a ha e).1, (k.prv a ha e).2.1, by rw [zL (fun z => w.ne a ha (by rw [z]; exact h))]; exact (k.prv a ha e).2.2⟩, fun a ha => by
  by_cases e : a = p
  ·rw [e, zt]; exact fun z => nomatch z
  ·rw [zL e]; exact k.mst a ha⟩
theorem yR {H : Hp} {O : Own} {M : MH} {p : Addr} (w : Wf H O M) (hO : O p) (hM : M p = none) {xs : List V} {l : List AV} (hp : H p = some (.lst xs)) (r : zg H O M xs l) : Wf H O (mup M p (.lst l)) := by
 have km : ∀ a, M a ≠ none -> mup M p (.lst l) a ≠ none := fun a ha => by
  by_cases e : a = p
  ·rw [e, zt]; exact fun z => nomatch z
  ·rw [zL e]; exact ha
 refine ⟨fun a u e => ?_, fun a ha => ?_, w.al⟩
 ·by_cases c : a = p
  ·subst c; rw [zt] at e; cases e; exact ⟨xs, hp, r.imp (fun _ _ z h => ⟨h, z⟩) km⟩
  ·rw [zL c] at e
   have := w.mo a u e
   cases u with
   | lst m => obtain ⟨ys, h1, h2⟩ := this; exact ⟨ys, h1, h2.imp (fun _ _ z h => ⟨h, z⟩) km⟩
   | dK m => obtain ⟨ys, h1, h2⟩ := this; exact ⟨ys, h1, h2.1, h2.2.imp (fun _ _ z h => ⟨h, z⟩) km⟩
   | ins C fs =>
    obtain ⟨dx, ys, h1, h2, h3, h4, h5⟩ := this
    exact ⟨dx, ys, h1, ⟨h2.1, h2.2.imp (fun _ _ z h => ⟨h, z⟩) km⟩, h3, by rw [zL (Qq h5 hp (fun z => nomatch z))]; exact h4, h5⟩
 ·by_cases c : a = p
  ·rw [c]; exact hO
  ·rw [zL c] at ha; exact w.own a ha
abbrev AF := ASt -> MH -> (List AV -> MH -> Prop) -> Prop
def aFz (a : AF) : AE := fun ρ M Q => a ρ M fun l M' => ∃ ds, pur l = some ds /\ Q (.d (.lst ds)) M'
def aOw (a : AF) : AE := fun ρ M Q => a ρ M fun l M' => ∀ p, M p = none -> M' p = none -> Q (.ref p) (mup M' p (.lst l))
def VF (t : TE) : TE := t
theorem ZV {X : Cx} {e : Expr} {t : TE} (h : PE X e t) : PE X e (VF t) := h
theorem kB {t : TE} {a : AF} (h : yU t a) : zN t (aFz a) :=
 ⟨fun w e q k => h.go w e q fun l M' p xs H' O' q1 k1 w1 o1 m1 hp hx r1 => by
  obtain ⟨ds, e1, q2⟩ := q1
  rw [qP e1] at r1
  have r2 := r1.pure
  exact k _ _ _ _ _ q2 (k1.shown w hp) (Q6 w1 m1 hx) (Rep.lst (fun z => z.1 rfl) hx r2.1 fun i x d e1 e2 => (r2.2 i x d e1 e2).imp (j4 p))⟩
theorem Ks {t : TE} {a : AF} (h : yU t a) : zN (VF t) (aOw a) :=
 ⟨fun w e q k => h.go w e q fun l M' p xs H' O' q1 k1 w1 o1 m1 hp hx r1 => k _ _ _ _ _ (q1 p (w.fresh hp).2 m1) (k1.owned w hp _) (yR w1 o1 m1 hx r1) ⟨rfl, by rw [zt]; exact fun z => nomatch z⟩⟩
def VI (b : AA) : AF := fun ρ M Q => b ρ M fun xs M1 => xs.length <= sizeLine /\ Q xs M1
theorem QO {u : TA} {b : AA} (h : jE u b) : yU (XN u) (VI b) :=
 ⟨fun w e q k => h.go w e q fun x M1 v H1 O1 q1 k1 w1 r1 => ⟨by rw [r1.1]; exact q1.1, fun p hp =>
  k x M1 p v _ _ q1.2 (k1.trans (qj w1 hp _)) (xk w1 hp _ (fun _ z => nomatch z)) (.inl rfl) (w1.fresh hp).2 (by
   cases e0 : (_ : Hp) p with
   | none => exact e0
   | some o =>
    exfalso
    rename_i H0 O0 _ M0 _ _
    by_cases c : O0 p
    ·by_cases c2 : M0 p = none
     ·exact w1.ne p (k1.prv p c c2).2.1 hp
     ·exact w1.ne p (w1.own p (k1.mst p c2)) hp
    ·rw [(k1.fix p o c e0).1] at hp; cases hp) zf (r1.ext (qj w1 hp _))⟩⟩
def VZ (b : AA) : AE := fun ρ M Q => b ρ M fun xs M1 => xs.length <= sizeLine /\ ∃ ds, pur xs = some ds /\ Q (.d (.tup ds)) M1
theorem KP {u : TA} {b : AA} (h : jE u b) : zN (YX u) (VZ b) :=
 ⟨fun w e q k => h.go w e q fun x M1 v H1 O1 q1 k1 w1 r1 => ⟨by rw [r1.1]; exact q1.1, fun p hp => by
  obtain ⟨_, ds, e1, q2⟩ := q1
  rw [qP e1] at r1
  have r2 := r1.pure
  exact k _ _ _ _ _ q2 (k1.trans (qv w1 hp _)) (yc w1 hp _) (Rep.tup (w1.fresh hp).1 zf r2.1 fun i x d e1 e2 => (r2.2 i x d e1 e2).ext (qv w1 hp _))⟩⟩
def aB (a : AE) : AT := fun ρ M Q => a ρ M fun x M1 => ∃ b, x = .d (.bl b) /\ Q b M1
theorem kF {H : Hp} {O : Own} {v : V} {b : Bool} (r : Rep H O v (.bl b)) : v = .bl b := by cases r; rfl
theorem zv {H : Hp} {O : Own} {v : V} {b : Int} (r : Rep H O v (.int b)) : v = .int b := by cases r; rfl
theorem QI {H : Hp} {O : Own} {v : V} {b : String} (r : Rep H O v (.ty b)) : v = .ty b := by cases r; rfl
theorem VX {t : TE} {a : AE} (h : zN t a) : jz (tB t) (aB a) := ⟨fun w e q k => h.go w e q fun x M1 v H1 O1 ⟨b, e1, q1⟩ k1 w1 r1 => by
 subst e1; exact ⟨b, kF r1, k _ _ _ _ q1 k1 w1⟩⟩
theorem Qu {t : TE} {a : AE} (h : zN t a) : jz (Qs t) (aB a) := ⟨fun w e q k => h.go w e q fun x M1 v H1 O1 ⟨b, e1, q1⟩ k1 w1 r1 => by
 subst e1; exact ⟨b, kF r1, k _ _ _ _ q1 k1 w1⟩⟩
def Xp : AT := fun _ M Q => Q true M
theorem ZT : jz Qi Xp := ⟨fun w _ q k => k _ _ _ _ q .refl w⟩
def VW (a b : AT) : AT := fun ρ M Q => a ρ M fun c M1 => if c = true then b ρ M1 Q else Q false M1
def aOr (a b : AT) : AT := fun ρ M Q => a ρ M fun c M1 => if c = true then Q true M1 else b ρ M1 Q
def Yf (a : AT) : AT := fun ρ M Q => a ρ M fun c M1 => Q (!c) M1
theorem K1 {t u : TT} {a b : AT} (h1 : jz t a) (h2 : jz u b) : jz (XO t u) (VW a b) := ⟨fun w e q k => h1.go w e q fun c M1 H1 O1 q1 k1 w1 => by
 cases c with
 | true => exact h2.go w1 (e.ext k1) q1 fun c M2 H2 O2 q2 k2 w2 => k _ _ _ _ q2 (k1.trans k2) w2
 | false => exact k _ _ _ _ q1 k1 w1⟩
theorem VB {t u : TT} {a b : AT} (h1 : jz t a) (h2 : jz u b) : jz (tOr t u) (aOr a b) := ⟨fun w e q k => h1.go w e q fun c M1 H1 O1 q1 k1 w1 => by
 cases c with
 | false => exact h2.go w1 (e.ext k1) q1 fun c M2 H2 O2 q2 k2 w2 => k _ _ _ _ q2 (k1.trans k2) w2
 | true => exact k _ _ _ _ q1 k1 w1⟩
theorem KE {t : TT} {a : AT} (h1 : jz t a) : jz (YV t) (Yf a) := ⟨fun w e q k => h1.go w e q fun c M1 H1 O1 q1 k1 w1 => k _ _ _ _ q1 k1 w1⟩
def Xf (a b : AE) : AE := fun ρ M Q => a ρ M fun x M1 => ∃ c, x = .d (.bl c) /\ if c = true then b ρ M1 Q else Q (.d (.bl false)) M1
theorem Js {t u : TE} {a b : AE} (h1 : zN t a) (h2 : zN u b) : zN (Qf t u) (Xf a b) := ⟨fun w e q k => h1.go w e q fun x M1 v H1 O1 ⟨c, e1, q1⟩ k1 w1 r1 => by
 subst e1
 refine ⟨c, kF r1, ?_⟩
 cases c with
 | true => exact h2.go w1 (e.ext k1) q1 fun c M2 v2 H2 O2 q2 k2 w2 r2 => k _ _ _ _ _ q2 (k1.trans k2) w2 r2
 | false => exact k _ _ _ _ _ q1 k1 w1 .bl⟩
def Qt (r r' : AR2) (a b c : AE) : AE := fun ρ M Q => a ρ M fun x M1 => b ρ M1 fun y M2 => r x y M2 fun z M3 => ∃ k, z = .d (.bl k) /\ if k = true then c ρ M3 fun u M4 => r' y u M4 Q else Q (.d (.bl false)) M3
end L2
set_option Elab.async false
set_option linter.all false
set_option maxRecDepth 100000
set_option maxHeartbeats 4000000
namespace L2
open PySem PySem.Spec PyProof.Rows
theorem wU {r r' : R2} {ar ar' : AR2} {t u v : TE} {a b c : AE} (hr : vh r ar) (hr' : vh r' ar') (h1 : zN t a) (h2 : zN u b) (h3 : zN v c) : zN (Jy r r' t u v) (Qt ar ar' a b c) :=
 ⟨fun w e q k => h1.go w e q fun x M1 v H1 O1 q1 k1 w1 r1 => h2.go w1 (e.ext k1) q1 fun y M2 u H2 O2 q2 k2 w2 r2 => hr.go w2 (r1.ext k2) r2 q2 fun z M3 v3 H3 O3 ⟨c, e3, q3⟩ k3 w3 r3 => by
  subst e3
  refine ⟨c, kF r3, ?_⟩
  have k13 := (k1.trans k2).trans k3
  cases c with
  | false => exact k _ _ _ _ _ q3 k13 w3 .bl
  | true => exact h3.go w3 (e.ext k13) q3 fun z4 M4 v4 H4 O4 q4 k4 w4 r4 => hr'.go w4 ((r2.ext k3).ext k4) r4 q4 fun z5 M5 v5 H5 O5 q5 k5 w5 r5 => k _ _ _ _ _ q5 ((k13.trans k4).trans k5) w5 r5⟩
structure ED (H0 : Hp) (O0 : Own) (M0 : MH) (D : ju) (D' : kE) : Prop where
 nx : ∀ σ H O ρ M, Wf H O M -> Er H O M σ ρ -> Ext H0 O0 M0 H O M -> D'.nx ρ M -> D.nx σ H
 rt : ∀ v x H O M, Wf H O M -> Ext H0 O0 M0 H O M -> zn H O M v x -> D'.rt x M -> D.rt v H
 bk : ∀ σ H O ρ M, Wf H O M -> Er H O M σ ρ -> Ext H0 O0 M0 H O M -> D'.bk ρ M -> D.bk σ H
 ct : ∀ σ H O ρ M, Wf H O M -> Er H O M σ ρ -> Ext H0 O0 M0 H O M -> D'.ct ρ M -> D.ct σ H
theorem ED.tr {H0 H1 : Hp} {O0 O1 : Own} {M0 M1 : MH} {D : ju} {D' : kE} (E : ED H0 O0 M0 D D') (k : Ext H0 O0 M0 H1 O1 M1) : ED H1 O1 M1 D D' :=
 ⟨fun σ H O ρ M w e x q => E.nx σ H O ρ M w e (k.trans x) q, fun v y H O M w x r q => E.rt v y H O M w (k.trans x) r q, fun σ H O ρ M w e x q => E.bk σ H O ρ M w e (k.trans x) q, fun σ H O ρ M w e x q => E.ct σ H O ρ M w e (k.trans x) q⟩
structure jo (t : TS) (a : AS) : Prop where
 go : ∀ {H0 : Hp} {O0 : Own} {M0 : MH} {D : ju} {D' : kE} {σ : St} {H : Hp} {O : Own} {ρ : ASt} {M : MH}, Wf H0 O0 M0 -> Wf H O M -> Er H O M σ ρ -> Ext H0 O0 M0 H O M -> a M0 D' ρ M -> ED H0 O0 M0 D D' -> t D σ H
def vq : AS := fun _ D ρ M => D.nx ρ M
theorem QZ : jo Qk vq := ⟨fun _ w e x q E => E.nx _ _ _ _ _ w e x q⟩
def Zj (a b : AS) : AS := fun B D ρ M => a B { D with nx := b B D } ρ M
theorem Kv {t u : TS} {a b : AS} (h1 : jo t a) (h2 : jo u b) : jo (Y3 t u) (Zj a b) :=
 ⟨fun w0 w e x q E => h1.go w0 w e x q ⟨fun σ H O ρ M w e x q => h2.go w0 w e x q E, E.rt, E.bk, E.ct⟩⟩
def Xn (a : AE) : AS := fun _ D ρ M => a ρ M fun _ M1 => D.nx ρ M1
theorem Qx {t : TE} {a : AE} (h : zN t a) : jo (Qp t) (Xn a) := ⟨fun _ w e x q E => h.go w e q fun y M1 v H1 O1 q1 k1 w1 r1 => E.nx _ _ _ _ _ w1 (e.ext k1) (x.trans k1) q1⟩
def YN (a : AE) : AS := fun _ D ρ M => a ρ M D.rt
theorem KC {t : TE} {a : AE} (h : zN t a) : jo (Vr t) (YN a) := ⟨fun _ w e x q E => h.go w e q fun y M1 v H1 O1 q1 k1 w1 r1 => E.rt _ _ _ _ _ w1 (x.trans k1) r1 q1⟩
def X9 (c : AT) (a b : AS) : AS := fun B D ρ M => c ρ M fun k M1 => if k = true then a B D ρ M1 else b B D ρ M1
theorem K0 {c : TT} {t u : TS} {ac : AT} {a b : AS} (hc : jz c ac) (h1 : jo t a) (h2 : jo u b) : jo (Vy c t u) (X9 ac a b) :=
 ⟨fun w0 w e x q E => hc.go w e q fun k M1 H1 O1 q1 k1 w1 => by
  cases k with
  | true => exact h1.go w0 w1 (e.ext k1) (x.trans k1) q1 E
  | false => exact h2.go w0 w1 (e.ext k1) (x.trans k1) q1 E⟩
structure yr (g : TG) (a : AG) : Prop where
 go : ∀ {v : V} {x : AV} {σ : St} {H : Hp} {O : Own} {ρ : ASt} {M : MH} {Q : St -> Hp -> Prop} {Q' : ASt -> MH -> Prop}, Wf H O M -> Er H O M σ ρ -> zn H O M v x -> a x ρ M Q' ->
  (∀ σ' H' O' ρ' M', Q' ρ' M' -> Ext H O M H' O' M' -> Wf H' O' M' -> Er H' O' M' σ' ρ' -> Q σ' H') -> g v σ H Q
structure wa (g : TGs) (a : AGs) : Prop where
 go : ∀ {v : List V} {x : List AV} {σ : St} {H : Hp} {O : Own} {ρ : ASt} {M : MH} {Q : St -> Hp -> Prop} {Q' : ASt -> MH -> Prop}, Wf H O M -> Er H O M σ ρ -> zg H O M v x -> a x ρ M Q' ->
  (∀ σ' H' O' ρ' M', Q' ρ' M' -> Ext H O M H' O' M' -> Wf H' O' M' -> Er H' O' M' σ' ρ' -> Q σ' H') -> g v σ H Q
def vE (i : Nat) : AG := fun x ρ M Q => Q (ρ.set i (some x)) M
theorem Zx {i : Nat} : yr (yK i) (vE i) := ⟨fun w e r q k => k _ _ _ _ _ q .refl w (e.set r i)⟩
def Xw : AGs := fun xs ρ M Q => xs = [] /\ Q ρ M
def Q9 (a : AG) (b : AGs) : AGs := fun xs ρ M Q => ∃ x r, xs = x :: r /\ a x ρ M fun ρ' M' => b r ρ' M' Q
theorem Qc : wa Vj Xw := ⟨fun w e r q k => by obtain ⟨e1, q⟩ := q; subst e1; exact ⟨r.nil_inv, k _ _ _ _ _ q .refl w e⟩⟩
theorem ZE {g : TG} {u : TGs} {a : AG} {b : AGs} (h1 : yr g a) (h2 : wa u b) : wa (JE g u) (Q9 a b) := ⟨fun w e r q k => by
 obtain ⟨x, r', e1, q⟩ := q; subst e1
 obtain ⟨v, vr, e2, rv, rr⟩ := r.cons_inv
 subst e2
 exact ⟨v, vr, rfl, h1.go w e rv q fun σ' H' O' ρ' M' q1 k1 w1 e1 => h2.go w1 e1 (rr.ext k1) q1 fun σ2 H2 O2 ρ2 M2 q2 k2 w2 e2 => k _ _ _ _ _ q2 (k1.trans k2) w2 e2⟩⟩
def Xq (n : Nat) (b : AGs) : AG := fun x ρ M Q => ∃ l, x = .d (.tup l) /\ l.length = n /\ b (l.map .d) ρ M Q
theorem Z9 {K : PySem.W.Frag} {n : Nat} {u : TGs} {b : AGs} (h : wa u b) : yr (K3 K n u) (Xq n b) := ⟨fun {v x σ H O ρ M Q Q'} w e r q k => by
 obtain ⟨l, e1, ln, q⟩ := q; subst e1
 cases (show Rep H O v (.tup l) from r) with
 | @tup a xs _ o1 h1 l1 r1 => exact ⟨a, xs, rfl, SqT.of h1, l1.trans ln, h.go w e (wZ.av ⟨l1, r1⟩) q k⟩⟩
def qp (x : AV) (M : MH) : Option (List AV) := match x with
 | .d (.lst l) => some (l.map .d)
 | .ref a => match M a with
  | some (.lst l) => some l
  | _ => none
 | _ => none
def Yc (x : AV) : Option (List AV) := match x with
 | .d (.tup l) => some (l.map .d)
 | _ => none
def qw (x : AV) (M : MH) : Option (List AV) := match x with
 | .d (.lst l) => some (l.map .d)
 | .d (.tup l) => some (l.map .d)
 | .ref a => match M a with
  | some (.lst l) => some l
  | _ => none
 | _ => none
theorem Q1 (l : List Dat) (M : MH) : qp (.d (.lst l)) M = some (l.map .d) := rfl
theorem Vb (l : List Dat) : Yc (.d (.tup l)) = some (l.map .d) := rfl
theorem Vp (l : List Dat) (M : MH) : qw (.d (.lst l)) M = some (l.map .d) := rfl
theorem Yr (l : List Dat) (M : MH) : qw (.d (.tup l)) M = some (l.map .d) := rfl
theorem xf {a : Addr} {M : MH} {l : List AV} (h : M a = some (.lst l)) : qp (.ref a) M = some l := by unfold qp; dsimp only; rw [h]
theorem kW {a : Addr} {M : MH} {l : List AV} (h : M a = some (.lst l)) : qw (.ref a) M = some l := by unfold qw; dsimp only; rw [h]
theorem xc {x : AV} {M : MH} {l : List AV} (h : qp x M = some l) : (∃ m, x = .d (.lst m) /\ l = m.map .d) \/ ∃ a, x = .ref a /\ M a = some (.lst l) := by
 cases x with
 | d x =>
  cases x with
  | lst m => cases h; exact .inl ⟨m, rfl, rfl⟩
  | _ => cases h
 | ref a =>
  unfold qp at h
  dsimp only at h
  cases e : M a with
  | none => rw [e] at h; cases h
  | some o =>
   rw [e] at h
   cases o with
   | lst m => cases h; exact .inr ⟨a, rfl, e⟩
   | _ => cases h
theorem qz {x : AV} {M : MH} {l : List AV} (h : qw x M = some l) : qp x M = some l \/ ∃ m, x = .d (.tup m) /\ l = m.map .d := by
 cases x with
 | d x =>
  cases x with
  | lst m => cases h; exact .inl rfl
  | tup m => cases h; exact .inr ⟨m, rfl, rfl⟩
  | _ => cases h
 | ref a => exact .inl h
theorem qi {H : Hp} {O : Own} {M : MH} {v : V} {x : AV} {l : List AV} (w : Wf H O M) (r : zn H O M v x) (h : qp x M = some l) : ∃ a xs, v = .ref a /\ H a = some (.lst xs) /\ zg H O M xs l := by
 rcases xc h with ⟨m, rfl, rfl⟩ | ⟨a, rfl, e⟩
 ·cases (show Rep H O v (.lst m) from r) with
  | @lst a xs _ o1 h1 l1 r1 => exact ⟨a, xs, rfl, h1, wZ.av ⟨l1, r1⟩⟩
 ·obtain ⟨xs, h1, r1⟩ := w.mo a _ e
  exact ⟨a, xs, r.1, h1, r1⟩
theorem jp {H : Hp} {O : Own} {M : MH} {v : V} {x : AV} {l : List AV} (r : zn H O M v x) (h : Yc x = some l) : ∃ a xs, v = .ref a /\ H a = some (.tup xs) /\ zg H O M xs l := by
 cases x with
 | ref a => cases h
 | d x =>
  cases x with
  | tup m =>
   cases h
   cases (show Rep H O v (.tup m) from r) with
   | @tup a xs _ o1 h1 l1 r1 => exact ⟨a, xs, rfl, h1, wZ.av ⟨l1, r1⟩⟩
  | _ => cases h
theorem Jl {H : Hp} {O : Own} {M : MH} {v : V} {x : AV} {l : List AV} (w : Wf H O M) (r : zn H O M v x) (h : qw x M = some l) : ∃ a xs, v = .ref a /\ (H a = some (.lst xs) \/ H a = some (.tup xs)) /\ zg H O M xs l := by
 rcases qz h with e | ⟨m, rfl, rfl⟩
 ·obtain ⟨a, xs, h1, h2, h3⟩ := qi w r e; exact ⟨a, xs, h1, .inl h2, h3⟩
 ·obtain ⟨a, xs, h1, h2, h3⟩ := jp (l := m.map .d) r rfl; exact ⟨a, xs, h1, .inr h2, h3⟩
structure Q8 (t : QD) (a : AV -> AV -> AV -> MH -> (MH -> Prop) -> Prop) : Prop where
 go : ∀ {o i v : V} {ao ai av : AV} {H : Hp} {O : Own} {M : MH} {Q : Hp -> Prop} {Q' : MH -> Prop}, Wf H O M -> zn H O M o ao -> zn H O M i ai -> zn H O M v av -> a ao ai av M Q' -> (∀ M' H' O', Q' M' -> Ext H O M H' O' M' -> Wf H' O' M' -> Q H') -> t o i v H Q
def QR (a b : AE) (s : AV -> AV -> AV -> MH -> (MH -> Prop) -> Prop) : AG := fun x ρ M Q => a ρ M fun o M1 => b ρ M1 fun i M2 => s o i x M2 fun M3 => Q ρ M3
theorem QN {to ti : TE} {t : QD} {a b : AE} {s : AV -> AV -> AV -> MH -> (MH -> Prop) -> Prop} (h1 : zN to a) (h2 : zN ti b) (h3 : Q8 t s) : yr (XT to ti t) (QR a b s) := ⟨fun w e r q k =>
 h1.go w e q fun x M1 v H1 O1 q1 k1 w1 r1 => h2.go w1 (e.ext k1) q1 fun y M2 u H2 O2 q2 k2 w2 r2 => h3.go w2 (r1.ext k2) r2 (r.ext (k1.trans k2)) q2 fun M3 H3 O3 q3 k3 w3 => k _ _ _ _ _ q3 ((k1.trans k2).trans k3) w3 (e.ext ((k1.trans k2).trans k3))⟩
theorem qQ {M : MH} {p : Addr} {o : MO} (h : M p = some o) : M p ≠ none := by rw [h]; exact fun z => nomatch z
def asL : AV -> AV -> AV -> MH -> (MH -> Prop) -> Prop := fun o i v M Q => ∃ p l k j, o = .ref p /\ i = .d (.int k) /\ M p = some (.lst l) /\ ixN l.length k = some j /\ Q (mup M p (.lst (l.set j v)))
theorem ZW : Q8 vU asL := ⟨fun w ro ri rv q k => by
 obtain ⟨p, l, n, j, rfl, rfl, hm, hj, q⟩ := q
 obtain ⟨xs, hx, rx⟩ := w.mo p _ hm
 have np := qQ hm
 refine ⟨n, zv ri, p, ro.1, xs, hx, j, by rw [rx.1]; exact hj, k _ _ _ q (jF w np _ _) (Z4 w np (fun _ z => nomatch z) ⟨_, zf, (rx.set rv j).ext (jF w np _ _)⟩)⟩⟩
def XJ (a : AE) (g : AG) : AS := fun _ D ρ M => a ρ M fun x M1 => g x ρ M1 D.nx
theorem KQ {t : TE} {g : TG} {a : AE} {ag : AG} (h : zN t a) (hg : yr g ag) : jo (ZR t g) (XJ a ag) := ⟨fun _ w e x q E => h.go w e q fun y M1 v H1 O1 q1 k1 w1 r1 => hg.go w1 (e.ext k1) r1 q1 fun σ2 H2 O2 ρ2 M2 q2 k2 w2 e2 => E.nx _ _ _ _ _ w2 e2 ((x.trans k1).trans k2) q2⟩
structure Wt (t : TIp) (a : AR2) : Prop where
 go : ∀ {x y : V} {dx dy : AV} {H : Hp} {O : Own} {M : MH} {Q : VK} {Q' : AK}, Wf H O M -> zn H O M x dx -> zn H O M y dy -> a dx dy M Q' -> (∀ x M' v H' O', Q' x M' -> Ext H O M H' O' M' -> Wf H' O' M' -> zn H' O' M' v x -> Q v H') -> t x y H Q
def kP (J : It) (H : Hp) (O : Own) (M : MH) (l : List AV) (G : MH -> Prop) : Prop :=
 ∀ (H' : Hp) (O' : Own) (M' : MH), (∀ a o, ¬ O a -> H a = some o -> H' a = some o /\ ¬ O' a) -> (∀ a, M a ≠ none -> M' a ≠ none) -> Wf H' O' M' -> G M' -> ∀ i : Nat, (i = l.length -> J.stop i H') /\
  ∀ y, l[i]? = some y -> J.go i H' /\ ∀ x H'', J.yld i H' x H'' -> Ext H' O' M' H'' O' M' /\ Wf H'' O' M' /\ zn H'' O' M' x y
structure Zg (wi : TI) (ai : AI) : Prop where
 go : ∀ {σ : St} {H : Hp} {O : Own} {ρ : ASt} {M : MH} {R : It -> Hp -> Prop} {R' : List AV -> (MH -> Prop) -> MH -> Prop}, Wf H O M -> Er H O M σ ρ -> ai ρ M R' -> (∀ l G M' J H' O', R' l G M' -> Ext H O M H' O' M' -> Wf H' O' M' -> kP J H' O' M' l G -> R J H') -> wi σ H R
def Xm (ag : AG) (ab : AS) (B : MH) (D : kE) (G : MH -> Prop) (l : List AV) (ρ : ASt) (M : MH) : Prop :=
 ∃ Pv : Nat -> ASt -> MH -> Prop, Pv 0 ρ M /\ (∀ i x ρ M, l[i]? = some x -> Pv i ρ M -> G M /\ ag x ρ M fun ρ' M' => ab B { D with nx := Pv (i + 1), ct := Pv (i + 1), bk := D.nx } ρ' M') /\ ∀ ρ M, Pv l.length ρ M -> G M /\ D.nx ρ M
def VE (ai : AI) (ag : AG) (ab : AS) : AS := fun _ D ρ M => ai ρ M fun l G M1 => Xm ag ab M1 D G l ρ M1
theorem KJ {wi : TI} {g : TG} {t : TS} {ai : AI} {ag : AG} {ab : AS} (hi : Zg wi ai) (hg : yr g ag) (hb : jo t ab) : jo (Vt wi g t) (VE ai ag ab) := ⟨fun {H0 O0 M0 D D' σ H O ρ M} w0 w e x q E => by
 rw [wo]
 refine hi.go w e q fun l G M1 J H1 O1 q1 k1 w1 hj => ?_
 have E1 := E.tr (x.trans k1)
 obtain ⟨Pv, p0, ps, pd⟩ := q1
 refine ⟨fun i m σ H => m = l.length - i /\ i <= l.length /\ ∃ O ρ M, Wf H O M /\ Er H O M σ ρ /\ Ext H1 O1 M1 H O M /\ Pv i ρ M, ⟨l.length, by simp, Nat.zero_le _, O1, ρ, M1, w1, e.ext k1, .refl, p0⟩, ?_⟩
 rintro i m σ H ⟨rfl, hi, O, ρ, M, w, e, x, hf⟩
 by_cases hil : i < l.length
 ·have hy : l[i]? = some l[i] := List.getElem?_eq_getElem hil
  obtain ⟨hG, q2⟩ := ps i l[i] ρ M hy hf
  obtain ⟨j1, j2⟩ := (hj H O M x.fix x.mst w hG i).2 l[i] hy
  refine .inr ⟨j1, fun σ' H' => ∃ O ρ M, Wf H' O M /\ Er H' O M σ' ρ /\ Ext H1 O1 M1 H' O M /\ Pv (i + 1) ρ M, fun σ' H' z => ⟨l.length - (i + 1), by omega, rfl, hil, z⟩, fun v H' hv => ?_⟩
  obtain ⟨k2, w2, r2⟩ := j2 v H' hv
  refine hg.go w2 (e.ext k2) r2 q2 fun σ3 H3 O3 ρ3 M3 q3 k3 w3 e3 => ?_
  exact hb.go w1 w3 e3 ((x.trans k2).trans k3) q3 ⟨fun σ H O ρ M w e x q => ⟨O, ρ, M, w, e, x, q⟩, E1.rt, E1.nx, fun σ H O ρ M w e x q => ⟨O, ρ, M, w, e, x, q⟩⟩
 ·have e0 : i = l.length := by omega
  subst e0
  obtain ⟨hG, q2⟩ := pd ρ M hf
  exact .inl ⟨(hj H O M x.fix x.mst w hG l.length).1 rfl, E1.nx _ _ _ _ _ w e x q2⟩⟩
end L2
set_option Elab.async false
set_option linter.all false
set_option maxRecDepth 100000
set_option maxHeartbeats 4000000
namespace L2
open PySem PySem.Spec PyProof.Rows
theorem jT {H H1 : Hp} {O O1 : Own} {M M1 : MH} (w1 : Wf H1 O1 M1) (k1 : Ext H O M H1 O1 M1) {p : Addr} (hp : H1 p = none) : H p = none := by
 cases e0 : H p with
 | none => rfl
 | some o =>
  exfalso
  by_cases c : O p
  ·by_cases c2 : M p = none
   ·exact w1.ne p (k1.prv p c c2).2.1 hp
   ·exact w1.ne p (w1.own p (k1.mst p c2)) hp
  ·rw [(k1.fix p o c e0).1] at hp; cases hp
theorem Zi {K : PySem.W.Frag} {H : Hp} {O : Own} {M : MH} {a : Addr} {x : AV} {l : List AV} (r : zn H O M (.ref a) x) (h : qp x M = some l) : kP (Itl K a) H O M l (fun M' => qp x M' = some l) := by
 intro H' O' M' fix mst w' hG i
 obtain ⟨a', xs, e, h1, r1⟩ := qi w' (r.imp fix mst) hG
 cases e
 refine ⟨fun e => ⟨xs, SqL.of h1, by rw [r1.1]; omega⟩, fun y hy => ?_⟩
 obtain ⟨v, hv, rv⟩ := r1.get hy
 refine ⟨⟨xs, v, SqL.of h1, hv⟩, fun z H'' hz => ?_⟩
 obtain ⟨e1, e2⟩ := hz
 subst e1
 have := e2 xs (SqL.of h1)
 rw [hv] at this; cases this
 exact ⟨.refl, w', rv⟩
theorem QB {K : PySem.W.Frag} {H : Hp} {O : Own} {M : MH} {a : Addr} {x : AV} {l : List AV} (r : zn H O M (.ref a) x) (h : Yc x = some l) : kP (Itt K a) H O M l (fun _ => True) := by
 intro H' O' M' fix mst w' hG i
 obtain ⟨a', xs, e, h1, r1⟩ := jp (r.imp fix mst) h
 cases e
 refine ⟨fun e => ⟨xs, SqT.of h1, by rw [r1.1]; omega⟩, fun y hy => ?_⟩
 obtain ⟨v, hv, rv⟩ := r1.get hy
 refine ⟨⟨xs, v, SqT.of h1, hv⟩, fun z H'' hz => ?_⟩
 obtain ⟨e1, e2⟩ := hz
 subst e1
 have := e2 xs (SqT.of h1)
 rw [hv] at this; cases this
 exact ⟨.refl, w', rv⟩
def aiS (a : AE) : AI := fun ρ M R => a ρ M fun x M1 => ∃ l, qw x M1 = some l /\ R l (fun M' => qw x M' = some l) M1
theorem kP.mono {J : It} {H : Hp} {O : Own} {M : MH} {l : List AV} {G G' : MH -> Prop} (h : kP J H O M l G) (k : ∀ M, G' M -> G M) : kP J H O M l G' := fun H' O' M' fix mst w' hG => h H' O' M' fix mst w' (k _ hG)
theorem XB {K : PySem.W.Frag} {t : TE} {a : AE} (h : zN t a) : Zg (iLT K t) (aiS a) := ⟨fun w e q k => h.go w e q fun x M1 v H1 O1 ⟨l, hl, q1⟩ k1 w1 r1 => by
 rcases qz hl with hl' | ⟨m, rfl, rfl⟩
 ·obtain ⟨a, xs, rfl, h1, _⟩ := qi w1 r1 hl'
  refine ⟨a, rfl, .inl ⟨⟨xs, SqL.of h1⟩, k _ _ _ _ _ _ q1 k1 w1 ((Zi r1 hl').mono fun M hM => ?_)⟩⟩
  rcases qz hM with z | ⟨m, rfl, rfl⟩
  ·exact z
  ·cases hl'
 ·obtain ⟨a, xs, rfl, h1, _⟩ := jp (l := m.map .d) r1 rfl
  exact ⟨a, rfl, .inr ⟨⟨xs, SqT.of h1⟩, k _ _ _ _ _ _ q1 k1 w1 ((QB r1 rfl).mono fun _ _ => trivial)⟩⟩⟩
def Zf (lo c : Int) (n : Nat) : List AV := (List.range n).map fun (k : Nat) => .d (.int (lo + (k : Int) * c))
theorem xl (lo c : Int) (n : Nat) : (Zf lo c n).length = n := by simp [Zf]
theorem kU {lo c : Int} {n i : Nat} {y : AV} (h : (Zf lo c n)[i]? = some y) : i < n /\ y = .d (.int (lo + (i : Int) * c)) := by
 have hi := (List.getElem?_eq_some_iff.mp h).1
 rw [xl] at hi
 unfold Zf at h
 rw [List.getElem?_map, List.getElem?_range hi] at h
 cases h
 exact ⟨hi, rfl⟩
theorem ZN {H : Hp} {O : Own} {M : MH} (lo : Int) (n : Nat) : kP (Itr lo n) H O M (Zf lo 1 n) (fun _ => True) := by
 intro H' O' M' fix mst w' hG i
 refine ⟨fun e => by rw [xl] at e; exact Nat.le_of_eq e.symm, fun y hy => ?_⟩
 obtain ⟨hi, rfl⟩ := kU hy
 refine ⟨hi, fun z H'' hz => ?_⟩
 obtain ⟨rfl, rfl⟩ := hz
 rw [Int.mul_one]
 exact ⟨.refl, w', .int⟩
def VR (a : AA) : AI := fun ρ M R => a ρ M fun xs M1 => ∃ j : Int, xs = [.d (.int j)] /\ -(2 ^ 62) <= j /\ j < 2 ^ 62 /\ R (Zf 0 1 j.toNat) (fun _ => True) M1
theorem Ko {t : TA} {a : AA} (h : jE t a) : Zg (Qr t) (VR a) := ⟨fun w e q k => h.go w e q fun x M1 v H1 O1 ⟨j, e1, j1, j2, q1⟩ k1 w1 r1 => by
 subst e1
 obtain ⟨v1, r', rfl, a1, r2⟩ := r1.cons_inv
 rw [r2.nil_inv, zv a1]
 exact ⟨j, rfl, j1, j2, k _ _ _ _ _ _ q1 k1 w1 (ZN _ _)⟩⟩
def kK (m : List Dat) : List AV := (List.range m.length).map fun (i : Nat) => .d (.tup [.int (i : Int), m.getD i .non])
theorem j5 (m : List Dat) : (kK m).length = m.length := by simp [kK]
theorem j6 {m : List Dat} {i : Nat} {y : AV} (h : (kK m)[i]? = some y) : ∃ d, m[i]? = some d /\ y = .d (.tup [.int (i : Int), d]) := by
 have hi := (List.getElem?_eq_some_iff.mp h).1
 rw [j5] at hi
 unfold kK at h
 rw [List.getElem?_map, List.getElem?_range hi] at h
 cases h
 exact ⟨m[i], List.getElem?_eq_getElem hi, by dsimp only; rw [List.getD_eq_getElem?_getD, List.getElem?_eq_getElem hi]; rfl⟩
theorem yJ {H : Hp} {O : Own} {M : MH} (w : Wf H O M) {p : Addr} (hp : H p = none) {x y : V} {d e : Dat} (r1 : Rep H O x d) (r2 : Rep H O y e) : Ext H O M (upd H p (.tup [x, y])) O M /\ Wf (upd H p (.tup [x, y])) O M /\ zn (upd H p (.tup [x, y])) O M (.ref p) (.d (.tup [d, e])) :=
 ⟨qv w hp _, yc w hp _, Rep.tup (w.fresh hp).1 zf rfl fun i z f h1 h2 => by
  match i, h1, h2 with
  | 0, h1, h2 => cases h1; cases h2; exact r1.ext (qv w hp _)
  | 1, h1, h2 => cases h1; cases h2; exact r2.ext (qv w hp _)
  | (i + 2), h1, _ => cases h1⟩
theorem ZA {K : PySem.W.Frag} {H : Hp} {O : Own} {M : MH} {a : Addr} {x : AV} {m : List Dat} (r : zn H O M (.ref a) x) (h : qp x M = some (m.map .d)) : kP (Ite K a) H O M (kK m) (fun M' => qp x M' = some (m.map .d)) := by
 intro H' O' M' fix mst w' hG i
 obtain ⟨a', xs, e, h1, r1⟩ := qi w' (r.imp fix mst) hG
 cases e
 have l1 := r1.1
 rw [List.length_map] at l1
 refine ⟨fun e => ⟨xs, SqL.of h1, by rw [j5] at e; omega⟩, fun y hy => ?_⟩
 obtain ⟨d, hd, rfl⟩ := j6 hy
 obtain ⟨v, hv, rv⟩ := r1.get (i := i) (d := .d d) (by rw [List.getElem?_map, hd]; rfl)
 refine ⟨⟨xs, v, SqL.of h1, hv⟩, fun z H'' hz => ?_⟩
 obtain ⟨p, x', hp, rfl, e2, rfl⟩ := hz
 have := e2 xs (SqL.of h1)
 rw [hv] at this; cases this
 exact yJ w' hp .int rv
theorem vG {K : PySem.W.Frag} {H : Hp} {O : Own} {M : MH} {a : Addr} {m : List Dat} (r : zn H O M (.ref a) (.d (.tup m))) : kP (YU K a) H O M (kK m) (fun _ => True) := by
 intro H' O' M' fix mst w' hG i
 obtain ⟨a', xs, e, h1, r1⟩ := jp (l := m.map .d) (r.imp fix mst) rfl
 cases e
 have l1 := r1.1
 rw [List.length_map] at l1
 refine ⟨fun e => ⟨xs, SqT.of h1, by rw [j5] at e; omega⟩, fun y hy => ?_⟩
 obtain ⟨d, hd, rfl⟩ := j6 hy
 obtain ⟨v, hv, rv⟩ := r1.get (i := i) (d := .d d) (by rw [List.getElem?_map, hd]; rfl)
 refine ⟨⟨xs, v, SqT.of h1, hv⟩, fun z H'' hz => ?_⟩
 obtain ⟨p, x', hp, rfl, e2, rfl⟩ := hz
 have := e2 xs (SqT.of h1)
 rw [hv] at this; cases this
 exact yJ w' hp .int rv
def aiE (a : AA) : AI := fun ρ M R => a ρ M fun xs M1 => ∃ x l m, xs = [x] /\ qw x M1 = some l /\ pur l = some m /\ R (kK m) (fun M' => qw x M' = some l) M1
theorem vB {x : AV} {M M' : MH} {l l' : List AV} (h : qp x M = some l) (h' : qw x M' = some l') : qp x M' = some l' := by
 rcases qz h' with z | ⟨m, rfl, rfl⟩
 ·exact z
 ·cases h
theorem Ym {K : PySem.W.Frag} {t : TA} {a : AA} (h : jE t a) : Zg (xW K t) (aiE a) := ⟨fun w e q k => h.go w e q fun xs M1 v H1 O1 ⟨x, l, m, e1, hl, hm, q1⟩ k1 w1 r1 => by
 subst e1
 obtain ⟨v1, r', rfl, a1, r2⟩ := r1.cons_inv
 rw [r2.nil_inv]
 rw [qP hm] at hl q1
 rcases qz hl with hl' | ⟨m', rfl, e2⟩
 ·obtain ⟨a, xs, rfl, h1, _⟩ := qi w1 a1 hl'
  exact ⟨a, rfl, .inl ⟨⟨xs, SqL.of h1⟩, k _ _ _ _ _ _ q1 k1 w1 ((ZA a1 hl').mono fun M hM => vB hl' hM)⟩⟩
 ·obtain rfl : m = m' := by have := congrArg pur e2; rw [qu, qu] at this; cases this; rfl
  obtain ⟨a, xs, rfl, h1, _⟩ := jp (l := m.map .d) a1 rfl
  exact ⟨a, rfl, .inr ⟨⟨xs, SqT.of h1⟩, k _ _ _ _ _ _ q1 k1 w1 ((vG a1).mono fun _ _ => trivial)⟩⟩⟩
structure ko (D : Addr) (H : Hp) (O : Own) (M : MH) (H' : Hp) (O' : Own) (M' : MH) : Prop where
 fix : ∀ a o, ¬ O a -> H a = some o -> H' a = some o /\ ¬ O' a
 prv : ∀ a, a ≠ D -> O a -> M a = none -> H' a = H a /\ O' a /\ M' a = none
 mst : ∀ a, M a ≠ none -> M' a ≠ none
theorem Ext.x {D : Addr} {H H' : Hp} {O O' : Own} {M M' : MH} (k : Ext H O M H' O' M') : ko D H O M H' O' M' := ⟨k.fix, fun a _ => k.prv a, k.mst⟩
theorem ko.trans {D : Addr} {H H1 H2 : Hp} {O O1 O2 : Own} {M M1 M2 : MH} (a : ko D H O M H1 O1 M1) (b : ko D H1 O1 M1 H2 O2 M2) : ko D H O M H2 O2 M2 :=
 ⟨fun x o h e => let ⟨e1, h1⟩ := a.fix x o h e; b.fix x o h1 e1, fun x hx h e => by
  obtain ⟨e1, h1, n1⟩ := a.prv x hx h e
  obtain ⟨e2, h2, n2⟩ := b.prv x hx h1 n1
  exact ⟨e2.trans e1, h2, n2⟩, fun x h => b.mst x (a.mst x h)⟩
theorem ko.set {D : Addr} {H : Hp} {O : Own} {M : MH} (hO : O D) (o : HO) : ko D H O M (upd H D o) O M := ⟨kr hO o, fun a ha h e => ⟨zh ha, h, e⟩, fun _ h => h⟩
theorem Er.imp {H H' : Hp} {O O' : Own} {M M' : MH} {σ : St} {ρ : ASt} (e : Er H O M σ ρ) (k : ∀ a o, ¬ O a -> H a = some o -> H' a = some o /\ ¬ O' a) (hm : ∀ a, M a ≠ none -> M' a ≠ none) : Er H' O' M' σ ρ := ⟨e.len, fun i x h => let ⟨v, h1, h2⟩ := e.get i x h; ⟨v, h1, h2.imp k hm⟩⟩
abbrev ATR := List AV -> ASt -> MH -> (List AV -> ASt -> MH -> Prop) -> Prop
structure wx (D : Addr) (tr : TR) (a : ATR) : Prop where
 go : ∀ {σ : St} {H : Hp} {O : Own} {ρ : ASt} {M : MH} {acc : List AV} {ys : List V} {N : St -> Hp -> Prop} {N' : List AV -> ASt -> MH -> Prop}, Wf H O M -> Er H O M σ ρ -> O D -> M D = none -> H D = some (.lst ys) -> zg H O M ys acc -> a acc ρ M N' ->
  (∀ acc' ρ' M' σ' H' O' ys', N' acc' ρ' M' -> ko D H O M H' O' M' -> Wf H' O' M' -> Er H' O' M' σ' ρ' -> O' D -> M' D = none -> H' D = some (.lst ys') -> zg H' O' M' ys' acc' -> N σ' H') -> tr σ H N
def we (a : AE) : ATR := fun acc ρ M N => a ρ M fun x M1 => acc.length < sizeLine /\ N (acc ++ [x]) ρ M1
theorem yI {D : Addr} {t : TE} {a : AE} (h : zN t a) : wx D (v6 t D) (we a) := ⟨fun {σ H O ρ M acc ys N N'} w e o m hd r q k => h.go w e q fun x M1 v H1 O1 ⟨q0, q1⟩ k1 w1 r1 => by
 obtain ⟨e1, o1, m1⟩ := k1.prv D o m
 have r' := r.ext k1
 refine ⟨ys, e1.trans hd, by rw [r.1]; exact q0, k _ _ _ _ _ _ (ys ++ [v]) q1 (k1.x.trans (ko.set o1 _)) (vP w1 o1 m1 (e1.trans hd) _ (fun _ z => nomatch z)) ((e.ext k1).imp (kr o1 _) (fun _ z => z)) o1 m1 zf ((r'.snoc r1).imp (kr o1 _) (fun _ z => z))⟩⟩
def Ys (ag : AG) (at_ : AT) (tr : ATR) (G : MH -> Prop) (N : List AV -> ASt -> MH -> Prop) (l acc : List AV) (ρ : ASt) (M : MH) : Prop :=
 ∃ Pv : Nat -> List AV -> ASt -> MH -> Prop, Pv 0 acc ρ M /\ (∀ i x acc ρ M, l[i]? = some x -> Pv i acc ρ M -> G M /\ ag x ρ M fun ρ2 M2 => at_ ρ2 M2 fun b M3 => if b = true then tr acc ρ2 M3 (Pv (i + 1)) else Pv (i + 1) acc ρ2 M3) /\ ∀ acc ρ M, Pv l.length acc ρ M -> G M /\ N acc ρ M
theorem Vc {D : Addr} {g : TG} {tt : TT} {tr : TR} {ag : AG} {at_ : AT} {atr : ATR} (hg : yr g ag) (ht : jz tt at_) (hr : wx D tr atr) {J : It} {H1 : Hp} {O1 : Own} {M1 : MH} {l : List AV} {G : MH -> Prop} (hj : kP J H1 O1 M1 l G) {N' : List AV -> ASt -> MH -> Prop} {N : St -> Hp -> Prop}
  {σ : St} {ρ : ASt} {acc : List AV} {ys : List V} (w : Wf H1 O1 M1) (e : Er H1 O1 M1 σ ρ) (o : O1 D) (m : M1 D = none) (hd : H1 D = some (.lst ys)) (r : zg H1 O1 M1 ys acc) (q : Ys ag at_ atr G N' l acc ρ M1)
  (k : ∀ acc' ρ' M' σ' H' O' ys', N' acc' ρ' M' -> ko D H1 O1 M1 H' O' M' -> Wf H' O' M' -> Er H' O' M' σ' ρ' -> O' D -> M' D = none -> H' D = some (.lst ys') -> zg H' O' M' ys' acc' -> N σ' H') : CL J g tt tr N σ H1 := by
 obtain ⟨Pv, p0, ps, pd⟩ := q
 refine ⟨fun i n σ H => n = l.length - i /\ i <= l.length /\ ∃ O ρ M acc ys, Wf H O M /\ Er H O M σ ρ /\ ko D H1 O1 M1 H O M /\ O D /\ M D = none /\ H D = some (.lst ys) /\ zg H O M ys acc /\ Pv i acc ρ M,
  ⟨l.length, by simp, Nat.zero_le _, O1, ρ, M1, acc, ys, w, e, Ext.refl.x, o, m, hd, r, p0⟩, ?_⟩
 rintro i n σ H ⟨rfl, hi, O, ρ, M, acc, ys, w, e, x, o, m, hd, r, hf⟩
 by_cases hil : i < l.length
 ·have hy : l[i]? = some l[i] := List.getElem?_eq_getElem hil
  obtain ⟨hG, q2⟩ := ps i l[i] acc ρ M hy hf
  obtain ⟨j1, j2⟩ := (hj H O M x.fix x.mst w hG i).2 l[i] hy
  refine .inr ⟨j1, fun σ' H' => ∃ O ρ M acc ys, Wf H' O M /\ Er H' O M σ' ρ /\ ko D H1 O1 M1 H' O M /\ O D /\ M D = none /\ H' D = some (.lst ys) /\ zg H' O M ys acc /\ Pv (i + 1) acc ρ M, fun σ' H' z => ⟨l.length - (i + 1), by omega, rfl, hil, z⟩, fun v H' hv => ?_⟩
  obtain ⟨k2, w2, r2⟩ := j2 v H' hv
  refine hg.go w2 (e.ext k2) r2 q2 fun σ3 H3 O3 ρ3 M3 q3 k3 w3 e3 => ?_
  refine ht.go w3 e3 q3 fun b M4 H4 O4 q4 k4 w4 => ?_
  have k24 := (k2.trans k3).trans k4
  obtain ⟨d4, o4, m4⟩ := k24.prv D o m
  have r4 := r.ext k24
  cases b with
  | true =>
   exact hr.go w4 (e3.ext k4) o4 m4 (d4.trans hd) r4 q4 fun acc' ρ' M' σ' H' O' ys' q5 k5 w5 e5 o5 m5 d5 r5 => ⟨O', ρ', M', acc', ys', w5, e5, (x.trans k24.x).trans k5, o5, m5, d5, r5, q5⟩
  | false =>
   exact ⟨O4, ρ3, M4, acc, ys, w4, e3.ext k4, x.trans k24.x, o4, m4, d4.trans hd, r4, q4⟩
 ·have e0 : i = l.length := by omega
  subst e0
  obtain ⟨hG, q2⟩ := pd acc ρ M hf
  exact .inl ⟨(hj H O M x.fix x.mst w hG l.length).1 rfl, k _ _ _ _ _ _ _ q2 x w e o m hd r⟩
def Jc (ts : List Nat) (ai : AI) (ag : AG) (at_ : AT) (atr : ATR) : AF := fun ρ M Q => ai ρ M fun l G M1 => Ys ag at_ atr G (fun acc _ M' => Q acc M') l [] (Kr ts ρ) M1
theorem vv {ts : List Nat} {wi : TI} {g : TG} {tt : TT} {tr : Addr -> TR} {ai : AI} {ag : AG} {at_ : AT} {atr : ATR} (hi : Zg wi ai) (hg : yr g ag) (ht : jz tt at_) (hr : ∀ D, wx D (tr D) atr) : yU (Jw ts wi g tt tr) (Jc ts ai ag at_ atr) := ⟨fun {σ H O ρ M Q Q'} w e q k => by
 refine hi.go w e q fun l G M1 J H1 O1 q1 k1 w1 hj D hD => ?_
 have kp := qj w1 hD (.lst [])
 have hj' : kP J (upd H1 D (.lst [])) (ZM O1 D) M1 l G := fun H' O' M' fix mst w' hG => hj H' O' M' (fun a o ha ho => fix a o (kp.fix a o ha ho).2 (kp.fix a o ha ho).1) mst w' hG
 refine Vc hg ht (hr D) hj' (xk w1 hD _ (fun _ z => nomatch z)) (((e.ext k1).clr ts).ext kp) (.inl rfl) (w1.fresh hD).2 zf .nil q1 fun acc' ρ' M' σ' H' O' ys' q5 k5 w5 e5 o5 m5 d5 r5 => ?_
 have hH := jT w1 k1 hD
 refine k _ _ _ _ _ _ q5 ⟨fun a o ha ho => ?_, fun a ha hm => ?_, fun a hm => k5.mst a (k1.mst a hm)⟩ w5 o5 m5 hH d5 r5
 ·obtain ⟨x1, x2⟩ := (k1.trans kp).fix a o ha ho
  exact k5.fix a o x2 x1
 ·obtain ⟨x1, x2, x3⟩ := (k1.trans kp).prv a ha hm
  obtain ⟨y1, y2, y3⟩ := k5.prv a (fun z => w.ne a ha (by rw [z]; exact hH)) x2 x3
  exact ⟨y1.trans x1, y2, y3⟩⟩
theorem ZD {ts : List Nat} {wi : TI} {g : TG} {tt : TT} {te : TE} {ai : AI} {ag : AG} {at_ : AT} {ae : AE} (hi : Zg wi ai) (hg : yr g ag) (ht : jz tt at_) (he : zN te ae) : yU (vd ts wi g tt te) (Jc ts ai ag at_ (we ae)) :=
 ⟨fun w e q k => (vv (ts := ts) (tr := v6 te) hi hg ht fun D => yI he).go w e q k⟩
end L2
set_option Elab.async false
set_option linter.all false
set_option maxRecDepth 100000
set_option maxHeartbeats 4000000
namespace L2
open PySem PySem.Spec PyProof.Rows
def aI (C : Int -> Int -> Prop) (g : Int -> Int -> Dat) : AR2 := fun x y M Q => ∃ i j, x = .d (.int i) /\ y = .d (.int j) /\ C i j /\ Q (.d (g i j)) M
def aI0 (g : Int -> Int -> Dat) : AR2 := fun x y M Q => ∃ i j, x = .d (.int i) /\ y = .d (.int j) /\ Q (.d (g i j)) M
theorem Vs {C : Int -> Int -> Prop} {f : Int -> Int -> Int} : vh (rI C fun i j => .int (f i j)) (aI C fun i j => .int (f i j)) := ⟨fun w r1 r2 ⟨i, j, e1, e2, c, q⟩ k => by
 subst e1 e2; exact ⟨i, j, zv r1, zv r2, c, k _ _ _ _ _ q .refl w .int⟩⟩
theorem KU {f : Int -> Int -> Int} : vh (rI0 fun i j => .int (f i j)) (aI0 fun i j => .int (f i j)) := ⟨fun w r1 r2 ⟨i, j, e1, e2, q⟩ k => by
 subst e1 e2; exact ⟨i, j, zv r1, zv r2, k _ _ _ _ _ q .refl w .int⟩⟩
theorem Jz {f : Int -> Int -> Bool} : vh (rI0 fun i j => .bl (f i j)) (aI0 fun i j => .bl (f i j)) := ⟨fun w r1 r2 ⟨i, j, e1, e2, q⟩ k => by
 subst e1 e2; exact ⟨i, j, zv r1, zv r2, k _ _ _ _ _ q .refl w .bl⟩⟩
def aU (g : Int -> Dat) : AV -> MH -> AK -> Prop := fun x M Q => ∃ i, x = .d (.int i) /\ Q (.d (g i)) M
theorem Yg {f : Int -> Int} : Wa (rU fun i => .int (f i)) (aU fun i => .int (f i)) := ⟨fun w r1 ⟨i, e1, q⟩ k => by
 subst e1; exact ⟨i, zv r1, k _ _ _ _ _ q .refl w .int⟩⟩
def eqS : Dat -> Dat -> Option Bool
 | .non, .non => some true | .non, .int _ => some false | .int _, .non => some false | .non, .bl _ => some false | .bl _, .non => some false | .non, .str _ => some false | .str _, .non => some false
 | .int i, .int j => some (decide (i = j)) | .bl a, .bl b => some (decide (a = b)) | .str a, .str b => some (decide (a = b))
 | .int _, .str _ => some false | .str _, .int _ => some false | .bl _, .str _ => some false | .str _, .bl _ => some false
 | _, _ => none
def kg : AV -> Bool
 | .d .non => true
 | _ => false
theorem JP {H : Hp} {O : Own} {M : MH} {xs : List V} {l : List AV} (r : zg H O M xs l) {i : Int} {x : AV} (h : atI l i = some x) : ∃ v, atI xs i = some v /\ zn H O M v x := by
 unfold atI at h ⊢
 rw [r.1]
 cases e : ixN l.length i with
 | none => rw [e] at h; cases h
 | some j => rw [e] at h; exact r.get h
def aIx (s : AV -> MH -> Option (List AV)) : AR2 := fun x y M Q => ∃ l i z, s x M = some l /\ y = .d (.int i) /\ atI l i = some z /\ Q z M
theorem Qh {K : PySem.W.Frag} : vh (Z2 K) (aIx qw) := ⟨fun w r1 r2 ⟨l, i, z, h, e, hz, q⟩ k => by
 subst e
 obtain ⟨a, xs, rfl, h1, r⟩ := Jl w r1 h
 obtain ⟨v, hv, rv⟩ := JP r hz
 exact ⟨a, xs, i, v, rfl, zv r2, h1.elim (fun h => .inl (SqL.of h)) (fun h => .inr (SqT.of h)), hv, k _ _ _ _ _ q .refl w rv⟩⟩
structure QG (r : R2) (a : AV -> AV -> MH -> (List AV -> Prop) -> Prop) : Prop where
 go : ∀ {x y : V} {dx dy : AV} {H : Hp} {O : Own} {M : MH} {Q : VK} {Q' : List AV -> Prop}, Wf H O M -> zn H O M x dx -> zn H O M y dy -> a dx dy M Q' -> (∀ l ys, Q' l -> zg H O M ys l -> ∀ p, H p = none -> Q (.ref p) (upd H p (.lst ys))) -> r x y H Q
def fOp (r : AV -> AV -> MH -> (List AV -> Prop) -> Prop) (a b : AE) : AF := fun ρ M Q => a ρ M fun x M1 => b ρ M1 fun y M2 => r x y M2 fun l => Q l M2
theorem wC {r : R2} {ra : AV -> AV -> MH -> (List AV -> Prop) -> Prop} {t u : TE} {a b : AE} (hr : QG r ra) (h1 : zN t a) (h2 : zN u b) : yU (tOp r t u) (fOp ra a b) :=
 ⟨fun w e q k => h1.go w e q fun x M1 v H1 O1 q1 k1 w1 r1 => h2.go w1 (e.ext k1) q1 fun y M2 u H2 O2 q2 k2 w2 r2 => hr.go w2 (r1.ext k2) r2 q2 fun l ys q3 r3 p hp =>
  k l M2 p ys _ _ q3 ((k1.trans k2).trans (qj w2 hp _)) (xk w2 hp _ (fun _ z => nomatch z)) (.inl rfl) (w2.fresh hp).2 (jT w2 (k1.trans k2) hp) zf (r3.ext (qj w2 hp _))⟩
def Xz : AV -> AV -> MH -> (List AV -> Prop) -> Prop := fun x y M Q => ∃ l m, qp x M = some l /\ qp y M = some m /\ l.length + m.length <= sizeLine /\ Q (l ++ m)
theorem yY : QG JQ Xz := ⟨fun w r1 r2 ⟨l, m, h1, h2, hs, q⟩ k => by
 obtain ⟨a, xs, rfl, e1, p1⟩ := qi w r1 h1
 obtain ⟨b, ys, rfl, e2, p2⟩ := qi w r2 h2
 exact ⟨a, b, xs, ys, rfl, rfl, e1, e2, by rw [p1.1, p2.1]; exact hs, k _ _ q (p1.append p2)⟩⟩
theorem zg.rep {H : Hp} {O : Own} {M : MH} {xs : List V} {l : List AV} (a : zg H O M xs l) : ∀ k : Nat, zg H O M (List.replicate k xs).flatten (List.replicate k l).flatten
 | 0 => .nil
 | k + 1 => by rw [List.replicate_succ, List.replicate_succ, List.flatten_cons, List.flatten_cons]; exact a.append (zg.rep a k)
def VO : AV -> AV -> MH -> (List AV -> Prop) -> Prop := fun x y M Q => ∃ l k, qp x M = some l /\ y = .d (.int k) /\ -(2 ^ 63) <= k /\ k < 2 ^ 63 /\ l.length * k.toNat <= sizeLine /\ Q (List.replicate k.toNat l).flatten
theorem QC : QG Vz VO := ⟨fun w r1 r2 ⟨l, n, h1, e, b1, b2, hs, q⟩ k => by
 subst e
 obtain ⟨a, xs, rfl, e1, p1⟩ := qi w r1 h1
 exact ⟨a, n, xs, rfl, zv r2, e1, b1, b2, by rw [p1.1]; exact hs, k _ _ q (p1.rep _)⟩⟩
abbrev AO := ASt -> MH -> (Option Int -> MH -> Prop) -> Prop
structure KA (t : TO) (a : AO) : Prop where
 go : ∀ {σ : St} {H : Hp} {O : Own} {ρ : ASt} {M : MH} {Q : Option Int -> Hp -> Prop} {Q' : Option Int -> MH -> Prop}, Wf H O M -> Er H O M σ ρ -> a ρ M Q' -> (∀ x M' H' O', Q' x M' -> Ext H O M H' O' M' -> Wf H' O' M' -> Q x H') -> t σ H Q
def V3 : AO := fun _ M Q => Q none M
def Xh (a : AE) : AO := fun ρ M Q => a ρ M fun x M1 => ∃ i, x = .d (.int i) /\ Q (some i) M1
theorem Kz : KA yn V3 := ⟨fun w _ q k => k _ _ _ _ q .refl w⟩
theorem Qv {t : TE} {a : AE} (h : zN t a) : KA (Ql t) (Xh a) := ⟨fun w e q k => h.go w e q fun x M1 v H1 O1 ⟨i, e1, q1⟩ k1 w1 r1 => by
 subst e1; exact ⟨i, zv r1, k _ _ _ _ q1 k1 w1⟩⟩
def kq {α : Type} (xs : List α) (lo hi : Option Int) : List α := (xs.drop (HT.sIx xs.length 0 lo)).take (HT.sIx xs.length xs.length hi - HT.sIx xs.length 0 lo)
theorem zg.cut {H : Hp} {O : Own} {M : MH} {xs : List V} {l : List AV} (a : zg H O M xs l) (lo hi : Option Int) : zg H O M (yf xs lo hi) (kq l lo hi) := by
 unfold yf kq
 rw [a.1]
 exact (a.drop _).take _
theorem yy {α β : Type} (f : α -> β) (l : List α) (lo hi : Option Int) : kq (l.map f) lo hi = (kq l lo hi).map f := by
 unfold kq
 rw [List.length_map, <- List.map_drop, <- List.map_take]
def fSl (a : AE) (lo hi : AO) : AF := fun ρ M Q => a ρ M fun x M1 => lo ρ M1 fun i M2 => hi ρ M2 fun j M3 => ∃ l, qp x M3 = some l /\ Q (kq l i j) M3
theorem K4 {K : PySem.W.Frag} {t : TE} {tl th : TO} {a : AE} {lo hi : AO} (h1 : zN t a) (h2 : KA tl lo) (h3 : KA th hi) : yU (tSl (Y1 K) t tl th) (fSl a lo hi) :=
 ⟨fun w e q k => h1.go w e q fun x M1 v H1 O1 q1 k1 w1 r1 => h2.go w1 (e.ext k1) q1 fun i M2 H2 O2 q2 k2 w2 => h3.go w2 (e.ext (k1.trans k2)) q2 fun j M3 H3 O3 ⟨l, hl, q3⟩ k3 w3 => by
  obtain ⟨a, xs, rfl, e1, p1⟩ := qi w3 (r1.ext (k2.trans k3)) hl
  exact ⟨a, xs, rfl, SqL.of e1, fun p hp => k _ _ p _ _ _ q3 (((k1.trans k2).trans k3).trans (qj w3 hp _)) (xk w3 hp _ (fun _ z => nomatch z)) (.inl rfl) (w3.fresh hp).2 (jT w3 ((k1.trans k2).trans k3) hp) zf ((p1.cut i j).ext (qj w3 hp _))⟩⟩
theorem J0 {H : Hp} {O : Own} {M : MH} (w : Wf H O M) {p : Addr} (hp : H p = none) {xs : List V} {l : List Dat} (r : zg H O M xs (l.map .d)) : zn (upd H p (.tup xs)) O M (.ref p) (.d (.tup l)) :=
 have r2 := r.pure
 Rep.tup (w.fresh hp).1 zf r2.1 fun i x d e1 e2 => (r2.2 i x d e1 e2).ext (qv w hp _)
end L2
set_option Elab.async false
set_option linter.all false
set_option maxRecDepth 100000
set_option maxHeartbeats 4000000
namespace L2
open PySem PySem.Spec PyProof.Rows
mutual
def eqD : Dat -> Dat -> Bool
 | .non, .non => true
 | .bl a, .bl b => a == b
 | .bl a, .int b => (if a then 1 else 0) == b
 | .int a, .bl b => a == (if b then 1 else 0)
 | .int a, .int b => a == b
 | .str a, .str b => a == b
 | .lst a, .lst b => ji a b
 | .tup a, .tup b => ji a b
 | _, _ => false
def ji : List Dat -> List Dat -> Bool
 | [], [] => true
 | a :: r, b :: r' => eqD a b && ji r r'
 | _, _ => false
end
mutual
def dp : Dat -> Nat
 | .lst l => dps l + 1
 | .tup l => dps l + 1
 | .rng _ _ _ => 1000
 | .scr _ _ => 1000
 | .ty _ => 1000
 | _ => 0
def dps : List Dat -> Nat
 | [] => 0
 | a :: r => max (dp a) (dps r)
end
theorem yk {l : List Dat} {n : Nat} (h : ∀ d ∈ l, dp d <= n) : dps l <= n := by
 induction l with
 | nil => exact Nat.zero_le _
 | cons a r ih => rw [dps]; exact Nat.max_le.mpr ⟨h a (by simp), ih fun d hd => h d (by simp [hd])⟩
theorem zQ {l : List Dat} {d : Dat} (h : d ∈ l) : dp d <= dps l := by
 induction l with
 | nil => cases h
 | cons a r ih =>
  rw [dps]
  rcases List.mem_cons.mp h with rfl | h
  ·exact Nat.le_max_left _ _
  ·exact Nat.le_trans (ih h) (Nat.le_max_right _ _)
theorem qT : ∀ (l m : List Dat), l.length = m.length -> ji l m = (List.range l.length).all fun j => eqD (l.getD j .non) (m.getD j .non)
 | [], [], _ => rfl
 | a :: r, b :: r', h => by
  rw [ji, qT r r' (by simpa using h), List.length_cons, List.range_succ_eq_map, List.all_cons, List.all_map]; rfl
 | [], _ :: _, h => by simp at h
 | _ :: _, [], h => by simp at h
theorem jd : ∀ (l m : List Dat), l.length ≠ m.length -> ji l m = false
 | [], [], h => absurd rfl h
 | a :: r, b :: r', h => by rw [ji, jd r r' (fun z => h (by simp [z])), Bool.and_false]
 | [], _ :: _, h => by simp [ji]
 | _ :: _, [], h => by simp [ji]
theorem ZX (l m : List Dat) : eqD (.lst l) (.tup m) = false := by simp [eqD]
theorem ZY (l m : List Dat) : eqD (.tup l) (.lst m) = false := by simp [eqD]
theorem JK {p : Dat -> Prop} (h : ∀ a, (∀ b, dp b < dp a -> p b) -> p a) (a : Dat) : p a := by
 have : ∀ n a, dp a <= n -> p a := fun n => by
  induction n with
  | zero => intro a ha; exact h a fun b hb => absurd hb (by omega)
  | succ n ih => intro a ha; exact h a fun b hb => ih b (by omega)
 exact this (dp a) a (Nat.le_refl _)
theorem xO {l : List Dat} (h : ∀ d ∈ l, eqD d d = true) : ji l l = true := by
 induction l with
 | nil => rfl
 | cons a r ih => rw [ji, h a (by simp), ih fun d hd => h d (by simp [hd])]; rfl
theorem kS {a : Dat} : dp a < 1000 -> eqD a a = true := by
 refine JK (p := fun a => dp a < 1000 -> eqD a a = true) (fun a ih ha => ?_) a
 cases a with
 | non => rfl
 | bl b => rw [eqD]; simp
 | int i => rw [eqD]; simp
 | str x => rw [eqD]; simp
 | lst l =>
  rw [eqD]
  rw [dp] at ha ih
  exact xO fun d hd => ih d (by have := zQ hd; omega) (by have := zQ hd; omega)
 | tup l =>
  rw [eqD]
  rw [dp] at ha ih
  exact xO fun d hd => ih d (by have := zQ hd; omega) (by have := zQ hd; omega)
 | rng a b c => rw [dp] at ha; omega
 | scr _ l => rw [dp] at ha; omega
 | ty l => rw [dp] at ha; omega
theorem Rep.fn {H : Hp} {O O' : Own} {v : V} {a b : Dat} (r : Rep H O v a) : Rep H O' v b -> dp a < 1000 -> dp b < 1000 -> a = b := by
 induction r generalizing b with
 | non => intro r' _ _; cases r'; rfl
 | bl => intro r' _ _; cases r'; rfl
 | int => intro r' _ _; cases r'; rfl
 | str => intro r' _ _; cases r'; rfl
 | ty => intro r' h _; rw [dp] at h; omega
 | rng _ _ => intro r' h _; rw [dp] at h; omega
 | scr _ _ => intro r' h _; rw [dp] at h; omega
 | scrK _ => intro r' h _; rw [dp] at h; omega
 | @lst a xs l o1 h1 l1 r1 ih =>
  intro r' ha hb
  cases r' with
  | @lst _ ys m o2 h2 l2 r2 =>
   rw [h1] at h2; cases h2
   congr 1
   refine List.ext_getElem (l1.symm.trans l2) fun i i1 i2 => ?_
   have i0 : i < xs.length := by omega
   rw [dp] at ha hb
   refine ih i xs[i] l[i] (by simp [i0]) (by simp [i1]) (r2 i xs[i] m[i] (by simp [i0]) (by simp [i2])) ?_ ?_
   ·have := zQ (List.getElem_mem i1); omega
   ·have := zQ (List.getElem_mem i2); omega
  | @tup _ ys m o2 h2 => rw [h1] at h2; cases h2
  | rng o2 h2 => rw [dp] at hb; omega
  | scr o2 h2 => rw [dp] at hb; omega
  | scrK _ => rw [dp] at hb; omega
 | @tup a xs l o1 h1 l1 r1 ih =>
  intro r' ha hb
  cases r' with
  | @tup _ ys m o2 h2 l2 r2 =>
   rw [h1] at h2; cases h2
   congr 1
   refine List.ext_getElem (l1.symm.trans l2) fun i i1 i2 => ?_
   have i0 : i < xs.length := by omega
   rw [dp] at ha hb
   refine ih i xs[i] l[i] (by simp [i0]) (by simp [i1]) (r2 i xs[i] m[i] (by simp [i0]) (by simp [i2])) ?_ ?_
   ·have := zQ (List.getElem_mem i1); omega
   ·have := zQ (List.getElem_mem i2); omega
  | @lst _ ys m o2 h2 => rw [h1] at h2; cases h2
  | rng o2 h2 => rw [dp] at hb; omega
  | scr o2 h2 => rw [dp] at hb; omega
  | scrK _ => rw [dp] at hb; omega
section
variable {X : Cx} {pins : List (Addr × Obj)} {s : Shared} {σ : St} {H : Hp}
theorem qV {xs : List V} {us : List Value} (r : zq xs us) {j : Nat} (h : j < us.toArray.size) : ∃ x, xs[j]? = some x /\ zr x us.toArray[j] := by
 have h' : j < us.length := by simpa using h
 have hx : j < xs.length := by rw [r.length]; exact h'
 obtain ⟨u, hu, ru⟩ := r.get (i := j) (List.getElem?_eq_getElem hx)
 have e : us.toArray[j] = u := by
  have := (List.getElem?_eq_some_iff.mp hu).2
  simpa using this
 exact ⟨xs[j], List.getElem?_eq_getElem hx, by rw [e]; exact ru⟩
theorem QL (I : Inv X pins σ H s) {A : Around} {p q : Addr} {O O' : Own} {a b : Dat} (ih : ∀ (c d : Dat) (v u : V) (v' u' : Value), dp c < dp a -> Rep H O v c -> Rep H O' u d -> dp d < 1000 -> zr v v' -> zr u u' -> SeqAt.EqAt A.in1 s v' u' (eqD c d))
    (ra : Rep H O (.ref p) a) (rb : Rep H O' (.ref q) b) (ha : dp a < 1000) (hb : dp b < 1000) (hu : A.units < cLine) : SeqAt.RcAt A s (.ref p) (.ref q) (eqD a b) := by
  cases ra with
  | @lst _ xs l o1 h1 l1 r1 =>
    obtain ⟨us, u1, p1, z1⟩ := I.list (SqL.of h1)
    cases rb with
    | @lst _ ys m o2 h2 l2 r2 =>
      obtain ⟨ws, u2, p2, z2⟩ := I.list (SqL.of h2)
      have s1 : us.toArray.size = l.length := by rw [List.size_toArray, <- u1.length, l1]
      have s2 : ws.toArray.size = m.length := by rw [List.size_toArray, <- u2.length, l2]
      by_cases e : l.length = m.length
      · have h := SeqAt.RcAt.lists (A := A) (e := fun j => eqD (l.getD j .non) (m.getD j .non)) p1.isList p2.isList (by rw [s1, s2, e]) hu (fun j j1 j2 => by
          obtain ⟨x, hx, rx⟩ := qV u1 j1
          obtain ⟨y, hy, ry⟩ := qV u2 j2
          have k1 : j < l.length := by rw [<- s1]; exact j1
          have k2 : j < m.length := by rw [<- s2]; exact j2
          rw [dp] at ha hb ih
          refine ih _ _ x y _ _ ?_ (r1 j x _ hx ?_) (r2 j y _ hy ?_) ?_ rx ry
          · rw [List.getD_eq_getElem?_getD, List.getElem?_eq_getElem k1]
            have := zQ (List.getElem_mem k1); show dp l[j] < _; omega
          · rw [List.getD_eq_getElem?_getD, List.getElem?_eq_getElem k1]; rfl
          · rw [List.getD_eq_getElem?_getD, List.getElem?_eq_getElem k2]; rfl
          · rw [List.getD_eq_getElem?_getD, List.getElem?_eq_getElem k2]
            have := zQ (List.getElem_mem k2); show dp m[j] < _; omega)
        rw [s1, <- qT l m e] at h
        rw [eqD]; exact h
      · rw [eqD, jd l m e]
        exact SeqAt.RcAt.lists_lengths p1.isList p2.isList (by rw [s1, s2]; simpa using e) hu
    | @tup _ ys m o2 h2 l2 r2 =>
      obtain ⟨ws, u2, p2, z2⟩ := I.tuple (SqT.of h2)
      rw [ZX]
      exact SeqAt.RcAt.list_tuple p1.isList p2 hu
    | rng o2 h2 => rw [dp] at hb; omega
    | scr o2 h2 => rw [dp] at hb; omega
    | scrK _ => rw [dp] at hb; omega
  | @tup _ xs l o1 h1 l1 r1 =>
    obtain ⟨us, u1, p1, z1⟩ := I.tuple (SqT.of h1)
    cases rb with
    | @tup _ ys m o2 h2 l2 r2 =>
      obtain ⟨ws, u2, p2, z2⟩ := I.tuple (SqT.of h2)
      have s1 : us.toArray.size = l.length := by rw [List.size_toArray, <- u1.length, l1]
      have s2 : ws.toArray.size = m.length := by rw [List.size_toArray, <- u2.length, l2]
      have h := SeqAt.RcAt.tuples (A := A) (e := fun j => eqD (l.getD j .non) (m.getD j .non)) (show s.heap.IsTuple p us.toArray from p1) (show s.heap.IsTuple q ws.toArray from p2) hu (fun j j1 j2 => by
          obtain ⟨x, hx, rx⟩ := qV u1 j1
          obtain ⟨y, hy, ry⟩ := qV u2 j2
          have k1 : j < l.length := by rw [<- s1]; exact j1
          have k2 : j < m.length := by rw [<- s2]; exact j2
          rw [dp] at ha hb ih
          refine ih _ _ x y _ _ ?_ (r1 j x _ hx ?_) (r2 j y _ hy ?_) ?_ rx ry
          · rw [List.getD_eq_getElem?_getD, List.getElem?_eq_getElem k1]
            have := zQ (List.getElem_mem k1); show dp l[j] < _; omega
          · rw [List.getD_eq_getElem?_getD, List.getElem?_eq_getElem k1]; rfl
          · rw [List.getD_eq_getElem?_getD, List.getElem?_eq_getElem k2]; rfl
          · rw [List.getD_eq_getElem?_getD, List.getElem?_eq_getElem k2]
            have := zQ (List.getElem_mem k2); show dp m[j] < _; omega)
      rw [s1, s2] at h
      rw [eqD]
      by_cases e : l.length = m.length
      · rw [<- e, Nat.min_self, beq_self_eq_true, Bool.and_true, <- qT l m e] at h
        exact h
      · rw [jd l m e]
        rw [show (l.length == m.length) = false by simpa using e, Bool.and_false] at h
        exact h
    | @lst _ ys m o2 h2 l2 r2 =>
      obtain ⟨ws, u2, p2, z2⟩ := I.list (SqL.of h2)
      rw [ZY]
      exact SeqAt.RcAt.tuple_list p1 p2.isList hu
    | rng o2 h2 => rw [dp] at hb; omega
    | scr o2 h2 => rw [dp] at hb; omega
    | scrK _ => rw [dp] at hb; omega
  | rng o2 h2 => rw [dp] at ha; omega
  | scr o2 h2 => rw [dp] at ha; omega
  | scrK _ => rw [dp] at ha; omega
theorem Wn (I : Inv X pins σ H s) {a : Addr} {xs : List V} (h : H a = some (.lst xs)) : ∃ us, s.heap.IsList a us := let ⟨_, _, p, _⟩ := I.list (SqL.of h); ⟨_, p.isList⟩
theorem Ws (I : Inv X pins σ H s) {a : Addr} {xs : List V} (h : H a = some (.tup xs)) : ∃ us, s.heap.IsTuple a us := let ⟨_, _, p, _⟩ := I.tuple (SqT.of h); ⟨_, p⟩
local macro_rules | `(tactic| walk_at "sc") => `(tactic| first
 | with_reducible exact .same _ | with_reducible exact .none_none | with_reducible exact .none_bool _ | with_reducible exact .none_int _ _ | with_reducible exact .none_str _ _ | with_reducible exact .bool_none _ | with_reducible exact .bool_bool _ _ | with_reducible exact .bool_int _ _ _ | with_reducible exact .bool_str _ _ _ | with_reducible exact .int_none _ _ | with_reducible exact .int_bool _ _ _ | with_reducible exact .int_int _ _ _ _ | with_reducible exact .int_str _ _ _ _ | with_reducible exact .str_none _ _ | with_reducible exact .str_bool _ _ _ | with_reducible exact .str_int _ _ _ _ | with_reducible exact .str_str _ _ _ _)
theorem ls_ (I : Inv X pins σ H s) {a : Addr} {xs : List V} (h : H a = some (.lst xs)) : s.heap.IsList a (Classical.choose (Wn I h)) := Classical.choose_spec _
theorem ts_ (I : Inv X pins σ H s) {a : Addr} {xs : List V} (h : H a = some (.tup xs)) : s.heap.IsTuple a (Classical.choose (Ws I h)) := Classical.choose_spec _
local macro_rules | `(tactic| walk_at "sq") => `(tactic| first
 | with_reducible exact .none_list (ls_ (by assumption) (by assumption)) (by assumption) | with_reducible exact .bool_list _ (ls_ (by assumption) (by assumption)) (by assumption) | with_reducible exact .int_list _ _ (ls_ (by assumption) (by assumption)) (by assumption) | with_reducible exact .str_list _ _ (ls_ (by assumption) (by assumption)) (by assumption) | with_reducible exact .list_none (ls_ (by assumption) (by assumption)) (by assumption) | with_reducible exact .list_bool _ (ls_ (by assumption) (by assumption)) (by assumption) | with_reducible exact .list_int _ _ (ls_ (by assumption) (by assumption)) (by assumption) | with_reducible exact .list_str _ _ (ls_ (by assumption) (by assumption)) (by assumption)
 | with_reducible exact .none_tuple (ts_ (by assumption) (by assumption)) (by assumption) | with_reducible exact .bool_tuple _ (ts_ (by assumption) (by assumption)) (by assumption) | with_reducible exact .int_tuple _ _ (ts_ (by assumption) (by assumption)) (by assumption) | with_reducible exact .str_tuple _ _ (ts_ (by assumption) (by assumption)) (by assumption) | with_reducible exact .tuple_none (ts_ (by assumption) (by assumption)) (by assumption) | with_reducible exact .tuple_bool _ (ts_ (by assumption) (by assumption)) (by assumption) | with_reducible exact .tuple_int _ _ (ts_ (by assumption) (by assumption)) (by assumption) | with_reducible exact .tuple_str _ _ (ts_ (by assumption) (by assumption)) (by assumption))
theorem wH (I : Inv X pins σ H s) {O O' : Own} (A : Around) (hu : A.units < cLine) (a b : Dat) (v u : V) (v' u' : Value) (ha : dp a < 1000) (ra : Rep H O v a) (rb : Rep H O' u b) (hb : dp b < 1000) (rv : zr v v') (ru : zr u u')
    (ih : ∀ (c d : Dat) (v u : V) (v' u' : Value), dp c < dp a -> Rep H O v c -> Rep H O' u d -> dp d < 1000 -> zr v v' -> zr u u' -> SeqAt.EqAt A.in1 s v' u' (eqD c d)) : SeqAt.EqAt A s v' u' (eqD a b) := by
  by_cases hr : ∃ p q, v = .ref p /\ u = .ref q
  · obtain ⟨p, q, rfl, rfl⟩ := hr
    cases rv
    cases ru
    by_cases e : p = q
    · subst e
      rw [<- ra.fn rb ha hb, kS ha]
      exact .same _
    · exact .of_refs e (QL I ih ra rb ha hb hu)
  · cases ra <;> cases rb <;> first
      | with_reducible exact absurd ⟨_, _, rfl, rfl⟩ hr
      | (rw [dp] at ha; omega)
      | (rw [dp] at hb; omega)
      | ((first | (obtain ⟨t0, rfl⟩ := rv) | cases rv); (first | (obtain ⟨t1, rfl⟩ := ru) | cases ru); simp only [eqD, Bool.not_false, Bool.not_true]; first | walk_at "sc" | walk_at "sq")
theorem ZU (I : Inv X pins σ H s) {O O' : Own} : ∀ (n : Nat) (A : Around), A.units + n < cLine -> ∀ (a b : Dat) (v u : V) (v' u' : Value), dp a <= n -> n < 1000 -> Rep H O v a -> Rep H O' u b -> dp b < 1000 -> zr v v' -> zr u u' -> SeqAt.EqAt A s v' u' (eqD a b) := by
 intro n
 induction n with
 | zero =>
  intro A hu a b v u v' u' ha _ ra rb hb rv ru
  exact wH I A (by omega) a b v u v' u' (by omega) ra rb hb rv ru fun _ _ _ _ _ _ h => absurd h (by omega)
 | succ n ih =>
  intro A hu a b v u v' u' ha hn ra rb hb rv ru
  exact wH I A (by omega) a b v u v' u' (by omega) ra rb hb rv ru fun c d x y x' y' hc rc rd hd rx ry => ih A.in1 (by show A.units + 1 + n < _; omega) c d x y x' y' (by omega) (by omega) rc rd hd rx ry
def Yo (f : Bool -> Bool) : R2 := fun x y H Q => ∃ O O' a b, Rep H O x a /\ Rep H O' y b /\ dp a <= 40 /\ dp b <= 40 /\ Q (.bl (f (eqD a b))) H
theorem XA (I : Inv X pins σ H s) {O O' : Own} (A : Around) (hu : A.units + 41 < cLine) (a b : Dat) (v u : V) (v' u' : Value) (ha : dp a <= 40) (ra : Rep H O v a) (rb : Rep H O' u b) (hb : dp b <= 40) (rv : zr v v') (ru : zr u u') : SeqAt.RcAt A s v' u' (eqD a b) := by
  have ih : ∀ (c d : Dat) (v u : V) (v' u' : Value), dp c < dp a -> Rep H O v c -> Rep H O' u d -> dp d < 1000 -> zr v v' -> zr u u' -> SeqAt.EqAt A.in1 s v' u' (eqD c d) := fun c d v u v' u' hc rc rd hd rv ru => ZU I 40 A.in1 (by show A.units + 1 + 40 < _; omega) c d v u v' u' (by omega) (by omega) rc rd hd rv ru
  replace hu : A.units < cLine := by omega
  by_cases hr : ∃ p q, v = .ref p /\ u = .ref q
  · obtain ⟨p, q, rfl, rfl⟩ := hr
    cases rv
    cases ru
    exact QL I ih ra rb (by omega) (by omega) hu
  · cases ra <;> cases rb <;> first
      | with_reducible exact absurd ⟨_, _, rfl, rfl⟩ hr
      | (rw [dp] at ha; omega)
      | (rw [dp] at hb; omega)
      | ((first | (obtain ⟨t0, rfl⟩ := rv) | cases rv); (first | (obtain ⟨t1, rfl⟩ := ru) | cases ru); simp only [eqD, Bool.not_false, Bool.not_true]; first | walk_at "sc" | walk_at "sq")
theorem Jk (I : Inv X pins σ H s) {A : Around} {p q : Addr} {O O' : Own} {a b : Dat} (ih : ∀ (c d : Dat) (v u : V) (v' u' : Value), dp c < dp a -> Rep H O v c -> Rep H O' u d -> dp d < 1000 -> zr v v' -> zr u u' -> SeqAt.EqAt A.in1 s v' u' (eqD c d))
    (ra : Rep H O (.ref p) a) (rb : Rep H O' (.ref q) b) (ha : dp a < 1000) (hb : dp b < 1000) (hu : A.units < cLine) : SeqAt.RcNeAt A s (.ref p) (.ref q) (!(eqD a b)) := by
  cases ra with
  | @lst _ xs l o1 h1 l1 r1 =>
    obtain ⟨us, u1, p1, z1⟩ := I.list (SqL.of h1)
    cases rb with
    | @lst _ ys m o2 h2 l2 r2 =>
      obtain ⟨ws, u2, p2, z2⟩ := I.list (SqL.of h2)
      have s1 : us.toArray.size = l.length := by rw [List.size_toArray, <- u1.length, l1]
      have s2 : ws.toArray.size = m.length := by rw [List.size_toArray, <- u2.length, l2]
      by_cases e : l.length = m.length
      · have h := SeqAt.RcNeAt.lists (A := A) (e := fun j => eqD (l.getD j .non) (m.getD j .non)) p1.isList p2.isList (by rw [s1, s2, e]) hu (fun j j1 j2 => by
          obtain ⟨x, hx, rx⟩ := qV u1 j1
          obtain ⟨y, hy, ry⟩ := qV u2 j2
          have k1 : j < l.length := by rw [<- s1]; exact j1
          have k2 : j < m.length := by rw [<- s2]; exact j2
          rw [dp] at ha hb ih
          refine ih _ _ x y _ _ ?_ (r1 j x _ hx ?_) (r2 j y _ hy ?_) ?_ rx ry
          · rw [List.getD_eq_getElem?_getD, List.getElem?_eq_getElem k1]
            have := zQ (List.getElem_mem k1); show dp l[j] < _; omega
          · rw [List.getD_eq_getElem?_getD, List.getElem?_eq_getElem k1]; rfl
          · rw [List.getD_eq_getElem?_getD, List.getElem?_eq_getElem k2]; rfl
          · rw [List.getD_eq_getElem?_getD, List.getElem?_eq_getElem k2]
            have := zQ (List.getElem_mem k2); show dp m[j] < _; omega)
        rw [s1, <- qT l m e] at h
        rw [eqD]; exact h
      · rw [eqD, jd l m e]
        exact SeqAt.RcNeAt.lists_lengths p1.isList p2.isList (by rw [s1, s2]; simpa using e) hu
    | @tup _ ys m o2 h2 l2 r2 =>
      obtain ⟨ws, u2, p2, z2⟩ := I.tuple (SqT.of h2)
      rw [ZX]
      exact SeqAt.RcNeAt.list_tuple p1.isList p2 hu
    | rng o2 h2 => rw [dp] at hb; omega
    | scr o2 h2 => rw [dp] at hb; omega
    | scrK _ => rw [dp] at hb; omega
  | @tup _ xs l o1 h1 l1 r1 =>
    obtain ⟨us, u1, p1, z1⟩ := I.tuple (SqT.of h1)
    cases rb with
    | @tup _ ys m o2 h2 l2 r2 =>
      obtain ⟨ws, u2, p2, z2⟩ := I.tuple (SqT.of h2)
      have s1 : us.toArray.size = l.length := by rw [List.size_toArray, <- u1.length, l1]
      have s2 : ws.toArray.size = m.length := by rw [List.size_toArray, <- u2.length, l2]
      have h := SeqAt.RcNeAt.tuples (A := A) (e := fun j => eqD (l.getD j .non) (m.getD j .non)) (show s.heap.IsTuple p us.toArray from p1) (show s.heap.IsTuple q ws.toArray from p2) hu (fun j j1 j2 => by
          obtain ⟨x, hx, rx⟩ := qV u1 j1
          obtain ⟨y, hy, ry⟩ := qV u2 j2
          have k1 : j < l.length := by rw [<- s1]; exact j1
          have k2 : j < m.length := by rw [<- s2]; exact j2
          rw [dp] at ha hb ih
          refine ih _ _ x y _ _ ?_ (r1 j x _ hx ?_) (r2 j y _ hy ?_) ?_ rx ry
          · rw [List.getD_eq_getElem?_getD, List.getElem?_eq_getElem k1]
            have := zQ (List.getElem_mem k1); show dp l[j] < _; omega
          · rw [List.getD_eq_getElem?_getD, List.getElem?_eq_getElem k1]; rfl
          · rw [List.getD_eq_getElem?_getD, List.getElem?_eq_getElem k2]; rfl
          · rw [List.getD_eq_getElem?_getD, List.getElem?_eq_getElem k2]
            have := zQ (List.getElem_mem k2); show dp m[j] < _; omega)
      rw [s1, s2] at h
      rw [eqD]
      by_cases e : l.length = m.length
      · rw [<- e, Nat.min_self, beq_self_eq_true, Bool.and_true, <- qT l m e] at h
        exact h
      · rw [jd l m e]
        rw [show (l.length == m.length) = false by simpa using e, Bool.and_false] at h
        exact h
    | @lst _ ys m o2 h2 l2 r2 =>
      obtain ⟨ws, u2, p2, z2⟩ := I.list (SqL.of h2)
      rw [ZY]
      exact SeqAt.RcNeAt.tuple_list p1 p2.isList hu
    | rng o2 h2 => rw [dp] at hb; omega
    | scr o2 h2 => rw [dp] at hb; omega
    | scrK _ => rw [dp] at hb; omega
  | rng o2 h2 => rw [dp] at ha; omega
  | scr o2 h2 => rw [dp] at ha; omega
  | scrK _ => rw [dp] at ha; omega
theorem Jj (I : Inv X pins σ H s) {O O' : Own} (A : Around) (hu : A.units + 41 < cLine) (a b : Dat) (v u : V) (v' u' : Value) (ha : dp a <= 40) (ra : Rep H O v a) (rb : Rep H O' u b) (hb : dp b <= 40) (rv : zr v v') (ru : zr u u') : SeqAt.RcNeAt A s v' u' (!(eqD a b)) := by
  have ih : ∀ (c d : Dat) (v u : V) (v' u' : Value), dp c < dp a -> Rep H O v c -> Rep H O' u d -> dp d < 1000 -> zr v v' -> zr u u' -> SeqAt.EqAt A.in1 s v' u' (eqD c d) := fun c d v u v' u' hc rc rd hd rv ru => ZU I 40 A.in1 (by show A.units + 1 + 40 < _; omega) c d v u v' u' (by omega) (by omega) rc rd hd rv ru
  replace hu : A.units < cLine := by omega
  by_cases hr : ∃ p q, v = .ref p /\ u = .ref q
  · obtain ⟨p, q, rfl, rfl⟩ := hr
    cases rv
    cases ru
    exact Jk I ih ra rb (by omega) (by omega) hu
  · cases ra <;> cases rb <;> first
      | with_reducible exact absurd ⟨_, _, rfl, rfl⟩ hr
      | (rw [dp] at ha; omega)
      | (rw [dp] at hb; omega)
      | ((first | (obtain ⟨t0, rfl⟩ := rv) | cases rv); (first | (obtain ⟨t1, rfl⟩ := ru) | cases ru); simp only [eqD, Bool.not_false, Bool.not_true]; first | walk_at "sc" | walk_at "sq")
theorem kO (hu : X.A.units + 64 < cLine) : OpR X (compareOp .Eq) (Yo id) := by
 intro pins s σ H x y v u Q I rx ry h
 obtain ⟨O, O', a, b, ra, rb, ha, hb, k⟩ := h
 exact XA I X.A (by omega) a b x y v u ha ra rb hb rx ry _ _ _ _ ⟨.bl _, H, I, rfl, k⟩
theorem j9 (hu : X.A.units + 64 < cLine) : OpR X (compareOp .NotEq) (Yo not) := by
 intro pins s σ H x y v u Q I rx ry h
 obtain ⟨O, O', a, b, ra, rb, ha, hb, k⟩ := h
 exact Jj I X.A (by omega) a b x y v u ha ra rb hb rx ry _ _ _ _ ⟨.bl _, H, I, rfl, k⟩
end
def jn (x : AV) (M : MH) : Option Dat := match x with
 | .d x => some x
 | .ref a => match M a with
  | some (.lst l) => (pur l).map .lst
  | _ => none
theorem Vk (x : Dat) (M : MH) : jn (.d x) M = some x := rfl
theorem QH {a : Addr} {M : MH} {l : List AV} {ds : List Dat} (h : M a = some (.lst l)) (hp : pur l = some ds) : jn (.ref a) M = some (.lst ds) := by unfold jn; dsimp only; rw [h]; dsimp only; rw [hp]; rfl
theorem xj {H : Hp} {O : Own} {M : MH} {v : V} {x : AV} {d : Dat} (w : Wf H O M) (r : zn H O M v x) (h : jn x M = some d) : ∃ O', Rep H O' v d := by
 cases x with
 | d x => cases h; exact ⟨O, r⟩
 | ref a =>
  unfold jn at h
  dsimp only at h
  cases e : M a with
  | none => rw [e] at h; cases h
  | some o =>
   rw [e] at h
   cases o with
   | lst l =>
    dsimp only at h
    cases ep : pur l with
    | none => rw [ep] at h; cases h
    | some ds =>
     rw [ep] at h
     cases h
     obtain ⟨xs, hx, rx⟩ := w.mo a _ e
     rw [qP ep] at rx
     have rp := rx.pure
     refine ⟨K5 O a, ?_⟩
     rw [r.1]
     exact Rep.lst (fun z => z.1 rfl) hx rp.1 fun i x d e1 e2 => (rp.2 i x d e1 e2).imp (j4 a)
   | _ => cases h
def VG (f : Bool -> Bool) : AR2 := fun x y M Q => ∃ a b, jn x M = some a /\ jn y M = some b /\ dp a <= 40 /\ dp b <= 40 /\ Q (.d (.bl (f (eqD a b)))) M
theorem J5 {f : Bool -> Bool} : vh (Yo f) (VG f) := ⟨fun w r1 r2 ⟨a, b, e1, e2, h1, h2, q⟩ k => by
 obtain ⟨O1, p1⟩ := xj w r1 e1
 obtain ⟨O2, p2⟩ := xj w r2 e2
 exact ⟨O1, O2, a, b, p1, p2, h1, h2, k _ _ _ _ _ q .refl w .bl⟩⟩
theorem j8 (i : Int) : dp (.int i) = 0 := by simp [dp]
theorem kA (ns : List Int) : dp (.lst (ns.map .int)) <= 1 := by
 rw [dp]
 have : dps (ns.map Dat.int) <= 0 := yk fun d hd => by
  obtain ⟨i, _, rfl⟩ := List.mem_map.mp hd
  rw [j8]; exact Nat.le_refl _
 omega
theorem xP : ∀ (ns ms : List Int), ji (ns.map .int) (ms.map .int) = decide (ns = ms)
 | [], [] => by simp [ji]
 | [], _ :: _ => by simp [ji]
 | _ :: _, [] => by simp [ji]
 | a :: r, b :: r' => by
  rw [List.map_cons, List.map_cons, ji, xP r r', show eqD (.int a) (.int b) = (a == b) by simp [eqD]]
  by_cases h : a = b <;> simp [h]
theorem kH (ns ms : List Int) : eqD (.lst (ns.map .int)) (.lst (ms.map .int)) = decide (ns = ms) := by rw [eqD, xP]
end L2
set_option Elab.async false
set_option linter.all false
set_option maxRecDepth 100000
set_option maxHeartbeats 4000000
namespace L2
open PySem PySem.Spec PyProof.Rows
theorem qG {H : Hp} {O : Own} {M : MH} {vs : List V} {x : AV} (r : zg H O M vs [x]) : ∃ v, vs = [v] /\ zn H O M v x := by
 obtain ⟨v1, r', rfl, a1, r2⟩ := r.cons_inv
 rw [r2.nil_inv]; exact ⟨v1, rfl, a1⟩
theorem je {H : Hp} {O : Own} {M : MH} {vs : List V} {x y : AV} (r : zg H O M vs [x, y]) : ∃ v u, vs = [v, u] /\ zn H O M v x /\ zn H O M u y := by
 obtain ⟨v1, r', rfl, a1, r2⟩ := r.cons_inv
 obtain ⟨v2, rfl, a2⟩ := qG r2
 exact ⟨v1, v2, rfl, a1, a2⟩
def Yz : List AV -> MH -> AK -> Prop := fun xs M Q => ∃ x l, xs = [x] /\ qw x M = some l /\ Q (.d (.int (l.length : Nat))) M
theorem JO {K : PySem.W.Frag} : ym (fun xs H Q => ∃ p ys, xs = [V.ref p] /\ (SqL K H p ys \/ SqT K H p ys) /\ Q (V.int ys.length) H) Yz := ⟨fun w r ⟨x, l, e, h, q⟩ k => by
 subst e
 obtain ⟨v, rfl, rv⟩ := qG r
 obtain ⟨a, xs, rfl, h1, r1⟩ := Jl w rv h
 exact ⟨a, xs, rfl, h1.elim (fun h => .inl (SqL.of h)) (fun h => .inr (SqT.of h)), by rw [r1.1]; exact k _ _ _ _ _ q .refl w .int⟩⟩
def bI2 (f : Int -> Int -> Int) : List AV -> MH -> AK -> Prop := fun xs M Q => ∃ i j, xs = [.d (.int i), .d (.int j)] /\ Q (.d (.int (f i j))) M
theorem YT {f : Int -> Int -> Int} : ym (fun xs H Q => ∃ i j, xs = [V.int i, V.int j] /\ Q (V.int (f i j)) H) (bI2 f) := ⟨fun w r ⟨i, j, e, q⟩ k => by
 subst e
 obtain ⟨v, u, rfl, rv, ru⟩ := je r
 exact ⟨i, j, by rw [zv rv, zv ru], k _ _ _ _ _ q .refl w .int⟩⟩
def Jp : List AV -> MH -> AK -> Prop := fun xs M Q => ∃ x l ds, xs = [x] /\ qw x M = some l /\ pur l = some ds /\ Q (.d (.tup ds)) M
theorem wL {K : PySem.W.Frag} : ym (fun xs H Q => ∃ p ys, xs = [V.ref p] /\ ((SqL K H p ys /\ ∀ l, H l = none -> Q (V.ref l) (upd H l (HO.tup ys))) \/ SqT K H p ys /\ Q (V.ref p) H)) Jp := ⟨fun w r ⟨x, l, ds, e, h, hp, q⟩ k => by
 subst e
 obtain ⟨v, rfl, rv⟩ := qG r
 rw [qP hp] at h
 rcases qz h with h' | ⟨m, rfl, e2⟩
 ·obtain ⟨a, xs, rfl, h1, r1⟩ := qi w rv h'
  exact ⟨a, xs, rfl, .inl ⟨SqL.of h1, fun p hp => k _ _ _ _ _ q (qv w hp _) (yc w hp _) (J0 w hp r1)⟩⟩
 ·obtain rfl : ds = m := by have := congrArg pur e2; rw [qu, qu] at this; cases this; rfl
  obtain ⟨a, xs, rfl, h1, r1⟩ := jp (l := ds.map .d) rv rfl
  exact ⟨a, xs, rfl, .inr ⟨SqT.of h1, k _ _ _ _ _ q .refl w rv⟩⟩⟩
structure Ja (r : List V -> Hp -> VK -> Prop) (a : List AV -> MH -> (List AV -> Prop) -> Prop) : Prop where
 go : ∀ {vs : List V} {xs : List AV} {H : Hp} {O : Own} {M : MH} {Q : VK} {Q' : List AV -> Prop}, Wf H O M -> zg H O M vs xs -> a xs M Q' -> (∀ l ys, Q' l -> zg H O M ys l -> ∀ p, H p = none -> Q (.ref p) (upd H p (.lst ys))) -> r vs H Q
def fCB (r : List AV -> MH -> (List AV -> Prop) -> Prop) (b : AA) : AF := fun ρ M Q => b ρ M fun xs M1 => r xs M1 fun l => Q l M1
theorem ya {r : List V -> Hp -> VK -> Prop} {ra : List AV -> MH -> (List AV -> Prop) -> Prop} {u : TA} {b : AA} (hr : Ja r ra) (h : jE u b) : yU (tCB r u) (fCB ra b) :=
 ⟨fun w e q k => h.go w e q fun x M1 v H1 O1 q1 k1 w1 r1 => hr.go w1 r1 q1 fun l ys q3 r3 p hp =>
  k l M1 p ys _ _ q3 (k1.trans (qj w1 hp _)) (xk w1 hp _ (fun _ z => nomatch z)) (.inl rfl) (w1.fresh hp).2 (jT w1 k1 hp) zf (r3.ext (qj w1 hp _))⟩
def yq : List AV -> MH -> (List AV -> Prop) -> Prop := fun xs M Q => ∃ x ns, xs = [x] /\ qp x M = some (List.map (fun i => AV.d (.int i)) ns) /\ ns.length < 64 /\ ∀ ns', ns'.Perm ns -> List.Pairwise (fun x1 x2 => x1 <= x2) ns' -> Q (List.map (fun i => AV.d (.int i)) ns')
theorem jD {H : Hp} {O : Own} {M : MH} : ∀ {ns : List Int} {xs : List V}, zg H O M xs (ns.map fun i => AV.d (.int i)) -> xs = ns.map V.int
 | [], xs, r => r.nil_inv
 | i :: ns, xs, r => by
  obtain ⟨v, r', rfl, a1, r2⟩ := r.cons_inv
  rw [zv a1, jD r2]; rfl
theorem kd {K : PySem.W.Frag} : Ja (fun xs H Q => ∃ p ns, xs = [V.ref p] /\ SqL K H p (List.map V.int ns) /\ ns.length < 64 /\ ∀ (l : Addr) (ns' : List Int), H l = none -> ns'.Perm ns -> List.Pairwise (fun x1 x2 => x1 <= x2) ns' -> Q (V.ref l) (upd H l (HO.lst (List.map V.int ns')))) yq := ⟨fun w r ⟨x, ns, e, h, hl, q⟩ k => by
 subst e
 obtain ⟨v, rfl, rv⟩ := qG r
 obtain ⟨a, xs, rfl, h1, r1⟩ := qi w rv h
 rw [jD r1] at h1
 exact ⟨a, ns, rfl, SqL.of h1, hl, fun l ns' hp h2 h3 => k _ _ (q ns' h2 h3) (xV ns') l hp⟩⟩
def tyA (x : AV) (M : MH) : Option String := match x with
 | .d .non => some "NoneType"
 | .d (.bl _) => some "bool"
 | .d (.int _) => some "int"
 | .d (.str _) => some "str"
 | .d (.lst _) => some "list"
 | .d (.tup _) => some "tuple"
 | .ref a => match M a with
  | some (.lst _) => some "list"
  | some (.dK _) => some "dict"
  | _ => none
 | _ => none
theorem ZO {K : PySem.W.Frag} {H : Hp} {O : Own} {M : MH} {v : V} {x : AV} {t : String} (w : Wf H O M) (r : zn H O M v x) (h : tyA x M = some t) : qS K H v (.type t) := by
 cases x with
 | d x =>
  cases (show Rep H O v x from r) with
  | non => cases h; exact .non
  | bl => cases h; exact .bl _
  | int => cases h; exact .int _
  | str => cases h; exact .str _
  | lst o e => cases h; exact .lst e
  | tup o e => cases h; exact .tup e
  | ty => cases h
  | rng _ _ => cases h
  | scr _ _ => cases h
  | scrK _ => cases h
 | ref a =>
  unfold tyA at h
  dsimp only at h
  rw [r.1]
  cases e : M a with
  | none => rw [e] at h; cases h
  | some o =>
   rw [e] at h
   have := w.mo a o e
   cases o with
   | lst l => cases h; obtain ⟨xs, hx, _⟩ := this; exact .lst hx
   | dK l => cases h; obtain ⟨xs, hx, _⟩ := this; exact .dK hx
   | ins C fs => cases h
def VV : List AV -> MH -> AK -> Prop := fun xs M Q => ∃ x t c b, xs = [x, .d (.ty c)] /\ tyA x M = some t /\ isT t c = some b /\ Q (.d (.bl b)) M
theorem J9 {K : PySem.W.Frag} : ym (fun xs H Q => ∃ x t c b, xs = [x, V.ty c] /\ qS K H x (Value.type t) /\ isT t c = some b /\ Q (V.bl b) H) VV := ⟨fun w r ⟨x, t, c, b, e, h, hb, q⟩ k => by
 subst e
 obtain ⟨v, u, rfl, rv, ru⟩ := je r
 exact ⟨v, t, c, b, by rw [QI ru], ZO w rv h, hb, k _ _ _ _ _ q .refl w .bl⟩⟩
theorem wn {H : Hp} {O : Own} {M : MH} : ∀ {ns : List String} {xs : List V}, zg H O M xs ((ns.map Dat.ty).map .d) -> xs = ns.map V.ty
 | [], xs, r => r.nil_inv
 | i :: ns, xs, r => by
  obtain ⟨v, r', rfl, a1, r2⟩ := r.cons_inv
  rw [QI a1, wn r2]; rfl
def ve : List Dat -> Option (List String)
 | [] => some []
 | .ty n :: r => (ve r).map (n :: ·)
 | _ => none
theorem v8 : ∀ {l : List Dat} {cs : List String}, ve l = some cs -> l = cs.map Dat.ty
 | [], cs, h => by cases h; rfl
 | .ty n :: r, cs, h => by
  unfold ve at h
  cases e : ve r with
  | none => rw [e] at h; cases h
  | some m => rw [e] at h; cases h; rw [v8 e]; rfl
 | .non :: _, _, h => by cases h
 | .bl _ :: _, _, h => by cases h
 | .int _ :: _, _, h => by cases h
 | .str _ :: _, _, h => by cases h
 | .lst _ :: _, _, h => by cases h
 | .tup _ :: _, _, h => by cases h
 | .rng _ _ _ :: _, _, h => by cases h
 | .scr _ _ :: _, _, h => by cases h
def Xl : List AV -> MH -> AK -> Prop := fun xs M Q => ∃ x t l cs b, xs = [x, .d (.tup l)] /\ ve l = some cs /\ tyA x M = some t /\ xi t cs = some b /\ Q (.d (.bl b)) M
theorem Jr {K : PySem.W.Frag} : ym (fun xs H Q => ∃ x t p cs b, xs = [x, V.ref p] /\ H p = some (HO.tup (List.map V.ty cs)) /\ qS K H x (Value.type t) /\ xi t cs = some b /\ Q (V.bl b) H) Xl := ⟨fun w r ⟨x, t, l, cs, b, e, hc, h, hb, q⟩ k => by
 subst e
 obtain ⟨v, u, rfl, rv, ru⟩ := je r
 rw [v8 hc] at ru
 obtain ⟨a, xs, rfl, h1, r1⟩ := jp (l := (cs.map Dat.ty).map .d) ru rfl
 rw [wn r1] at h1
 exact ⟨v, t, a, cs, b, rfl, h1, ZO w rv h, hb, k _ _ _ _ _ q .refl w .bl⟩⟩
def Xo : List AV -> MH -> AK -> Prop := fun xs M Q => ∃ i : Int, xs = [.d (.int i)] /\ i.natAbs.log2 < 1920 /\ Q (.d (.str (Str.ofString (toString i)))) M
theorem Jh : ym (fun xs H Q => ∃ i : Int, xs = [V.int i] /\ i.natAbs.log2 < 1920 /\ Q (V.str (Str.ofString (toString i))) H) Xo := ⟨fun w r ⟨i, e, h, q⟩ k => by
 subst e
 obtain ⟨v, rfl, rv⟩ := qG r
 exact ⟨i, by rw [zv rv], h, k _ _ _ _ _ q .refl w .str⟩⟩
def Xb : List AV -> MH -> AK -> Prop := fun xs M Q => ∃ b, xs = [.d (.int b)] /\ Q (.d (.rng 0 b 1)) M
theorem ZZ : ym (fun xs H Q => ∃ b, xs = [V.int b] /\ ∀ (p : Addr), H p = none -> Q (V.ref p) (upd H p (qK p 0 b 1))) Xb := ⟨fun w r ⟨b, e, q⟩ k => by
 subst e
 obtain ⟨v, rfl, rv⟩ := qG r
 exact ⟨b, by rw [zv rv], fun p hp => k _ _ _ _ _ q (qv w hp _) (yc w hp _) (Rep.rng (w.fresh hp).1 zf)⟩⟩
def Z7 : List AV -> MH -> (List AV -> Prop) -> Prop := fun xs M Q => ∃ a b c n, xs = [.d (.rng a b c)] /\ Builtin.Range.small a b c = true /\ Builtin.Range.rangeSize a b c = ((n : Nat) : Int) /\ n <= 100000 /\ Q ((zw a c n).map fun i => AV.d (.int i))
theorem xQ : Ja (fun xs H Q => ∃ p a b c n, xs = [.ref p] /\ H p = some (qK p a b c) /\ Builtin.Range.small a b c = true /\ Builtin.Range.rangeSize a b c = ((n : Nat) : Int) /\ n <= 100000 /\ ∀ l, H l = none -> Q (.ref l) (upd H l (.lst ((zw a c n).map V.int)))) Z7 := ⟨fun {vs xs H O M Q Q'} w r ⟨a, b, c, n, e, h1, h2, h3, q⟩ k => by
 subst e
 obtain ⟨v, rfl, rv⟩ := qG r
 cases (show Rep H O v (.rng a b c) from rv) with
 | rng o h => exact ⟨_, a, b, c, n, rfl, h, h1, h2, h3, k _ _ q (xV _)⟩⟩
structure Wc (r : V -> List V -> Hp -> VK -> Prop) (a : AV -> List AV -> MH -> AK -> Prop) : Prop where
 go : ∀ {x : V} {dx : AV} {vs : List V} {xs : List AV} {H : Hp} {O : Own} {M : MH} {Q : VK} {Q' : AK}, Wf H O M -> zn H O M x dx -> zg H O M vs xs -> a dx xs M Q' -> (∀ x M' v H' O', Q' x M' -> Ext H O M H' O' M' -> Wf H' O' M' -> zn H' O' M' v x -> Q v H') -> r x vs H Q
def aBM (r : AV -> List AV -> MH -> AK -> Prop) (a : AE) (b : AA) : AE := fun ρ M Q => a ρ M fun x M1 => (∃ l, qp x M1 = some l) /\ b ρ M1 fun xs M2 => r x xs M2 Q
theorem XW {K : PySem.W.Frag} {r : V -> List V -> Hp -> VK -> Prop} {ra : AV -> List AV -> MH -> AK -> Prop} {t : TE} {u : TA} {a : AE} {b : AA} (hr : Wc r ra) (h1 : zN t a) (h2 : jE u b) : zN (tBM K "list" r t u) (aBM ra a b) :=
 ⟨fun w e q k => h1.go w e q fun x M1 v H1 O1 ⟨⟨l, hl⟩, q1⟩ k1 w1 r1 => ⟨by
  obtain ⟨a, xs, rfl, hx, _⟩ := qi w1 r1 hl
  exact .inl ⟨rfl, xs, SqL.of hx⟩, h2.go w1 (e.ext k1) q1 fun y M2 u H2 O2 q2 k2 w2 r2 => hr.go w2 (r1.ext k2) r2 q2 fun z M3 v3 H3 O3 q3 k3 w3 r3 => k z M3 v3 H3 O3 q3 ((k1.trans k2).trans k3) w3 r3⟩⟩
theorem QJ {H : Hp} {O : Own} {M : MH} {p : Addr} {l l' : List AV} {xs' : List V} (w : Wf H O M) (hm : M p = some (.lst l)) (r : zg H O M xs' l') : Ext H O M (upd H p (.lst xs')) O (mup M p (.lst l')) /\ Wf (upd H p (.lst xs')) O (mup M p (.lst l')) :=
 have np := qQ hm
 ⟨jF w np _ _, Z4 w np (fun _ z => nomatch z) ⟨_, zf, r.ext (jF w np _ _)⟩⟩
def wd : AV -> List AV -> MH -> AK -> Prop := fun x xs M Q => ∃ p l y, x = .ref p /\ xs = [y] /\ M p = some (.lst l) /\ l.length < sizeLine /\ Q (.d .non) (mup M p (.lst (l ++ [y])))
theorem vW : Wc kz wd := ⟨fun w r1 r2 ⟨p, l, y, e1, e2, hm, hs, q⟩ k => by
 subst e1 e2
 obtain ⟨v, rfl, rv⟩ := qG r2
 obtain ⟨xs, hx, rx⟩ := w.mo p _ hm
 obtain ⟨k1, w1⟩ := QJ w hm (rx.snoc rv)
 exact ⟨p, xs, v, r1.1, rfl, hx, by rw [rx.1]; exact hs, k _ _ _ _ _ q k1 w1 .non⟩⟩
def QE (r : Addr) : MO -> Prop
 | .lst l => AV.ref r ∈ l
 | .dK kvs => AV.ref r ∈ kvs.map (·.2)
 | .ins _ fs => AV.ref r ∈ fs.map (·.2)
structure wN (M0 M' : MH) (x x' : AV) (M'' : MH) : Prop where
 sub : ∀ q, M'' q = M' q \/ (M0 q = none /\ M'' q = none)
 cl : ∀ q o, M'' q = some o -> M0 q = some o \/ ∀ r, QE r o -> M'' r ≠ none
 res : (x' = x /\ ∀ p, x = .ref p -> M'' p ≠ none) \/ ∃ p l ds, x = .ref p /\ M' p = some (.lst l) /\ pur l = some ds /\ M'' p = none /\ x' = .d (.lst ds)
theorem vQ {H0 H : Hp} {O0 O : Own} {M0 M' M'' : MH} {x x' : AV} {v : V} (w0 : Wf H0 O0 M0) (w : Wf H O M') (k : Ext H0 O0 M0 H O M') (r : zn H O M' v x) (f : wN M0 M' x x' M'') :
    ∃ O'', Wf H O'' M'' /\ Ext H0 O0 M0 H O'' M'' /\ zn H O'' M'' v x' := by
  have ks : ∀ a u, ¬ O a -> H a = some u -> H a = some u /\ ¬ (O a /\ ¬ (M' a ≠ none /\ M'' a = none)) := fun a u h e => ⟨e, fun z => h z.1⟩
  have k0 : ∀ a, M0 a ≠ none -> M'' a = M' a := fun a h => (f.sub a).elim (fun z => z) (fun z => absurd z.1 h)
  have m0 : ∀ a, M0 a ≠ none -> M'' a ≠ none := fun a h => by rw [k0 a h]; exact k.mst a h
  have avs : ∀ {xs : List V} {l : List AV}, zg H O M' xs l -> (∀ r, AV.ref r ∈ l -> M'' r ≠ none) -> zg H (fun a => O a /\ ¬ (M' a ≠ none /\ M'' a = none)) M'' xs l := fun {xs l} rr hr => ⟨rr.1, fun i y d e1 e2 => by
    have := rr.2 i y d e1 e2
    cases d with
    | d d => exact Rep.imp ks this
    | ref a => exact ⟨this.1, hr a (List.mem_of_getElem? e2)⟩⟩
  have refs0 : ∀ q o, M0 q = some o -> ∀ r, QE r o -> M0 r ≠ none := fun q o e r hr => by
    have := w0.mo q o e
    cases o with
    | lst l =>
      obtain ⟨xs, _, rr⟩ := this
      obtain ⟨i, hi⟩ := List.getElem?_of_mem hr
      obtain ⟨y, _, ry⟩ := rr.get hi
      exact ry.2
    | dK l =>
      obtain ⟨xs, _, rr⟩ := this
      obtain ⟨i, hi⟩ := List.getElem?_of_mem hr
      obtain ⟨y, _, ry⟩ := rr.2.get hi
      exact ry.2
    | ins C l =>
      obtain ⟨dx, xs, _, rr, _⟩ := this
      obtain ⟨i, hi⟩ := List.getElem?_of_mem hr
      obtain ⟨y, _, ry⟩ := rr.2.get hi
      exact ry.2
  refine ⟨fun a => O a /\ ¬ (M' a ≠ none /\ M'' a = none), ⟨fun q o e => ?_, fun a h => ?_, fun a h => w.al a h.1⟩, ⟨fun a u h e => ?_, fun a h e => ?_, m0⟩, ?_⟩
  · have e' : M' q = some o := by
      rcases f.sub q with z | z
      · rw [<- z]; exact e
      · rw [z.2] at e; cases e
    have hr : ∀ r, QE r o -> M'' r ≠ none := by
      rcases f.cl q o e with z | z
      · exact fun r hr => m0 r (refs0 q o z r hr)
      · exact z
    have := w.mo q o e'
    cases o with
    | lst l => obtain ⟨xs, h1, rr⟩ := this; exact ⟨xs, h1, avs rr hr⟩
    | dK l => obtain ⟨xs, h1, rr⟩ := this; exact ⟨xs, h1, rr.1, avs rr.2 hr⟩
    | ins C l =>
      obtain ⟨dx, xs, h1, rr, h2, h3, h4⟩ := this
      refine ⟨dx, xs, h1, ⟨rr.1, avs rr.2 hr⟩, ⟨h2, fun z => z.1 h3⟩, ?_, h4⟩
      rcases f.sub dx with z | z
      · rw [z]; exact h3
      · exact z.2
  · refine ⟨w.own a ?_, fun z => h z.2⟩
    rcases f.sub a with z | z
    · rw [<- z]; exact h
    · exact absurd z.2 h
  · obtain ⟨x1, x2⟩ := k.fix a u h e
    exact ⟨x1, fun z => x2 z.1⟩
  · obtain ⟨x1, x2, x3⟩ := k.prv a h e
    refine ⟨x1, ⟨x2, fun z => z.1 x3⟩, ?_⟩
    rcases f.sub a with z | z
    · rw [z]; exact x3
    · exact z.2
  · rcases f.res with ⟨rfl, hp⟩ | ⟨p, l, ds, rfl, hm, hp, hn, rfl⟩
    · cases x' with
      | d d => exact Rep.imp ks r
      | ref a => exact ⟨r.1, hp a rfl⟩
    · obtain ⟨xs, hx, rx⟩ := w.mo p _ hm
      rw [qP hp] at rx
      have rp := rx.pure
      rw [r.1]
      exact Rep.lst (fun z => z.2 ⟨qQ hm, hn⟩) hx rp.1 fun i x d e1 e2 => (rp.2 i x d e1 e2).imp ks
def Fr (M0 M : MH) : Prop := ∀ q, M0 q ≠ none -> M q = M0 q
theorem Fr.refl {M : MH} : Fr M M := fun _ _ => rfl
theorem Fr.mup {M0 M : MH} (f : Fr M0 M) {p : Addr} (h : M0 p = none) (o : MO) : Fr M0 (mup M p o) := fun q hq => by rw [zL (fun z => hq (by rw [z]; exact h))]; exact f q hq
theorem Fr.sub {M0 M : MH} (f : Fr M0 M) (q : Addr) : M0 q = M q \/ (M0 q = none /\ M0 q = none) := by
 cases e : M0 q with
 | none => exact .inr ⟨rfl, rfl⟩
 | some o => exact .inl (by rw [f q (by rw [e]; exact fun z => nomatch z), e])
theorem ja {M0 M : MH} (f : Fr M0 M) (d : Dat) : wN M0 M (.d d) (.d d) M0 := ⟨f.sub, fun q o e => .inl e, .inl ⟨rfl, fun p z => nomatch z⟩⟩
theorem KI {M0 M : MH} (f : Fr M0 M) {p : Addr} {l : List AV} {ds : List Dat} (h0 : M0 p = none) (h : M p = some (.lst l)) (hp : pur l = some ds) : wN M0 M (.ref p) (.d (.lst ds)) M0 := ⟨f.sub, fun q o e => .inl e, .inr ⟨p, l, ds, rfl, h, hp, h0, rfl⟩⟩
theorem wv {l : List AV} {ds : List Dat} (h : pur l = some ds) (r : Addr) : AV.ref r ∉ l := by
 rw [qP h]; intro z
 obtain ⟨d, _, e⟩ := List.mem_map.mp z
 cases e
theorem Kb {M0 M : MH} (f : Fr M0 M) {p : Addr} {l : List AV} {ds : List Dat} (h0 : M0 p = none) (h : M p = some (.lst l)) (hp : pur l = some ds) : wN M0 M (.ref p) (.ref p) (mup M0 p (.lst l)) := by
 refine ⟨fun q => ?_, fun q o e => ?_, .inl ⟨rfl, fun q z => by cases z; rw [zt]; exact fun z => nomatch z⟩⟩
 ·by_cases c : q = p
  ·rw [c, zt, h]; exact .inl rfl
  ·rw [zL c]; exact f.sub q
 ·by_cases c : q = p
  ·rw [c, zt] at e
   cases e
   exact .inr fun r hr => absurd hr (wv hp r)
  ·rw [zL c] at e; exact .inl e
def qH (N : List Str) (xs : List AV) : ASt := xs.map some ++ List.replicate (N.length - xs.length) none
theorem Qa {H : Hp} {O : Own} {M : MH} {vs : List V} {xs : List AV} (r : zg H O M vs xs) (N : List Str) : Er H O M (start N vs) (qH N xs) := by
 unfold start qH
 refine ⟨by simp [r.1], fun i x h => ?_⟩
 by_cases c : i < xs.length
 ·rw [List.getElem?_append_left (by simpa using c), List.getElem?_map] at h
  cases e : xs[i]? with
  | none => rw [e] at h; cases h
  | some y =>
   rw [e] at h
   cases h
   obtain ⟨v, hv, rv⟩ := r.get e
   exact ⟨v, by rw [List.getElem?_append_left (by rw [List.length_map, r.1]; exact c), List.getElem?_map, hv]; rfl, rv⟩
 ·rw [List.getElem?_append_right (by simp; omega), List.getElem?_replicate] at h
  split at h <;> cases h
def rtA (M0 : MH) (Q : AK) : AK := fun x M' => ∃ x' M'', wN M0 M' x x' M'' /\ Q x' M''
theorem dfA {P : Program} {w : World} {K : PySem.W.Frag} {mg : Str -> Option Value} {base : Heap} {x : Str} {st : Stmt} {N ps : List Str} {k : Nat} {a : ASp} (at_ : At K mg x st) (S : zA N ps (zk st))
  (hb : ∀ (kV doc pm : Value) (an : Option Addr) (cdv ct : Value) (us : List Value), us.length = ps.length -> bindArgs (PySem.W.fnOf x x (qE st) (qd st) (zk st) .none kV doc pm an cdv ct) ⟨us, []⟩ = pure (ps.zip us))
  (len : ∀ xs M Q, a xs M Q -> xs.length = ps.length)
  (hbody : ∀ (f : Addr) (cdv : Value) (A : Around) (outer : List Env) (s : Shared) (H : Hp) (E : XK), qJ k (A.deeper (envOfC x (zk st) s.heap.objs.size f cdv)) ->
   ∃ t, PSs (xU CX0 P w K mg base N x (zk st) f cdv A outer s H E).nox (qd st) t /\ ∃ b, jo t b /\ ∀ xs M Q, a xs M Q -> b M { nx := fun _ M' => rtA M Q (.d .non) M', rt := rtA M Q } (qH N xs) M) : Df P w K mg base x ps (k + 1) (cSp a) := by
 refine jm at_ S hb (fun vs H Q E h => ?_) (fun f cdv A outer s H vs Q E hr h => ?_)
 ·obtain ⟨xs, M, O, Q', w, r, q, _⟩ := h
  rw [r.1]; exact len xs M Q' q
 ·obtain ⟨t, ht, b, hb, hq⟩ := hbody f cdv A outer s H E hr
  refine ⟨t, ht, ?_⟩
  obtain ⟨xs, M, O, Q', w, r, q, kk⟩ := h
  refine hb.go w w (Qa r N) .refl (hq xs M Q' q) ⟨fun σ H' O' ρ M' w' e' x' q' => ?_, fun v y H' O' M' w' x' r' q' => ?_, fun _ _ _ _ _ _ _ _ z => z.elim, fun _ _ _ _ _ _ _ _ z => z.elim⟩
  ·obtain ⟨y', M'', f, q2⟩ := q'
   obtain ⟨O'', w2, k2, r2⟩ := vQ w w' x' (show zn H' O' M' .non (.d .non) from .non) f
   exact kk _ _ _ _ _ q2 k2 w2 r2
  ·obtain ⟨y', M'', f, q2⟩ := q'
   obtain ⟨O'', w2, k2, r2⟩ := vQ w w' x' r' f
   exact kk _ _ _ _ _ q2 k2 w2 r2
end L2
set_option Elab.async false
set_option linter.all false
set_option maxRecDepth 100000
set_option maxHeartbeats 4000000
namespace L2
open PySem PySem.Spec PyProof.Rows
structure Wi (tr : Addr -> TR) (a : ATR) : Prop where
 go : ∀ D, wx D (tr D) a
theorem Qj {t u : TE} {a b : AE} (h1 : zN t a) (h2 : zN u b) : zN (tOp JQ t u) (aFz (fOp Xz a b)) := kB (wC yY h1 h2)
theorem Zq {K : PySem.W.Frag} {u : TA} {b : AA} (h : jE u b) : zN (tCB (fun xs H Q => ∃ p ns, xs = [V.ref p] /\ SqL K H p (List.map V.int ns) /\ ns.length < 64 /\ ∀ (l : Addr) (ns' : List Int), H l = none -> ns'.Perm ns -> List.Pairwise (fun x1 x2 => x1 <= x2) ns' -> Q (V.ref l) (upd H l (HO.lst (List.map V.int ns')))) u) (aFz (fCB yq b)) := kB (ya kd h)
theorem wX {u : TA} {b : AA} (h : jE u b) : zN (tCB (fun xs H Q => ∃ p a b c n, xs = [.ref p] /\ H p = some (qK p a b c) /\ Builtin.Range.small a b c = true /\ Builtin.Range.rangeSize a b c = ((n : Nat) : Int) /\ n <= 100000 /\ ∀ l, H l = none -> Q (.ref l) (upd H l (.lst ((zw a c n).map V.int)))) u) (aFz (fCB Z7 b)) := kB (ya xQ h)
theorem ex2 {t : TS} {q : AS -> Prop} {b : AS} (h : jo t b) (k : q b) : ∃ b, jo t b /\ q b := ⟨b, h, k⟩
section
variable {X : Cx} {K : PySem.W.Frag}
end
theorem Zu {τ : Type} (R : τ -> ASt) (p : AV -> Bool) (f : AV -> AV) {ag : AG} {at_ : AT} {ae : AE} {G : MH -> Prop} {N : List AV -> ASt -> MH -> Prop} {l : List AV} {ρ : ASt} {M : MH} (h0 : ∃ o, ρ = R o) (hG : G M) (hl : l.length <= 100000)
  (hs : ∀ (o : τ) (x : AV) (Q : Option AV -> ASt -> MH -> Prop), x ∈ l -> (∀ o', Q (if p x then some (f x) else none) (R o') M) -> ag x (R o) M fun ρ2 M2 => at_ ρ2 M2 fun b M3 => if b = true then ae ρ2 M3 fun y M4 => Q (some y) ρ2 M4 else Q none ρ2 M3)
  (hN : ∀ o, N ((l.filter p).map f) (R o) M) : Ys ag at_ (we ae) G N l [] ρ M := by
 have hsl : 100000 < sizeLine := by rw [sizeLine_eq]; decide
 refine ⟨fun i acc ρ' M' => i <= l.length /\ acc = ((l.take i).filter p).map f /\ M' = M /\ ∃ o, ρ' = R o, ⟨Nat.zero_le _, rfl, rfl, h0⟩, ?_, ?_⟩
 ·rintro i x acc ρ' M' hx ⟨hi, rfl, rfl, o, rfl⟩
  have hil := (List.getElem?_eq_some_iff.mp hx).1
  have tk : l.take (i + 1) = l.take i ++ [x] := by rw [List.take_add_one, hx]; rfl
  have hlen : (((l.take i).filter p).map f).length <= i := by
   rw [List.length_map]
   exact Nat.le_trans (List.length_filter_le _ _) (by rw [List.length_take]; omega)
  refine ⟨hG, ?_⟩
  refine hs o x (fun y ρ2 M3 => match y with | some y => (((l.take i).filter p).map f).length < sizeLine /\ (i + 1 <= l.length /\ ((l.take i).filter p).map f ++ [y] = ((l.take (i + 1)).filter p).map f /\ M3 = M' /\ ∃ o, ρ2 = R o) | none => i + 1 <= l.length /\ ((l.take i).filter p).map f = ((l.take (i + 1)).filter p).map f /\ M3 = M' /\ ∃ o, ρ2 = R o) (List.mem_of_getElem? hx) fun o' => ?_
  rw [tk, List.filter_append]
  cases e : p x with
  | true => rw [if_pos rfl]; exact ⟨by omega, hil, by rw [List.filter_cons_of_pos e, List.map_append]; rfl, rfl, o', rfl⟩
  | false => rw [if_neg (by decide)]; exact ⟨hil, by rw [List.filter_cons_of_neg (by rw [e]; decide), List.filter_nil, List.append_nil], rfl, o', rfl⟩
 ·rintro acc ρ' M' ⟨_, rfl, rfl, o, rfl⟩
  rw [List.take_length]
  exact ⟨hG, hN o⟩
theorem YF : isT "int" "int" = some true := by decide +kernel
theorem Yy : isT "int" "bool" = some false := by decide +kernel
theorem Y4 : isT "int" "str" = some false := by decide +kernel
theorem Yi : isT "int" "list" = some false := by decide +kernel
theorem Vn : isT "int" "tuple" = some false := by decide +kernel
theorem Yb : isT "bool" "int" = some true := by decide +kernel
theorem XE : isT "bool" "bool" = some true := by decide +kernel
theorem Y2 : isT "bool" "str" = some false := by decide +kernel
theorem Ya : isT "bool" "list" = some false := by decide +kernel
theorem VA : isT "bool" "tuple" = some false := by decide +kernel
theorem Y5 : isT "str" "int" = some false := by decide +kernel
theorem Vx : isT "str" "bool" = some false := by decide +kernel
theorem XU : isT "str" "str" = some true := by decide +kernel
theorem X2 : isT "str" "list" = some false := by decide +kernel
theorem Vo : isT "str" "tuple" = some false := by decide +kernel
theorem X7 : isT "NoneType" "int" = some false := by decide +kernel
theorem Xx : isT "NoneType" "bool" = some false := by decide +kernel
theorem YC : isT "NoneType" "str" = some false := by decide +kernel
theorem Yp : isT "NoneType" "list" = some false := by decide +kernel
theorem Y6 : isT "NoneType" "tuple" = some false := by decide +kernel
theorem Yt : isT "list" "int" = some false := by decide +kernel
theorem YJ : isT "list" "bool" = some false := by decide +kernel
theorem Vf : isT "list" "str" = some false := by decide +kernel
theorem QA : isT "list" "list" = some true := by decide +kernel
theorem YZ : isT "list" "tuple" = some false := by decide +kernel
theorem Vl : isT "tuple" "int" = some false := by decide +kernel
theorem YE : isT "tuple" "bool" = some false := by decide +kernel
theorem YL : isT "tuple" "str" = some false := by decide +kernel
theorem X0 : isT "tuple" "list" = some false := by decide +kernel
theorem Yx : isT "tuple" "tuple" = some true := by decide +kernel
theorem YH : xi "int" ["list", "tuple"] = some false := by decide +kernel
theorem X1 : xi "bool" ["list", "tuple"] = some false := by decide +kernel
theorem Vw : xi "str" ["list", "tuple"] = some false := by decide +kernel
theorem XX : xi "NoneType" ["list", "tuple"] = some false := by decide +kernel
theorem vF : xi "list" ["list", "tuple"] = some true := by decide +kernel
theorem v7 : xi "tuple" ["list", "tuple"] = some true := by decide +kernel
theorem JI : ve [] = some [] := rfl
theorem Zk {n : String} {r : List Dat} : ve (.ty n :: r) = (ve r).map (n :: ·) := rfl
theorem VM (M : MH) : tyA (.d .non) M = some "NoneType" := rfl
theorem V6 (b : Bool) (M : MH) : tyA (.d (.bl b)) M = some "bool" := rfl
theorem V5 (i : Int) (M : MH) : tyA (.d (.int i)) M = some "int" := rfl
theorem VP (s : Str) (M : MH) : tyA (.d (.str s)) M = some "str" := rfl
theorem VY (l : List Dat) (M : MH) : tyA (.d (.lst l)) M = some "list" := rfl
theorem V1 (l : List Dat) (M : MH) : tyA (.d (.tup l)) M = some "tuple" := rfl
theorem Zw (x : Dat) (r : List AV) : pur (.d x :: r) = match pur r with | some l => some (x :: l) | none => none := rfl
theorem Vh (i j : Int) : eqS (.int i) (.int j) = some (decide (i = j)) := rfl
theorem Yh (i j : Bool) : eqS (.bl i) (.bl j) = some (decide (i = j)) := rfl
theorem XS (i j : Str) : eqS (.str i) (.str j) = some (decide (i = j)) := rfl
theorem KS : kg (.d .non) = true := rfl
theorem Kk (i : Int) : kg (.d (.int i)) = false := rfl
theorem JR (i : List Dat) : kg (.d (.lst i)) = false := rfl
theorem Ke (i : List Dat) : kg (.d (.tup i)) = false := rfl
theorem Kn (i : Addr) : kg (.ref i) = false := rfl
theorem JU (i : Str) : kg (.d (.str i)) = false := rfl
theorem JS (i : Bool) : kg (.d (.bl i)) = false := rfl
end L2
set_option Elab.async false
set_option linter.all false
set_option maxRecDepth 100000
set_option maxHeartbeats 4000000
namespace L2
open PySem PySem.Spec PyProof.Rows
theorem JB {H H' : Hp} {O : Own} {M : MH} (w : Wf H O M) (k : Kp [] H H') : Ext H O M H' O M /\ Wf H' O M := by
 have e : Ext H O M H' O M := ⟨fun a o h e => ⟨k a o (by simp) e, h⟩, fun a h e => ⟨by
  obtain ⟨o, ho, _⟩ := w.al a h
  rw [ho]; exact k a o (by simp) ho, h, e⟩, fun _ h => h⟩
 refine ⟨e, ⟨fun a o h => qt.ext e ?_ (w.mo a o h), w.own, fun a h => ?_⟩⟩
 ·obtain ⟨u, hu, _⟩ := w.al a (w.own a (by rw [h]; exact fun z => nomatch z))
  rw [hu]; exact k a u (by simp) hu
 ·obtain ⟨o, ho, hn⟩ := w.al a h
  exact ⟨o, k a o (by simp) ho, hn⟩
theorem YM {H H' : Hp} {O : Own} {M : MH} (w : Wf H O M) {b : Addr} {l : List AV} (hb : M b = some (.lst l)) (k : Kp [b] H H') {ns : List Int} (h : H' b = some (.lst (ns.map V.int))) :
  Ext H O M H' O (mup M b (.lst (ns.map fun i => .d (.int i)))) /\ Wf H' O (mup M b (.lst (ns.map fun i => .d (.int i)))) := by
 have hOb := w.own b (qQ hb)
 have kk : ∀ a o, a ≠ b -> H a = some o -> H' a = some o := fun a o ha e => k a o (by simpa using ha) e
 have e : Ext H O M H' O (mup M b (.lst (ns.map fun i => .d (.int i)))) := ⟨fun a o h e => ⟨kk a o (fun z => h (by rw [z]; exact hOb)) e, h⟩, fun a ha e => by
  have hne : a ≠ b := fun z => by rw [z, hb] at e; cases e
  obtain ⟨o, ho, _⟩ := w.al a ha
  exact ⟨by rw [ho]; exact kk a o hne ho, ha, by rw [zL hne]; exact e⟩, fun a ha => by
  by_cases c : a = b
  ·rw [c, zt]; exact fun z => nomatch z
  ·rw [zL c]; exact ha⟩
 refine ⟨e, ⟨fun a o ho => ?_, fun a ha => ?_, fun a ha => ?_⟩⟩
 ·by_cases c : a = b
  ·subst c; rw [zt] at ho; cases ho; exact ⟨_, h, xV ns⟩
  ·rw [zL c] at ho
   refine qt.ext e ?_ (w.mo a o ho)
   obtain ⟨u, hu, _⟩ := w.al a (w.own a (qQ ho))
   rw [hu]; exact kk a u c hu
 ·by_cases c : a = b
  ·rw [c]; exact hOb
  ·rw [zL c] at ha; exact w.own a ha
 ·by_cases c : a = b
  ·rw [c]; exact ⟨_, h, fun xs z => nomatch z⟩
  ·obtain ⟨o, ho, hn⟩ := w.al a ha
   exact ⟨o, kk a o c ho, hn⟩
theorem yG {H : Hp} {O : Own} {p : Addr} {ns : List Int} (ho : ¬ O p) (h : H p = some (.lst (ns.map V.int))) : Rep H O (.ref p) (.lst (ns.map .int)) :=
 Rep.lst ho h (by simp) fun i x d e1 e2 => by
  rw [List.getElem?_map] at e1 e2
  cases e : ns[i]? with
  | none => rw [e] at e1; cases e1
  | some n => rw [e] at e1 e2; cases e1; cases e2; exact .int
theorem QT {H : Hp} {O : Own} {M : MH} {v : V} {x : AV} {ns : List Int} (w : Wf H O M) (r : zn H O M v x) (h : qp x M = some (ns.map fun i => .d (.int i))) : ∃ a, v = .ref a /\ H a = some (.lst (ns.map V.int)) := by
 obtain ⟨a, xs, rfl, h1, r1⟩ := qi w r h
 rw [jD r1] at h1
 exact ⟨a, rfl, h1⟩
theorem Df.imp' {P : Program} {w : World} {K : PySem.W.Frag} {mg : Str -> Option Value} {base : Heap} {x : Str} {ps : List Str} {sp sp' : Sp} {k : Nat} (D : Df P w K mg base x ps k sp) (h : ∀ vs H Q E, sp' vs H Q E -> sp vs H Q E) : Df P w K mg base x ps k sp' :=
 let ⟨f, fd, F, r⟩ := D
 ⟨f, fd, F.imp h, r⟩
mutual
def wdt : Dat -> Nat
 | .lst l => max l.length (vw l)
 | .tup l => max l.length (vw l)
 | _ => 0
def vw : List Dat -> Nat
 | [] => 0
 | a :: r => max (wdt a) (vw r)
end
theorem wB {l : List Dat} {n : Nat} (h : ∀ d ∈ l, wdt d <= n) : vw l <= n := by
 induction l with
 | nil => exact Nat.zero_le _
 | cons a r ih => rw [vw]; exact Nat.max_le.mpr ⟨h a (by simp), ih fun d hd => h d (by simp [hd])⟩
theorem wD {l : List Dat} {d : Dat} (h : d ∈ l) : wdt d <= vw l := by
 induction l with
 | nil => cases h
 | cons a r ih =>
  rw [vw]
  rcases List.mem_cons.mp h with rfl | h
  ·exact Nat.le_max_left _ _
  ·exact Nat.le_trans (ih h) (Nat.le_max_right _ _)
def qA (n : Nat) (d : Dat) : Prop := dp d <= n /\ wdt d <= 100000
theorem qA.mono {n m : Nat} {d : Dat} (h : qA n d) (k : n <= m) : qA m d := ⟨Nat.le_trans h.1 k, h.2⟩
theorem xb {n : Nat} {l : List Dat} (hl : l.length <= 100000) (h : ∀ d ∈ l, qA n d) : qA (n + 1) (.lst l) := ⟨by rw [dp]; exact Nat.succ_le_succ (yk fun d hd => (h d hd).1), by rw [wdt]; exact Nat.max_le.mpr ⟨hl, wB fun d hd => (h d hd).2⟩⟩
theorem yA {n : Nat} {l : List Dat} (hl : l.length <= 100000) (h : ∀ d ∈ l, qA n d) : qA (n + 1) (.tup l) := ⟨by rw [dp]; exact Nat.succ_le_succ (yk fun d hd => (h d hd).1), by rw [wdt]; exact Nat.max_le.mpr ⟨hl, wB fun d hd => (h d hd).2⟩⟩
theorem jR (n : Nat) (i : Int) : qA n (.int i) := ⟨by simp [dp], by simp [wdt]⟩
theorem KZ (n : Nat) (i : Bool) : qA n (.bl i) := ⟨by simp [dp], by simp [wdt]⟩
theorem Z3 (n : Nat) (i : Str) : qA n (.str i) := ⟨by simp [dp], by simp [wdt]⟩
theorem QV (n : Nat) : qA n .non := ⟨by simp [dp], by simp [wdt]⟩
theorem xI {ns : List Int} (h : ns.length <= 100000) : qA 1 (.lst (ns.map .int)) := xb (by simpa using h) fun d hd => by obtain ⟨i, _, rfl⟩ := List.mem_map.mp hd; exact jR 0 i
theorem qA.lst {n : Nat} {l : List Dat} (h : qA (n + 1) (.lst l)) : l.length <= 100000 /\ ∀ d ∈ l, qA n d := by
 obtain ⟨h1, h2⟩ := h
 rw [dp] at h1
 rw [wdt] at h2
 exact ⟨(Nat.max_le.mp h2).1, fun d hd => ⟨by have := zQ hd; omega, Nat.le_trans (wD hd) (Nat.max_le.mp h2).2⟩⟩
theorem qA.tup {n : Nat} {l : List Dat} (h : qA (n + 1) (.tup l)) : l.length <= 100000 /\ ∀ d ∈ l, qA n d := by
 obtain ⟨h1, h2⟩ := h
 rw [dp] at h1
 rw [wdt] at h2
 exact ⟨(Nat.max_le.mp h2).1, fun d hd => ⟨by have := zQ hd; omega, Nat.le_trans (wD hd) (Nat.max_le.mp h2).2⟩⟩
theorem yF {x : AV} {M : MH} {l : List Dat} (h : jn x M = some (.lst l)) : qp x M = some (l.map .d) /\ qw x M = some (l.map .d) /\ tyA x M = some "list" /\ kg x = false := by
 cases x with
 | d x => cases h; exact ⟨rfl, rfl, rfl, rfl⟩
 | ref a =>
  unfold jn at h
  dsimp only at h
  cases e : M a with
  | none => rw [e] at h; cases h
  | some o =>
   rw [e] at h
   cases o with
   | lst m =>
    dsimp only at h
    cases ep : pur m with
    | none => rw [ep] at h; cases h
    | some ds =>
     rw [ep] at h
     cases h
     rw [qP ep] at e
     exact ⟨xf e, kW e, by unfold tyA; dsimp only; rw [e], rfl⟩
   | _ => cases h
theorem zU {x : AV} {M : MH} {d : Dat} (h : jn x M = some d) (hd : ∀ l, d ≠ .lst l) : x = .d d := by
 cases x with
 | d x => cases h; rfl
 | ref a =>
  unfold jn at h
  dsimp only at h
  cases e : M a with
  | none => rw [e] at h; cases h
  | some o =>
   rw [e] at h
   cases o with
   | lst m =>
    dsimp only at h
    cases ep : pur m with
    | none => rw [ep] at h; cases h
    | some ds => rw [ep] at h; cases h; exact absurd rfl (hd ds)
   | _ => cases h
theorem Qg (b : Bool) : dp (.bl b) = 0 := by simp [dp]
theorem Y8 (b : Str) : dp (.str b) = 0 := by simp [dp]
theorem X3 : dp .non = 0 := by simp [dp]
theorem Y9 (a b : Bool) : eqD (.bl a) (.bl b) = decide (a = b) := by rw [eqD]; cases a <;> cases b <;> rfl
theorem Z6 (a b : Int) : eqD (.int a) (.int b) = decide (a = b) := by rw [eqD]; by_cases h : a = b <;> simp [h]
theorem Yk (a b : Str) : eqD (.str a) (.str b) = decide (a = b) := by rw [eqD]; by_cases h : a = b <;> simp [h]
theorem YG : eqD .non .non = true := by simp [eqD]
theorem Vu (i : Int) : eqD .non (.int i) = false := by simp [eqD]
theorem XC (i : Int) : eqD (.int i) .non = false := by simp [eqD]
theorem YD (i : Int) (s : Str) : eqD (.int i) (.str s) = false := by simp [eqD]
theorem X6 (i : Int) (s : Str) : eqD (.str s) (.int i) = false := by simp [eqD]
theorem YB (s : Str) : eqD (.str s) .non = false := by simp [eqD]
theorem Yw (s : Str) : eqD .non (.str s) = false := by simp [eqD]
theorem Q3 {x : AV} {M : MH} {l : List AV} (h : qp x M = some l) {p : Addr} (hp : M p = none) (o : MO) : qp x (mup M p o) = some l := by
 rcases xc h with ⟨m, rfl, rfl⟩ | ⟨a, rfl, e⟩
 ·rfl
 ·exact xf (by rw [zL (fun z => by rw [z, hp] at e; cases e)]; exact e)
theorem kX {x : AV} {M : MH} {l : List AV} (h : qw x M = some l) {p : Addr} (hp : M p = none) (o : MO) : qw x (mup M p o) = some l := by
 rcases qz h with h' | ⟨m, rfl, rfl⟩
 ·have := Q3 h' hp o
  rcases xc h' with ⟨m, rfl, rfl⟩ | ⟨a, rfl, e⟩
  ·rfl
  ·exact this
 ·rfl
theorem xr (ns : List Int) : List.map AV.d (List.map Dat.int ns) = List.map (fun i => AV.d (.int i)) ns := by rw [List.map_map]; rfl
theorem Xj (ns : List Bool) : List.map AV.d (List.map Dat.bl ns) = List.map (fun i => AV.d (.bl i)) ns := by rw [List.map_map]; rfl
theorem ql (ns : List Int) : pur (List.map (fun i => AV.d (.int i)) ns) = some (ns.map Dat.int) := by rw [<- xr, qu]
theorem Kf (ns : List Bool) : pur (List.map (fun i => AV.d (.bl i)) ns) = some (ns.map Dat.bl) := by rw [<- Xj, qu]
theorem yt {α β : Type} (f : α -> β) (l : List α) (i : Int) : atI (l.map f) i = (atI l i).map f := by
 unfold atI
 rw [List.length_map]
 cases ixN l.length i with
 | none => rfl
 | some j => exact List.getElem?_map ..
theorem ZS {n : Nat} {i : Int} (h0 : 0 <= i) (h1 : i < n) : ixN n i = some i.toNat := by unfold ixN; rw [if_pos h0, if_pos h1]
theorem Qm {α : Type} {l : List α} {i : Int} (h0 : 0 <= i) (h1 : i < l.length) (d : α) : atI l i = some (l.getD i.toNat d) := by
 unfold atI
 rw [ZS h0 h1]
 show l[i.toNat]? = _
 rw [List.getD_eq_getElem?_getD, List.getElem?_eq_getElem (by omega)]; rfl
theorem Zy {α : Type} (xs : List α) (k : Nat) : kq xs (some (k : Int)) none = xs.drop k := by
 unfold kq
 rw [HT.sIx_nat, HT.sIx_none, List.take_of_length_le (by rw [List.length_drop]; omega)]
 by_cases h : k <= xs.length
 ·rw [Nat.min_eq_left h]
 ·rw [Nat.min_eq_right (by omega), List.drop_length, List.drop_of_length_le (by omega)]
theorem J8 {α : Type} (xs : List α) (k : Nat) : kq xs none (some (k : Int)) = xs.take k := by
 unfold kq
 rw [HT.sIx_nat, HT.sIx_none, List.drop_zero, Nat.sub_zero]
 by_cases h : k <= xs.length
 ·rw [Nat.min_eq_left h]
 ·rw [Nat.min_eq_right (by omega), List.take_of_length_le (Nat.le_refl _), List.take_of_length_le (by omega)]
theorem zD {a jr : AS} {B : MH} {D : kE} {ρ : ASt} {M : MH} (h : ∀ r, r = jr -> Zj a r B D ρ M) : Zj a jr B D ρ M := h jr rfl
theorem Fr.non {M M' : MH} (f : Fr M M') {p : Addr} (h : M' p = none) : M p = none := by
 cases e : M p with
 | none => rfl
 | some o => rw [f p (by rw [e]; exact fun z => nomatch z), e] at h; cases h
abbrev ilD (os : List Int) : Dat := .lst (os.map .int)
theorem Ki (ns : List Int) (M : MH) : qp (.d (ilD ns)) M = some (ns.map fun i => .d (.int i)) := by rw [Q1, xr]
def Xg (K : PySem.W.Frag) (u : TA) : TE := tCB (fun xs H Q => ∃ p ys, xs = [V.ref p] /\ (SqL K H p ys \/ SqT K H p ys) /\ Q (V.int ys.length) H) u
theorem KW {X : Cx} {e : Expr} {u : TA} (h : PE X e (tCB (fun xs H Q => ∃ p ys, xs = [V.ref p] /\ (SqL X.K H p ys \/ SqT X.K H p ys) /\ Q (V.int ys.length) H) u)) : PE X e (Xg X.K u) := h
def Xa (K : PySem.W.Frag) (b : AA) : AE := fun ρ M Q => b ρ M fun xs M1 => ∃ l, xs = [.d (.scr K l)] /\ Q (.d (.int (l.length : Nat))) M1
theorem ZP {K : PySem.W.Frag} {u : TA} {b : AA} (h : jE u b) : zN (Xg K u) (Xa K b) := ⟨fun w e q k => h.go w e q fun xs M1 v H1 O1 ⟨l, e1, q1⟩ k1 w1 r1 => by
 subst e1
 obtain ⟨v, rfl, rv⟩ := qG r1
 obtain ⟨a, rfl, hs⟩ := wF rv
 exact ⟨a, _, rfl, .inl hs, by rw [List.length_map]; exact k _ _ _ _ _ q1 k1 w1 .int⟩⟩
def BxM (M : MH) (b : Addr) (N : Nat) : Prop := ∃ x y z : Int, M b = some (.lst [.d (.int x), .d (.int y), .d (.int z)]) /\ 0 <= x /\ 0 <= y /\ y < 2147483648 /\ 0 <= z /\ z <= N
theorem BxM.mono {M : MH} {b : Addr} {N N' : Nat} (h : BxM M b N) (hn : N <= N') : BxM M b N' := by
 obtain ⟨x, y, z, h1, h2, h3, h4, h5, h6⟩ := h
 exact ⟨x, y, z, h1, h2, h3, h4, h5, by omega⟩
theorem BxM.ne {M : MH} {b : Addr} {N : Nat} (h : BxM M b N) : M b ≠ none := by obtain ⟨x, y, z, h1, _⟩ := h; exact qQ h1
theorem BxM.bx {H : Hp} {O : Own} {M : MH} {b : Addr} {N : Nat} (w : Wf H O M) (h : BxM M b N) : Bx H b N := by
 obtain ⟨x, y, z, h1, h2⟩ := h
 obtain ⟨xs, hx, rx⟩ := w.mo b _ h1
 rw [jD (ns := [x, y, z]) rx] at hx
 exact ⟨x, y, z, hx, h2⟩
def BxS (M M' : MH) (b : Addr) (N : Nat) : Prop := BxM M' b N /\ ∃ o, M' = mup M b o
theorem BxS.at {M M' : MH} {b : Addr} {N : Nat} (h : BxS M M' b N) {q : Addr} (hq : q ≠ b) : M' q = M q := by
 obtain ⟨_, o, rfl⟩ := h
 exact zL hq
theorem vJ {H H' : Hp} {O : Own} {M : MH} (w : Wf H O M) {b : Addr} {N N' : Nat} (hb : BxM M b N) (k : Kp [b] H H') (h : Bx H' b N') : ∃ M', BxS M M' b N' /\ Ext H O M H' O M' /\ Wf H' O M' := by
 obtain ⟨x, y, z, h1, _⟩ := hb
 obtain ⟨x', y', z', g1, g2⟩ := h
 obtain ⟨e1, e2⟩ := YM w h1 k (ns := [x', y', z']) g1
 exact ⟨_, ⟨⟨x', y', z', zt, g2⟩, _, rfl⟩, e1, e2⟩
end L2
set_option Elab.async false
set_option linter.all false
set_option maxRecDepth 100000
set_option maxHeartbeats 4000000
namespace L2
open PySem PySem.Spec PyProof.Rows
mutual
def pdD : Dat -> PyData
 | .bl b => .bool b
 | .int i => .int i
 | .str x => .str x
 | .lst l => .list (qF l)
 | .tup l => .tuple (qF l)
 | _ => .none
def qF : List Dat -> List PyData
 | [] => []
 | a :: r => pdD a :: qF r
end
section
variable {X : Cx} {pins : List (Addr × Obj)} {s : Shared} {σ : St} {H : Hp} {O : Own}
theorem qY : ∀ {xs : List V} {us : List Value} {l : List Dat}, zq xs us -> xs.length = l.length -> (∀ (i : Nat) x d, xs[i]? = some x -> l[i]? = some d -> ∀ v', zr x v' -> ∃ as, Reads s.heap v' (pdD d) as) -> ∃ as, ReadsAll s.heap us (qF l) as
 | [], _, [], .nil, _, _ => ⟨_, by rw [qF]; exact .nil⟩
 | x :: xs, _, d :: l, .cons r t, hl, h => by
  obtain ⟨as, ha⟩ := h 0 x d rfl rfl _ r
  obtain ⟨bs, hb⟩ := qY t (by simpa using hl) (fun i y e h1 h2 => h (i + 1) y e (by simpa using h1) (by simpa using h2))
  exact ⟨as ++ bs, by rw [qF]; exact .cons ha hb⟩
theorem QP (I : Inv X pins σ H s) {v : V} {d : Dat} (r : Rep H O v d) : dp d < 1000 -> ∀ v', zr v v' -> ∃ as, Reads s.heap v' (pdD d) as := by
 induction r with
 | non => intro _ v' rv; cases rv; exact ⟨_, by rw [show pdD .non = .none by simp [pdD]]; exact .none⟩
 | bl => intro _ v' rv; cases rv; exact ⟨_, by rw [pdD]; exact .bool _⟩
 | int => intro _ v' rv; obtain ⟨t, rfl⟩ := rv; exact ⟨_, by rw [pdD]; exact .int _ _⟩
 | str => intro _ v' rv; obtain ⟨t, rfl⟩ := rv; exact ⟨_, by rw [pdD]; exact .str _ _⟩
 | ty => intro h; rw [dp] at h; omega
 | rng _ _ => intro h; rw [dp] at h; omega
 | scr _ _ => intro h; rw [dp] at h; omega
 | scrK _ => intro h; rw [dp] at h; omega
 | @lst a xs l o h hl _ ih =>
  intro hd v' rv
  cases rv
  rw [dp] at hd
  obtain ⟨_, its, n, vs, hg⟩ := (show zK X.prog X.w H s.heap a (.lst xs) from I.hok a _ h)
  obtain ⟨as, ha⟩ := qY vs hl (fun i x d e1 e2 => ih i x d e1 e2 (by have := zQ (List.mem_of_getElem? e2); omega))
  exact ⟨_, by rw [pdD]; exact .list hg rfl rfl (by simpa using ha)⟩
 | @tup a xs l o h hl _ ih =>
  intro hd v' rv
  cases rv
  rw [dp] at hd
  obtain ⟨_, its, vs, o, ho, hc, n, hdt⟩ := (show zK X.prog X.w H s.heap a (.tup xs) from I.hok a _ h)
  obtain ⟨as, ha⟩ := qY vs hl (fun i x d e1 e2 => ih i x d e1 e2 (by have := zQ (List.mem_of_getElem? e2); omega))
  exact ⟨_, by rw [pdD]; exact .tuple ho hc hdt (by simpa using ha)⟩
mutual
theorem Qb : ∀ d : Dat, (pdD d).hasDict = false
 | .non => by simp [pdD, PyData.hasDict]
 | .bl _ => by simp [pdD, PyData.hasDict]
 | .int _ => by simp [pdD, PyData.hasDict]
 | .str _ => by simp [pdD, PyData.hasDict]
 | .ty _ => by simp [pdD, PyData.hasDict]
 | .rng _ _ _ => by simp [pdD, PyData.hasDict]
 | .scr _ _ => by simp [pdD, PyData.hasDict]
 | .lst l => by rw [pdD, PyData.hasDict]; exact yv l
 | .tup l => by rw [pdD, PyData.hasDict]; exact yv l
theorem yv : ∀ l : List Dat, PyData.hasDictAll (qF l) = false
 | [] => by simp [qF, PyData.hasDictAll]
 | a :: r => by rw [qF, PyData.hasDictAll, Qb a, yv r]; rfl
end
mutual
theorem yH : ∀ d : Dat, (pdD d).depth <= dp d
 | .non => by simp [pdD, PyData.depth]
 | .bl _ => by simp [pdD, PyData.depth]
 | .int _ => by simp [pdD, PyData.depth]
 | .str _ => by simp [pdD, PyData.depth]
 | .ty _ => by simp [pdD, PyData.depth]
 | .rng _ _ _ => by simp [pdD, PyData.depth]
 | .scr _ _ => by simp [pdD, PyData.depth]
 | .lst l => by rw [pdD, PyData.depth, dp]; exact Nat.succ_le_succ (jZ l)
 | .tup l => by rw [pdD, PyData.depth, dp]; exact Nat.succ_le_succ (jZ l)
theorem jZ : ∀ l : List Dat, PyData.depthAll (qF l) <= dps l
 | [] => by simp [qF, PyData.depthAll]
 | a :: r => by rw [qF, PyData.depthAll, dps]; exact Nat.max_le.mpr ⟨Nat.le_trans (yH a) (Nat.le_max_left _ _), Nat.le_trans (jZ r) (Nat.le_max_right _ _)⟩
end
def VU : List V -> Hp -> VK -> Prop := fun xs H Q => ∃ a O d, xs = [.ref a] /\ Rep H O (.ref a) d /\ dp d <= 40 /\ (pdD d).showable = true /\ (pdD d).shown.length <= sizeLine /\ Q (.str (pdD d).shown) H
theorem xx (hg : X.A.guards = some []) (hu : X.A.units + 64 < cLine) : zY X (.type "str") VU := by
 intro pins s σ H xs us Q I r h
 obtain ⟨a, O, d, rfl, rd, hd, hs, hz, q⟩ := h
 have hdp := yH d
 obtain ⟨u, rfl, ru⟩ : ∃ u, us = [u] /\ zr (.ref a) u := by
  cases r with
  | cons p q => cases q; exact ⟨_, rfl, p⟩
 cases ru
 obtain ⟨as, ha⟩ := QP I rd (by omega) _ rfl
 exact str_of_reads ha hs (PyData.noDict_hsm (Qb d)) hg (by omega) (fun _ _ e => e) (fun h' u tk hk => ⟨.str _, H, I.kept hk, ⟨_, rfl⟩, q⟩) hz
end
def stD : Dat -> Str
 | .str x => x
 | d => (pdD d).shown
section
variable {X : Cx}
def Xr : List V -> Hp -> VK -> Prop := fun xs H Q => ∃ v O d, xs = [v] /\ Rep H O v d /\ dp d <= 40 /\ (pdD d).showable = true /\ (pdD d).shown.length <= sizeLine /\ Q (.str (stD d)) H
theorem xN (hg : X.A.guards = some []) (hu : X.A.units + 64 < cLine) : zY X (.type "str") Xr := by
 intro pins s σ H xs us Q I r h
 obtain ⟨v, O, d, rfl, rd, hd, hs, hz, q⟩ := h
 have I' : ∀ tk, Inv X pins σ H { s with toks := tk } := fun tk => I.kept (h' := s.heap) (fun _ _ e => e)
 cases rd with
 | non =>
  obtain ⟨u, rfl, ru⟩ : ∃ u, us = [u] /\ zr .non u := by
   cases r with
   | cons p q => cases q; exact ⟨_, rfl, p⟩
  cases ru
  exact PySem.P.str_of_none ⟨.str _, H, I' _, ⟨_, rfl⟩, by simpa [stD, pdD, PyData.shown] using q⟩
 | @bl b =>
  obtain ⟨u, rfl, ru⟩ : ∃ u, us = [u] /\ zr (.bl b) u := by
   cases r with
   | cons p q => cases q; exact ⟨_, rfl, p⟩
  cases ru
  exact PySem.P.str_of_bool ⟨.str _, H, I' _, ⟨_, rfl⟩, by cases b <;> simpa [stD, pdD, PyData.shown] using q⟩
 | @int i =>
  obtain ⟨u, rfl, ru⟩ : ∃ u, us = [u] /\ zr (.int i) u := by
   cases r with
   | cons p q => cases q; exact ⟨_, rfl, p⟩
  obtain ⟨t, rfl⟩ := ru
  have hs : i.natAbs.log2 < 1920 := by rw [pdD, PyData.showable] at hs; exact of_decide_eq_true hs
  exact PySem.P.str_of_int hs ⟨.str _, H, I' _, ⟨_, rfl⟩, by simpa [stD, pdD, PyData.shown] using q⟩
 | @str x =>
  obtain ⟨u, rfl, ru⟩ : ∃ u, us = [u] /\ zr (.str x) u := by
   cases r with
   | cons p q => cases q; exact ⟨_, rfl, p⟩
  obtain ⟨t, rfl⟩ := ru
  exact PySem.P.str_of_str ⟨.str x, H, I, ⟨t, rfl⟩, q⟩
 | ty => rw [dp] at hd; omega
 | rng _ _ => rw [dp] at hd; omega
 | scr _ _ => rw [dp] at hd; omega
 | scrK _ => rw [dp] at hd; omega
 | lst h1 h2 h3 h4 => exact xx hg hu pins s σ H _ us Q I r ⟨_, O, _, rfl, .lst h1 h2 h3 h4, hd, hs, hz, by simpa [stD] using q⟩
 | tup h1 h2 h3 h4 => exact xx hg hu pins s σ H _ us Q I r ⟨_, O, _, rfl, .tup h1 h2 h3 h4, hd, hs, hz, by simpa [stD] using q⟩
end
def Xe : List AV -> MH -> AK -> Prop := fun xs M Q => ∃ x d, xs = [x] /\ jn x M = some d /\ dp d <= 40 /\ (pdD d).showable = true /\ (pdD d).shown.length <= sizeLine /\ Q (.d (.str (stD d))) M
theorem Jd : ym Xr Xe := ⟨fun w r ⟨x, d, e, hx, h1, h3, h4, q⟩ k => by
 subst e
 obtain ⟨v, rfl, rv⟩ := qG r
 obtain ⟨O', r'⟩ := xj w rv hx
 exact ⟨v, O', d, rfl, r', h1, h3, h4, k _ _ _ _ _ q .refl w .str⟩⟩
structure Sh (b : Nat) (d : Dat) : Prop where
 s : (pdD d).showable = true
 l : (pdD d).shown.length <= b
theorem Sh.mono {b c : Nat} {d : Dat} (h : Sh b d) (k : b <= c) : Sh c d := ⟨h.s, Nat.le_trans h.l k⟩
theorem v0 {i : Int} (h : i.natAbs < 10 ^ 20) : Sh 22 (.int i) := by
 have h1 : i.natAbs.log2 < 1920 := by
  by_cases z : i.natAbs = 0
  ·rw [z]; decide
  ·exact (Nat.log2_lt z).mpr (Nat.lt_trans h (by decide +kernel))
 refine ⟨by rw [pdD, PyData.showable]; exact decide_eq_true h1, ?_⟩
 rw [pdD, PyData.shown]
 have := int_text_length_le10 (a := i) (k := 20) (by decide) h
 have e : (Str.ofString (toString i)).length = (toString i).length := PySem.ofString_length _
 show (Str.ofString (toString i)).length <= 22
 omega
theorem wl {l : List Dat} (h : ∀ d ∈ l, (pdD d).showable = true) : PyData.showableAll (qF l) = true := by
 induction l with
 | nil => simp [qF, PyData.showableAll]
 | cons a r ih => rw [qF, PyData.showableAll, h a (by simp), ih fun d hd => h d (by simp [hd])]; rfl
theorem jH {b : Nat} {l : List Dat} (h : ∀ d ∈ l, (pdD d).shown.length <= b) : ((PyData.shownAll (qF l)).map (·.length)).sum <= l.length * b /\ (PyData.shownAll (qF l)).length = l.length := by
 induction l with
 | nil => simp [qF, PyData.shownAll]
 | cons a r ih =>
  obtain ⟨h1, h2⟩ := ih fun d hd => h d (by simp [hd])
  have h3 := h a (by simp)
  rw [qF, PyData.shownAll]
  simp only [List.map_cons, List.sum_cons, List.length_cons]
  refine ⟨?_, by rw [h2]⟩
  rw [Nat.add_mul, Nat.one_mul]
  omega
theorem Ju {b n : Nat} {l : List Dat} (hn : l.length <= n) (h : ∀ d ∈ l, Sh b d) : Sh (n * b + 2 * n + 3) (.lst l) := by
 obtain ⟨h1, h2⟩ := jH (fun d hd => (h d hd).l)
 refine ⟨by rw [pdD, PyData.showable]; exact wl fun d hd => (h d hd).s, ?_⟩
 rw [pdD, PyData.shown]
 have := listText_len_le (PyData.shownAll (qF l))
 have hm : l.length * b <= n * b := Nat.mul_le_mul_right b hn
 omega
theorem Z8 {b n : Nat} {l : List Dat} (hn : l.length <= n) (h : ∀ d ∈ l, Sh b d) : Sh (n * b + 2 * n + 3) (.tup l) := by
 obtain ⟨h1, h2⟩ := jH (fun d hd => (h d hd).l)
 refine ⟨by rw [pdD, PyData.showable]; exact wl fun d hd => (h d hd).s, ?_⟩
 rw [pdD, PyData.shown]
 have := tupleText_len_le (PyData.shownAll (qF l))
 have hm : l.length * b <= n * b := Nat.mul_le_mul_right b hn
 omega
theorem JZ {a b : ASp} (h : ∀ xs M Q, b xs M Q -> a xs M (rtA M Q)) (vs : List V) (H : Hp) (Q : VK) (E : XK) (q : cSp b vs H Q E) : cSp a vs H Q E := by
 obtain ⟨xs, M, O, Q', w, r, q, k⟩ := q
 refine ⟨xs, M, O, _, w, r, h xs M Q' q, fun x M' v H' O' q' e' w' r' => ?_⟩
 obtain ⟨y', M'', f, q2⟩ := q'
 obtain ⟨O'', w2, k2, r2⟩ := vQ w w' e' r' f
 exact k _ _ _ _ _ q2 k2 w2 r2
end L2
set_option Elab.async false
set_option linter.all false
set_option maxRecDepth 100000
set_option maxHeartbeats 4000000
namespace L2
open PySem PySem.Spec PyProof.Rows
structure SB (M0 M : MH) (b : Addr) (N : Nat) : Prop where
 bx : BxM M b N
 fr : ∀ q, M0 q ≠ none -> q ≠ b -> M q = M0 q
 b0 : M0 b ≠ none
theorem SB.refl {M : MH} {b : Addr} {N : Nat} (h : BxM M b N) : SB M M b N := ⟨h, fun _ _ _ => rfl, h.ne⟩
theorem SB.go {M0 M M' : MH} {b : Addr} {N N' : Nat} (s : SB M0 M b N) (t : BxS M M' b N') : SB M0 M' b N' := ⟨t.1, fun q hq hb => (t.at hb).trans (s.fr q hq hb), s.b0⟩
theorem SB.mono {M0 M : MH} {b : Addr} {N N' : Nat} (s : SB M0 M b N) (h : N <= N') : SB M0 M b N' := ⟨s.bx.mono h, s.fr, s.b0⟩
theorem BxM.put {M : MH} {b p : Addr} {N : Nat} (h : BxM M b N) (n : b ≠ p) (o : MO) : BxM (mup M p o) b N := by
 obtain ⟨x, y, z, h1, h2⟩ := h
 exact ⟨x, y, z, by rw [zL n]; exact h1, h2⟩
theorem SB.new {M0 M : MH} {b p : Addr} {N : Nat} (s : SB M0 M b N) (hp : M p = none) : M0 p = none /\ p ≠ b := by
 have hb : p ≠ b := fun z => s.bx.ne (by rw [<- z]; exact hp)
 refine ⟨?_, hb⟩
 cases e : M0 p with
 | none => rfl
 | some o => rw [s.fr p (by rw [e]; exact fun z => nomatch z) hb, e] at hp; cases hp
theorem SB.put {M0 M : MH} {b p : Addr} {N : Nat} (s : SB M0 M b N) (h0 : M0 p = none) (hb : p ≠ b) (o : MO) : SB M0 (mup M p o) b N :=
 ⟨s.bx.put (Ne.symm hb) o, fun q hq hqb => by rw [zL (fun z => hq (by rw [z]; exact h0))]; exact s.fr q hq hqb, s.b0⟩
theorem SB.fin {M0 M : MH} {b : Addr} {N : Nat} (s : SB M0 M b N) (d : Dat) : ∃ M'', wN M0 M (.d d) (.d d) M'' /\ BxS M0 M'' b N := by
 obtain ⟨x, y, z, h1, h2⟩ := s.bx
 refine ⟨mup M0 b (.lst [.d (.int x), .d (.int y), .d (.int z)]), ⟨fun q => ?_, fun q o e => ?_, .inl ⟨rfl, fun p z => nomatch z⟩⟩, ⟨x, y, z, zt, h2⟩, _, rfl⟩
 ·by_cases c : q = b
  ·rw [c, zt, h1]; exact .inl rfl
  ·rw [zL c]
   cases e : M0 q with
   | none => exact .inr ⟨rfl, rfl⟩
   | some o => exact .inl (by rw [s.fr q (by rw [e]; exact fun z => nomatch z) c, e])
 ·by_cases c : q = b
  ·rw [c, zt] at e
   cases e
   exact .inr fun r hr => absurd hr (wv (ds := [.int x, .int y, .int z]) rfl r)
  ·rw [zL c] at e; exact .inl e
theorem SB.rt {M0 M : MH} {b : Addr} {N : Nat} {Q : AK} {d : Dat} (s : SB M0 M b N) (q : ∀ M', BxS M0 M' b N -> Q (.d d) M') : rtA M0 Q (.d d) M := by
 obtain ⟨M'', f, t⟩ := s.fin d
 exact ⟨_, _, f, q M'' t⟩
theorem Wp {M0 M : MH} {Q : AK} {d : Dat} (f : Fr M0 M) (q : Q (.d d) M0) : rtA M0 Q (.d d) M := ⟨_, _, ja f d, q⟩
theorem SB.frm {M M2 M' : MH} {b : Addr} {N : Nat} (f : Fr M M2) (hb : M b = none) (s : SB M2 M' b N) : Fr M M' := fun q hq => by
 have h1 : q ≠ b := fun z => hq (by rw [z]; exact hb)
 rw [s.fr q (by rw [f q hq]; exact hq) h1, f q hq]
theorem KF {l : List Dat} {i : Int} (h0 : 0 <= i) (h1 : i < l.length) : ∃ d ∈ l, atI (l.map AV.d) i = some (.d d) := by
 have h2 : i.toNat < l.length := by omega
 refine ⟨l[i.toNat], List.getElem_mem h2, ?_⟩
 rw [yt, Qm h0 h1 .non, List.getD_eq_getElem?_getD, List.getElem?_eq_getElem h2]; rfl
theorem V2 {l : List Dat} {i : Int} (h0 : -(l.length : Int) <= i) (h1 : i < l.length) : ∃ d ∈ l, atI (l.map AV.d) i = some (.d d) := by
 by_cases c : 0 <= i
 ·exact KF c h1
 ·rw [yt]
  unfold atI ixN
  rw [if_neg c, if_pos (by omega)]
  have h2 : (i + l.length).toNat < l.length := by omega
  exact ⟨l[(i + l.length).toNat], List.getElem_mem h2, by
   first
    | (show (l[(i + l.length).toNat]?).map AV.d = _; rw [List.getElem?_eq_getElem h2]; rfl)
    | (simp [h2])⟩
theorem kx (l m : List Dat) : pur (l.map AV.d ++ m.map AV.d) = some (l ++ m) := by rw [<- List.map_append, qu]
theorem wA (ns : List Int) (k : Nat) : pur (kq (ns.map fun i => AV.d (.int i)) none (some (k : Int))) = some ((ns.take k).map .int) := by rw [yy, J8, ql]
theorem xt (ns : List Int) (k : Nat) : pur (kq (ns.map fun i => AV.d (.int i)) (some (k : Int)) none) = some ((ns.drop k).map .int) := by rw [yy, Zy, ql]
theorem K7 {ns : List Int} {i : Int} (h0 : -(ns.length : Int) <= i) (h1 : i < ns.length) : ∃ v ∈ ns, atI (ns.map fun i => AV.d (.int i)) i = some (.d (.int v)) := by
 obtain ⟨d, hd, e⟩ := V2 (l := ns.map .int) (i := i) (by rw [List.length_map]; exact h0) (by rw [List.length_map]; exact h1)
 obtain ⟨v, hv, rfl⟩ := List.mem_map.mp hd
 rw [xr] at e
 exact ⟨v, hv, e⟩
end L2
set_option Elab.async false
set_option linter.all false
set_option maxRecDepth 100000
set_option maxHeartbeats 4000000
namespace Ot
open PySem PySem.Spec PyProof.Rows L2
def top (i : Nat) : Stmt := PySem.Challenge.pw_ownturn_k01_what_orders_are.main.body.getD i (.Pass ⟨0, 0, 0, 0⟩)
section
variable {P : Program} {w : World} {K : PySem.W.Frag} {mg : Str -> Option Value} {base : Heap} {k : Nat}
local macro_rules | `(tactic| walk_at "rd") => `(tactic| try simp only [Qi, Y3, Vy, Qs, tOp, tUn, rU, JY, tC, tB, V4, V8, Z2, rI0, rI, ZR, yK, Vr, Qp, Qk, K3, JE, Vj, XT, tCB, Q5, Yu, Xu, wI, Xd, vU, JQ, Vz, rEq, XN, YX, tBM, kz, xY, wy, Zb, Zd, ZC, tOr, XO, YV, Qf, VJ, wo, Jm, cxK, Qr, Xi, iLT, Xv, xW, VH, tSl, Ql, yn, Y1, List.append_nil,
 List.getElem?_cons_zero, List.getElem?_cons_succ, Option.some.injEq, exists_eq_left', exists_eq_left, V.int.injEq, V.ref.injEq, V.bl.injEq, List.cons.injEq, and_true, true_and, and_assoc, decide_eq_true_eq, Bool.not_eq_true', decide_eq_false_iff_not, Bool.false_eq_true, if_false, if_true, reduceIte, exists_and_left, exists_and_right, List.set_cons_zero, List.set_cons_succ, List.nil_append, List.cons_append])
theorem jf {H : Hp} {a b : Addr} {o : HO} (h' : H b = none) (h : H a = some o) : a ≠ b := zd h h'
theorem jM {H H' : Hp} {l : Addr} (h : H' l = none) (e : Kp [] H H') : H l = none := e.free h
theorem vS {K : PySem.W.Frag} {H H' : Hp} {a : Addr} {xs : List V} (h : SqL K H a xs) (e : Kp [] H H') : SqL K H' a xs := by
 rcases h with (h | ⟨o, h⟩) | h
 ·exact .inl (.inl (e _ _ (by simp) h))
 ·exact .inl (.inr ⟨o, e _ _ (by simp) h⟩)
 ·exact .inr h
theorem hsl : 100000 < sizeLine := by rw [sizeLine_eq]; decide
theorem JJ {α : Type} (k : Nat) (v : α) : (List.replicate k [v]).flatten = List.replicate k v := by simp
theorem qx (i : Int) {j : Int} (h : 0 < j) : 0 <= i % j /\ i % j < j := ⟨Int.emod_nonneg _ (by omega), Int.emod_lt_of_pos _ h⟩
theorem XM {i j : Int} (h1 : 0 <= i) (h2 : i < 18446744073709551616) : Qn i j := .inl ⟨by omega, by omega⟩
theorem Qe {i j : Int} (h1 : 0 <= j) (h2 : j < 18446744073709551616) : Qn i j := .inr ⟨by omega, by omega⟩
theorem b01 (c : Prop) [Decidable c] : 0 <= (if c then (1 : Int) else 0) := by split <;> decide
theorem KH {i j : Int} (h1 : 0 < j) (h2 : j < 1073741824) : Yq i j := ⟨h1, h2⟩
local macro_rules | `(tactic| walk_at "ne") => `(tactic| first | (with_reducible assumption) | exact Ne.symm (by with_reducible assumption) | exact jf (by with_reducible assumption) (by walk_at "hp") | exact Ne.symm (jf (by with_reducible assumption) (by walk_at "hp")))
local macro_rules | `(tactic| walk_at "hp") => `(tactic| first | (with_reducible assumption) | (with_reducible exact zf) | ((with_reducible refine Eq.trans (zh ?ne) ?_); (case ne => walk_at "ne"); walk_at "hp"))
local macro_rules | `(tactic| walk_at "kp") => `(tactic| first | (with_reducible assumption) | (with_reducible exact Kp.refl) | ((with_reducible refine Kp.trans ?_ (Kp.new _ ?h)); (case h => with_reducible assumption); walk_at "kp") | ((with_reducible refine Kp.trans ?_ (Kp.set _ ?h)); (case h => (simp; done)); walk_at "kp"))
local macro_rules | `(tactic| walk_at "fr") => `(tactic| first | (with_reducible assumption) | exact jM (by with_reducible assumption) (by walk_at "kp"))
local macro_rules | `(tactic| walk_at "sz") => `(tactic| (simp only [List.length_cons, List.length_nil, List.length_map, List.length_append, List.length_replicate, List.length_take, List.length_drop, zp, JJ, Nat.zero_add, Nat.one_mul]; omega))
local macro_rules | `(tactic| walk_at "fact") => `(tactic| first | (with_reducible assumption) | exact rfl | exact SqL.of (by walk_at "hp") | exact SqT.of (by walk_at "hp") | exact Or.inl (SqL.of (by walk_at "hp")) | exact Or.inr (SqT.of (by walk_at "hp")) | exact Or.inl (by with_reducible assumption) | exact vS (by with_reducible assumption) (by walk_at "kp") | exact Or.inl (vS (by with_reducible assumption) (by walk_at "kp")) | exact Exists.intro _ (SqL.of (by walk_at "hp")) | exact Exists.intro _ (vS (by with_reducible assumption) (by walk_at "kp")) | (walk_at "hp") | decide | omega | exact XM (by omega) (by omega) | exact Qe (by omega) (by omega) | exact KH (by omega) (by omega) | exact ⟨by omega, by omega⟩ | (walk_at "sz") | exact ⟨by decide, by decide, by decide⟩ | exact Qe (b01 _) (b01' _) | (walk_at "fr"))
local macro_rules | `(tactic| walk_at "x1") => `(tactic| first
 | ((with_reducible refine Exists.intro ?w (And.intro ?h ?_)); (case h => walk_at "fact"))
 | ((with_reducible refine And.intro ?h ?_); (case h => walk_at "fact"))
 | ((with_reducible refine Exists.intro ?w (Exists.intro ?w2 (And.intro ?h ?_))); (case h => walk_at "fact")))
local macro_rules | `(tactic| walk_at "xs") => `(tactic| repeat walk_at "x1")
local macro_rules | `(tactic| walk_at "sim1") => `(tactic| first
 | (with_reducible apply Jb) | with_reducible exact Kq | with_reducible exact Vm | with_reducible exact XD | with_reducible exact YI | with_reducible exact X5 | with_reducible exact X4 | with_reducible exact Kc | with_reducible exact ZT | with_reducible exact Zx | with_reducible exact Qc | with_reducible exact Kz
 | with_reducible exact QZ | with_reducible exact J5 | with_reducible exact Vs | with_reducible exact KU | with_reducible exact Jz | with_reducible exact Qh
 | with_reducible exact Yg | with_reducible exact ZW | with_reducible exact JO
 | with_reducible exact YT | with_reducible exact wL | with_reducible exact J9 | with_reducible exact Jr | with_reducible exact Jh | with_reducible exact Jd | with_reducible exact ZZ
 | with_reducible exact vW | with_reducible exact yY | with_reducible exact QC
 | with_reducible exact kd | with_reducible exact xQ
 | (with_reducible apply Kv) | (with_reducible apply K0) | (with_reducible apply KQ) | (with_reducible apply KC) | (with_reducible apply Qx) | (with_reducible apply KJ) | (with_reducible apply Z9)
 | (with_reducible apply ZE) | (with_reducible apply QN) | (with_reducible apply Qu) | (with_reducible apply VX) | (with_reducible apply K1) | (with_reducible apply VB) | (with_reducible apply KE) | (with_reducible apply XB) | (with_reducible apply Ko)
 | (with_reducible apply Ym) | (with_reducible apply JC) | (with_reducible apply KP) | (with_reducible apply wU) | (with_reducible apply Js)
 | (with_reducible apply Qv) | (with_reducible apply XW) | (with_reducible apply XH) | (with_reducible apply yI) | (with_reducible apply QO) | (with_reducible apply wC)
 | (with_reducible apply K4) | (with_reducible apply ya) | (with_reducible apply ZD) | (with_reducible apply Ks) | (with_reducible apply ZP) | (with_reducible apply Qj) | (with_reducible apply XF) | (with_reducible apply Zq) | (with_reducible apply wX) | (with_reducible apply Vv)
 | (with_reducible apply kB))
local macro_rules | `(tactic| walk_at "sim") => `(tactic| repeat' walk_at "sim1")
local macro_rules | `(tactic| walk_at "ra") => `(tactic| try simp only [vn, aC, aOp, aUn, JT, yS, aCB, QS, aFz, aOw, VI, VZ, aB, Xp, VW, aOr, Yf, Xf, Qt, vq, Zj, Xn, YN, X9, vE, Xw, Q9, Xq, QR, asL, XJ, VE, aiS, VR, aiE, we, Jc, aI, aI0, aU, aIx, fOp, Xz, VO, V3, Xh, fSl, VG, Yz, bI2, Jp, fCB, yq, VV, Xl, Xo, Xe, Xb, Z7, aBM, Xa, wd, Kr, Vk, Q1, Vb, Vp, Yr, VM, V6, V5, VP, VY, V1, JI, Zk, Option.map_some, YH, X1, Vw, XX, vF, v7, YF, Yy, Y4, Yi, Vn, Yb, XE, Y2, Ya, VA, Y5, Vx, XU, X2, Vo, X7, Xx, YC, Yp, Y6, Yt, YJ, Vf, QA, YZ, Vl, YE, YL, X0, Yx, K2, Zw, qu, ql, Kf, xr, Xj, Vh, Yh, XS, KS, Kk, JR, Ke, Kn, JU, JS, j8, Qg, Y8, X3, Y9, Z6, Yk, YG, Vu, XC, YD, X6, YB, Yw, id, decide_true, decide_false, Bool.decide_eq_true, not_true_eq_false, not_false_eq_true, KL,
 List.getElem?_cons_zero, List.getElem?_cons_succ, Option.some.injEq, exists_eq_left', exists_eq_left, AV.d.injEq, AV.ref.injEq, Dat.int.injEq, Dat.bl.injEq, Dat.str.injEq, Dat.lst.injEq, Dat.tup.injEq, Dat.ty.injEq, List.cons.injEq, and_true, true_and, and_assoc, decide_eq_true_eq, Bool.not_eq_true', decide_eq_false_iff_not, Bool.false_eq_true, if_false, if_true, reduceIte, exists_and_left, exists_and_right, List.set_cons_zero, List.set_cons_succ, List.nil_append, List.cons_append, List.length_map, List.map_cons, List.map_nil, Nat.zero_le, Bool.not_true, Bool.not_false, Bool.true_eq_false, eq_self, List.length_cons, List.length_nil])
theorem kR (ns : List Int) (lo hi : Option Int) : yf (ns.map V.int) lo hi = List.map V.int ((ns.drop (HT.sIx ns.length 0 lo)).take (HT.sIx ns.length ns.length hi - HT.sIx ns.length 0 lo)) := by
 unfold yf
 rw [List.length_map, <- List.map_drop, <- List.map_take]
theorem jU (cs : List Int) (j : Nat) (v : Int) : (cs.map V.int).set j (.int v) = (cs.set j v).map V.int := by rw [List.map_set]
theorem zJ {cs : List Int} {k : Int} (h0 : 0 <= k) (h1 : k < cs.length) : ixN (cs.map V.int).length k = some k.toNat /\ atI (cs.map V.int) k = some (.int (cs.getD k.toNat 0)) := by
 have hk : k.toNat < cs.length := by omega
 have e1 : ixN (cs.map V.int).length k = some k.toNat := by unfold ixN; rw [List.length_map, if_pos h0, if_pos h1]
 refine ⟨e1, ?_⟩
 unfold atI
 rw [e1]
 show (cs.map V.int)[k.toNat]? = _
 rw [List.getElem?_map, List.getD_eq_getElem?_getD, List.getElem?_eq_getElem hk]; rfl
theorem qO {ns : List Int} {i : Nat} {x : V} (h : (ns.map V.int)[i]? = some x) : x = .int (ns.getD i 0) /\ i < ns.length := by
 rw [List.getElem?_map] at h
 cases e : ns[i]? with
 | none => rw [e] at h; cases h
 | some v =>
  rw [e] at h
  cases h
  exact ⟨by rw [List.getD_eq_getElem?_getD, e]; rfl, (List.getElem?_eq_some_iff.mp e).1⟩
abbrev vZ : Stmt := top 7
theorem wf : zA ["_law_box_here", "_law_many", "_law_once", "_law_found"] ["_law_box_here", "_law_many"] (zk vZ) := ⟨rfl, rfl, rfl, by decide +kernel, rfl, by decide +kernel, by decide +kernel⟩
def jt : Sp := fun vs H Q _ => ∃ (b : Addr) (many : Int) (N : Nat), vs = [.ref b, .int many] /\ Bx H b N /\ N < 1000000000 /\ 0 < many /\ many < 1073741824 /\ ∀ r H', Kp [b] H H' -> Bx H' b (N + 1) -> 0 <= r -> r < many -> Q (.int r) H'
theorem J4 (a : At K mg "_law_take" vZ) (B : Blt mg) : Df P w K mg base "_law_take" ["_law_box_here", "_law_many"] 1 jt := by
 refine jm (k := 0) a wf (fun _ _ _ _ _ _ us hl => match us, hl with | [_, _], _ => rfl) (fun vs H Q E h => ?_) (fun f cdv A outer s H vs Q E hr h => ?_)
 ·obtain ⟨b, m, N, rfl, _⟩ := h; rfl
 obtain ⟨b, m, N, rfl, ⟨x, y, z, hb, hx, hy, hy', hz, hz'⟩, hN, hm, hm', q⟩ := h
 have sc := wf
 refine ⟨_, (ze (qm (zH VT (zR zF (pv 0) zc (fun _ _ => rfl)) zc (zG _)) (ze (jx (zm yN rfl B.divmod Zz (za (zR zF (pv 0) zc (fun _ _ => rfl)) (za (pv 1) zb))) (jK (K := K) 2 rfl rfl (zX (qU (pv 0) zc qb) (zX (zE (i := 3) sc.nd rfl (by first | exact Or.inl rfl | exact Or.inr rfl)) jQ))))
  (zj (zu (pv 3)))) zO)
  (ze (jx (zi zC (zR zF (pv 0) zc (fun _ _ => rfl)) zc) (qU (pv 0) zc qb))
  (ze (zB (i := 2) sc.nd rfl (by first | exact Or.inl rfl | exact Or.inr rfl) (zi qc (zi qB (zi zC (zR zF (pv 0) zc (fun _ _ => rfl)) (zi qB zc (zR zF (pv 0) zc (fun _ _ => rfl)))) (zi zC zc (zR zF (pv 0) zc (fun _ _ => rfl)))) zc))
  (ze (jx (zi qc (zi zC (zi qB (pv 2) (zi zC (zi qc (pv 2) zc) zc)) (zR zF (pv 0) zc (fun _ _ => rfl))) zc) (qU (pv 0) zc qb))
  (zj (zu (zi qc (zi jJ (zi qc (zi qB (zR zF (pv 0) zc (fun _ _ => rfl)) (zi zC (zi qc (zR zF (pv 0) zc (fun _ _ => rfl)) zc) zc)) zc) zc) (pv 1)))))))), ?_⟩
 rw [show start ["_law_box_here", "_law_many", "_law_once", "_law_found"] [V.ref b, V.int m] = [some (.ref b), some (.int m), none, none] from rfl]
 walk_at "rd"
 walk_at "xs"
 refine xm (fun c => ?_) (fun c => ?_)
 ·walk_at "xs"
  refine fun p hp => ?_
  walk_at "xs"
  refine q _ _ ((Kp.new _ hp).trans (Kp.set _ (by simp))) ⟨_, _, _, zf, Int.ediv_nonneg hx (by omega), hy, hy', hz, by omega⟩ (qx x hm).1 (qx x hm).2
 ·walk_at "xs"
  refine q _ _ ((Kp.set _ (by simp)).trans (Kp.set _ (by simp))) ⟨_, _, _, zf, hx, ?_, ?_, ?_, ?_⟩ (qx _ hm).1 (qx _ hm).2
  ·exact (qx _ (by decide)).1
  ·exact Int.lt_trans (qx _ (by decide)).2 (by decide)
  ·omega
  ·omega
abbrev QY : Stmt := top 6
theorem Jv : zA ["_law_script", "_law_k", "_law_cell"] ["_law_script", "_law_k"] (zk QY) := ⟨rfl, rfl, rfl, by decide +kernel, rfl, by decide +kernel, by decide +kernel⟩
def K8 : Sp := fun vs H Q _ => ∃ (a : Addr) (k : Int) (cs : List Int), vs = [.ref a, .int k] /\ H a = some (il cs) /\ 0 <= k /\ k <= 1000 /\ cs.length <= 1000 /\ ∀ p H', Kp [] H H' -> H p = none -> Bx H' p 0 -> Q (.ref p) H'
theorem Ku {cs : List Int} {k : Int} (h0 : 0 <= k) : ∃ c : Int, atI (cs.map V.int ++ List.replicate (k + 1).toNat (V.int 0)) k = some (.int c) := by
 have e : cs.map V.int ++ List.replicate (k + 1).toNat (V.int 0) = (cs ++ List.replicate (k + 1).toNat 0).map V.int := by simp
 have ek : k = ((k.toNat : Nat) : Int) := by omega
 have hk : k.toNat < (cs ++ List.replicate (k + 1).toNat (0 : Int)).length := by rw [List.length_append, List.length_replicate]; omega
 refine ⟨(cs ++ List.replicate (k + 1).toNat 0)[k.toNat], ?_⟩
 rw [e]
 have q : atI ((cs ++ List.replicate (k + 1).toNat (0 : Int)).map V.int) ((k.toNat : Nat) : Int) = some (.int (cs ++ List.replicate (k + 1).toNat 0)[k.toNat]) := KR (by rw [List.getElem?_map, List.getElem?_eq_getElem hk] <;> rfl)
 rw [<- ek] at q
 exact q
theorem YA (a : At K mg "_law_box" QY) (B : Blt mg) : Df P w K mg base "_law_box" ["_law_script", "_law_k"] 1 K8 := by
 refine jm (k := 0) a Jv (fun _ _ _ _ _ _ us hl => match us, hl with | [_, _], _ => rfl) (fun vs H Q E h => ?_) (fun f cdv A outer s H vs Q E hr h => ?_)
 ·obtain ⟨a, k, cs, rfl, _⟩ := h; rfl
 obtain ⟨a, k, cs, rfl, ha, hk, hk', hcs, q⟩ := h
 have sc := Jv
 have hsl := hsl
 refine ⟨_, (ze (zB (i := 2) sc.nd rfl (by first | exact Or.inl rfl | exact Or.inr rfl) (zR zF (zi jg (pv 0) (zi Jn (zM (za zc zb)) (zi zC (pv 1) zc))) (pv 1) (fun _ _ => rfl)))
  (zj (zu (zM (za (zi qB (zm y0 rfl B.abs Z5 (za (pv 2) zb)) (zl xL rfl B.int yo (za (jC V7 (zm y0 rfl B.abs Z5 (za (pv 2) zb)) (zi JG zc zc) (zG _)) zb))) (za (zi qc (zi qB (zi zC (zi zC (zi qc (pv 2) zc) (zi qB zc (pv 1))) zc) zc) zc) (za zc zb))))))), ?_⟩
 rw [show start ["_law_script", "_law_k", "_law_cell"] [V.ref a, V.int k] = [some (.ref a), some (.int k), none] from rfl]
 walk_at "rd"
 walk_at "xs"
 intro p1 hp1
 walk_at "xs"
 intro p2 hp2
 walk_at "xs"
 intro p3 hp3
 simp only [JJ] at hp3 ⊢
 obtain ⟨c, hc⟩ := Ku (cs := cs) hk
 walk_at "xs"
 intro p4 hp4
 refine q _ _ (by walk_at "kp") (by walk_at "fr") ⟨_, _, _, zf, ?_, ?_, ?_, ?_, ?_⟩
 ·exact Int.mul_nonneg (by split <;> omega) (b01 _)
 ·exact (qx _ (by decide)).1
 ·exact Int.lt_trans (qx _ (by decide)).2 (by decide)
 ·decide
 ·decide
abbrev kJ : Stmt := top 8
theorem xD : zA ["_law_script", "_law_many", "_law_cells", "_law_k", "_law_cell"] ["_law_script", "_law_many"] (zk kJ) := ⟨rfl, rfl, rfl, by decide +kernel, rfl, by decide +kernel, by decide +kernel⟩
def yD (K : PySem.W.Frag) : Sp := fun vs H Q _ => ∃ (a : Addr) (m : Int) (ns : List Int), vs = [.ref a, .int m] /\ SqL K H a (ns.map V.int) /\ 0 < m /\ m <= 60 /\ ns.length <= 63 /\ ∀ p H' cs, Kp [] H H' -> H p = none -> H' p = some (il cs) -> cs.length <= 1000 -> Q (.ref p) H'
theorem ZI (a : At K mg "_law_folded" kJ) (B : Blt mg) : Df P w K mg base "_law_folded" ["_law_script", "_law_many"] 1 (yD K) := by
 refine jm (k := 0) a xD (fun _ _ _ _ _ _ us hl => match us, hl with | [_, _], _ => rfl) (fun vs H Q E h => ?_) (fun f cdv A outer s H vs Q E hr h => ?_)
 ·obtain ⟨a, k, cs, rfl, _⟩ := h; rfl
 obtain ⟨a, m, ns, rfl, ha, hm, hm', hns, q⟩ := h
 obtain ⟨M, rfl⟩ : ∃ M : Nat, m = M := ⟨m.toNat, by omega⟩
 have sc := xD
 have hsl := hsl
 refine ⟨_, (ze (zB (i := 2) sc.nd rfl (by first | exact Or.inl rfl | exact Or.inr rfl) (zl yp rfl B.list zV (za (qy qM (pv 0) jh (qD (pv 1))) zb)))
  (ze (qZ PassesOwn.never rfl (J7 rfl B.enumerate (za (qy qM (pv 0) (qD (pv 1)) (qD zc)) zb)) (jK (K := K) 2 rfl rfl (zX (zE (i := 3) sc.nd rfl (by first | exact Or.inl rfl | exact Or.inr rfl)) (zX (zE (i := 4) sc.nd rfl (by first | exact Or.inl rfl | exact Or.inr rfl)) jQ))) (zj (jx (zi zC (zR zF (pv 2) (zi qc (pv 3) (pv 1)) (fun _ _ => rfl)) (zi qB (pv 4) (zi zC (pv 3) zc))) (qU (pv 2) (zi qc (pv 3) (pv 1)) qb))))
  (zj (zu (pv 2))))), ?_⟩
 rw [show start ["_law_script", "_law_many", "_law_cells", "_law_k", "_law_cell"] [V.ref a, V.int M] = [some (.ref a), some (.int M), none, none, none] from rfl]
 walk_at "rd"
 walk_at "xs"
 intro p1 hp1
 rw [kR]
 walk_at "xs"
 intro p2 hp2
 walk_at "xs"
 intro p3 hp3
 rw [kR]
 have e63 : (63 : Int) = ((63 : Nat) : Int) := rfl
 simp only [HT.sIx_none, HT.sIx_nat, e63, List.drop_zero, Nat.sub_zero] at hp2 hp3 ⊢
 walk_at "xs"
 generalize hc0 : ns.take (min M ns.length) = c0 at hp2 hp3 ⊢
 generalize hd0 : (ns.drop (min M ns.length)).take (min 63 ns.length - min M ns.length) = d0 at hp2 hp3 ⊢
 have lc : c0.length = min M ns.length := by rw [<- hc0, List.length_take]; omega
 have ld : d0.length <= ns.length - M := by rw [<- hd0, List.length_take, List.length_drop]; omega
 have n23 : p2 ≠ p3 := by walk_at "ne"
 refine Kl (xs := d0.map V.int) (fun i τ H' => ∃ u v cs, τ = [some (.ref a), some (.int M), some (.ref p2), u, v] /\ Kp [p2] (upd (upd (upd H p1 (HO.lst (List.map V.int c0))) p2 (HO.lst (List.map V.int c0))) p3 (HO.lst (List.map V.int d0))) H' /\ H' p2 = some (il cs) /\ cs.length = c0.length) ?_ ?_ ?_ ?_
 ·exact ⟨none, none, c0, rfl, Kp.refl, by walk_at "hp", rfl⟩
 ·rintro i τ H' _ ⟨u, v, cs, rfl, kp, _⟩
  exact SqL.of (kp _ _ (by simp [Ne.symm n23]) (by walk_at "hp"))
 ·rintro i x pp τ H' hx hpp ⟨u, v, cs, rfl, kp, hcs, hl⟩
  obtain ⟨rfl, hi⟩ := qO hx
  have b1 := qx (i : Int) hm
  obtain ⟨g1, g2⟩ := zJ (cs := cs) (k := (i : Int) % (M : Int)) b1.1 (by omega)
  have hcs' : upd H' pp (HO.tup [V.int i, V.int (d0.getD i 0)]) p2 = some (il cs) := by walk_at "hp"
  walk_at "rd"
  walk_at "xs"
  refine ⟨(kp.trans (Kp.new _ hpp)).trans (Kp.set _ (by simp)), _, zf.trans (congrArg some (congrArg HO.lst (jU _ _ _))), by rw [List.length_set]; exact hl⟩
 ·rintro τ H' ⟨u, v, cs, rfl, kp, hcs, hl⟩
  walk_at "rd"
  refine q _ _ cs (fun c o hc hh => kp c o ?_ ((((Kp.new _ hp1).trans (Kp.new _ hp2)).trans (Kp.new _ hp3)) c o hc hh)) (by walk_at "fr") hcs (by omega)
  have : c ≠ p2 := jf (jM hp2 (Kp.new _ hp1)) hh
  simpa using this
abbrev yx : List Int := [0, 1, 2, 3, 4, 5, 6, 7, 4, 5, 6, 7]
abbrev kI : Stmt := top 14
theorem xw : zA ["_law_box_here", "_law_most", "_law_few"] ["_law_box_here", "_law_most"] (zk kI) := ⟨rfl, rfl, rfl, by decide +kernel, rfl, by decide +kernel, by decide +kernel⟩
def yP : Sp := fun vs H Q _ => ∃ (b : Addr) (m : Int) (N : Nat), vs = [.ref b, .int m] /\ Bx H b N /\ N < 100000000 /\ 24 <= m /\ m <= 1000 /\ ∀ r H', Kp [b] H H' -> Bx H' b (N + 10) -> 0 <= r -> r <= m -> Q (.int r) H'
theorem Zo (a : At K mg "_law_length" kI) (B : Blt mg) (D_law_take : Df P w K mg base "_law_take" ["_law_box_here", "_law_many"] 1 jt) : Df P w K mg base "_law_length" ["_law_box_here", "_law_most"] 2 yP := by
 refine jm (k := 1) a xw (fun _ _ _ _ _ _ us hl => match us, hl with | [_, _], _ => rfl) (fun vs H Q E h => ?_) (fun f cdv A outer s H vs Q E hr h => ?_)
 ·obtain ⟨a, k, cs, rfl, _⟩ := h; rfl
 obtain ⟨b, m, N, rfl, hb, hN, hm, hm', q⟩ := h
 have sc := xw
 have hsl := hsl
 refine' ⟨_, ze (qm (zH jS (zx D_law_take hr rfl (za (pv 0) (za zc zb))) zc (zG _)) (zj (zu (zi jv (pv 1) (zx D_law_take hr rfl (za (pv 0) (za (zm (wV rfl) rfl B.max Ve (za zc (za (zi jJ (pv 1) zc) zb))) zb)))))) zO) (ze _ _), ?_⟩
 rotate_left 2
 ·refine' zB (i := 2) _ _ _ _ _ _
  rotate_left 1
  ·exact sc.nd
  ·rfl
  ·first | exact Or.inl rfl | exact Or.inr rfl
  ·refine' zR _ _ _ _
   rotate_left 3
   ·exact zF
   ·refine' zM _
    rotate_left 1
    refine' v9 (is := [0, 1, 2, 3, 4, 5, 6, 7, 4, 5, 6, 7]) _
    rfl
   ·exact (zx D_law_take hr rfl (za (pv 0) (za zc zb)))
   ·exact (fun _ _ => rfl)
  ·rfl
  ·first | exact .inl rfl | exact .inr rfl | assumption
 ·refine' zj _
  rotate_left 1
  refine' zu _
  rotate_left 1
  refine' zR _ _ _ _
  rotate_left 3
  ·exact zF
  ·refine' zM _
   rotate_left 1
   refine' za _ _ _
   rotate_left 2
   ·exact pv 2
   ·exact (za (zi zC zc (zx D_law_take hr rfl (za (pv 0) (za zc zb)))) zb)
   ·rfl
  ·exact (zl xL rfl B.int yo (za (jC jS (zx D_law_take hr rfl (za (pv 0) (za zc zb))) zc (zG _)) zb))
  ·exact (fun _ _ => rfl)
 rw [show start ["_law_box_here", "_law_most", "_law_few"] [V.ref b, V.int m] = [some (.ref b), some (.int m), none] from rfl]
 walk_at "rd"
 refine ⟨b, 16, N, rfl, hb, by omega, by decide, by decide, fun r1 H1 k1 b1 l1 u1 => ⟨rfl, ?_⟩⟩
 walk_at "rd"
 refine xm (fun c => ?_) (fun c => ?_)
 ·walk_at "xs"
  refine ⟨b, _, _, rfl, b1, by omega, by split <;> omega, by split <;> omega, fun r2 H2 k2 b2 l2 u2 => ⟨_, rfl, ?_⟩⟩
  refine q _ _ (k1.trans k2) (b2.mono (by omega)) ?_ ?_
  ·split at u2 <;> omega
  ·omega
 ·walk_at "xs"
  intro p1 hp1
  refine ⟨b, 12, _, rfl, b1.new hp1, by omega, by decide, by decide, fun r2 H2 k2 b2 l2 u2 => ?_⟩
  have hne : p1 ≠ b := by obtain ⟨_, _, _, h, _⟩ := b1; exact Ne.symm (zd h hp1)
  have h2 := k2 p1 _ (by simpa using hne) zf
  obtain ⟨e1, e2⟩ := zJ (cs := yx) (k := r2) l2 (by simpa using u2)
  refine ⟨_, _, rfl, SqL.of h2, _, e2, b, 17, _, rfl, b2, by omega, by decide, by decide, fun r3 H3 k3 b3 l3 u3 => ?_⟩
  have hv : 0 <= yx.getD r2.toNat 0 /\ yx.getD r2.toNat 0 <= (24 : Int) := by
   have : ∀ j : Nat, 0 <= yx.getD j 0 /\ yx.getD j 0 <= (24 : Int) := by
    intro j
    by_cases hj : j < 12
    ·have hd : ∀ j : Nat, j < 12 -> 0 <= yx.getD j 0 /\ yx.getD j 0 <= (24 : Int) := by decide
     exact hd j hj
    ·have e : yx.getD j (0 : Int) = 0 := by rw [List.getD_eq_getElem?_getD, List.getElem?_eq_none (by simpa using hj)]; rfl
     rw [e]; decide
   exact this _
  refine ⟨_, rfl, by show 2 <= sizeLine; decide, fun p2 hp2 => ?_⟩
  refine ⟨b, 6, _, rfl, b3.new hp2, by omega, by decide, by decide, fun r4 H4 k4 b4 l4 u4 => ⟨rfl, ?_⟩⟩
  have hne2 : p2 ≠ b := by obtain ⟨_, _, _, h, _⟩ := b3; exact Ne.symm (zd h hp2)
  have h4 := k4 p2 _ (by simpa using hne2) zf
  have fin : ∀ r, 0 <= r -> r <= 24 -> Q (.int r) H4 := fun r g1 g2 => by
   refine q r H4 ?_ (b4.mono (by omega)) g1 (by omega)
   exact (((k1.trans (Kp.new _ hp1)).trans k2).trans k3).trans ((Kp.new _ hp2).trans k4)
  by_cases c4 : r4 = 0
  ·subst c4
   exact ⟨_, SqL.of h4, _, rfl, fin _ (by omega) (by omega)⟩
  ·rw [if_neg (fun z => c4 (V.int.inj z))]
   exact ⟨_, SqL.of h4, _, rfl, fin _ hv.1 hv.2⟩
abbrev jw : Stmt := top 9
theorem ki : zA ["_law_box_here", "_law_n", "_law_row", "_law_k"] ["_law_box_here", "_law_n"] (zk jw) := ⟨rfl, rfl, rfl, by decide +kernel, rfl, by decide +kernel, by decide +kernel⟩
def qL : Sp := fun vs H Q _ => ∃ (b : Addr) (n N : Nat), vs = [.ref b, .int n] /\ Bx H b N /\ N < 10000000 /\ n <= 1000 /\ ∀ p H' ns, Kp [b] H H' -> H p = none -> Bx H' b (N + 1000) -> H' p = some (il ns) -> IsOrd n ns -> Q (.ref p) H'
theorem KG (ns : List Int) (i : Nat) (v : Int) : (ns.map V.int).take i ++ V.int v :: (ns.map V.int).drop i = (ns.take i ++ v :: ns.drop i).map V.int := by simp [List.map_take, List.map_drop]
theorem vk (a : At K mg "_law_shuffled" jw) (B : Blt mg) (D_law_take : Df P w K mg base "_law_take" ["_law_box_here", "_law_many"] 1 jt) : Df P w K mg base "_law_shuffled" ["_law_box_here", "_law_n"] 2 qL := by
 refine jm (k := 1) a ki (fun _ _ _ _ _ _ us hl => match us, hl with | [_, _], _ => rfl) (fun vs H Q E h => ?_) (fun f cdv A outer s H vs Q E hr h => ?_)
 ·obtain ⟨a, k, cs, rfl, _⟩ := h; rfl
 obtain ⟨b, n, N, rfl, hb, hN, hn, q⟩ := h
 have sc := ki
 have hsl := hsl
 refine ⟨_, (ze (zB (i := 2) sc.nd rfl (by first | exact Or.inl rfl | exact Or.inr rfl) (zM zb))
  (ze (qZ PassesOwn.never rfl (qh rfl B.range (za (pv 1) zb)) (zE (i := 3) sc.nd rfl (by first | exact Or.inl rfl | exact Or.inr rfl)) (zj (wq (Xc PySem.F.plainAttrs_list PySem.F.slot_list_insert PySem.F.type_list_insert wQ (pv 2) (za (zx D_law_take hr rfl (za (pv 0) (za (zi zC (pv 3) zc) zb))) (za (pv 3) zb))))))
  (zj (zu (pv 2))))), ?_⟩
 rw [show start ["_law_box_here", "_law_n", "_law_row", "_law_k"] [V.ref b, V.int n] = [some (.ref b), some (.int n), none, none] from rfl]
 walk_at "rd"
 walk_at "xs"
 intro p hp
 walk_at "xs"
 have hne : b ≠ p := hb.ne hp
 rw [Int.toNat_natCast]
 refine kQ (fun i τ H' => ∃ u ns, τ = [some (.ref b), some (.int n), some (.ref p), u] /\ Kp [p, b] (upd H p (.lst [])) H' /\ Bx H' b (N + i) /\ H' p = some (il ns) /\ IsOrd i ns) ?_ ?_ ?_
 ·exact ⟨none, [], rfl, Kp.refl, hb.new hp, zf, IsOrd.nil⟩
 ·rintro i τ H' hi ⟨u, ns, rfl, kp, b1, hns, ho⟩
  walk_at "rd"
  refine ⟨.inl ⟨rfl, _, SqL.of hns⟩, b, _, N + i, rfl, b1, by omega, by omega, by omega, fun r H2 k2 b2 l2 u2 => ?_⟩
  have h2 := k2 p _ (by simpa using Ne.symm hne) hns
  have ol := ho.1
  refine ⟨_, _, rfl, h2, l2, by rw [List.length_map, ol]; omega, by rw [List.length_map, ol]; omega, (kp.trans (k2.mono (by simp))).trans (Kp.set _ (by simp)), ?_, _, zf.trans (by rw [show (0 : Int) + (i : Int) = i by omega, KG]), ho.insert _⟩
  exact b2.keep (Kp.set (bs := [p]) _ (by simp)) (by simpa using hne)
 ·rintro τ H' ⟨u, ns, rfl, kp, b1, hns, ho⟩
  walk_at "rd"
  exact q p H' ns (Kp.drop1 hp kp) hp (b1.mono (by omega)) hns ho
abbrev xa : Stmt := top 10
theorem xB : zA ["_law_box_here", "_law_n", "_law_many", "_law_row", "_law_order_here", "_law_cuts", "_law_begin", "_law_end", "_law_k"] ["_law_box_here", "_law_n", "_law_many"] (zk xa) := ⟨rfl, rfl, rfl, by decide +kernel, rfl, by decide +kernel, by decide +kernel⟩
def yE : Sp := fun vs H Q _ => ∃ (b : Addr) (n m N : Nat), vs = [.ref b, .int n, .int m] /\ Bx H b N /\ N < 5000000 /\ 2 <= n /\ n <= 1000 /\ 1 <= m /\ m <= 10 /\ ∀ p H' ns, Kp [b] H H' -> H p = none -> Bx H' b (N + 2000) -> H' p = some (il ns) -> IsOrd n ns -> Q (.ref p) H'
def yw (n : Nat) (row os : List Int) (c : Nat) : Prop := os.length = n /\ (∃ ν : Nat -> Nat, (∀ j, j < c -> ν j < c) /\ (∀ j k, j < c -> k < c -> ν j = ν k -> j = k) /\ ∀ j, j < c -> os.getD (row.getD j 0).toNat 0 = row.getD (ν j) 0) /\ ∀ j, c <= j -> j < n -> os.getD (row.getD j 0).toNat 0 = row.getD j 0
theorem yw.start {n : Nat} {row : List Int} (ho : IsOrd n row) : yw n row (zw 0 1 n) 0 := by
 refine ⟨zp 0 1 n, ⟨id, (fun j hj => absurd hj (Nat.not_lt_zero _)), (fun j k hj => absurd hj (Nat.not_lt_zero _)), (fun j hj => absurd hj (Nat.not_lt_zero _))⟩, fun j _ hj => ?_⟩
 have := ho.getD hj
 rw [zW n (by omega)]; omega
theorem yw.fin {n : Nat} {row os : List Int} (ho : IsOrd n row) (h : yw n row os n) : IsOrd n os := by
 obtain ⟨l, ⟨ν, h1, h2, h3⟩, _⟩ := h
 refine qC l (fun i hi => ?_) (fun i k hi hk e => ?_)
 ·obtain ⟨j, hj, e⟩ := ho.ex hi
  have := h3 j hj
  rw [e, Int.toNat_natCast] at this
  rw [this]; exact ho.getD (h1 j hj)
 ·obtain ⟨j, hj, e1⟩ := ho.ex hi
  obtain ⟨j', hj', e2⟩ := ho.ex hk
  have a := h3 j hj
  have b := h3 j' hj'
  rw [e1, Int.toNat_natCast] at a
  rw [e2, Int.toNat_natCast] at b
  have := h2 j j' hj hj' (ho.inj (h1 j hj) (h1 j' hj') (by rw [<- a, <- b, e]))
  subst this
  omega
def kT (n : Nat) (row os : List Int) (c e t : Nat) : Prop := os.length = n /\ (∃ ν : Nat -> Nat, (∀ j, j < c -> ν j < c) /\ (∀ j k, j < c -> k < c -> ν j = ν k -> j = k) /\ ∀ j, j < c -> os.getD (row.getD j 0).toNat 0 = row.getD (ν j) 0) /\ (∀ j, c <= j -> j < c + t -> os.getD (row.getD j 0).toNat 0 = row.getD (if j + 1 = e then c else j + 1) 0) /\ ∀ j, c + t <= j -> j < n -> os.getD (row.getD j 0).toNat 0 = row.getD j 0
theorem yw.go {n : Nat} {row os : List Int} {c : Nat} (e : Nat) (h : yw n row os c) : kT n row os c e 0 := ⟨h.1, h.2.1, fun j h1 h2 => by omega, fun j h1 h2 => h.2.2 j (by omega) h2⟩
theorem kT.step {n : Nat} {row os : List Int} {c e t : Nat} (ho : IsOrd n row) (h : kT n row os c e t) (ht : c + t < e) (he : e <= n) : kT n row (os.set (row.getD (c + t) 0).toNat (row.getD (if c + t + 1 = e then c else c + t + 1) 0)) c e (t + 1) := by
 obtain ⟨l, ⟨ν, h1, h2, h3⟩, h4, h5⟩ := h
 have gt := ho.getD (i := c + t) (by omega)
 have g : ∀ j, j < n -> (os.set (row.getD (c + t) 0).toNat (row.getD (if c + t + 1 = e then c else c + t + 1) 0)).getD (row.getD j 0).toNat 0 = if j = c + t then row.getD (if c + t + 1 = e then c else c + t + 1) 0 else os.getD (row.getD j 0).toNat 0 := fun j hj => by
  have gj := ho.getD hj
  rw [qX (by omega)]
  by_cases z : j = c + t
  ·subst z; rw [if_pos rfl, if_pos rfl]
  ·rw [if_neg z, if_neg]
   intro z'
   exact z (ho.inj hj (by omega) (by omega))
 refine ⟨by rw [List.length_set, l], ⟨ν, h1, h2, fun j hj => ?_⟩, fun j j1 j2 => ?_, fun j j1 j2 => ?_⟩
 ·rw [g j (by omega), if_neg (by omega)]; exact h3 j hj
 ·rw [g j (by omega)]
  by_cases z : j = c + t
  ·rw [if_pos z, z]
  ·rw [if_neg z]; exact h4 j j1 (by omega)
 ·rw [g j j2, if_neg (by omega)]; exact h5 j (by omega) j2
theorem kT.done {n : Nat} {row os : List Int} {c e : Nat} (h : kT n row os c e (e - c)) (hc : c <= e) : yw n row os e := by
 obtain ⟨l, ⟨ν, h1, h2, h3⟩, h4, h5⟩ := h
 refine ⟨l, ⟨fun j => if j < c then ν j else if j + 1 = e then c else j + 1, fun j hj => ?_, fun j k hj hk z => ?_, fun j hj => ?_⟩, fun j j1 j2 => h5 j (by omega) j2⟩
 ·dsimp only
  split
  ·have := h1 j (by assumption); omega
  ·split <;> omega
 ·dsimp only at z
  by_cases a : j < c
  ·rw [if_pos a] at z
   have := h1 j a
   by_cases b : k < c
   ·rw [if_pos b] at z; exact h2 j k a b z
   ·rw [if_neg b] at z; split at z <;> omega
  ·rw [if_neg a] at z
   by_cases b : k < c
   ·rw [if_pos b] at z
    have := h1 k b
    split at z <;> omega
   ·rw [if_neg b] at z
    split at z <;> split at z <;> omega
 ·dsimp only
  by_cases a : j < c
  ·rw [if_pos a]; exact h3 j a
  ·rw [if_neg a]; exact h4 j (by omega) (by omega)
theorem xT {cs : List Int} (hp : cs.Pairwise (· <= ·)) (h0 : (0 : Int) ∈ cs) (hb : ∀ x ∈ cs, 0 <= x) : cs.getD 0 0 = 0 := by
 cases cs with
 | nil => rfl
 | cons x r =>
  show x = 0
  have := hb x List.mem_cons_self
  rcases List.mem_cons.mp h0 with e | e
  ·exact e.symm
  ·have := (List.pairwise_cons.mp hp).1 0 e; omega
theorem vc {cs : List Int} {n : Int} (hp : cs.Pairwise (· <= ·)) (h0 : n ∈ cs) (hb : ∀ x ∈ cs, x <= n) : cs.getD (cs.length - 1) 0 = n := by
 obtain ⟨i, hi, e⟩ := List.mem_iff_getElem.mp h0
 have hl : cs.length - 1 < cs.length := by omega
 rw [zT hl]
 have h1 := hb _ (List.getElem_mem hl)
 by_cases z : i = cs.length - 1
 ·subst z; exact e
 ·have := List.pairwise_iff_getElem.mp hp i (cs.length - 1) hi hl (by omega); omega
theorem y8 {cs : List Int} (hp : cs.Pairwise (· <= ·)) {i : Nat} (hi : i + 1 < cs.length) : cs.getD i 0 <= cs.getD (i + 1) 0 := by
 rw [zT (by omega), zT hi]
 exact List.pairwise_iff_getElem.mp hp i (i + 1) (by omega) hi (by omega)
theorem Wj (cs : List Int) : yf (cs.map V.int) (some 1) none = List.map V.int ((cs.drop (min 1 cs.length)).take (cs.length - min 1 cs.length)) := by
 rw [kR, show (1 : Int) = ((1 : Nat) : Int) from rfl, HT.sIx_nat, HT.sIx_none]
theorem Ji {k b e : Int} (h1 : b <= k) (h2 : k < e) : b + (k + 1 - b) % (e - b) = if k + 1 = e then b else k + 1 := by
 by_cases z : k + 1 = e
 ·rw [if_pos z, show k + 1 - b = e - b by omega, Int.emod_self]; omega
 ·rw [if_neg z, Int.emod_eq_of_lt (by omega) (by omega)]; omega
theorem Zt (a : At K mg "_law_ringed" xa) (B : Blt mg) (D_law_take : Df P w K mg base "_law_take" ["_law_box_here", "_law_many"] 2 jt) (D_law_shuffled : Df P w K mg base "_law_shuffled" ["_law_box_here", "_law_n"] 2 qL) : Df P w K mg base "_law_ringed" ["_law_box_here", "_law_n", "_law_many"] 3 yE := by
 refine jm (k := 2) a xB (fun _ _ _ _ _ _ us hl => match us, hl with | [_, _, _], _ => rfl) (fun vs H Q E h => ?_) (fun f cdv A outer s H vs Q E hr h => ?_)
 ·obtain ⟨b, n, m, N, rfl, _⟩ := h; rfl
 obtain ⟨b, n, m, N, rfl, hb, hN, hn2, hn, hm1, hm, q⟩ := h
 have sc := xB
 have hsl := hsl
 refine ⟨_, (ze (zB (i := 3) sc.nd rfl (by first | exact Or.inl rfl | exact Or.inr rfl) (zx D_law_shuffled hr rfl (za (pv 0) (za (pv 1) zb))))
  (ze (zB (i := 4) sc.nd rfl (by first | exact Or.inl rfl | exact Or.inr rfl) (zl (zy rfl) rfl B.list zV (za (zl zS rfl B.range qf (za (pv 1) zb)) zb)))
  (ze (zB (i := 5) sc.nd rfl (by first | exact Or.inl rfl | exact Or.inr rfl) (zm jI rfl B.sorted xJ (za (zi jg (zM (za zc (za (pv 1) zb))) (jA (ts := [8]) rfl rfl (qh rfl B.range (za (zi jv (pv 2) zc) zb)) (fun _ _ _ _ => (zE (i := 8) sc.nd rfl (by first | exact Or.inl rfl | exact Or.inr rfl))) (fun _ _ _ _ => ky) (fun _ _ _ _ => (zx D_law_take hr rfl (za (pv 0) (za (zi zC (pv 1) zc) zb)))))) zb)))
  (ze (qZ PassesOwn.never rfl (VC rfl B.zip (za (pv 5) (za (qy qM (pv 5) (qD zc) jh) zb))) (jK (K := K) 2 rfl rfl (zX (zE (i := 6) sc.nd rfl (by first | exact Or.inl rfl | exact Or.inr rfl)) (zX (zE (i := 7) sc.nd rfl (by first | exact Or.inl rfl | exact Or.inr rfl)) jQ))) (zj (qZ PassesOwn.never rfl (xq rfl B.range (za (pv 6) (za (pv 7) zb))) (zE (i := 8) sc.nd rfl (by first | exact Or.inl rfl | exact Or.inr rfl)) (zj (jx (zR zF (pv 3) (zi zC (pv 6) (zi qc (zi jv (zi zC (pv 8) zc) (pv 6)) (zi jv (pv 7) (pv 6)))) (fun _ _ => rfl)) (qU (pv 4) (zR zF (pv 3) (pv 8) (fun _ _ => rfl)) qb))))))
  (zj (zu (pv 4))))))), ?_⟩
 rw [show start ["_law_box_here", "_law_n", "_law_many", "_law_row", "_law_order_here", "_law_cuts", "_law_begin", "_law_end", "_law_k"] [V.ref b, V.int n, V.int m] = [some (.ref b), some (.int n), some (.int m), none, none, none, none, none, none] from rfl]
 walk_at "rd"
 refine ⟨b, n, N, rfl, hb, by omega, by omega, fun p1 H1 row k1 hp1 b1 h1 ho => ?_⟩
 walk_at "rd"
 walk_at "xs"
 intro p2 hp2
 refine ⟨0, n, 1, zf, small_one (by omega) (by omega) (by omega) (by omega), n, by rw [rangeSize_one]; split <;> omega, by omega, fun p3 hp3 => ?_⟩
 walk_at "xs"
 intro p4 hp4
 walk_at "xs"
 intro D hD
 have ol := ho.1
 have bG : Bx (upd (upd (upd H1 p2 (qK p2 0 n 1)) p3 (il (zw 0 1 n))) p4 (.lst [.int 0, .int n])) b (N + 1000) := ((b1.new hp2).new hp3).new hp4
 have nbD : b ≠ D := bG.ne hD
 have h3G : upd (upd (upd H1 p2 (qK p2 0 n 1)) p3 (il (zw 0 1 n))) p4 (.lst [.int 0, .int n]) p3 = some (il (zw 0 1 n)) := by walk_at "hp"
 have h4G : upd (upd (upd H1 p2 (qK p2 0 n 1)) p3 (il (zw 0 1 n))) p4 (.lst [.int 0, .int n]) p4 = some (.lst [.int 0, .int n]) := zf
 have h1G : upd (upd (upd H1 p2 (qK p2 0 n 1)) p3 (il (zw 0 1 n))) p4 (.lst [.int 0, .int n]) p1 = some (il row) := by walk_at "hp"
 have kG : Kp [] H1 (upd (upd (upd H1 p2 (qK p2 0 n 1)) p3 (il (zw 0 1 n))) p4 (.lst [.int 0, .int n])) := by walk_at "kp"
 have hn3 : H1 p3 = none := by walk_at "fr"
 have nb1 : b ≠ p1 := hb.ne hp1
 have nb3 : b ≠ p3 := b1.ne hn3
 generalize upd (upd (upd H1 p2 (qK p2 0 n 1)) p3 (il (zw 0 1 n))) p4 (.lst [.int 0, .int n]) = G at hD bG h3G h4G h1G kG ⊢
 have n3D : p3 ≠ D := zd h3G hD
 have n4D : p4 ≠ D := zd h4G hD
 have n1D : p1 ≠ D := zd h1G hD
 have nb4 : b ≠ p4 := fun z => by
  obtain ⟨x, y, zz, e, _⟩ := bG
  rw [z, h4G] at e; cases e
 rw [show ((m : Int) - 1).toNat = m - 1 by omega]
 refine jB (fun i τ H' => ∃ u ts, τ = [some (.ref b), some (.int n), some (.int m), some (.ref p1), some (.ref p3), none, none, none, u] /\ Kp [D, b] (upd G D (.lst [])) H' /\ Bx H' b (N + 1000 + i) /\ H' D = some (il ts) /\ ts.length = i /\ ∀ t ∈ ts, 0 <= t /\ t <= (n : Int)) ?_ ?_ ?_
 ·exact ⟨none, [], rfl, Kp.refl, bG.new hD, zf, rfl, fun t ht => nomatch ht⟩
 ·rintro i τ H' hi ⟨u, ts, rfl, kp, b', hts, hl, hbd⟩
  walk_at "rd"
  refine ⟨b, _, _, rfl, b', by omega, by omega, by omega, fun r H2 k2 b2 l2 u2 => ?_⟩
  have h2 := k2 D _ (by simpa using Ne.symm nbD) hts
  refine ⟨_, h2, by rw [List.length_map]; omega, ((kp.trans (k2.mono (by simp))).trans (Kp.set _ (by simp))), b2.keep (Kp.set (bs := [D]) _ (by simp)) (by simpa using nbD), ts ++ [r], zf.trans (congrArg some (congrArg HO.lst (by rw [List.map_append]; rfl))), by rw [List.length_append, hl]; rfl, fun t ht => ?_⟩
  rcases List.mem_append.mp ht with z | z
  ·exact hbd t z
  ·have : t = r := by simpa using z
   subst this; omega
 ·rintro τ H' ⟨u, ts, rfl, kp, b', hts, hl, hbd⟩
  have kD : Kp [b] G H' := Kp.drop1 hD kp
  have g3 := kD _ _ (by simpa using Ne.symm nb3) h3G
  have g4 := kD _ _ (by simpa using Ne.symm nb4) h4G
  have g1 := kD _ _ (by simpa using Ne.symm nb1) h1G
  refine ⟨D, rfl, _, g4, _, hts, by rw [List.length_map]; show 2 + _ <= _; omega, fun p6 hp6 => ?_⟩
  refine ⟨0 :: (n : Int) :: ts, SqL.of (zf.trans rfl), by rw [List.length_cons, List.length_cons]; omega, fun p7 cs hp7 pm pw => ?_⟩
  refine ⟨_, SqL.of zf, fun p8 hp8 => ?_⟩
  have lcs : cs.length = m + 1 := by rw [pm.length_eq, List.length_cons, List.length_cons]; omega
  rw [Wj, lcs]
  generalize hd : (cs.drop (min 1 (m + 1))).take (m + 1 - min 1 (m + 1)) = d
  have ld : d.length = m := by rw [<- hd, List.length_take, List.length_drop]; omega
  have gd : ∀ i, i < m -> d.getD i 0 = cs.getD (i + 1) 0 := fun i hi => by
   rw [<- hd, List.getD_eq_getElem?_getD, List.getElem?_take, if_pos (by omega), List.getElem?_drop, List.getD_eq_getElem?_getD]
   congr 2; omega
  have bcs : ∀ x ∈ cs, 0 <= x /\ x <= (n : Int) := fun x hx => by
   have := pm.mem_iff.mp hx
   rcases List.mem_cons.mp this with z | z
   ·omega
   ·rcases List.mem_cons.mp z with z | z
    ·omega
    ·exact hbd x z
  have c0 := xT pw (pm.mem_iff.mpr List.mem_cons_self) (fun x hx => (bcs x hx).1)
  have cn := vc pw (pm.mem_iff.mpr (List.mem_cons_of_mem _ List.mem_cons_self)) (fun x hx => (bcs x hx).2)
  rw [lcs, Nat.add_sub_cancel] at cn
  have cb : ∀ i, i <= m -> 0 <= cs.getD i 0 /\ cs.getD i 0 <= (n : Int) := fun i hi => by
   rw [zT (by omega)]; exact bcs _ (List.getElem_mem _)
  have n36 : p3 ≠ p6 := zd g3 hp6
  have h36 : upd H' p6 (HO.lst ([V.int 0, V.int n] ++ List.map V.int ts)) p3 = some (il (zw 0 1 n)) := (zh n36).trans g3
  have n37 : p3 ≠ p7 := zd h36 hp7
  have n16 : p1 ≠ p6 := zd g1 hp6
  have h16 : upd H' p6 (HO.lst ([V.int 0, V.int n] ++ List.map V.int ts)) p1 = some (il row) := (zh n16).trans g1
  have n17 : p1 ≠ p7 := zd h16 hp7
  have n78 : p7 ≠ p8 := zd zf hp8
  have g83 : upd (upd (upd H' p6 (HO.lst ([V.int 0, V.int n] ++ List.map V.int ts))) p7 (HO.lst (List.map V.int cs))) p8 (HO.lst (List.map V.int d)) p3 = some (il (zw 0 1 n)) := by walk_at "hp"
  have g81 : upd (upd (upd H' p6 (HO.lst ([V.int 0, V.int n] ++ List.map V.int ts))) p7 (HO.lst (List.map V.int cs))) p8 (HO.lst (List.map V.int d)) p1 = some (il row) := by walk_at "hp"
  have g87 : upd (upd (upd H' p6 (HO.lst ([V.int 0, V.int n] ++ List.map V.int ts))) p7 (HO.lst (List.map V.int cs))) p8 (HO.lst (List.map V.int d)) p7 = some (il cs) := by walk_at "hp"
  have g88 : upd (upd (upd H' p6 (HO.lst ([V.int 0, V.int n] ++ List.map V.int ts))) p7 (HO.lst (List.map V.int cs))) p8 (HO.lst (List.map V.int d)) p8 = some (il d) := zf
  have k8 : Kp [] H' (upd (upd (upd H' p6 (HO.lst ([V.int 0, V.int n] ++ List.map V.int ts))) p7 (HO.lst (List.map V.int cs))) p8 (HO.lst (List.map V.int d))) := by walk_at "kp"
  refine ⟨⟨_, SqL.of g87⟩, ⟨_, SqL.of g88⟩, ?_⟩
  generalize upd (upd (upd H' p6 (HO.lst ([V.int 0, V.int n] ++ List.map V.int ts))) p7 (HO.lst (List.map V.int cs))) p8 (HO.lst (List.map V.int d)) = G8 at g83 g81 g87 g88 k8 ⊢
  have n38 : p3 ≠ p8 := fun z => by
   have : H' p3 ≠ none := by rw [g3]; simp
   exact this (by
    have := jM hp8 (((Kp.new (bs := []) (HO.lst ([V.int 0, V.int n] ++ List.map V.int ts)) hp6).trans (Kp.new (HO.lst (List.map V.int cs)) hp7)))
    rw [z]; exact this)
  have n13 : p1 ≠ p3 := zd h1 hn3
  refine Kh (xs := cs.map V.int) (ys := d.map V.int) (fun i τ H2 => ∃ u v x os, τ = [some (.ref b), some (.int n), some (.int m), some (.ref p1), some (.ref p3), some (.ref p7), u, v, x] /\ Kp [p3] G8 H2 /\ H2 p3 = some (il os) /\ yw n row os (cs.getD i 0).toNat) ?_ ?_ ?_ ?_ ?_
  ·rw [List.length_map, List.length_map]; omega
  ·refine ⟨none, none, none, zw 0 1 n, rfl, Kp.refl, g83, ?_⟩
   rw [c0]; exact yw.start ho
  ·rintro i τ H2 _ ⟨u, v, x, os, rfl, kp2, _⟩
   exact ⟨SqL.of (kp2 _ _ (by simpa using Ne.symm n37) g87), SqL.of (kp2 _ _ (by simpa using Ne.symm n38) g88)⟩
  ·rintro i x y pp τ H2 hx hy hpp ⟨u, v, x', os, rfl, kp2, hos, gone⟩
   obtain ⟨rfl, hi⟩ := qO hx
   obtain ⟨rfl, hi'⟩ := qO hy
   have him : i < m := by omega
   rw [gd i him]
   have q1 := cb i (by omega)
   have q2 := cb (i + 1) (by omega)
   have q3 := y8 pw (i := i) (by omega)
   generalize cs.getD (i + 1) 0 = ei at q2 q3 ⊢
   generalize cs.getD i 0 = ci at q1 q3 gone ⊢
   obtain ⟨c, rfl⟩ : ∃ c : Nat, ci = c := ⟨ci.toNat, by omega⟩
   obtain ⟨e, rfl⟩ : ∃ e : Nat, ei = e := ⟨ei.toNat, by omega⟩
   rw [Int.toNat_natCast] at gone ⊢
   walk_at "rd"
   walk_at "xs"
   rw [show ((e : Int) - (c : Int)).toNat = e - c by omega]
   have hos' : upd H2 pp (HO.tup [V.int c, V.int e]) p3 = some (il os) := by walk_at "hp"
   refine kQ (fun t τ H4 => ∃ x os', τ = [some (.ref b), some (.int n), some (.int m), some (.ref p1), some (.ref p3), some (.ref p7), some (.int c), some (.int e), x] /\ Kp [p3] (upd H2 pp (HO.tup [V.int c, V.int e])) H4 /\ H4 p3 = some (il os') /\ kT n row os' c e t) ?_ ?_ ?_
   ·exact ⟨_, os, rfl, Kp.refl, hos', gone.go e⟩
   ·rintro t τ H4 ht ⟨x2, os2, rfl, kp4, hos2, going⟩
    have hrow : H4 p1 = some (il row) := kp4 _ _ (by simpa using n13) (Kp.new (bs := []) _ hpp _ _ (by simp) (kp2 _ _ (by simpa using n13) g81))
    have gl := going.1
    have gt := ho.getD (i := c + t) (by omega)
    have mn := Ji (k := (c : Int) + t) (b := c) (e := e) (by omega) (by omega)
    obtain ⟨_, a1⟩ := zJ (cs := row) (k := (c : Int) + ((c : Int) + t + 1 - c) % ((e : Int) - c)) (by rw [mn]; split <;> omega) (by rw [mn]; split <;> omega)
    obtain ⟨_, a2⟩ := zJ (cs := row) (k := (c : Int) + t) (by omega) (by omega)
    rw [show ((c : Int) + t).toNat = c + t by omega] at a2
    have e3 : ((c : Int) + ((c : Int) + t + 1 - c) % ((e : Int) - c)).toNat = if c + t + 1 = e then c else c + t + 1 := by
     rw [mn]; split <;> split <;> omega
    rw [e3] at a1
    have f1 : ixN (List.map V.int os2).length (row.getD (c + t) 0) = some (row.getD (c + t) 0).toNat := (zJ (cs := os2) gt.1 (by omega)).1
    have st := going.step ho (by omega) (by omega)
    walk_at "rd"
    walk_at "xs"
    exact ⟨kp4.trans (Kp.set _ (by simp)), _, zf.trans (congrArg some (congrArg HO.lst (jU _ _ _))), st⟩
   ·rintro τ H4 ⟨x2, os2, rfl, kp4, hos2, going⟩
    walk_at "rd"
    exact ⟨⟨_, rfl⟩, (kp2.trans (Kp.new _ hpp)).trans kp4, os2, hos2, going.done (by omega)⟩
  ·rintro τ H2 ⟨u, v, x, os, rfl, kp2, hos, gone⟩
   walk_at "rd"
   rw [List.length_map, ld, cn, Int.toNat_natCast] at gone
   refine q p3 H2 os ?_ ?_ (((b'.keep k8 (by simp)).keep kp2 (by simpa using nb3)).mono (by omega)) hos (gone.fin ho)
   ·intro c o hc hh
    have a1 := k1 c o hc hh
    have c3 : c ≠ p3 := zd a1 hn3
    exact kp2 c o (by simpa using c3) (k8 c o (by simp) (kD c o hc (kG c o (by simp) a1)))
   ·cases z : H p3 with
    | none => rfl
    | some o => exact absurd (k1 p3 o (by simpa using Ne.symm nb3) z) (by rw [hn3]; simp)
abbrev qW : Stmt := top 11
theorem jP : zA ["_law_box_here", "_law_n", "_law_order_here", "_law_row", "_law_k", "_law_one", "_law_other"] ["_law_box_here", "_law_n"] (zk qW) := ⟨rfl, rfl, rfl, by decide +kernel, rfl, by decide +kernel, by decide +kernel⟩
def Z0 : Sp := fun vs H Q _ => ∃ (b : Addr) (n N : Nat), vs = [.ref b, .int n] /\ Bx H b N /\ N < 5000000 /\ 2 <= n /\ n <= 1000 /\ ∀ p H' ns, Kp [b] H H' -> H p = none -> Bx H' b (N + 2000) -> H' p = some (il ns) -> IsOrd n ns -> Q (.ref p) H'
theorem IsOrd.swap {n : Nat} {os : List Int} (h : IsOrd n os) {x y : Nat} (hx : x < n) (hy : y < n) (ne : x ≠ y) (ex : os.getD x 0 = (x : Int)) (ey : os.getD y 0 = (y : Int)) : IsOrd n ((os.set x (y : Int)).set y (x : Int)) := by
 have l := h.1
 have g : ∀ i, ((os.set x (y : Int)).set y (x : Int)).getD i 0 = if i = y then (x : Int) else if i = x then (y : Int) else os.getD i 0 := fun i => by
  rw [qX (by rw [List.length_set]; omega), qX (by omega)]
 refine qC (by rw [List.length_set, List.length_set, l]) (fun i hi => ?_) (fun i k hi hk e => ?_)
 ·rw [g]
  split
  ·omega
  ·split
   ·omega
   ·exact h.getD hi
 ·rw [g, g] at e
  by_cases i1 : i = y
  ·rw [if_pos i1] at e
   by_cases k1 : k = y
   ·omega
   ·rw [if_neg k1] at e
    by_cases k2 : k = x
    ·rw [if_pos k2] at e; omega
    ·rw [if_neg k2, <- ex] at e
     exact absurd (h.inj hx hk e).symm k2
  ·rw [if_neg i1] at e
   by_cases i2 : i = x
   ·rw [if_pos i2] at e
    by_cases k1 : k = y
    ·rw [if_pos k1] at e; omega
    ·rw [if_neg k1] at e
     by_cases k2 : k = x
     ·omega
     ·rw [if_neg k2, <- ey] at e
      exact absurd (h.inj hy hk e).symm k1
   ·rw [if_neg i2] at e
    by_cases k1 : k = y
    ·rw [if_pos k1, <- ex] at e
     exact absurd (h.inj hi hx e) i2
    ·rw [if_neg k1] at e
     by_cases k2 : k = x
     ·rw [if_pos k2, <- ey] at e
      exact absurd (h.inj hi hy e) i1
     ·rw [if_neg k2] at e
      exact h.inj hi hk e
theorem yg {j : Int} (h : 0 <= j) : Builtin.Range.rangeSize 0 j 1 = (j.toNat : Int) := by rw [rangeSize_one]; split <;> omega
theorem yl (a : At K mg "_law_exchanged" qW) (B : Blt mg) (D_law_take : Df P w K mg base "_law_take" ["_law_box_here", "_law_many"] 2 jt) (D_law_shuffled : Df P w K mg base "_law_shuffled" ["_law_box_here", "_law_n"] 2 qL) : Df P w K mg base "_law_exchanged" ["_law_box_here", "_law_n"] 3 Z0 := by
 refine jm (k := 2) a jP (fun _ _ _ _ _ _ us hl => match us, hl with | [_, _], _ => rfl) (fun vs H Q E h => ?_) (fun f cdv A outer s H vs Q E hr h => ?_)
 ·obtain ⟨a, k, cs, rfl, _⟩ := h; rfl
 obtain ⟨b, n, N, rfl, hb, hN, hn2, hn, q⟩ := h
 have sc := jP
 have hsl := hsl
 refine ⟨_, (ze (zB (i := 2) sc.nd rfl (by first | exact Or.inl rfl | exact Or.inr rfl) (zl (zy rfl) rfl B.list zV (za (zl zS rfl B.range qf (za (pv 1) zb)) zb)))
  (ze (zB (i := 3) sc.nd rfl (by first | exact Or.inl rfl | exact Or.inr rfl) (zx D_law_shuffled hr rfl (za (pv 0) (za (pv 1) zb))))
  (ze (qZ PassesOwn.never rfl (qh rfl B.range (za (zx D_law_take hr rfl (za (pv 0) (za (zi zC (zi jJ (pv 1) zc) zc) zb))) zb)) (zE (i := 4) sc.nd rfl (by first | exact Or.inl rfl | exact Or.inr rfl)) (ze (YQ (i := 5) (j := 6) rfl sc.nd rfl rfl (by decide) rfl rfl (za (zR zF (pv 3) (zi qB zc (pv 4)) (fun _ _ => rfl)) (za (zR zF (pv 3) (zi zC (zi qB zc (pv 4)) zc) (fun _ _ => rfl)) zb)) rfl)
  (zj (jx (xh (za (pv 6) (za (pv 5) zb))) (jK (K := K) 2 rfl rfl (zX (qU (pv 2) (pv 5) qb) (zX (qU (pv 2) (pv 6) qb) jQ)))))))
  (zj (zu (pv 2)))))), ?_⟩
 rw [show start ["_law_box_here", "_law_n", "_law_order_here", "_law_row", "_law_k", "_law_one", "_law_other"] [V.ref b, V.int n] = [some (.ref b), some (.int n), none, none, none, none, none] from rfl]
 walk_at "rd"
 walk_at "xs"
 intro p1 hp1
 refine ⟨0, n, 1, zf, small_one (by omega) (by omega) (by omega) (by omega), n, yg (by omega), by omega, fun p2 hp2 => ?_⟩
 have hn2' : H p2 = none := by walk_at "fr"
 have b2 : Bx (upd (upd H p1 (qK p1 0 n 1)) p2 (il (zw 0 1 n))) b N := (hb.new hp1).new hp2
 refine ⟨b, n, N, rfl, b2, by omega, by omega, fun p3 H3 row k3 hp3 b3 hrow ho => ?_⟩
 walk_at "rd"
 walk_at "xs"
 refine ⟨b, _, _, rfl, b3, by omega, by omega, by omega, fun m H4 k4 b4 l4 u4 => ?_⟩
 refine ⟨m, rfl, by omega, by omega, ?_⟩
 have nb2 : p2 ≠ b := by obtain ⟨o, e⟩ := hb.there; exact Ne.symm (zd e hn2')
 have nb3 : p3 ≠ b := by obtain ⟨o, e⟩ := b2.there; exact Ne.symm (zd e hp3)
 have n23 : p2 ≠ p3 := zd zf hp3
 have h32 : H3 p2 = some (il (zw 0 1 n)) := k3 _ _ (by simpa using nb2) zf
 have h42 : H4 p2 = some (il (zw 0 1 n)) := k4 _ _ (by simpa using nb2) h32
 have h43 : H4 p3 = some (il row) := k4 _ _ (by simpa using nb3) hrow
 refine kQ (fun i τ H' => ∃ u v x os, τ = [some (.ref b), some (.int n), some (.ref p2), some (.ref p3), u, v, x] /\ Kp [p2] H4 H' /\ H' p2 = some (il os) /\ IsOrd n os /\ ∀ j : Nat, 2 * i <= j -> j < n -> os.getD (row.getD j 0).toNat 0 = row.getD j 0) ?_ ?_ ?_
 ·refine ⟨none, none, none, zw 0 1 n, rfl, Kp.refl, h42, IsOrd.rng n, fun j _ hj => ?_⟩
  have := ho.getD hj
  rw [zW n (by omega)]; omega
 ·rintro i τ H' hi ⟨u, v, x, os, rfl, kp, hos, oo, hst⟩
  have h3 : H' p3 = some (il row) := kp _ _ (by simpa using Ne.symm n23) h43
  have ol := ho.1
  have ool := oo.1
  have g0 := ho.getD (i := 2 * i) (by omega)
  have g1 := ho.getD (i := 2 * i + 1) (by omega)
  obtain ⟨_, e1⟩ := zJ (cs := row) (k := 2 * (0 + (i : Int))) (by omega) (by omega)
  obtain ⟨_, e2⟩ := zJ (cs := row) (k := 2 * (0 + (i : Int)) + 1) (by omega) (by omega)
  rw [show (2 * (0 + (i : Int))).toNat = 2 * i by omega] at e1
  rw [show (2 * (0 + (i : Int)) + 1).toNat = 2 * i + 1 by omega] at e2
  have f1 : ixN (List.map V.int os).length (row.getD (2 * i) 0) = some (row.getD (2 * i) 0).toNat := (zJ (cs := os) g0.1 (by omega)).1
  have f2 : ixN ((List.map V.int os).set (row.getD (2 * i) 0).toNat (V.int (row.getD (2 * i + 1) 0))).length (row.getD (2 * i + 1) 0) = some (row.getD (2 * i + 1) 0).toNat := by rw [List.length_set]; exact (zJ (cs := os) g1.1 (by omega)).1
  walk_at "rd"
  walk_at "xs"
  intro p hp
  have np : p2 ≠ p := zd hos hp
  refine ⟨_, SqT.of zf, rfl, _, _, rfl, _, rfl, _, (zh np).trans hos, _, f1, _, _, rfl, _, rfl, _, zf, _, f2, rfl, ?_⟩
  have s0 := hst (2 * i) (by omega) (by omega)
  have s1 := hst (2 * i + 1) (by omega) (by omega)
  have ne01 : (row.getD (2 * i) 0).toNat ≠ (row.getD (2 * i + 1) 0).toNat := fun z => by
   have := ho.inj (i := 2 * i) (j := 2 * i + 1) (by omega) (by omega) (by omega)
   omega
  have sw := IsOrd.swap oo (x := (row.getD (2 * i) 0).toNat) (y := (row.getD (2 * i + 1) 0).toNat) (by omega) (by omega) ne01 (by omega) (by omega)
  rw [Int.toNat_of_nonneg g0.1, Int.toNat_of_nonneg g1.1] at sw
  refine ⟨((kp.trans (Kp.new _ hp)).trans (Kp.set _ (by simp))).trans (Kp.set _ (by simp)), _, zf.trans (congrArg some (congrArg HO.lst (by rw [jU, jU]))), sw, fun j hj1 hj2 => ?_⟩
  have gj := ho.getD (i := j) hj2
  rw [qX (by rw [List.length_set]; omega), qX (by omega), if_neg, if_neg]
  ·exact hst j (by omega) hj2
  ·intro z
   have := ho.inj (i := j) (j := 2 * i) hj2 (by omega) (by omega)
   omega
  ·intro z
   have := ho.inj (i := j) (j := 2 * i + 1) hj2 (by omega) (by omega)
   omega
 ·rintro τ H' ⟨u, v, x, os, rfl, kp, hos, oo, hst⟩
  walk_at "rd"
  refine q p2 H' os ?_ hn2' ((b4.keep kp (by simpa using Ne.symm nb2)).mono (by omega)) hos oo
  intro c o hc hh
  have c2 : c ≠ p2 := zd hh hn2'
  exact kp c o (by simpa using c2) (k4 c o hc (k3 c o hc (((Kp.new (bs := []) _ hp1).trans (Kp.new _ hp2)) c o (by simp) hh)))
abbrev yh : Stmt := top 12
theorem yV : zA ["_law_n", "_law_rows", "_law_columns", "_law_place"] ["_law_n", "_law_rows"] (zk yh) := ⟨rfl, rfl, rfl, by decide +kernel, rfl, by decide +kernel, by decide +kernel⟩
def wb : Sp := fun vs H Q _ => ∃ (n r c : Nat), vs = [.int n, .int r] /\ n = r * c /\ 1 <= r /\ 1 <= c /\ n <= 1000 /\ ∀ p H' ns, Kp [] H H' -> H p = none -> H' p = some (il ns) -> IsOrd n ns -> Q (.ref p) H'
def xp (r c n : Nat) : List Int := (List.range n).map fun (i : Nat) => (i : Int) % (c : Int) * (r : Int) + (i : Int) / (c : Int)
theorem Zv {r c n i : Nat} (h : i < n) : (xp r c n).getD i 0 = (i : Int) % (c : Int) * (r : Int) + (i : Int) / (c : Int) := by
 rw [zT (by simp [xp]; exact h)]; simp [xp]
theorem Jo {r c n : Nat} (h : n = r * c) (hr : 1 <= r) (hc : 1 <= c) : IsOrd n (xp r c n) := by
 have key : ∀ i : Nat, i < n -> (i / c < r /\ i % c < c /\ (xp r c n).getD i 0 = ((i % c * r + i / c : Nat) : Int)) := fun i hi => by
  refine ⟨?_, Nat.mod_lt _ hc, ?_⟩
  ·rw [Nat.div_lt_iff_lt_mul hc]; omega
  ·rw [Zv hi]; simp
 have bd : ∀ i : Nat, i < n -> i % c * r + i / c < n := fun i hi => by
  obtain ⟨h1, h2, _⟩ := key i hi
  have : (i % c + 1) * r <= c * r := Nat.mul_le_mul_right r h2
  have e : c * r = n := by rw [h, Nat.mul_comm]
  have e2 : (i % c + 1) * r = i % c * r + r := Nat.succ_mul _ _
  omega
 refine qC (by simp [xp]) (fun i hi => ?_) (fun i k hi hk e => ?_)
 ·obtain ⟨h1, h2, h3⟩ := key i hi
  have := bd i hi
  rw [h3]; exact ⟨Int.natCast_nonneg _, Int.ofNat_lt.mpr this⟩
 ·obtain ⟨h1, h2, h3⟩ := key i hi
  obtain ⟨k1, k2, k3⟩ := key k hk
  rw [h3, k3] at e
  have e' : i % c * r + i / c = k % c * r + k / c := by omega
  have d1 : (i % c * r + i / c) / r = i % c := by rw [Nat.add_comm, Nat.add_mul_div_right _ _ hr, Nat.div_eq_of_lt h1, Nat.zero_add]
  have d2 : (k % c * r + k / c) / r = k % c := by rw [Nat.add_comm, Nat.add_mul_div_right _ _ hr, Nat.div_eq_of_lt k1, Nat.zero_add]
  have m : i % c = k % c := by rw [<- d1, <- d2, e']
  have d : i / c = k / c := by rw [m] at e'; omega
  rw [<- Nat.div_add_mod i c, <- Nat.div_add_mod k c, m, d]
theorem QU (a : At K mg "_law_table" yh) (B : Blt mg) : Df P w K mg base "_law_table" ["_law_n", "_law_rows"] 1 wb := by
 refine jm (k := 0) a yV (fun _ _ _ _ _ _ us hl => match us, hl with | [_, _], _ => rfl) (fun vs H Q E h => ?_) (fun f cdv A outer s H vs Q E hr h => ?_)
 ·obtain ⟨n, r, c, rfl, _⟩ := h; rfl
 obtain ⟨n, r, c, rfl, hn, hr1, hc1, hz, q⟩ := h
 have sc := yV
 have hsl := hsl
 have hrn : r <= n := by rw [hn]; exact Nat.le_mul_of_pos_right r hc1
 have hcn : c <= n := by rw [hn]; exact Nat.le_mul_of_pos_left c hr1
 have ec : (n : Int) / (r : Int) = (c : Int) := by
  rw [hn]; push_cast; exact Int.mul_ediv_cancel_left _ (by omega)
 refine ⟨_, (ze (zB (i := 2) sc.nd rfl (by first | exact Or.inl rfl | exact Or.inr rfl) (zi jJ (pv 0) (pv 1)))
  (zj (zu (jA (ts := [3]) rfl rfl (qh rfl B.range (za (pv 0) zb)) (fun _ _ _ _ => (zE (i := 3) sc.nd rfl (by first | exact Or.inl rfl | exact Or.inr rfl))) (fun _ _ _ _ => ky) (fun _ _ _ _ => (zi zC (zi qB (zi qc (pv 3) (pv 2)) (pv 1)) (zi jJ (pv 3) (pv 2)))))))), ?_⟩
 rw [show start ["_law_n", "_law_rows", "_law_columns", "_law_place"] [V.int n, V.int r] = [some (.int n), some (.int r), none, none] from rfl]
 walk_at "rd"
 walk_at "xs"
 intro D hD
 rw [Int.toNat_natCast, ec]
 refine jB (fun i τ H' => ∃ u, τ = [some (.int n), some (.int r), some (.int c), u] /\ Kp [D] (upd H D (.lst [])) H' /\ H' D = some (il (xp r c i))) ?_ ?_ ?_
 ·exact ⟨none, rfl, Kp.refl, zf⟩
 ·rintro i τ H' hi ⟨u, rfl, kp, hd⟩
  have m1 := qx (0 + (i : Int)) (show (0 : Int) < c by omega)
  walk_at "rd"
  walk_at "xs"
  refine ⟨by rw [List.length_map]; simp [xp]; omega, kp.trans (Kp.set _ (by simp)), zf.trans (congrArg some (congrArg HO.lst ?_))⟩
  show _ = List.map V.int (xp r c (i + 1))
  unfold xp
  rw [List.range_succ, List.map_append, List.map_append, Int.zero_add]; rfl
 ·rintro τ H' ⟨u, rfl, kp, hd⟩
  exact q D H' _ (Kp.drop1 hD kp) hD hd (Jo hn hr1 hc1)
abbrev xZ : Stmt := top 13
theorem vi : zA ["_law_box_here", "_law_n", "_law_way", "_law_begin", "_law_by", "_law_some", "_law_k", "_law_rows"] ["_law_box_here", "_law_n"] (zk xZ) := ⟨rfl, rfl, rfl, by decide +kernel, rfl, by decide +kernel, by decide +kernel⟩
def ww : Sp := fun vs H Q _ => ∃ (b : Addr) (n N : Nat), vs = [.ref b, .int n] /\ Bx H b N /\ N < 1000000 /\ n <= 1000 /\ ∀ p H' ns, Kp [b] H H' -> H p = none -> Bx H' b (N + 3000) -> H' p = some (il ns) -> IsOrd n ns -> Q (.ref p) H'
theorem JA {n : Nat} (hn : 0 < n) (by' : Int) : IsOrd n ((List.range n).map fun (i : Nat) => ((i : Int) + by') % (n : Int)) := by
  have g : ∀ i, i < n -> ((List.range n).map fun (i : Nat) => ((i : Int) + by') % (n : Int)).getD i 0 = ((i : Int) + by') % (n : Int) := fun i hi => by
    rw [zT (by simp; exact hi)]; simp
  refine qC (by simp) (fun i hi => ?_) (fun i k hi hk e => ?_)
  · rw [g i hi]; exact qx _ (by omega)
  · rw [g i hi, g k hk] at e
    have h1 := Int.emod_emod_of_dvd
    have d : ((i : Int) - (k : Int)) % (n : Int) = 0 := by
      have := Int.emod_eq_emod_iff_emod_sub_eq_zero.mp e
      rw [show (i : Int) + by' - ((k : Int) + by') = (i : Int) - k by omega] at this
      exact this
    obtain ⟨z, hz⟩ := Int.dvd_of_emod_eq_zero d
    by_cases z0 : z = 0
    · rw [z0, Int.mul_zero] at hz; omega
    · have : (n : Int) <= (n : Int) * z \/ (n : Int) * z <= -(n : Int) := by
        rcases Int.lt_or_gt_of_ne z0 with h | h
        · right
          have := Int.mul_le_mul_of_nonneg_left (show z <= -1 by omega) (show (0 : Int) <= n by omega)
          omega
        · left
          have := Int.mul_le_mul_of_nonneg_left (show 1 <= z by omega) (show (0 : Int) <= n by omega)
          omega
      omega
theorem Zn {n b : Nat} (h : b <= n) : IsOrd n (zw 0 1 b ++ zw ((n : Int) - 1) (-1) (n - b)) := by
 have g : ∀ i, i < n -> (zw 0 1 b ++ zw ((n : Int) - 1) (-1) (n - b)).getD i 0 = if i < b then (i : Int) else (n : Int) - 1 - ((i - b : Nat) : Int) := fun i hi => by
  by_cases z : i < b
  ·rw [if_pos z, List.getD_eq_getElem?_getD, List.getElem?_append_left (by rw [zp]; exact z), <- List.getD_eq_getElem?_getD, zW b z]
  ·rw [if_neg z, List.getD_eq_getElem?_getD, List.getElem?_append_right (by rw [zp]; omega), zp, <- List.getD_eq_getElem?_getD, zT (by rw [zp]; omega)]
   simp [zw]; omega
 refine qC (by rw [List.length_append, zp, zp]; omega) (fun i hi => ?_) (fun i k hi hk e => ?_)
 ·rw [g i hi]; split <;> omega
 ·rw [g i hi, g k hk] at e
  split at e <;> split at e <;> omega
theorem Kg {n b : Nat} (h : b <= n) : Builtin.Range.rangeSize ((n : Int) - 1) ((b : Int) - 1) (-1) = ((n - b : Nat) : Int) := by
 unfold Builtin.Range.rangeSize
 rw [if_neg (by decide)]
 split
 ·rw [show (-(-1) : Int) = 1 from rfl, Int.ediv_one]; omega
 ·omega
theorem vT {n b : Nat} (h : n <= 1000) (hb : b <= 1000) : Builtin.Range.small ((n : Int) - 1) ((b : Int) - 1) (-1) = true := by
 unfold Builtin.Range.small
 unfold Builtin.Range.rangeSize
 simp only [Builtin.Range.rangeFitsLong, Bool.and_eq_true, Bool.or_eq_true, decide_eq_true_eq, beq_iff_eq, show ¬ (-1 : Int) > 0 by decide, if_false, Int.neg_neg, Int.ediv_one]
 split <;> omega
theorem QX (a : At K mg "_law_order" xZ) (B : Blt mg) (D_law_take : Df P w K mg base "_law_take" ["_law_box_here", "_law_many"] 3 jt) (D_law_shuffled : Df P w K mg base "_law_shuffled" ["_law_box_here", "_law_n"] 3 qL) (D_law_ringed : Df P w K mg base "_law_ringed" ["_law_box_here", "_law_n", "_law_many"] 3 yE)
  (D_law_exchanged : Df P w K mg base "_law_exchanged" ["_law_box_here", "_law_n"] 3 Z0) (D_law_table : Df P w K mg base "_law_table" ["_law_n", "_law_rows"] 3 wb) : Df P w K mg base "_law_order" ["_law_box_here", "_law_n"] 4 ww := by
 refine jm (k := 3) a vi (fun _ _ _ _ _ _ us hl => match us, hl with | [_, _], _ => rfl) (fun vs H Q E h => ?_) (fun f cdv A outer s H vs Q E hr h => ?_)
 ·obtain ⟨b, n, N, rfl, _⟩ := h; rfl
 obtain ⟨b, n, N, rfl, hb, hN, hn, q⟩ := h
 have sc := vi
 have hsl := hsl
 refine ⟨_, (ze (zB (i := 2) sc.nd rfl (by first | exact Or.inl rfl | exact Or.inr rfl) (zx D_law_take hr rfl (za (pv 0) (za zc zb))))
  (ze (qm (PW.pt (kh (zH Jf (pv 1) zc (zG _)) (kc (zH jS (pv 2) zc (zG _))))) (zj (zu (zl (zy rfl) rfl B.list zV (za (zl zS rfl B.range qf (za (pv 1) zb)) zb)))) zO)
  (ze (qm (zH Jf (pv 2) zc (zG _)) (zj (zu (zx D_law_shuffled hr rfl (za (pv 0) (za (pv 1) zb))))) zO)
  (ze (qm (zH jS (pv 2) zc (zG _)) (zj (zu (zx D_law_ringed hr rfl (za (pv 0) (za (pv 1) (za zc zb)))))) zO)
  (ze (qm (zH jS (pv 2) zc (zG _)) (zj (zu (zx D_law_ringed hr rfl (za (pv 0) (za (pv 1) (za (zi zC zc (zx D_law_take hr rfl (za (pv 0) (za zc zb)))) zb)))))) zO)
  (ze (qm (zH jS (pv 2) zc (zG _)) (zj (zu (zx D_law_exchanged hr rfl (za (pv 0) (za (pv 1) zb))))) zO)
  (ze (qm (zH jS (pv 2) zc (zG _)) (ze (zB (i := 4) sc.nd rfl (by first | exact Or.inl rfl | exact Or.inr rfl) (zx D_law_take hr rfl (za (pv 0) (za (pv 1) zb))))
  (zj (zu (jA (ts := [6]) rfl rfl (qh rfl B.range (za (pv 1) zb)) (fun _ _ _ _ => (zE (i := 6) sc.nd rfl (by first | exact Or.inl rfl | exact Or.inr rfl))) (fun _ _ _ _ => ky) (fun _ _ _ _ => (zi qc (zi zC (pv 6) (pv 4)) (pv 1))))))) zO)
  (ze (qm (zH jS (pv 2) zc (zG _)) (ze (wc (j := 5) rfl sc.nd rfl (by first | exact Or.inl rfl | exact Or.inr rfl) (ts := [7]) rfl (xq rfl B.range (za zc (za (zi zC (pv 1) zc) zb))) (fun _ _ _ _ => (zE (i := 7) sc.nd rfl (by first | exact Or.inl rfl | exact Or.inr rfl))) (fun _ _ _ _ => x0 (zH jS (zi qc (pv 1) (pv 7)) zc (zG _))) (fun _ _ _ _ => (pv 7)))
  (zj (zu (zx D_law_table hr rfl (za (pv 1) (za (zR zF (pv 5) (zx D_law_take hr rfl (za (pv 0) (za (zm zo rfl B.len zZ (za (pv 5) zb)) zb))) (fun _ _ => rfl)) zb)))))) zO)
  (ze (zB (i := 3) sc.nd rfl (by first | exact Or.inl rfl | exact Or.inr rfl) (zx D_law_take hr rfl (za (pv 0) (za (pv 1) zb))))
  (zj (zu (zi jg (zl (zy rfl) rfl B.list zV (za (zl zS rfl B.range qf (za (pv 3) zb)) zb)) (zl (zy rfl) rfl B.list zV (za (zl yW rfl B.range qf (za (zi jv (pv 1) zc) (za (zi jv (pv 3) zc) (za (Xt QQ zc) zb)))) zb)))))))))))))), ?_⟩
 rw [show start ["_law_box_here", "_law_n", "_law_way", "_law_begin", "_law_by", "_law_some", "_law_k", "_law_rows"] [V.ref b, V.int n] = [some (.ref b), some (.int n), none, none, none, none, none, none] from rfl]
 walk_at "rd"
 refine ⟨b, 9, N, rfl, hb, by omega, by decide, by decide, fun way H1 k1 b1 l1 u1 => ?_⟩
 have fr : ∀ p, H1 p = none -> H p = none := fun p hp => by
  cases z : H p with
  | none => rfl
  | some o =>
   by_cases pb : p = b
   ·subst pb; obtain ⟨o', e⟩ := b1.there; rw [e] at hp; cases hp
   ·exact absurd (k1 p o (by simpa using pb) z) (by rw [hp]; simp)
 have bx : ∀ p, H1 p = none -> b ≠ p := fun p hp => b1.ne hp
 have rr : ∀ p, H1 p = none -> ∃ x x_1 x_2, upd H1 p (qK p 0 (n : Int) 1) p = some (qK p x x_1 x_2) /\ Builtin.Range.small x x_1 x_2 = true /\ ∃ x_3 : Nat, Builtin.Range.rangeSize x x_1 x_2 = (x_3 : Int) /\ x_3 <= 100000 /\
   ∀ l, upd H1 p (qK p 0 (n : Int) 1) l = none -> Q (V.ref l) (upd (upd H1 p (qK p 0 (n : Int) 1)) l (HO.lst (List.map V.int (zw x x_2 x_3)))) := fun p hp => by
  refine ⟨0, n, 1, zf, small_one (by omega) (by omega) (by omega) (by omega), n, yg (by omega), by omega, fun l hl => ?_⟩
  have hl1 : H1 l = none := jM hl (Kp.new _ hp)
  exact q l _ _ (k1.trans ((Kp.new _ hp).trans (Kp.new _ hl))) (fr l hl1) (((b1.new hp).new hl).mono (by omega)) zf (IsOrd.rng n)
 refine xm (fun c => rr) (fun c => ⟨rfl, xm (fun c => rr) (fun c8 => ⟨way, rfl, ?_⟩)⟩)
 refine xm (fun c => ?_) (fun c2 => ⟨rfl, xm (fun c => ?_) (fun c => ⟨rfl, xm (fun c => ?_) (fun c => ⟨rfl, xm (fun c => ?_) (fun c => ⟨rfl, xm (fun c => ?_) (fun c => ⟨rfl, xm (fun c => ?_) (fun c => ?_)⟩)⟩)⟩)⟩)⟩)
 ·exact ⟨b, n, N + 1, rfl, b1, by omega, hn, fun p H' ns k hp b' h' ho => q p H' ns (k1.trans k) (fr p hp) (b'.mono (by omega)) h' ho⟩
 ·exact ⟨b, n, 1, N + 1, rfl, b1, by omega, by omega, hn, by omega, by omega, fun p H' ns k hp b' h' ho => q p H' ns (k1.trans k) (fr p hp) (b'.mono (by omega)) h' ho⟩
 ·refine ⟨b, 4, _, rfl, b1, by omega, by decide, by decide, fun r H2 k2 b2 l2 u2 => ⟨_, rfl, ?_⟩⟩
  have fr2 : ∀ p, H2 p = none -> H p = none := fun p hp => by
   cases z : H p with
   | none => rfl
   | some o =>
    by_cases pb : p = b
    ·subst pb; obtain ⟨o', e⟩ := b2.there; rw [e] at hp; cases hp
    ·exact absurd (k2 p o (by simpa using pb) (k1 p o (by simpa using pb) z)) (by rw [hp]; simp)
  refine ⟨b, n, (2 + r).toNat, _, ?_, b2, by omega, by omega, hn, by omega, by omega, fun p H' ns k hp b' h' ho => q p H' ns ((k1.trans k2).trans k) (fr2 p hp) (b'.mono (by omega)) h' ho⟩
  rw [show (((2 + r).toNat : Nat) : Int) = 2 + r by omega]
 ·exact ⟨b, n, N + 1, rfl, b1, by omega, by omega, hn, fun p H' ns k hp b' h' ho => q p H' ns (k1.trans k) (fr p hp) (b'.mono (by omega)) h' ho⟩
 ·refine ⟨b, _, _, rfl, b1, by omega, by omega, by omega, fun r H2 k2 b2 l2 u2 => ⟨by omega, by omega, fun D hD => ?_⟩⟩
  have fr2 : ∀ p, H2 p = none -> H p = none := fun p hp => by
   cases z : H p with
   | none => rfl
   | some o =>
    by_cases pb : p = b
    ·subst pb; obtain ⟨o', e⟩ := b2.there; rw [e] at hp; cases hp
    ·exact absurd (k2 p o (by simpa using pb) (k1 p o (by simpa using pb) z)) (by rw [hp]; simp)
  rw [Int.toNat_natCast]
  refine jB (fun i τ H' => ∃ u, τ = [some (.ref b), some (.int n), some (.int way), none, some (.int r), none, u, none] /\ Kp [D] (upd H2 D (.lst [])) H' /\ H' D = some (il ((List.range i).map fun (i : Nat) => ((i : Int) + r) % (n : Int)))) ?_ ?_ ?_
  ·exact ⟨none, rfl, Kp.refl, zf⟩
  ·rintro i τ H' hi ⟨u, rfl, kp, hd⟩
   walk_at "rd"
   walk_at "xs"
   refine ⟨by rw [List.length_map, List.length_map, List.length_range]; omega, kp.trans (Kp.set _ (by simp)), zf.trans (congrArg some (congrArg HO.lst ?_))⟩
   rw [List.range_succ, List.map_append, List.map_append, Int.zero_add]; rfl
  ·rintro τ H' ⟨u, rfl, kp, hd⟩
   exact q D H' _ ((k1.trans k2).trans ((Kp.drop1 hD kp).mono (by simp))) (fr2 D hD) ((b2.kp (Kp.drop1 hD kp)).mono (by omega)) hd (JA (by omega) r)
 ·refine ⟨by decide, by decide, by omega, by omega, fun D hD => ?_⟩
  rw [show ((n : Int) + 1 - 1).toNat = n by omega]
  have nbD := bx D hD
  refine jB (fun i τ H' => ∃ u ts, τ = [some (.ref b), some (.int n), some (.int way), none, none, none, none, u] /\ Kp [D] (upd H1 D (.lst [])) H' /\ H' D = some (il ts) /\ ts.length <= i /\ (1 <= i -> 1 <= ts.length) /\ ∀ t ∈ ts, 1 <= t /\ t <= (n : Int) /\ (n : Int) % t = 0) ?_ ?_ ?_
  ·exact ⟨none, [], rfl, Kp.refl, zf, Nat.le_refl _, (fun h => absurd h (by decide)), fun t ht => nomatch ht⟩
  ·rintro i τ H' hi ⟨u, ts, rfl, kp, hd, hl, hl1, hbd⟩
   walk_at "rd"
   refine ⟨by omega, rfl, xm (fun c => ?_) (fun c => ?_)⟩
   ·refine ⟨_, hd, by rw [List.length_map]; omega, kp.trans (Kp.set _ (by simp)), ts ++ [1 + (i : Int)], zf.trans (congrArg some (congrArg HO.lst (by rw [List.map_append]; rfl))), by rw [List.length_append, List.length_singleton]; omega, fun _ => by rw [List.length_append, List.length_singleton]; omega, fun t ht => ?_⟩
    rcases List.mem_append.mp ht with z | z
    ·exact hbd t z
    ·have : t = 1 + (i : Int) := by simpa using z
     subst this
     exact ⟨by omega, by omega, c⟩
   ·refine ⟨kp, ts, hd, by omega, fun _ => ?_, hbd⟩
    by_cases z : i = 0
    ·subst z
     exact absurd (by show (n : Int) % (1 + 0) = 0; rw [Int.add_zero, Int.emod_one]) c
    ·exact hl1 (by omega)
  ·rintro τ H' ⟨u, ts, rfl, kp, hd, hl, hl1, hbd⟩
   have kD := Kp.drop1 hD kp
   have l1' := hl1 (by omega)
   refine ⟨D, rfl, _, .inl (SqL.of hd), b, _, N + 1, rfl, b1.kp kD, by omega, by rw [List.length_map]; omega, by rw [List.length_map]; omega, fun r H2 k2 b2 l2 u2 => ?_⟩
   rw [List.length_map] at u2
   obtain ⟨e1, e2⟩ := zJ (cs := ts) (k := r) l2 u2
   have hd2 := k2 _ _ (by simpa using Ne.symm nbD) hd
   have hm : ts.getD r.toNat 0 ∈ ts := by rw [zT (by omega)]; exact List.getElem_mem _
   obtain ⟨t1, t2, t3⟩ := hbd _ hm
   refine ⟨D, rfl, _, _, rfl, SqL.of hd2, _, e2, ?_⟩
   generalize ts.getD r.toNat 0 = t at t1 t2 t3
   obtain ⟨T, rfl⟩ : ∃ T : Nat, t = T := ⟨t.toNat, by omega⟩
   have dv : T ∣ n := Int.natCast_dvd_natCast.mp (Int.dvd_of_emod_eq_zero t3)
   obtain ⟨C, hC⟩ := dv
   refine ⟨n, T, C, rfl, hC, by omega, ?_, hn, fun p H3 ns k3 hp3 h3 ho => ?_⟩
   ·rcases Nat.eq_zero_or_pos C with z | z
    ·rw [z, Nat.mul_zero] at hC; omega
    ·exact z
   ·refine q p H3 ns (((k1.trans (kD.mono (by simp))).trans k2).trans (k3.mono (by simp))) ?_ ((b2.kp k3).mono (by omega)) h3 ho
    cases z : H p with
    | none => rfl
    | some o =>
     by_cases pb : p = b
     ·subst pb; obtain ⟨o', e⟩ := b2.there; rw [e] at hp3; cases hp3
     ·exact absurd (k2 p o (by simpa using pb) (kD p o (by simp) (k1 p o (by simpa using pb) z))) (by rw [hp3]; simp)
 ·refine ⟨b, _, _, rfl, b1, by omega, by omega, by omega, fun r H2 k2 b2 l2 u2 => ?_⟩
  obtain ⟨R, rfl⟩ : ∃ R : Nat, r = R := ⟨r.toNat, by omega⟩
  have fr2 : ∀ p, H2 p = none -> H p = none := fun p hp => by
   cases z : H p with
   | none => rfl
   | some o =>
    by_cases pb : p = b
    ·subst pb; obtain ⟨o', e⟩ := b2.there; rw [e] at hp; cases hp
    ·exact absurd (k2 p o (by simpa using pb) (k1 p o (by simpa using pb) z)) (by rw [hp]; simp)
  refine ⟨_, rfl, fun p hp => ⟨0, R, 1, zf, small_one (by omega) (by omega) (by omega) (by omega), R, yg (by omega), by omega, fun l hl => ?_⟩⟩
  refine ⟨_, rfl, by decide, by decide, fun p1 hp1 => ⟨_, _, _, zf, vT hn (by omega), n - R, Kg (by omega), by omega, fun l1 hl1 => ?_⟩⟩
  walk_at "xs"
  intro p2 hp2
  refine q p2 _ (zw 0 1 R ++ zw ((n : Int) - 1) (-1) (n - R)) ?_ ?_ ?_ (zf.trans (congrArg some (congrArg HO.lst (by rw [List.map_append])))) (Zn (by omega))
  ·exact (k1.trans k2).trans (by walk_at "kp")
  ·exact fr2 p2 (by walk_at "fr")
  ·exact (b2.kp (by walk_at "kp")).mono (by omega)
def Q2 : ASp := fun xs M Q => ∃ (b : Addr) (many : Int) (N : Nat), xs = [.ref b, .d (.int many)] /\ BxM M b N /\ N < 1000000000 /\ 0 < many /\ many < 1073741824 /\ ∀ r M', BxS M M' b (N + 1) -> 0 <= r -> r < many -> Q (.d (.int r)) M'
theorem KB (vs : List V) (H : Hp) (Q : VK) (E : XK) (h : cSp Q2 vs H Q E) : jt vs H Q E := by
 obtain ⟨xs, M, O, Q', w, r, ⟨b, many, N, rfl, hb, h1, h2, h3, q⟩, k⟩ := h
 obtain ⟨v, u, rfl, rv, ru⟩ := je r
 rw [zv ru, rv.1]
 refine ⟨b, many, N, rfl, hb.bx w, h1, h2, h3, fun r H' kp hb' r0 r1 => ?_⟩
 obtain ⟨M', s, e, w'⟩ := vJ w hb kp hb'
 exact k _ _ _ _ _ (q r M' s r0 r1) e w' .int
def VQ : ASp := fun xs M Q => ∃ (x : AV) (k : Int) (cs : List Int), xs = [x, .d (.int k)] /\ qp x M = some (cs.map fun i => .d (.int i)) /\ 0 <= k /\ k <= 1000 /\ cs.length <= 1000 /\ ∀ p o, M p = none -> BxM (mup M p o) p 0 -> Q (.ref p) (mup M p o)
theorem XR (vs : List V) (H : Hp) (Q : VK) (E : XK) (h : cSp VQ vs H Q E) : K8 vs H Q E := by
 obtain ⟨xs, M, O, Q', w, r, ⟨x, n, cs, rfl, hx, h1, h2, h3, q⟩, k⟩ := h
 obtain ⟨v, u, rfl, rv, ru⟩ := je r
 rw [zv ru]
 obtain ⟨a, rfl, ha⟩ := QT w rv hx
 refine ⟨a, n, cs, rfl, ha, h1, h2, h3, fun p H' kp hp hb' => ?_⟩
 obtain ⟨x', y', z', g1, g2⟩ := hb'
 obtain ⟨e1, w1⟩ := JB w kp
 have fr := w.fresh hp
 have e2 := Ext.owned (O' := ZM O p) (p := p) w ⟨fun a o h e => ⟨(e1.fix a o h e).1, fun z => z.elim (zd e hp) h⟩, fun a h e => ⟨(e1.prv a h e).1, .inr h, e⟩, fun _ h => h⟩ hp (.lst ([x', y', z'].map fun i => .d (.int i)))
 refine k _ _ _ _ _ (q p _ fr.2 ⟨x', y', z', zt, g2⟩) e2 (yR (O := ZM O p) (xs := [V.int x', V.int y', V.int z']) ⟨fun a o h => ?_, fun a h => .inr (w1.own a h), fun a h => ?_⟩ (.inl rfl) fr.2 g1 (xV [x', y', z'])) ⟨rfl, by rw [zt]; exact fun z => nomatch z⟩
 ·have e3 : Ext H O M H' (ZM O p) M := ⟨fun a o h e => ⟨(e1.fix a o h e).1, fun z => z.elim (zd e hp) h⟩, fun a h e => ⟨(e1.prv a h e).1, .inr h, e⟩, fun _ h => h⟩
  refine qt.ext e3 ?_ (w.mo a o h)
  obtain ⟨u, hu, _⟩ := w.al a (w.own a (qQ h))
  rw [hu]; exact kp a u (by simp) hu
 ·rcases h with rfl | h
  ·exact ⟨_, g1, fun xs z => nomatch z⟩
  ·exact w1.al a h
def wm (K : PySem.W.Frag) : ASp := fun xs M Q => ∃ (m : Int) (ns : List Int), xs = [.d (.scr K ns), .d (.int m)] /\ 0 < m /\ m <= 60 /\ ns.length <= 63 /\ ∀ cs : List Int, cs.length <= 1000 -> Q (.d (.lst (cs.map .int))) M
theorem ZK (vs : List V) (H : Hp) (Q : VK) (E : XK) (h : cSp (wm K) vs H Q E) : yD K vs H Q E := by
 obtain ⟨xs, M, O, Q', w, r, ⟨m, ns, rfl, h1, h2, h3, q⟩, k⟩ := h
 obtain ⟨v, u, rfl, rv, ru⟩ := je r
 rw [zv ru]
 obtain ⟨a, rfl, ha⟩ := wF rv
 refine ⟨a, m, ns, rfl, ha, h1, h2, h3, fun p H' cs kp hp hc lc => ?_⟩
 obtain ⟨e1, w1⟩ := JB w kp
 exact k _ _ _ _ _ (q cs lc) e1 w1 (yG (w.fresh hp).1 hc)
def wu : ASp := fun xs M Q => ∃ (b : Addr) (m : Int) (N : Nat), xs = [.ref b, .d (.int m)] /\ BxM M b N /\ N < 100000000 /\ 24 <= m /\ m <= 1000 /\ ∀ r M', BxS M M' b (N + 10) -> 0 <= r -> r <= m -> Q (.d (.int r)) M'
theorem Zl (vs : List V) (H : Hp) (Q : VK) (E : XK) (h : cSp wu vs H Q E) : yP vs H Q E := by
 obtain ⟨xs, M, O, Q', w, r, ⟨b, many, N, rfl, hb, h1, h2, h3, q⟩, k⟩ := h
 obtain ⟨v, u, rfl, rv, ru⟩ := je r
 rw [zv ru, rv.1]
 refine ⟨b, many, N, rfl, hb.bx w, h1, h2, h3, fun r H' kp hb' r0 r1 => ?_⟩
 obtain ⟨M', s, e, w'⟩ := vJ w hb kp hb'
 exact k _ _ _ _ _ (q r M' s r0 r1) e w' .int
def Qy : ASp := fun xs M Q => ∃ (b : Addr) (n N : Nat), xs = [.ref b, .d (.int n)] /\ BxM M b N /\ N < 1000000 /\ n <= 1000 /\ ∀ os M', BxS M M' b (N + 3000) -> IsOrd n os -> Q (.d (.lst (os.map .int))) M'
theorem QK (vs : List V) (H : Hp) (Q : VK) (E : XK) (h : cSp Qy vs H Q E) : ww vs H Q E := by
 obtain ⟨xs, M, O, Q', w, r, ⟨b, n, N, rfl, hb, h1, h2, q⟩, k⟩ := h
 obtain ⟨v, u, rfl, rv, ru⟩ := je r
 rw [zv ru, rv.1]
 refine ⟨b, n, N, rfl, hb.bx w, h1, h2, fun p H' ns kp hp hb' hq ho => ?_⟩
 obtain ⟨M', s, e, w'⟩ := vJ w hb kp hb'
 exact k _ _ _ _ _ (q ns M' s ho) e w' (yG (w.fresh hp).1 hq)
theorem wY {ss : List Bool} {i j : Nat} {v : Bool} (h : i < ss.length) : (ss.set i v).getD j false = if j = i then v else ss.getD j false := by
 rw [List.getD_eq_getElem?_getD, List.getD_eq_getElem?_getD, List.getElem?_set]
 by_cases e : i = j
 ·subst e; rw [if_pos rfl, if_pos h, if_pos rfl]; rfl
 ·rw [if_neg e, if_neg (fun z => e z.symm)]
abbrev jX : Stmt := top 2
theorem kN : zA ["thing", "seen", "place"] ["thing"] (zk jX) := ⟨rfl, rfl, rfl, by decide +kernel, rfl, by decide +kernel, by decide +kernel⟩
abbrev jq : Stmt := top 1
theorem kj : zA ["thing", "n"] ["thing", "n"] (zk jq) := ⟨rfl, rfl, rfl, by decide +kernel, rfl, by decide +kernel, by decide +kernel⟩
def ku (d : Dat) (n : Int) : Bool := match d with
 | .int i => decide (0 <= i /\ i < n)
 | _ => false
def xn : ASp := fun xs M Q => ∃ (d : Dat) (n : Int), xs = [.d d, .d (.int n)] /\ dp d <= 100 /\ Q (.d (.bl (ku d n))) M
theorem yQ (a : At K mg "is_place" jq) (B : Blt mg) : Df P w K mg base "is_place" ["thing", "n"] 1 (cSp xn) := by
 refine dfA (k := 0) a kj (fun _ _ _ _ _ _ us hl => match us, hl with | [_, _], _ => rfl) (fun xs M Q h => ?_) (fun f cdv A outer s H E hr => ?_)
 ·obtain ⟨_, _, rfl, _⟩ := h; rfl
 have sc := kj
 have hsl := hsl
 refine ⟨_, (ze (qm (PW.pt (kh (qI (zm jc rfl B.isinstance zI (za (pv 0) (za (qk (v := .ty "bool") rfl B.bool ye rfl) zb))) (fun _ => rfl)) (kc (jy (qI (zm jc rfl B.isinstance zI (za (pv 0) (za (qk (v := .ty "int") rfl B.int yo rfl) zb))) (fun _ => rfl)))))) (zj (zu qq)) zO)
  (zj (zu (Qw Wb Jf zc (pv 0) (pv 1))))), ?_⟩
 refine ex2 (by walk_at "sim") ?_
 rintro xs M Q ⟨d, n, rfl, hd, q⟩
 rw [show qH ["thing", "n"] [.d d, .d (.int n)] = [some (.d d), some (.d (.int n))] from rfl]
 have fin := fun b => ja (M0 := M) Fr.refl (.bl b)
 cases d with
 | non => walk_at "ra"; exact ⟨_, _, fin _, q⟩
 | bl b => walk_at "ra"; exact ⟨_, _, fin _, q⟩
 | str b => walk_at "ra"; exact ⟨_, _, fin _, q⟩
 | lst b => walk_at "ra"; exact ⟨_, _, fin _, q⟩
 | tup b => walk_at "ra"; exact ⟨_, _, fin _, q⟩
 | int i =>
  walk_at "ra"
  have q : Q (.d (.bl (decide (0 <= i /\ i < n)))) M := q
  by_cases c : 0 <= i
  ·rw [if_pos c]
   rw [show decide (0 <= i /\ i < n) = decide (i < n) by simp [c]] at q
   walk_at "ra"
   exact ⟨_, _, fin _, q⟩
  ·rw [if_neg c]
   rw [show decide (0 <= i /\ i < n) = false by simp [c]] at q
   walk_at "ra"
   exact ⟨_, _, fin _, q⟩
 | ty _ => rw [dp] at hd; omega
 | rng _ _ _ => rw [dp] at hd; omega
 | scr _ _ => rw [dp] at hd; omega
def qo (l : List Dat) : Prop := ∃ os : List Int, l = os.map .int /\ IsOrd l.length os
open Classical in
noncomputable def ke : Dat -> Bool
 | .lst l => decide (qo l)
 | .tup l => decide (qo l)
 | _ => false
open Classical in
theorem xS (l : List Dat) : ke (.lst l) = if qo l then true else false := by
 unfold ke
 by_cases h : qo l <;> simp [h]
open Classical in
theorem wG (l : List Dat) : ke (.tup l) = if qo l then true else false := by
 unfold ke
 by_cases h : qo l <;> simp [h]
theorem qC {n : Nat} {os : List Int} (h : IsOrd n os) : qo (os.map .int) := ⟨os, rfl, by rw [List.length_map, h.1]; exact h⟩
theorem yT {d : Dat} {n : Int} (h : ku d n = true) : ∃ k : Int, d = .int k /\ 0 <= k /\ k < n := by
 cases d with
 | int k => exact ⟨k, rfl, of_decide_eq_true h⟩
 | _ => cases h
theorem Kw {l : List Dat} (h : qo l) {i : Nat} {d : Dat} (hi : l[i]? = some d) : ku d (l.length : Nat) = true := by
 obtain ⟨os, rfl, ho⟩ := h
 rw [List.getElem?_map] at hi
 cases e : os[i]? with
 | none => rw [e] at hi; cases hi
 | some k =>
  rw [e] at hi; cases hi
  exact decide_eq_true (ho.2.2 k (List.mem_of_getElem? e))
theorem JW {l : List Dat} (h : qo l) {os : List Int} {i : Nat} {k : Int} (ht : l.take i = os.map .int) (hi : l[i]? = some (.int k)) : k ∉ os := by
 obtain ⟨qs, rfl, ho⟩ := h
 intro hk
 rw [List.getElem?_map] at hi
 cases e : qs[i]? with
 | none => rw [e] at hi; cases hi
 | some k' =>
  rw [e] at hi; cases hi
  have ht : qs.take i = os := by
   rw [<- List.map_take] at ht
   exact (List.map_inj_right (fun _ _ z => Dat.int.inj z)).mp ht
  rw [<- ht] at hk
  obtain ⟨j, hj, ej⟩ := List.mem_take_iff_getElem.mp hk
  obtain ⟨hi', ei⟩ := List.getElem?_eq_some_iff.mp e
  have := (List.getElem_inj (h₀ := by omega) (h₁ := hi') ho.2.1).mp (ej.trans ei.symm)
  omega
def yO : ASp := fun xs M Q => ∃ (x : AV) (d : Dat), xs = [x] /\ jn x M = some d /\ qA 100 d /\ Q (.d (.bl (ke d))) M
theorem kY {x : AV} {l : List Dat} {M : MH} {p : Addr} {D : kE} {G : MH -> Prop} (hG : ∀ o, G (mup M p o)) (hp : M p = none) (hl : l.length <= 100000) (hd : ∀ d ∈ l, dp d <= 100) (hx : qw x M = some (l.map .d)) (hrt : ∀ M', Fr M M' -> ¬ qo l -> D.rt (.d (.bl false)) M') (hnx : ∀ u M', Fr M M' -> qo l -> D.nx [some x, some (.ref p), u] M') {B : MH} :
  Xm (vE 2) (Zj (X9 (aOr (Yf (aB (QS xn (yS (vn 2) (yS (aCB Yz (yS (vn 0) JT)) JT))))) (aB (aOp (aIx qw) (vn 1) (vn 2)))) (YN (aC (Dat.bl false))) vq) (XJ (aC (Dat.bl true)) (QR (vn 1) (vn 2) asL)))
   B D G (l.map .d) [some x, some (.ref p), none] (mup M p (.lst ((List.replicate l.length false).map fun b => .d (.bl b)))) := by
 refine ⟨fun i ρ M' => ∃ (u : Option AV) (bs : List Bool) (os : List Int), ρ = [some x, some (.ref p), u] /\ M' = mup M p (.lst (bs.map fun b => .d (.bl b))) /\ bs.length = l.length /\ l.take i = os.map .int /\ os.Nodup /\ (∀ k ∈ os, 0 <= k /\ k < (l.length : Int)) /\ ∀ k : Nat, k < l.length -> (bs.getD k false = true ↔ (k : Int) ∈ os), ?_, ?_, ?_⟩
 ·refine ⟨none, _, [], rfl, rfl, List.length_replicate, rfl, List.nodup_nil, (fun k hk => nomatch hk), fun k hk => ?_⟩
  rw [List.getD_eq_getElem?_getD, List.getElem?_replicate, if_pos hk]
  simp
 ·rintro i y ρ M' hy ⟨u, bs, os, rfl, rfl, lb, ht, nd, hb, hm⟩
  rw [List.getElem?_map] at hy
  cases e : l[i]? with
  | none => rw [e] at hy; cases hy
  | some d =>
   rw [e] at hy
   cases hy
   refine ⟨hG _, ?_⟩
   walk_at "ra"
   rw [kX hx hp]
   walk_at "ra"
   refine ⟨d, _, rfl, hd d (List.mem_of_getElem? e), _, rfl, ?_⟩
   cases c : ku d (l.length : Nat) with
   | false =>
    walk_at "ra"
    exact hrt _ (Fr.refl.mup hp _) fun z => by rw [Kw z e] at c; cases c
   | true =>
    obtain ⟨k, rfl, k0, k1⟩ := yT c
    walk_at "ra"
    rw [kW zt]
    have hk := hm k.toNat (by omega)
    rw [Int.toNat_of_nonneg k0] at hk
    have hat : atI (bs.map fun b => AV.d (.bl b)) k = some (.d (.bl (bs.getD k.toNat false))) := by rw [yt, Qm k0 (by omega) false]; rfl
    walk_at "ra"
    rw [hat]
    walk_at "ra"
    cases c2 : bs.getD k.toNat false with
    | true =>
     walk_at "ra"
     exact hrt _ (Fr.refl.mup hp _) fun z => JW z ht e (hk.mp c2)
    | false =>
     walk_at "ra"
     have hno : k ∉ os := fun z => by rw [hk.mpr z] at c2; cases c2
     refine ⟨_, zt, k.toNat, by rw [List.length_map, ZS k0 (by omega)], bs.set k.toNat true, ?_, by rw [List.length_set]; exact lb, os ++ [k], ?_, ?_, ?_, ?_⟩
     ·rw [List.map_set]
     ·rw [List.take_add_one, e, ht, List.map_append]; rfl
     ·rw [List.nodup_append]
      exact ⟨nd, by simp, fun a ha b hb' => by rw [List.mem_singleton.mp hb']; exact fun z => hno (z ▸ ha)⟩
     ·intro j hj
      rcases List.mem_append.mp hj with z | z
      ·exact hb j z
      ·rw [List.mem_singleton.mp z]; exact ⟨k0, k1⟩
     ·intro j hj
      rw [wY (by omega), List.mem_append, List.mem_singleton]
      by_cases cj : j = k.toNat
      ·rw [if_pos cj]
       exact ⟨fun _ => .inr (by omega), fun _ => rfl⟩
      ·rw [if_neg cj, hm j hj]
       exact ⟨.inl, fun z => z.resolve_right (by omega)⟩
 ·rintro ρ M' ⟨u, bs, os, rfl, rfl, lb, ht, nd, hb, hm⟩
  rw [List.length_map, List.take_length] at ht
  refine ⟨hG _, hnx u _ (Fr.refl.mup hp _) ⟨os, ht, ?_, nd, hb⟩⟩
  rw [ht, List.length_map]
theorem y6 (a : At K mg "is_order" jX) (B : Blt mg) (D_is_place : Df P w K mg base "is_place" ["thing", "n"] 1 (cSp xn)) : Df P w K mg base "is_order" ["thing"] 2 (cSp yO) := by
 refine dfA (k := 1) a kN (fun _ _ _ _ _ _ us hl => match us, hl with | [_], _ => rfl) (fun xs M Q h => ?_) (fun f cdv A outer s H E hr => ?_)
 ·obtain ⟨_, _, rfl, _⟩ := h; rfl
 have sc := kN
 have hsl := hsl
 have hs2 : 0 + 1 + 1 <= sizeLine := by omega
 refine ⟨_, (ze (qm (jy (qI (zm xy rfl B.isinstance zI (za (pv 0) (za (xh (za (qk (v := .ty "list") rfl B.list zV rfl) (za (qk (v := .ty "tuple") rfl B.tuple jN rfl) zb))) zb))) (fun _ => rfl))) (zj (zu qq)) zO)
  (ze (zB (i := 1) sc.nd rfl (by first | exact Or.inl rfl | exact Or.inr rfl) (ZV (zi Jn (zM (za qq zb)) (zm zo rfl B.len zZ (za (pv 0) zb)))))
  (ze (qZ PassesOwn.never rfl (Q0 (pv 0)) (zE (i := 2) sc.nd rfl (by first | exact Or.inl rfl | exact Or.inr rfl)) (ze (qm (PW.pt (kh (jy (qI (zx D_is_place hr rfl (za (pv 2) (za (zm zo rfl B.len zZ (za (pv 0) zb)) zb))) (fun _ => rfl))) (kc (qI (zR jL (pv 1) (pv 2) (fun _ _ => rfl)) (fun _ => rfl))))) (zj (zu qq)) zO)
  (zj (jx qq (qU (pv 1) (pv 2) qb)))))
  (zj (zu qq))))), ?_⟩
 refine ex2 (by walk_at "sim") ?_
 rintro xs M Q ⟨x, d, rfl, hx, hd, q⟩
 rw [show qH ["thing", "seen", "place"] [x] = [some x, none, none] from rfl]
 have fin := fun b M' (f : Fr M M') => ja f (.bl b)
 cases d with
 | non => obtain rfl := zU hx (fun _ z => nomatch z); walk_at "ra"; exact ⟨hs2, _, _, fin _ _ Fr.refl, q⟩
 | bl b => obtain rfl := zU hx (fun _ z => nomatch z); walk_at "ra"; exact ⟨hs2, _, _, fin _ _ Fr.refl, q⟩
 | int b => obtain rfl := zU hx (fun _ z => nomatch z); walk_at "ra"; exact ⟨hs2, _, _, fin _ _ Fr.refl, q⟩
 | str b => obtain rfl := zU hx (fun _ z => nomatch z); walk_at "ra"; exact ⟨hs2, _, _, fin _ _ Fr.refl, q⟩
 | lst l =>
  obtain ⟨_, hs, t1, _⟩ := yF hx
  have t2 := vF
  obtain ⟨hl, hdl⟩ := hd.lst
  have hdl : ∀ d ∈ l, dp d <= 100 := fun d h => Nat.le_trans (hdl d h).1 (by omega)
  have he := xS l
  walk_at "ra"
  rw [t1]
  walk_at "ra"
  rw [hs]
  walk_at "ra"
  refine ⟨by omega, by omega, by omega, by omega, by omega, fun p hp _ => ⟨_, kX hs hp _, ?_⟩⟩
  rw [Int.toNat_natCast, JJ, show List.replicate l.length (AV.d (Dat.bl false)) = (List.replicate l.length false).map fun b => AV.d (.bl b) by rw [List.map_replicate]]
  refine kY (fun o => kX hs hp o) hp hl hdl hs (fun M' f hn => ?_) fun u M' f hn => ?_
  ·rw [he, if_neg hn] at q
   exact ⟨_, _, fin _ _ f, q⟩
  ·rw [he, if_pos hn] at q
   walk_at "ra"
   exact ⟨_, _, fin _ _ f, q⟩
 | tup l =>
  obtain rfl := zU hx (fun _ z => nomatch z)
  have hs : qw (.d (.tup l)) M = some (l.map .d) := rfl
  have t1 : tyA (.d (.tup l)) M = some "tuple" := rfl
  have t2 := v7
  obtain ⟨hl, hdl⟩ := hd.tup
  have hdl : ∀ d ∈ l, dp d <= 100 := fun d h => Nat.le_trans (hdl d h).1 (by omega)
  have he := wG l
  walk_at "ra"
  refine ⟨by omega, by omega, by omega, by omega, by omega, fun p hp _ => ?_⟩
  rw [Int.toNat_natCast, JJ, show List.replicate l.length (AV.d (Dat.bl false)) = (List.replicate l.length false).map fun b => AV.d (.bl b) by rw [List.map_replicate]]
  refine kY (fun o => trivial) hp hl hdl hs (fun M' f hn => ?_) fun u M' f hn => ?_
  ·rw [he, if_neg hn] at q
   exact ⟨_, _, fin _ _ f, q⟩
  ·rw [he, if_pos hn] at q
   walk_at "ra"
   exact ⟨_, _, fin _ _ f, q⟩
 | ty t => have := hd.1; rw [dp] at this; omega
 | rng _ _ _ => have := hd.1; rw [dp] at this; omega
 | scr _ _ => have := hd.1; rw [dp] at this; omega
abbrev jY : Stmt := top 3
theorem kZ : zA ["n"] ["n"] (zk jY) := ⟨rfl, rfl, rfl, by decide +kernel, rfl, by decide +kernel, by decide +kernel⟩
def j7 : ASp := fun xs M Q => ∃ n : Nat, xs = [.d (.int n)] /\ n <= 1000 /\ ∀ p, M p = none -> Q (.ref p) (mup M p (.lst ((zw 0 1 n).map fun i => .d (.int i))))
theorem yZ (a : At K mg "staying" jY) (B : Blt mg) : Df P w K mg base "staying" ["n"] 1 (cSp j7) := by
 refine dfA (k := 0) a kZ (fun _ _ _ _ _ _ us hl => match us, hl with | [_], _ => rfl) (fun xs M Q h => ?_) (fun f cdv A outer s H E hr => ?_)
 ·obtain ⟨_, rfl, _⟩ := h; rfl
 have sc := kZ
 have hsl := hsl
 refine ⟨_, (zj (zu (ZV (zl (zy rfl) rfl B.list zV (za (zl zS rfl B.range qf (za (pv 0) zb)) zb))))), ?_⟩
 refine ex2 (by walk_at "sim") ?_
 rintro xs M Q ⟨n, rfl, hn, q⟩
 rw [show qH ["n"] [.d (.int n)] = [some (.d (.int n))] from rfl]
 walk_at "ra"
 refine ⟨_, _, _, rfl, small_one (by omega) (by omega) (by omega) (by omega), n, by rw [rangeSize_one]; split <;> omega, by omega, fun p hp _ => ?_⟩
 exact ⟨_, _, Kb (Fr.refl.mup hp _) hp zt (ql _), q p hp⟩
def yM : ASp := fun xs M Q => ∃ n : Nat, xs = [.d (.int n)] /\ n <= 1000 /\ Q (.d (ilD (zw 0 1 n))) M
theorem vN (vs : List V) (H : Hp) (Q : VK) (E : XK) : cSp yM vs H Q E -> cSp j7 vs H Q E := JZ (fun xs M Q ⟨n, e, h1, q⟩ => ⟨n, e, h1, fun p hp => ⟨_, _, KI (Fr.refl.mup hp _) hp zt (ql _), q⟩⟩) vs H Q E
abbrev Je : Stmt := top 4
theorem Jq : zA ["order", "place", "goal"] ["order"] (zk Je) := ⟨rfl, rfl, rfl, by decide +kernel, rfl, by decide +kernel, by decide +kernel⟩
def Xk : ASp := fun xs M Q => ∃ (x : AV) (n : Nat), xs = [x] /\ qw x M = some ((zw 0 1 n).map fun i => .d (.int i)) /\ n <= 1000 /\ Q (.d (.int 0)) M
theorem KY (a : At K mg "off" Je) (B : Blt mg) : Df P w K mg base "off" ["order"] 1 (cSp Xk) := by
 refine dfA (k := 0) a Jq (fun _ _ _ _ _ _ us hl => match us, hl with | [_], _ => rfl) (fun xs M Q h => ?_) (fun f cdv A outer s H E hr => ?_)
 ·obtain ⟨_, _, rfl, _⟩ := h; rfl
 have sc := Jq
 have hsl := hsl
 refine ⟨_, (zj (zu (zm zo rfl B.len zZ (za (jA (ts := [1, 2]) rfl rfl (Ze rfl B.enumerate (za (pv 0) zb)) (fun _ _ _ _ => (jK (K := K) 2 rfl rfl (zX (zE (i := 1) sc.nd rfl (by first | exact Or.inl rfl | exact Or.inr rfl)) (zX (zE (i := 2) sc.nd rfl (by first | exact Or.inl rfl | exact Or.inr rfl)) jQ)))) (fun _ _ _ _ => x0 (zH (j9 hr.units) (pv 1) (pv 2) (zG _))) (fun _ _ _ _ => (pv 1))) zb)))), ?_⟩
 refine ex2 (by walk_at "sim") ?_
 rintro xs M Q ⟨x, n, rfl, hx, hn, q⟩
 rw [show qH ["order", "place", "goal"] [x] = [some x, none, none] from rfl]
 walk_at "ra"
 refine ⟨_, hx, _, ql _, ?_⟩
 refine ⟨fun i acc ρ M' => M = M' /\ acc = [] /\ ∃ u v, ρ = [some x, u, v], ⟨rfl, rfl, _, _, rfl⟩, ?_, ?_⟩
 ·rintro i y acc ρ M' hy ⟨rfl, rfl, u, v, rfl⟩
  refine ⟨hx, ?_⟩
  obtain ⟨d, hd, rfl⟩ := j6 hy
  have hd' : d = .int (i : Int) := by
   rw [List.getElem?_map] at hd
   cases e : (zw 0 1 n)[i]? with
   | none => rw [e] at hd; cases hd
   | some k =>
    rw [e] at hd; cases hd
    have hi := (List.getElem?_eq_some_iff.mp e).1
    rw [zp] at hi
    have := zW n hi
    rw [List.getD_eq_getElem?_getD, e] at this
    exact congrArg Dat.int this
  subst hd'
  walk_at "ra"
  exact ⟨_, rfl⟩
 ·rintro acc ρ M' ⟨rfl, rfl, u, v, rfl⟩
  exact ⟨hx, [], rfl, _, _, ja Fr.refl _, q⟩
theorem vz (n : Nat) : (zw 0 1 n).Pairwise (· <= ·) := by
 rw [List.pairwise_iff_getElem]
 intro i j hi hj hij
 have h1 := zW n (show i < n by rw [zp] at hi; exact hi)
 have h2 := zW n (show j < n by rw [zp] at hj; exact hj)
 rw [List.getD_eq_getElem?_getD, List.getElem?_eq_getElem hi] at h1
 rw [List.getD_eq_getElem?_getD, List.getElem?_eq_getElem hj] at h2
 simp only [Option.getD_some] at h1 h2
 omega
theorem IsOrd.perm {n : Nat} {os : List Int} (h : IsOrd n os) : os.Perm (zw 0 1 n) := by
 have hr := IsOrd.rng n
 refine (List.perm_ext_iff_of_nodup h.2.1 hr.2.1).mpr fun x => ⟨fun hx => ?_, fun hx => ?_⟩
 ·exact hr.surj (h.2.2 x hx).1 (h.2.2 x hx).2
 ·exact h.surj (hr.2.2 x hx).1 (hr.2.2 x hx).2
theorem vC {n : Nat} {ns ns' : List Int} (hp : ns'.Perm ns) (hs : ns'.Pairwise (· <= ·)) : ns' = zw 0 1 n ↔ IsOrd n ns := by
 constructor
 ·intro e
  have hr := IsOrd.rng n
  rw [<- e] at hr
  exact ⟨hp.length_eq ▸ hr.1, hp.nodup hr.2.1, fun x hx => hr.2.2 x (hp.mem_iff.mpr hx)⟩
 ·intro h
  exact (hp.trans (Ot.IsOrd.perm h)).eq_of_pairwise (le := (· <= ·)) (fun a b _ _ h1 h2 => Int.le_antisymm h1 h2) hs (vz n)
def XG : AV -> Bool
 | .d (.int _) => true
 | _ => false
def qe : List Dat -> List Int
 | [] => []
 | .int i :: r => i :: qe r
 | _ :: r => qe r
theorem xX (l : List Dat) : ((l.map AV.d).filter XG).map id = (qe l).map fun i => AV.d (.int i) := by
 induction l with
 | nil => rfl
 | cons a r ih => cases a <;> simp_all [qe, XG, List.filter_cons]
theorem yC (l : List Dat) : (qe l).length <= l.length := by
 induction l with
 | nil => simp [qe]
 | cons a r ih => cases a <;> simp only [qe, List.length_cons] <;> omega
theorem ZH {l : List Dat} (h : (qe l).length = l.length) : l = (qe l).map .int := by
 induction l with
 | nil => rfl
 | cons a r ih =>
  have := yC r
  cases a with
  | int i => simp only [qe, List.length_cons, Nat.add_right_cancel_iff] at h; rw [qe, List.map_cons, <- ih h]
  | _ => simp only [qe, List.length_cons] at h; omega
theorem Zs (ns : List Int) : qe (ns.map .int) = ns := by
 induction ns with
 | nil => rfl
 | cons a r ih => rw [List.map_cons, qe, ih]
theorem j3 (l : List Dat) : qo l ↔ (qe l).length = l.length /\ IsOrd l.length (qe l) := by
 constructor
 ·rintro ⟨os, rfl, ho⟩
  rw [Zs]
  exact ⟨by rw [List.length_map], ho⟩
 ·rintro ⟨h1, h2⟩
  exact ⟨_, ZH h1, h2⟩
abbrev JF : Stmt := top 15
theorem Qd : zA ["_law_thing", "_law_some", "_law_one"] ["_law_thing"] (zk JF) := ⟨rfl, rfl, rfl, by decide +kernel, rfl, by decide +kernel, by decide +kernel⟩
def Yd : Dat -> Nat
 | .lst l => l.length
 | .tup l => l.length
 | _ => 0
def VN : ASp := fun xs M Q => ∃ (x : AV) (d : Dat), xs = [x] /\ jn x M = some d /\ qA 100 d /\ Yd d < 64 /\ Q (.d (.bl (ke d))) M
theorem Vi (a : At K mg "_law_due" JF) (B : Blt mg) : Df P w K mg base "_law_due" ["_law_thing"] 1 (cSp VN) := by
 refine dfA (k := 0) a Qd (fun _ _ _ _ _ _ us hl => match us, hl with | [_], _ => rfl) (fun xs M Q h => ?_) (fun f cdv A outer s H E hr => ?_)
 ·obtain ⟨_, _, rfl, _⟩ := h; rfl
 have sc := Qd
 have hsl := hsl
 refine ⟨_, (ze (qm (jy (qI (zm xy rfl B.isinstance zI (za (pv 0) (za (xh (za (qk (v := .ty "list") rfl B.list zV rfl) (za (qk (v := .ty "tuple") rfl B.tuple jN rfl) zb))) zb))) (fun _ => rfl))) (zj (zu qq)) zO)
  (ze (wc (j := 1) rfl sc.nd rfl (by first | exact Or.inl rfl | exact Or.inr rfl) (ts := [2]) rfl (Q0 (pv 0)) (fun _ _ _ _ => (zE (i := 2) sc.nd rfl (by first | exact Or.inl rfl | exact Or.inr rfl))) (fun _ _ _ _ => x0 (PW.pt (YO (qI (zm (xA (K := K) rfl) rfl B.isinstance zI (za (pv 2) (za (qk (v := .ty "int") rfl B.int yo rfl) zb))) (fun _ => rfl)) (J3 (jy (qI (zm (xA (K := K) rfl) rfl B.isinstance zI (za (pv 2) (za (qk (v := .ty "bool") rfl B.bool ye rfl) zb))) (fun _ => rfl))))))) (fun _ _ _ _ => (pv 2)))
  (zj (zu (X8 (jC (kO hr.units) (zm zo rfl B.len zZ (za (pv 1) zb)) (zm zo rfl B.len zZ (za (pv 0) zb)) (zG _)) (XI (jC (kO hr.units) (zm jI rfl B.sorted xJ (za (pv 1) zb)) (zl (zy rfl) rfl B.list zV (za (zl zS rfl B.range qf (za (zm zo rfl B.len zZ (za (pv 0) zb)) zb)) zb)) (zG _)))))))), ?_⟩
 refine ex2 (by walk_at "sim") ?_
 rintro xs M Q ⟨x, d, rfl, hx, hd, hw, q⟩
 rw [show qH ["_law_thing", "_law_some", "_law_one"] [x] = [some x, none, none] from rfl]
 refine zD fun r hr0 => ?_
 walk_at "ra"
 refine ⟨by omega, ?_⟩
 have key : ∀ l, qw x M = some (l.map .d) -> l.length < 64 -> (∀ d ∈ l, qA 99 d) -> ke d = ke (.lst l) -> r M { nx := fun _ M' => rtA M Q (AV.d Dat.non) M', rt := rtA M Q } [some x, none, none] M := by
  intro l hs hl hdl he
  subst hr0
  walk_at "ra"
  refine ⟨_, hs, Zu (fun o => [some x, none, o]) XG id ⟨_, rfl⟩ hs (by rw [List.length_map]; omega) (fun o y Q hy q => ?_) fun o => ?_⟩
  ·obtain ⟨d, hd, rfl⟩ := List.mem_map.mp hy
   have q := q (some (.d d))
   have hd := hdl d hd
   cases d with
   | int i => walk_at "ra"; exact q
   | bl i => walk_at "ra"; exact q
   | non => walk_at "ra"; exact q
   | str i => walk_at "ra"; exact q
   | lst i => walk_at "ra"; exact q
   | tup i => walk_at "ra"; exact q
   | ty t => have := hd.1; rw [dp] at this; omega
   | rng _ _ _ => have := hd.1; rw [dp] at this; omega
   | scr _ _ => have := hd.1; rw [dp] at this; omega
  ·rw [xX]
   have il := yC l
   refine ⟨_, ql _, _, hs, ?_⟩
   rw [List.length_map, List.length_map]
   rw [he, xS] at q
   by_cases c : (qe l).length = l.length
   ·rw [if_pos (by omega)]
    refine ⟨qe l, xr _, by omega, fun ns' hp hso => ⟨_, hs, 0, _, 1, rfl, ?_⟩⟩
    rw [List.length_map]
    refine ⟨small_one (by omega) (by omega) (by omega) (by omega), l.length, by rw [rangeSize_one]; split <;> omega, by omega, Nat.le_trans (xI (ns := ns') (by rw [hp.length_eq]; omega)).1 (by omega), Nat.le_trans (xI (ns := zw 0 1 l.length) (by rw [zp]; omega)).1 (by omega), ?_⟩
    rw [kH]
    have e2 := vC (n := l.length) hp hso
    by_cases c2 : IsOrd l.length (qe l)
    ·rw [if_pos ((j3 l).mpr ⟨c, c2⟩)] at q
     rw [decide_eq_true (e2.mpr c2)]
     exact ⟨_, _, ja Fr.refl _, q⟩
    ·rw [if_neg (fun z => c2 ((j3 l).mp z).2)] at q
     rw [decide_eq_false (fun z => c2 (e2.mp z))]
     exact ⟨_, _, ja Fr.refl _, q⟩
   ·rw [if_neg (by omega)]
    rw [if_neg (fun z => c ((j3 l).mp z).1)] at q
    exact ⟨_, _, ja Fr.refl _, q⟩
 cases d with
 | non => obtain rfl := zU hx (fun _ z => nomatch z); exact ⟨_, rfl, _, rfl, _, _, ja Fr.refl _, q⟩
 | bl b => obtain rfl := zU hx (fun _ z => nomatch z); exact ⟨_, rfl, _, rfl, _, _, ja Fr.refl _, q⟩
 | int b => obtain rfl := zU hx (fun _ z => nomatch z); exact ⟨_, rfl, _, rfl, _, _, ja Fr.refl _, q⟩
 | str b => obtain rfl := zU hx (fun _ z => nomatch z); exact ⟨_, rfl, _, rfl, _, _, ja Fr.refl _, q⟩
 | ty _ => have := hd.1; rw [dp] at this; omega
 | rng _ _ _ => have := hd.1; rw [dp] at this; omega
 | scr _ _ => have := hd.1; rw [dp] at this; omega
 | lst l =>
  obtain ⟨_, hs, t1, _⟩ := yF hx
  refine ⟨_, t1, _, vF, ?_⟩
  walk_at "ra"
  exact key l hs hw hd.lst.2 rfl
 | tup l =>
  obtain rfl := zU hx (fun _ z => nomatch z)
  refine ⟨_, rfl, _, v7, ?_⟩
  walk_at "ra"
  exact key l rfl hw hd.tup.2 (by rw [wG, xS])
abbrev vR : Stmt := top 16
theorem wz : zA ["_law_box_here", "_law_order_here", "_law_some", "_law_at", "_law_odd", "_law_made"] ["_law_box_here", "_law_order_here"] (zk vR) := ⟨rfl, rfl, rfl, by decide +kernel, rfl, by decide +kernel, by decide +kernel⟩
def OkD (d : Dat) : Prop := qA 5 d /\ Sh 10000 d /\ Yd d < 64
def OkE (d : Dat) : Prop := qA 2 d /\ Sh 60 d
theorem JL : ∀ d ∈ [Dat.non, Dat.bl true, Dat.bl false, Dat.int 0, Dat.int 7, Dat.str (Str.ofString ""), Dat.str (Str.ofString "01"), Dat.tup [], Dat.lst [], Dat.lst [Dat.bl true],
  Dat.lst [Dat.int 1, Dat.int 0, Dat.bl true], Dat.lst [Dat.non], Dat.int 3, Dat.lst [Dat.lst []], Dat.lst [Dat.str (Str.ofString "0")], Dat.lst [Dat.bl false]], OkD d := by
 have h : ∀ d ∈ [Dat.non, Dat.bl true, Dat.bl false, Dat.int 0, Dat.int 7, Dat.str (Str.ofString ""), Dat.str (Str.ofString "01"), Dat.tup [], Dat.lst [], Dat.lst [Dat.bl true],
  Dat.lst [Dat.int 1, Dat.int 0, Dat.bl true], Dat.lst [Dat.non], Dat.int 3, Dat.lst [Dat.lst []], Dat.lst [Dat.str (Str.ofString "0")], Dat.lst [Dat.bl false]], ((dp d <= 5 /\ wdt d <= 100000) /\ ((pdD d).showable = true /\ (pdD d).shown.length <= 10000) /\ Yd d < 64) := by decide +kernel
 exact fun d hd => ⟨⟨(h d hd).1.1, (h d hd).1.2⟩, ⟨(h d hd).2.1.1, (h d hd).2.1.2⟩, (h d hd).2.2⟩
def Xs : ASp := fun xs M Q => ∃ (b : Addr) (os : List Int) (n N : Nat), xs = [.ref b, .d (ilD os)] /\ BxM M b N /\ N < 100000 /\ IsOrd n os /\ n <= 60 /\ ∀ d M', BxS M M' b (N + 4) -> OkD d -> Q (.d d) M'
theorem kA (ns : List Int) : dp (ilD ns) <= 40 := by
 have : ∀ ns : List Int, dps (ns.map .int) <= 0 := fun ns => yk fun d hd => by obtain ⟨i, _, rfl⟩ := List.mem_map.mp hd; simp [dp]
 rw [dp]; have := this ns; omega
theorem jO {l : List Dat} (h1 : l.length <= 61) (h : ∀ d ∈ l, OkE d) : OkD (.lst l) /\ OkD (.tup l) :=
  ⟨⟨(xb (by omega) fun d hd => (h d hd).1).mono (by omega), (Ju h1 fun d hd => (h d hd).2).mono (by omega), by show l.length < 64; omega⟩,
   ⟨(yA (by omega) fun d hd => (h d hd).1).mono (by omega), (Z8 h1 fun d hd => (h d hd).2).mono (by omega), by show l.length < 64; omega⟩⟩
theorem jW {i : Int} (h : i.natAbs < 10 ^ 20) : OkE (.int i) := ⟨jR _ _, (v0 h).mono (by omega)⟩
theorem XY {i : Int} (h0 : 0 <= i) (h1 : i < 1000) : i.natAbs.log2 < 1920 := by
 by_cases z : i.natAbs = 0
 ·rw [z]; decide
 ·exact (Nat.log2_lt z).mpr (Nat.lt_trans (show i.natAbs < 1000 by omega) (by decide +kernel))
theorem Vq {i : Int} (h0 : 0 <= i) (h1 : i < 60) : OkE (.str (Str.ofString (toString i))) := by
 have h : ∀ k : Fin 60, ((pdD (.str (Str.ofString (toString ((k.val : Nat) : Int))))).showable = true /\ (pdD (.str (Str.ofString (toString ((k.val : Nat) : Int))))).shown.length <= 60) := by decide +kernel
 have := h ⟨i.toNat, by omega⟩
 rw [show (((⟨i.toNat, by omega⟩ : Fin 60).val : Nat) : Int) = i by show (i.toNat : Int) = i; omega] at this
 exact ⟨Z3 _ _, this.1, this.2⟩
theorem Ky (a : At K mg "_law_bent" vR) (B : Blt mg) (D_law_take : Df P w K mg base "_law_take" ["_law_box_here", "_law_many"] 2 (cSp Q2)) : Df P w K mg base "_law_bent" ["_law_box_here", "_law_order_here"] 3 (cSp Xs) := by
 refine dfA (k := 2) a wz (fun _ _ _ _ _ _ us hl => match us, hl with | [_, _], _ => rfl) (fun xs M Q h => ?_) (fun f cdv A outer s H E hr => ?_)
 ·obtain ⟨_, _, _, _, rfl, _⟩ := h; rfl
 have sc := wz
 have hsl := hsl
 refine' ⟨_, ?q0, ?qr⟩
 (case q0 =>
  refine' ze ?q1 ?q2
  (case q1 =>
   refine' zB (i := 2) ?q3 ?q4 ?q5 ?q6
   (case q3 => exact sc.nd)
   (case q4 => exact rfl)
   (case q5 => exact (by first | exact Or.inl rfl | exact Or.inr rfl))
   (case q6 =>
    refine' zM ?q7
    (case q7 =>
     refine' za ?q8 ?q9
     (case q8 => exact vM)
     (case q9 =>
      refine' za ?q10 ?q11
      (case q10 => exact qq)
      (case q11 =>
       refine' za ?q12 ?q13
       (case q12 => exact qq)
       (case q13 =>
        refine' za ?q14 ?q15
        (case q14 => exact zc)
        (case q15 =>
         refine' za ?q16 ?q17
         (case q16 => exact zc)
         (case q17 =>
          refine' za ?q18 ?q19
          (case q18 => exact vA)
          (case q19 =>
           refine' za ?q20 ?q21
           (case q20 => exact vA)
           (case q21 =>
            refine' za ?q22 ?q23
            (case q22 => exact (xh zb))
            (case q23 =>
             refine' za ?q24 ?q25
             (case q24 => exact (zM zb))
             (case q25 =>
              refine' za ?q26 ?q27
              (case q26 => exact (zM (za qq zb)))
              (case q27 =>
               refine' za ?q28 ?q29
               (case q28 => exact (zM (za zc (za zc (za qq zb)))))
               (case q29 =>
                refine' za ?q30 ?q31
                (case q30 => exact (zM (za vM zb)))
                (case q31 =>
                 refine' za ?q32 ?q33
                 (case q32 => exact zc)
                 (case q33 =>
                  refine' za ?q34 ?q35
                  (case q34 => exact (zM (za (zM zb) zb)))
                  (case q35 =>
                   refine' za ?q36 ?q37
                   (case q36 => exact (zM (za vA zb)))
                   (case q37 =>
                    refine' za ?q38 ?q39
                    (case q38 => exact (zM (za qq zb)))
                    (case q39 => exact zb)))))))))))))))))))
  (case q2 =>
   refine' ze ?q40 ?q41
   (case q40 => exact (qm (PW.pt (kh (zH (kO hr.units) (pv 1) (zM zb) (zG _)) (kc (zH (kO hr.units) (zx D_law_take hr rfl (za (pv 0) (za zc zb))) zc (zG _))))) (zj (zu (zR jL (pv 2) (zx D_law_take hr rfl (za (pv 0) (za zc zb))) (fun _ _ => rfl)))) zO))
   (case q41 =>
    refine' ze ?q42 ?q43
    (case q42 => exact (zB (i := 3) sc.nd rfl (by first | exact Or.inl rfl | exact Or.inr rfl) (zx D_law_take hr rfl (za (pv 0) (za (zm zo rfl B.len zZ (za (pv 1) zb)) zb)))))
    (case q43 =>
     refine' ze ?q44 ?q45
     (case q44 =>
      refine' zB (i := 4) ?q46 ?q47 ?q48 ?q49
      (case q46 => exact sc.nd)
      (case q47 => exact rfl)
      (case q48 => exact (by first | exact Or.inl rfl | exact Or.inr rfl))
      (case q49 =>
       refine' zM ?q50
       (case q50 =>
        refine' za ?q51 ?q52
        (case q51 => exact (zR jL (pv 1) (zi jv (pv 3) zc) (fun _ _ => rfl)))
        (case q52 =>
         refine' za ?q53 ?q54
         (case q53 => exact (zm zo rfl B.len zZ (za (pv 1) zb)))
         (case q54 =>
          refine' za ?q55 ?q56
          (case q55 => exact (Xt QQ zc))
          (case q56 =>
           refine' za ?q57 ?q58
           (case q57 => exact (jC (kO hr.units) (zR jL (pv 1) (pv 3) (fun _ _ => rfl)) zc (zG _)))
           (case q58 =>
            refine' za ?q59 ?q60
            (case q59 => exact (zl yu rfl B.str vY (za (zR jL (pv 1) (pv 3) (fun _ _ => rfl)) zb)))
            (case q60 =>
             refine' za ?q61 ?q62
             (case q61 => exact vM)
             (case q62 =>
              refine' za ?q63 ?q64
              (case q63 => exact (zM (za (zR jL (pv 1) (pv 3) (fun _ _ => rfl)) zb)))
              (case q64 =>
               refine' za ?q65 ?q66
               (case q65 => exact (zi JG zc zc))
               (case q66 =>
                refine' za ?q67 ?q68
                (case q67 => exact (xh (za (zR jL (pv 1) (pv 3) (fun _ _ => rfl)) zb)))
                (case q68 => exact zb))))))))))))
     (case q45 => exact (ze (zB (i := 5) sc.nd rfl (by first | exact Or.inl rfl | exact Or.inr rfl) (zi jg (zi jg (qy qM (pv 1) jh (qD (pv 3))) (zM (za (zR jL (pv 4) (zx D_law_take hr rfl (za (pv 0) (za zc zb))) (fun _ _ => rfl)) zb))) (qy qM (pv 1) (qD (zi zC (pv 3) zc)) jh))) (zj (zu (zR jL (zM (za (pv 5) (za (zl jl rfl B.tuple jN (za (pv 5) zb)) (za (zi jg (qy qM (pv 1) jh (qD (pv 3))) (qy qM (pv 1) (qD (zi zC (pv 3) zc)) jh)) (za (zi jg (pv 1) (zM (za (zm zo rfl B.len zZ (za (pv 1) zb)) zb))) zb))))) (zx D_law_take hr rfl (za (pv 0) (za zc zb))) (fun _ _ => rfl))))))))))
 refine ex2 (by walk_at "sim") ?_
 rintro xs M Q ⟨b, os, n, N, rfl, hb, hN, ho, hn, q⟩
 rw [show qH ["_law_box_here", "_law_order_here", "_law_some", "_law_at", "_law_odd", "_law_made"] [.ref b, .d (ilD os)] = [some (.ref b), some (.d (ilD os)), none, none, none, none] from rfl]
 refine zD fun r hr0 => ?_
 walk_at "ra"
 refine ⟨by omega, by omega, by omega, by omega, by omega, by omega, by omega, ?_⟩
 subst hr0
 refine zD fun r hr0 => ?_
 walk_at "ra"
 have lit : ∀ {M1 : MH} {N1 : Nat}, SB M M1 b N1 -> N1 + 1 <= N + 4 -> Q2 [AV.ref b, AV.d (Dat.int 16)] M1 fun y M2 => ∃ x, y = AV.d (Dat.int x) /\ ∃ x_1, atI (List.map AV.d [Dat.non, Dat.bl true, Dat.bl false, Dat.int 0, Dat.int 7, Dat.str (Str.ofString ""), Dat.str (Str.ofString "01"), Dat.tup [], Dat.lst [], Dat.lst [Dat.bl true],
  Dat.lst [Dat.int 1, Dat.int 0, Dat.bl true], Dat.lst [Dat.non], Dat.int 3, Dat.lst [Dat.lst []], Dat.lst [Dat.str (Str.ofString "0")], Dat.lst [Dat.bl false]]) x = some x_1 /\ rtA M Q x_1 M2 := by
  intro M1 N1 s1 hN1
  refine ⟨b, 16, N1, rfl, s1.bx, by omega, by omega, by omega, fun r M2 s2 r0 r1 => ⟨r, rfl, ?_⟩⟩
  obtain ⟨d, hd, e⟩ := KF (l := [Dat.non, Dat.bl true, Dat.bl false, Dat.int 0, Dat.int 7, Dat.str (Str.ofString ""), Dat.str (Str.ofString "01"), Dat.tup [], Dat.lst [], Dat.lst [Dat.bl true],
   Dat.lst [Dat.int 1, Dat.int 0, Dat.bl true], Dat.lst [Dat.non], Dat.int 3, Dat.lst [Dat.lst []], Dat.lst [Dat.str (Str.ofString "0")], Dat.lst [Dat.bl false]]) r0 r1
  exact ⟨_, e, ((s1.go s2).mono (by omega)).rt fun M' t => q d M' t (JL d hd)⟩
 refine ⟨kA _, kA [], ?_⟩
 rw [show Dat.lst [] = ilD [] from rfl, kH]
 by_cases c0 : os = []
 ·rw [if_pos (by simp [c0])]
  exact lit (SB.refl hb) (by omega)
 rw [if_neg (by simp [c0])]
 have hn0 : 1 <= n := by
  rw [<- ho.1]
  cases os with
  | nil => exact absurd rfl c0
  | cons a r => simp
 refine ⟨b, 4, N, rfl, hb, by omega, by omega, by omega, fun c1 M1 s1 c10 c11 => ⟨_, rfl, by rw [j8]; omega, ?_⟩⟩
 rw [Z6]
 have s1 := (SB.refl hb).go s1
 by_cases c2 : c1 = 0
 ·rw [if_pos (decide_eq_true c2)]
  exact lit s1 (by omega)
 rw [if_neg (by simp [c2])]
 subst hr0
 refine zD fun r hr0 => ?_
 walk_at "ra"
 refine ⟨b, _, _, rfl, s1.bx, by omega, by rw [ho.1]; omega, by rw [ho.1]; omega, fun c3 M2 s2 c30 c31 => ?_⟩
 have s2 := s1.go s2
 rw [ho.1] at c31
 clear lit
 subst hr0
 refine zD fun r hr0 => ?_
 walk_at "ra"
 obtain ⟨v1, m1, e1⟩ := K7 (ns := os) (i := c3 - 1) (by rw [ho.1]; omega) (by rw [ho.1]; omega)
 obtain ⟨v2, m2, e2⟩ := K7 (ns := os) (i := c3) (by rw [ho.1]; omega) (by rw [ho.1]; omega)
 have b1 := ho.2.2 v1 m1
 have b2 := ho.2.2 v2 m2
 have okv : ∀ v ∈ os, OkE (.int v) := fun v hv => jW (by have := ho.2.2 v hv; omega)
 refine ⟨_, e1, _, e2, _, rfl, by rw [j8]; omega, _, e2, _, rfl, XY b2.1 (by omega), _, e2, by omega, _, rfl, ⟨by decide, by decide, by decide⟩, _, e2, by omega, _, rfl, by omega, _, rfl, ?_⟩
 generalize hL : [Dat.int v1, Dat.int ↑os.length, Dat.int (-1), Dat.bl (eqD (Dat.int v2) (Dat.int 1)), Dat.str (Str.ofString (toString v2)), Dat.non, Dat.lst [Dat.int v2], Dat.int (10 ^ Int.toNat 18), Dat.tup [Dat.int v2]] = L
 have lL : L.length = 9 := by rw [<- hL]; rfl
 have okL : ∀ d ∈ L, OkE d := by
  rw [<- hL]
  intro d hd
  simp only [List.mem_cons, List.not_mem_nil, or_false] at hd
  rcases hd with rfl | rfl | rfl | rfl | rfl | rfl | rfl | rfl | rfl
  ·exact okv v1 m1
  ·exact jW (by rw [ho.1]; omega)
  ·exact jW (by decide)
  ·exact ⟨KZ _ _, by cases eqD (Dat.int v2) (Dat.int 1) <;> exact ⟨by decide +kernel, by decide +kernel⟩⟩
  ·exact Vq b2.1 (by omega)
  ·exact ⟨QV _, by decide +kernel, by decide +kernel⟩
  ·exact ⟨xb (n := 1) (by simp) fun d hd => by rw [List.mem_singleton.mp hd]; exact jR _ _, (Ju (n := 1) (b := 22) (by simp) fun d hd => by rw [List.mem_singleton.mp hd]; exact v0 (by omega)).mono (by omega)⟩
  ·exact jW (by decide)
  ·exact ⟨yA (n := 1) (by simp) fun d hd => by rw [List.mem_singleton.mp hd]; exact jR _ _, (Z8 (n := 1) (b := 22) (by simp) fun d hd => by rw [List.mem_singleton.mp hd]; exact v0 (by omega)).mono (by omega)⟩
 clear hL
 subst hr0
 refine zD fun r hr0 => ?_
 walk_at "ra"
 obtain ⟨k, rfl⟩ : ∃ k : Nat, c3 = k := ⟨c3.toNat, by omega⟩
 have l1 : ((os.take k).map Dat.int).length = k := by rw [List.length_map, List.length_take, ho.1]; omega
 have l2 : ((os.drop (k + 1)).map Dat.int).length = n - (k + 1) := by rw [List.length_map, List.length_drop, ho.1]
 refine ⟨_, wA os k, b, 9, _, rfl, s2.bx, by omega, by omega, by omega, fun c4 M3 s3 c40 c41 => ⟨c4, rfl, ?_⟩⟩
 have s3 := s2.go s3
 obtain ⟨d, hd, e⟩ := KF (l := L) c40 (by rw [lL]; exact c41)
 refine ⟨_, e, by omega, _, rfl, by rw [l1]; simp; omega, _, kx _ _, _, xt os (k + 1), ?_, _, kx _ _, ?_⟩
 ·rw [List.length_append, l1, l2]; simp; omega
 have e1' : ∀ d ∈ (os.take k).map Dat.int, OkE d := fun d hd => by obtain ⟨v, hv, rfl⟩ := List.mem_map.mp hd; exact okv v (List.mem_of_mem_take hv)
 have e2' : ∀ d ∈ (os.drop (k + 1)).map Dat.int, OkE d := fun d hd => by obtain ⟨v, hv, rfl⟩ := List.mem_map.mp hd; exact okv v (List.mem_of_mem_drop hv)
 have hm := jO (l := (os.take k).map Dat.int ++ [d] ++ (os.drop (k + 1)).map Dat.int) (by rw [List.length_append, List.length_append, l1, l2]; simp; omega) fun x hx => by
  rcases List.mem_append.mp hx with hx | hx
  ·rcases List.mem_append.mp hx with hx | hx
   ·exact e1' x hx
   ·rw [List.mem_singleton.mp hx]; exact okL d hd
  ·exact e2' x hx
 generalize (os.take k).map Dat.int ++ [d] ++ (os.drop (k + 1)).map Dat.int = md at hm ⊢
 subst hr0
 walk_at "ra"
 refine ⟨_, wA os k, _, xt os (k + 1), by rw [l1, l2]; omega, _, kx _ _, by omega, by rw [ho.1]; omega, os.map .int ++ [.int (os.length : Nat)], ?_, by omega, b, 4, _, rfl, s3.bx, by omega, by omega, by omega, fun c5 M4 s4 c50 c51 => ⟨c5, rfl, ?_⟩⟩
 ·have := kx (os.map .int) [.int (os.length : Nat)]
  rw [xr] at this
  exact this
 have s4 := s3.go s4
 obtain ⟨d', hd', e'⟩ := KF (l := [Dat.lst md, Dat.tup md, Dat.lst ((os.take k).map Dat.int ++ (os.drop (k + 1)).map Dat.int), Dat.lst (os.map .int ++ [.int (os.length : Nat)])]) c50 c51
 refine ⟨_, e', (s4.mono (by omega)).rt fun M' t => q d' M' t ?_⟩
 simp only [List.mem_cons, List.not_mem_nil, or_false] at hd'
 rcases hd' with rfl | rfl | rfl | rfl
 ·exact hm.1
 ·exact hm.2
 ·refine (jO (by rw [List.length_append, l1, l2]; omega) fun x hx => ?_).1
  rcases List.mem_append.mp hx with hx | hx
  ·exact e1' x hx
  ·exact e2' x hx
 ·refine (jO (by rw [List.length_append, List.length_map, ho.1]; simp; omega) fun x hx => ?_).1
  rcases List.mem_append.mp hx with hx | hx
  ·obtain ⟨v, hv, rfl⟩ := List.mem_map.mp hx; exact okv v hv
  ·rw [List.mem_singleton.mp hx]; exact jW (by rw [ho.1]; omega)
abbrev Qo : Stmt := top 17
theorem QF : zA ["_law_script", "_law_cells", "_law_k", "_law_box_here", "_law_order_here", "_law_thing", "_law_still", "_law_kept", "_law_found", "_law_turn"] ["_law_script"] (zk Qo) := ⟨rfl, rfl, rfl, by decide +kernel, rfl, by decide +kernel, by decide +kernel⟩
def wr (K : PySem.W.Frag) : Sp := fun vs H Q _ => ∃ (a : Addr) (ns : List Int), vs = [.ref a] /\ SqL K H a (ns.map V.int) /\ ns.length <= 63 /\ ∀ H', Q (.bl true) H'
def VL (K : PySem.W.Frag) : ASp := fun xs M Q => ∃ ns : List Int, xs = [.d (.scr K ns)] /\ ns.length <= 63 /\ Q (.d (.bl true)) M
theorem sp_law (vs : List V) (H : Hp) (Q : VK) (E : XK) (h : wr K vs H Q E) : cSp (VL K) vs H Q E := by
 obtain ⟨a, ns, rfl, ha, hn, q⟩ := h
 refine ⟨[.d (.scr K ns)], fun _ => none, fun _ => False, fun x _ => x = .d (.bl true), ⟨(fun a o e => nomatch e), (fun a h => h rfl), fun a h => h.elim⟩, .cons (J2 (fun _ z => z) ha) .nil, ⟨ns, rfl, hn, rfl⟩, fun x M' v H' O' hx _ _ r => ?_⟩
 subst hx
 rw [kF r]
 exact q H'
theorem XQ (a : At K mg "law" Qo) (B : Blt mg) (D_law_box : Df P w K mg base "_law_box" ["_law_script", "_law_k"] 19 (cSp VQ)) (D_law_folded : Df P w K mg base "_law_folded" ["_law_script", "_law_many"] 19 (cSp (wm K))) (D_law_length : Df P w K mg base "_law_length" ["_law_box_here", "_law_most"] 19 (cSp wu)) (D_law_order : Df P w K mg base "_law_order" ["_law_box_here", "_law_n"] 19 (cSp Qy))
  (D_law_bent : Df P w K mg base "_law_bent" ["_law_box_here", "_law_order_here"] 19 (cSp Xs)) (D_is_order : Df P w K mg base "is_order" ["thing"] 19 (cSp yO)) (D_law_due : Df P w K mg base "_law_due" ["_law_thing"] 19 (cSp VN))
  (D_staying : Df P w K mg base "staying" ["n"] 19 (cSp yM)) (D_staying_o : Df P w K mg base "staying" ["n"] 19 (cSp j7)) (D_off : Df P w K mg base "off" ["order"] 19 (cSp Xk)) :
  Df P w K mg base "law" ["_law_script"] 20 (cSp (VL K)) := by
 refine dfA (k := 19) a QF (fun _ _ _ _ _ _ us hl => match us, hl with | [_], _ => rfl) (fun xs M Q h => ?_) (fun f cdv A outer s H E hr => ?_)
 ·obtain ⟨_, rfl, _⟩ := h; rfl
 have sc := QF
 have hsl := hsl
 refine ⟨_, (ze (zB (i := 1) sc.nd rfl (by first | exact Or.inl rfl | exact Or.inr rfl) (zx D_law_folded hr rfl (za (pv 0) (za zc zb))))
  (ze (qZ PassesOwn.never rfl (qh rfl B.range (za (zi zC (zm (Za rfl) rfl B.min Yj (za zc (za (KW (zm zo rfl B.len zZ (za (pv 0) zb))) zb))) zc) zb)) (zE (i := 2) sc.nd rfl (by first | exact Or.inl rfl | exact Or.inr rfl)) (ze (zB (i := 3) sc.nd rfl (by first | exact Or.inl rfl | exact Or.inr rfl) (zx D_law_box hr rfl (za (pv 1) (za (pv 2) zb))))
  (ze (zB (i := 4) sc.nd rfl (by first | exact Or.inl rfl | exact Or.inr rfl) (zx D_law_order hr rfl (za (pv 3) (za (zx D_law_length hr rfl (za (pv 3) (za zc zb))) zb))))
  (ze (qZ PassesOwn.never rfl (Q0 (zi jg (zM (za (pv 4) (za (zl jl rfl B.tuple jN (za (pv 4) zb)) zb))) (jA (ts := [9]) rfl rfl (qh rfl B.range (za zc zb)) (fun _ _ _ _ => (zE (i := 9) sc.nd rfl (by first | exact Or.inl rfl | exact Or.inr rfl))) (fun _ _ _ _ => ky) (fun _ _ _ _ => (zx D_law_bent hr rfl (za (pv 3) (za (pv 4) zb))))))) (zE (i := 5) sc.nd rfl (by first | exact Or.inl rfl | exact Or.inr rfl)) (ze (zB (i := 7) sc.nd rfl (by first | exact Or.inl rfl | exact Or.inr rfl) (zl (xN hr.gd hr.units) rfl B.str vY (za (pv 5) zb)))
  (ze (zB (i := 8) sc.nd rfl (by first | exact Or.inl rfl | exact Or.inr rfl) (zx D_is_order hr rfl (za (pv 5) zb)))
  (zj (qm (PW.pt (kh (jy (qI (zm jc rfl B.isinstance zI (za (pv 8) (za (qk (v := .ty "bool") rfl B.bool ye rfl) zb))) (fun _ => rfl))) (kh (zH (j9 hr.units) (pv 8) (zx D_law_due hr rfl (za (pv 5) zb)) (zG _)) (kc (zH (j9 hr.units) (zl (xN hr.gd hr.units) rfl B.str vY (za (pv 5) zb)) (pv 7) (zG _)))))) (zj (zu qq)) zO)))))
  (ze (zB (i := 6) sc.nd rfl (by first | exact Or.inl rfl | exact Or.inr rfl) (zx D_staying_o hr rfl (za (zm zo rfl B.len zZ (za (pv 4) zb)) zb)))
  (ze (qm (PW.pt (kh (jy (qI (zm jc rfl B.isinstance zI (za (pv 6) (za (qk (v := .ty "list") rfl B.list zV rfl) zb))) (fun _ => rfl))) (kh (zH (j9 hr.units) (pv 6) (zl (zy rfl) rfl B.list zV (za (zl zS rfl B.range qf (za (zm zo rfl B.len zZ (za (pv 4) zb)) zb)) zb)) (zG _)) (kc (zH (j9 hr.units) (zx D_off hr rfl (za (pv 6) zb)) zc (zG _)))))) (zj (zu qq)) zO)
  (ze (wq (Xc PySem.F.plainAttrs_list PySem.F.slot_list_append PySem.F.type_list_append wJ (pv 6) (za zc zb)))
  (zj (qm (zH (j9 hr.units) (zx D_staying hr rfl (za (zm zo rfl B.len zZ (za (pv 4) zb)) zb)) (zl (zy rfl) rfl B.list zV (za (zl zS rfl B.range qf (za (zm zo rfl B.len zZ (za (pv 4) zb)) zb)) zb)) (zG _)) (zj (zu qq)) zO)))))))))
  (zj (zu qq)))), ?_⟩
 refine ex2 (by walk_at "sim") ?_
 rintro xs M Q ⟨ns, rfl, hn, q⟩
 rw [show qH ["_law_script", "_law_cells", "_law_k", "_law_box_here", "_law_order_here", "_law_thing", "_law_still", "_law_kept", "_law_found", "_law_turn"] [.d (.scr K ns)] = [some (.d (.scr K ns)), none, none, none, none, none, none, none, none, none] from rfl]
 refine zD fun r hr0 => ?_
 walk_at "ra"
 refine ⟨8, ns, rfl, by omega, by omega, hn, fun cs lc => ?_⟩
 subst hr0
 refine zD fun r hr0 => ?_
 walk_at "ra"
 refine ⟨ns, rfl, by split <;> omega, by split <;> omega, ?_⟩
 refine ⟨fun i ρ M' => (∃ x2 x3 x4 x5 x6 x7 x8 x9, ρ = [some (.d (.scr K ns)), some (.d (ilD cs)), x2, x3, x4, x5, x6, x7, x8, x9]) /\ Fr M M', ⟨⟨_, _, _, _, _, _, _, _, rfl⟩, Fr.refl⟩, ?_, ?_⟩
 ·rintro i y ρ M1 hy ⟨⟨x2, x3, x4, x5, x6, x7, x8, x9, rfl⟩, f1⟩
  obtain ⟨hi, rfl⟩ := kU hy
  have hi' : (i : Int) <= 100 := by
   have : (i : Int) < (if (ns.length : Int) < 8 then (ns.length : Int) else 8) + 1 := by omega
   split at this <;> omega
  refine ⟨trivial, ?_⟩
  rw [Int.zero_add, Int.mul_one]
  show Zj _ _ _ _ _ _
  refine zD fun r2 hr2 => ?_
  walk_at "ra"
  refine ⟨_, i, cs, rfl, Ki _ _, by omega, by omega, by omega, fun b o hb bx => ?_⟩
  have b0 := f1.non hb
  have f2 := f1.mup b0 o
  have sb := SB.refl bx
  generalize mup M1 b o = M2 at *
  subst hr2
  refine zD fun r2 hr2 => ?_
  walk_at "ra"
  refine ⟨b, 60, 0, rfl, sb.bx, by omega, by omega, by omega, fun n M3 s3 n0 n1 => ?_⟩
  have sb := sb.go s3
  obtain ⟨n, rfl⟩ : ∃ k : Nat, n = k := ⟨n.toNat, by omega⟩
  refine ⟨b, n, _, rfl, sb.bx, by omega, by omega, fun os M4 s4 ho => ?_⟩
  have sb := sb.go s4
  have h1 := ho.1
  subst hr2
  refine zD fun r2 hr2 => ?_
  walk_at "ra"
  refine ⟨by omega, by omega, by omega, ?_⟩
  refine ⟨fun j acc ρ M' => ∃ ds x9', acc = ds.map .d /\ ds.length = j /\ (∀ d ∈ ds, OkD d) /\ ρ = [some (.d (.scr K ns)), some (.d (ilD cs)), some (.d (.int i)), some (.ref b), some (.d (ilD os)), x5, x6, x7, x8, x9'] /\ SB M2 M' b (5000 + 4 * j), ⟨[], none, rfl, rfl, (fun d hd => nomatch hd), rfl, sb.mono (by omega)⟩, ?_, ?_⟩
  ·rintro j y acc ρ M' hy ⟨ds, x9', rfl, lds, hds, rfl, sb⟩
   obtain ⟨hj, rfl⟩ := kU hy
   refine ⟨trivial, ?_⟩
   walk_at "ra"
   refine ⟨b, os, n, _, rfl, sb.bx, by omega, ho, by omega, fun d M5 s5 hd => ⟨by omega, ds ++ [d], by rw [List.map_append]; rfl, by rw [List.length_append, lds]; rfl, fun x hx => ?_, (sb.go s5).mono (by omega)⟩⟩
   rcases List.mem_append.mp hx with hx | hx
   ·exact hds x hx
   ·rw [List.mem_singleton.mp hx]; exact hd
  rintro acc ρ M' ⟨ds, x9', rfl, lds, hds, rfl, sb⟩
  rw [xl] at lds sb
  refine ⟨trivial, ds, qu _, by omega, ?_⟩
  have hos : ∀ d ∈ os.map Dat.int, OkE d := fun d hd => by obtain ⟨v, hv, rfl⟩ := List.mem_map.mp hd; exact jW (by have := ho.2.2 v hv; omega)
  have hall : ∀ d ∈ Dat.lst (os.map .int) :: Dat.tup (os.map .int) :: ds, OkD d := fun d hd => by
   rcases List.mem_cons.mp hd with rfl | hd
   ·exact (jO (by rw [List.length_map]; omega) hos).1
   rcases List.mem_cons.mp hd with rfl | hd
   ·exact (jO (by rw [List.length_map]; omega) hos).2
   ·exact hds d hd
  have eL : AV.d (Dat.lst (os.map .int)) :: AV.d (Dat.tup (os.map .int)) :: ds.map AV.d = (Dat.lst (os.map .int) :: Dat.tup (os.map .int) :: ds).map AV.d := rfl
  rw [eL]
  generalize Dat.lst (os.map .int) :: Dat.tup (os.map .int) :: ds = things at *
  refine ⟨fun j ρ M'' => M' = M'' /\ ∃ x5 x7 x8, ρ = [some (.d (.scr K ns)), some (.d (ilD cs)), some (.d (.int i)), some (.ref b), some (.d (ilD os)), x5, x6, x7, x8, x9], ⟨rfl, _, _, _, rfl⟩, ?_, ?_⟩
  ·rintro j y ρ M'' hy ⟨rfl, x5, x7, x8, rfl⟩
   rw [List.getElem?_map] at hy
   cases e : things[j]? with
   | none => rw [e] at hy; cases hy
   | some d =>
    rw [e] at hy
    cases hy
    obtain ⟨hf, hsh, hlen⟩ := hall d (List.mem_of_getElem? e)
    have hd5 := hf.1
    refine ⟨trivial, ?_⟩
    refine zD fun r3 hr3 => ?_
    walk_at "ra"
    refine ⟨by omega, hsh.s, Nat.le_trans hsh.l (by omega), ?_⟩
    subst hr3
    refine zD fun r3 hr3 => ?_
    walk_at "ra"
    refine ⟨_, d, rfl, rfl, hf.mono (by omega), ?_⟩
    subst hr3
    walk_at "ra"
    refine ⟨_, d, rfl, rfl, hf.mono (by omega), hlen, ?_⟩
    refine ⟨_, rfl, by rw [Qg]; omega, ?_⟩
    rw [kS (by rw [Qg]; omega), if_neg (by decide)]
    exact ⟨by omega, hsh.s, Nat.le_trans hsh.l (by omega), rfl, _, rfl⟩
  rintro ρ M'' ⟨rfl, x5', x7', x8', rfl⟩
  refine ⟨trivial, ?_⟩
  clear hall
  subst hr2
  dsimp only
  refine zD fun r2 hr2 => ?_
  walk_at "ra"
  refine ⟨n, by rw [h1], by omega, fun p hp => ?_⟩
  obtain ⟨p0, hpb⟩ := sb.new hp
  have sb := sb.put p0 hpb (.lst ((zw 0 1 n).map fun i => .d (.int i)))
  have hp' := zt (M := M') (a := p) (o := .lst ((zw 0 1 n).map fun i => .d (.int i)))
  generalize mup M' p (.lst ((zw 0 1 n).map fun i => .d (.int i))) = M5 at *
  have sq : qw (.ref p) M5 = _ := kW hp'
  have dt : jn (.ref p) M5 = some (ilD (zw 0 1 n)) := QH hp' (ql _)
  have ty : tyA (.ref p) M5 = some "list" := by unfold tyA; dsimp only; rw [hp']
  have sm : Builtin.Range.small 0 (os.length : Nat) 1 = true := small_one (by omega) (by omega) (by omega) (by omega)
  have rs : Builtin.Range.rangeSize 0 (os.length : Nat) 1 = ((n : Nat) : Int) := by rw [rangeSize_one]; split <;> omega
  have e0 : eqD (ilD (zw 0 1 n)) (ilD (zw 0 1 n)) = true := by rw [kH]; simp
  have d0 := kA (zw 0 1 n)
  subst hr2
  refine zD fun r2 hr2 => ?_
  walk_at "ra"
  refine ⟨_, ty, _, QA, ?_⟩
  rw [if_neg (by decide)]
  refine ⟨0, _, 1, rfl, sm, n, rs, by omega, _, dt, d0, d0, ?_⟩
  rw [e0, if_neg (by decide)]
  refine ⟨_, n, rfl, sq, by omega, _, rfl, by rw [j8]; omega, ?_⟩
  rw [kS (by rw [j8]; omega), if_neg (by decide)]
  subst hr2
  refine zD fun r2 hr2 => ?_
  walk_at "ra"
  refine ⟨⟨_, xf hp'⟩, _, hp', by rw [List.length_map, zp]; omega, ?_⟩
  have sb := sb.put p0 hpb (.lst ((zw 0 1 n).map (fun i => AV.d (.int i)) ++ [AV.d (.int 0)]))
  generalize mup M5 p (.lst ((zw 0 1 n).map (fun i => AV.d (.int i)) ++ [AV.d (.int 0)])) = M6 at *
  subst hr2
  walk_at "ra"
  refine ⟨n, by rw [h1], by omega, 0, _, 1, rfl, sm, n, rs, by omega, _, rfl, d0, d0, ?_⟩
  rw [e0, if_neg (by decide)]
  exact ⟨⟨_, rfl⟩, SB.frm f2 b0 sb⟩
 ·rintro ρ M' ⟨⟨x2, x3, x4, x5, x6, x7, x8, x9, rfl⟩, f1⟩
  refine ⟨trivial, ?_⟩
  subst hr0
  walk_at "ra"
  exact Wp f1 q
end
theorem all_mk {l : PySem.W.OpenLaw} {w : World} {K : PySem.W.Frag} {h : Heap} {mg : Str -> Option Value} {fa : Addr} (X : K.In h) (G : h.Ns mainGlobals mg) (hfa : mg "law" = some (.ref fa)) (a : At K mg "law" Qo) (B : Blt mg)
  (a__law_take : At K mg "_law_take" vZ) (a__law_box : At K mg "_law_box" QY) (a__law_folded : At K mg "_law_folded" kJ) (a__law_length : At K mg "_law_length" kI) (a__law_shuffled : At K mg "_law_shuffled" jw) (a__law_ringed : At K mg "_law_ringed" xa) (a__law_exchanged : At K mg "_law_exchanged" qW) (a__law_table : At K mg "_law_table" yh) (a__law_order : At K mg "_law_order" xZ) (a__law_bent : At K mg "_law_bent" vR) (a__law_due : At K mg "_law_due" JF) (a_is_place : At K mg "is_place" jq) (a_is_order : At K mg "is_order" jX) (a_staying : At K mg "staying" jY) (a_off : At K mg "off" Je)
  : ∃ fd : FuncData, (∀ (s : Shared) (v : Value), BindsTo s fd ⟨[v], []⟩ [("_law_script", v)]) /\ ∀ base : Heap, K.In base -> base.Ns mainGlobals mg -> jj l.prog w K mg base CX0 20 fa fd ["_law_script"] (wr K) := by
 obtain ⟨f, fd, F, m⟩ := id a
 obtain rfl : fa = f := by rw [hfa] at m; cases m; rfl
 obtain ⟨oc, od, kV, doc, pm, an, cdv, ct, osl, e, lk, hcd⟩ := F.ex
 refine ⟨fd, fun s v => ?_, fun base _ _ => ?_⟩
 ·subst e; exact .of_eq rfl
 ·have T := J4 (P := l.prog) (w := w) (base := base) a__law_take B
  have sh := vk (P := l.prog) (w := w) (base := base) a__law_shuffled B T
  have od := QX (P := l.prog) (w := w) (base := base) a__law_order B (T.mono (by decide)) (sh.mono (by decide)) (Zt a__law_ringed B (T.mono (by decide)) sh) (yl a__law_exchanged B (T.mono (by decide)) sh) ((QU a__law_table B).mono (by decide))
  have st := yZ (P := l.prog) (w := w) (base := base) a_staying B
  have L := XQ (P := l.prog) (w := w) (base := base) a B (((YA a__law_box B).imp' XR).mono (by decide)) (((ZI a__law_folded B).imp' ZK).mono (by decide)) (((Zo a__law_length B T).imp' Zl).mono (by decide)) ((od.imp' QK).mono (by decide)) ((Ky a__law_bent B ((T.imp' KB).mono (by decide))).mono (by decide)) ((y6 a_is_order B (yQ a_is_place B)).mono (by decide)) ((Vi a__law_due B).mono (by decide)) ((st.imp' vN).mono (by decide)) (st.mono (by decide)) ((KY a_off B).mono (by decide))
  exact (L.imp' (sp_law (K := K))).fn m lk
theorem walk {l : PySem.W.OpenLaw} {q : Program} {loose : List Str} {XP : (Str -> Option Value) -> Heap -> Prop} {YP : World -> Heap -> Prop} {d : DefRec} {K : Params -> PySem.W.Frag} (hn : l.most = some 63) (hdf : d.params.defaults = [])
  (hY : ∀ (w : World) (h : Heap), YP w h -> (K w.params).In h)
  (F : ∀ (w : World) (mg : Str -> Option Value) (fa : Addr) (h : Heap), (K w.params).In h -> h.Ns mainGlobals mg -> mg d.name = some (.ref fa) ->
   ∃ fd : FuncData, (∀ (s : Shared) (u : Value), BindsTo s fd ⟨[u], []⟩ [("_law_script", u)]) /\ ∀ base : Heap, (K w.params).In base -> base.Ns mainGlobals mg -> jj l.prog w (K w.params) mg base CX0 20 fa fd ["_law_script"] (wr (K w.params))) :
  PySem.W.WalkO q loose XP YP l.row.toRowW d [] (fun f vs => PySem.call f vs) :=
 L2.walk_of (n := 63) (k := 20) (x := "_law_script") (CX := fun _ => CX0) (sp := fun w => wr (K w.params)) hn (by decide) hdf ⟨rfl, rfl, by decide, by decide⟩ hY F (fun _ _ a ns hl _ hS => ⟨a, ns, rfl, hS, hl, fun _ => rfl⟩) fun _ _ _ _ _ z => z
end Ot
open PySem PySem.W PyProof.Rows
set_option maxRecDepth 100000 in
set_option maxHeartbeats 0 in
theorem PySem.Challenge.cw_ownturn_k01_what_orders_are_holds : PySem.Challenge.rw_ownturn_k01_what_orders_are.Holds := by
 w_on; o_law; k_head; (case hw => w_witness2)
 k_fill
 refine Ot.walk (l := PySem.Challenge.rw_ownturn_k01_what_orders_are) rfl rfl (fun w h Y => PySem.W.kIn_of Y) ?F
 case F =>
  intro w mg fa h KX G hmg
  refine' Ot.all_mk KX G hmg (L2.at_mk KX G ?a0 ?l0 ?c0 ?k0) (L2.blt_mk KX G ?z1 ?z2 ?z3 ?z4 ?z5 ?z6 ?z7 ?z8 ?z9 ?z10 ?z11 ?z12 ?z13 ?z14 ?z15 ?z16) (L2.at_mk KX G ?a1 ?l1 ?c1 ?k1) (L2.at_mk KX G ?a2 ?l2 ?c2 ?k2) (L2.at_mk KX G ?a3 ?l3 ?c3 ?k3) (L2.at_mk KX G ?a4 ?l4 ?c4 ?k4) (L2.at_mk KX G ?a5 ?l5 ?c5 ?k5) (L2.at_mk KX G ?a6 ?l6 ?c6 ?k6) (L2.at_mk KX G ?a7 ?l7 ?c7 ?k7) (L2.at_mk KX G ?a8 ?l8 ?c8 ?k8) (L2.at_mk KX G ?a9 ?l9 ?c9 ?k9) (L2.at_mk KX G ?a10 ?l10 ?c10 ?k10) (L2.at_mk KX G ?a11 ?l11 ?c11 ?k11) (L2.at_mk KX G ?a12 ?l12 ?c12 ?k12) (L2.at_mk KX G ?a13 ?l13 ?c13 ?k13) (L2.at_mk KX G ?a14 ?l14 ?c14 ?k14) (L2.at_mk KX G ?a15 ?l15 ?c15 ?k15)
  (case a0 => k_is); (case l0 => k_is); (case c0 => k_is); (case k0 => k_is)
  (case a1 => k_is); (case l1 => k_is); (case c1 => k_is); (case k1 => k_is)
  (case a2 => k_is); (case l2 => k_is); (case c2 => k_is); (case k2 => k_is)
  (case a3 => k_is); (case l3 => k_is); (case c3 => k_is); (case k3 => k_is)
  (case a4 => k_is); (case l4 => k_is); (case c4 => k_is); (case k4 => k_is)
  (case a5 => k_is); (case l5 => k_is); (case c5 => k_is); (case k5 => k_is)
  (case a6 => k_is); (case l6 => k_is); (case c6 => k_is); (case k6 => k_is)
  (case a7 => k_is); (case l7 => k_is); (case c7 => k_is); (case k7 => k_is)
  (case a8 => k_is); (case l8 => k_is); (case c8 => k_is); (case k8 => k_is)
  (case a9 => k_is); (case l9 => k_is); (case c9 => k_is); (case k9 => k_is)
  (case a10 => k_is); (case l10 => k_is); (case c10 => k_is); (case k10 => k_is)
  (case a11 => k_is); (case l11 => k_is); (case c11 => k_is); (case k11 => k_is)
  (case a12 => k_is); (case l12 => k_is); (case c12 => k_is); (case k12 => k_is)
  (case a13 => k_is); (case l13 => k_is); (case c13 => k_is); (case k13 => k_is)
  (case a14 => k_is); (case l14 => k_is); (case c14 => k_is); (case k14 => k_is)
  (case a15 => k_is); (case l15 => k_is); (case c15 => k_is); (case k15 => k_is)
  (case z1 => k_is)
  (case z2 => k_is)
  (case z3 => k_is)
  (case z4 => k_is)
  (case z5 => k_is)
  (case z6 => k_is)
  (case z7 => k_is)
  (case z8 => k_is)
  (case z9 => k_is)
  (case z10 => k_is)
  (case z11 => k_is)
  (case z12 => k_is)
  (case z13 => k_is)
  (case z14 => k_is)
  (case z15 => k_is)
  (case z16 => k_is)
