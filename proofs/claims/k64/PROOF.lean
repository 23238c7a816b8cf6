import PyProof.Rows.All
import Wide.All
import OpenK.AllK
import Wide.FinOn
import Lean
import PyProof.EqAt
import PyProof.EqKinds
import PyProof.TupleCall
import PySem.Challenge.RW_ownturn_k64_whole_rings_of_known_orders
set_option compiler.extract_closed false
set_option Elab.async false
set_option linter.all false
set_option maxRecDepth 100000
namespace L2
open PySem PySem.Spec PyProof.Rows
noncomputable abbrev Key := Sum Int Str
noncomputable def vy : Key -> Value -> Bool
 | .inl k, v => Value.isInt k v
 | .inr x, v => Value.isStrOf x v
noncomputable def D9 (w : World) : Key -> Int
 | .inl k => hashInt k
 | .inr x => hashStr w x
theorem zS : ∀ {k : Key} {v : Value}, vy k v = true -> (∃ i t, k = Sum.inl i /\ v = Value.int i t) \/ (∃ x t, k = Sum.inr x /\ v = Value.str x t)
 | .inl i, v, h => by
  obtain ⟨t, e⟩ := Value.isInt_shape (k := i) (v := v) h
  exact .inl ⟨i, t, rfl, e⟩
 | .inr x, v, h => by
  obtain ⟨t, e⟩ := Value.isStrOf_shape (x := x) (v := v) h
  exact .inr ⟨x, t, rfl, e⟩
theorem Kq (i : Int) (t : Tok) : vy (.inl i) (.int i t) = true := by simp [vy, Value.isInt]
theorem J2 (x : Str) (t : Tok) : vy (.inr x) (.str x t) = true := by simp [vy, Value.isStrOf]
theorem B5 (a b : Int) : decide ((Sum.inl a : Key) = Sum.inl b) = (a == b) := by
 by_cases e : a = b
 ·subst e; simp
 ·have h : ¬ (Sum.inl a : Key) = Sum.inl b := fun q => e (Sum.inl.inj q)
  rw [decide_eq_false h]
  exact (beq_eq_false_iff_ne.mpr e).symm
theorem A0 (a b : Str) : decide ((Sum.inr a : Key) = Sum.inr b) = decide (a = b) := by
 by_cases e : a = b
 ·subst e; simp
 ·have h : ¬ (Sum.inr a : Key) = Sum.inr b := fun q => e (Sum.inr.inj q)
  rw [decide_eq_false h, decide_eq_false e]
theorem Ad (a : Int) (b : Str) : decide ((Sum.inl a : Key) = Sum.inr b) = false := decide_eq_false (fun q => nomatch q)
theorem Bi (a : Str) (b : Int) : decide ((Sum.inr a : Key) = Sum.inl b) = false := decide_eq_false (fun q => nomatch q)
noncomputable def zX (prog : Program) (w : World) : PySem.KeyKind prog w Key where
 is := vy
 hash := D9 w
 inj := fun v a b ha hb => by
  rcases zS ha with ⟨i, t, rfl, rfl⟩ | ⟨x, t, rfl, rfl⟩
  ·rcases zS hb with ⟨j, u, rfl, e⟩ | ⟨y, u, rfl, e⟩
   ·injection e with e1 _; rw [e1]
   ·exact nomatch e
  ·rcases zS hb with ⟨j, u, rfl, e⟩ | ⟨y, u, rfl, e⟩
   ·exact nomatch e
   ·injection e with e1 _; rw [e1]
 byValue := fun k v h => by
  rcases zS h with ⟨i, t, rfl, rfl⟩ | ⟨x, t, rfl, rfl⟩ <;> rfl
 pyHash := fun hv h => by
  rcases zS hv with ⟨i, t, rfl, rfl⟩ | ⟨x, t, rfl, rfl⟩
  ·exact wpAny_pyHash_int h
  ·exact wpAny_pyHash_str h
 eqBool := fun hu hv h => by
  rcases zS hu with ⟨i, t, rfl, rfl⟩ | ⟨x, t, rfl, rfl⟩
  ·rcases zS hv with ⟨j, u, rfl, rfl⟩ | ⟨y, u, rfl, rfl⟩
   ·rw [B5] at h; exact wpAny_eqBool_int h
   ·rw [Ad] at h; exact SeqAt.EqAt.int_str i t y u _ _ _ _ h
  ·rcases zS hv with ⟨j, u, rfl, rfl⟩ | ⟨y, u, rfl, rfl⟩
   ·rw [Bi] at h; exact SeqAt.EqAt.str_int x t j u _ _ _ _ h
   ·rw [A0] at h; exact wpAny_eqBool_str h
 «strs» := fun k x t v h => by
  rcases zS h with ⟨i, u, rfl, e⟩ | ⟨y, u, rfl, e⟩
  ·exact nomatch e
  ·injection e with e1 _
   subst e1
   cases v <;> rfl
theorem Zi (prog : Program) (w : World) (i : Int) (t : Tok) : (zX prog w).is (.inl i) (.int i t) = true := Kq i t
theorem Zb (prog : Program) (w : World) (x : Str) (t : Tok) : (zX prog w).is (.inr x) (.str x t) = true := J2 x t
end L2
namespace L2
open PySem PySem.Spec PyProof.Rows
inductive V where
 | non | bl (b : Bool) | int (i : Int) | str (x : Str) | byt (b : Array UInt8) | flt (b : UInt64) | ref (a : Addr) | ty (n : String)
 deriving DecidableEq
noncomputable def zC : V -> Value -> Prop
 | .non, u => u = Value.none
 | .bl b, u => u = Value.bool b
 | .int i, u => ∃ t, u = Value.int i t
 | .str x, u => ∃ t, u = Value.str x t
 | .byt b, u => ∃ t, u = Value.bytes b t
 | .flt b, u => ∃ t, u = Value.float b t
 | .ref a, u => u = Value.ref a
 | .ty n, u => u = Value.type n
noncomputable abbrev zD : List V -> List Value -> Prop := Paired zC
theorem zD.length {xs : List V} {us : List Value} (r : zD xs us) : xs.length = us.length := Paired.length r
theorem zD.get : ∀ {xs : List V} {us : List Value} {i : Nat} {x : V}, zD xs us -> xs[i]? = some x -> ∃ u, us[i]? = some u /\ zC x u
 | _, _, _, _, .nil, e => by simp at e
 | _, _, 0, _, .cons r _, e => by simp at e; subst e; exact ⟨_, rfl, r⟩
 | _, _, i + 1, x, .cons _ t, e => by
  obtain ⟨u, h1, h2⟩ := zD.get (i := i) (x := x) t (by simpa using e)
  exact ⟨u, by simpa using h1, h2⟩
theorem zD.set {x : V} {u : Value} (r : zC x u) : ∀ {xs : List V} {us : List Value} (i : Nat), zD xs us -> zD (xs.set i x) (us.set i u)
 | _, _, _, .nil => .nil
 | _, _, 0, .cons _ t => .cons r t
 | _, _, i + 1, .cons q t => .cons q (zD.set r i t)
theorem zD.append : ∀ {xs ys : List V} {us ws : List Value}, zD xs us -> zD ys ws -> zD (xs ++ ys) (us ++ ws)
 | _, _, _, _, .nil, s => s
 | _, _, _, _, .cons r t, s => .cons r (zD.append t s)
theorem zD.take : ∀ {xs : List V} {us : List Value} (n : Nat), zD xs us -> zD (xs.take n) (us.take n)
 | _, _, 0, _ => .nil
 | _, _, _ + 1, .nil => .nil
 | _, _, n + 1, .cons r t => .cons r (zD.take n t)
theorem zD.drop : ∀ {xs : List V} {us : List Value} (n : Nat), zD xs us -> zD (xs.drop n) (us.drop n)
 | _, _, 0, r => r
 | _, _, _ + 1, .nil => .nil
 | _, _, n + 1, .cons _ t => zD.drop n t
noncomputable def ZN : Option V -> Option Value -> Prop
 | some v, some u => zC v u
 | none, none => True
 | _, _ => False
noncomputable def KV {κ : Type} : List (κ × V) -> List (κ × Value) -> Prop := Paired fun (p : κ × V) (q : κ × Value) => p.1 = q.1 /\ zC p.2 q.2
noncomputable def kV : Key -> V
 | .inl i => .int i
 | .inr x => .str x
inductive HO where
  | lst (xs : List V)
  | tup (xs : List V)
  | dK (kvs : List (Key × V)) | dT (kvs : List (List Key × V))
  | set (S : Int -> Bool) (n : Nat)
  | ins (C dx : Addr) (fs : List (Str × V))
  | own (x : Addr)
  | xd (fs : List (Str × V))
  | met (f x : Addr)
  | rng (lo hi : Int)
  | frz (o : Obj) (u : HO)
  | tbl (ps : Array Value)
  | ext (φ : Heap -> Prop)
noncomputable abbrev Hp := Addr -> Option HO
noncomputable def upd (H : Hp) (a : Addr) (o : HO) : Hp := fun b => if b = a then some o else H b
theorem zh {H : Hp} {a : Addr} {o : HO} : upd H a o a = some o := by unfold upd; rw [if_pos rfl]
theorem zm {H : Hp} {a b : Addr} {o : HO} (h : b ≠ a) : upd H a o b = H b := by unfold upd; rw [if_neg h]
theorem Qw {H : Hp} {a b : Addr} {o u : HO} (h : H a = some o) (h' : H b = some u) (d : o ≠ u) : a ≠ b := by
 intro e; subst e; rw [h] at h'; exact d (Option.some.inj h')
theorem zp {H : Hp} {a b : Addr} {o : HO} (h : H a = some o) (h' : H b = none) : a ≠ b := by
 intro e; subst e; rw [h] at h'; cases h'
noncomputable def XI (h : Heap) (a : Addr) (items : Array Value) : Prop := ∃ o, h.get? a = some o /\ o.cls = .type "tuple" /\ (∃ n, o.data = .seq items n) /\ o.dict = none
theorem XI.is {h : Heap} {a : Addr} {items : Array Value} (x : XI h a items) : IsTup h a items := let ⟨o, e, c, n, _⟩ := x; ⟨o, e, c, n⟩
theorem XI.lt {h : Heap} {a : Addr} {items : Array Value} (x : XI h a items) : a < h.objs.size := x.is.lt
section
variable (P : Program) (w : World)
noncomputable def zL (H : Hp) (h : Heap) (a : Addr) : HO -> Prop
  | .lst xs => xs.length <= sizeLine /\ ∃ (its : List Value) (n : Nat), zD xs its /\ h.get? a = some { cls := .type "list", data := .seq its.toArray n }
  | .tup xs => xs.length <= sizeLine /\ ∃ its : List Value, zD xs its /\ XI h a its.toArray
  | .dK kvs => kvs.length <= sizeLine /\ (a == sysModules) = false /\ ∃ vs, KV kvs vs /\ h.DictOf (zX P w) a vs
  | .dT kvs => kvs.length <= sizeLine /\ (a == sysModules) = false /\ ∃ xs : List (List Key × Addr × Value),
      Paired (fun (p : List Key × V) (q : List Key × Addr × Value) => p.1 = q.1 /\ H q.2.1 = some (.tup (p.1.map kV)) /\ zC p.2 q.2.2) kvs xs /\
      ∃ o es ep, h.get? a = some o /\ o.ExactDict /\ o.data = .dict es ep /\ es.toList = xs.map (entryOfKey (tupleKind (zX P w))) /\ (xs.map (·.1)).Nodup
  | .set S n => h.SetOf (intKind P w) a S n
  | .ins C dx fs => H dx = some (.own a) /\ fs.length <= 1000 /\ dx ≠ a /\ h.get? a = some (PySem.W.instObj C dx) /\
      ∃ mA, h.Ns1 dx mA /\ (∀ f, ZN (fs.lookup f) (mA f)) /\ PySem.Within mA (fs.map (·.1))
  | .own _ => ∃ o, h.get? a = some o
  | .xd fs => ∃ mA, h.Ns1 a mA /\ ∀ f, ZN (fs.lookup f) (mA f)
  | .rng lo hi => ∃ t u v, h.get? a = some { cls := .type "range", data := .fields #[.int lo t, .int hi u, .int 1 v] }
  | .frz o u => h.get? a = some o /\ zL H h a u
  | .tbl ps => h.get? a = some { cls := .none, data := .fields ps }
  | .met f x => h.get? a = some (PySem.W.methodObj (.ref f) (.ref x))
  | .ext φ => φ h /\ (∃ o, h.get? a = some o) /\ ∀ h1 h2 : Heap, φ h1 -> (∀ o, h1.get? a = some o -> h2.get? a = some o) -> φ h2
noncomputable def HOk (H : Hp) (h : Heap) : Prop := ∀ a o, H a = some o -> zL P w H h a o
end
section
variable {P : Program} {w : World} {H H' : Hp} {h h' : Heap} {a : Addr} {o : HO}
theorem zL.lt (x : zL P w H h a o) : a < h.objs.size := by
 cases o with
 | lst xs => obtain ⟨_, _, _, _, e⟩ := x; exact Heap.lt_size e
 | tup xs => obtain ⟨_, _, _, p⟩ := x; exact p.lt
 | dK kvs => obtain ⟨_, _, _, _, o, _, _, e, _⟩ := x; exact Heap.lt_size e
 | dT kvs => obtain ⟨_, _, _, _, o, _, _, e, _⟩ := x; exact Heap.lt_size e
 | set S n => obtain ⟨o, _, _, _, e, _⟩ := x; exact Heap.lt_size e
 | ins C dx fs => obtain ⟨_, _, _, e, _⟩ := x; exact Heap.lt_size e
 | own y => obtain ⟨_, e⟩ := x; exact Heap.lt_size e
 | xd fs => obtain ⟨_, ⟨_, _, _, e, _⟩, _⟩ := x; exact Heap.lt_size e
 | rng lo hi => obtain ⟨_, _, _, e⟩ := x; exact Heap.lt_size e
 | frz ob u => obtain ⟨e, _⟩ := x; exact Heap.lt_size e
 | tbl ps => exact Heap.lt_size (show h.get? a = some _ from x)
 | met f y => exact Heap.lt_size (show h.get? a = some _ from x)
 | ext φ => obtain ⟨_, ⟨_, e⟩, _⟩ := x; exact Heap.lt_size e
theorem Paired.mapP {α β : Type} {F G : α -> β -> Prop} : ∀ {l₁ : List α} {l₂ : List β}, Paired F l₁ l₂ -> (∀ a b, F a b -> G a b) -> Paired G l₁ l₂
 | _, _, .nil, _ => .nil
 | _, _, .cons r t, f => .cons (f _ _ r) (Paired.mapP t f)
theorem zL.stay (x : zL P w H h a o) (k : ∀ b u, (b = a \/ H b = some (.own a)) -> h.get? b = some u -> h'.get? b = some u)
  (ho : ∀ b, H b = some (.own a) -> H' b = some (.own a)) (ht : ∀ b xs, H b = some (.tup xs) -> H' b = some (.tup xs)) : zL P w H' h' a o := by
 induction o with
 | lst xs => obtain ⟨z, its, n, r, e⟩ := x; exact ⟨z, its, n, r, k _ _ (.inl rfl) e⟩
 | tup xs => obtain ⟨z, its, r, ob, e, c⟩ := x; exact ⟨z, its, r, ob, k _ _ (.inl rfl) e, c⟩
 | dK kvs => obtain ⟨z, y, vs, r, ob, es, ep, e, c⟩ := x; exact ⟨z, y, vs, r, ob, es, ep, k _ _ (.inl rfl) e, c⟩
 | dT kvs =>
  obtain ⟨z, y, xs, r, ob, es, ep, e, c⟩ := x
  exact ⟨z, y, xs, Paired.mapP r fun p q z => ⟨z.1, ht _ _ z.2.1, z.2.2⟩, ob, es, ep, k _ _ (.inl rfl) e, c⟩
 | set S n => obtain ⟨ob, es, ep, t, e, c⟩ := x; exact ⟨ob, es, ep, t, k _ _ (.inl rfl) e, c⟩
 | ins C dx fs =>
  obtain ⟨d, z, ne, e, mA, ⟨od, es, ep, e2, c⟩, r⟩ := x
  exact ⟨ho _ d, z, ne, k _ _ (.inl rfl) e, mA, ⟨od, es, ep, k _ _ (.inr d) e2, c⟩, r⟩
 | own y => obtain ⟨ob, e⟩ := x; exact ⟨ob, k _ _ (.inl rfl) e⟩
 | xd fs => obtain ⟨mA, ⟨od, es, ep, e, c⟩, r⟩ := x; exact ⟨mA, ⟨od, es, ep, k _ _ (.inl rfl) e, c⟩, r⟩
 | rng lo hi => obtain ⟨t, u, v, e⟩ := x; exact ⟨t, u, v, k _ _ (.inl rfl) e⟩
 | frz ob u ih => obtain ⟨e, q⟩ := x; exact ⟨k _ _ (.inl rfl) e, ih q⟩
 | tbl ps =>
  have e : h.get? a = some { cls := .none, data := .fields ps } := x
  show h'.get? a = some { cls := .none, data := .fields ps }
  exact k a _ (.inl rfl) e
 | met f y =>
  have e : h.get? a = some (PySem.W.methodObj (.ref f) (.ref y)) := x
  show h'.get? a = some (PySem.W.methodObj (.ref f) (.ref y))
  exact k a _ (.inl rfl) e
 | ext φ => obtain ⟨p, ⟨o, e⟩, st⟩ := x; exact ⟨st _ _ p fun o q => k _ _ (.inl rfl) q, ⟨o, k _ _ (.inl rfl) e⟩, st⟩
theorem HOk.lt (x : HOk P w H h) (e : H a = some o) : a < h.objs.size := (x a o e).lt
theorem HOk.fresh (x : HOk P w H h) (e : h.objs.size <= a) : H a = none := by
 cases q : H a with
 | none => rfl
 | some u => exact absurd (Nat.lt_of_lt_of_le (x.lt q) e) (Nat.lt_irrefl _)
theorem HOk.kept (x : HOk P w H h) (k : ∀ b u, h.get? b = some u -> h'.get? b = some u) : HOk P w H h' := fun a o e =>
 (x a o e).stay (fun b u _ q => k b u q) (fun _ q => q) fun _ _ q => q
theorem HOk.laid (x : HOk P w H h) (k : ∀ b u, h.get? b = some u -> h'.get? b = some u) (hp : h.objs.size <= a) (new : zL P w (upd H a o) h' a o) : HOk P w (upd H a o) h' := fun b u e => by
 have hn := x.fresh hp
 by_cases hb : b = a
 ·subst hb; rw [zh] at e; cases e; exact new
 ·rw [zm hb] at e
  exact (x b u e).stay (fun c v _ q => k c v q) (fun c q => by rw [zm (zp q hn)]; exact q) fun c xs q => by rw [zm (zp q hn)]; exact q
end
noncomputable def Rd (H : Hp) (a : Addr) (u : HO) : Prop := H a = some u \/ ∃ o, H a = some (.frz o u)
theorem Rd.ok {P : Program} {w : World} {H : Hp} {h : Heap} {a : Addr} {u : HO} (r : Rd H a u) (x : HOk P w H h) : zL P w H h a u := by
 rcases r with r | ⟨o, r⟩
 ·exact x a u r
 ·obtain ⟨_, q⟩ := x a _ r
  exact q
noncomputable def Mut : Option HO -> Prop
 | some (.lst _) => True
 | some (.dK _) => True
 | some (.dT _) => True
 | some (.set _ _) => True
 | some (.ins _ _ _) => True
 | some (.ext _) => True
 | _ => False
section
variable {P : Program} {w : World} {H : Hp} {h h' : Heap} {x e : Addr} {o' : HO}
theorem HOk.write (ok : HOk P w H h) (mu : Mut (H x)) (he : e = x \/ H e = some (.own x)) (k : ∀ b u, b ≠ e -> h.get? b = some u -> h'.get? b = some u) (heo : ∃ u, h'.get? e = some u)
    (new : zL P w (upd H x o') h' x o') : HOk P w (upd H x o') h' := fun b u q => by
  have nown : ∀ c y, H c = some (.own y) -> c ≠ x := fun c y r z => by subst z; rw [r] at mu; exact mu
  have ntup : ∀ c xs, H c = some (.tup xs) -> c ≠ x := fun c xs r z => by subst z; rw [r] at mu; exact mu
  by_cases hb : b = x
  · subst hb; rw [zh] at q; cases q; exact new
  · rw [zm hb] at q
    by_cases hbe : b = e
    · have q' : H b = some (.own x) := by
        rcases he with z | z
        · exact absurd (hbe.trans z) hb
        · rw [hbe]; exact z
      rw [q] at q'; cases q'
      obtain ⟨v, hv⟩ := heo
      exact ⟨v, by rw [hbe]; exact hv⟩
    · refine (ok b u q).stay (fun c v hc r => k c v ?_ r) (fun c r => by rw [zm (nown c b r)]; exact r) fun c xs r => by rw [zm (ntup c xs r)]; exact r
      rcases hc with rfl | hc
      · exact hbe
      · rintro rfl
        rcases he with z | z
        · exact nown c b hc z
        · rw [hc] at z; cases z; exact hb rfl
end
structure Un (fs ex : List Addr) (H H' : Hp) (h h' : Heap) : Prop where
 keep : ∀ b o, h.get? b = some o -> H b = none -> b ∉ fs -> b ∉ ex -> h'.get? b = some o
 slot : ∀ b o, h.get? b = some o -> H b = none -> b ∈ fs -> b ∉ ex -> ∃ sl, h'.get? b = some { o with slots := sl }
 free : ∀ b o, h.get? b = some o -> H b = none -> b ∉ ex -> H' b = none
 there : ∀ b o, h.get? b = some o -> b ∉ ex -> ∃ o', h'.get? b = some o'
 tups : ∀ b xs, H b = some (.tup xs) -> H' b = some (.tup xs)
 frzs : ∀ b o u, H b = some (.frz o u) -> H' b = some (.frz o u)
 tbls : ∀ b ps, H b = some (.tbl ps) -> ∃ more, H' b = some (.tbl (ps ++ more))
section
variable {fs fs' ex ex' : List Addr} {H H1 H2 : Hp} {h h1 h2 h' : Heap} {a x e : Addr} {o : HO}
theorem Un.any (u : Un fs ex H H1 h h1) {b : Addr} {ob : Obj} (q : h.get? b = some ob) (n : H b = none) (hx : b ∉ ex) : ∃ sl, h1.get? b = some { ob with slots := sl } := by
 by_cases hb : b ∈ fs
 ·exact u.slot b ob q n hb hx
 ·exact ⟨ob.slots, u.keep b ob q n hb hx⟩
theorem Un.kept (k : ∀ b u, h.get? b = some u -> h'.get? b = some u) : Un fs ex H H h h' :=
 ⟨fun b ob q _ _ _ => k b ob q, fun b ob q _ _ _ => ⟨ob.slots, k b ob q⟩, fun _ _ _ n _ => n, fun b ob q _ => ⟨ob, k b ob q⟩, fun _ _ q => q, fun _ _ _ q => q, fun _ ps q => ⟨#[], by rw [q]; simp⟩⟩
theorem Un.refl : Un fs ex H H h h := Un.kept fun _ _ q => q
theorem Un.laid (k : ∀ b u, h.get? b = some u -> h'.get? b = some u) (hp : h.objs.size <= a) (hn : H a = none) : Un fs ex H (upd H a o) h h' where
 keep := fun b u q _ _ _ => k b u q
 slot := fun b u q _ _ _ => ⟨u.slots, k b u q⟩
 free := fun b u q n _ => by rw [zm (Nat.ne_of_lt (Nat.lt_of_lt_of_le (Heap.lt_size q) hp))]; exact n
 there := fun b u q _ => ⟨u, k b u q⟩
 tups := fun b xs q => by rw [zm (zp q hn)]; exact q
 frzs := fun b u xs q => by rw [zm (zp q hn)]; exact q
 tbls := fun b ps q => ⟨#[], by rw [zm (zp q hn), q]; simp⟩
theorem Un.write (mu : Mut (H x)) (he : e = x \/ H e = some (.own x)) (k : ∀ b u, b ≠ e -> h.get? b = some u -> h'.get? b = some u) (heo : ∃ u, h'.get? e = some u) : Un fs ex H (upd H x o) h h' := by
 have hx : ∀ b, H b = none -> b ≠ x := fun b n z => by subst z; rw [n] at mu; exact mu
 have hb : ∀ b, H b = none -> b ≠ e := fun b n z => by
  subst z
  rcases he with r | r
  ·exact hx b n r
  ·rw [n] at r; cases r
 have hm : ∀ b u, H b = some u -> ¬ Mut (some u) -> b ≠ x := fun b u q nm z => by subst z; rw [q] at mu; exact nm mu
 refine ⟨fun b u q n _ _ => k b u (hb b n) q, fun b u q n _ _ => ⟨u.slots, k b u (hb b n) q⟩, fun b u q n _ => by rw [zm (hx b n)]; exact n, fun b u q _ => ?_,
  fun b xs q => by rw [zm (hm b _ q fun z => z)]; exact q, fun b u xs q => by rw [zm (hm b _ q fun z => z)]; exact q, fun b ps q => ⟨#[], by rw [zm (hm b _ q fun z => z), q]; simp⟩⟩
 by_cases hbe : b = e
 ·subst hbe; exact heo
 ·exact ⟨u, k b u hbe q⟩
end
noncomputable def trk (h : Heap) (H : Hp) : List Addr := (List.range h.objs.size).filter fun a => (H a).isSome
noncomputable def vJ (h : Heap) (H : Hp) : Heap := PySem.W.hideAll h (trk h H)
theorem Ke (h : Heap) (H : Hp) : (vJ h H).objs.size = h.objs.size := PySem.W.hideAll_size _ _
theorem Xo {h : Heap} {H : Hp} {b : Addr} {o : Obj} (e : h.get? b = some o) (n : H b = none) : (vJ h H).get? b = some o :=
 PySem.W.hideAll_get _ e fun hm => by
  have q : (H b).isSome = true := (List.mem_filter.mp hm).2
  rw [n] at q; simp at q
theorem VS {h : Heap} {H : Hp} {b : Addr} {o : Obj} (e : (vJ h H).get? b = some o) : h.get? b = some o /\ H b = none := by
 have e' : h.get? b = some o := PySem.W.of_hideAll (trk h H) e
 refine ⟨e', ?_⟩
 cases q : H b with
 | none => rfl
 | some x =>
  have hm : b ∈ trk h H := List.mem_filter.mpr ⟨List.mem_range.mpr (Heap.lt_size e'), by simp [q]⟩
  have z : (vJ h H).get? b = none := PySem.W.hideAll_none (trk h H) hm
  rw [z] at e; cases e
noncomputable def VF (g h : Heap) (L : Addr) : List (Addr × Obj) := (List.range h.objs.size).filterMap fun a => if a = L \/ (g.get? a).isSome = true then none else (h.get? a).map fun o => (a, o)
noncomputable def jT (g h : Heap) (L d : Addr) : List (Addr × Obj) := (VF g h L).filter fun p => decide (p.1 ≠ d)
end L2
namespace L2
open PySem PySem.Spec PyProof.Rows
structure Mod (K : PySem.W.Frag) (mg : Str -> Option Value) (base : Heap) : Prop where
 kin : K.In base
 glob : base.Ns mainGlobals mg
 blt : ∃ mb, base.Ns builtinsNs mb /\ ∀ x : Str, x ≠ "__name__" -> mb x = bootBuiltins x
 nolimit : base.NoLimit
structure Cx where
 prog : Program
 w : World
 K : PySem.W.Frag
 mg : Str -> Option Value
 base : Heap
 A : Around
 N : List Str
 s₀ : Shared
 H₀ : Hp
 env : Env
 outer : List Env
 stack : List Env
 ex : List Addr
 fn : Str -> Bool
 calm : Bool
 pn : List (Addr × Obj)
 xe : Value -> Shared -> Prop
noncomputable def frs (l : List Env) : List Addr := l.filterMap (·.frame)
noncomputable abbrev Cx.fs (X : Cx) : List Addr := frs X.outer
noncomputable def Vis (sc : Scope) (x : Str) : Prop := sc.names.lookup x = some .local \/ sc.names.lookup x = some .cell \/ sc.names.lookup x = some .free
noncomputable def Loc (sc : Scope) (x : Str) : Prop := sc.names.lookup x = some .local \/ sc.names.lookup x = some .cell
noncomputable def Ea (env : Env) (h : Heap) (m : Str -> Option Value) (x : Str) (u : Value) : Prop :=
 (env.kindOf x = some .local /\ m x = some u) \/ ((env.kindOf x = some .cell \/ env.kindOf x = some .free) /\ ∃ c, env.cells.lookup x = some c /\ h.IsCell c (some u))
structure Cx.Ok (X : Cx) : Prop where
 mod : Mod X.K X.mg X.base
 kind : X.env.scope.kind = .function
 glob : X.env.globals = mainGlobals
 blt : X.env.builtins = builtinsNs
 above : X.s₀.heap.objs.size <= X.env.locals
 inj : ∀ x y c, X.env.cells.lookup x = some c -> X.env.cells.lookup y = some c -> x = y
 has : ∀ x, (X.env.kindOf x = some .cell \/ X.env.kindOf x = some .free) -> ∃ c, X.env.cells.lookup x = some c
 cab : ∀ x c, X.fn x = true -> X.env.cells.lookup x = some c -> X.s₀.heap.objs.size <= c
 hd : X.calm = true -> X.A.handled = none
 frames : X.A.frames = some X.stack
 stk : X.stack = X.outer \/ (X.stack = X.env :: X.outer /\ X.env.frame = some X.env.locals)
 exf : ∀ b ∈ X.ex, b ≠ X.env.locals /\ ∀ x c, X.env.cells.lookup x = some c -> c ≠ b
 bs : ∀ b o, X.base.get? b = some o -> X.s₀.heap.get? b = some o /\ X.H₀ b = none
 bsz : X.base.objs.size <= X.s₀.heap.objs.size
 noex : ∀ b o, X.base.get? b = some o -> b ∉ X.ex
 exfs : ∀ b ∈ X.ex, b ∉ X.fs
 funs : X.s₀.heap.FunFrames X.base X.outer
 frf : ∀ b ∈ X.fs, X.H₀ b = none
structure Inv (X : Cx) (pins : List (Addr × Obj)) (σ : List (Option V)) (H : Hp) (s : Shared) : Prop where
 ok : X.Ok
 os : s.os = X.s₀.os
 bare : AllBare s.gens
 base : Un X.fs X.ex X.H₀ H X.s₀.heap s.heap
 loc : ∃ m, s.heap.Ns X.env.locals m /\ ∀ (i : Nat) (x : Str) (v : V), X.N[i]? = some x -> σ[i]? = some (some v) -> Vis X.env.scope x -> ∃ u, zC v u /\ Ea X.env s.heap m x u
 cell : ∀ x c, X.env.cells.lookup x = some c -> ∃ v, s.heap.IsCell c v
 free : H X.env.locals = none
 freeC : ∀ x c, X.env.cells.lookup x = some c -> H c = none
 pin : ∀ p ∈ X.pn ++ pins, s.heap.get? p.1 = some p.2 /\ H p.1 = none /\ p.1 ≠ X.env.locals /\ p.1 ∉ X.fs /\ ∀ v, p.2.data ≠ .cell v
 hok : HOk X.prog X.w H s.heap
 len : σ.length = X.N.length
section
variable {X : Cx} {pins : List (Addr × Obj)} {σ : List (Option V)} {H H' : Hp} {s : Shared} {h' : Heap}
theorem Cx.Ok.nofr (ok : X.Ok) {b : Addr} {o : Obj} (e : X.base.get? b = some o) : b ∉ X.fs := fun hb => by
 have := (ok.funs.mem hb).1
 rw [e] at this; cases this
theorem Inv.bs (I : Inv X pins σ H s) : ∀ b o, X.base.get? b = some o -> s.heap.get? b = some o /\ H b = none := fun b o e =>
 ⟨I.base.keep b o (I.ok.bs b o e).1 (I.ok.bs b o e).2 (I.ok.nofr e) (I.ok.noex b o e), I.base.free b o (I.ok.bs b o e).1 (I.ok.bs b o e).2 (I.ok.noex b o e)⟩
theorem Inv.bk (I : Inv X pins σ H s) : ∀ b o, X.base.get? b = some o -> s.heap.get? b = some o := fun b o e => (I.bs b o e).1
theorem Inv.mod (I : Inv X pins σ H s) : Mod X.K X.mg X.base := I.ok.mod
theorem Inv.kIn (I : Inv X pins σ H s) : X.K.In s.heap := I.ok.mod.kin.keeps I.bk
theorem Inv.lt (I : Inv X pins σ H s) : X.env.locals < s.heap.objs.size := let ⟨_, hn, _⟩ := I.loc; hn.lt
theorem Inv.sz (I : Inv X pins σ H s) : X.s₀.heap.objs.size <= s.heap.objs.size := Nat.le_trans I.ok.above (Nat.le_of_lt I.lt)
theorem Inv.nofs (I : Inv X pins σ H s) {a : Addr} (h : s.heap.objs.size <= a) : a ∉ X.fs := fun hb => by
 obtain ⟨_, o, ho, _⟩ := I.ok.funs.mem hb
 exact absurd (Nat.lt_of_lt_of_le (Heap.lt_size ho) (Nat.le_trans I.sz h)) (Nat.lt_irrefl _)
theorem Inv.cne (I : Inv X pins σ H s) : ∀ x c, X.env.cells.lookup x = some c -> c ≠ X.env.locals := fun x c e z => by
 obtain ⟨v, o, ho, hd⟩ := I.cell x c e
 obtain ⟨m, ⟨o', es, ep, ho', hd', _⟩, _⟩ := I.loc
 rw [z, ho'] at ho; cases ho; rw [hd'] at hd; cases hd
theorem Inv.funs (I : Inv X pins σ H s) : s.heap.FunFrames X.base X.outer := by
 have all : ∀ (l : List Env), (∀ b ∈ frs l, b ∈ X.fs) -> X.s₀.heap.FunFrames X.base l -> s.heap.FunFrames X.base l := by
  intro l
  induction l with
  | nil => intro _ _; trivial
  | cons env r ih =>
   intro hs hl
   obtain ⟨hk, ⟨L, o, hf, hn, ho, hd⟩, hr⟩ := hl
   have hL : L ∈ X.fs := hs L (by unfold frs; rw [List.filterMap_cons, hf]; exact List.mem_cons_self)
   obtain ⟨sl, e⟩ := I.base.slot L o ho (I.ok.frf L hL) hL fun z => I.ok.exfs L z hL
   exact ⟨hk, ⟨L, _, hf, hn, e, hd⟩, ih (fun b hb => hs b (by unfold frs; rw [List.filterMap_cons, hf]; exact List.mem_cons_of_mem _ hb)) hr⟩
 exact all X.outer (fun _ hb => hb) I.ok.funs
theorem Inv.stack (I : Inv X pins σ H s) : s.heap.FunFrames X.base X.stack := by
 rcases I.ok.stk with e | ⟨e, hf⟩
 ·rw [e]; exact I.funs
 ·rw [e]
  obtain ⟨m, hn, _⟩ := I.loc
  refine .cons (by rw [I.ok.kind]; decide) hf hn ?_ I.funs
  exact Heap.get?_none_of_le (Nat.le_trans I.ok.bsz I.ok.above)
theorem Inv.stkSub (I : Inv X pins σ H s) : ∀ b ∈ frs X.stack, b ∈ X.env.locals :: X.fs := fun b hb => by
 rcases I.ok.stk with e | ⟨e, hf⟩
 ·rw [e] at hb; exact List.mem_cons_of_mem _ hb
 ·rw [e] at hb
  unfold frs at hb
  rw [List.filterMap_cons, hf] at hb
  exact hb
theorem Inv.stkFree (I : Inv X pins σ H s) : ∀ b ∈ frs X.stack, H b = none := fun b hb => by
 rcases List.mem_cons.mp (I.stkSub b hb) with e | hb
 ·rw [e]; exact I.free
 ·obtain ⟨_, o, ho, _⟩ := I.ok.funs.mem hb
  exact I.base.free b o ho (I.ok.frf b hb) fun z => I.ok.exfs b z hb
theorem Inv.step {g' : Array GenState} {t' : Nat} {d' : Drawn} {ch : List Addr} (I : Inv X pins σ H s)
  (hch : ∀ b ∈ ch, (b ∈ X.ex \/ X.s₀.heap.objs.size <= b) /\ b ≠ X.env.locals /\ (∀ x c, X.env.cells.lookup x = some c -> c ≠ b) /\ ∀ p ∈ X.pn ++ pins, p.1 ≠ b)
  (keep : ∀ b o, b ≠ X.env.locals -> b ∉ X.fs -> b ∉ ch -> s.heap.get? b = some o -> H b = none -> h'.get? b = some o)
  (slot : ∀ b o, b ≠ X.env.locals -> b ∈ X.fs -> b ∉ ch -> s.heap.get? b = some o -> H b = none -> ∃ sl, h'.get? b = some { o with slots := sl }) (free : ∀ b o, b ∉ ch -> s.heap.get? b = some o -> H b = none -> H' b = none)
  (there : ∀ b o, b ∉ ch -> s.heap.get? b = some o -> ∃ o', h'.get? b = some o')
  (tups : ∀ b xs, H b = some (.tup xs) -> H' b = some (.tup xs)) (frzs : ∀ b o u, H b = some (.frz o u) -> H' b = some (.frz o u)) (tbls : ∀ b ps, H b = some (.tbl ps) -> ∃ more, H' b = some (.tbl (ps ++ more)))
  (ns : ∀ m, s.heap.Ns X.env.locals m -> h'.Ns X.env.locals m) (hok : HOk X.prog X.w H' h') (hg : AllBare g') :
  Inv X pins σ H' { s with heap := h', gens := g', drawn := d', toks := t' } := by
 have neL : ∀ b o, X.s₀.heap.get? b = some o -> b ≠ X.env.locals := fun b o e => Nat.ne_of_lt (Nat.lt_of_lt_of_le (Heap.lt_size e) I.ok.above)
 have neC : ∀ b o, X.s₀.heap.get? b = some o -> b ∉ X.ex -> b ∉ ch := fun b o e hx hb => by
  rcases (hch b hb).1 with z | z
  ·exact hx z
  ·exact absurd (Nat.lt_of_lt_of_le (Heap.lt_size e) z) (Nat.lt_irrefl _)
 have cellK : ∀ x c, X.env.cells.lookup x = some c -> ∀ v, s.heap.IsCell c v -> h'.IsCell c v := fun x c e v ⟨o, ho, hd⟩ => by
  have nch : c ∉ ch := fun z => (hch c z).2.2.1 x c e rfl
  by_cases hc : c ∈ X.fs
  ·obtain ⟨sl, q⟩ := slot c o (I.cne x c e) hc nch ho (I.freeC x c e)
   exact ⟨_, q, hd⟩
  ·exact ⟨o, keep c o (I.cne x c e) hc nch ho (I.freeC x c e), hd⟩
 refine ⟨I.ok, I.os, hg, ⟨fun b o e n hb hx => ?_, fun b o e n hb hx => ?_, fun b o e n hx => ?_, fun b o e hx => ?_, fun b xs e => tups b xs (I.base.tups b xs e), fun b o xs e => frzs b o xs (I.base.frzs b o xs e), fun b ps e => ?_⟩, ?_, fun x c e => ?_, ?_, fun x c e => ?_, fun p hp => ?_, hok, I.len⟩
 ·exact keep b o (neL b o e) hb (neC b o e hx) (I.base.keep b o e n hb hx) (I.base.free b o e n hx)
 ·obtain ⟨sl, e1⟩ := I.base.slot b o e n hb hx
  obtain ⟨sl', e2⟩ := slot b _ (neL b o e) hb (neC b o e hx) e1 (I.base.free b o e n hx)
  exact ⟨sl', e2⟩
 ·obtain ⟨o', e1⟩ := I.base.there b o e hx
  exact free b o' (neC b o e hx) e1 (I.base.free b o e n hx)
 ·obtain ⟨o', e1⟩ := I.base.there b o e hx
  exact there b o' (neC b o e hx) e1
 ·obtain ⟨m1, e1⟩ := I.base.tbls b ps e
  obtain ⟨m2, e2⟩ := tbls b _ e1
  exact ⟨m1 ++ m2, by rw [e2, Array.append_assoc]⟩
 ·obtain ⟨m, hn, hl⟩ := I.loc
  refine ⟨m, ns m hn, fun i x v e1 e2 e3 => ?_⟩
  obtain ⟨u, r, l⟩ := hl i x v e1 e2 e3
  refine ⟨u, r, ?_⟩
  rcases l with l | ⟨k, c, e, z⟩
  ·exact .inl l
  ·exact .inr ⟨k, c, e, cellK x c e _ z⟩
 ·obtain ⟨v, z⟩ := I.cell x c e
  exact ⟨v, cellK x c e v z⟩
 ·obtain ⟨m, ⟨o, _, _, ho, _⟩, _⟩ := I.loc
  exact free _ o (fun z => (hch _ z).2.1 rfl) ho I.free
 ·obtain ⟨v, o, ho, hd⟩ := I.cell x c e
  exact free c o (fun z => (hch c z).2.2.1 x c e rfl) ho (I.freeC x c e)
 ·obtain ⟨e, n, ne, nf, d⟩ := I.pin p hp
  have nch : p.1 ∉ ch := fun z => (hch p.1 z).2.2.2 p hp rfl
  exact ⟨keep p.1 p.2 ne nf nch e n, free p.1 p.2 nch e n, ne, nf, d⟩
theorem Inv.un {t' : Nat} (I : Inv X pins σ H s) (u : Un X.fs [] H H' s.heap h') (hok : HOk X.prog X.w H' h') : Inv X pins σ H' { s with heap := h', toks := t' } := by
 obtain ⟨m, ⟨o, es, ep, ho, r⟩, _⟩ := id I.loc
 obtain ⟨sl, hL⟩ := u.any ho I.free (by simp)
 exact I.step (g' := s.gens) (d' := s.drawn) (ch := []) (fun _ z => nomatch z) (fun b o _ hb _ e n => u.keep b o e n hb (by simp)) (fun b o _ hb _ e n => u.slot b o e n hb (by simp)) (fun b o _ e n => u.free b o e n (by simp)) (fun b o _ e => u.there b o e (by simp)) u.tups u.frzs u.tbls (fun m' hm => by
  obtain ⟨o', es', ep', ho', r'⟩ := hm
  rw [ho] at ho'; cases ho'
  exact ⟨_, es', ep', hL, r'⟩) hok I.bare
theorem Inv.call {g' : Array GenState} {t' : Nat} {d' : Drawn} {ch : List Addr} (I : Inv X pins σ H s) (u : Un (frs X.stack) ch H H' s.heap h') (hok : HOk X.prog X.w H' h') (hg : AllBare g')
  (hch : ∀ b ∈ ch, (b ∈ X.ex \/ X.s₀.heap.objs.size <= b) /\ b ≠ X.env.locals /\ (∀ x c, X.env.cells.lookup x = some c -> c ≠ b) /\ ∀ p ∈ X.pn ++ pins, p.1 ≠ b) :
  Inv X pins σ H' { s with heap := h', gens := g', drawn := d', toks := t' } := by
 obtain ⟨m, ⟨o, es, ep, ho, r⟩, _⟩ := id I.loc
 obtain ⟨sl, hL⟩ := u.any ho I.free fun z => (hch _ z).2.1 rfl
 exact I.step (ch := ch) hch (fun b o hL hb hc e n => u.keep b o e n (fun z => (List.mem_cons.mp (I.stkSub b z)).elim hL hb) hc) (fun b o _ _ hc e n => u.any e n hc) (fun b o hc e n => u.free b o e n hc) (fun b o hc e => u.there b o e hc) u.tups u.frzs u.tbls (fun m' hm => by
  obtain ⟨o', es', ep', ho', r'⟩ := hm
  rw [ho] at ho'; cases ho'
  exact ⟨_, es', ep', hL, r'⟩) hok hg
theorem Inv.turned {t' : Nat} {it : Addr} (I : Inv X pins σ H s) (k : ∀ b o, b ≠ it -> s.heap.get? b = some o -> h'.get? b = some o) (hn : H it = none) (hL : it ≠ X.env.locals)
  (h1 : it ∈ X.ex \/ X.s₀.heap.objs.size <= it) (h2 : ∀ x c, X.env.cells.lookup x = some c -> c ≠ it) (h3 : ∀ p ∈ X.pn ++ pins, p.1 ≠ it) : Inv X pins σ H { s with heap := h', toks := t' } := by
 have nit : ∀ b u, H b = some u -> b ≠ it := fun b u e z => by rw [z, hn] at e; cases e
 refine I.step (g' := s.gens) (d' := s.drawn) (ch := [it]) (fun b hb => ?_) (fun b o _ _ hc e _ => k b o (fun z => hc (by simp [z])) e) (fun b o _ _ hc e _ => ⟨o.slots, k b o (fun z => hc (by simp [z])) e⟩) (fun _ _ _ _ n => n)
  (fun b o hc e => ⟨o, k b o (fun z => hc (by simp [z])) e⟩) (fun _ _ e => e) (fun _ _ _ e => e) (fun b ps e => ⟨#[], by rw [e]; simp⟩) (fun m hm => ?_) (fun b u e => ?_) I.bare
 ·have e : b = it := by simpa using hb
  subst e
  exact ⟨h1, hL, h2, h3⟩
 ·obtain ⟨o, es, ep, ho, r⟩ := hm
  exact ⟨o, es, ep, k _ o (Ne.symm hL) ho, r⟩
 ·refine (I.hok b u e).stay (fun c v hc q => k c v ?_ q) (fun _ q => q) fun _ _ q => q
  rcases hc with z | z
  ·rw [z]; exact nit b u e
  ·exact nit c _ z
theorem Inv.tok (I : Inv X pins σ H s) (t : Nat) : Inv X pins σ H { s with toks := t } := I.un (h' := s.heap) (t' := t) Un.refl I.hok
theorem Inv.kept {t' : Nat} (I : Inv X pins σ H s) (k : ∀ b u, s.heap.get? b = some u -> h'.get? b = some u) : Inv X pins σ H { s with heap := h', toks := t' } := I.un (Un.kept k) (I.hok.kept k)
theorem Inv.laid {a : Addr} {o : HO} {t' : Nat} (I : Inv X pins σ H s) (k : ∀ b u, s.heap.get? b = some u -> h'.get? b = some u) (hp : s.heap.objs.size <= a) (new : zL X.prog X.w (upd H a o) h' a o) :
  Inv X pins σ (upd H a o) { s with heap := h', toks := t' } := I.un (Un.laid k hp (I.hok.fresh hp)) (I.hok.laid k hp new)
theorem Inv.write {x e : Addr} {o : HO} {t' : Nat} (I : Inv X pins σ H s) (mu : Mut (H x)) (he : e = x \/ H e = some (.own x)) (k : ∀ b u, b ≠ e -> s.heap.get? b = some u -> h'.get? b = some u) (heo : ∃ u, h'.get? e = some u)
  (new : zL X.prog X.w (upd H x o) h' x o) : Inv X pins σ (upd H x o) { s with heap := h', toks := t' } := I.un (Un.write mu he k heo) (I.hok.write mu he k heo new)
theorem Inv.pins_of {pins' : List (Addr × Obj)} (I : Inv X pins σ H s) (h : ∀ p ∈ pins', s.heap.get? p.1 = some p.2 /\ H p.1 = none /\ p.1 ≠ X.env.locals /\ p.1 ∉ X.fs /\ ∀ v, p.2.data ≠ .cell v) : Inv X pins' σ H s :=
 ⟨I.ok, I.os, I.bare, I.base, I.loc, I.cell, I.free, I.freeC, fun p hp => (List.mem_append.mp hp).elim (fun z => I.pin p (List.mem_append_left _ z)) (h p), I.hok, I.len⟩
theorem wn {N : List Str} (hN : N.Nodup) {i j : Nat} {x : Str} (a : N[i]? = some x) (b : N[j]? = some x) : i = j := by
 obtain ⟨h1, e1⟩ := List.getElem?_eq_some_iff.mp a
 obtain ⟨h2, e2⟩ := List.getElem?_eq_some_iff.mp b
 exact (List.getElem_inj hN).mp (e1.trans e2.symm)
theorem vi {M : Model} {A : Around} {E : Value -> Shared -> Prop} {i : Nat} {x : Str} {v : V} {u : Value} {Q : Unit -> Shared -> Prop} (I : Inv X pins σ H s) (hN : X.N.Nodup) (hi : X.N[i]? = some x) (hx : Loc X.env.scope x) (r : zC v u)
    (h : ∀ s', Inv X pins (σ.set i (some v)) H s' -> (∃ a, Heap.SameBut a s.heap s'.heap /\ (a = X.env.locals \/ X.env.cells.lookup x = some a)) -> Q () s') (hf : X.fn x = true \/ X.env.scope.names.lookup x = some .local := by first | exact .inl rfl | exact .inr rfl | assumption) : wpAny M A (storeName X.env x u) Q E s := by
  obtain ⟨m, hn, hl⟩ := id I.loc
  have hcls : (X.env.scope.kind == .class || (X.env.scope.kind == .module && X.env.locals != X.env.globals)) = false := by rw [I.ok.kind]; rfl
  have hiσ : i < σ.length := by rw [I.len]; exact (List.getElem?_eq_some_iff.mp hi).1
  have cne := I.cne
  have tracked : ∀ {a : Addr} {h' : Heap}, (∃ o, s.heap.get? a = some o /\ H a = none) -> Heap.SameBut a s.heap h' -> HOk X.prog X.w H h' := fun {a h'} ha hs b ob e => by
    obtain ⟨_, _, hfree⟩ := ha
    refine (I.hok b ob e).stay (fun c w' hc q => (hs.2 c ?_).trans q) (fun _ q => q) fun _ _ q => q
    rintro rfl
    rcases hc with rfl | hc
    · rw [hfree] at e; cases e
    · rw [hfree] at hc; cases hc
  rcases hx with hk | hk
  · refine wpAny_storeName_local hk hn (fun h' hn' hs => ?_) hcls
    obtain ⟨oL, _, _, hoL, _⟩ := id hn
    refine h _ ⟨I.ok, I.os, I.bare, ⟨fun b o e n hb hx => ?_, fun b o e n hb hx => ?_, I.base.free, fun b o e hx => ?_, I.base.tups, I.base.frzs, I.base.tbls⟩, ⟨_, hn', fun j y v' e1 e2 e3 => ?_⟩, fun y c e => ?_, I.free, I.freeC, fun p hp => ?_, tracked ⟨oL, hoL, I.free⟩ hs, by simpa using I.len⟩ ⟨_, hs, .inl rfl⟩
    · exact (hs.2 b (Nat.ne_of_lt (Nat.lt_of_lt_of_le (Heap.lt_size e) I.ok.above))).trans (I.base.keep b o e n hb hx)
    · obtain ⟨sl, e1⟩ := I.base.slot b o e n hb hx
      exact ⟨sl, (hs.2 b (Nat.ne_of_lt (Nat.lt_of_lt_of_le (Heap.lt_size e) I.ok.above))).trans e1⟩
    · obtain ⟨o', e1⟩ := I.base.there b o e hx
      exact ⟨o', (hs.2 b (Nat.ne_of_lt (Nat.lt_of_lt_of_le (Heap.lt_size e) I.ok.above))).trans e1⟩
    · by_cases hj : j = i
      · subst hj
        rw [hi] at e1; cases e1
        rw [List.getElem?_set_self hiσ] at e2
        cases e2
        exact ⟨u, r, .inl ⟨hk, by simp⟩⟩
      · rw [List.getElem?_set_ne (Ne.symm hj)] at e2
        obtain ⟨u', r', q⟩ := hl j y v' e1 e2 e3
        refine ⟨u', r', ?_⟩
        rcases q with ⟨k, e⟩ | ⟨k, c, e, z⟩
        · refine .inl ⟨k, ?_⟩
          have : y ≠ x := fun e => hj (wn hN e1 (e ▸ hi))
          simp [this, e]
        · exact .inr ⟨k, c, e, z.sameBut hs (cne y c e)⟩
    · obtain ⟨w', z⟩ := I.cell y c e
      exact ⟨w', z.sameBut hs (cne y c e)⟩
    · obtain ⟨e, n, ne, nf, d⟩ := I.pin p hp
      exact ⟨(hs.2 p.1 ne).trans e, n, ne, nf, d⟩
  · have hfn : X.fn x = true := by
      rcases hf with z | z
      · exact z
      · rw [z] at hk; cases hk
    obtain ⟨c, hc⟩ := I.ok.has x (.inl hk)
    obtain ⟨w', z⟩ := I.cell x c hc
    refine wpAny_storeName_cell I.ok.kind hk hc z (fun h' hc' hs => ?_)
    obtain ⟨oc, hoc, hocd⟩ := id z
    refine h { s with heap := h' } ⟨I.ok, I.os, I.bare, ⟨fun b o e n hb hx => ?_, fun b o e n hb hx => ?_, I.base.free, fun b o e hx => ?_, I.base.tups, I.base.frzs, I.base.tbls⟩, ⟨m, hn.sameBut hs (Ne.symm (cne x c hc)), fun j y v' e1 e2 e3 => ?_⟩, fun y c' e => ?_, I.free, I.freeC, fun p hp => ?_, tracked ⟨oc, hoc, I.freeC x c hc⟩ hs, by simpa using I.len⟩ ⟨c, hs, .inr hc⟩
    · exact (hs.2 b (Nat.ne_of_lt (Nat.lt_of_lt_of_le (Heap.lt_size e) (I.ok.cab x c hfn hc)))).trans (I.base.keep b o e n hb hx)
    · obtain ⟨sl, e1⟩ := I.base.slot b o e n hb hx
      exact ⟨sl, (hs.2 b (Nat.ne_of_lt (Nat.lt_of_lt_of_le (Heap.lt_size e) (I.ok.cab x c hfn hc)))).trans e1⟩
    · obtain ⟨o', e1⟩ := I.base.there b o e hx
      exact ⟨o', (hs.2 b (Nat.ne_of_lt (Nat.lt_of_lt_of_le (Heap.lt_size e) (I.ok.cab x c hfn hc)))).trans e1⟩
    · by_cases hj : j = i
      · subst hj
        rw [hi] at e1; cases e1
        rw [List.getElem?_set_self hiσ] at e2
        cases e2
        exact ⟨u, r, .inr ⟨.inl hk, c, hc, hc'⟩⟩
      · rw [List.getElem?_set_ne (Ne.symm hj)] at e2
        obtain ⟨u', r', q⟩ := hl j y v' e1 e2 e3
        refine ⟨u', r', ?_⟩
        rcases q with q | ⟨k, c', e, z'⟩
        · exact .inl q
        · refine .inr ⟨k, c', e, z'.sameBut hs ?_⟩
          rintro rfl
          exact hj (wn hN e1 (I.ok.inj _ _ _ e hc ▸ hi))
    · by_cases hcc : c' = c
      · subst hcc; exact ⟨_, hc'⟩
      · obtain ⟨w2, z2⟩ := I.cell y c' e
        exact ⟨w2, z2.sameBut hs hcc⟩
    · obtain ⟨e, n, ne, nf, d⟩ := I.pin p hp
      refine ⟨(hs.2 p.1 ?_).trans e, n, ne, nf, d⟩
      intro q
      rw [q, hoc] at e
      have q' : oc = p.2 := Option.some.inj e
      exact d w' (by rw [<- q']; exact hocd)
theorem jZ {M : Model} {A : Around} {E : Value -> Shared -> Prop} {i : Nat} {x : Str} {v : V} {u : Value} {Q : Unit -> Shared -> Prop} (I : Inv X pins σ H s) (hN : X.N.Nodup) (hi : X.N[i]? = some x) (hx : Loc X.env.scope x) (r : zC v u)
  (h : ∀ s', Inv X pins (σ.set i (some v)) H s' -> Q () s') (hf : X.fn x = true \/ X.env.scope.names.lookup x = some .local := by first | exact .inl rfl | exact .inr rfl | assumption) : wpAny M A (storeName X.env x u) Q E s :=
 vi I hN hi hx r (fun s' I' _ => h s' I') hf
theorem Inv.call' {s' : Shared} {ch : List Addr} (I : Inv X pins σ H s) (ho : s'.os = s.os) (u : Un (frs X.stack) ch H H' s.heap s'.heap) (hok : HOk X.prog X.w H' s'.heap) (hg : AllBare s'.gens)
  (hch : ∀ b ∈ ch, (b ∈ X.ex \/ X.s₀.heap.objs.size <= b) /\ b ≠ X.env.locals /\ (∀ x c, X.env.cells.lookup x = some c -> c ≠ b) /\ ∀ p ∈ X.pn ++ pins, p.1 ≠ b) : Inv X pins σ H' s' := by
 obtain ⟨h', g', d', t', o'⟩ := s'
 have e : o' = s.os := ho
 subst e
 exact I.call (g' := g') (t' := t') (d' := d') u hok hg hch
end
noncomputable abbrev XK := Value -> Option Addr -> Hp -> Prop
noncomputable abbrev St := List (Option V)
noncomputable abbrev VK := V -> Hp -> Prop
noncomputable abbrev TE := St -> Hp -> VK -> Prop
noncomputable abbrev TT := St -> Hp -> (Bool -> Hp -> Prop) -> Prop
noncomputable abbrev TA := St -> Hp -> (List V -> Hp -> Prop) -> Prop
structure jJ where
 nx : St -> Hp -> Prop
 rt : VK
 bk : St -> Hp -> Prop := fun _ _ => False
 ct : St -> Hp -> Prop := fun _ _ => False
noncomputable abbrev TS := jJ -> St -> Hp -> Prop
noncomputable def EP (X : Cx) (pins : List (Addr × Obj)) (σ : St) (Q : VK) (u : Value) (s' : Shared) : Prop := ∃ v H', Inv X pins σ H' s' /\ zC v u /\ Q v H'
noncomputable def TP (X : Cx) (pins : List (Addr × Obj)) (σ : St) (Q : Bool -> Hp -> Prop) (b : Bool) (s' : Shared) : Prop := ∃ H', Inv X pins σ H' s' /\ Q b H'
noncomputable def AP (X : Cx) (pins : List (Addr × Obj)) (σ : St) (Q : List V -> Hp -> Prop) (us : List Value) (s' : Shared) : Prop := ∃ vs H', Inv X pins σ H' s' /\ zD vs us /\ Q vs H'
noncomputable def SP (X : Cx) (pins : List (Addr × Obj)) (D : jJ) (f : Flow) (s' : Shared) : Prop :=
 match f with
 | .next => ∃ σ' H', Inv X pins σ' H' s' /\ D.nx σ' H'
 | .brk => ∃ σ' H', Inv X pins σ' H' s' /\ D.bk σ' H'
 | .cont => ∃ σ' H', Inv X pins σ' H' s' /\ D.ct σ' H'
 | .ret u => ∃ v σ' H', Inv X pins σ' H' s' /\ zC v u /\ D.rt v H'
noncomputable def PE (X : Cx) (e : Expr) (t : TE) : Prop :=
 ∀ (pins : List (Addr × Obj)) (s : Shared) (σ : St) (H : Hp) (Q : VK), Inv X pins σ H s -> t σ H Q -> wpAny (model X.prog X.w) X.A (eval e X.env) (EP X pins σ Q) X.xe s
noncomputable def PT (X : Cx) (e : Expr) (t : TT) : Prop :=
 ∀ (pins : List (Addr × Obj)) (s : Shared) (σ : St) (H : Hp) (Q : Bool -> Hp -> Prop), Inv X pins σ H s -> t σ H Q -> wpAny (model X.prog X.w) X.A (isTrue e X.env (eval e X.env)) (TP X pins σ Q) X.xe s
noncomputable def PW (X : Cx) (e : Expr) (t : TT) : Prop :=
 ∀ (whole : Sem Value) (pins : List (Addr × Obj)) (s : Shared) (σ : St) (H : Hp) (Q : Bool -> Hp -> Prop), Inv X pins σ H s -> t σ H Q -> wpAny (model X.prog X.w) X.A (isTrue e X.env whole) (TP X pins σ Q) X.xe s
theorem PW.pt {X : Cx} {e : Expr} {t : TT} (h : PW X e t) : PT X e t := h _
noncomputable def PA (X : Cx) (es : List Expr) (t : TA) : Prop :=
 ∀ (pos : Pos) (pins : List (Addr × Obj)) (s : Shared) (σ : St) (H : Hp) (Q : List V -> Hp -> Prop), Inv X pins σ H s -> t σ H Q -> wpAny (model X.prog X.w) X.A (spliced (backTo pos (starEach es X.env))) (AP X pins σ Q) X.xe s
noncomputable def PS (X : Cx) (st : Stmt) (t : TS) : Prop :=
 ∀ (pins : List (Addr × Obj)) (s : Shared) (σ : St) (H : Hp) (D : jJ), Inv X pins σ H s -> t D σ H -> wpAny (model X.prog X.w) X.A (exec st X.env) (SP X pins D) X.xe s
noncomputable def PSs (X : Cx) (st : List Stmt) (t : TS) : Prop :=
 ∀ (pins : List (Addr × Obj)) (s : Shared) (σ : St) (H : Hp) (D : jJ), Inv X pins σ H s -> t D σ H -> wpAny (model X.prog X.w) X.A (execs st X.env) (SP X pins D) X.xe s
theorem thn {α : Type} {t : Sem α} {Q Q' : α -> Shared -> Prop} {M : Model} {A : Around} {E : Value -> Shared -> Prop} {s : Shared} (h : wpAny M A t Q E s) (hQ : ∀ a s, Q a s -> Q' a s) : wpAny M A t Q' E s := wpAny_mono h hQ fun _ _ x => x
end L2
namespace L2
open PySem PySem.Spec PyProof.Rows
section
variable {X : Cx}
theorem bin {a b : Expr} {ta tb : TE} (ha : PE X a ta) (hb : PE X b tb) {pins : List (Addr × Obj)} {s : Shared} {σ : St} {H : Hp} {R : V -> V -> Hp -> Prop} (I : Inv X pins σ H s) (h : ta σ H fun x H1 => tb σ H1 fun y H2 => R x y H2)
  {α : Type} {Q : α -> Shared -> Prop} {f : Value -> Value -> Sem α}
  (hf : ∀ v u s2 x y H2, Inv X pins σ H2 s2 -> zC x v -> zC y u -> R x y H2 -> wpAny (model X.prog X.w) X.A (f v u) Q X.xe s2) :
  wpAny (model X.prog X.w) X.A (eval a X.env) (fun v s₁ => wpAny (model X.prog X.w) X.A (eval b X.env) (fun u s₂ => wpAny (model X.prog X.w) X.A (f v u) Q X.xe s₂) X.xe s₁) X.xe s := by
 refine thn (ha pins s σ H _ I h) fun v s1 ⟨x, H1, I1, r1, q1⟩ => ?_
 refine thn (hb pins s1 σ H1 _ I1 q1) fun u s2 ⟨y, H2, I2, r2, q2⟩ => ?_
 exact hf v u s2 x y H2 I2 r1 r2 q2
noncomputable def vR (i : Nat) : TE := fun σ H Q => ∃ v, σ[i]? = some (some v) /\ Q v H
noncomputable def tC (v : V) : TE := fun _ H Q => Q v H
theorem Am {i : Nat} {x : Str} {pos : Pos} (hN : X.N[i]? = some x) (hv : Vis X.env.scope x) (hd : (x == ("__debug__" : Str)) = false := by decide) (hcd : (x == ("__classdict__" : Str)) = false := by decide) : PE X (.Name x pos) (vR i) := by
 intro pins s σ H Q I h
 obtain ⟨v, e, h⟩ := h
 obtain ⟨m, hn, hl⟩ := I.loc
 obtain ⟨u, r, l⟩ := hl i x v hN e hv
 have fin : EP X pins σ Q u s := ⟨v, H, I, r, h⟩
 rcases l with ⟨hk, hm⟩ | ⟨hk, c, hc, hcell⟩
 ·exact wpAny_Name (wpAny_loadName_local I.ok.kind hk hn hm fin) hd
 ·rcases hk with hk | hk
  ·exact wpAny_Name (wpAny_loadName_cell I.ok.kind hk hc hcell fin) hd
  ·exact wpAny_Name (wpAny_loadName_free I.ok.kind hk hc hcell fin hcd) hd
theorem zd {i j pos} : PE X (.Constant (.int i) j pos) (tC (.int i)) := fun _ _ _ H _ I h => wpAny_Constant_int ⟨.int i, H, I.tok _, ⟨_, rfl⟩, h⟩
theorem jH {b j pos} : PE X (.Constant (.bool b) j pos) (tC (.bl b)) := fun _ _ _ H _ I h => Constant_bool ⟨.bl b, H, I, rfl, h⟩
theorem Ag {j pos} : PE X (.Constant .none j pos) (tC .non) := fun _ _ _ H _ I h => Constant_none ⟨.non, H, I, rfl, h⟩
noncomputable def Gl (X : Cx) (x : Str) : Prop := X.env.kindOf x = some .globalImplicit
theorem Wp {E : Value -> Shared -> Prop} {pins : List (Addr × Obj)} {s : Shared} {σ : St} {H : Hp} {x : Str} {u : Value} {pos : Pos} {Q : Value -> Shared -> Prop} (I : Inv X pins σ H s) (hg : Gl X x) (hm : X.mg x = some u) (h : Q u s)
  (hd : (x == ("__debug__" : Str)) = false := by decide) : wpAny (model X.prog X.w) X.A (eval (.Name x pos) X.env) Q E s :=
 Calls.Name_function_global I.ok.kind hg (Calls.loadGlobal_global (by rw [I.ok.glob]; exact I.mod.glob.keeps I.bk) hm h) hd
theorem kz {E : Value -> Shared -> Prop} {pins : List (Addr × Obj)} {s : Shared} {σ : St} {H : Hp} {x : Str} {u : Value} {pos : Pos} {Q : Value -> Shared -> Prop} (I : Inv X pins σ H s) (hg : Gl X x) (hm : X.mg x = none) (hv : bootBuiltins x = some u) (h : Q u s)
  (hn : x ≠ "__name__" := by decide) (hd : (x == ("__debug__" : Str)) = false := by decide) : wpAny (model X.prog X.w) X.A (eval (.Name x pos) X.env) Q E s := by
 obtain ⟨mb, h1, h2⟩ := I.mod.blt
 exact Calls.Name_function_global I.ok.kind hg (Calls.loadGlobal_builtin (by rw [I.ok.glob]; exact I.mod.glob.keeps I.bk) hm (by rw [I.ok.blt]; exact h1.keeps I.bk) ((h2 x hn).trans hv) h) hd
theorem qu {x : Str} {v : V} {u : Value} {pos : Pos} (hg : Gl X x) (hm : X.mg x = none) (hv : bootBuiltins x = some u) (r : zC v u) (hn : x ≠ "__name__" := by decide) (hd : (x == ("__debug__" : Str)) = false := by decide) : PE X (.Name x pos) (tC v) :=
 fun _ _ _ H _ I h => kz I hg hm hv ⟨v, H, I, r, h⟩ hn hd
variable {a b : Expr} {ta tb : TE} {pos : Pos}
noncomputable def PC (X : Cx) (op : CmpOp) (a b : Expr) (t : TE) : Prop :=
 ∀ (pins : List (Addr × Obj)) (s : Shared) (σ : St) (H : Hp) (Q : VK), Inv X pins σ H s -> t σ H Q ->
  wpAny (model X.prog X.w) X.A (eval a X.env) (fun v s₁ => wpAny (model X.prog X.w) X.A (eval b X.env) (fun u s₂ => wpAny (model X.prog X.w) X.A (compareOp op v u) (EP X pins σ Q) X.xe s₂) X.xe s₁) X.xe s
theorem Yf (b : Expr) {op : CmpOp} (h : op ≠ .In) (h2 : op ≠ .NotIn) : behindInMarks op b = false := by
 have e1 : (op == CmpOp.In) = false := by cases op <;> first | rfl | exact absurd rfl h
 have e2 : (op == CmpOp.NotIn) = false := by cases op <;> first | rfl | exact absurd rfl h2
 cases b <;> simp [behindInMarks, e1, e2]
noncomputable def tB (t : TE) : TT := fun σ H Q => t σ H fun x H1 => ∃ c, x = .bl c /\ Q c H1
theorem W1 {op : CmpOp} {t : TE} (h : PC X op a b t) (h1 : behindInMarks op b = false := by first | exact Yf _ (by decide) (by decide) | rfl) : PT X (.Compare a [op] [b] pos) (tB t) := by
 intro pins s σ H Q I hw
 refine wpAny_isTrue_Compare1 (thn (h pins s σ H _ I hw) fun v s1 h1 => thn h1 fun u s2 h2 => thn h2 fun c s3 ⟨x, H1, I1, r1, q1⟩ => ?_) h1
 obtain ⟨d, rfl, q⟩ := q1
 cases r1
 exact wpAny_truthy_bool ⟨H1, I1, q⟩
theorem qZ {e : Expr} {t : TE} (h : PE X e t) (he : ∀ whole, isTrue e X.env whole = (do let v <- whole; standAt e.pos; holding [v] (truthy v)) := by intro _; rfl) : PT X e (tB t) := by
 intro pins s σ H Q I hw
 refine isTrue_plain (thn (h pins s σ H _ I hw) fun v s1 ⟨x, H1, I1, r1, q1⟩ => ?_) (he _)
 obtain ⟨d, rfl, q⟩ := q1
 cases r1
 exact wpAny_truthy_bool ⟨H1, I1, q⟩
variable {tA tB' : TT} {jT : List Expr}
noncomputable def Dw (t u : TT) : TT := fun σ H Q => t σ H fun c H1 => if c = true then u σ H1 Q else Q false H1
noncomputable def tOr (t u : TT) : TT := fun σ H Q => t σ H fun c H1 => if c = true then Q true H1 else u σ H1 Q
noncomputable def Bm (t : TT) : TT := fun σ H Q => t σ H fun c H1 => Q (!c) H1
theorem V3 (ha : PT X a tA) : PW X (.BoolOp .And [a] pos) tA := by
 intro wh pins s σ H Q I h
 refine isTrue_and (thn (ha pins s σ H Q I h) fun c s1 e => ?_)
 cases c with
 | true => exact isTrue_and_nil e
 | false => exact e
theorem kx (ha : PT X a tA) : PW X (.BoolOp .Or [a] pos) tA := by
 intro wh pins s σ H Q I h
 refine isTrue_or (thn (ha pins s σ H Q I h) fun c s1 e => ?_)
 cases c with
 | false => exact isTrue_or_nil e
 | true => exact e
theorem BD (ha : PT X a tA) (hb : PW X (.BoolOp .And (b :: jT) pos) tB') : PW X (.BoolOp .And (a :: b :: jT) pos) (Dw tA tB') := by
 intro wh pins s σ H Q I h
 refine isTrue_and (thn (ha pins s σ H _ I h) fun c s1 ⟨H1, I1, q1⟩ => ?_)
 cases c with
 | true => exact hb wh pins s1 σ H1 Q I1 q1
 | false => exact ⟨H1, I1, q1⟩
theorem yg (ha : PT X a tA) (hb : PW X (.BoolOp .Or (b :: jT) pos) tB') : PW X (.BoolOp .Or (a :: b :: jT) pos) (tOr tA tB') := by
 intro wh pins s σ H Q I h
 refine isTrue_or (thn (ha pins s σ H _ I h) fun c s1 ⟨H1, I1, q1⟩ => ?_)
 cases c with
 | true => exact ⟨H1, I1, q1⟩
 | false => exact hb wh pins s1 σ H1 Q I1 q1
theorem ky (ha : PT X a tA) : PT X (.UnaryOp .Not a pos) (Bm tA) := by
 intro pins s σ H Q I h
 exact isTrue_not (ha pins s σ H (fun c H1 => Q (!c) H1) I h)
noncomputable def Ky (ta tb : TE) : TE := fun σ H Q => ta σ H fun x H1 => ∃ c, x = .bl c /\ if c = true then tb σ H1 Q else Q (.bl false) H1
noncomputable def Bw (ta tb : TE) : TE := fun σ H Q => ta σ H fun x H1 => ∃ c, x = .bl c /\ if c = true then Q (.bl true) H1 else tb σ H1 Q
theorem yw {op} {t : TE} (h : PE X a t) : PE X (.BoolOp op [a] pos) t := fun pins s σ H Q I hw => BoolOp_one (h pins s σ H Q I hw)
theorem yy (ha : PE X a ta) (hb : PE X (.BoolOp .And (b :: jT) pos) tb) : PE X (.BoolOp .And (a :: b :: jT) pos) (Ky ta tb) := by
 intro pins s σ H Q I h
 refine BoolOp_and (thn (ha pins s σ H _ I h) fun v s1 ⟨x, H1, I1, r1, q1⟩ => ?_)
 obtain ⟨c, rfl, q1⟩ := q1
 cases r1
 refine wpAny_truthy_bool ?_
 cases c with
 | true => exact hb pins s1 σ H1 Q I1 q1
 | false => exact ⟨.bl false, H1, I1, rfl, q1⟩
theorem Dm (ha : PE X a ta) (hb : PE X (.BoolOp .Or (b :: jT) pos) tb) : PE X (.BoolOp .Or (a :: b :: jT) pos) (Bw ta tb) := by
 intro pins s σ H Q I h
 refine BoolOp_or (thn (ha pins s σ H _ I h) fun v s1 ⟨x, H1, I1, r1, q1⟩ => ?_)
 obtain ⟨c, rfl, q1⟩ := q1
 cases r1
 refine wpAny_truthy_bool ?_
 cases c with
 | false => exact hb pins s1 σ H1 Q I1 q1
 | true => exact ⟨.bl true, H1, I1, rfl, q1⟩
noncomputable def tIf (t : TT) (ta tb : TE) : TE := fun σ H Q => t σ H fun c H1 => if c = true then ta σ H1 Q else tb σ H1 Q
theorem wG {c : Expr} (hc : PT X c tA) (ha : PE X a ta) (hb : PE X b tb) : PE X (.IfExp c a b pos) (tIf tA ta tb) := by
 intro pins s σ H Q I h
 refine wpAny_IfExp (thn (hc pins s σ H _ I h) fun d s1 ⟨H1, I1, q1⟩ => ?_)
 cases d with
 | true => exact ha pins s1 σ H1 Q I1 q1
 | false => exact hb pins s1 σ H1 Q I1 q1
end
end L2
namespace L2
open PySem PySem.Spec PyProof.Rows
noncomputable def SqL (K : PySem.W.Frag) (H : Hp) (a : Addr) (xs : List V) : Prop :=
 Rd H a (.lst xs) \/
  ∃ (o : Obj) (its : Array Value) (n : Nat), K.lookup a = some o /\ o.cls = .type "list" /\ o.dict = none /\ o.data = .seq its n /\ its.size <= sizeLine /\ zD xs its.toList
noncomputable def SqT (K : PySem.W.Frag) (H : Hp) (a : Addr) (xs : List V) : Prop :=
 Rd H a (.tup xs) \/
  ∃ (o : Obj) (its : Array Value) (n : Nat), K.lookup a = some o /\ o.cls = .type "tuple" /\ o.data = .seq its n /\ its.size <= sizeLine /\ zD xs its.toList
noncomputable def D8 : Value -> Option V
 | .none => some .non
 | .bool b => some (.bl b)
 | .int i _ => some (.int i)
 | .str x _ => some (.str x)
 | .bytes b _ => some (.byt b)
 | .float b _ => some (.flt b)
 | .ref a => some (.ref a)
 | .type n => some (.ty n)
 | _ => none
theorem zC.abs {x : V} {u : Value} (r : zC x u) : D8 u = some x := by
 cases x with
 | non => cases r; rfl
 | bl _ => cases r; rfl
 | int _ => obtain ⟨t, rfl⟩ := r; rfl
 | str _ => obtain ⟨t, rfl⟩ := r; rfl
 | byt _ => obtain ⟨t, rfl⟩ := r; rfl
 | flt _ => obtain ⟨t, rfl⟩ := r; rfl
 | ref _ => cases r; rfl
 | ty _ => cases r; rfl
theorem zC.inj {x y : V} {u : Value} (r : zC x u) (q : zC y u) : x = y := Option.some.inj (r.abs.symm.trans q.abs)
theorem zD.inj : ∀ {xs ys : List V} {us : List Value}, zD xs us -> zD ys us -> xs = ys
 | _, _, _, .nil, .nil => rfl
 | _, _, _, .cons r t, .cons r' t' => by rw [r.inj r', zD.inj t t']
section
variable {X : Cx} {pins : List (Addr × Obj)} {σ : St} {H : Hp} {s : Shared} {a : Addr} {xs ys : List V}
theorem SqL.of {K : PySem.W.Frag} (h : H a = some (.lst xs)) : SqL K H a xs := .inl (.inl h)
theorem SqT.of {K : PySem.W.Frag} (h : H a = some (.tup xs)) : SqT K H a xs := .inl (.inl h)
theorem Inv.list (I : Inv X pins σ H s) (h : SqL X.K H a xs) : ∃ its : List Value, zD xs its /\ PlainL s.heap a its.toArray /\ xs.length <= sizeLine := by
 rcases h with h | ⟨o, its, n, hk, hc, hd, hs, hz, r⟩
 ·obtain ⟨z, its, n, r, e⟩ := h.ok I.hok
  exact ⟨its, r, ⟨_, n, e, rfl, rfl, rfl⟩, z⟩
 ·refine ⟨its.toList, r, ⟨o, n, I.kIn a o hk, hc, hd, by simpa using hs⟩, ?_⟩
  have e := r.length
  simp only [Array.length_toList] at e
  omega
theorem Inv.tuple (I : Inv X pins σ H s) (h : SqT X.K H a xs) : ∃ its : List Value, zD xs its /\ IsTup s.heap a its.toArray /\ xs.length <= sizeLine := by
 rcases h with h | ⟨o, its, n, hk, hc, hs, hz, r⟩
 ·obtain ⟨z, its, r, p⟩ := h.ok I.hok
  exact ⟨its, r, p.is, z⟩
 ·refine ⟨its.toList, r, ⟨o, I.kIn a o hk, hc, n, by simpa using hs⟩, ?_⟩
  have e := r.length
  simp only [Array.length_toList] at e
  omega
theorem Inv.list_inj (I : Inv X pins σ H s) (h : SqL X.K H a xs) (h' : SqL X.K H a ys) : xs = ys := by
 obtain ⟨its, r, ⟨o, n, e, _, _, d⟩, _⟩ := I.list h
 obtain ⟨its', r', ⟨o', n', e', _, _, d'⟩, _⟩ := I.list h'
 rw [e] at e'; cases e'
 rw [d] at d'
 injection d' with d1 _
 have : its = its' := by simpa using congrArg Array.toList d1
 subst this
 exact r.inj r'
theorem Inv.tuple_inj (I : Inv X pins σ H s) (h : SqT X.K H a xs) (h' : SqT X.K H a ys) : xs = ys := by
 obtain ⟨its, r, ⟨o, e, _, n, d⟩, _⟩ := I.tuple h
 obtain ⟨its', r', ⟨o', e', _, n', d'⟩, _⟩ := I.tuple h'
 rw [e] at e'; cases e'
 rw [d] at d'
 injection d' with d1 _
 have : its = its' := by simpa using congrArg Array.toList d1
 subst this
 exact r.inj r'
end
noncomputable abbrev Cx.wish (X : Cx) (E : Value -> Shared -> Prop) : Cx := { X with xe := E }
noncomputable abbrev Cx.nox (X : Cx) : Cx := X.wish fun _ _ => False
theorem Cx.Ok.wish {X : Cx} (ok : X.Ok) (E : Value -> Shared -> Prop) : (X.wish E).Ok :=
 ⟨ok.mod, ok.kind, ok.glob, ok.blt, ok.above, ok.inj, ok.has, ok.cab, ok.hd, ok.frames, ok.stk, ok.exf, ok.bs, ok.bsz, ok.noex, ok.exfs, ok.funs, ok.frf⟩
theorem Cx.Ok.unwish {X : Cx} {E : Value -> Shared -> Prop} (ok : (X.wish E).Ok) : X.Ok :=
 ⟨ok.mod, ok.kind, ok.glob, ok.blt, ok.above, ok.inj, ok.has, ok.cab, ok.hd, ok.frames, ok.stk, ok.exf, ok.bs, ok.bsz, ok.noex, ok.exfs, ok.funs, ok.frf⟩
section
variable {X : Cx} {pins : List (Addr × Obj)} {σ : St} {H : Hp} {s : Shared} {E : Value -> Shared -> Prop}
theorem Inv.wish (I : Inv X pins σ H s) (E : Value -> Shared -> Prop) : Inv (X.wish E) pins σ H s := ⟨I.ok.wish E, I.os, I.bare, I.base, I.loc, I.cell, I.free, I.freeC, I.pin, I.hok, I.len⟩
theorem Inv.unwish (I : Inv (X.wish E) pins σ H s) : Inv X pins σ H s := ⟨I.ok.unwish, I.os, I.bare, I.base, I.loc, I.cell, I.free, I.freeC, I.pin, I.hok, I.len⟩
theorem SP.unwish {D : jJ} {f : Flow} {s' : Shared} (h : SP (X.wish E) pins D f s') : SP X pins D f s' := by
 cases f with
 | next => obtain ⟨σ', H', I, q⟩ := h; exact ⟨σ', H', I.unwish, q⟩
 | brk => obtain ⟨σ', H', I, q⟩ := h; exact ⟨σ', H', I.unwish, q⟩
 | cont => obtain ⟨σ', H', I, q⟩ := h; exact ⟨σ', H', I.unwish, q⟩
 | ret u => obtain ⟨v, σ', H', I, r, q⟩ := h; exact ⟨v, σ', H', I.unwish, r, q⟩
theorem PSs.nox {st : List Stmt} {t : TS} (h : PSs X.nox st t) : PSs X st t := fun pins s σ H D I hw =>
 wpAny_mono (h pins s σ H D (I.wish _) hw) (fun _ _ q => q.unwish) fun _ _ z => False.elim z
end
section
variable {X : Cx} {st : Stmt} {jT : List Stmt} {t u : TS} {e : Expr} {te : TE} {pos : Pos}
noncomputable def X6 : TS := fun D σ H => D.nx σ H
noncomputable def BX (t u : TS) : TS := fun D σ H => t { D with nx := u D } σ H
theorem zN : PSs X [] X6 := fun _ _ σ H _ I h => wpAny_execs_nil ⟨σ, H, I, h⟩
theorem zc (h1 : PS X st t) (h2 : PSs X jT u) : PSs X (st :: jT) (BX t u) := by
 intro pins s σ H D I h
 refine wpAny_execs_cons (thn (h1 pins s σ H { D with nx := u D } I h) fun f s1 q => ?_)
 cases f with
 | next =>
  obtain ⟨σ', H', I', q⟩ := q
  exact h2 pins s1 σ' H' D I' q
 | ret v => exact q
 | brk => exact q
 | cont => exact q
theorem ze (h1 : PS X st t) : PSs X [st] t := by
 intro pins s σ H D I h
 refine wpAny_execs_cons (thn (h1 pins s σ H D I h) fun f s1 q => ?_)
 cases f with
 | next => exact wpAny_execs_nil q
 | ret v => exact q
 | brk => exact q
 | cont => exact q
theorem Inv.quiet {pins : List (Addr × Obj)} {σ : St} {H : Hp} {s : Shared} (I : Inv X pins σ H s) : interactive X.env = false := by simp [interactive, I.ok.kind]
noncomputable def WS (te : TE) : TS := fun D σ H => te σ H fun _ H1 => D.nx σ H1
theorem xF (he : PE X e te) (hs : swapsWith e none pos.line X.env = pure false := by rfl) : PS X (.Expr e pos) (WS te) := by
 intro pins s σ H D I h
 exact wpAny_Expr_any (thn (he pins s σ H _ I h) fun v s1 ⟨x, H1, I1, r1, q1⟩ => ⟨σ, H1, I1, q1⟩) I.quiet hs
noncomputable def BR (te : TE) : TS := fun D σ H => te σ H D.rt
theorem zu (he : PE X e te) : PS X (.Return (some e) pos) (BR te) := by
 intro pins s σ H D I h
 exact wpAny_Return_some (thn (he pins s σ H _ I h) fun v s1 ⟨x, H1, I1, r1, q1⟩ => ⟨x, σ, H1, I1, r1, q1⟩)
noncomputable def BO (c : TT) (t u : TS) : TS := fun D σ H => c σ H fun b H1 => if b = true then t D σ H1 else u D σ H1
theorem qx {c : Expr} {a b : List Stmt} {tc : TT} (hc : PT X c tc) (ha : PSs X a t) (hb : PSs X b u) : PS X (.If c a b pos) (BO tc t u) := by
 intro pins s σ H D I h
 refine wpAny_If (thn (hc pins s σ H _ I h) fun d s1 ⟨H1, I1, q1⟩ => ?_)
 cases d with
 | true => exact ha pins s1 σ H1 D I1 q1
 | false => exact hb pins s1 σ H1 D I1 q1
noncomputable def Qm : TS := fun _ _ _ => False
theorem KE : PS X st Qm := fun _ _ _ _ _ _ h => h.elim
end
noncomputable abbrev TG := V -> St -> Hp -> (St -> Hp -> Prop) -> Prop
noncomputable abbrev TGs := List V -> St -> Hp -> (St -> Hp -> Prop) -> Prop
noncomputable def PG (X : Cx) (target : Expr) (t : TG) : Prop :=
 ∀ (pins : List (Addr × Obj)) (s : Shared) (σ : St) (H : Hp) (v : V) (u : Value) (Q : St -> Hp -> Prop), Inv X pins σ H s -> zC v u -> t v σ H Q ->
  wpAny (model X.prog X.w) X.A (assign target X.env u) (fun _ s' => ∃ σ' H', Inv X pins σ' H' s' /\ Q σ' H') X.xe s
noncomputable def PGs (X : Cx) (ts : List Expr) (t : TGs) : Prop :=
 ∀ (pins : List (Addr × Obj)) (s : Shared) (σ : St) (H : Hp) (vs : List V) (us : List Value) (Q : St -> Hp -> Prop), Inv X pins σ H s -> zD vs us -> t vs σ H Q ->
  wpAny (model X.prog X.w) X.A (assignInOrder ((assignEach ts X.env).map (·.2)) us) (fun _ s' => ∃ σ' H', Inv X pins σ' H' s' /\ Q σ' H') X.xe s
noncomputable abbrev YS := V -> V -> V -> Hp -> (Hp -> Prop) -> Prop
noncomputable def Ba (X : Cx) (t : YS) : Prop :=
 ∀ (pins : List (Addr × Obj)) (s : Shared) (σ : St) (H : Hp) (o i v : V) (ov iv u : Value) (Q : Hp -> Prop), Inv X pins σ H s -> zC o ov -> zC i iv -> zC v u -> t o i v H Q ->
  wpAny (model X.prog X.w) X.A (setItem ov iv u) (fun _ s' => ∃ H', Inv X pins σ H' s' /\ Q H') X.xe s
noncomputable abbrev TIp := V -> V -> Hp -> VK -> Prop
noncomputable def PIp (X : Cx) (op : Operator) (t : TIp) : Prop :=
 ∀ (pins : List (Addr × Obj)) (s : Shared) (σ : St) (H : Hp) (x y : V) (v u : Value) (Q : VK), Inv X pins σ H s -> zC x v -> zC y u -> t x y H Q ->
  wpAny (model X.prog X.w) X.A (inplaceOp op v u) (EP X pins σ Q) X.xe s
section
variable {X : Cx} {pos : Pos}
noncomputable def wD (i : Nat) : TG := fun v σ H Q => Q (σ.set i (some v)) H
theorem zy {i : Nat} {x : Str} (hN : X.N.Nodup) (hi : X.N[i]? = some x) (hx : Loc X.env.scope x) (hf : X.fn x = true \/ X.env.scope.names.lookup x = some .local := by first | exact .inl rfl | exact .inr rfl | assumption) : PG X (.Name x pos) (wD i) := by
 intro pins s σ H v u Q I r h
 exact wpAny_assign_Name (jZ I hN hi hx r (fun s' I' => ⟨_, H, I', h⟩) hf)
noncomputable def W3 : TGs := fun vs σ H Q => vs = [] /\ Q σ H
noncomputable def K0 (t : TG) (u : TGs) : TGs := fun vs σ H Q => ∃ v r, vs = v :: r /\ t v σ H fun σ' H' => u r σ' H' Q
theorem jg : PGs X [] W3 := by
 intro pins s σ H vs us Q I r h
 obtain ⟨e, h⟩ := h
 subst e
 cases r
 exact assignInOrder_nil ⟨σ, H, I, h⟩
theorem zO {e : Expr} {es : List Expr} {t : TG} {u : TGs} (h1 : PG X e t) (h2 : PGs X es u)
  (hs : (assignEach (e :: es) X.env).map (·.2) = assign e X.env :: (assignEach es X.env).map (·.2) := by rfl) : PGs X (e :: es) (K0 t u) := by
 intro pins s σ H vs us Q I r h
 obtain ⟨v, vr, e1, h⟩ := h
 subst e1
 cases r with
 | cons r rr =>
  rw [hs]
  refine assignInOrder_cons (thn (h1 pins s σ H _ _ _ I r h) fun _ s1 ⟨σ1, H1, I1, q1⟩ => ?_)
  exact h2 pins s1 σ1 H1 _ _ Q I1 rr q1
noncomputable def Vt (K : PySem.W.Frag) (n : Nat) (t : TGs) : TG := fun v σ H Q => ∃ a xs, v = .ref a /\ SqT K H a xs /\ xs.length = n /\ t xs σ H Q
theorem AM {es : List Expr} {k : Nat} {t : TGs} {n : Nat} (hc : X.calm = true) (h : PGs X es t)
  (hn : (assignEach es X.env).length = n := by rfl) (hst : (assignEach es X.env).findIdx? (·.1) = none := by rfl) : PG X (.Tuple es k pos) (Vt X.K n t) := by
 intro pins s σ H v u Q I r hw
 obtain ⟨a, xs, e1, hq, hl, hw⟩ := hw
 subst e1
 cases r
 obtain ⟨its, rv, ht, hz⟩ := I.tuple hq
 refine assign_Tuple_tuple (I.ok.hd hc) ht (by simp [hn, <- hl, rv.length]) hst fun h' hx => ?_
 have I1 : Inv X pins σ H { s with heap := h' } := I.kept (t' := s.toks) fun b o e => hx b o (Nat.ne_of_lt (Heap.lt_size e)) e
 exact h pins _ σ H xs _ Q I1 (by simpa using rv) hw
noncomputable def A5 (to ti : TE) (t : YS) : TG := fun v σ H Q => to σ H fun o H1 => ti σ H1 fun i H2 => t o i v H2 fun H3 => Q σ H3
theorem xp {o i : Expr} {to ti : TE} {t : YS} (ho : PE X o to) (hi : PE X i ti) (hs : Ba X t)
  (ha : ∀ v, assign (.Subscript o i pos) X.env v = (do
   let ov <- holding [v] (eval o X.env)
   let iv <- holding [v, ov] (eval i X.env)
   standAt pos
   holding [v, ov, iv] (setItem ov iv v)
   release [v, ov, iv] []) := by intro _; rfl) : PG X (.Subscript o i pos) (A5 to ti t) := by
 intro pins s σ H v u Q I r h
 rw [ha]
 refine wpAny_bind (wpAny_holding (thn (ho pins s σ H _ I h) fun ov s1 ⟨x, H1, I1, r1, q1⟩ => ?_))
 refine wpAny_bind (wpAny_holding (thn (hi pins s1 σ H1 _ I1 q1) fun iv s2 ⟨y, H2, I2, r2, q2⟩ => ?_))
 refine wpAny_bind (wpAny_standAt (wpAny_bind (wpAny_holding (thn (hs pins s2 σ H2 x y v ov iv u _ I2 r1 r2 r q2) fun _ s3 ⟨H3, I3, q3⟩ => ?_))))
 exact wpAny_release ⟨σ, H3, I3, q3⟩
noncomputable def Xm (te : TE) (g : TG) : TS := fun D σ H => te σ H fun x H1 => g x σ H1 D.nx
theorem jP {tg e : Expr} {te : TE} {g : TG} (he : PE X e te) (hg : PG X tg g) (hs : swapsWithSole [tg] e pos.line X.env = pure false := by rfl) (hw : swappedStores [tg] e X.env = pure none := by rfl)
  (h1 : (assignEach [tg] X.env).map (·.2) = [assign tg X.env] := by rfl) : PS X (.Assign [tg] e pos) (Xm te g) := by
 intro pins s σ H D I h
 refine wpAny_Assign_stores (thn (he pins s σ H _ I h) fun v s1 ⟨x, H1, I1, r1, q1⟩ => ?_) hs hw
 rw [h1]
 exact thn (hg pins s1 σ H1 x v _ I1 r1 q1) fun _ s2 q => q
theorem zx {i : Nat} {x : Str} {e : Expr} {te : TE} {pos' : Pos} (hN : X.N.Nodup) (hi : X.N[i]? = some x) (hx : Loc X.env.scope x) (he : PE X e te) (hs : swapsWith e (some (.Name x pos')) pos.line X.env = pure false := by rfl) (hf : X.fn x = true \/ X.env.scope.names.lookup x = some .local := by first | exact .inl rfl | exact .inr rfl | assumption) :
  PS X (.Assign [.Name x pos'] e pos) (Xm te (wD i)) := by
 intro pins s σ H D I h
 refine wpAny_Assign_Name (thn (he pins s σ H _ I h) fun v s1 ⟨y, H1, I1, r1, q1⟩ => ?_) hs
 exact jZ I1 hN hi hx r1 (fun s2 I2 => ⟨_, H1, I2, q1⟩) hf
noncomputable def B2 (i j : Nat) (ta : TA) : TS := fun D σ H => ta σ H fun vs H1 => ∃ v w, vs = [v, w] /\ D.nx ((σ.set i (some v)).set j (some w)) H1
theorem Yh {i j : Nat} {x y : Str} {a b : Expr} {ta : TA} {px py pt : Pos} {kt k2 pt2} (hc : X.calm = true) (hN : X.N.Nodup) (hi : X.N[i]? = some x) (hj : X.N[j]? = some y) (hij : i ≠ j)
  (hx : X.env.scope.names.lookup x = some .local) (hy : X.env.scope.names.lookup y = some .local) (ha : PA X [a, b] ta)
  (hw : swappedStores [.Tuple [.Name x px, .Name y py] kt pt] (.Tuple [a, b] k2 pt2) X.env = pure (some [x, y]))
  (hs : swapsWithSole [.Tuple [.Name x px, .Name y py] kt pt] (.Tuple [a, b] k2 pt2) pos.line X.env = pure false := by rfl) :
  PS X (.Assign [.Tuple [.Name x px, .Name y py] kt pt] (.Tuple [a, b] k2 pt2) pos) (B2 i j ta) := by
 intro pins s σ H D I h
 rw [exec_Assign_arm]
 refine wpAny_bind (wpAny_standAt ?_)
 rw [hs]
 refine wpAny_bind (wpAny_pure ?_)
 rw [if_neg (by decide)]
 refine wpAny_bind (Tuple_ (thn (ha _ pins s σ H _ I h) fun us s1 ⟨vs, H1, I1, r1, q1⟩ => ?_))
 obtain ⟨v, w, e1, q1⟩ := q1
 subst e1
 obtain ⟨u1, u2, rfl, rv, rw'⟩ : ∃ u1 u2, us = [u1, u2] /\ zC v u1 /\ zC w u2 := by
  cases r1 with
  | cons p q =>
   cases q with
   | cons p' q' =>
    cases q'
    exact ⟨_, _, rfl, p, p'⟩
 refine wpAny_newObj_type ?_ (by show 2 <= sizeLine; decide)
 have I2 : Inv X pins σ H1 { s1 with heap := s1.heap.push { cls := .type "tuple", data := .seq [u1, u2].toArray } } := I1.kept (t' := s1.toks) fun b o e => Heap.get?_push_of_some _ e
 rw [hw]
 refine wpAny_bind (wpAny_pure ?_)
 show wpAny (model X.prog X.w) X.A (do rule "assign.swapped-stores"; let items <- unpackItems (.ref s1.heap.objs.size) 2 none; assignInOrder [fun v => bindName X.env y v, fun v => bindName X.env x v] items.reverse; pure Flow.next) _ _ _
 refine wpAny_bind (wpAny_rule (wpAny_bind (unpackItems_tuple (items := #[u1, u2]) (I.ok.hd hc) (IsTup.new s1.heap _) fun h' hx' => ?_)))
 have I3 := I2.kept (h' := h') (t' := s1.toks) fun b o e => hx' b o (Nat.ne_of_lt (Heap.lt_size e)) e
 show wpAny _ _ (assignInOrder [fun v => bindName X.env y v, fun v => bindName X.env x v] [u2, u1] >>= fun _ => pure Flow.next) _ _ _
 refine wpAny_bind (assignInOrder_cons (wpAny_bindName (jZ I3 hN hj (.inl hy) rw' (fun s2 I4 => ?_) (.inr hy))))
 refine assignInOrder_cons (wpAny_bindName (jZ I4 hN hi (.inl hx) rv (fun s3 I5 => assignInOrder_nil (wpAny_pure ?_)) (.inr hx)))
 rw [List.set_comm _ _ (Ne.symm hij)] at I5
 exact ⟨_, H1, I5, q1⟩
noncomputable def Ak (i : Nat) (te : TE) (ti : TIp) : TS := fun D σ H => ∃ x, σ[i]? = some (some x) /\ te σ H fun y H1 => ti x y H1 fun z H2 => D.nx (σ.set i (some z)) H2
theorem Qh {i : Nat} {x : Str} {e : Expr} {te : TE} {op : Operator} {ti : TIp} {pos' : Pos} (hN : X.N.Nodup) (hi : X.N[i]? = some x) (hx : Loc X.env.scope x) (he : PE X e te) (ho : PIp X op ti) (hf : X.fn x = true \/ X.env.scope.names.lookup x = some .local := by first | exact .inl rfl | exact .inr rfl | assumption) :
  PS X (.AugAssign (.Name x pos') op e pos) (Ak i te ti) := by
 intro pins s σ H D I h
 obtain ⟨v, e1, h⟩ := h
 obtain ⟨m, hn, hl⟩ := I.loc
 have vis : Vis X.env.scope x := by rcases hx with k | k; exact .inl k; exact .inr (.inl k)
 obtain ⟨u, r, l⟩ := hl i x v hi e1 vis
 refine wpAny_AugAssign_Name ?_
 have go : wpAny (model X.prog X.w) X.A (eval e X.env) (fun w s₂ => wpAny (model X.prog X.w) X.A (inplaceOp op u w) (fun r s₃ => wpAny (model X.prog X.w) X.A (storeName X.env x r) (fun _ => SP X pins D .next) X.xe s₃) X.xe s₂) X.xe s := by
  refine thn (he pins s σ H _ I h) fun w s1 ⟨y, H1, I1, r1, q1⟩ => ?_
  refine thn (ho pins s1 σ H1 v y u w _ I1 r r1 q1) fun z s2 ⟨zv, H2, I2, r2, q2⟩ => ?_
  exact jZ I2 hN hi hx r2 (fun s3 I3 => ⟨_, H2, I3, q2⟩) hf
 rcases l with ⟨hk, hm⟩ | ⟨hk, c, hc, hcell⟩
 ·exact wpAny_loadName_local I.ok.kind hk hn hm go
 ·rcases hk with hk | hk
  ·exact wpAny_loadName_cell I.ok.kind hk hc hcell go
  ·rcases hx with k | k
   ·have : X.env.scope.names.lookup x = some .free := hk
    rw [k] at this; cases this
   ·have : X.env.scope.names.lookup x = some .free := hk
    rw [k] at this; cases this
noncomputable def ipI (f : Int -> Int -> Int) : TIp := fun x y H Q => ∃ i j, x = .int i /\ y = .int j /\ Q (.int (f i j)) H
theorem Kz : PIp X .Add (ipI fun i j => i + j) := by
 intro pins s σ H x y v u Q I r1 r2 h
 obtain ⟨i, j, e1, e2, q⟩ := h
 subst e1; subst e2
 obtain ⟨t, rfl⟩ := r1
 obtain ⟨t', rfl⟩ := r2
 exact iadd_int ⟨.int _, H, I.tok _, ⟨_, rfl⟩, q⟩
end
section
variable {X : Cx} {pos : Pos}
noncomputable def ZM (c : TT) (tb : TS) : TS := fun D σ H => ∃ W : Nat -> St -> Hp -> Prop, (∃ m, W m σ H) /\ ∀ m σ H, W m σ H ->
 c σ H fun b H1 => if b = true then ∃ N : St -> Hp -> Prop, (∀ σ' H', N σ' H' -> ∃ m', m' < m /\ W m' σ' H') /\ tb { D with nx := N, ct := N, bk := D.nx } σ H1 else D.nx σ H1
theorem qY {c : Expr} {body : List Stmt} {tc : TT} {tb : TS} (hp : PassesOwn (model X.prog X.w) X.A X.env X.xe) (hc : PT X c tc) (hb : PSs X body tb) : PS X (.While c body [] pos) (ZM tc tb) := by
 intro pins s σ H D I h
 obtain ⟨W, ⟨m0, w0⟩, turn⟩ := h
 refine wpAny_While (codeAny_whileLoop (fun n s' => ∃ σ' H', Inv X pins σ' H' s' /\ W n σ' H') ?_ m0 ⟨σ, H, I, w0⟩)
 rintro n s1 ⟨σ1, H1, I1, w1⟩
 refine wpAny_passesOwn hp (thn (hc pins s1 σ1 H1 _ I1 (turn n σ1 H1 w1)) fun b s2 ⟨H2, I2, q2⟩ => ?_)
 cases b with
 | true =>
  obtain ⟨N, hN, q2⟩ := q2
  rw [if_pos rfl]
  refine wpAny_passesOwn hp (thn (hb pins s2 σ1 H2 _ I2 q2) fun f s3 q3 => ?_)
  cases f with
  | next =>
   obtain ⟨σ3, H3, I3, n3⟩ := q3
   obtain ⟨m', hm, w3⟩ := hN σ3 H3 n3
   exact ⟨m', hm, σ3, H3, I3, w3⟩
  | cont =>
   obtain ⟨σ3, H3, I3, n3⟩ := q3
   obtain ⟨m', hm, w3⟩ := hN σ3 H3 n3
   exact ⟨m', hm, σ3, H3, I3, w3⟩
  | brk => exact q3
  | ret v => exact q3
 | false =>
  rw [if_neg Bool.false_ne_true]
  exact wpAny_execs_nil ⟨σ1, H2, I2, q2⟩
end
structure It where
 go : Nat -> Hp -> Prop
 yld : Nat -> Hp -> V -> Hp -> Prop
 stop : Nat -> Hp -> Prop
noncomputable def xx (X : Cx) (pins : List (Addr × Obj)) (H : Hp) (b : Addr) : Prop :=
 H b = none /\ b ≠ X.env.locals /\ b ∉ X.fs /\ (b ∈ X.ex \/ X.s₀.heap.objs.size <= b) /\ (∀ x c, X.env.cells.lookup x = some c -> c ≠ b) /\ ∀ p ∈ X.pn ++ pins, p.1 ≠ b
theorem Inv.fpOk {X : Cx} {pins : List (Addr × Obj)} {σ : St} {H H' : Hp} {s : Shared} {b : Addr} (I : Inv X pins σ H s) (hb : s.heap.objs.size <= b) (hn : H' b = none) : xx X pins H' b := by
 refine ⟨hn, Nat.ne_of_gt (Nat.lt_of_lt_of_le I.lt hb), I.nofs hb, .inr (Nat.le_trans I.sz hb), fun x c e z => ?_, fun p hp z => ?_⟩
 ·obtain ⟨v, q⟩ := I.cell x c e
  exact absurd (Nat.lt_of_lt_of_le q.lt (by rw [z]; exact hb)) (Nat.lt_irrefl _)
 ·exact absurd (Nat.lt_of_lt_of_le (Heap.lt_size (I.pin p hp).1) (by rw [z]; exact hb)) (Nat.lt_irrefl _)
structure Zt (P : Program) (w : World) (K : PySem.W.Frag) (tg : Expr) (J : It) (fp : List Addr) (it : Addr) (tn : Nat -> Heap -> Prop) : Prop where
 mem : it ∈ fp
 obj : ∀ i h, tn i h -> ∀ b ∈ fp, ∃ o, h.get? b = some o /\ ∀ v, o.data ≠ .cell v
 keep : ∀ i h h', tn i h -> (∀ b ∈ fp, ∀ o, h.get? b = some o -> h'.get? b = some o) -> tn i h'
 item : ∀ (X : Cx), X.prog = P -> X.w = w -> X.K = K -> X.calm = true -> ∀ (i : Nat) (pins : List (Addr × Obj)) (s : Shared) (σ : St) (H : Hp) (E : Value -> Shared -> Prop), Inv X pins σ H s -> (∀ b ∈ fp, xx X pins H b) -> tn i s.heap -> J.go i H ->
  wpAny (model P w) X.A (pyNext (.ref it)) (fun r s1 => ∃ u, r = some u /\
   wpAny (model P w) X.A (letOwnedTupleGo tg (.ref it) u) (fun _ s2 => ∃ x H', Inv X pins σ H' s2 /\ zC x u /\ J.yld i H x H' /\ tn (i + 1) s2.heap /\ ∀ b ∈ fp, H' b = none) E s1) E s
 done : ∀ (X : Cx), X.prog = P -> X.w = w -> X.K = K -> X.calm = true -> ∀ (i : Nat) (pins : List (Addr × Obj)) (s : Shared) (σ : St) (H : Hp) (E : Value -> Shared -> Prop), Inv X pins σ H s -> (∀ b ∈ fp, xx X pins H b) -> tn i s.heap -> J.stop i H ->
  wpAny (model P w) X.A (pyNext (.ref it)) (fun r s1 => r = none /\ Inv X pins σ H s1) E s
 self : ∀ (A : Around) (i : Nat) (s : Shared) (Q : Value -> Shared -> Prop) (E : Value -> Shared -> Prop), tn i s.heap -> Q (.ref it) s -> wpAny (model P w) A (pyIter (.ref it)) Q E s
noncomputable abbrev TI := St -> Hp -> (It -> Hp -> Prop) -> Prop
noncomputable def PIE (X : Cx) (pins : List (Addr × Obj)) (σ : St) (tg : Expr) (R : It -> Hp -> Prop) (itv : Value) (s2 : Shared) : Prop :=
 ∃ (it : Addr) (fp : List Addr) (tn : Nat -> Heap -> Prop) (J : It) (H' : Hp), itv = .ref it /\ Inv X pins σ H' s2 /\ Zt X.prog X.w X.K tg J fp it tn /\ tn 0 s2.heap /\ (∀ b ∈ fp, xx X pins H' b) /\ R J H'
noncomputable def PI (X : Cx) (tg iter : Expr) (wi : TI) : Prop :=
 ∀ (pins : List (Addr × Obj)) (s : Shared) (σ : St) (H : Hp) (R : It -> Hp -> Prop), Inv X pins σ H s -> wi σ H R ->
  wpAny (model X.prog X.w) X.A (eval iter X.env) (fun v s1 => wpAny (model X.prog X.w) X.A (pyIter v) (PIE X pins σ tg R) X.xe s1) X.xe s
theorem XR {M : Model} {A : Around} {E : Value -> Shared -> Prop} {s : Shared} {tg : Expr} {it : Addr} {u : Value} {o : Obj} {n : String} {vs : Array Value} {Q : Unit -> Shared -> Prop} (ho : s.heap.get? it = some o) (hc : o.cls = .type n) (hd : o.data = .fields vs)
    (hn : ["enumerate", "zip", "dict_itemiterator", "dict_reverseitemiterator", "odict_iterator", "itertools.zip_longest", "itertools.pairwise"].contains n = false) (hQ : Q () s) : wpAny M A (letOwnedTupleGo tg (.ref it) u) Q E s := by
  unfold letOwnedTupleGo
  cases tg <;> first
    | exact wpAny_pure hQ
    | (cases u <;> first
        | exact wpAny_pure hQ
        | (refine wpAny_bind (wpAny_load ho ?_)
           rw [hc, hd]
           show wpAny M A (if (["enumerate", "zip", "dict_itemiterator", "dict_reverseitemiterator", "odict_iterator", "itertools.zip_longest", "itertools.pairwise"].contains n && vs[0]? == some (rawInt _)) = true then _ else _) Q E s
           rw [if_neg (by intro h; rw [hn, Bool.false_and] at h; cases h)]
           exact wpAny_pure hQ))
noncomputable def Itl (K : PySem.W.Frag) (a : Addr) : It :=
 ⟨fun i H => ∃ xs x, SqL K H a xs /\ xs[i]? = some x, fun i H x H' => H' = H /\ ∀ xs, SqL K H a xs -> xs[i]? = some x, fun i H => ∃ xs, SqL K H a xs /\ xs.length <= i⟩
noncomputable def Itt (K : PySem.W.Frag) (a : Addr) : It :=
 ⟨fun i H => ∃ xs x, SqT K H a xs /\ xs[i]? = some x, fun i H x H' => H' = H /\ ∀ xs, SqT K H a xs -> xs[i]? = some x, fun i H => ∃ xs, SqT K H a xs /\ xs.length <= i⟩
noncomputable def Itr (lo : Int) (n : Nat) : It := ⟨fun i _ => i < n, fun i H x H' => H' = H /\ x = .int (lo + i), fun i _ => n <= i⟩
theorem ve {P : Program} {w : World} {K : PySem.W.Frag} {tg : Expr} (a it : Addr) : Zt P w K tg (Itl K a) [it] it (fun i h => h.IsListIter it a i) where
 mem := by simp
 obj := fun i h st b hb => by
  have e : b = it := by simpa using hb
  subst e
  obtain ⟨o, e, c, d⟩ := st
  exact ⟨o, e, fun v z => by rw [d] at z; cases z⟩
 keep := fun i h h' st k => st.at fun o e => k it (by simp) o e
 item := by
  intro X hP hw hK hc i pins s σ H E I hf st hg
  subst hP hw hK
  obtain ⟨xs, x, hq, hx⟩ := hg
  obtain ⟨its, rv, p, hz⟩ := I.list hq
  obtain ⟨u, hu, ru⟩ := rv.get hx
  obtain ⟨f0, f1, f2, f3, f4, f5⟩ := hf it (by simp)
  refine wpAny_pyNext_list_item st p.isList (x := u) (by simpa using hu) fun h' st' sb => ?_
  have I1 : Inv X pins σ H { s with heap := h' } := I.turned (t' := s.toks) (fun b o hb e => (sb.2 b hb).trans e) f0 f1 f3 f4 f5
  obtain ⟨o, e, c, d⟩ := id st'
  exact ⟨u, rfl, XR (s := { s with heap := h' }) e c d (by decide) ⟨x, H, I1, ru, ⟨rfl, fun ys hy => by rw [I.list_inj hy hq]; exact hx⟩, st', fun b hb => (hf b hb).1⟩⟩
 done := by
  intro X hP hw hK hc i pins s σ H E I hf st hg
  subst hP hw hK
  obtain ⟨xs, hq, hx⟩ := hg
  obtain ⟨its, rv, p, hz⟩ := I.list hq
  obtain ⟨f0, f1, f2, f3, f4, f5⟩ := hf it (by simp)
  have hl := rv.length
  exact wpAny_pyNext_list_end (I.ok.hd hc) st p.isList (by simp; omega) fun h' eb => ⟨rfl, I.turned (t' := s.toks) (fun b o hb e => eb b o hb e) f0 f1 f3 f4 f5⟩
 self := fun _ _ _ _ _ st h => wpAny_pyIter_listiter st h
theorem ZY {P : Program} {w : World} {K : PySem.W.Frag} {tg : Expr} (a it : Addr) : Zt P w K tg (Itt K a) [it] it (fun i h => h.IsTupleIter it a i) where
 mem := by simp
 obj := fun i h st b hb => by
  have e : b = it := by simpa using hb
  subst e
  obtain ⟨o, e, c, d⟩ := st
  exact ⟨o, e, fun v z => by rw [d] at z; cases z⟩
 keep := fun i h h' st k => st.at fun o e => k it (by simp) o e
 item := by
  intro X hP hw hK hc i pins s σ H E I hf st hg
  subst hP hw hK
  obtain ⟨xs, x, hq, hx⟩ := hg
  obtain ⟨its, rv, p, hz⟩ := I.tuple hq
  obtain ⟨u, hu, ru⟩ := rv.get hx
  obtain ⟨f0, f1, f2, f3, f4, f5⟩ := hf it (by simp)
  refine wpAny_pyNext_tuple_item st (show s.heap.IsTuple a its.toArray from p) (x := u) (by simpa using hu) fun h' st' sb => ?_
  have I1 : Inv X pins σ H { s with heap := h' } := I.turned (t' := s.toks) (fun b o hb e => (sb.2 b hb).trans e) f0 f1 f3 f4 f5
  obtain ⟨o, e, c, d⟩ := id st'
  exact ⟨u, rfl, XR (s := { s with heap := h' }) e c d (by decide) ⟨x, H, I1, ru, ⟨rfl, fun ys hy => by rw [I.tuple_inj hy hq]; exact hx⟩, st', fun b hb => (hf b hb).1⟩⟩
 done := by
  intro X hP hw hK hc i pins s σ H E I hf st hg
  subst hP hw hK
  obtain ⟨xs, hq, hx⟩ := hg
  obtain ⟨its, rv, p, hz⟩ := I.tuple hq
  obtain ⟨f0, f1, f2, f3, f4, f5⟩ := hf it (by simp)
  have hl := rv.length
  exact wpAny_pyNext_tuple_end (I.ok.hd hc) st (show s.heap.IsTuple a its.toArray from p) (by simp; omega) fun h' eb => ⟨rfl, I.turned (t' := s.toks) (fun b o hb e => eb b o hb e) f0 f1 f3 f4 f5⟩
 self := fun _ _ _ _ _ st h => wpAny_pyIter_tupleiter st h
theorem Qu {P : Program} {w : World} {K : PySem.W.Frag} {tg : Expr} (it : Addr) (lo : Int) (n : Nat) : Zt P w K tg (Itr lo n) [it] it (fun i h => IsRangeIter h it (lo + (i : Nat) * 1) ((n : Int) - (i : Nat)) 1) where
 mem := by simp
 obj := fun i h st b hb => by
  have e : b = it := by simpa using hb
  subst e
  exact ⟨_, st, fun v z => by
   have z' : Data.fields _ = Data.cell v := z
   cases z'⟩
 keep := fun i h h' st k => k it (by simp) _ st
 item := by
  intro X hP hw hK hc i pins s σ H E I hf st hg
  subst hP hw hK
  obtain ⟨f0, f1, f2, f3, f4, f5⟩ := hf it (by simp)
  have W := Walks.range (prog := X.prog) (w := X.w) (I.ok.hd hc) it lo 1 n
  refine W.item i s _ _ hg st fun v h' tk hv st' kk => ?_
  obtain ⟨t, rfl⟩ := hv
  have I1 : Inv X pins σ H { s with heap := h', toks := tk } := I.turned (fun b o hb e => kk b o (by simpa using hb) e) f0 f1 f3 f4 f5
  refine ⟨_, rfl, XR (s := { s with heap := h', toks := tk }) (n := "range_iterator") st' rfl rfl (by decide) ⟨.int (lo + i), H, I1, ⟨t, ?_⟩, ⟨rfl, rfl⟩, st', fun b hb => (hf b hb).1⟩⟩
  rw [Int.mul_one]
 done := by
  intro X hP hw hK hc i pins s σ H E I hf st hg
  subst hP hw hK
  obtain ⟨f0, f1, f2, f3, f4, f5⟩ := hf it (by simp)
  exact wpAny_pyNext_range_end (I.ok.hd hc) st (by have : n <= i := hg; omega) fun h' eb => ⟨rfl, I.turned (t' := s.toks) (fun b o hb e => eb b o hb e) f0 f1 f3 f4 f5⟩
 self := fun _ _ _ _ _ st h => wpAny_pyIter_rangeiter st h
end L2
namespace L2
open PySem PySem.Spec PyProof.Rows
section
variable {X : Cx} {tg : Expr}
noncomputable def WD (K : PySem.W.Frag) (tl : TE) : TI := fun σ H R => tl σ H fun x H1 => ∃ a, x = .ref a /\ (∃ xs, SqL K H1 a xs) /\ R (Itl K a) H1
theorem Vp {l : Expr} {tl : TE} (hl : PE X l tl) : PI X tg l (WD X.K tl) := by
 intro pins s σ H R I h
 refine thn (hl pins s σ H _ I h) fun v s1 ⟨x, H1, I1, r1, q1⟩ => ?_
 obtain ⟨a, e, ⟨xs, hq⟩, q⟩ := q1
 subst e
 cases r1
 obtain ⟨its, rv, p, hz⟩ := I1.list hq
 refine wpAny_pyIter_list p.isList ?_
 refine ⟨s1.heap.objs.size, [s1.heap.objs.size], _, _, H1, rfl, I1.kept (t' := s1.toks) fun b o e => Heap.get?_push_of_some _ e, ve a _, ⟨_, Heap.get?_push_size _ rfl, rfl, rfl⟩, fun b hb => ?_, q⟩
 have e : b = s1.heap.objs.size := by simpa using hb
 subst e
 exact I1.fpOk (Nat.le_refl _) (I1.hok.fresh (Nat.le_refl _))
theorem K4 {pins : List (Addr × Obj)} {σ : St} {H : Hp} {s : Shared} {R : It -> Hp -> Prop} {E : Value -> Shared -> Prop} {lo hi : Int} {t u v : Tok} {tk : Nat} (I : Inv X pins σ H s) (h1 : -(2 ^ 62) <= lo) (h2 : lo < 2 ^ 62) (h3 : -(2 ^ 62) <= hi) (h4 : hi < 2 ^ 62)
  (q : R (Itr lo (hi - lo).toNat) H) : wpAny (model X.prog X.w) X.A (pyIter (.ref s.heap.objs.size)) (PIE X pins σ tg R) E { s with heap := s.heap.push { cls := .type "range", data := .fields #[.int lo t, .int hi u, .int 1 v] }, toks := tk } := by
 refine wpAny_pyIter_range (IsRange.new ..) (small_one h1 h2 h3 h4) ?_
 have I1 : Inv X pins σ H { s with heap := s.heap.push { cls := .type "range", data := .fields #[.int lo t, .int hi u, .int 1 v] }, toks := tk } := I.kept fun b o e => Heap.get?_push_of_some _ e
 refine ⟨(s.heap.push { cls := .type "range", data := .fields #[.int lo t, .int hi u, .int 1 v] }).objs.size, [(s.heap.push { cls := .type "range", data := .fields #[.int lo t, .int hi u, .int 1 v] }).objs.size], _, _, H, rfl,
  I1.kept (t' := tk) fun b o e => Heap.get?_push_of_some _ e, Qu _ lo (hi - lo).toNat, ?_, fun b hb => ?_, q⟩
 ·have e1 : lo + ((0 : Nat) : Int) * 1 = lo := by simp
  have e2 : (((hi - lo).toNat : Nat) : Int) - ((0 : Nat) : Int) = Builtin.Range.rangeSize lo hi 1 := by rw [rangeSize_one]; split <;> omega
  show IsRangeIter _ _ (lo + ((0 : Nat) : Int) * 1) ((((hi - lo).toNat : Nat) : Int) - ((0 : Nat) : Int)) 1
  rw [e1, e2]
  exact Heap.get?_push_size _ rfl
 ·have e : b = (s.heap.push { cls := .type "range", data := .fields #[.int lo t, .int hi u, .int 1 v] }).objs.size := by simpa using hb
  subst e
  exact I1.fpOk (Nat.le_refl _) (I1.hok.fresh (Nat.le_refl _))
noncomputable def Yl (ta : TA) : TI := fun σ H R => ta σ H fun vs H1 => ∃ j : Int, vs = [.int j] /\ -(2 ^ 62) <= j /\ j < 2 ^ 62 /\ R (Itr 0 j.toNat) H1
theorem qy {a : Expr} {ta : TA} {p pos : Pos} (hg : Gl X "range") (hm : X.mg "range" = none) (ha : PA X [a] ta) (hs : starEach [a] X.env = [(false, eval a X.env)] := by rfl) : PI X tg (.Call (.Name "range" p) [a] [] pos) (Yl ta) := by
 intro pins s σ H R I h
 refine Call_ (kz I hg hm boot_range (PyProof.Rows.callWith_type1 (thn (ha pos pins s σ H _ I h) fun us s1 ⟨vs, H1, I1, r1, q1⟩ => ?_) hs rfl))
 obtain ⟨j, e, q1, q2, q⟩ := q1
 subst e
 cases r1 with
 | cons r rr =>
  cases rr
  obtain ⟨t, rfl⟩ := r
  exact call_range_1 (K4 I1 (by omega) (by omega) q1 q2 (by simpa using q))
noncomputable def Bq (wi : TI) (g : TG) (tb : TS) : TS := fun D σ H => wi σ H fun J H1 => ∃ W : Nat -> Nat -> St -> Hp -> Prop, (∃ m, W 0 m σ H1) /\ ∀ i m σ H, W i m σ H ->
 (J.stop i H /\ D.nx σ H) \/ (J.go i H /\ ∃ N : St -> Hp -> Prop, (∀ σ' H', N σ' H' -> ∃ m', m' < m /\ W (i + 1) m' σ' H') /\ ∀ x H', J.yld i H x H' -> g x σ H' fun σ2 H2 => tb { D with nx := N, ct := N, bk := D.nx } σ2 H2)
noncomputable def ym (fp : List Addr) (h : Heap) : List (Addr × Obj) := fp.filterMap fun b => (h.get? b).map fun o => (b, o)
theorem jy {fp : List Addr} {h : Heap} {b : Addr} {o : Obj} (hb : b ∈ fp) (e : h.get? b = some o) : (b, o) ∈ ym fp h := List.mem_filterMap.mpr ⟨b, hb, by rw [e]; rfl⟩
theorem JA {fp : List Addr} {h : Heap} {p : Addr × Obj} (hp : p ∈ ym fp h) : p.1 ∈ fp /\ h.get? p.1 = some p.2 := by
 obtain ⟨b, hb, e⟩ := List.mem_filterMap.mp hp
 cases q : h.get? b with
 | none => rw [q] at e; cases e
 | some o =>
  rw [q] at e
  have e' : (b, o) = p := Option.some.inj e
  subst e'
  exact ⟨hb, q⟩
theorem Inv.pinned {pins : List (Addr × Obj)} {σ : St} {H : Hp} {s : Shared} {fp : List Addr} (I : Inv X pins σ H s) (hf : ∀ b ∈ fp, xx X pins H b) (ho : ∀ b ∈ fp, ∃ o, s.heap.get? b = some o /\ ∀ v, o.data ≠ .cell v) : Inv X (pins ++ ym fp s.heap) σ H s :=
 I.pins_of fun p hp => (List.mem_append.mp hp).elim (fun z => I.pin p (List.mem_append_right _ z)) fun z => by
  obtain ⟨hb, e⟩ := JA z
  obtain ⟨f0, f1, f2, _⟩ := hf p.1 hb
  obtain ⟨o, e', d⟩ := ho p.1 hb
  rw [e] at e'; cases e'
  exact ⟨e, f0, f1, f2, d⟩
theorem Inv.unpinned {pins pl : List (Addr × Obj)} {σ : St} {H : Hp} {s : Shared} (I : Inv X (pins ++ pl) σ H s) : Inv X pins σ H s := I.pins_of fun p hp => I.pin p (List.mem_append_right _ (List.mem_append_left _ hp))
theorem jG {iter : Expr} {body : List Stmt} {wi : TI} {g : TG} {tb : TS} {pos : Pos} (hp : PassesOwn (model X.prog X.w) X.A X.env X.xe) (hc : X.calm = true) (hi : PI X tg iter wi) (hg : PG X tg g) (hb : PSs X body tb)
  (hs : ∀ x, foldedSetIterable iter X.env x = pure x := by intro _; rfl) : PS X (.For tg iter body [] pos) (Bq wi g tb) := by
 intro pins s σ H D I h
 refine wpAny_For (thn (hi pins s σ H _ I h) fun v s1 h1 => thn h1 fun itv s2 h2 => ?_) hs
 obtain ⟨it, fp, tn, J, H2, e, I2, T, st2, f2, W, ⟨m0, w0⟩, turn⟩ := h2
 subst e
 have stat : ∀ {H' : Hp}, (∀ b ∈ fp, H' b = none) -> ∀ b ∈ fp, xx X pins H' b := fun hn b hb => ⟨hn b hb, (f2 b hb).2⟩
 refine codeAny_forLoop_any (fun n s' => ∃ i σ' H', Inv X pins σ' H' s' /\ tn i s'.heap /\ (∀ b ∈ fp, H' b = none) /\ W i n σ' H') ?_ m0 ⟨0, σ, H2, I2, st2, fun b hb => (f2 b hb).1, w0⟩
 rintro n s3 ⟨i, σ3, H3, I3, st3, fr3, w3⟩
 rcases turn i n σ3 H3 w3 with ⟨stop, qn⟩ | ⟨go, N, hN, step⟩
 ·refine wpAny_passesOwn hp (thn (T.done X rfl rfl rfl hc i pins s3 σ3 H3 X.xe I3 (stat fr3) st3 stop) fun r s4 ⟨hr, I4⟩ => ?_)
  subst hr
  exact wpAny_execs_nil ⟨σ3, H3, I4, qn⟩
 ·refine wpAny_passesOwn hp (thn (T.item X rfl rfl rfl hc i pins s3 σ3 H3 X.xe I3 (stat fr3) st3 go) fun r s4 ⟨u, hr, h4⟩ => ?_)
  subst hr
  refine wpAny_passesOwn hp (thn h4 fun _ s5 ⟨x, H5, I5, r5, y5, st5, fr5⟩ => ?_)
  have I5' := I5.pinned (stat fr5) (T.obj _ _ st5)
  refine wpAny_passesOwn hp (thn (hg _ s5 σ3 H5 x u _ I5' r5 (step x H5 y5)) fun _ s6 ⟨σ6, H6, I6, q6⟩ => ?_)
  refine wpAny_passesOwn hp (thn (hb _ s6 σ6 H6 _ I6 q6) fun f s7 q7 => ?_)
  have again : ∀ {σ7 : St} {H7 : Hp}, Inv X (pins ++ ym fp s5.heap) σ7 H7 s7 -> N σ7 H7 -> ∃ m, m < n /\ ∃ i σ' H', Inv X pins σ' H' s7 /\ tn i s7.heap /\ (∀ b ∈ fp, H' b = none) /\ W i m σ' H' := fun {σ7 H7} I7 n7 => by
   obtain ⟨m', hm, w7⟩ := hN σ7 H7 n7
   refine ⟨m', hm, i + 1, σ7, H7, I7.unpinned, T.keep _ _ _ st5 fun b hb o e => (I7.pin (b, o) (List.mem_append_right _ (List.mem_append_right _ (jy hb e)))).1, fun b hb => ?_, w7⟩
   obtain ⟨o, e, d⟩ := T.obj _ _ st5 b hb
   exact (I7.pin (b, o) (List.mem_append_right _ (List.mem_append_right _ (jy hb e)))).2.1
  cases f with
  | next => obtain ⟨σ7, H7, I7, n7⟩ := q7; exact again I7 n7
  | cont => obtain ⟨σ7, H7, I7, n7⟩ := q7; exact again I7 n7
  | brk => obtain ⟨σ7, H7, I7, q7⟩ := q7; exact ⟨σ7, H7, I7.unpinned, q7⟩
  | ret v => obtain ⟨x7, σ7, H7, I7, r7, q7⟩ := q7; exact ⟨x7, σ7, H7, I7.unpinned, r7, q7⟩
end
theorem K2 {K : PySem.W.Frag} {a : Addr} {xs : List V} {g : TG} {tb : TS} {D : jJ} {σ : St} {H : Hp} (Pv : Nat -> St -> Hp -> Prop) (h0 : Pv 0 σ H) (hl : ∀ i σ H, i <= xs.length -> Pv i σ H -> SqL K H a xs)
  (hs : ∀ i x σ H, xs[i]? = some x -> Pv i σ H -> g x σ H fun σ2 H2 => tb { D with nx := Pv (i + 1), ct := Pv (i + 1), bk := D.nx } σ2 H2) (hd : ∀ σ H, Pv xs.length σ H -> D.nx σ H) :
  ∃ W : Nat -> Nat -> St -> Hp -> Prop, (∃ m, W 0 m σ H) /\ ∀ i m σ H, W i m σ H ->
   ((Itl K a).stop i H /\ D.nx σ H) \/ ((Itl K a).go i H /\ ∃ N : St -> Hp -> Prop, (∀ σ' H', N σ' H' -> ∃ m', m' < m /\ W (i + 1) m' σ' H') /\ ∀ x H', (Itl K a).yld i H x H' -> g x σ H' fun σ2 H2 => tb { D with nx := N, ct := N, bk := D.nx } σ2 H2) := by
 refine ⟨fun i m σ H => m = xs.length - i /\ i <= xs.length /\ Pv i σ H, ⟨xs.length, by simp, Nat.zero_le _, h0⟩, ?_⟩
 rintro i m σ H ⟨rfl, hi, p⟩
 have q := hl i σ H hi p
 by_cases hlt : i < xs.length
 ·refine .inr ⟨⟨xs, xs[i], q, by simp [hlt]⟩, Pv (i + 1), fun σ' H' p' => ⟨xs.length - (i + 1), by omega, rfl, hlt, p'⟩, fun x H' y => ?_⟩
  obtain ⟨e, y⟩ := y
  subst e
  exact hs i x σ _ (y xs q) p
 ·have e : i = xs.length := by omega
  subst e
  exact .inl ⟨⟨xs, q, Nat.le_refl _⟩, hd σ H p⟩
theorem Km {lo : Int} {n : Nat} {g : TG} {tb : TS} {D : jJ} {σ : St} {H : Hp} (Pv : Nat -> St -> Hp -> Prop) (h0 : Pv 0 σ H)
  (hs : ∀ i σ H, i < n -> Pv i σ H -> g (.int (lo + i)) σ H fun σ2 H2 => tb { D with nx := Pv (i + 1), ct := Pv (i + 1), bk := D.nx } σ2 H2) (hd : ∀ σ H, Pv n σ H -> D.nx σ H) :
  ∃ W : Nat -> Nat -> St -> Hp -> Prop, (∃ m, W 0 m σ H) /\ ∀ i m σ H, W i m σ H ->
   ((Itr lo n).stop i H /\ D.nx σ H) \/ ((Itr lo n).go i H /\ ∃ N : St -> Hp -> Prop, (∀ σ' H', N σ' H' -> ∃ m', m' < m /\ W (i + 1) m' σ' H') /\ ∀ x H', (Itr lo n).yld i H x H' -> g x σ H' fun σ2 H2 => tb { D with nx := N, ct := N, bk := D.nx } σ2 H2) := by
 refine ⟨fun i m σ H => m = n - i /\ i <= n /\ Pv i σ H, ⟨n, by simp, Nat.zero_le _, h0⟩, ?_⟩
 rintro i m σ H ⟨rfl, hi, p⟩
 by_cases hlt : i < n
 ·refine .inr ⟨hlt, Pv (i + 1), fun σ' H' p' => ⟨n - (i + 1), by omega, rfl, hlt, p'⟩, fun x H' y => ?_⟩
  obtain ⟨e, y⟩ := y
  subst e y
  exact hs i σ _ hlt p
 ·have e : i = n := by omega
  subst e
  exact .inl ⟨Nat.le_refl _, hd σ H p⟩
theorem yb {c : TT} {tb : TS} {D : jJ} {σ : St} {H : Hp} (Pv : St -> Hp -> Prop) (μ : St -> Hp -> Nat) (h0 : Pv σ H)
  (hs : ∀ σ H, Pv σ H -> c σ H fun b H1 => if b = true then tb { D with nx := fun σ' H' => Pv σ' H' /\ μ σ' H' < μ σ H, ct := fun σ' H' => Pv σ' H' /\ μ σ' H' < μ σ H, bk := D.nx } σ H1 else D.nx σ H1)
  (mono : ∀ σ H Q Q', (∀ b H1, Q b H1 -> Q' b H1) -> c σ H Q -> c σ H Q') : ZM c tb D σ H := by
 refine ⟨fun m σ H => m = μ σ H /\ Pv σ H, ⟨_, rfl, h0⟩, ?_⟩
 rintro m σ H ⟨rfl, p⟩
 refine mono σ H _ _ (fun b H1 q => ?_) (hs σ H p)
 cases b with
 | true => exact ⟨_, fun σ' H' ⟨p', l⟩ => ⟨_, l, rfl, p'⟩, q⟩
 | false => exact q
end L2
namespace L2
open PySem PySem.Spec PyProof.Rows
noncomputable abbrev R2 := V -> V -> Hp -> VK -> Prop
noncomputable def OpR (X : Cx) (f : Value -> Value -> Sem Value) (r : R2) : Prop :=
 ∀ (pins : List (Addr × Obj)) (s : Shared) (σ : St) (H : Hp) (x y : V) (v u : Value) (Q : VK), Inv X pins σ H s -> zC x v -> zC y u -> r x y H Q ->
  wpAny (model X.prog X.w) X.A (f v u) (EP X pins σ Q) X.xe s
noncomputable def qN (X : Cx) (f : Value) (r : List V -> Hp -> VK -> Prop) : Prop :=
 ∀ (pins : List (Addr × Obj)) (s : Shared) (σ : St) (H : Hp) (xs : List V) (us : List Value) (Q : VK), Inv X pins σ H s -> zD xs us -> r xs H Q ->
  wpAny (model X.prog X.w) X.A (call f us) (EP X pins σ Q) X.xe s
noncomputable def tOp (r : R2) (ta tb : TE) : TE := fun σ H Q => ta σ H fun x H1 => tb σ H1 fun y H2 => r x y H2 Q
noncomputable def rI (C : Int -> Int -> Prop) (g : Int -> Int -> V) : R2 := fun x y H Q => ∃ i j, x = .int i /\ y = .int j /\ C i j /\ Q (g i j) H
noncomputable def rI0 (g : Int -> Int -> V) : R2 := fun x y H Q => ∃ i j, x = .int i /\ y = .int j /\ Q (g i j) H
section
variable {X : Cx} {a b c : Expr} {ta tb tc : TE} {pos : Pos}
theorem BG (ha : PE X a ta) (hb : PE X b tb) {pins : List (Addr × Obj)} {s : Shared} {σ : St} {H : Hp} {R : V -> V -> Hp -> Prop} (I : Inv X pins σ H s)
  (h : ta σ H fun x H1 => tb σ H1 fun y H2 => R x y H2) {Q : Value -> Shared -> Prop} {f : Value -> Value -> Sem Value}
  (hf : ∀ v u s2 x y H2, Inv X pins σ H2 s2 -> zC x v -> zC y u -> R x y H2 -> wpAny (model X.prog X.w) X.A (f v u) Q X.xe s2) :
  wpAny (model X.prog X.w) X.A (eval a X.env) (fun v s₁ => wpAny (model X.prog X.w) X.A (eval b X.env) (fun u s₂ => wpAny (model X.prog X.w) X.A (f v u) Q X.xe s₂) X.xe s₁) X.xe s := by
 refine thn (ha pins s σ H _ I h) fun v s1 ⟨x, H1, I1, r1, q1⟩ => ?_
 refine thn (hb pins s1 σ H1 _ I1 q1) fun u s2 ⟨y, H2, I2, r2, q2⟩ => ?_
 exact hf v u s2 x y H2 I2 r1 r2 q2
theorem zo {op : Operator} {r : R2} (ho : OpR X (binaryOp op) r) (ha : PE X a ta) (hb : PE X b tb) : PE X (.BinOp a op b pos) (tOp r ta tb) := by
 intro pins s σ H Q I h
 exact wpAny_BinOp (BG ha hb I h fun v u s2 x y H2 I2 rx ry q => ho pins s2 σ H2 x y v u Q I2 rx ry q)
theorem opI {f : Value -> Value -> Sem Value} {C : Int -> Int -> Prop} {g : Int -> Int -> Int}
  (rule : ∀ (i j : Int) (t u : Tok) (s : Shared) (Q : Value -> Shared -> Prop) (E : Value -> Shared -> Prop), C i j -> Q (.int (g i j) s.toks) { s with toks := s.toks + 1 } -> wpAny (model X.prog X.w) X.A (f (.int i t) (.int j u)) Q E s) :
  OpR X f (rI C fun i j => .int (g i j)) := by
 intro pins s σ H x y v u Q I rx ry h
 obtain ⟨i, j, rfl, rfl, hc, q⟩ := h
 obtain ⟨t, rfl⟩ := rx
 obtain ⟨t', rfl⟩ := ry
 exact rule i j t t' s _ _ hc ⟨.int (g i j), H, I.tok _, ⟨_, rfl⟩, q⟩
theorem Dq {f : Value -> Value -> Sem Value} {g : Int -> Int -> Int}
  (rule : ∀ (i j : Int) (t u : Tok) (s : Shared) (Q : Value -> Shared -> Prop) (E : Value -> Shared -> Prop), Q (.int (g i j) s.toks) { s with toks := s.toks + 1 } -> wpAny (model X.prog X.w) X.A (f (.int i t) (.int j u)) Q E s) :
  OpR X f (rI0 fun i j => .int (g i j)) := by
 intro pins s σ H x y v u Q I rx ry h
 obtain ⟨i, j, rfl, rfl, q⟩ := h
 obtain ⟨t, rfl⟩ := rx
 obtain ⟨t', rfl⟩ := ry
 exact rule i j t t' s _ _ ⟨.int (g i j), H, I.tok _, ⟨_, rfl⟩, q⟩
theorem Bl {f : Value -> Value -> Sem Value} {g : Int -> Int -> Bool}
  (rule : ∀ (i j : Int) (t u : Tok) (s : Shared) (Q : Value -> Shared -> Prop) (E : Value -> Shared -> Prop), Q (.bool (g i j)) s -> wpAny (model X.prog X.w) X.A (f (.int i t) (.int j u)) Q E s) :
  OpR X f (rI0 fun i j => .bl (g i j)) := by
 intro pins s σ H x y v u Q I rx ry h
 obtain ⟨i, j, rfl, rfl, q⟩ := h
 obtain ⟨t, rfl⟩ := rx
 obtain ⟨t', rfl⟩ := ry
 exact rule i j t t' s _ _ ⟨.bl (g i j), H, I, rfl, q⟩
noncomputable def YN (i j : Int) : Prop := 0 < j /\ j < 1073741824
noncomputable def D4 (i j : Int) : Prop := 0 <= j /\ j <= 1000000 /\ i.natAbs < 2 ^ 64
noncomputable def Yb (i j : Int) : Prop := (-(2 ^ 64) < i /\ i < 2 ^ 64) \/ (-(2 ^ 64) < j /\ j < 2 ^ 64)
theorem Yb.ok {i j : Int} (h : Yb i j) : IntMulOk i j := by
 rcases h with ⟨h1, h2⟩ | ⟨h1, h2⟩
 ·exact .of_left (intBits_le_64 h1 h2)
 ·exact .of_right (intBits_le_64 h1 h2)
theorem zQ : OpR X (binaryOp .Add) (rI0 fun i j => .int (i + j)) := Dq fun _ _ _ _ _ _ _ q => add_int q
theorem kr : OpR X (binaryOp .Sub) (rI0 fun i j => .int (i - j)) := Dq fun _ _ _ _ _ _ _ q => sub_int q
theorem qb : OpR X (binaryOp .Mult) (rI Yb fun i j => .int (i * j)) := opI fun _ _ _ _ _ _ _ hc q => mul_int q hc.ok
theorem j6 : OpR X (binaryOp .FloorDiv) (rI YN fun i j => .int (i / j)) := opI fun i j _ _ _ _ _ hc q => by
 have h1 : (0 : Int) < j := hc.1
 have h2 : j < 1073741824 := hc.2
 exact floordiv_int (by omega) (by rw [Int.fdiv_eq_ediv_of_nonneg i (by omega)]; exact q) (.inl (PyProof.noPylong_small (by omega)))
theorem qc : OpR X (binaryOp .Mod) (rI (fun _ j => 0 < j) fun i j => .int (i % j)) := opI fun i j _ _ _ _ _ hc q => by
 have h1 : (0 : Int) < j := hc
 exact mod_int' (by omega) (by rw [Int.fmod_eq_emod_of_nonneg i (by omega)]; exact q)
theorem YJ : OpR X (binaryOp .Pow) (rI D4 fun i j => .int (i ^ j.toNat)) := opI fun _ _ _ _ _ _ _ hc q => pow_int_small hc.1 hc.2.1 hc.2.2 q
theorem KQ : OpR X (inplaceOp .FloorDiv) (rI YN fun i j => .int (i / j)) := opI fun i j _ _ _ _ _ hc q => by
 have h1 : (0 : Int) < j := hc.1
 have h2 : j < 1073741824 := hc.2
 exact ifloordiv_int (by omega) (by rw [Int.fdiv_eq_ediv_of_nonneg i (by omega)]; exact q) (.inl (PyProof.noPylong_small (by omega)))
end
noncomputable def Di : V -> V -> Bool
 | .non, .non => true | .non, .int _ => true | .int _, .non => true | .non, .bl _ => true | .bl _, .non => true | .non, .str _ => true | .str _, .non => true
 | .int _, .int _ => true | .bl _, .bl _ => true | .str _, .str _ => true | .byt _, .byt _ => true
 | .int _, .str _ => true | .str _, .int _ => true | .bl _, .str _ => true | .str _, .bl _ => true
 | _, _ => false
noncomputable def rEq : R2 := fun x y H Q => Di x y = true /\ Q (.bl (decide (x = y))) H
noncomputable def rNe : R2 := fun x y H Q => Di x y = true /\ Q (.bl (!decide (x = y))) H
theorem Jl {i j : Int} : decide (V.int i = V.int j) = (i == j) := by
 rw [Bool.eq_iff_iff]
 simp
theorem KC {i j : Bool} : decide (V.bl i = V.bl j) = (i == j) := by
 rw [Bool.eq_iff_iff]
 simp
theorem QA {i j : Str} : decide (V.str i = V.str j) = (i == j) := by
 rw [Bool.eq_iff_iff]
 simp
theorem Qv {i j : Array UInt8} : decide (V.byt i = V.byt j) = (i.toList == j.toList) := by
 rw [Bool.eq_iff_iff]
 cases i
 cases j
 simp
section
variable {X : Cx} {a b c : Expr} {ta tb tc : TE} {pos : Pos}
theorem zF {pins : List (Addr × Obj)} {σ : St} {H : Hp} {s : Shared} {Q : VK} {k k' : Bool} (I : Inv X pins σ H s) (q : Q (.bl k) H) (e : k = k') : EP X pins σ Q (.bool k') s := by
 subst e
 exact ⟨.bl k, H, I, rfl, q⟩
theorem D1 : OpR X (compareOp .Eq) rEq := by
 intro pins s σ H x y v u Q I rx ry h
 obtain ⟨hs, q⟩ := h
 cases x with
 | non =>
  cases rx
  cases y with
  | non => cases ry; exact PySem.EqNone.eq_none_none (zF I q (by simp))
  | bl j => cases ry; exact PySem.EqNone.eq_none_bool (zF I q (by simp))
  | int j => obtain ⟨t', rfl⟩ := ry; exact PySem.EqNone.eq_none_int (zF I q (by simp))
  | str j => obtain ⟨t', rfl⟩ := ry; exact PySem.EqNone.eq_none_str (zF I q (by simp))
  | _ => exact absurd (show false = true from hs) Bool.false_ne_true
 | bl i =>
  cases rx
  cases y with
  | non => cases ry; exact PySem.EqNone.eq_bool_none (zF I q (by simp))
  | bl j => cases ry; exact eq_bool (zF I q KC)
  | str j => obtain ⟨t', rfl⟩ := ry; exact PySem.EqMixed.eq_bool_str (zF I q (by simp))
  | _ => exact absurd (show false = true from hs) Bool.false_ne_true
 | int i =>
  obtain ⟨t, rfl⟩ := rx
  cases y with
  | non => cases ry; exact PySem.EqNone.eq_int_none (zF I q (by simp))
  | int j => obtain ⟨t', rfl⟩ := ry; exact eq_int (zF I q Jl)
  | str j => obtain ⟨t', rfl⟩ := ry; exact PySem.EqMixed.eq_int_str (zF I q (by simp))
  | _ => exact absurd (show false = true from hs) Bool.false_ne_true
 | str i =>
  obtain ⟨t, rfl⟩ := rx
  cases y with
  | non => cases ry; exact PySem.EqNone.eq_str_none (zF I q (by simp))
  | bl j => cases ry; exact PySem.EqMixed.eq_str_bool (zF I q (by simp))
  | int j => obtain ⟨t', rfl⟩ := ry; exact PySem.EqMixed.eq_str_int (zF I q (by simp))
  | str j => obtain ⟨t', rfl⟩ := ry; exact eq_str (zF I q QA)
  | _ => exact absurd (show false = true from hs) Bool.false_ne_true
 | byt i =>
  obtain ⟨t, rfl⟩ := rx
  cases y with
  | byt j => obtain ⟨t', rfl⟩ := ry; exact PySem.W.eq_bytes (zF I q Qv)
  | _ => exact absurd (show false = true from hs) Bool.false_ne_true
 | _ => cases y <;> exact absurd (show false = true from hs) Bool.false_ne_true
theorem WO : OpR X (compareOp .NotEq) rNe := by
 intro pins s σ H x y v u Q I rx ry h
 obtain ⟨hs, q⟩ := h
 cases x with
 | non =>
  cases rx
  cases y with
  | non => cases ry; exact PySem.EqNone.ne_none_none (zF I q (by simp))
  | bl j => cases ry; exact PySem.EqNone.ne_none_bool (zF I q (by simp))
  | int j => obtain ⟨t', rfl⟩ := ry; exact PySem.EqNone.ne_none_int (zF I q (by simp))
  | str j => obtain ⟨t', rfl⟩ := ry; exact PySem.EqNone.ne_none_str (zF I q (by simp))
  | _ => exact absurd (show false = true from hs) Bool.false_ne_true
 | bl i =>
  cases rx
  cases y with
  | non => cases ry; exact PySem.EqNone.ne_bool_none (zF I q (by simp))
  | bl j => cases ry; exact ne_bool (zF I q (congrArg not KC))
  | str j => obtain ⟨t', rfl⟩ := ry; exact PySem.EqMixed.ne_bool_str (zF I q (by simp))
  | _ => exact absurd (show false = true from hs) Bool.false_ne_true
 | int i =>
  obtain ⟨t, rfl⟩ := rx
  cases y with
  | non => cases ry; exact PySem.EqNone.ne_int_none (zF I q (by simp))
  | int j => obtain ⟨t', rfl⟩ := ry; exact ne_int (zF I q (congrArg not Jl))
  | str j => obtain ⟨t', rfl⟩ := ry; exact PySem.EqMixed.ne_int_str (zF I q (by simp))
  | _ => exact absurd (show false = true from hs) Bool.false_ne_true
 | str i =>
  obtain ⟨t, rfl⟩ := rx
  cases y with
  | non => cases ry; exact PySem.EqNone.ne_str_none (zF I q (by simp))
  | bl j => cases ry; exact PySem.EqMixed.ne_str_bool (zF I q (by simp))
  | int j => obtain ⟨t', rfl⟩ := ry; exact PySem.EqMixed.ne_str_int (zF I q (by simp))
  | str j => obtain ⟨t', rfl⟩ := ry; exact ne_str (zF I q (congrArg not QA))
  | _ => exact absurd (show false = true from hs) Bool.false_ne_true
 | byt i =>
  obtain ⟨t, rfl⟩ := rx
  cases y with
  | byt j => obtain ⟨t', rfl⟩ := ry; exact PySem.W.ne_bytes (zF I q (congrArg not Qv))
  | _ => exact absurd (show false = true from hs) Bool.false_ne_true
 | _ => cases y <;> exact absurd (show false = true from hs) Bool.false_ne_true
theorem Dl : OpR X (compareOp .LtE) (rI0 fun i j => .bl (decide (i <= j))) := Bl fun _ _ _ _ _ _ _ q => le_int q
theorem yc : OpR X (compareOp .Gt) (rI0 fun i j => .bl (decide (j < i))) := Bl fun _ _ _ _ _ _ _ q => gt_int q
theorem WN : OpR X (compareOp .GtE) (rI0 fun i j => .bl (decide (j <= i))) := Bl fun _ _ _ _ _ _ _ q => ge_int q
theorem Ai : OpR X (compareOp .Is) (fun x y H Q => y = .non /\ Q (.bl (decide (x = .non))) H) := by
 intro pins s σ H x y v u Q I rx ry h
 obtain ⟨rfl, q⟩ := h
 cases ry
 refine is_none_gen (zF I q ?_)
 cases x <;> first
  | (cases rx; rfl)
  | (obtain ⟨t, rfl⟩ := rx; rfl)
theorem zz (b : Expr) {op : CmpOp} (h : op ≠ .In := by decide) (h2 : op ≠ .NotIn := by decide) : behindInMarks op b = false := by
 have e1 : (op == CmpOp.In) = false := by cases op <;> first | rfl | exact absurd rfl h
 have e2 : (op == CmpOp.NotIn) = false := by cases op <;> first | rfl | exact absurd rfl h2
 cases b <;> simp [behindInMarks, e1, e2]
theorem qf {op : CmpOp} {r : R2} (ho : OpR X (compareOp op) r) (ha : PE X a ta) (hb : PE X b tb) (hm : behindInMarks op b = false) : PE X (.Compare a [op] [b] pos) (tOp r ta tb) := by
 intro pins s σ H Q I h
 exact wpAny_Compare1 (BG ha hb I h fun v u s2 x y H2 I2 rx ry q => ho pins s2 σ H2 x y v u Q I2 rx ry q) hm
noncomputable def yL (t : TE) : TT := fun σ H Q => t σ H fun x H' => ∃ k, x = .bl k /\ Q k H'
theorem zE {op : CmpOp} {r : R2} (ho : OpR X (compareOp op) r) (ha : PE X a ta) (hb : PE X b tb) (hm : behindInMarks op b = false) : PT X (.Compare a [op] [b] pos) (yL (tOp r ta tb)) := by
 intro pins s σ H Q I h
 refine wpAny_isTrue_Compare1 (thn (ha pins s σ H _ I h) fun v s1 ⟨x, H1, I1, r1, q1⟩ => thn (hb pins s1 σ H1 _ I1 q1) fun u s2 ⟨y, H2, I2, r2, q2⟩ =>
  thn (ho pins s2 σ H2 x y v u _ I2 r1 r2 q2) fun c s3 ⟨z, H3, I3, r3, k, e, q3⟩ => ?_) hm
 subst e
 cases r3
 exact wpAny_truthy_bool ⟨H3, I3, q3⟩
theorem wb : (sizeLine : Nat) < 2 ^ 63 := by rw [sizeLine_eq]; decide
theorem jS {x : V} {us : List Value} (r : zD [x] us) : ∃ u, us = [u] /\ zC x u := by
 cases r with
 | cons r1 r2 => cases r2; exact ⟨_, rfl, r1⟩
theorem yO {x y : V} {us : List Value} (r : zD [x, y] us) : ∃ u w', us = [u, w'] /\ zC x u /\ zC y w' := by
 cases r with
 | cons r1 r2 =>
  cases r2 with
  | cons r3 r4 => cases r4; exact ⟨_, _, rfl, r1, r3⟩
theorem xV : qN X (.builtin "abs") (fun xs H Q => ∃ i, xs = [.int i] /\ Q (.int (if i < 0 then -i else i)) H) := by
 intro pins s σ H xs us Q I r h
 obtain ⟨i, rfl, q⟩ := h
 obtain ⟨u, rfl, t, rfl⟩ := jS r
 exact call_abs_int fun u tk => ⟨.int (if i < 0 then -i else i), H, I.tok _, ⟨_, rfl⟩, q⟩
theorem Jy (hc : X.calm = true) : qN X (.builtin "max") (fun xs H Q => ∃ i j, xs = [.int i, .int j] /\ Q (.int (if j > i then j else i)) H) := by
 intro pins s σ H xs us Q I r h
 obtain ⟨i, j, rfl, q⟩ := h
 obtain ⟨u, w', rfl, ⟨t, rfl⟩, ⟨t', rfl⟩⟩ := yO r
 refine max_two_ints (I.ok.hd hc) fun h' tk k => ⟨_, H, I.kept k, ?_, q⟩
 by_cases hj : j > i
 ·rw [if_pos hj, if_pos hj]; exact ⟨_, rfl⟩
 ·rw [if_neg hj, if_neg hj]; exact ⟨_, rfl⟩
theorem JT : qN X (.type "int") (fun xs H Q => (∃ i, xs = [.int i] /\ Q (.int i) H) \/ ∃ k, xs = [.bl k] /\ Q (.int (if k then 1 else 0)) H) := by
 intro pins s σ H xs us Q I r h
 rcases h with ⟨i, rfl, q⟩ | ⟨k, rfl, q⟩
 ·obtain ⟨u, rfl, t, rfl⟩ := jS r
  exact call_int_int ⟨.int i, H, I, ⟨_, rfl⟩, q⟩
 ·obtain ⟨u, rfl, r1⟩ := jS r
  cases r1
  exact call_int_bool ⟨.int (if k then 1 else 0), H, I.tok _, ⟨_, rfl⟩, q⟩
theorem xr : qN X (.builtin "divmod") (fun xs H Q => ∃ i j, xs = [.int i, .int j] /\ YN i j /\ ∀ p, H p = none -> Q (.ref p) (upd H p (.tup [.int (i / j), .int (i % j)]))) := by
 intro pins s σ H xs us Q I r h
 obtain ⟨i, j, rfl, ⟨h1, h2⟩, q⟩ := h
 obtain ⟨u, w', rfl, ⟨t, rfl⟩, ⟨t', rfl⟩⟩ := yO r
 refine divmod_int (by omega) ?_ (.inl (PyProof.noPylong_small (by omega)))
 rw [Int.fdiv_eq_ediv_of_nonneg i (by omega), Int.fmod_eq_emod_of_nonneg i (by omega)]
 have hn : H s.heap.objs.size = none := I.hok.fresh (Nat.le_refl _)
 refine ⟨.ref s.heap.objs.size, _, ?_, rfl, q _ hn⟩
 refine I.laid (fun b o e => Heap.get?_push_of_some _ e) (Nat.le_refl _) ⟨by simp only [List.length_cons, List.length_nil]; rw [sizeLine_eq]; decide, [.int (i / j) s.toks, .int (i % j) (s.toks + 1)], .cons ⟨_, rfl⟩ (.cons ⟨_, rfl⟩ .nil), ?_⟩
 exact ⟨_, Heap.get?_push_size s.heap rfl, rfl, ⟨0, rfl⟩, rfl⟩
end
end L2
namespace L2
open PySem PySem.Spec PyProof.Rows
structure YG (h : Heap) (x dx C : Addr) (mA : Str -> Option Value) : Prop where
 obj : h.get? x = some (PySem.W.instObj C dx)
 ns : h.Ns1 dx mA
 ne : dx ≠ x
theorem JQ {h : Heap} {dx : Addr} {mA : Str -> Option Value} (n : h.Ns1 dx mA) : ∃ od, h.get? dx = some od /\ ∀ name, PySem.W.lookIn name od = some (mA name) := by
 obtain ⟨o, es, ep, ho, hd, hk, _, hm⟩ := n
 refine ⟨o, ho, fun name => ?_⟩
 have e := hm name
 unfold nsFind findBy at e
 rw [<- Array.find?_toList] at e
 unfold PySem.W.lookIn
 rw [hd]
 dsimp only
 split
 ·rename_i y q
  rw [q] at e
  exact congrArg some e
 ·rename_i q
  rw [q] at e
  have a : es.toList.any (·.refKey) = false := by
   rw [List.any_eq_false]
   intro y hy
   obtain ⟨z, t, hkey⟩ := hk y (Array.mem_toList_iff.mp hy)
   simp [DictEntry.refKey, hkey]
  have a' : ¬ es.toList.any (·.refKey) = true := by rw [a]; exact Bool.false_ne_true
  rw [if_neg a']
  exact congrArg some e
theorem YG.look {h : Heap} {x dx C : Addr} {mA : Str -> Option Value} (I : YG h x dx C mA) : ∃ od, PySem.W.InstAt h x (PySem.W.instObj C dx) C (some od) /\ ∀ name, PySem.W.lookIn name od = some (mA name) :=
 let ⟨od, ho, hl⟩ := JQ I.ns
 ⟨od, ⟨I.obj, rfl, rfl, ho⟩, hl⟩
section
variable {prog : Program} {w : World} {A : Around} {E : Value -> Shared -> Prop} {s : Shared} {K : PySem.W.Frag} {x dx C f : Addr} {mA : Str -> Option Value} {name : Str} {v : Value}
theorem Qz {ns : List Str} {Q : Unit -> Shared -> Prop} (X : K.In s.heap) (I : YG s.heap x dx C mA)
  (hs : PySem.W.findIn K (.ref C) "__setattr__" = some (some (.builtin "object.__setattr__"))) (hp : PySem.W.plainOver K C = true) (ht : PySem.W.takerIn K C name = some none) (hh : PySem.W.hasDictIn K C = true)
  (hw : PySem.Within mA ns) (hsz : ns.length <= sizeLine)
  (h : ∀ h', YG h' x dx C (fun y => if y = name then some v else mA y) -> Heap.SameBut dx s.heap h' -> Q () { s with heap := h', toks := s.toks + 2 }) :
  wpAny (model prog w) A (setAttr (.ref x) name v) Q E s := by
 obtain ⟨od, J, hl⟩ := I.look
 refine PySem.W.set_plain X J hs (PySem.W.osa_open (s := { s with toks := s.toks + 1 }) (r := none) X J hp ht fun b => ?_)
 obtain ⟨cd, hc, hd'⟩ := PySem.W.any_some hh
 have hx : s.heap.get? x = some ⟨.ref C, some dx, .plain, #[]⟩ := I.obj
 refine wpAny_bind (wpAny_pure (wpAny_bind (wpAny_bind (wpAny_loadPart hx (wpAny_bind (PySem.W.Looks.here (s := { s with toks := s.toks + 1 }) (PySem.W.looks_clsIn X hc) ?_))))))
 rw [hd']
 refine wpAny_pure (a := some dx) (wpAny_bind (wpAny_pure (wpAny_bind ?_)))
 refine wpAny_nsSet1 (s := { s with toks := s.toks + 1 }) I.ns fun h' hn2 hs2 => ?_
 obtain ⟨oD, esD, epD, hoD, hdD, hcD⟩ := hn2.count (PySem.Within.cons name v hw)
 refine wpAny_bind (wpAny_lookBehind hoD (by rw [hdD]; exact pastItsLine_dict (Nat.le_trans hcD (by rw [List.length_cons]; omega))) ?_)
 exact wpAny_pure (h _ ⟨(hs2.2 _ (Ne.symm I.ne)).trans I.obj, hn2, I.ne⟩ hs2)
end
section
variable {P : Program} {w : World} {H H' : Hp} {h h' : Heap} {a C dx : Addr} {fs fs' : List (Str × V)}
theorem Wj (hok : HOk P w H h) (e : H a = some (.ins C dx fs)) : ∃ mA, YG h a dx C mA /\ (∀ f, ZN (fs.lookup f) (mA f)) /\ PySem.Within mA (fs.map (·.1)) /\ fs.length <= 1000 /\ H dx = some (.own a) := by
 obtain ⟨d, z, ne, ob, mA, n, r, q⟩ := (show zL P w H h a (.ins C dx fs) from hok a _ e)
 exact ⟨mA, ⟨ob, n, ne⟩, r, q, z, d⟩
end
structure Cls (K : PySem.W.Frag) (C : Addr) : Prop where
 pg : PySem.W.plainGet K C Str.empty = true
 hd : PySem.W.hasDictIn K C = true
 po : PySem.W.plainOver K C = true
 sa : PySem.W.findIn K (.ref C) "__setattr__" = some (some (.builtin "object.__setattr__"))
theorem Cls.get {K : PySem.W.Frag} {C : Addr} (c : Cls K C) (f : Str) : PySem.W.plainGet K C f = true := c.pg
structure Con (K : PySem.W.Frag) (C : Addr) (f : Str) (v : V) (u : Value) : Prop where
 at_ : PySem.W.findIn K (.ref C) f = some (some u)
 rel : zC v u
 get : PySem.W.specialIn K u "__get__" = some none
 cp : PySem.W.copiedNames.contains f = false
structure D6 (K : PySem.W.Frag) (C : Addr) (m : Str) (f : Addr) : Prop where
 at_ : PySem.W.findIn K (.ref C) m = some (some (.ref f))
 fn : PySem.W.isFn K (.ref f) = true
 kp : PySem.W.keepIn K (.ref f) = true
section
variable {X : Cx} {pins : List (Addr × Obj)} {σ : St} {H : Hp} {s : Shared} {a C dx : Addr} {fs : List (Str × V)} {f : Str} {v : V} {A : Around} {E : Value -> Shared -> Prop}
end
section
variable {X : Cx} {o e value : Expr} {f : Str} {pos pos' tpos : Pos} {ta tv : TE}
end
section
variable {X : Cx} {pins : List (Addr × Obj)} {σ : St} {H : Hp} {s : Shared} {A : Around} {E : Value -> Shared -> Prop} {Q : Value -> Shared -> Prop} {c : Value} {b : Bool}
inductive jL (K : PySem.W.Frag) (H : Hp) : V -> Value -> Prop where
  | non : jL K H .non (.type "NoneType")
  | bl (x : Bool) : jL K H (.bl x) (.type "bool")
  | int (i : Int) : jL K H (.int i) (.type "int")
  | str (x : Str) : jL K H (.str x) (.type "str")
  | flt (x : UInt64) : jL K H (.flt x) (.type "float")
  | lst {a : Addr} {xs : List V} (e : H a = some (.lst xs)) : jL K H (.ref a) (.type "list")
  | frz {a : Addr} {o : Obj} {xs : List V} (e : H a = some (.frz o (.lst xs))) : jL K H (.ref a) (.type "list")
  | tup {a : Addr} {xs : List V} (e : H a = some (.tup xs)) : jL K H (.ref a) (.type "tuple")
  | dK {a : Addr} {kvs : List (Key × V)} (e : H a = some (.dK kvs)) : jL K H (.ref a) (.type "dict")
  | dT {a : Addr} {kvs : List (List Key × V)} (e : H a = some (.dT kvs)) : jL K H (.ref a) (.type "dict")
  | ins {a C dx : Addr} {fs : List (Str × V)} (e : H a = some (.ins C dx fs)) (cl : Cls K C) (ha : PySem.W.findIn K (.ref C) "__class__" = some (some (.builtin "object.__class__")))
      (hn : PySem.W.specialIn K (.builtin "object.__class__") "__get__" = some (some (.builtin "getset_descriptor.__get__"))) (htk : PySem.W.takesIn K (.builtin "object.__class__") = some true)
      (hm : PySem.W.mroIn K C (.type "object") = some true) : jL K H (.ref a) (.ref C)
theorem JU {x : V} {u t : Value} (I : Inv X pins σ H s) (rx : zC x u) (ty : jL X.K H x t) (e : PySem.W.kitOne X.K t c = some b) (h : ∀ tk, Q (.bool b) { s with toks := tk }) :
  wpAny (model X.prog X.w) A (call (.builtin "isinstance") [u, c]) Q E s := by
 cases ty with
 | non => cases (show u = Value.none from rx); exact PySem.W.kia_one PySem.W.kitx_none I.kIn True.intro e (fun z => nomatch z) h
 | bl y => cases (show u = Value.bool y from rx); exact PySem.W.kia_one PySem.W.kitx_bool I.kIn True.intro e (fun z => nomatch z) h
 | int i => obtain ⟨t, q⟩ := (show ∃ t, u = Value.int i t from rx); cases q; exact PySem.W.kia_one PySem.W.kitx_int I.kIn True.intro e (fun z => nomatch z) h
 | str y => obtain ⟨t, q⟩ := (show ∃ t, u = Value.str y t from rx); cases q; exact PySem.W.kia_one PySem.W.kitx_str I.kIn True.intro e (fun z => nomatch z) h
 | flt y => obtain ⟨t, q⟩ := (show ∃ t, u = Value.float y t from rx); cases q; exact PySem.W.kia_one PySem.W.kitx_float I.kIn True.intro e (fun z => nomatch z) h
 | @lst a xs ea =>
  cases (show u = Value.ref a from rx)
  obtain ⟨_, _, n, _, h1⟩ := (show zL X.prog X.w H s.heap a (.lst xs) from I.hok a _ ea)
  exact PySem.W.kia_one PySem.W.kitx_list I.kIn ⟨_, h1, rfl⟩ e (fun z => nomatch z) h
 | @frz a ob xs ea =>
  cases (show u = Value.ref a from rx)
  obtain ⟨_, _, _, n, _, h1⟩ := (show zL X.prog X.w H s.heap a (.frz ob (.lst xs)) from I.hok a _ ea)
  exact PySem.W.kia_one PySem.W.kitx_list I.kIn ⟨_, h1, rfl⟩ e (fun z => nomatch z) h
 | @tup a xs ea =>
  cases (show u = Value.ref a from rx)
  obtain ⟨_, _, _, p⟩ := (show zL X.prog X.w H s.heap a (.tup xs) from I.hok a _ ea)
  obtain ⟨o, h1, h2, _⟩ := p
  exact PySem.W.kia_one PySem.W.kitx_tuple I.kIn ⟨o, h1, h2⟩ e (fun z => nomatch z) h
 | @dK a kvs ea =>
  cases (show u = Value.ref a from rx)
  obtain ⟨_, _, vs, _, p⟩ := (show zL X.prog X.w H s.heap a (.dK kvs) from I.hok a _ ea)
  obtain ⟨o, es, ep, h1, h2, _⟩ := p
  exact PySem.W.kia_one PySem.W.kitx_dict I.kIn ⟨o, h1, h2.1⟩ e (fun z => nomatch z) h
 | @dT a kvs ea =>
  cases (show u = Value.ref a from rx)
  obtain ⟨_, _, xs, _, o, es, ep, h1, h2, _⟩ := (show zL X.prog X.w H s.heap a (.dT kvs) from I.hok a _ ea)
  exact PySem.W.kia_one PySem.W.kitx_dict I.kIn ⟨o, h1, h2.1⟩ e (fun z => nomatch z) h
 | @ins a C dx fs ea cl ha hn htk hm =>
  cases (show u = Value.ref a from rx)
  obtain ⟨mA, O, _⟩ := Wj I.hok ea
  obtain ⟨od, J, _⟩ := O.look
  exact PySem.W.kia_one (PySem.W.kitx_own (cl.get _) cl.hd ha hn htk hm) I.kIn J e (fun z => nomatch z) h
end
end L2
namespace L2
open PySem PySem.Spec PyProof.Rows
structure jk (k : Nat) (A : Around) : Prop where
 hd : A.handled = none
 gd : A.guards = some []
 dp : A.depth + 3 * k + 5 < recursionLimit
 un : A.units + 16 * k + 200 < cLine
theorem jk.mono {j k : Nat} {A : Around} (r : jk k A) (h : j <= k) : jk j A := ⟨r.hd, r.gd, by have := r.dp; omega, by have := r.un; omega⟩
theorem jk.deeper {k : Nat} {A : Around} (r : jk (k + 1) A) (env : Env) : jk k (A.deeper env) :=
 ⟨r.hd, r.gd, by have := r.dp; show A.depth + 1 + 3 * k + 5 < _; omega, by have := r.un; show A.units + 3 + 16 * k + 200 < _; omega⟩
theorem jk.depth {k : Nat} {A : Around} (r : jk k A) : A.depth < recursionLimit := by have := r.dp; omega
theorem jk.units {k : Nat} {A : Around} (r : jk k A) : A.units + 64 < cLine := by have := r.un; omega
noncomputable def BH : TA := fun _ H Q => Q [] H
noncomputable def KU (ta : TE) (tr : TA) : TA := fun σ H Q => ta σ H fun x H1 => tr σ H1 fun xs H2 => Q (x :: xs) H2
section
variable {X : Cx} {e : Expr} {es : List Expr} {te : TE} {t : TA} {pos : Pos}
theorem zb : PA X [] BH := fun _ _ _ _ H Q I h => Calls.spliced_nil ⟨[], H, I, .nil, h⟩
theorem za (ha : PE X e te) (hr : PA X es t) (hs : starEach (e :: es) X.env = (false, eval e X.env) :: starEach es X.env := by rfl) : PA X (e :: es) (KU te t) := by
 intro pos pins s σ H Q I h
 rw [hs]
 show wpAny _ _ (spliced ((false, eval e X.env) :: backTo pos (starEach es X.env))) _ _ s
 refine Calls.spliced_cons (thn (ha pins s σ H _ I h) fun u s1 ⟨x, H1, I1, r1, q1⟩ => ?_)
 exact thn (hr pos pins s1 σ H1 _ I1 q1) fun us s2 ⟨xs, H2, I2, r2, q2⟩ => ⟨x :: xs, H2, I2, .cons r1 r2, q2⟩
noncomputable def Bt (t : TA) : TE := fun σ H Q => t σ H fun xs H1 => xs.length <= sizeLine /\ ∀ p, H1 p = none -> Q (.ref p) (upd H1 p (.tup xs))
noncomputable def B7 (t : TA) : TE := fun σ H Q => t σ H fun xs H1 => xs.length <= sizeLine /\ ∀ p, H1 p = none -> Q (.ref p) (upd H1 p (.lst xs))
theorem jF {x1} (h : PA X es t) : PE X (.Tuple es x1 pos) (Bt t) := by
 intro pins s σ H Q I hq
 refine wpAny_Tuple_spliced (thn (h pos pins s σ H _ I hq) fun us s1 ⟨xs, H1, I1, r, z, q⟩ => ⟨by rw [<- r.length]; exact z, ?_⟩)
 have hf : H1 s1.heap.objs.size = none := I1.hok.fresh (Nat.le_refl _)
 refine ⟨.ref s1.heap.objs.size, upd H1 s1.heap.objs.size (.tup xs), I1.laid (t' := s1.toks) (fun b u e => Heap.get?_push_of_some _ e) (Nat.le_refl _) ?_, rfl, q _ hf⟩
 exact ⟨z, us, r, ⟨_, Heap.get?_push_size _ rfl, rfl, ⟨_, rfl⟩, rfl⟩⟩
theorem qv (h : PA X es t) : PE X (.List es pos) (B7 t) := by
 intro pins s σ H Q I hq
 refine wpAny_List_spliced (thn (h pos pins s σ H _ I hq) fun us s1 ⟨xs, H1, I1, r, z, q⟩ => ⟨by rw [<- r.length]; exact z, ?_⟩)
 have hf : H1 s1.heap.objs.size = none := I1.hok.fresh (Nat.le_refl _)
 refine ⟨.ref s1.heap.objs.size, upd H1 s1.heap.objs.size (.lst xs), I1.laid (t' := s1.toks) (fun b u e => Heap.get?_push_of_some _ e) (Nat.le_refl _) ?_, rfl, q _ hf⟩
 exact ⟨z, us, 0, r, Heap.get?_push_size _ rfl⟩
end
noncomputable abbrev Sp := List V -> Hp -> VK -> XK -> Prop
noncomputable abbrev CXT := List Env -> Hp -> Shared -> XK -> Value -> Shared -> Prop
structure VJ (P : Program) (w : World) (K : PySem.W.Frag) (mg : Str -> Option Value) (base : Heap) (A : Around) (outer : List Env) (s : Shared) (H : Hp) : Prop where
 frames : A.frames = some outer
 mod : Mod K mg base
 bs : ∀ b o, base.get? b = some o -> s.heap.get? b = some o /\ H b = none
 bsz : base.objs.size <= s.heap.objs.size
 funs : s.heap.FunFrames base outer
 frf : ∀ b ∈ frs outer, H b = none
 hok : HOk P w H s.heap
 bare : AllBare s.gens
noncomputable def CE (outer : List Env) (P : Program) (w : World) (H : Hp) (s : Shared) (Q : VK) (u : Value) (s' : Shared) : Prop :=
 ∃ v H', s'.os = s.os /\ AllBare s'.gens /\ Un (frs outer) [] H H' s.heap s'.heap /\ HOk P w H' s'.heap /\ zC v u /\ Q v H'
noncomputable def CR (CX : CXT) (outer : List Env) (P : Program) (w : World) (H : Hp) (s : Shared) (Q : VK) (E : XK) (r : Result) (s' : Shared) : Prop :=
 match r with
 | .ok (.ret u) => CE outer P w H s Q u s'
 | .ok _ => False
 | .error e => CX outer H s E e s'
structure kf (P : Program) (w : World) (K : PySem.W.Frag) (mg : Str -> Option Value) (base : Heap) (CX : CXT) (k : Nat) (f : Addr) (fd : FuncData) (ps : List Str) (sp : Sp) : Prop where
 len : ∀ vs H Q E, sp vs H Q E -> vs.length = ps.length
 run : ∀ (A : Around) (outer : List Env) (s : Shared) (H : Hp) (args : Args) (us : List Value) (vs : List V) (Q : VK) (E : XK), jk k A -> VJ P w K mg base A outer s H -> BindsTo s fd args (ps.zip us) -> zD vs us -> sp vs H Q E ->
  codeAny (model P w) A (.call (.ref f) args) (CR CX outer P w H s Q E) s
theorem kf.mono {P : Program} {w : World} {K : PySem.W.Frag} {mg : Str -> Option Value} {base : Heap} {CX : CXT} {j k : Nat} {f : Addr} {fd : FuncData} {ps : List Str} {sp : Sp} (F : kf P w K mg base CX j f fd ps sp) (h : j <= k) :
  kf P w K mg base CX k f fd ps sp := ⟨F.len, fun A outer s H args us vs Q E hr => F.run A outer s H args us vs Q E (hr.mono h)⟩
theorem kf.imp {P : Program} {w : World} {K : PySem.W.Frag} {mg : Str -> Option Value} {base : Heap} {CX : CXT} {k : Nat} {f : Addr} {fd : FuncData} {ps : List Str} {sp sp' : Sp} (F : kf P w K mg base CX k f fd ps sp)
  (h : ∀ vs H Q E, sp' vs H Q E -> sp vs H Q E) : kf P w K mg base CX k f fd ps sp' :=
 ⟨fun vs H Q E q => F.len vs H Q E (h _ _ _ _ q), fun A outer s H args us vs Q E hr he hb hv hs => F.run A outer s H args us vs Q E hr he hb hv (h _ _ _ _ hs)⟩
section
variable {X : Cx} {pins : List (Addr × Obj)} {σ : St} {H : Hp} {s s' : Shared}
theorem Inv.env0 (I : Inv X pins σ H s) : VJ X.prog X.w X.K X.mg X.base X.A X.stack s H :=
 ⟨I.ok.frames, I.ok.mod, I.bs, Nat.le_trans I.ok.bsz I.sz, I.stack, I.stkFree, I.hok, I.bare⟩
theorem Inv.after {Q : VK} {u : Value} (I : Inv X pins σ H s) (h : CE X.stack X.prog X.w H s Q u s') : EP X pins σ Q u s' := by
 obtain ⟨v, H', os, bare, un, hok, r, q⟩ := h
 obtain ⟨hh, g, d, t, os'⟩ := s'
 obtain rfl : os' = s.os := os
 exact ⟨v, H', I.call (h' := hh) (g' := g) (d' := d) (t' := t) (ch := []) un hok bare (fun b z => absurd z (by simp)), r, q⟩
end
noncomputable def QL (sp : Sp) (dvs : List V) (E : XK) (t : TA) : TE := fun σ H Q => t σ H fun vs H1 => sp (vs ++ dvs) H1 Q E
noncomputable def y9 (K : PySem.W.Frag) (fd : FuncData) (ps : List Str) (ds : List Value) : Prop :=
 ∀ (s : Shared) (us : List Value), K.In s.heap -> (us ++ ds).length = ps.length -> BindsTo s fd ⟨us, []⟩ (ps.zip (us ++ ds))
theorem y9.all {K : PySem.W.Frag} {fd : FuncData} {ps : List Str} (h : ∀ us : List Value, us.length = ps.length -> bindArgs fd ⟨us, []⟩ = pure (ps.zip us)) : y9 K fd ps [] := fun s us _ hl => by
 rw [List.append_nil] at hl ⊢
 exact .of_eq (h us hl)
noncomputable def Qq (CX : CXT) (X : Cx) (E : XK) : Prop := ∀ (pins : List (Addr × Obj)) (σ : St) (H : Hp) (s : Shared) (e : Value) (s' : Shared), Inv X pins σ H s -> CX X.stack H s E e s' -> X.xe e s'
section
variable {X : Cx} {CX : CXT} {k : Nat} {f C : Addr} {fd : FuncData} {ps : List Str} {sp : Sp} {dvs : List V} {ds : List Value} {E : XK} {x m : Str} {p pos apos : Pos} {e o : Expr} {es : List Expr} {ta : TE} {t : TA}
theorem Au {pins : List (Addr × Obj)} {σ : St} {H : Hp} {s : Shared} {Q : VK} {us : List Value} {vs : List V} (F : kf X.prog X.w X.K X.mg X.base CX k f fd ps sp) (hr : jk k X.A) (hb : y9 X.K fd ps ds) (hd : zD dvs ds) (hx : Qq CX X E)
  (I : Inv X pins σ H s) (r : zD vs us) (h : sp (vs ++ dvs) H Q E) : wpAny (model X.prog X.w) X.A (call (.ref f) us) (EP X pins σ Q) X.xe s := by
 have r2 : zD (vs ++ dvs) (us ++ ds) := r.append hd
 have hl : (us ++ ds).length = ps.length := by rw [<- r2.length]; exact F.len _ _ _ _ h
 refine wpAny_call (codeAny_mono (F.run X.A X.stack s H ⟨us, []⟩ (us ++ ds) (vs ++ dvs) Q E hr I.env0 (hb s us I.kIn hl) r2 h) fun r s' hq => ?_)
 cases r with
 | error e => exact hx pins σ H s e s' I hq
 | ok fl =>
  cases fl with
  | ret u => exact I.after hq
  | next => exact False.elim hq
  | brk => exact False.elim hq
  | cont => exact False.elim hq
theorem Y9 (F : kf X.prog X.w X.K X.mg X.base CX k f fd ps sp) (hr : jk k X.A) (hg : Gl X x) (hm : X.mg x = some (.ref f)) (hk : PySem.W.keepIn X.K (.ref f) = true) (hb : y9 X.K fd ps ds) (hd : zD dvs ds) (hx : Qq CX X E)
  (ha : PA X (e :: es) t) (hdb : (x == ("__debug__" : Str)) = false := by decide) (he : starEach (e :: es) X.env = (false, eval e X.env) :: starEach es X.env := by rfl) (hpl : (backTo pos (starEach es X.env)).any (·.1) = false := by rfl) :
  PE X (.Call (.Name x p) (e :: es) [] pos) (QL sp dvs E t) := by
 intro pins s σ H Q I h
 refine wpAny_Call_Name_kw (Wp I hg hm ?_ hdb)
 refine PySem.W.callWith_K (h₀ := X.base) I.ok.mod.kin hk (thn (ha pos pins s σ H _ I h) fun us s1 ⟨vs, H1, I1, r, q⟩ => ⟨I1.kIn, ?_⟩) he hpl
 exact Au F hr hb hd hx I1 r q
structure Mk (K : PySem.W.Frag) (C f : Addr) : Prop where
 makes : PySem.W.makesIn K C = true
 init : PySem.W.findIn K (.ref C) "__init__" = some (some (.ref f))
 fn : PySem.W.isFn K (.ref f) = true
 kp : PySem.W.keepIn K (.ref C) = true
end
section
variable {X : Cx} {CX : CXT} {k : Nat} {f C : Addr} {fd : FuncData} {ps ks : List Str} {sp : Sp} {E : XK} {x m : Str} {p pos apos kpos : Pos} {e o : Expr} {es : List Expr} {kws : List Keyword} {te ta : TE} {t tk : TA} {nm : Option Str}
structure D3 (K : PySem.W.Frag) (fd : FuncData) (ps ks : List Str) (g : List Value -> List Value -> List Value) (gV : List V -> List V -> List V) : Prop where
 to : ∀ (s : Shared) (us ws : List Value), K.In s.heap -> (g us ws).length = ps.length -> BindsTo s fd ⟨us, ks.zip ws⟩ (ps.zip (g us ws))
 rel : ∀ {vs : List V} {us : List Value} {zs : List V} {ws : List Value}, zD vs us -> zD zs ws -> zD (gV vs zs) (g us ws)
variable {g : List Value -> List Value -> List Value} {gV : List V -> List V -> List V}
end
structure zt (N P : List Str) (sc : Scope) : Prop where
 kind : sc.kind = .function
 co : sc.isCoroutine = false
 gen : sc.isGenerator = false
 nd : N.Nodup
 pre : N.take P.length = P
 par : ∀ x ∈ P, sc.names.lookup x = some .local \/ sc.names.lookup x = some .cell
 nofree : ∀ y ∈ sc.names, y.2 ≠ .free
theorem vq {kindOf : Str -> Option NameKind} {x : Str} : ∀ {binds : List (Str × Value)} {m : Str -> Option Value}, (∀ v, (x, v) ∉ binds) -> bindL kindOf binds m x = m x
 | [], _, _ => rfl
 | (n, v) :: r, m, h => by
  unfold bindL
  rw [vq fun w hw => h w (List.mem_cons_of_mem _ hw)]
  split
  ·have : x ≠ n := by rintro rfl; exact h v List.mem_cons_self
   simp [this]
  ·rfl
theorem vz {kindOf : Str -> Option NameKind} {x : Str} : ∀ {binds : List (Str × Value)} {m : Str -> Option Value}, (∀ v, (x, v) ∉ binds) -> bindC kindOf binds m x = m x
 | [], _, _ => rfl
 | (n, v) :: r, m, h => by
  unfold bindC
  rw [vz fun w hw => h w (List.mem_cons_of_mem _ hw)]
  split
  ·rfl
  ·have : x ≠ n := by rintro rfl; exact h v List.mem_cons_self
   simp [this]
theorem yK {kindOf : Str -> Option NameKind} {x : Str} {v : Value} : ∀ {P : List Str} {vs : List Value} {i : Nat} {m : Str -> Option Value}, P.Nodup -> P[i]? = some x -> vs[i]? = some v -> kindOf x = some .local ->
  bindL kindOf (P.zip vs) m x = some v
 | [], _, _, _, _, h, _, _ => by simp at h
 | _ :: _, [], _, _, _, _, h, _ => by simp at h
 | p :: P, w :: vs, 0, m, nd, h1, h2, hk => by
  simp at h1 h2; subst h1; subst h2
  show bindL kindOf ((p, w) :: P.zip vs) m p = _
  unfold bindL
  rw [vq fun v hv => (List.nodup_cons.mp nd).1 (List.of_mem_zip hv).1, if_pos hk]
  simp
 | p :: P, w :: vs, i + 1, m, nd, h1, h2, hk => by
  show bindL kindOf ((p, w) :: P.zip vs) m x = _
  unfold bindL
  exact yK (i := i) (List.nodup_cons.mp nd).2 (by simpa using h1) (by simpa using h2) hk
theorem vp {kindOf : Str -> Option NameKind} {x : Str} {v : Value} : ∀ {P : List Str} {vs : List Value} {i : Nat} {m : Str -> Option Value}, P.Nodup -> P[i]? = some x -> vs[i]? = some v -> kindOf x ≠ some .local ->
  bindC kindOf (P.zip vs) m x = some v
 | [], _, _, _, _, h, _, _ => by simp at h
 | _ :: _, [], _, _, _, _, h, _ => by simp at h
 | p :: P, w :: vs, 0, m, nd, h1, h2, hk => by
  simp at h1 h2; subst h1; subst h2
  show bindC kindOf ((p, w) :: P.zip vs) m p = _
  unfold bindC
  rw [vz fun v hv => (List.nodup_cons.mp nd).1 (List.of_mem_zip hv).1, if_neg hk]
  simp
 | p :: P, w :: vs, i + 1, m, nd, h1, h2, hk => by
  show bindC kindOf ((p, w) :: P.zip vs) m x = _
  unfold bindC
  exact vp (i := i) (List.nodup_cons.mp nd).2 (by simpa using h1) (by simpa using h2) hk
noncomputable def qo (N : List Str) (vs : List V) : St := vs.map some ++ List.replicate (N.length - vs.length) none
noncomputable def v7 (CX : CXT) (P : Program) (w : World) (K : PySem.W.Frag) (mg : Str -> Option Value) (base : Heap) (N : List Str) (qual : Str) (scope : Scope) (f : Addr) (cd : Value) (A : Around) (outer : List Env) (s : Shared) (H : Hp) (E : XK) : Cx where
 prog := P
 w := w
 K := K
 mg := mg
 base := base
 A := A.deeper (envOfC qual scope s.heap.objs.size f cd)
 N := N
 s₀ := s
 H₀ := H
 env := envOfC qual scope s.heap.objs.size f cd
 outer := outer
 stack := envOfC qual scope s.heap.objs.size f cd :: outer
 ex := []
 calm := true
 fn := fun _ => true
 pn := []
 xe := fun e s' => wpAny (model P w) (A.deeper (envOfC qual scope s.heap.objs.size f cd)) (leaving (envOfC qual scope s.heap.objs.size f cd) e) (fun _ s'' => CX outer H s E e s'') (fun e' s'' => CX outer H s E e' s'') s'
theorem Zx {sc : Scope} {n : Nat} {x : Str} (h : sc.names.lookup x = some .cell) : ∃ c, (cellsFrom n sc.names []).lookup x = some c := by
 have q := PySem.W.cellsFrom_some sc.names n [] (.inl h)
 exact Option.isSome_iff_exists.mp q
theorem JN {CX : CXT} {P : Program} {w : World} {K : PySem.W.Frag} {mg : Str -> Option Value} {base : Heap} {N ps : List Str} {qual : Str} {scope : Scope} {f : Addr} {cd : Value} {A : Around} {outer : List Env} {s s1 : Shared} {H : Hp} {E : XK} {us : List Value} {vs : List V}
    (S : zt N ps scope) (hd : A.handled = none) (e0 : VJ P w K mg base A outer s H) (hl : vs.length = ps.length) (r : zD vs us)
    (x : InCallC s s.heap.objs.size (bindL (envOfC qual scope s.heap.objs.size f cd).kindOf (ps.zip us) fun _ => none) (cellsFrom (s.heap.objs.size + 1) scope.names []) (bindC (envOfC qual scope s.heap.objs.size f cd).kindOf (ps.zip us) fun _ => none) s1) :
    Inv (v7 CX P w K mg base N qual scope f cd A outer s H E) [] (qo N vs) H s1 := by
  have hpl : ps.length <= N.length := by have := congrArg List.length S.pre; rw [List.length_take] at this; omega
  obtain ⟨h1, tk, rfl, hk⟩ := x.done
  have noA : ∀ b : Addr, b ∉ (v7 CX P w K mg base N qual scope f cd A outer s H E).ex := fun b z => absurd (show b ∈ ([] : List Addr) from z) (by simp)
  refine ⟨⟨e0.mod, S.kind, rfl, rfl, Nat.le_refl _, fun y z c h1 h2 => ?_, fun y hy => ?_, fun y c _ h => ?_, fun _ => hd, Around.frames_deeper e0.frames, .inr ⟨rfl, rfl⟩, fun b z => absurd z (noA b), e0.bs, e0.bsz, fun b _ _ => noA b, fun b z => absurd z (noA b), e0.funs, e0.frf⟩,
    rfl, e0.bare, Un.kept hk, ⟨_, x.toInCall.ns, fun i y v h1 h2 h3 => ?_⟩, fun y c h => ⟨_, x.cell y c h⟩, e0.hok.fresh (Nat.le_refl _), fun y c h => ?_, fun p hp => absurd (show p ∈ ([] : List (Addr × Obj)) from hp) (by simp), e0.hok.kept hk, ?_⟩
  · exact name_of_addr x.apart (PySem.mem_of_lookup h1) (PySem.mem_of_lookup h2)
  · have hy : scope.names.lookup y = some .cell \/ scope.names.lookup y = some .free := hy
    rcases hy with hy | hy
    · exact Zx hy
    · exact absurd rfl (S.nofree _ (PySem.mem_of_lookup hy))
  · exact Nat.le_of_lt (x.above y c (PySem.mem_of_lookup h))
  · have hi : i < vs.length := by
      unfold qo at h2
      by_cases hi : i < vs.length
      · exact hi
      · rw [List.getElem?_append_right (by simpa using hi)] at h2
        rw [List.getElem?_replicate] at h2
        split at h2 <;> cases h2
    have ha : vs[i]? = some v := by
      unfold qo at h2
      rw [List.getElem?_append_left (by simpa using hi), List.getElem?_map] at h2
      cases e : vs[i]? with
      | none => rw [e] at h2; cases h2
      | some a => rw [e] at h2; cases h2; rfl
    obtain ⟨u, hu, rv⟩ := r.get ha
    have hp : ps[i]? = some y := by
      rw [<- S.pre, List.getElem?_take_of_lt (by omega)]; exact h1
    have ndP : ps.Nodup := by rw [<- S.pre]; exact S.nd.sublist (List.take_sublist _ _)
    refine ⟨u, rv, ?_⟩
    rcases S.par y (List.mem_of_getElem? hp) with k | k
    · exact .inl ⟨k, yK ndP hp hu k⟩
    · obtain ⟨c, e⟩ := Zx (n := s.heap.objs.size + 1) k
      refine .inr ⟨.inl k, c, e, ?_⟩
      have q := x.cell y c e
      rw [vp ndP hp hu (by show scope.names.lookup y ≠ _; rw [k]; decide)] at q
      exact q
  · exact e0.hok.fresh (Nat.le_of_lt (x.above y c (PySem.mem_of_lookup h)))
  · unfold qo
    show _ = N.length
    rw [List.length_append, List.length_map, List.length_replicate]
    omega
theorem DP {CX : CXT} {P : Program} {w : World} {K : PySem.W.Frag} {mg : Str -> Option Value} {base : Heap} {k : Nat} {f : Addr} {name qual : Str} {params : Arguments} {body : List Stmt} {scope : Scope} {dV kV doc pm cdv ct oc : Value} {an od : Option Addr}
  {osl : Array (Option Value)} {N ps : List Str} {sp : Sp} (lk : K.lookup f = some ⟨oc, od, .func (PySem.W.fnOf name qual params body scope dV kV doc pm an cdv ct), osl⟩) (hcd : PySem.W.codeIn K cdv qual = true) (S : zt N ps scope)
  (len : ∀ vs H Q E, sp vs H Q E -> vs.length = ps.length)
  (hbody : ∀ (A : Around) (outer : List Env) (s : Shared) (H : Hp) (vs : List V) (Q : VK) (E : XK), jk k (A.deeper (envOfC qual scope s.heap.objs.size f cdv)) -> sp vs H Q E ->
   ∃ t, PSs (v7 CX P w K mg base N qual scope f cdv A outer s H E) body t /\ t { nx := fun _ H' => Q .non H', rt := Q } (qo N vs) H) :
  kf P w K mg base CX (k + 1) f (PySem.W.fnOf name qual params body scope dV kV doc pm an cdv ct) ps sp := by
 refine ⟨len, fun A outer s H args us vs Q E hr e0 hb r hsp => ?_⟩
 have hl := len _ _ _ _ hsp
 have KX : K.In s.heap := e0.mod.kin.keeps fun b o e => (e0.bs b o e).1
 have lim : s.heap.NoLimit := e0.mod.nolimit.keeps fun b o e => (e0.bs b o e).1
 have hkind : ∀ y ∈ ps.zip us, scope.names.lookup y.1 = some .local \/ (scope.names.lookup y.1 = some .cell /\ ((cellsFrom (s.heap.objs.size + 1) scope.names []).lookup y.1).isSome = true) := fun ⟨n, v⟩ hy => by
  rcases S.par n (List.of_mem_zip hy).1 with q | q
  ·exact .inl q
  ·exact .inr ⟨q, PySem.W.cellsFrom_some _ _ _ (.inl q)⟩
 refine codeAny_call_function hr.depth (KX _ _ lk) rfl S.co S.gen rfl (PySem.W.codeRec_of KX hcd) (hb _ _ _ _ ?_)
 refine wpAny_newFunctionEnv_cells S.kind hkind fun env he s1 x => ?_
 subst he
 refine ⟨lim.keeps x.toInCall.keep, codeAny_func ?_⟩
 obtain ⟨t, ht, hq⟩ := hbody A outer s H vs Q E (hr.deeper _) hsp
 have I : Inv (v7 CX P w K mg base N qual scope f cdv A outer s H E) [] (qo N vs) H s1 := JN S hr.hd e0 hl r x
 refine wpAny_mono (ht [] s1 (qo N vs) H _ I hq) (fun fl s' hs => ?_) fun e s' hs => hs
 have fin : ∀ {σ' : St} {H' : Hp} {v : V} {u : Value}, Inv (v7 CX P w K mg base N qual scope f cdv A outer s H E) [] σ' H' s' -> zC v u -> Q v H' -> CE outer P w H s Q u s' :=
  fun {σ' H' v u} J rv q => ⟨v, H', J.os, J.bare, J.base, J.hok, rv, q⟩
 cases fl with
 | ret u =>
  obtain ⟨v, σ', H', J, rv, q⟩ := hs
  exact fin J rv q
 | next =>
  obtain ⟨σ', H', J, q⟩ := hs
  exact fin (v := V.non) (u := Value.none) J rfl q
 | brk =>
  obtain ⟨_, _, _, q⟩ := hs
  exact False.elim q
 | cont =>
  obtain ⟨_, _, _, q⟩ := hs
  exact False.elim q
end L2
namespace L2
open PySem PySem.Spec PyProof.Rows
section
variable {X : Cx} {x : Str} {p pos : Pos} {e : Expr} {es : List Expr} {t : TA} {id T : String} {r : List V -> Hp -> VK -> Prop}
noncomputable def tCB (r : List V -> Hp -> VK -> Prop) (t : TA) : TE := fun σ H Q => t σ H fun vs H1 => r vs H1 Q
theorem zj (hc : qN X (.builtin id) r) (hg : Gl X x) (hm : X.mg x = none) (hv : bootBuiltins x = some (.builtin id)) (ha : PA X (e :: es) t) (hn : x ≠ "__name__" := by decide) (hdb : (x == ("__debug__" : Str)) = false := by decide)
  (he : starEach (e :: es) X.env = (false, eval e X.env) :: starEach es X.env := by rfl) (hpl : (backTo pos (starEach es X.env)).any (·.1) = false := by rfl) : PE X (.Call (.Name x p) (e :: es) [] pos) (tCB r t) := by
 intro pins s σ H Q I h
 refine wpAny_Call_Name_kw (kz I hg hm hv ?_ hn hdb)
 exact PyProof.Rows.callWith_builtin1 (thn (ha pos pins s σ H _ I h) fun us s1 ⟨vs, H1, I1, r1, q1⟩ => hc pins s1 σ H1 vs us Q I1 r1 q1) he hpl
theorem ql (hc : qN X (.type T) r) (hg : Gl X x) (hm : X.mg x = none) (hv : bootBuiltins x = some (.type T)) (ha : PA X (e :: es) t) (hn : x ≠ "__name__" := by decide) (hdb : (x == ("__debug__" : Str)) = false := by decide)
  (he : starEach (e :: es) X.env = (false, eval e X.env) :: starEach es X.env := by rfl) (hpl : (backTo pos (starEach es X.env)).any (·.1) = false := by rfl) : PE X (.Call (.Name x p) (e :: es) [] pos) (tCB r t) := by
 intro pins s σ H Q I h
 refine wpAny_Call_Name_kw (kz I hg hm hv ?_ hn hdb)
 exact PyProof.Rows.callWith_type1 (thn (ha pos pins s σ H _ I h) fun us s1 ⟨vs, H1, I1, r1, q1⟩ => hc pins s1 σ H1 vs us Q I1 r1 q1) he hpl
end
end L2
namespace HT
open PySem PyProof.Rows
section
open PySem.SeqAt
open PySem.AutoSeq1 (wpAny_loadPart')
open PySem.MeetsSeq PySem.MeetsSeq2 PySem.MeetsSeq3
end
section
variable {prog : Program} {w : World} {A : Around} {E : Value -> Shared -> Prop} {s : Shared}
noncomputable def sIx (n d : Nat) : Option Int -> Nat
 | none => d
 | some v => if v < 0 then (v + (n : Int)).toNat else min v.toNat n
theorem sIx_none (n d : Nat) : sIx n d none = d := rfl
theorem sIx_nat (n d k : Nat) : sIx n d (some (k : Int)) = min k n := by
 show (if (k : Int) < 0 then ((k : Int) + (n : Int)).toNat else min (k : Int).toNat n) = min k n
 rw [if_neg (by omega), Int.toNat_natCast]
end
end HT
namespace L2
open PySem PySem.Spec PyProof.Rows
noncomputable abbrev TO := St -> Hp -> (Option Int -> Hp -> Prop) -> Prop
noncomputable def PO (X : Cx) (e : Option Expr) (t : TO) : Prop :=
 ∀ (pins : List (Addr × Obj)) (s : Shared) (σ : St) (H : Hp) (Q : Option Int -> Hp -> Prop), Inv X pins σ H s -> t σ H Q ->
  wpAny (model X.prog X.w) X.A (evalPart e X.env) (fun u s' => ∃ o H', Inv X pins σ H' s' /\ IsPart u o /\ Q o H') X.xe s
noncomputable def QS : TO := fun _ H Q => Q none H
noncomputable def WC (t : TE) : TO := fun σ H Q => t σ H fun x H1 => ∃ i, x = .int i /\ Q (some i) H1
section
variable {X : Cx} {e : Expr} {te : TE} {lo hi : Option Expr} {tl th : TO} {pos p2 : Pos}
theorem Vk : PO X none QS := by
 intro pins s σ H Q I h
 rw [evalPart_none]
 exact wpAny_pure ⟨none, H, I, .none, h⟩
theorem vX (h : PE X e te) : PO X (some e) (WC te) := by
 intro pins s σ H Q I hw
 rw [evalPart_some]
 refine thn (h pins s σ H _ I hw) fun u s1 ⟨x, H1, I1, r1, q1⟩ => ?_
 obtain ⟨i, rfl, q⟩ := q1
 obtain ⟨t, rfl⟩ := r1
 exact ⟨some i, H1, I1, .int i t, q⟩
noncomputable def SlR (X : Cx) (r : V -> Option Int -> Option Int -> Hp -> VK -> Prop) : Prop :=
 ∀ (pins : List (Addr × Obj)) (s : Shared) (σ : St) (H : Hp) (x : V) (v vl vu : Value) (lo hi : Option Int) (sl : Addr) (Q : VK), Inv X pins σ H s -> zC x v -> s.heap.IsSliceOf sl vl vu .none -> IsPart vl lo -> IsPart vu hi -> r x lo hi H Q ->
  ∃ T id, typeLookup (.type T) "__getitem__" = pure (some (.builtin id)) /\ s.TypeIs v T /\ wpAny (model X.prog X.w) X.A (getItem v (.ref sl)) (EP X pins σ Q) X.xe s
noncomputable def tSl (r : V -> Option Int -> Option Int -> Hp -> VK -> Prop) (te : TE) (tl th : TO) : TE := fun σ H Q => te σ H fun x H1 => tl σ H1 fun l H2 => th σ H2 fun u H3 => r x l u H3 Q
theorem wX {r : V -> Option Int -> Option Int -> Hp -> VK -> Prop} (hr : SlR X r) (he : PE X e te) (hl : PO X lo tl) (hu : PO X hi th) : PE X (.Subscript e (.Slice lo hi none p2) pos) (tSl r te tl th) := by
 intro pins s σ H Q I h
 refine Subscript_ (thn (he pins s σ H _ I h) fun v s1 ⟨x, H1, I1, r1, q1⟩ => ?_)
 refine wpAny_Slice (thn (hl pins s1 σ H1 _ I1 q1) fun vl s2 ⟨l, H2, I2, pl, q2⟩ => thn (hu pins s2 σ H2 _ I2 q2) fun vu s3 ⟨u, H3, I3, pu, q3⟩ => ?_)
 rw [evalPart_none]
 refine wpAny_pure ?_
 have I4 : Inv X pins σ H3 { s3 with heap := s3.heap.push { cls := .type "slice", data := .fields #[vl, vu, .none] } } := I3.kept (t' := s3.toks) fun b ob q => Heap.get?_push_of_some _ q
 obtain ⟨T, id, hT, ht, hg⟩ := hr pins { s3 with heap := s3.heap.push { cls := .type "slice", data := .fields #[vl, vu, .none] } } σ H3 x v vl vu l u s3.heap.objs.size Q I4 r1 (Heap.IsSliceOf.new ..) pl pu q3
 show wpAny (model X.prog X.w) X.A (subscriptTail e (.Slice lo hi none p2) v (.ref s3.heap.objs.size)) (EP X pins σ Q) X.xe { s3 with heap := s3.heap.push { cls := .type "slice", data := .fields #[vl, vu, .none] } }
 exact tail_any (ops := [.ref s3.heap.objs.size, v]) ht hT hg (by with_unfolding_all rfl)
noncomputable def J9 (xs : List V) (lo hi : Option Int) : List V := (xs.drop (HT.sIx xs.length 0 lo)).take (HT.sIx xs.length xs.length hi - HT.sIx xs.length 0 lo)
theorem wW (xs : List V) (lo hi : Option Int) : (J9 xs lo hi).length <= xs.length := by
 unfold J9
 rw [List.length_take, List.length_drop]
 omega
end
end L2
namespace L2
open PySem PySem.Spec PyProof.Rows
noncomputable def ixN (n : Nat) (i : Int) : Option Nat := if 0 <= i then (if i < n then some i.toNat else none) else if -(n : Int) <= i then some (i + n).toNat else none
noncomputable def atI {α : Type} (xs : List α) (i : Int) : Option α := (ixN xs.length i).bind fun j => xs[j]?
theorem QZ {n : Nat} {i : Int} {j : Nat} (h : ixN n i = some j) : seqIndex? i n = some j /\ j < n /\ -(n : Int) <= i /\ i < n := by
 unfold ixN at h
 by_cases h0 : 0 <= i
 ·rw [if_pos h0] at h
  by_cases h1 : i < n
  ·rw [if_pos h1] at h
   have e : i.toNat = j := Option.some.inj h
   exact ⟨by rw [seqIndex_of h0 h1, e], by omega, by omega, h1⟩
  ·rw [if_neg h1] at h; cases h
 ·rw [if_neg h0] at h
  by_cases h1 : -(n : Int) <= i
  ·rw [if_pos h1] at h
   have e : (i + n).toNat = j := Option.some.inj h
   exact ⟨by rw [seqIndex_neg (by omega) h1, e], by omega, h1, by omega⟩
  ·rw [if_neg h1] at h; cases h
theorem Jp {α : Type} {xs : List α} {i : Int} {v : α} (h : atI xs i = some v) : ∃ j, seqIndex? i xs.length = some j /\ xs[j]? = some v /\ j < xs.length /\ -(xs.length : Int) <= i /\ i < xs.length := by
 unfold atI at h
 cases e : ixN xs.length i with
 | none => rw [e] at h; cases h
 | some j =>
  rw [e] at h
  obtain ⟨h1, h2, h3, h4⟩ := QZ e
  exact ⟨j, h1, h, h2, h3, h4⟩
theorem Wr {α : Type} {xs : List α} {j : Nat} {v : α} (h : xs[j]? = some v) : atI xs (j : Int) = some v := by
 have hj : j < xs.length := (List.getElem?_eq_some_iff.mp h).1
 have e : ixN xs.length (j : Int) = some j := by
  unfold ixN
  rw [if_pos (by omega), if_pos (by omega)]; simp
 unfold atI; rw [e]; exact h
noncomputable def VE (b : Expr) : Prop := ∀ o i, subscripted b false o i = operate [o, i] (getItem o i)
noncomputable def IxR (X : Cx) (r : R2) : Prop :=
 ∀ (value slice : Expr) (pins : List (Addr × Obj)) (s : Shared) (σ : St) (H : Hp) (x y : V) (v u : Value) (Q : VK), Inv X pins σ H s -> zC x v -> zC y u -> r x y H Q ->
  subscripted slice false v u = operate [v, u] (getItem v u) -> wpAny (model X.prog X.w) X.A (subscriptTail value slice v u) (EP X pins σ Q) X.xe s
noncomputable def MtR (X : Cx) (id : String) (r : V -> List V -> Hp -> VK -> Prop) : Prop :=
 ∀ (pins : List (Addr × Obj)) (s : Shared) (σ : St) (H : Hp) (x : V) (xs : List V) (v : Value) (us : List Value) (Q : VK), Inv X pins σ H s -> zC x v -> zD xs us -> r x xs H Q ->
  wpAny (model X.prog X.w) X.A (call (.builtin id) (v :: us)) (EP X pins σ Q) X.xe s
section
variable {X : Cx} {a b : Expr} {ta tb : TE} {pos : Pos}
theorem zV {r : R2} (hr : IxR X r) (ha : PE X a ta) (hb : PE X b tb) (hs : VE b) : PE X (.Subscript a b pos) (tOp r ta tb) := by
 intro pins s σ H Q I h
 exact Subscript_ (BG ha hb I h fun v u s2 x y H2 I2 rx ry q => hr a b pins s2 σ H2 x y v u Q I2 rx ry q (hs _ _))
noncomputable def DD (K : PySem.W.Frag) : R2 := fun x y H Q => ∃ p xs i v, x = .ref p /\ y = .int i /\ SqL K H p xs /\ atI xs i = some v /\ Q v H
noncomputable def Dt (K : PySem.W.Frag) : R2 := fun x y H Q => ∃ p xs i v, x = .ref p /\ y = .int i /\ SqT K H p xs /\ atI xs i = some v /\ Q v H
theorem qe : IxR X (DD X.K) := by
  intro value slice pins s σ H x y v u Q I rx ry h hs
  obtain ⟨p, xs, i, z, rfl, rfl, hq, he, q⟩ := h
  cases rx
  obtain ⟨t, rfl⟩ := ry
  obtain ⟨its, r, pl, hz⟩ := I.list hq
  obtain ⟨j, h1, h2, h3, h4, h5⟩ := Jp he
  obtain ⟨w, ew, rw'⟩ := r.get h2
  have hl := r.length
  have hn := wb
  have fin : EP X pins σ Q w s := ⟨z, H, I, rw', q⟩
  by_cases h0 : 0 <= i
  · have hj : i.toNat = j := by
      rw [seqIndex_of h0 h5] at h1
      exact Option.some.inj h1
    exact item_listR pl.isList h0 (by omega) (by rw [hj]; simpa using ew) fin hs
  · have hj : (i + (its.toArray.size : Int)).toNat = j := by
      rw [seqIndex_neg (by omega) h4] at h1
      rw [List.size_toArray, <- hl]
      exact Option.some.inj h1
    exact subscriptTail_builtinR (x := w) pl.isList.typeIs slot_list_getitem.lookup
      (wpAny_getItem_list_neg (Q := fun r s' => r = w /\ EP X pins σ Q r s') pl.isList (by omega) (by rw [List.size_toArray] <;> omega) (by omega) (by rw [hj]; simpa using ew) ⟨rfl, fin⟩) hs
theorem Qa : IxR X (Dt X.K) := by
 intro value slice pins s σ H x y v u Q I rx ry h hs
 obtain ⟨p, xs, i, z, rfl, rfl, hq, he, q⟩ := h
 cases rx
 obtain ⟨t, rfl⟩ := ry
 obtain ⟨its, r, pl, hz⟩ := I.tuple hq
 obtain ⟨j, h1, h2, h3, h4, h5⟩ := Jp he
 obtain ⟨w, ew, rw'⟩ := r.get h2
 have hl := r.length
 have hn := wb
 have fin : EP X pins σ Q w s := ⟨z, H, I, rw', q⟩
 exact subscriptTail_builtinR (x := w) pl.typeIs slot_tuple_getitem.lookup
  (getItem_tuple (j := j) (Q := fun r s' => r = w /\ EP X pins σ Q r s') pl (by omega) (by omega) (by rw [List.size_toArray, <- hl]; exact h1) (by simpa using ew) ⟨rfl, fin⟩) hs
theorem Qc (its : List Value) (n j : Nat) (u : Value) : Obj.mapSeq (·.setIfInBounds j u) { cls := .type "list", data := .seq its.toArray n } = { cls := .type "list", data := .seq (its.set j u).toArray n } := by
 simp [Obj.mapSeq]
theorem Inv.lst {pins : List (Addr × Obj)} {σ : St} {H : Hp} {s : Shared} {p : Addr} {xs : List V} (I : Inv X pins σ H s) (h : H p = some (.lst xs)) :
  ∃ (its : List Value) (n : Nat), zD xs its /\ s.heap.get? p = some { cls := .type "list", data := .seq its.toArray n } /\ xs.length <= sizeLine := by
 obtain ⟨z, its, n, r, e⟩ := I.hok p _ h
 exact ⟨its, n, r, e, z⟩
theorem Inv.lstUpd {pins : List (Addr × Obj)} {σ : St} {H : Hp} {s : Shared} {p : Addr} {xs ys : List V} {its its' : List Value} {n n' : Nat} {f : Obj -> Obj} (I : Inv X pins σ H s) (h : H p = some (.lst xs))
  (ho : s.heap.get? p = some { cls := .type "list", data := .seq its.toArray n }) (hf : f { cls := .type "list", data := .seq its.toArray n } = { cls := .type "list", data := .seq its'.toArray n' }) (r : zD ys its') (hz : ys.length <= sizeLine) (t : Nat) :
  Inv X pins σ (upd H p (.lst ys)) { s with heap := s.heap.update p f, toks := t } := by
 have e : (s.heap.update p f).get? p = some { cls := .type "list", data := .seq its'.toArray n' } := by
  rw [Heap.get?_update_self f ho (by rw [hf] <;> rfl), hf]
 refine I.write (x := p) (e := p) (by rw [h]; trivial) (.inl rfl) (fun b u hb q => (Heap.get?_update_other _ _ (Ne.symm hb)).trans q) ⟨_, e⟩ ?_
 exact ⟨hz, its', n', r, e⟩
noncomputable def WA : V -> V -> V -> Hp -> (Hp -> Prop) -> Prop := fun o i v H Q => ∃ p xs k j, o = .ref p /\ i = .int k /\ H p = some (.lst xs) /\ ixN xs.length k = some j /\ Q (upd H p (.lst (xs.set j v)))
theorem Xc : Ba X WA := by
  intro pins s σ H o i v ov iv u Q I ro ri rv h
  obtain ⟨p, xs, k, j, rfl, rfl, hp, hj, q⟩ := h
  cases ro
  obtain ⟨t, rfl⟩ := ri
  obtain ⟨its, n, r, ho, hz⟩ := I.lst hp
  obtain ⟨h1, h2, h3, h4⟩ := QZ hj
  have hl := r.length
  have hn := wb
  have I' : Inv X pins σ (upd H p (.lst (xs.set j v))) { s with heap := s.heap.update p (Obj.mapSeq (·.setIfInBounds j u)) } :=
    I.lstUpd hp ho (Qc its n j u) (r.set rv j) (by rw [List.length_set]; exact hz) s.toks
  by_cases h0 : 0 <= k
  · have hk : k.toNat = j := by
      rw [seqIndex_of h0 h4] at h1
      exact Option.some.inj h1
    exact PySem.W.ki_setAt ho h0 (by omega) (by rw [List.size_toArray, <- hl]; exact h4) (by rw [hk]; exact ⟨_, I', q⟩)
  · have hk : (k + (its.toArray.size : Int)).toNat = j := by
      rw [seqIndex_neg (by omega) h3] at h1
      rw [List.size_toArray, <- hl]
      exact Option.some.inj h1
    exact PySem.W.ki_setBack ho (by omega) (by rw [List.size_toArray, <- hl]; exact h3) (by omega) (by rw [hk]; exact ⟨_, I', q⟩)
theorem vQ (lo hi : Option Int) (n : Nat) : (sliceBounds lo hi none n).1 = ((HT.sIx n 0 lo : Nat) : Int) /\ (sliceBounds lo hi none n).2.1 = ((HT.sIx n n hi : Nat) : Int) /\ (sliceBounds lo hi none n).2.2 = 1 := by
 refine ⟨?_, ?_, rfl⟩
 ·cases lo with
  | none => simp [sliceBounds, HT.sIx]
  | some i =>
   simp only [sliceBounds, HT.sIx, Option.getD_none, show (1 : Int) > 0 by decide, if_true]
   by_cases h : i < 0
   ·simp only [h, if_true] <;> omega
   ·simp only [h, if_false] <;> omega
 ·cases hi with
  | none => simp [sliceBounds, HT.sIx]
  | some i =>
   simp only [sliceBounds, HT.sIx, Option.getD_none, show (1 : Int) > 0 by decide, if_true]
   by_cases h : i < 0
   ·simp only [h, if_true] <;> omega
   ·simp only [h, if_false] <;> omega
theorem yH (its : List Value) (lo hi : Option Int) : slicePick its.toArray lo hi none = ((its.drop (HT.sIx its.length 0 lo)).take (HT.sIx its.length its.length hi - HT.sIx its.length 0 lo)).toArray := by
 obtain ⟨h1, h2, h3⟩ := vQ lo hi its.toArray.size
 unfold slicePick
 rw [h1, h2, h3]
 simp only [sliceRange_one, pick_run, List.size_toArray] <;> rfl
noncomputable def DY (K : PySem.W.Frag) : V -> Option Int -> Option Int -> Hp -> VK -> Prop := fun x lo hi H Q => ∃ a xs, x = .ref a /\ SqL K H a xs /\ ∀ p, H p = none -> Q (.ref p) (upd H p (.lst (J9 xs lo hi)))
theorem Jq : SlR X (DY X.K) := by
 intro pins s σ H x v vl vu lo hi sl Q I rx hs pl pu h
 obtain ⟨a, xs, rfl, hx, q⟩ := h
 cases rx
 obtain ⟨its, r, ht, hz⟩ := I.list hx
 have hlen := r.length
 refine ⟨"list", _, slot_list_getitem.lookup, ht.isList.typeIs, ?_⟩
 refine wpAny_getItem_list_slice ht.isList hs pl pu .none (by simp) ?_ (by rw [List.size_toArray] <;> omega)
 rw [yH, <- hlen]
 refine ⟨.ref s.heap.objs.size, _, I.laid (t' := s.toks) (o := .lst (J9 xs lo hi)) (fun b ob q => Heap.get?_push_of_some _ q) (Nat.le_refl _) ?_, rfl, q _ (I.hok.fresh (Nat.le_refl _))⟩
 exact ⟨Nat.le_trans (wW xs lo hi) hz, _, 0, (r.drop (HT.sIx xs.length 0 lo)).take (HT.sIx xs.length xs.length hi - HT.sIx xs.length 0 lo), Heap.get?_push_size _ rfl⟩
theorem zk : qN X (.builtin "len") (fun xs H Q => ∃ p ys, xs = [.ref p] /\ (SqL X.K H p ys \/ SqT X.K H p ys) /\ Q (.int ys.length) H) := by
 intro pins s σ H xs us Q I r h
 obtain ⟨p, ys, rfl, hq, q⟩ := h
 obtain ⟨u, rfl, rx⟩ := jS r
 cases rx
 have hn := wb
 rcases hq with hq | hq
 ·obtain ⟨its, r', pl, hz⟩ := I.list hq
  have hlen := r'.length
  exact Calls.call_len_list pl.isList (by simp only [List.size_toArray] <;> omega) ⟨.int ys.length, H, I.tok _, ⟨s.toks + 1, by rw [List.size_toArray, hlen]⟩, q⟩
 ·obtain ⟨its, r', pl, hz⟩ := I.tuple hq
  have hlen := r'.length
  exact len_tuple pl (by simp only [List.size_toArray] <;> omega) ⟨.int ys.length, H, I.tok _, ⟨s.toks + 1, by rw [List.size_toArray, hlen]⟩, q⟩
theorem vI : qN X (.type "list") (fun xs H Q => ∃ p ys, xs = [.ref p] /\ (SqL X.K H p ys \/ SqT X.K H p ys) /\ ∀ l, H l = none -> Q (.ref l) (upd H l (.lst ys))) := by
 intro pins s σ H xs us Q I r h
 obtain ⟨p, ys, rfl, hq, q⟩ := h
 obtain ⟨u, rfl, rx⟩ := jS r
 cases rx
 have fin : ∀ (its : List Value), zD ys its -> ys.length <= sizeLine -> ∀ (h' : Heap) (c' : Nat), (∀ b o', s.heap.get? b = some o' -> h'.get? b = some o') ->
   h'.get? s.heap.objs.size = some { cls := .type "list", dict := none, data := .seq its.toArray c', slots := #[] } -> EP X pins σ Q (.ref s.heap.objs.size) { s with heap := h' } := fun its r' hz h' c' kp e =>
  ⟨.ref s.heap.objs.size, _, I.laid (t' := s.toks) kp (Nat.le_refl _) (show zL X.prog X.w _ h' _ (.lst ys) from ⟨hz, its, c', r', e⟩), rfl, q _ (I.hok.fresh (Nat.le_refl _))⟩
 rcases hq with hq | hq
 ·obtain ⟨its, r', pl, hz⟩ := I.list hq
  have hlen := r'.length
  obtain ⟨o, ho, hc, n, hd⟩ := pl.isList
  exact call_list_seq p (.inl rfl) ho hc hd (fun h' c' kp e => fin its r' hz h' c' kp e) (by simp only [List.size_toArray] <;> omega)
 ·obtain ⟨its, r', pl, hz⟩ := I.tuple hq
  have hlen := r'.length
  obtain ⟨o, ho, hc, n, hd⟩ := pl
  exact call_list_seq p (.inr rfl) ho hc hd (fun h' c' kp e => fin its r' hz h' c' kp e) (by simp only [List.size_toArray] <;> omega)
noncomputable def tyV (K : PySem.W.Frag) (T : String) (x : V) (H : Hp) : Prop := match x with
  | .str _ => T = "str"
  | .int _ => T = "int"
  | .ref p => (T = "list" /\ ∃ xs, SqL K H p xs) \/ (T = "tuple" /\ ((∃ xs, Rd H p (.tup xs)) \/ ∃ o, K.lookup p = some o /\ o.cls = .type "tuple" /\ o.dict = none)) \/
      (T = "dict" /\ ((∃ kvs, H p = some (.dK kvs)) \/ ∃ kvs, H p = some (.dT kvs))) \/ (T = "set" /\ ∃ S n, H p = some (.set S n))
  | _ => False
theorem A1 {pins : List (Addr × Obj)} {σ : St} {H : Hp} {s : Shared} {T : String} {x : V} {v : Value} (I : Inv X pins σ H s) (r : zC x v) (ty : tyV X.K T x H) :
    s.TypeIs v T /\ ∀ a, v = .ref a -> ∃ ob, s.heap.get? a = some ob /\ ob.dict = none := by
  cases x with
  | str z =>
    obtain ⟨t, rfl⟩ := r
    cases (show T = "str" from ty)
    exact ⟨typeIs_str s z t, fun _ e => nomatch e⟩
  | int i =>
    obtain ⟨t, rfl⟩ := r
    cases (show T = "int" from ty)
    exact ⟨typeIs_int s i t, fun _ e => nomatch e⟩
  | ref p =>
    cases r
    rcases ty with ⟨rfl, xs, hq⟩ | ⟨rfl, ⟨xs, hx⟩ | ⟨o, hk, hc, hd⟩⟩ | ⟨rfl, hk⟩ | ⟨rfl, S, n, hk⟩
    · obtain ⟨its, _, pl, _⟩ := I.list hq
      refine ⟨pl.isList.typeIs, fun a e => ?_⟩
      cases e
      obtain ⟨o, n, e, c, hd, _⟩ := pl
      exact ⟨o, e, hd⟩
    · obtain ⟨_, its, _, o, e, c, _, hd⟩ := hx.ok I.hok
      refine ⟨⟨o, e, c⟩, fun a e2 => ?_⟩
      cases e2
      exact ⟨o, e, hd⟩
    · refine ⟨⟨o, I.kIn p o hk, hc⟩, fun a e => ?_⟩
      cases e
      exact ⟨o, I.kIn _ o hk, hd⟩
    · have z : ∃ o, s.heap.get? p = some o /\ o.ExactDict := by
        rcases hk with ⟨kvs, hk⟩ | ⟨kvs, hk⟩
        · obtain ⟨_, _, _, _, o, _, _, e, ex, _⟩ := I.hok p _ hk
          exact ⟨o, e, ex⟩
        · obtain ⟨_, _, _, _, o, _, _, e, ex, _⟩ := I.hok p _ hk
          exact ⟨o, e, ex⟩
      obtain ⟨o, e, ex⟩ := z
      refine ⟨⟨o, e, ex.1⟩, fun a e2 => ?_⟩
      cases e2
      exact ⟨o, e, ex.2.1⟩
    · obtain ⟨o, _, _, _, e, ex, _⟩ := I.hok p _ hk
      refine ⟨⟨o, e, ex.1⟩, fun a e2 => ?_⟩
      cases e2
      exact ⟨o, e, ex.2.1⟩
  | _ => exact False.elim ty
noncomputable def tBM (K : PySem.W.Frag) (T : String) (r : V -> List V -> Hp -> VK -> Prop) (to : TE) (t : TA) : TE := fun σ H Q => to σ H fun x H1 => tyV K T x H1 /\ t σ H1 fun xs H2 => r x xs H2 Q
variable {o e : Expr} {es : List Expr} {to : TE} {t : TA} {name : Str} {apos cpos : Pos} {T id : String} {r : V -> List V -> Hp -> VK -> Prop}
theorem QC (pa : PlainAttrs T) (slot : Slot T name id) (hty : typeOf (.builtin id) = pure (.type "method_descriptor")) (hm : MtR X id r) (ho : PE X o to) (ha : PA X (e :: es) t)
  (hbase : attributeBase o name X.env (eval o X.env) = eval o X.env := by rfl)
  (hfew : ((backTo cpos (starEach (e :: es) X.env)).all (fun x => !x.1) && (backToKw cpos (keywordEach [] X.env)).all (fun x => x.1.isSome)
   && decide ((e :: es).length + ([] : List Keyword).length + (if ([] : List Keyword).isEmpty then 0 else 1) < 30)) = true := by rfl)
  (hline : (apos.endLine == cpos.line) = true := by rfl) (hs : starEach (e :: es) X.env = (false, eval e X.env) :: starEach es X.env := by rfl) (hplain : (backTo cpos (starEach es X.env)).any (·.1) = false := by rfl) :
  PE X (.Call (.Attribute o name apos) (e :: es) [] cpos) (tBM X.K T r to t) := by
 intro pins s σ H Q I h
 refine wpAny_Call_method_late hbase hfew hline rfl (thn (ho pins s σ H _ I h) fun v s1 ⟨x, H1, I1, r1, ty, q1⟩ => ?_)
 obtain ⟨h1, h2⟩ := A1 I1 r1 ty
 refine ⟨T, id, pa, slot, hty, h1, h2, ?_⟩
 have hA := ha cpos pins s1 σ H1 _ I1 q1
 rw [hs] at hA ⊢
 refine Calls.callWith_builtin (by show (false || (backTo cpos (starEach es X.env)).any (·.1)) = false; rw [hplain] <;> rfl) (Calls.evalArgs_plain ?_)
 exact thn hA fun us s2 ⟨vs, H2, I2, r2, q2⟩ => hm pins s2 σ H2 x vs v us Q I2 r1 r2 q2
/- xs.append(e), list.index on a module's tuple .. are MtR facts of 06m -/
end
end L2
namespace L2
open PySem PySem.Spec PyProof.Rows
noncomputable def MtM (X : Cx) (id : String) (r : V -> List V -> Hp -> VK -> Prop) : Prop :=
 ∀ (pins : List (Addr × Obj)) (s : Shared) (σ : St) (H : Hp) (x : V) (xs : List V) (v : Value) (us : List Value) (Q : VK), Inv X pins σ H s -> zC x v -> zD xs us -> r x xs H Q ->
  wpAny (model X.prog X.w) X.A (call (.builtin id) (v :: us)) (EP X pins σ Q) X.xe s
theorem zD.one : ∀ {x : V} {us : List Value}, zD [x] us -> ∃ u, us = [u] /\ zC x u
 | _, _, .cons r .nil => ⟨_, rfl, r⟩
theorem zD.rep {xs : List V} {us : List Value} (h : zD xs us) : ∀ k : Nat, zD (List.replicate k xs).flatten (List.replicate k us).flatten
 | 0 => .nil
 | k + 1 => by
  rw [List.replicate_succ, List.replicate_succ, List.flatten_cons, List.flatten_cons]
  exact zD.append h (zD.rep h k)
theorem yN (its : List Value) : ∀ (k : Nat) (acc : List Value),
  List.foldl (fun x1 x2 => x1 ++ x2) acc.toArray (List.replicate k its.toArray) = (acc ++ (List.replicate k its).flatten).toArray
 | 0, acc => by simp
 | k + 1, acc => by
  have e : acc.toArray ++ its.toArray = (acc ++ its).toArray := by simp
  have e2 : (acc ++ its) ++ (List.replicate k its).flatten = acc ++ (List.replicate (k + 1) its).flatten := by
   rw [List.replicate_succ, List.flatten_cons, List.append_assoc]
  rw [<- e2, <- yN its k (acc ++ its), <- e, List.replicate_succ, List.foldl_cons]
section
variable {X : Cx} {pins : List (Addr × Obj)} {σ : St} {H : Hp} {s : Shared} {l b : Addr} {xs ys zs : List V}
theorem Inv.lset {its its' : List Value} {n : Nat} {f : Array Value -> Array Value} {t' : Nat} (I : Inv X pins σ H s) (hH : H l = some (.lst xs))
  (e : s.heap.get? l = some { cls := .type "list", data := .seq its.toArray n }) (hf : f its.toArray = its'.toArray) (hv : zD ys its') (hz : ys.length <= sizeLine) :
  Inv X pins σ (upd H l (.lst ys)) { s with heap := s.heap.update l (Obj.mapSeq f), toks := t' } := by
 have q := PySem.IsL.update e f
 rw [hf] at q
 refine I.write (x := l) (e := l) (by rw [hH]; exact trivial) (.inl rfl) (fun b' u hb hu => (Heap.get?_update_other s.heap (Obj.mapSeq f) (Ne.symm hb)).trans hu) ⟨_, q⟩ ?_
 exact ⟨hz, its', _, hv, q⟩
theorem Inv.lnew {its : List Value} {t' : Nat} (I : Inv X pins σ H s) (hv : zD ys its) (hz : ys.length <= sizeLine) :
  Inv X pins σ (upd H s.heap.objs.size (.lst ys)) { s with heap := s.heap.push { cls := .type "list", data := .seq its.toArray }, toks := t' } :=
 I.laid (fun _ _ q => Heap.get?_push_of_some _ q) (Nat.le_refl _) ⟨hz, its, 0, hv, Heap.get?_push_size _ rfl⟩
theorem Inv.fresh (I : Inv X pins σ H s) : H s.heap.objs.size = none := I.hok.fresh (Nat.le_refl _)
theorem Inv.lstM (I : Inv X pins σ H s) (hH : H l = some (.lst xs)) : xs.length <= sizeLine /\ ∃ (its : List Value) (n : Nat), zD xs its /\ xs.length = its.length /\ s.heap.get? l = some { cls := .type "list", data := .seq its.toArray n } := by
 obtain ⟨z, its, n, r, e⟩ := I.hok l _ hH
 exact ⟨z, its, n, r, r.length, e⟩
theorem wK {n : Nat} (h : n <= sizeLine) : Builtin.List.listTooLong n = false := by
 unfold Builtin.List.listTooLong
 exact decide_eq_false (by omega)
end
section
variable {X : Cx}
noncomputable def vW : V -> List V -> Hp -> VK -> Prop := fun x vs H Q => ∃ l xs y, x = .ref l /\ vs = [y] /\ H l = some (.lst xs) /\ xs.length < sizeLine /\ Q .non (upd H l (.lst (xs ++ [y])))
theorem yQ : MtM X "list.append" vW := by
 intro pins s σ H x vs v us Q I rx rv h
 obtain ⟨l, xs, y, rfl, rfl, hH, hz, q⟩ := h
 cases rx
 obtain ⟨u, rfl, ru⟩ := rv.one
 obtain ⟨z, its, n, r, hl, e⟩ := I.lstM hH
 refine call_meets F.slot_list_append ⟨_, e, rfl⟩ F.entry_list_append (F.args_list_append_2 _ _) (PySem.list_append l its.toArray n u (by rw [List.size_toArray]; omega)) ⟨e, ?_⟩
 refine ⟨.non, _, I.lset (its' := its ++ [u]) hH e (by simp) (r.append (.cons ru .nil)) ?_, rfl, q⟩
 rw [List.length_append, List.length_singleton]
 omega
noncomputable def QE : V -> List V -> Hp -> VK -> Prop := fun x vs H Q => ∃ l b xs zs, x = .ref l /\ vs = [.ref b] /\ H l = some (.lst xs) /\ H b = some (.lst zs) /\ xs.length + zs.length <= sizeLine /\ Q .non (upd H l (.lst (xs ++ zs)))
theorem Dg : MtM X "list.extend" QE := by
 intro pins s σ H x vs v us Q I rx rv h
 obtain ⟨l, b, xs, zs, rfl, rfl, hH, hB, hz, q⟩ := h
 cases rx
 obtain ⟨u, rfl, ru⟩ := rv.one
 cases ru
 obtain ⟨z, its, n, r, hl, e⟩ := I.lstM hH
 obtain ⟨z2, its2, n2, r2, hl2, e2⟩ := I.lstM hB
 have hsz : its.toArray.size + its2.toArray.size <= sizeLine := by rw [List.size_toArray, List.size_toArray]; omega
 have hlong : ¬ (!its.toArray.isEmpty && Builtin.List.listTooLong (its.toArray.size + its2.toArray.size)) = true := by
  rw [wK hsz, Bool.and_false]
  exact Bool.false_ne_true
 refine call_meets F.slot_list_extend ⟨_, e, rfl⟩ F.entry_list_extend (F.args_list_extend_2 _ _)
  (AutoSeq1.list_extend_list_list_0 l its.toArray n b its2.toArray n2 hlong (by rw [List.size_toArray]; omega) (by omega)) ⟨e, e2, ?_⟩
 refine ⟨.non, _, I.lset (its' := its ++ its2) hH e (by simp) (r.append r2) ?_, rfl, q⟩
 rw [List.length_append]
 omega
noncomputable def VX : R2 := fun x y H Q => ∃ l b xs zs, x = .ref l /\ y = .ref b /\ H l = some (.lst xs) /\ H b = some (.lst zs) /\ xs.length + zs.length <= sizeLine /\ ∀ p, H p = none -> Q (.ref p) (upd H p (.lst (xs ++ zs)))
theorem Yo : OpR X (binaryOp .Add) VX := by
 intro pins s σ H x y v u Q I rx ry h
 obtain ⟨l, b, xs, zs, rfl, rfl, hH, hB, hz, q⟩ := h
 cases rx
 cases ry
 obtain ⟨z, its, n, r, hl, e⟩ := I.lstM hH
 obtain ⟨z2, its2, n2, r2, hl2, e2⟩ := I.lstM hB
 refine PySem.P.add_list e e2 ?_ (by rw [List.size_toArray, List.size_toArray]; omega)
 have ea : its.toArray ++ its2.toArray = (its ++ its2).toArray := by simp
 rw [ea]
 exact ⟨.ref _, _, I.lnew (t' := s.toks) (r.append r2) (by rw [List.length_append]; omega), rfl, q _ I.fresh⟩
noncomputable def VV : R2 := fun x y H Q => ∃ l k xs, x = .ref l /\ y = .int k /\ H l = some (.lst xs) /\ -(2 ^ 63) <= k /\ k < 2 ^ 63 /\ xs.length * k.toNat <= sizeLine /\
 ∀ p, H p = none -> Q (.ref p) (upd H p (.lst (List.replicate k.toNat xs).flatten))
theorem V2 {α : Type} (xs : List α) (k : Nat) : (List.replicate k xs).flatten.length = k * xs.length := by
 induction k with
 | zero => simp
 | succ k ih => rw [List.replicate_succ, List.flatten_cons, List.length_append, ih, Nat.succ_mul, Nat.add_comm]
theorem vP : OpR X (binaryOp .Mult) VV := by
 intro pins s σ H x y v u Q I rx ry h
 obtain ⟨l, k, xs, rfl, rfl, hH, h1, h2, hz, q⟩ := h
 cases rx
 obtain ⟨t, rfl⟩ := ry
 obtain ⟨z, its, n, r, hl, e⟩ := I.lstM hH
 have hlen : its.toArray.size * k.toNat <= sizeLine := by rw [List.size_toArray, <- hl]; exact hz
 have hcap : ¬ its.toArray.size * k.toNat > (2 ^ 63 - 1) / 8 := by
  have : (sizeLine : Nat) <= (2 ^ 63 - 1) / 8 := by decide
  omega
 have hfit : ¬ (!Builtin.List.listFitsIndex k) = true := by
  rw [fitsIndex_both h1 h2]
  exact Bool.false_ne_true
 have hlong : ¬ Builtin.List.listTooLong (its.toArray.size * k.toNat) = true := by
  rw [wK hlen]
  exact Bool.false_ne_true
 have hnew : List.foldl (fun x1 x2 => x1 ++ x2) #[] (List.replicate (if its.toArray.isEmpty = true then 0 else k.toNat) its.toArray) = (List.replicate k.toNat its).flatten.toArray := by
  have f0 : ∀ m : Nat, List.foldl (fun x1 x2 => x1 ++ x2) #[] (List.replicate m its.toArray) = (List.replicate m its).flatten.toArray := fun m => by
   have := yN its m []
   rw [List.nil_append] at this
   exact this
  rw [f0]
  cases its with
  | nil => simp
  | cons a r' => rw [if_neg (by simp)]
 refine wpAny_binaryOp_repeat_ref (T := "list") (U := "int") (by decide) ⟨_, e, rfl⟩ (fun s' => typeIs_int s' k t) noFill_list_mul F.fills_int_mul F.slot_int_rmul repeat_list F.slot_int_index.lookup
  (call_meets F.slot_int_rmul (typeIs_int s k t) F.entry_int_rmul (F.args_int_rmul_2 _ _) (int___rmul___int_list k t l its.toArray n)
   ⟨e, rfl, ⟨_, e, rfl⟩, call_meets F.slot_list_mul ⟨_, e, rfl⟩ F.entry_list_mul (F.args_list_mul_2 _ _) (AutoListH.list___mul___list_int_3 l its.toArray n k t hfit hcap hlong) ⟨e, ?_⟩⟩)
 rw [hnew]
 exact ⟨.ref _, _, I.lnew (t' := s.toks) (r.rep k.toNat) (by rw [V2, Nat.mul_comm]; exact hz), rfl, q _ I.fresh⟩
end
section
variable {prog : Program} {w : World} {A : Around} {E : Value -> Shared -> Prop} {s : Shared}
end
section
variable {X : Cx}
end
end L2
namespace Att
open PySem PySem.W PySem.Calls PyProof.Rows
theorem xw {P : Params} {h : Heap} : ∀ (ns : List Int) (vs : List Value), WellAll P h vs (ns.map WData.int) -> IntsAre vs ns := by
 intro ns
 induction ns with
 | nil =>
  intro vs w
  rw [List.map_nil] at w
  cases w
  exact .nil
 | cons n ns ih =>
  intro vs w
  rw [List.map_cons] at w
  cases w with
  | cons a b =>
   cases a
   exact .cons _ _ (ih _ b)
theorem Kg {l : OpenLaw} {n : Nat} (hn : l.most = some n) {P : Params} {h : Heap} {args : List WData} {vals : List Value}
  (hpre : l.row.toRowW.claim.pre args = true) (hwl : WellAll P h vals args) :
  ∃ a vs ns, vals = [Value.ref a] /\ args = [WData.list (ns.map WData.int)] /\ h.get? a = some { cls := .type "list", data := .seq vs.toArray } /\ IntsAre vs ns /\ ns.length <= n := by
 have hsh : WShape.hasAll [] args [.list .int] = true := (pre_splitW hpre).1
 have hc : l.pre.holds [] { args := args } = true := (pre_splitW hpre).2
 obtain ⟨d, r, rfl, h1, h2⟩ := hasAllW_cons hsh
 obtain rfl := hasAllW_nil h2
 obtain ⟨xs, rfl, h3⟩ := hasW_list h1
 obtain ⟨ns, rfl⟩ := items_int h3
 have hlen : ns.length <= n := by
  unfold OpenLaw.pre at hc
  have h4 : (WTm.not (.lt (.lit (.int (n : Int))) (.len (.arg 0)))).holds [] { args := [.list (ns.map .int)] } = true := by
   have h4 := (holds_andW hc).1
   rw [hn] at h4
   exact h4
  have h5 := condW_of h4 (w_not (w_lt w_lit (w_len_list (w_arg rfl))))
  rw [List.length_map] at h5
  refine Nat.le_of_not_lt fun q => ?_
  have q' : (n : Int) < ((ns.length : Nat) : Int) := by omega
  first
   | (rw [decide_eq_true q'] at h5; exact absurd h5 (by decide))
   | (simp at h5; omega)
 cases hwl with
 | cons w1 w2 =>
  cases w2
  cases w1 with
  | list ho hall => exact ⟨_, _, ns, rfl, rfl, ho, xw ns _ hall, hlen⟩
theorem JK (l : OpenLaw) (args : List WData) : l.row.toRowW.claim.post args (.bool true) args = true :=
 postW_of (r := l.row.toRowW) (X := (true == true))
  (show WShape.has [] (.bool true) .bool = true by first | rfl | decide | simp [WShape.has, WShape.arms, WShape.armsAll])
  (show (WTm.eq .res (.lit (.bool true))).value [] { args := args, res := some (.bool true), after := args } = some (.bool (true == true)) from w_eq_bool (w_res rfl) w_lit) rfl
theorem attach_call {l : OpenLaw} {n : Nat} {q : Program} {loose : List Str} {XP : (Str -> Option Value) -> Heap -> Prop} {YP : World -> Heap -> Prop} {d : DefRec}
  (hn : l.most = some n) (hdf : d.params.defaults = [])
  (call : ∀ (w : World) (s₀ s₁ : Shared) (mg mb : Str -> Option Value) (fa : Addr) (o : Obj) (pm cd doc : Value) (a : Addr) (vs : List Value) (ns : List Int),
   Ground q loose [] XP w s₀ mg mb s₁.heap -> YP w s₁.heap ->
   s₁.heap.get? fa = some o -> o.data = .func (docDef d.name d.params d.body d.scope pm cd doc) -> s₁.heap.CodeRec cd d.name -> mg d.name = some (.ref fa) ->
   s₁.heap.get? a = some { cls := .type "list", data := .seq vs.toArray } -> IntsAre vs ns -> ns.length <= n -> s₁.gens = #[] ->
   codeAny (model l.prog w) callerA (.call (.ref fa) ⟨[.ref a], []⟩) (fun r s' => r = .ok (.ret (.bool true)) /\ OldK s₁.heap s'.heap /\ s'.os = s₁.os /\ AllBare s'.gens) s₁) :
  WalkO q loose XP YP l.row.toRowW d [] (fun f vs => PySem.call f vs) := by
 intro w s₀ s₁ mg mb G Y fa o pm cd doc dV kV ho hd hcd hD hmg hg args vals as hpre hlay hrd hwl hlo
 obtain rfl : dV = .none := Dflts.none hD hdf
 obtain rfl : kV = .none := Dflts.noKw hD
 obtain ⟨a, vs, ns, rfl, rfl, hobj, hints, hlen⟩ := Kg hn hpre hwl
 refine enter_call (codeAny_mono (call w s₀ s₁ mg mb fa o pm cd doc a vs ns G Y ho (fd_plain hd) hcd hmg hobj hints hlen hg) fun r s' hq => ?_)
 obtain ⟨rfl, h2, h3, h4⟩ := hq
 exact ⟨.inl ⟨.bool true, .bool true, [], rfl, fun _ => rfl, .bool true, JK l _, fun _ => ⟨List.Pairwise.nil, fun _ hm => (nomatch hm)⟩⟩, h2, h3, h4⟩
section
variable {prog : Program} {w : World} {A : Around} {E : Value -> Shared -> Prop} {s : Shared} {K : Frag}
noncomputable def D5 (h : Heap) (L d : Addr) : List (Addr × Obj) := (List.range h.objs.size).filterMap fun a => if a = L \/ a = d then none else (h.get? a).map fun o => (a, o)
end
end Att
namespace L2
open PySem PySem.Spec PyProof.Rows
theorem vk : ∀ {vs : List Value} {ns : List Int}, IntsAre vs ns -> zD (ns.map V.int) vs
 | _, _, .nil => .nil
 | _, _, .cons n t h => .cons ⟨t, rfl⟩ (vk h)
noncomputable def AU (H : Hp) : Prop := ∀ b, H b = none \/ ∃ o xs, H b = some (.frz o (.lst xs))
theorem Ys {P : Program} {w : World} {K : PySem.W.Frag} {mg mb : Str -> Option Value} {CX : CXT} {k : Nat} {fa a : Addr} {fd : FuncData} {x : Str} {sp : Sp} {s₁ : Shared} {vs : List Value} {ns : List Int}
  (KX : K.In s₁.heap) (hns : s₁.heap.Ns mainGlobals mg) (hb : s₁.heap.Ns builtinsNs mb) (hbb : ∀ x : Str, x ≠ "__name__" -> mb x = bootBuiltins x) (hlim : s₁.heap.NoLimit) (hg : s₁.gens = #[])
  (ha : s₁.heap.get? a = some { cls := .type "list", data := .seq vs.toArray }) (hi : IntsAre vs ns) (hl : ns.length <= sizeLine) (hr : jk k callerA)
  (F : ∀ base : Heap, K.In base -> base.Ns mainGlobals mg -> kf P w K mg base CX k fa fd [x] sp) (hbind : ∀ (s : Shared) (u : Value), BindsTo s fd ⟨[u], []⟩ [(x, u)])
  (hsp : ∀ H : Hp, AU H -> SqL K H a (ns.map V.int) -> sp [.ref a] H (fun v _ => v = .bl true) fun _ _ _ => False)
  (hCX : ∀ H e s', CX [] H s₁ (fun _ _ _ => False) e s' -> False) :
  codeAny (model P w) callerA (.call (.ref fa) ⟨[.ref a], []⟩) (fun r s' => r = .ok (.ret (.bool true)) /\ OldK s₁.heap s'.heap /\ s'.os = s₁.os /\ AllBare s'.gens) s₁ := by
 have rv := vk hi
 have lenV := hi.length
 have core : ∀ H : Hp, AU H -> SqL K H a (ns.map V.int) -> HOk P w H s₁.heap -> (∀ b, H b ≠ none -> b = a) -> (H a ≠ none -> K.lookup a = none) ->
   codeAny (model P w) callerA (.call (.ref fa) ⟨[.ref a], []⟩) (fun r s' => r = .ok (.ret (.bool true)) /\ OldK s₁.heap s'.heap /\ s'.os = s₁.os /\ AllBare s'.gens) s₁ := by
  intro H hO hS hok hA hK
  have base_of : ∀ {b : Addr} {o : Obj}, s₁.heap.get? b = some o -> H b = none -> (vJ s₁.heap H).get? b = some o := fun e n => Xo e n
  have noA : ∀ {b : Addr} {o : Obj} {es : Array DictEntry} {ep : Nat}, s₁.heap.get? b = some o -> o.data = .dict es ep -> H b = none := fun {b o es ep} e d => by
   cases q : H b with
   | none => rfl
   | some u =>
    have e' : b = a := hA b (by rw [q]; simp)
    subst e'
    rw [ha] at e; cases e
    have d' : Data.seq vs.toArray _ = Data.dict es ep := d
    cases d'
  have nsK : ∀ {b : Addr} {m : Str -> Option Value}, s₁.heap.Ns b m -> (vJ s₁.heap H).Ns b m := fun {b m} ⟨o, es, ep, e, d, r⟩ => ⟨o, es, ep, base_of e (noA e d), d, r⟩
  have hKb : K.In (vJ s₁.heap H) := fun b o e => base_of (KX b o e) (by
   cases q : H b with
   | none => rfl
   | some u =>
    have e' : b = a := hA b (by rw [q]; simp)
    subst e'
    rw [hK (by rw [q]; simp)] at e; cases e)
  have hM : Mod K mg (vJ s₁.heap H) := ⟨hKb, nsK hns, ⟨mb, nsK hb, hbb⟩, let ⟨mc, h1, h2⟩ := hlim; ⟨mc, nsK h1, h2⟩⟩
  have e0 : VJ P w K mg (vJ s₁.heap H) callerA [] s₁ H := ⟨rfl, hM, fun b o e => VS e, Nat.le_of_eq (Ke _ _), trivial, fun b hb => absurd (show b ∈ ([] : List Addr) from hb) (by simp), hok, .of_eq hg⟩
  refine codeAny_mono ((F _ hKb (nsK hns)).run callerA [] s₁ H ⟨[.ref a], []⟩ [.ref a] [.ref a] _ _ hr e0 (hbind s₁ (.ref a)) (.cons rfl .nil) (hsp H hO hS)) fun r s' h => ?_
  cases r with
  | error e => exact (hCX H e s' h).elim
  | ok fl =>
   cases fl with
   | next => exact False.elim h
   | brk => exact False.elim h
   | cont => exact False.elim h
   | ret u =>
    obtain ⟨v, H', os, bare, un, hok', r', q⟩ := h
    have q' : v = .bl true := q
    subst q'
    obtain rfl : u = Value.bool true := r'
    refine ⟨rfl, OldK.of_keep fun b o e => ?_, os, bare⟩
    cases q : H b with
    | none => exact un.keep b o e q (by intro z; exact absurd (show b ∈ ([] : List Addr) from z) (by simp)) (by simp)
    | some u =>
     rcases hO b with z | ⟨ob, xs, z⟩
     ·rw [q] at z; cases z
     ·have z2 := un.frzs b ob _ z
      obtain ⟨e1, _⟩ := hok b _ z
      obtain ⟨e2, _⟩ := hok' b _ z2
      rw [e] at e1; cases e1
      exact e2
 cases hk : K.lookup a with
 | some o =>
  have e := KX a o hk
  rw [ha] at e
  cases e
  refine core (fun _ => none) (fun _ => .inl rfl) (.inr ⟨_, vs.toArray, _, hk, rfl, rfl, rfl, by rw [List.size_toArray, lenV]; exact hl, by simpa using rv⟩) (fun b u z => by have z' : (none : Option HO) = some u := z; cases z') (fun b z => absurd rfl z) fun z => absurd rfl z
 | none =>
  refine core (fun b => if b = a then some (.frz { cls := .type "list", data := .seq vs.toArray } (.lst (ns.map V.int))) else none) (fun b => ?_) (.inl (.inr ⟨{ cls := .type "list", data := .seq vs.toArray }, if_pos rfl⟩)) (fun b u z => ?_) (fun b z => ?_) fun _ => hk
  ·by_cases hb : b = a
   ·exact .inr ⟨_, _, if_pos hb⟩
   ·exact .inl (if_neg hb)
  ·by_cases hb : b = a
   ·have z' := (if_pos hb).symm.trans z
    cases z'
    subst hb
    exact ⟨ha, by rw [List.length_map]; exact hl, vs, _, rv, ha⟩
   ·have z' := (if_neg hb).symm.trans z
    cases z'
  ·by_cases hb : b = a
   ·exact hb
   ·exact absurd (if_neg hb) z
end L2
namespace L2
open PySem PySem.Spec PyProof.Rows
noncomputable abbrev KOf {K : PySem.W.Frag} {h : Heap} (_ : K.In h) : PySem.W.Frag := K
theorem walk_of {l : PySem.W.OpenLaw} {n k : Nat} {q : Program} {loose : List Str} {XP : (Str -> Option Value) -> Heap -> Prop} {YP : World -> Heap -> Prop} {d : DefRec} {K : Params -> PySem.W.Frag} {CX : World -> CXT} {sp : World -> Sp} {x : Str}
  (hn : l.most = some n) (hn2 : n <= sizeLine) (hdf : d.params.defaults = []) (hr : jk k callerA)
  (hY : ∀ (w : World) (h : Heap), YP w h -> (K w.params).In h)
  (F : ∀ (w : World) (mg : Str -> Option Value) (fa : Addr) (h : Heap), (K w.params).In h -> h.Ns mainGlobals mg -> mg d.name = some (.ref fa) ->
   ∃ fd : FuncData, (∀ (s : Shared) (u : Value), BindsTo s fd ⟨[u], []⟩ [(x, u)]) /\
    ∀ base : Heap, (K w.params).In base -> base.Ns mainGlobals mg -> kf l.prog w (K w.params) mg base (CX w) k fa fd [x] (sp w))
  (hsp : ∀ (w : World) (H : Hp) (a : Addr) (ns : List Int), ns.length <= n -> AU H -> SqL (K w.params) H a (ns.map V.int) -> sp w [.ref a] H (fun v _ => v = .bl true) fun _ _ _ => False)
  (hCX : ∀ (w : World) (H : Hp) (s : Shared) (e : Value) (s' : Shared), CX w [] H s (fun _ _ _ => False) e s' -> False) :
  PySem.W.WalkO q loose XP YP l.row.toRowW d [] (fun f vs => PySem.call f vs) := by
 refine Att.attach_call hn hdf fun w s₀ s₁ mg mb fa o pm cd doc a vs ns G Y ho hd hcd hmg hobj hints hlen hg => ?_
 have KX := hY w _ Y
 obtain ⟨fd, hb, hF⟩ := F w mg fa _ KX G.T.g hmg
 exact Ys KX G.T.g G.T.b G.T.builtins G.T.nolimit hg hobj hints (Nat.le_trans hlen hn2) hr hF hb (fun H hO hS => hsp w H a ns hlen hO hS) fun H e s' => hCX w H s₁ e s'
end L2
/- THE LAST THEOREM (shape; LID, My.* are yours):
   My.Adr: a structure of the addresses that your layer names (classes, functions); My.Txt K t: a structure (Prop) of the equations over K;
   My.txt_mk : {K} {implicit addresses ..} (e1 : nsIn K mainGlobals "law" = some (some (.ref f))) (e2 : K.lookup f = some ⟨oc, od, .func (fnOf "law" "law" params body scope dV kV doc pm an cdv ct), sl⟩) (e3 : codeIn K cdv "law" = true) .. : ∃ t, My.Txt K t
set_option maxRecDepth 100000 in
set_option maxHeartbeats 0 in
theorem PySem.Challenge.cw_LID_holds : PySem.Challenge.rw_LID.Holds := by
 w_on; o_law; k_head; (case hw => w_witness2)
 k_fill
 refine L2.walk_of (l := PySem.Challenge.rw_LID) (n := 63) (k := 40) (x := "script") (CX := fun w => ..) (sp := fun _ => My.sp_law) rfl (by decide) rfl ⟨rfl, by decide, by decide⟩ (fun w h Y => PySem.W.kIn_of Y) ?F ?S ?C
 case F =>
  intro w mg fa h KX G hmg
  have T : ∃ t, My.Txt (L2.KOf KX) t := by
   dsimp only [L2.KOf]                          -- K must stand as «<heap const> w.params» for k_is
   refine' My.txt_mk ?e1 ?e2 ?e3 ..
   (case e1 => PySem.W.k_is)                    -- in the order: a name -> its address -> its object -> its parts
   (case e2 => PySem.W.k_is)
   ..
  obtain ⟨t, T⟩ := T
  have e0 := hmg.symm.trans (PySem.W.mg_of KX G T.law)
  cases e0                                       -- fa is the law's own address
  exact ⟨_, fun s u => .of_eq rfl, fun base kb nb => My.law_fn T kb nb⟩     -- if «.of_eq rfl» comes too early: refine' ⟨_, ?b, fun base kb nb => My.law_fn T kb nb⟩; exact fun s u => .of_eq rfl
 case S => exact fun w H a ns hl hO hS => ..
 case C => exact ..
(the tactic k_is has no namespace: write k_is) -/
namespace L2
open PySem PySem.Spec PyProof.Rows
noncomputable def jb (s : Stmt) : Arguments := match s with
 | .FunctionDef _ a _ _ _ _ _ _ _ _ => a
 | _ => { posonlyargs := [], args := [], vararg := none, kwonlyargs := [], kw_defaults := [], kwarg := none, defaults := [] }
noncomputable def qA (s : Stmt) : List Stmt := match s with
 | .FunctionDef _ _ b _ _ _ _ _ _ _ => b
 | _ => []
noncomputable def zf (s : Stmt) : Scope := match s with
 | .FunctionDef _ _ _ _ _ _ sc _ _ _ => sc
 | _ => { kind := .function, names := [], isGenerator := false, isCoroutine := false }
noncomputable abbrev CX0 : CXT := fun _ _ _ _ _ _ => False
noncomputable abbrev E0 : XK := fun _ _ _ => False
theorem DS {X : Cx} : Qq CX0 X E0 := fun _ _ _ _ _ _ _ h => h.elim
structure Fun (K : PySem.W.Frag) (x qual : Str) (st : Stmt) (f : Addr) (fd : FuncData) : Prop where
 ex : ∃ (oc : Value) (od : Option Addr) (kV doc pm : Value) (an : Option Addr) (cdv ct : Value) (osl : Array (Option Value)),
  fd = PySem.W.fnOf x qual (jb st) (qA st) (zf st) .none kV doc pm an cdv ct /\ K.lookup f = some ⟨oc, od, .func fd, osl⟩ /\ PySem.W.codeIn K cdv qual = true
 kp : PySem.W.keepIn K (.ref f) = true
section
variable {P : Program} {w : World} {K : PySem.W.Frag} {mg : Str -> Option Value} {base : Heap}
theorem Fun.ok {x qual : Str} {st : Stmt} {f : Addr} {fd : FuncData} {N ps : List Str} {k : Nat} {sp : Sp} (F : Fun K x qual st f fd) (S : zt N ps (zf st)) (len : ∀ vs H Q E, sp vs H Q E -> vs.length = ps.length)
  (hbody : ∀ (cdv : Value) (A : Around) (outer : List Env) (s : Shared) (H : Hp) (vs : List V) (Q : VK) (E : XK), jk k (A.deeper (envOfC qual (zf st) s.heap.objs.size f cdv)) -> sp vs H Q E ->
   ∃ t, PSs (v7 CX0 P w K mg base N qual (zf st) f cdv A outer s H E).nox (qA st) t /\ t { nx := fun _ H' => Q .non H', rt := Q } (qo N vs) H) : kf P w K mg base CX0 (k + 1) f fd ps sp := by
 obtain ⟨oc, od, kV, doc, pm, an, cdv, ct, osl, rfl, lk, hcd⟩ := F.ex
 refine DP lk hcd S len fun A outer s H vs Q E hr hsp => ?_
 obtain ⟨t, h, q⟩ := hbody cdv A outer s H vs Q E hr hsp
 exact ⟨t, h.nox, q⟩
theorem Fun.binds {x qual : Str} {st : Stmt} {f : Addr} {fd : FuncData} {ps : List Str} (F : Fun K x qual st f fd)
  (h : ∀ (kV doc pm : Value) (an : Option Addr) (cdv ct : Value) (us : List Value), us.length = ps.length -> bindArgs (PySem.W.fnOf x qual (jb st) (qA st) (zf st) .none kV doc pm an cdv ct) ⟨us, []⟩ = pure (ps.zip us)) : y9 K fd ps [] := by
 obtain ⟨oc, od, kV, doc, pm, an, cdv, ct, osl, rfl, lk, hcd⟩ := F.ex
 exact .all (h kV doc pm an cdv ct)
theorem YR {x qual : Str} {st : Stmt} {f : Addr} {oc : Value} {od an : Option Addr} {osl : Array (Option Value)} {kV doc pm cdv ct : Value} (l : K.lookup f = some ⟨oc, od, .func (PySem.W.fnOf x qual (jb st) (qA st) (zf st) .none kV doc pm an cdv ct), osl⟩)
  (c : PySem.W.codeIn K cdv qual = true) (k : PySem.W.keepIn K (.ref f) = true) : Fun K x qual st f (PySem.W.fnOf x qual (jb st) (qA st) (zf st) .none kV doc pm an cdv ct) := ⟨⟨oc, od, kV, doc, pm, an, cdv, ct, osl, rfl, l, c⟩, k⟩
end
theorem WK {A : Around} {k : Nat} (hr : jk k A) : A.units + 1 < cLine := Nat.lt_of_le_of_lt (Nat.add_le_add_left (by decide : 1 <= 64) _) hr.units
section
variable {X : Cx}
theorem pv (i : Nat) {x : Str} {pos : Pos} (hN : X.N[i]? = some x := by rfl) (hv : Vis X.env.scope x := by first | exact Or.inl rfl | exact Or.inr (Or.inl rfl) | exact Or.inr (Or.inr rfl)) (hd : (x == ("__debug__" : Str)) = false := by decide)
  (hcd : (x == ("__classdict__" : Str)) = false := by decide) : PE X (.Name x pos) (vR i) := Am hN hv hd hcd
end
theorem w6 {c A B : Prop} [Decidable c] (h1 : c -> A) (h2 : ¬ c -> B) : if c then A else B := by
 by_cases h : c
 ·rw [if_pos h]
  exact h1 h
 ·rw [if_neg h]
  exact h2 h
end L2
namespace L2
open PySem PySem.Spec PyProof.Rows
section
variable {κ : Type} [DecidableEq κ]
noncomputable def qM (kvs : List (κ × V)) (k : κ) : Option V := (kvs.find? fun kv => decide (kv.1 = k)).map (·.2)
noncomputable def ke (kvs : List (κ × V)) (k : κ) (v : V) : List (κ × V) :=
 if (kvs.any fun kv => decide (kv.1 = k)) = true then kvs.map (fun kv => if kv.1 = k then (kv.1, v) else kv) else kvs ++ [(k, v)]
theorem qh {p : κ × V} {r : List (κ × V)} {k : κ} (e : p.1 = k) : qM (p :: r) k = some p.2 := by simp [qM, List.find?_cons, e]
theorem qg {p : κ × V} {r : List (κ × V)} {k : κ} (e : ¬ p.1 = k) : qM (p :: r) k = qM r k := by simp [qM, List.find?_cons, e]
theorem kK (k : κ) : ∀ kvs : List (κ × V), (kvs.any fun kv => decide (kv.1 = k)) = (qM kvs k).isSome
 | [] => rfl
 | p :: r => by
  rw [List.any_cons]
  by_cases e : p.1 = k
  ·simp only [qh e, decide_eq_true e, Bool.true_or, Option.isSome_some]
  ·rw [qg e, decide_eq_false e, Bool.false_or]; exact kK k r
theorem wY (k j : κ) (y : V) : ∀ kvs : List (κ × V), qM (kvs.map fun kv => if kv.1 = k then (kv.1, y) else kv) j = (qM kvs j).map fun x => if j = k then y else x
 | [] => rfl
 | p :: r => by
  have ih := wY k j y r
  rw [List.map_cons]
  by_cases h : p.1 = k
  ·rw [if_pos h]
   by_cases e : p.1 = j
   ·rw [qh (p := (p.1, y)) e, qh e, Option.map_some, if_pos (e.symm.trans h)]
   ·rw [qg (p := (p.1, y)) e, qg e, ih]
  ·rw [if_neg h]
   by_cases e : p.1 = j
   ·rw [qh (p := p) e, qh e, Option.map_some, if_neg (fun z => h (e.trans z))]
   ·rw [qg (p := p) e, qg e, ih]
theorem vc (k j : κ) (y : V) : ∀ kvs : List (κ × V), qM kvs k = none -> qM (kvs ++ [(k, y)]) j = if j = k then some y else qM kvs j
 | [], _ => by
  by_cases e : k = j
  ·rw [if_pos e.symm]; exact qh (p := (k, y)) e
  ·rw [if_neg (fun z => e z.symm)]; exact qg (p := (k, y)) e
 | p :: r, hn => by
  rw [List.cons_append]
  have hk : ¬ p.1 = k := fun z => by rw [qh z] at hn; cases hn
  rw [qg hk] at hn
  have ih := vc k j y r hn
  by_cases e : p.1 = j
  ·rw [qh e, qh e, if_neg (fun z => hk (e.trans z))]
  ·rw [qg e, qg e, ih]
theorem KP (kvs : List (κ × V)) (k j : κ) (y : V) : qM (ke kvs k y) j = if j = k then some y else qM kvs j := by
 unfold ke
 by_cases a : (kvs.any fun kv => decide (kv.1 = k)) = true
 ·rw [if_pos a, wY]
  rw [kK] at a
  by_cases e : j = k
  ·obtain ⟨x, hx⟩ := Option.isSome_iff_exists.mp a
   rw [if_pos e, e, hx, Option.map_some, if_pos rfl]
  ·rw [if_neg e]
   cases qM kvs j with
   | none => rfl
   | some x => rw [Option.map_some, if_neg e]
 ·rw [if_neg a]
  refine vc k j y kvs ?_
  rw [kK] at a
  cases q : qM kvs k with
  | none => rfl
  | some x => rw [q] at a; exact (a rfl).elim
theorem jY (kvs : List (κ × V)) (k : κ) (v : V) : (ke kvs k v).length <= kvs.length + 1 := by
 unfold ke
 split
 ·rw [List.length_map]; omega
 ·rw [List.length_append, List.length_cons, List.length_nil]; omega
theorem ZN.isSome_eq {o : Option V} {u : Option Value} (r : ZN o u) : o.isSome = u.isSome := by
 cases o with
 | none => cases u with
  | none => rfl
  | some _ => exact (show False from r).elim
 | some _ => cases u with
  | none => exact (show False from r).elim
  | some _ => rfl
theorem KV.val {kvs : List (κ × V)} {vs : List (κ × Value)} (r : KV kvs vs) (k : κ) : ZN (qM kvs k) (valueAt vs k) := by
 unfold KV at r
 induction r with
 | nil => exact True.intro
 | @cons p q ps qs h t ih =>
  obtain ⟨h1, h2⟩ := h
  by_cases e : p.1 = k
  ·have e' : q.1 = k := h1.symm.trans e
   have b : valueAt (q :: qs) k = some q.2 := by simp [valueAt, List.find?_cons, e']
   rw [qh e, b]; exact h2
  ·have e' : ¬ q.1 = k := fun z => e (h1.trans z)
   have b : valueAt (q :: qs) k = valueAt qs k := by simp [valueAt, List.find?_cons, e']
   rw [qg e, b]; exact ih
theorem KV.any {kvs : List (κ × V)} {vs : List (κ × Value)} (r : KV kvs vs) (k : κ) : (kvs.any fun kv => decide (kv.1 = k)) = vs.any fun kv => decide (kv.1 = k) := by
 unfold KV at r
 induction r with
 | nil => rfl
 | cons h t ih => rw [List.any_cons, List.any_cons, ih, h.1]
theorem KV.repl {kvs : List (κ × V)} {vs : List (κ × Value)} (r : KV kvs vs) (k : κ) {y : V} {u : Value} (ry : zC y u) :
  KV (kvs.map fun kv => if kv.1 = k then (kv.1, y) else kv) (vs.map fun kv => if kv.1 = k then (kv.1, u) else kv) := by
 unfold KV at r ⊢
 induction r with
 | nil => exact .nil
 | @cons p q ps qs h t ih =>
  rw [List.map_cons, List.map_cons]
  refine .cons ?_ ih
  obtain ⟨h1, h2⟩ := h
  by_cases e : p.1 = k
  ·rw [if_pos e, if_pos (h1.symm.trans e)]; exact ⟨h1, ry⟩
  ·rw [if_neg e, if_neg (fun z => e (h1.trans z))]; exact ⟨h1, h2⟩
theorem KV.put {kvs : List (κ × V)} {vs : List (κ × Value)} (r : KV kvs vs) (k : κ) {y : V} {u : Value} (ry : zC y u) : KV (ke kvs k y) (stored vs k u) := by
 unfold ke stored
 rw [r.any k]
 by_cases e : (vs.any fun kv => decide (kv.1 = k)) = true
 ·rw [if_pos e, if_pos e]; exact r.repl k ry
 ·rw [if_neg e, if_neg e]; exact Paired.snoc r ⟨rfl, ry⟩
theorem KV.length {kvs : List (κ × V)} {vs : List (κ × Value)} (r : KV kvs vs) : kvs.length = vs.length := Paired.length r
end
theorem Yv {P : Program} {w : World} {k : Key} {u : Value} (r : zC (kV k) u) : (zX P w).is k u = true := by
 cases k with
 | inl i => obtain ⟨t, e⟩ := (show ∃ t, u = Value.int i t from r); subst e; exact Zi P w i t
 | inr x => obtain ⟨t, e⟩ := (show ∃ t, u = Value.str x t from r); subst e; exact Zb P w x t
theorem vh {P : Program} {w : World} : ∀ {ks : List Key} {us : List Value}, zD (ks.map kV) us -> ItemsAre (zX P w) ks us
 | [], _, r => by rw [List.map_nil] at r; cases r; exact .nil
 | k :: ks, _, r => by
  rw [List.map_cons] at r
  cases r with
  | cons h t => exact .cons (Yv h) (vh t)
noncomputable abbrev KT (H : Hp) : List (List Key × V) -> List (List Key × Addr × Value) -> Prop := Paired fun p q => p.1 = q.1 /\ H q.2.1 = some (.tup (p.1.map kV)) /\ zC p.2 q.2.2
theorem KT.val {H : Hp} {kvs : List (List Key × V)} {xs : List (List Key × Addr × Value)} (r : KT H kvs xs) (k : List Key) : ZN (qM kvs k) ((atKey xs k).map (·.2)) := by
 induction r with
 | nil => exact True.intro
 | @cons p q ps qs h t ih =>
  obtain ⟨h1, _, h2⟩ := h
  by_cases e : p.1 = k
  ·have e' : q.1 = k := h1.symm.trans e
   have b : atKey (q :: qs) k = some q.2 := by simp [atKey, List.find?_cons, e']
   rw [qh e, b]; exact h2
  ·have e' : ¬ q.1 = k := fun z => e (h1.trans z)
   have b : atKey (q :: qs) k = atKey qs k := by simp [atKey, List.find?_cons, e']
   rw [qg e, b]; exact ih
theorem KT.repl {H : Hp} {kvs : List (List Key × V)} {xs : List (List Key × Addr × Value)} (r : KT H kvs xs) (k : List Key) {y : V} {u : Value} (ry : zC y u) :
  KT H (kvs.map fun kv => if kv.1 = k then (kv.1, y) else kv) (xs.map (putAt k u)) := by
 induction r with
 | nil => exact .nil
 | @cons p q ps qs h t ih =>
  rw [List.map_cons, List.map_cons]
  refine .cons ?_ ih
  obtain ⟨h1, h2, h3⟩ := h
  unfold putAt
  by_cases e : p.1 = k
  ·rw [if_pos e, if_pos (h1.symm.trans e)]; exact ⟨h1, h2, ry⟩
  ·rw [if_neg e, if_neg (fun z => e (h1.trans z))]; exact ⟨h1, h2, h3⟩
theorem KT.put {H : Hp} {kvs : List (List Key × V)} {xs : List (List Key × Addr × Value)} (r : KT H kvs xs) (k : List Key) {b : Addr} {y : V} {u : Value} (hb : H b = some (.tup (k.map kV))) (ry : zC y u) :
  KT H (ke kvs k y) (storedH xs k b u) := by
 have e : (kvs.any fun kv => decide (kv.1 = k)) = (atKey xs k).isSome := by
  rw [kK, (r.val k).isSome_eq, Option.isSome_map]
 unfold ke storedH
 rw [e]
 by_cases q : (atKey xs k).isSome = true
 ·rw [if_pos q, if_pos q]; exact r.repl k ry
 ·rw [if_neg q, if_neg q]; exact Paired.snoc r ⟨rfl, hb, ry⟩
theorem KT.keeps {H H' : Hp} {kvs : List (List Key × V)} {xs : List (List Key × Addr × Value)} (r : KT H kvs xs) (ht : ∀ b ys, H b = some (.tup ys) -> H' b = some (.tup ys)) : KT H' kvs xs :=
 Paired.mapP r fun _ _ z => ⟨z.1, ht _ _ z.2.1, z.2.2⟩
section
variable {P : Program} {w : World} {H : Hp} {h : Heap} {a : Addr}
theorem WF {u : HO} (ok : HOk P w H h) (e : Rd H a u) : zL P w H h a u := e.ok ok
theorem WQ {kvs : List (Key × V)} (ok : HOk P w H h) (e : Rd H a (.dK kvs)) : kvs.length <= sizeLine /\ (a == sysModules) = false /\ ∃ vs, KV kvs vs /\ h.DictOf (zX P w) a vs :=
 show zL P w H h a (.dK kvs) from WF ok e
theorem DT {kvs : List (Key × V)} (ok : HOk P w H h) (e : H a = some (.dK kvs)) : kvs.length <= sizeLine /\ (a == sysModules) = false /\ ∃ vs, KV kvs vs /\ h.DictOf (zX P w) a vs := WQ ok (.inl e)
theorem Z0 {ks : List Key} (ok : HOk P w H h) (e : H a = some (.tup (ks.map kV))) : (tupleKind (zX P w)).is h ks a := by
 obtain ⟨_, its, r, o, h1, h2, ⟨n, h3⟩, _⟩ := (show zL P w H h a (.tup (ks.map kV)) from ok a _ e)
 exact ⟨o, its.toArray, n, h1, h2, h3, by simpa using vh r⟩
theorem WB {kvs : List (List Key × V)} (ok : HOk P w H h) (e : Rd H a (.dT kvs)) : kvs.length <= sizeLine /\ (a == sysModules) = false /\
  ∃ xs, KT H kvs xs /\ h.DictOfH (tupleKind (zX P w)) a xs := by
 obtain ⟨z, y, xs, r, o, es, ep, h1, h2, h3, h4, h5⟩ := (show zL P w H h a (.dT kvs) from WF ok e)
 refine ⟨z, y, xs, r, o, es, ep, h1, h2, h3, h4, fun x hx => ?_, h5⟩
 have all : ∀ {l : List (List Key × V)} {m : List (List Key × Addr × Value)}, KT H l m -> ∀ x ∈ m, (tupleKind (zX P w)).is h x.1 x.2.1 := by
  intro l m q
  induction q with
  | nil => intro x hx; exact nomatch hx
  | @cons p q ps qs hq t ih =>
   intro x hx
   rcases List.mem_cons.mp hx with e | hx
   ·subst e
    exact Z0 ok (by rw [<- hq.1]; exact hq.2.1)
   ·exact ih x hx
 exact all r x hx
theorem DR {kvs : List (List Key × V)} (ok : HOk P w H h) (e : H a = some (.dT kvs)) : kvs.length <= sizeLine /\ (a == sysModules) = false /\
  ∃ xs, KT H kvs xs /\ h.DictOfH (tupleKind (zX P w)) a xs := WB ok (.inl e)
end
noncomputable def Yq (H : Hp) (a : Addr) (y : V) (r : Option V) : Prop :=
 (∃ kvs k, Rd H a (.dK kvs) /\ y = kV k /\ r = qM kvs k) \/ ∃ kvs k b, Rd H a (.dT kvs) /\ y = .ref b /\ H b = some (.tup (k.map kV)) /\ r = qM kvs k
noncomputable def Yy (H : Hp) (a : Addr) (y v : V) (H' : Hp) : Prop :=
 (∃ kvs k, H a = some (.dK kvs) /\ y = kV k /\ kvs.length < sizeLine /\ H' = upd H a (.dK (ke kvs k v))) \/
 ∃ kvs k b, H a = some (.dT kvs) /\ y = .ref b /\ H b = some (.tup (k.map kV)) /\ kvs.length < sizeLine /\ H' = upd H a (.dT (ke kvs k v))
theorem Yq.k {H : Hp} {a : Addr} {kvs : List (Key × V)} {k : Key} (e : H a = some (.dK kvs)) : Yq H a (kV k) (qM kvs k) := .inl ⟨kvs, k, .inl e, rfl, rfl⟩
theorem Yy.k {H : Hp} {a : Addr} {kvs : List (Key × V)} {k : Key} {v : V} (e : H a = some (.dK kvs)) (hl : kvs.length < sizeLine) : Yy H a (kV k) v (upd H a (.dK (ke kvs k v))) := .inl ⟨kvs, k, e, rfl, hl, rfl⟩
section
variable {X : Cx} {pins : List (Addr × Obj)} {σ : St} {H : Hp} {s : Shared} {a : Addr} {y v : V} {u r : Value} {o : Option V} {A : Around} {E : Value -> Shared -> Prop}
theorem Inv.big (I : Inv X pins σ H s) : sysModules < s.heap.objs.size := by
 have h : mainGlobals < s.heap.objs.size := (I.mod.glob.keeps I.bk).lt
 exact Nat.lt_trans (by decide) h
theorem VD {Q : Value -> Shared -> Prop} (hu : A.units + 1 < cLine) (I : Inv X pins σ H s) (g : Yq H a y o) (ry : zC y u) (h : ∀ s', Inv X pins σ H s' -> Q (.bool (!o.isSome)) s') :
  wpAny (model X.prog X.w) A (compareOp .NotIn u (.ref a)) Q E s := by
 rcases g with ⟨kvs, k, e, ey, l⟩ | ⟨kvs, k, b, e, ey, eb, l⟩
 ·subst ey
  obtain ⟨z, hd, vs, rel, dd⟩ := WQ I.hok e
  refine wpAny_notIn_of (Yv ry) hd dd.mapOf ?_
  rw [<- (rel.val k).isSome_eq, <- l]
  exact h _ (I.tok _)
 ·subst ey
  cases (show u = Value.ref b from ry)
  obtain ⟨z, hd, xs, rel, dd⟩ := WB I.hok e
  refine wpAny_notIn_heap (tupleKind_room_in1 hu) (Z0 I.hok eb) hd dd ?_
  have q := (rel.val k).isSome_eq
  rw [Option.isSome_map] at q
  rw [<- q, <- l]
  exact h _ (I.tok _)
theorem QN {h' : Heap} {t' : Nat} {ob : HO} (I : Inv X pins σ H s) (mu : Mut (H a)) (hs : Heap.SameBut a s.heap h') (he : ∃ q, h'.get? a = some q) (new : zL X.prog X.w (upd H a ob) h' a ob) :
  Inv X pins σ (upd H a ob) { s with heap := h', toks := t' } :=
 I.write (x := a) (e := a) mu (.inl rfl) (fun b q hb z => (hs.2 b hb).trans z) he new
theorem Bv {P : Program} {w : World} {H' : Hp} {h' : Heap} {kvs : List (Key × V)} {vs : List (Key × Value)} (z : kvs.length <= sizeLine) (hd : (a == sysModules) = false) (rel : KV kvs vs) (dd : h'.DictOf (zX P w) a vs) :
  zL P w H' h' a (.dK kvs) := ⟨z, hd, vs, rel, dd⟩
theorem JY {H' : Hp} {Q : Unit -> Shared -> Prop} (hu : A.units + 1 < cLine) (I : Inv X pins σ H s) (g : Yy H a y v H') (ry : zC y u) (rv : zC v r) (h : ∀ s', Inv X pins σ H' s' -> Q () s') :
  wpAny (model X.prog X.w) A (setItem (.ref a) u r) Q E s := by
 rcases g with ⟨kvs, k, e, ey, l, eH⟩ | ⟨kvs, k, b, e, ey, eb, l, eH⟩
 ·subst ey eH
  obtain ⟨z, hd, vs, rel, dd⟩ := DT I.hok e
  have hz : vs.length <= sizeLine := by rw [<- rel.length]; exact z
  have hl : (ke kvs k v).length <= sizeLine := by have := jY kvs k v; omega
  refine wpAny_setItem_pairs (hsz := hz) (Yv ry) dd fun h' dd' hs => h _ ?_
  have he : ∃ q, h'.get? a = some q := let ⟨q, _, _, hq, _⟩ := dd'; ⟨q, hq⟩
  exact QN I (by rw [e]; exact True.intro) hs he (Bv hl hd (rel.put k rv) dd')
 ·subst ey eH
  cases (show u = Value.ref b from ry)
  obtain ⟨z, hd, xs, rel, dd⟩ := DR I.hok e
  have hz : xs.length <= sizeLine := by rw [<- Paired.length rel]; exact z
  have hl : (ke kvs k v).length <= sizeLine := by have := jY kvs k v; omega
  refine wpAny_setItem_heap (hsz := hz) (tupleKind_room_in1 hu) (Z0 I.hok eb) dd fun h' dd' hs => h _ ?_
  obtain ⟨q, es, ep, hq, h2, h3, h4, _, h5⟩ := dd'
  refine QN I (by rw [e]; exact True.intro) hs ⟨q, hq⟩ ⟨hl, hd, _, (rel.put k eb rv).keeps fun c ys ec => ?_, q, es, ep, hq, h2, h3, h4, h5⟩
  rw [zm (Qw ec e (fun z => nomatch z))]
  exact ec
end
section
variable {X : Cx} {pins : List (Addr × Obj)} {σ : St} {H : Hp} {s : Shared} {a : Addr} {kvs : List (Key × V)} {k : Key} {u : Value} {A : Around} {E : Value -> Shared -> Prop}
end
noncomputable def wf (ty td : TE) : TE := fun σ H Q => ty σ H fun y H1 => td σ H1 fun x H2 => ∃ a o, x = .ref a /\ Yq H2 a y o /\ Q (.bl (!o.isSome)) H2
noncomputable def WW (td ty tv : TE) : TS := fun D σ H => tv σ H fun v H1 => td σ H1 fun x H2 => ty σ H2 fun y H3 => ∃ a H4, x = .ref a /\ Yy H3 a y v H4 /\ D.nx σ H4
section
variable {X : Cx} {o i e value : Expr} {pos pos' tpos : Pos} {td ty tv : TE}
theorem Kh (hu : X.A.units + 1 < cLine) (hi : PE X i ty) (ho : PE X o td) : PC X .NotIn i o (wf ty td) := by
 intro pins s σ H Q I h
 refine thn (hi pins s σ H _ I h) fun iv s1 ⟨y, H1, I1, ry, q1⟩ => thn (ho pins s1 σ H1 _ I1 q1) fun u s2 ⟨x, H2, I2, rx, a, ov, ex, g, q2⟩ => ?_
 subst ex
 obtain rfl : u = Value.ref a := rx
 exact VD hu I2 g ry fun s3 I3 => ⟨.bl (!ov.isSome), H2, I3, rfl, q2⟩
theorem Vb (hu : X.A.units + 1 < cLine) (ho : PE X o td) (hi : PE X i ty) (hv : PE X value tv) (hs : swapsWith value (some (.Subscript o i pos')) pos.line X.env = pure false) :
  PS X (.Assign [.Subscript o i pos'] value pos) (WW td ty tv) := by
 intro pins s σ H D I h
 refine wpAny_Assign_Subscript (thn (hv pins s σ H _ I h) fun r s1 ⟨v, H1, I1, rv, q1⟩ => thn (ho pins s1 σ H1 _ I1 q1) fun u s2 ⟨x, H2, I2, rx, q2⟩ => thn (hi pins s2 σ H2 _ I2 q2) fun iv s3 ⟨y, H3, I3, ry, a, H4, ex, g, q3⟩ => ?_) hs
 subst ex
 obtain rfl : u = Value.ref a := rx
 exact JY hu I3 g ry rv fun s4 I4 => ⟨σ, H4, I4, q3⟩
end
theorem Yc {P : Program} {w : World} {H : Hp} (h : Heap) (hb : sysModules < h.objs.size) : zL P w H (h.push { cls := .type "dict", data := .dict #[] }) h.objs.size (.dK []) :=
 ⟨Nat.zero_le _, beq_eq_false_iff_ne.mpr (Ne.symm (Nat.ne_of_lt hb)), [], .nil, Heap.DictOf.new h⟩
noncomputable def YY : TE := fun _ H Q => ∀ p, H p = none -> Q (.ref p) (upd H p (.dK []))
section
variable {X : Cx} {pos : Pos}
theorem YV : PE X (.Dict [] [] pos) YY := fun pins s σ H Q I h =>
 wpAny_Dict_empty ⟨.ref s.heap.objs.size, _, I.laid (a := s.heap.objs.size) (o := .dK []) (t' := s.toks) (fun _ _ q => Heap.get?_push_of_some _ q) (Nat.le_refl _) (Yc s.heap I.big), rfl, h _ (I.hok.fresh (Nat.le_refl _))⟩
end
structure M1 (X : Cx) (o : Expr) (m : Str) (apos : Pos) (e : Expr) (cpos : Pos) : Prop where
 base : attributeBase o m X.env (eval o X.env) = eval o X.env
 few : ((backTo cpos (starEach [e] X.env)).all (fun x => !x.1) && (backToKw cpos (keywordEach [] X.env)).all (fun x => x.1.isSome)
  && decide (([e] : List Expr).length + ([] : List Keyword).length + (if ([] : List Keyword).isEmpty then 0 else 1) < 30)) = true
 line : (apos.endLine == cpos.line) = true
 trees : backTo cpos (starEach [e] X.env) = [(false, eval e X.env)]
structure M2 (X : Cx) (o : Expr) (m : Str) (apos : Pos) (e f : Expr) (cpos : Pos) : Prop where
 base : attributeBase o m X.env (eval o X.env) = eval o X.env
 few : ((backTo cpos (starEach [e, f] X.env)).all (fun x => !x.1) && (backToKw cpos (keywordEach [] X.env)).all (fun x => x.1.isSome)
  && decide (([e, f] : List Expr).length + ([] : List Keyword).length + (if ([] : List Keyword).isEmpty then 0 else 1) < 30)) = true
 line : (apos.endLine == cpos.line) = true
 trees : backTo cpos (starEach [e, f] X.env) = [(false, eval e X.env), (false, eval f X.env)]
section
variable {X : Cx} {pins : List (Addr × Obj)} {σ : St} {H : Hp} {s : Shared} {a : Addr} {y d : V} {u r : Value} {o : Option V} {A : Around} {E : Value -> Shared -> Prop}
end
section
variable {X : Cx} {o e f : Expr} {apos cpos : Pos} {td ty tx : TE}
end
section
variable {X : Cx} {pins : List (Addr × Obj)} {σ : St} {H : Hp} {s : Shared} {a : Addr} {kvs : List (Key × V)} {A : Around} {E : Value -> Shared -> Prop}
end
section
variable {X : Cx} {pins : List (Addr × Obj)} {σ : St} {H : Hp} {s : Shared} {a : Addr} {y : V} {u : Value} {A : Around} {E : Value -> Shared -> Prop}
end
end L2
namespace L2
open PySem PySem.Spec PyProof.Rows
section
variable {κ : Type} [DecidableEq κ]
end
end L2
set_option Elab.async false
set_option linter.all false
set_option maxRecDepth 100000
set_option maxHeartbeats 4000000
namespace L2
open PySem PySem.Spec PyProof.Rows
noncomputable def XY (N : List Str) (ts : List Nat) (sc : Scope) (kind : Str -> Option NameKind) : Bool :=
 sc.kind == .function && sc.names.all (fun y => y.2 != .cell && (y.2 != .local || sc.names.lookup y.1 == some .local) && (y.2 != .free || kind y.1 == some .cell || kind y.1 == some .free)) &&
  N.zipIdx.all (fun p => sc.names.lookup p.1 != some .local || ts.contains p.2)
noncomputable def qB (cells : List (Str × Addr)) : List (Str × NameKind) -> List (Str × Addr) -> List (Str × Addr)
 | [], acc => acc
 | (n, k) :: r, acc => qB cells r (if k = .free then (n, (cells.lookup n).getD 0) :: acc else acc)
theorem v6 {env : Env} : ∀ (names : List (Str × NameKind)) (acc : List (Str × Addr)), (∀ y ∈ names, y.2 = .free -> ∃ c, env.cells.lookup y.1 = some c) ->
  (forIn names acc fun (x : Str × NameKind) (cs : List (Str × Addr)) => (match x with | (name, kind) => if (kind == NameKind.free) = true then (do let c <- cellOf env name; pure (ForInStep.yield ((name, c) :: cs))) else pure (ForInStep.yield cs) : Sem (ForInStep (List (Str × Addr))))) = pure (qB env.cells names acc)
 | [], acc, _ => rfl
 | (n, k) :: r, acc, h => by
  rw [List.forIn_cons]
  by_cases hk : k = .free
  ·subst hk
   obtain ⟨c, hc⟩ := h (n, .free) List.mem_cons_self rfl
   have e1 : cellOf env n = pure c := by unfold cellOf; rw [hc]
   simp only [beq_self_eq_true, if_true, e1, pure_bind]
   rw [v6 r _ fun y hy => h y (List.mem_cons_of_mem _ hy)]
   show _ = pure (qB env.cells r (if NameKind.free = .free then _ else _))
   rw [if_pos rfl, hc]; rfl
  ·have hb : (k == NameKind.free) = false := by simpa using hk
   simp only [hb, Bool.false_eq_true, if_false, pure_bind]
   rw [v6 r _ fun y hy => h y (List.mem_cons_of_mem _ hy)]
   show _ = pure (qB env.cells r (if k = .free then _ else _))
   rw [if_neg hk]
theorem kZ {cells : List (Str × Addr)} : ∀ (names : List (Str × NameKind)) (acc : List (Str × Addr)), (∀ y ∈ names, y.2 = .free -> ∃ c, cells.lookup y.1 = some c) -> (∀ x c, acc.lookup x = some c -> cells.lookup x = some c) ->
    (∀ x c, (qB cells names acc).lookup x = some c -> cells.lookup x = some c) /\ (∀ x c, acc.lookup x = some c -> ∃ c', (qB cells names acc).lookup x = some c') /\ ∀ y ∈ names, y.2 = .free -> ∃ c, (qB cells names acc).lookup y.1 = some c
  | [], acc, _, h2 => ⟨h2, fun x c e => ⟨c, e⟩, fun y hy => nomatch hy⟩
  | (n, k) :: r, acc, h1, h2 => by
    by_cases hk : k = .free
    · subst hk
      obtain ⟨c, hc⟩ := h1 (n, .free) List.mem_cons_self rfl
      have hc : cells.lookup n = some c := hc
      have e : qB cells ((n, .free) :: r) acc = qB cells r ((n, c) :: acc) := by
        show qB cells r (if NameKind.free = .free then _ else _) = _
        rw [if_pos rfl, hc]; rfl
      rw [e]
      obtain ⟨q1, q2, q3⟩ := kZ (cells := cells) r ((n, c) :: acc) (fun y hy => h1 y (List.mem_cons_of_mem _ hy)) (fun x c' e' => by
        rw [List.lookup_cons] at e'
        cases hx : x == n with
        | true => rw [hx] at e'; have : x = n := by simpa using hx
                  subst this; cases e'; exact hc
        | false => rw [hx] at e'; exact h2 x c' e')
      refine ⟨q1, fun x c' e' => ?_, fun y hy hf => ?_⟩
      · cases hx : x == n with
        | true => exact q2 x c (by rw [List.lookup_cons, hx])
        | false => exact q2 x c' (by rw [List.lookup_cons, hx]; exact e')
      · rcases List.mem_cons.mp hy with rfl | hy
        · exact q2 n c (by rw [List.lookup_cons, beq_self_eq_true])
        · exact q3 y hy hf
    · have e : qB cells ((n, k) :: r) acc = qB cells r acc := by
        show qB cells r (if k = .free then _ else _) = _
        rw [if_neg hk]
      rw [e]
      obtain ⟨q1, q2, q3⟩ := kZ (cells := cells) r acc (fun y hy => h1 y (List.mem_cons_of_mem _ hy)) h2
      refine ⟨q1, q2, fun y hy hf => ?_⟩
      rcases List.mem_cons.mp hy with rfl | hy
      · exact absurd hf hk
      · exact q3 y hy hf
theorem ZI {scope : Scope} {env : Env} (h : ∀ y ∈ scope.names, y.2 = .free -> ∃ c, env.cells.lookup y.1 = some c) :
  ∃ cl, closureFor scope env = pure cl /\ (∀ x c, cl.lookup x = some c -> env.cells.lookup x = some c) /\ ∀ y ∈ scope.names, y.2 = .free -> ∃ c, cl.lookup y.1 = some c := by
 obtain ⟨q1, _, q3⟩ := kZ (cells := env.cells) scope.names [] h (fun x c e => nomatch e)
 refine ⟨qB env.cells scope.names [], ?_, q1, q3⟩
 unfold closureFor
 have := v6 (env := env) scope.names [] h
 first
  | exact this
  | (simp only [bind_pure]; exact this)
  | (refine Eq.trans ?_ this; simp)
theorem kP {env : Env} : ∀ {names : List (Str × NameKind)} {x : Str}, (names.map fun (n, k) => if (k == NameKind.free && env.scope.kind == .function && env.kindOf n == some .cell) then (n, NameKind.cell) else (n, k)).lookup x =
  (names.lookup x).map fun k => if (k == NameKind.free && env.scope.kind == .function && env.kindOf x == some .cell) then NameKind.cell else k
 | [], _ => rfl
 | (n, k) :: r, x => by
  have ih := @kP env r x
  rw [List.map_cons]
  cases hx : x == n with
  | true =>
   have e : x = n := by simpa using hx
   subst e
   rw [List.lookup_cons (as := r), beq_self_eq_true]
   show List.lookup x ((if (k == NameKind.free && env.scope.kind == .function && env.kindOf x == some .cell) = true then (x, NameKind.cell) else (x, k)) :: _) = some _
   by_cases hc : (k == NameKind.free && env.scope.kind == .function && env.kindOf x == some .cell) = true
   ·rw [if_pos hc, List.lookup_cons, beq_self_eq_true]; dsimp only; rw [if_pos hc]
   ·rw [if_neg hc, List.lookup_cons, beq_self_eq_true]; dsimp only; rw [if_neg hc]
  | false =>
   rw [List.lookup_cons (as := r), hx]
   show List.lookup x ((if (k == NameKind.free && env.scope.kind == .function && env.kindOf n == some .cell) = true then (n, NameKind.cell) else (n, k)) :: _) = _
   by_cases hc : (k == NameKind.free && env.scope.kind == .function && env.kindOf n == some .cell) = true
   ·rw [if_pos hc, List.lookup_cons, hx]; exact ih
   ·rw [if_neg hc, List.lookup_cons, hx]; exact ih
noncomputable abbrev cxC (X : Cx) (scope : Scope) (cl : List (Str × Addr)) (s : Shared) (H : Hp) (fp : List Addr) : Cx :=
 { X with s₀ := s, H₀ := H, env := compEnvC scope cl s.heap.objs.size X.env, outer := X.stack, ex := fp, fn := fun _ => false, pn := [], xe := fun _ _ => False }
noncomputable def clr : List Nat -> St -> St
 | [], σ => σ
 | j :: r, σ => clr r (σ.set j none)
theorem Qx : ∀ (ts : List Nat) (σ : St), (clr ts σ).length = σ.length
 | [], _ => rfl
 | j :: r, σ => by show (clr r (σ.set j none)).length = _; rw [Qx r]; simp
theorem Zf : ∀ (ts : List Nat) (σ : St) (i : Nat) (v : V), (clr ts σ)[i]? = some (some v) -> i ∉ ts /\ σ[i]? = some (some v)
 | [], _, _, _, h => ⟨by simp, h⟩
 | j :: r, σ, i, v, h => by
  obtain ⟨h1, h2⟩ := Zf r (σ.set j none) i v h
  by_cases e : j = i
  ·subst e
   rw [List.getElem?_set] at h2
   simp at h2
  ·rw [List.getElem?_set_ne e] at h2
   exact ⟨by simp [h1, Ne.symm e], h2⟩
structure ScF (X : Cx) (ts : List Nat) (scope : Scope) : Prop where
 kind : scope.kind = .function
 cell : ∀ y ∈ scope.names, y.2 ≠ .cell
 loc : ∀ y ∈ scope.names, y.2 = .local -> scope.names.lookup y.1 = some .local
 free : ∀ y ∈ scope.names, y.2 = .free -> X.env.kindOf y.1 = some .cell \/ X.env.kindOf y.1 = some .free
 ts : ∀ (i : Nat) x, X.N[i]? = some x -> scope.names.lookup x = some .local -> i ∈ ts
theorem AQ {X : Cx} {ts : List Nat} {scope : Scope} (h : XY X.N ts scope X.env.kindOf = true) : ScF X ts scope := by
  unfold XY at h
  simp only [Bool.and_eq_true, List.all_eq_true, bne_iff_ne, ne_eq, Bool.or_eq_true, beq_iff_eq] at h
  obtain ⟨⟨h1, h2⟩, h3⟩ := h
  refine ⟨h1, fun y hy => (h2 y hy).1.1, fun y hy e => ?_, fun y hy e => ?_, fun i x e1 e2 => ?_⟩
  · rcases (h2 y hy).1.2 with z | z
    · exact absurd e z
    · exact z
  · rcases (h2 y hy).2 with (z | z) | z
    · exact absurd e z
    · exact .inl z
    · exact .inr z
  · have hm : (x, i) ∈ X.N.zipIdx := by
      rw [List.mem_zipIdx_iff_getElem?]; exact e1
    rcases h3 _ hm with z | z
    · exact absurd e2 z
    · simpa using z
section
variable {X : Cx} {ts : List Nat} {scope : Scope} {pins : List (Addr × Obj)} {σ : St} {H : Hp} {s : Shared} {fp : List Addr}
theorem ZS (I : Inv X pins σ H s) (S : ScF X ts scope) (hf : ∀ b ∈ fp, xx X pins H b) (hfl : ∀ b ∈ fp, b < s.heap.objs.size) {cl : List (Str × Addr)} (c1 : ∀ x c, cl.lookup x = some c -> X.env.cells.lookup x = some c)
  (c2 : ∀ y ∈ scope.names, y.2 = .free -> ∃ c, cl.lookup y.1 = some c) {h1 : Heap} {t1 : Nat} (hns : h1.Ns s.heap.objs.size (fun x => ([] : List (Str × Value)).reverse.lookup x))
  (hk : ∀ b o, s.heap.get? b = some o -> h1.get? b = some o) : Inv (cxC X scope cl s H fp) [] (clr ts σ) H { s with heap := h1, toks := t1 } := by
 have hlk : ∀ x, (relabel scope X.env).names.lookup x = (scope.names.lookup x).map fun k => if (k == NameKind.free && X.env.scope.kind == .function && X.env.kindOf x == some .cell) then NameKind.cell else k := fun x => kP
 have cfree : ∀ x, ((relabel scope X.env).names.lookup x = some .cell \/ (relabel scope X.env).names.lookup x = some .free) -> (x, NameKind.free) ∈ scope.names := fun x hx => by
  rw [hlk] at hx
  cases e : scope.names.lookup x with
  | none => rw [e] at hx; rcases hx with hx | hx <;> cases hx
  | some k =>
   have hm := mem_of_lookup_some e
   cases k with
   | free => exact hm
   | cell => exact absurd rfl (S.cell _ hm)
   | «local» => rw [e] at hx; rcases hx with hx | hx <;> cases hx
   | globalExplicit => rw [e] at hx; rcases hx with hx | hx <;> cases hx
   | globalImplicit => rw [e] at hx; rcases hx with hx | hx <;> cases hx
 have ccell : ∀ x c, cl.lookup x = some c -> ∃ v, s.heap.IsCell c v := fun x c e => I.cell x c (c1 x c e)
 have fpne : ∀ b ∈ fp, b ∉ frs X.stack := fun b hb z => by
  obtain ⟨_, f1, f2, _⟩ := hf b hb
  rcases List.mem_cons.mp (I.stkSub b z) with e | e
  ·exact f1 e
  ·exact f2 e
 refine ⟨⟨I.ok.mod, S.kind, I.ok.glob, I.ok.blt, Nat.le_refl _, fun x y c e1 e2 => I.ok.inj x y c (c1 x c e1) (c1 y c e2), fun x hx => c2 (x, .free) (cfree x hx) rfl, (fun x c hx => nomatch hx), I.ok.hd, I.ok.frames, .inl rfl, fun b hb => ⟨Nat.ne_of_lt (hfl b hb), fun x c e => (hf b hb).2.2.2.2.1 x c (c1 x c e)⟩,
  I.bs, Nat.le_trans I.ok.bsz I.sz, fun b o e hb => ?_, fpne, I.stack, I.stkFree⟩, rfl, I.bare, Un.kept hk, ⟨_, hns, fun i x v e1 e2 e3 => ?_⟩, fun x c e => ?_, I.hok.fresh (Nat.le_refl _), fun x c e => I.freeC x c (c1 x c e), fun p hp => absurd hp (by simp), I.hok.kept hk, by rw [Qx]; exact I.len⟩
 ·rcases (hf b hb).2.2.2.1 with z | z
  ·exact I.ok.noex b o e z
  ·exact absurd (Nat.lt_of_lt_of_le (Heap.lt_size e) (Nat.le_trans I.ok.bsz z)) (Nat.lt_irrefl _)
 ·obtain ⟨nt, e2⟩ := Zf ts σ i v e2
  have e3' : (relabel scope X.env).names.lookup x = some .local \/ (relabel scope X.env).names.lookup x = some .cell \/ (relabel scope X.env).names.lookup x = some .free := e3
  rcases e3' with z | z
  ·rw [hlk] at z
   cases e : scope.names.lookup x with
   | none => rw [e] at z; cases z
   | some k =>
    rw [e] at z
    have z' : (if (k == NameKind.free && X.env.scope.kind == .function && X.env.kindOf x == some .cell) = true then NameKind.cell else k) = .local := Option.some.inj z
    split at z'
    ·cases z'
    ·subst z'
     exact absurd (S.ts i x e1 e) nt
  ·have hm := cfree x z
   obtain ⟨c, hc⟩ := c2 _ hm rfl
   obtain ⟨m, hn, hl⟩ := I.loc
   have vis : Vis X.env.scope x := by
    rcases S.free _ hm rfl with q | q
    ·exact .inr (.inl q)
    ·exact .inr (.inr q)
   obtain ⟨u, r, l⟩ := hl i x v e1 e2 vis
   refine ⟨u, r, .inr ⟨z, c, hc, ?_⟩⟩
   rcases l with ⟨q, _⟩ | ⟨_, c', hc', hcell⟩
   ·rcases S.free _ hm rfl with q' | q'
    ·rw [q'] at q; cases q
    ·rw [q'] at q; cases q
   ·rw [c1 x c hc] at hc'
    cases hc'
    obtain ⟨o, ho, hd⟩ := hcell
    exact ⟨o, hk _ _ ho, hd⟩
 ·obtain ⟨v, o, ho, hd⟩ := ccell x c e
  exact ⟨v, o, hk _ _ ho, hd⟩
end
section
variable {prog : Program} {w : World} {A : Around} {R : Result -> Shared -> Prop} {s : Shared}
theorem kg {elt target iter : Expr} {ifs : List Expr} {scope : Scope} {pos : Pos} {it acc : Value} {env : Env} (I : Nat -> Shared -> Prop)
    (turn : ∀ n s, I n s -> wpAny (model prog w) A (pyNext it) (fun r s₁ => match r with
      | none => R (.ok .next) s₁
      | some v => wpAny (model prog w) A (letOwnedTupleGo target it v) (fun _ s₀ => wpAny (model prog w) A (assign target env v) (fun _ s₂ =>
          wpAny (model prog w) A (forIn ifs true fun c r => if r = true then do let ok <- isTrue c env (eval c env); pure (ForInStep.yield ok) else pure (ForInStep.yield r)) (fun ok s₃ =>
            if ok = true then wpAny (model prog w) A (eval elt env) (fun x s₄ =>
              wpAny (model prog w) A (call (.builtin "list.append") [acc, x]) (fun _ s₅ => ∃ m, m < n /\ I m s₅) (fun _ _ => False) s₄) (fun _ _ => False) s₃
            else ∃ m, m < n /\ I m s₃) (fun _ _ => False) s₂) (fun _ _ => False) s₀) (fun _ _ => False) s₁) (fun _ _ => False) s)
    (n : Nat) (h : I n s) :
    codeAny (model prog w) A (.compLoop (.ListComp elt [⟨target, iter, ifs, 0⟩] scope pos) 0 it acc env) R s := by
  refine codeAny_loop rfl I (fun n s hI => ?_) n h
  show wpAny _ A ((compTurn (.ListComp elt [⟨target, iter, ifs, 0⟩] scope pos) 0 it acc env).onRaise (fun x => do noteFrame x env; theTreesLotGoes x)) _ _ s
  refine wpAny_noted ?_
  rw [compTurn_list]
  refine wpAny_bind (wpAny_standAt (wpAny_bind (wpAny_mono (turn n s hI) (fun r s₁ h₁ => ?_) fun _ _ h' => h'.elim)))
  cases r with
  | none => exact wpAny_pure h₁
  | some v =>
    refine wpAny_bind (wpAny_mono h₁ (fun _ s₀ h₀ => ?_) fun _ _ h' => h'.elim)
    refine wpAny_bind (wpAny_mono h₀ (fun _ s₂ h₂ => wpAny_bind (wpAny_mono h₂ (fun ok s₃ h₃ => ?_) fun _ _ h' => h'.elim)) fun _ _ h' => h'.elim)
    cases ok with
    | false => exact wpAny_pure ⟨rfl, h₃⟩
    | true =>
      exact wpAny_bind (wpAny_bind (wpAny_mono h₃ (fun x s₄ h₄ => wpAny_bind (wpAny_mono h₄ (fun _ s₅ h₅ => wpAny_pure (wpAny_pure ⟨rfl, h₅⟩)) fun _ _ h' => h'.elim)) fun _ _ h' => h'.elim))
end
noncomputable def XX : TT := fun _ H Q => Q true H
noncomputable def PIf (X : Cx) (ifs : List Expr) (t : TT) : Prop :=
 ∀ (pins : List (Addr × Obj)) (s : Shared) (σ : St) (H : Hp) (Q : Bool -> Hp -> Prop), Inv X pins σ H s -> t σ H Q ->
  wpAny (model X.prog X.w) X.A (forIn ifs true fun c r => if r = true then do let ok <- isTrue c X.env (eval c X.env); pure (ForInStep.yield ok) else pure (ForInStep.yield r)) (TP X pins σ Q) X.xe s
theorem qt {X : Cx} : PIf X [] XX := fun _ _ _ H _ I h => wpAny_tests_nil ⟨H, I, h⟩
theorem Qy {X : Cx} {c : Expr} {t : TT} (h : PT X c t) : PIf X [c] t := fun pins s σ H Q I hq => wpAny_tests_one (h pins s σ H Q I hq)
noncomputable def Zk (ts : List Nat) (wi : TI) (g : TG) (tt : TT) (te : TE) : TE := fun σ H Q => wi σ H fun J H1 => ∀ D, H1 D = none -> ∃ W : Nat -> Nat -> St -> Hp -> Prop, (∃ m, W 0 m (clr ts σ) (upd H1 D (.lst []))) /\ ∀ i m τ H2, W i m τ H2 ->
 (J.stop i H2 /\ Q (.ref D) H2) \/ (J.go i H2 /\ ∃ N : St -> Hp -> Prop, (∀ τ' H', N τ' H' -> ∃ m', m' < m /\ W (i + 1) m' τ' H') /\ ∀ x H', J.yld i H2 x H' -> g x τ H' fun τ2 H3 => tt τ2 H3 fun b H4 =>
  if b = true then te τ2 H4 fun v H5 => ∃ ys, H5 D = some (.lst ys) /\ ys.length < sizeLine /\ N τ2 (upd H5 D (.lst (ys ++ [v]))) else N τ2 H4)
section
variable {X : Cx} {ts : List Nat} {scope : Scope} {tg iter elt : Expr} {ifs : List Expr} {wi : TI} {g : TG} {tt : TT} {te : TE} {pos : Pos}
theorem Za (hc : X.calm = true) (hsc : XY X.N ts scope X.env.kindOf = true) (hi : PI X tg iter wi) (hg : ∀ cl s H fp, PG (cxC X scope cl s H fp) tg g) (ht : ∀ cl s H fp, PIf (cxC X scope cl s H fp) ifs tt) (he : ∀ cl s H fp, PE (cxC X scope cl s H fp) elt te)
  {pins : List (Addr × Obj)} {s : Shared} {σ : St} {H : Hp} {Q : VK} (I : Inv X pins σ H s) (h : Zk ts wi g tt te σ H Q) {use : Option (Value -> Sem Unit)} {Q' : Value -> Shared -> Prop}
  (fin : ∀ (D C : Addr) (H' : Hp) (s' : Shared), Inv X pins σ H' s' -> (∃ m, s'.heap.Ns C m) -> H' C = none -> C ≠ X.env.locals -> (∀ x c, X.env.cells.lookup x = some c -> c ≠ C) -> X.s₀.heap.objs.size <= C -> (∀ p ∈ X.pn ++ pins, p.1 ≠ C) -> C ∉ X.fs -> Q (.ref D) H' ->
   compPost (model X.prog X.w) X.A X.xe use Q' (.ref D) C (.ok .next) s')
  (hs : ∀ x, foldedSetIterable iter X.env x = pure x) :
  wpAny (model X.prog X.w) X.A (comprehension (.ListComp elt [⟨tg, iter, ifs, 0⟩] scope pos) scope X.env (firstIterPos [⟨tg, iter, ifs, 0⟩] pos) (newList []) false (eval iter X.env) use) Q' X.xe s := by
 have S := AQ hsc
 obtain ⟨cl, hcl, c1, c2⟩ := ZI (scope := scope) (env := X.env) fun y hy e => I.ok.has y.1 (S.free y hy e)
 refine wpAny_comprehension_free (use := use) rfl hs hcl S.kind S.loc ?_
 refine wpAny_mono (hi pins s σ H _ I h) (fun v s1 h1 => wpAny_mono h1 (fun itv s2 h2 => ?_) fun _ _ e => e) fun _ _ e => e
 obtain ⟨it, fp, tn, J, H2, e, I2, T, st2, f2, q2⟩ := h2
 subst e
 have hD : H2 s2.heap.objs.size = none := I2.hok.fresh (Nat.le_refl _)
 obtain ⟨W, ⟨m0, w0⟩, turn⟩ := q2 _ hD
 refine wpAny_newObj_type (wpAny_newFunctionEnv S.cell (by intro y hy; simp at hy) (fun h₁ hns₁ hsb₁ => ?_) S.kind)
 dsimp only at hns₁ hsb₁ ⊢
 generalize hh3 : s2.heap.push { cls := .type "list", dict := none, data := .seq ([] : List Value).toArray } = g3 at hns₁ hsb₁ ⊢
 have I3 : Inv X pins σ (upd H2 s2.heap.objs.size (.lst [])) { s2 with heap := g3 } := by
  rw [<- hh3]
  exact I2.laid (t' := s2.toks) (fun b u e => Heap.get?_push_of_some _ e) (Nat.le_refl _) ⟨Nat.zero_le _, [], _, .nil, Heap.get?_push_size _ rfl⟩
 have st3 : tn 0 g3 := T.keep _ _ _ st2 fun b _ o e => by rw [<- hh3]; exact Heap.get?_push_of_some _ e
 have lt2 : ∀ b ∈ fp, b < s2.heap.objs.size := fun b hb => by obtain ⟨o, e, _⟩ := T.obj _ _ st2 b hb; exact Heap.lt_size e
 have hsz3 : g3.objs.size = s2.heap.objs.size + 1 := by rw [<- hh3, Heap.size_push]
 have f3 : ∀ b ∈ fp, xx X pins (upd H2 s2.heap.objs.size (.lst [])) b := fun b hb => ⟨by rw [zm (Nat.ne_of_lt (lt2 b hb))]; exact (f2 b hb).1, (f2 b hb).2⟩
 have lt3 : ∀ b ∈ fp, b < g3.objs.size := fun b hb => by rw [hsz3]; exact Nat.lt_succ_of_lt (lt2 b hb)
 have old : ∀ b o, g3.get? b = some o -> h₁.get? b = some o := fun b o e => hsb₁.extBut b o (Nat.ne_of_lt (Heap.lt_size e)) (Heap.get?_push_of_some _ e)
 have hns : h₁.Ns g3.objs.size (fun x => ([] : List (Str × Value)).reverse.lookup x) := hns₁
 have I4 : ∀ t, Inv (cxC X scope cl { s2 with heap := g3 } (upd H2 s2.heap.objs.size (.lst [])) fp) [] (clr ts σ) (upd H2 s2.heap.objs.size (.lst [])) { s2 with heap := h₁, toks := t } := fun t => ZS I3 S f3 lt3 c1 c2 hns old
 have fpne : ∀ b ∈ fp, b ∉ frs X.stack := fun b hb z => by
  obtain ⟨_, f1, f2, _⟩ := f3 b hb
  rcases List.mem_cons.mp (I3.stkSub b z) with e | e
  ·exact f1 e
  ·exact f2 e
 have stat : ∀ {H' : Hp}, (∀ b ∈ fp, H' b = none) -> ∀ b ∈ fp, xx (cxC X scope cl { s2 with heap := g3 } (upd H2 s2.heap.objs.size (.lst [])) fp) [] H' b := fun hn b hb =>
  ⟨hn b hb, Nat.ne_of_lt (lt3 b hb), fpne b hb, .inl hb, fun x c e => (f2 b hb).2.2.2.2.1 x c (c1 x c e), fun p hp => absurd hp (by simp)⟩
 have loop : ∀ t, codeAny (model X.prog X.w) X.A (.compLoop (.ListComp elt [⟨tg, iter, ifs, 0⟩] scope pos) 0 (.ref it) (.ref s2.heap.objs.size) (compEnvC scope cl g3.objs.size X.env))
   (compPost (model X.prog X.w) X.A X.xe use Q' (.ref s2.heap.objs.size) g3.objs.size) { s2 with heap := h₁, toks := t } := by
  intro t
  refine kg (fun n s' => ∃ i τ H', Inv (cxC X scope cl { s2 with heap := g3 } (upd H2 s2.heap.objs.size (.lst [])) fp) [] τ H' s' /\ tn i s'.heap /\ (∀ b ∈ fp, H' b = none) /\ W i n τ H') ?_ m0
   ⟨0, clr ts σ, _, I4 t, T.keep _ _ _ st3 fun b _ o e => old b o e, fun b hb => (f3 b hb).1, w0⟩
  rintro n s5 ⟨i, τ, H5, I5, st5, fr5, w5⟩
  rcases turn i n τ H5 w5 with ⟨stop, qn⟩ | ⟨go, N, hN, step⟩
  ·refine thn (T.done (cxC X scope cl { s2 with heap := g3 } (upd H2 s2.heap.objs.size (.lst [])) fp) rfl rfl rfl hc i [] s5 τ H5 _ I5 (stat fr5) st5 stop) fun r s6 ⟨hr, I6⟩ => ?_
   subst hr
   have base : Un (frs X.stack) fp (upd H2 s2.heap.objs.size (.lst [])) H5 g3 s6.heap := I6.base
   have J6 : Inv X pins σ H5 s6 := I3.call' (ch := fp) I6.os base I6.hok I6.bare fun b hb => ⟨(f3 b hb).2.2.2.1, (f3 b hb).2.1, (f3 b hb).2.2.2.2.1, (f3 b hb).2.2.2.2.2⟩
   obtain ⟨m6, n6, _⟩ := I6.loc
   have hC : g3.get? g3.objs.size = none := Heap.get?_none_of_le (Nat.le_refl _)
   refine fin _ g3.objs.size H5 s6 J6 ⟨m6, n6⟩ I6.free (Nat.ne_of_gt I3.lt) (fun x c e z => ?_) I3.sz (fun p hp z => ?_) (I3.nofs (Nat.le_refl _)) qn
   ·obtain ⟨v, q⟩ := I3.cell x c e
    exact absurd q.lt (by rw [z]; exact Nat.lt_irrefl _)
   ·exact absurd (Heap.lt_size (I3.pin p hp).1) (by rw [z]; exact Nat.lt_irrefl _)
  ·refine thn (T.item (cxC X scope cl { s2 with heap := g3 } (upd H2 s2.heap.objs.size (.lst [])) fp) rfl rfl rfl hc i [] s5 τ H5 _ I5 (stat fr5) st5 go) fun r s6 ⟨u, hr, h6⟩ => ?_
   subst hr
   refine thn h6 fun _ s7 ⟨x, H7, I7, r7, y7, st7, fr7⟩ => ?_
   have I7' := I7.pinned (stat fr7) (T.obj _ _ st7)
   refine thn (hg cl { s2 with heap := g3 } _ fp _ s7 τ H7 x u _ I7' r7 (step x H7 y7)) fun _ s8 ⟨τ8, H8, I8, q8⟩ => ?_
   refine thn (ht cl { s2 with heap := g3 } _ fp _ s8 τ8 H8 _ I8 q8) fun b s9 ⟨H9, I9, q9⟩ => ?_
   have again : ∀ {τ9 : St} {H9 : Hp} {s9 : Shared}, Inv (cxC X scope cl { s2 with heap := g3 } (upd H2 s2.heap.objs.size (.lst [])) fp) ([] ++ ym fp s7.heap) τ9 H9 s9 -> N τ9 H9 ->
     ∃ m, m < n /\ ∃ i τ H', Inv (cxC X scope cl { s2 with heap := g3 } (upd H2 s2.heap.objs.size (.lst [])) fp) [] τ H' s9 /\ tn i s9.heap /\ (∀ b ∈ fp, H' b = none) /\ W i m τ H' := fun {τ9 H9 s9} I9 n9 => by
    obtain ⟨m', hm, w9⟩ := hN _ _ n9
    refine ⟨m', hm, i + 1, τ9, H9, I9.unpinned, T.keep _ _ _ st7 fun b hb o e => (I9.pin (b, o) (List.mem_append_right _ (List.mem_append_right _ (jy hb e)))).1, fun b hb => ?_, w9⟩
    obtain ⟨o, e, d⟩ := T.obj _ _ st7 b hb
    exact (I9.pin (b, o) (List.mem_append_right _ (List.mem_append_right _ (jy hb e)))).2.1
   cases b with
   | false =>
    rw [if_neg Bool.false_ne_true] at q9 ⊢
    exact again I9 q9
   | true =>
    rw [if_pos rfl] at q9 ⊢
    refine thn (he cl { s2 with heap := g3 } _ fp _ s9 τ8 H9 _ I9 q9) fun y s10 ⟨v, H10, I10, r10, ys, hys, hlen, n10⟩ => ?_
    exact thn (yQ (X := cxC X scope cl { s2 with heap := g3 } (upd H2 s2.heap.objs.size (.lst [])) fp) _ s10 τ8 H10 (.ref s2.heap.objs.size) [v] (.ref s2.heap.objs.size) [y] (fun _ H11 => N τ8 H11) I10 rfl (.cons r10 .nil) ⟨_, ys, v, rfl, rfl, hys, hlen, n10⟩) fun _ s11 ⟨_, H11, I11, _, n11⟩ => again I11 n11
 have LW := loop (s2.toks + ([] : List (Str × Value)).length)
 exact codeAny_compStart_list LW (T.self _ 0 _ _ _ (T.keep _ _ _ st3 fun b _ o e => old b o e) LW)
end
end L2
set_option Elab.async false
set_option linter.all false
set_option maxRecDepth 100000
set_option maxHeartbeats 4000000
namespace L2
open PySem PySem.Spec PyProof.Rows
section
variable {X : Cx} {ts : List Nat} {scope : Scope} {tg iter elt : Expr} {ifs : List Expr} {wi : TI} {g : TG} {tt : TT} {te : TE} {pos : Pos}
theorem qJ (hc : X.calm = true) (hsc : XY X.N ts scope X.env.kindOf = true) (hi : PI X tg iter wi) (hg : ∀ cl s H fp, PG (cxC X scope cl s H fp) tg g) (ht : ∀ cl s H fp, PIf (cxC X scope cl s H fp) ifs tt) (he : ∀ cl s H fp, PE (cxC X scope cl s H fp) elt te)
  (hs : ∀ x, foldedSetIterable iter X.env x = pure x := by intro _; rfl) : PE X (.ListComp elt [⟨tg, iter, ifs, 0⟩] scope pos) (Zk ts wi g tt te) := by
 intro pins s σ H Q I h
 rw [eval_ListComp]
 refine Za hc hsc hi hg ht he I h (use := none) (fun D C H' s' I' ⟨m, hn⟩ hC hL hce hsz hp hfs q => ⟨m, hn, fun h' hs' => ?_⟩) hs
 exact ⟨.ref D, H', I'.turned (t' := s'.toks) (it := C) (fun b o hb e => (hs'.2 b hb).trans e) hC hL (.inr hsz) hce hp, rfl, q⟩
theorem xL {j : Nat} {y : Str} {py spos : Pos} (hc : X.calm = true) (hN : X.N.Nodup) (hj : X.N[j]? = some y) (hy : Loc X.env.scope y) (hsc : XY X.N ts scope X.env.kindOf = true) (hi : PI X tg iter wi) (hg : ∀ cl s H fp, PG (cxC X scope cl s H fp) tg g) (ht : ∀ cl s H fp, PIf (cxC X scope cl s H fp) ifs tt) (he : ∀ cl s H fp, PE (cxC X scope cl s H fp) elt te)
  (hsw : swapsWith (.ListComp elt [⟨tg, iter, ifs, 0⟩] scope pos) (some (.Name y py)) spos.line X.env = pure true := by rfl)
  (hs : ∀ x, foldedSetIterable iter X.env x = pure x := by intro _; rfl) (hf : X.fn y = true \/ X.env.scope.names.lookup y = some .local := by first | exact .inl rfl | exact .inr rfl | assumption) :
  PS X (.Assign [.Name y py] (.ListComp elt [⟨tg, iter, ifs, 0⟩] scope pos) spos) (Xm (Zk ts wi g tt te) (wD j)) := by
 intro pins s σ H D I h
 rw [exec_Assign_Name_used _ _ _ _ hsw]
 refine wpAny_bind (wpAny_standAt (wpAny_bind ?_))
 show wpAny _ _ (do let _ <- comprehension (.ListComp elt [⟨tg, iter, ifs, 0⟩] scope pos) scope X.env _ (newList []) false (eval iter X.env) (some (assign (.Name y py) X.env))) _ _ s
 refine wpAny_bind (wpAny_mono (Za hc hsc hi hg ht he I h (use := some (assign (.Name y py) X.env)) (Q' := fun _ s' => SP X pins D .next s') (fun D' C H' s' I' ⟨m, hn⟩ hC hL hce hsz hp hfs q => ?_) hs) (fun _ s' hq => wpAny_pure (wpAny_pure hq)) fun _ _ e => e)
 show wpAny _ _ (assign (.Name y py) X.env (.ref D')) _ _ _
 refine wpAny_assign_Name (vi (v := .ref D') I' hN hj hy rfl (fun s2 I2 ⟨a, hsb, ha⟩ => ?_) hf)
 have hCa : C ≠ a := by
  rcases ha with rfl | ha
  ·exact hL
  ·exact Ne.symm (hce y a ha)
 refine ⟨m, hn.sameBut hsb hCa, fun h' hs' => ?_⟩
 exact ⟨_, H', I2.turned (t' := s2.toks) (it := C) (fun b o hb e => (hs'.2 b hb).trans e) hC hL (.inr hsz) hce hp, q⟩
end
noncomputable def Ite (K : PySem.W.Frag) (a : Addr) : It :=
 ⟨fun i H => ∃ xs x, SqL K H a xs /\ xs[i]? = some x, fun i H y H' => ∃ p x, H p = none /\ y = .ref p /\ (∀ xs, SqL K H a xs -> xs[i]? = some x) /\ H' = upd H p (.tup [.int i, x]), fun i H => ∃ xs, SqL K H a xs /\ xs.length <= i⟩
theorem yJ {P : Program} {w : World} {K : PySem.W.Frag} {es : List Expr} {kt : Nat} {tp : Pos} (a e it : Addr) (hei : e ≠ it) : Zt P w K (.Tuple es kt tp) (Ite K a) [e, it] e (fun i h => (∃ old, IsEnum h e it (i : Nat) old) /\ h.IsListIter it a i) where
 mem := by simp
 obj := fun i h st b hb => by
  obtain ⟨⟨old, he⟩, ⟨o, e1, c, d⟩⟩ := st
  rcases List.mem_cons.mp hb with rfl | hb
  ·exact ⟨_, he, fun v z => by have z' : Data.fields _ = Data.cell v := z; cases z'⟩
  ·have e2 : b = it := by simpa using hb
   subst e2
   exact ⟨o, e1, fun v z => by rw [d] at z; cases z⟩
 keep := fun i h h' st k => by
  obtain ⟨⟨old, he⟩, st⟩ := st
  exact ⟨⟨old, k e (by simp) _ he⟩, st.at fun o e => k it (by simp) o e⟩
 item := by
  intro X hP hw hK hc i pins s σ H E I hf st hg
  subst hP hw hK
  obtain ⟨⟨old, he⟩, st⟩ := st
  obtain ⟨xs, x, hq, hx⟩ := hg
  obtain ⟨its, rv, p, hz⟩ := I.list hq
  obtain ⟨u, hu, ru⟩ := rv.get hx
  have fe := hf e (by simp)
  have fi := hf it (by simp)
  refine wpAny_pyNext_enum_item he st p.isList (x := u) (by simpa using hu) hei fun h1 heo hit1 ht1 hz1 hk1 => ?_
  refine ⟨.ref s.heap.objs.size, rfl, wpAny_letOwnedTupleGo_enum heo fun h2 he2 hs2 => ?_⟩
  replace hs2 : Heap.SameBut e h1 h2 := hs2
  have elt : e < s.heap.objs.size := Heap.lt_size he
  have hfr : H s.heap.objs.size = none := I.hok.fresh (Nat.le_refl _)
  have ht2 : h2.get? s.heap.objs.size = some { cls := .type "tuple", data := .seq #[.int i s.toks, u] } := (hs2.2 _ (Nat.ne_of_gt elt)).trans ht1
  have kk : ∀ b o, b ∉ [e, it] -> s.heap.get? b = some o -> h2.get? b = some o := fun b o hc q => by
   have n1 : b ≠ e := fun z => hc (by simp [z])
   have n2 : b ≠ it := fun z => hc (by simp [z])
   exact (hs2.2 b n1).trans (hk1 b o n1 n2 q)
  have nb : ∀ c v, H c = some v -> c ∉ [e, it] := fun c v z hm => by
   rcases List.mem_cons.mp hm with z' | z'
   ·rw [z', fe.1] at z; cases z
   ·have e2 : c = it := by simpa using z'
    rw [e2, fi.1] at z; cases z
  have I2 : Inv X pins σ (upd H s.heap.objs.size (.tup [.int i, x])) { s with heap := h2, toks := s.toks + 1 } := by
   refine I.step (g' := s.gens) (d' := s.drawn) (ch := [e, it]) (fun b hb => ?_) (fun b o _ _ hc q _ => kk b o hc q) (fun b o _ _ hc q _ => ⟨o.slots, kk b o hc q⟩) (fun b o _ q n => by rw [zm (Nat.ne_of_lt (Heap.lt_size q))]; exact n) (fun b o hc q => ⟨o, kk b o hc q⟩)
    (fun b xs q => by rw [zm (zp q hfr)]; exact q) (fun b o u q => by rw [zm (zp q hfr)]; exact q) (fun b ps q => ⟨#[], by rw [zm (zp q hfr), q]; simp⟩) (fun m hm => ?_) (fun b v q => ?_) I.bare
   ·rcases List.mem_cons.mp hb with z | hb
    ·rw [z]; exact ⟨fe.2.2.2.1, fe.2.1, fe.2.2.2.2.1, fe.2.2.2.2.2⟩
    ·have e2 : b = it := by simpa using hb
     rw [e2]; exact ⟨fi.2.2.2.1, fi.2.1, fi.2.2.2.2.1, fi.2.2.2.2.2⟩
   ·obtain ⟨o, es, ep, ho, r⟩ := hm
    exact ⟨o, es, ep, kk _ o (by simp [Ne.symm fe.2.1, Ne.symm fi.2.1]) ho, r⟩
   ·by_cases hb : b = s.heap.objs.size
    ·subst hb
     rw [zh] at q
     cases q
     exact ⟨by show 2 <= sizeLine; decide, [.int i s.toks, u], .cons ⟨_, rfl⟩ (.cons ru .nil), _, ht2, rfl, ⟨_, rfl⟩, rfl⟩
    ·rw [zm hb] at q
     refine (I.hok b v q).stay (fun c o hc q' => kk c o ?_ q') (fun c z => by rw [zm (zp z hfr)]; exact z) fun c xs z => by rw [zm (zp z hfr)]; exact z
     rcases hc with z | z
     ·rw [z]; exact nb b v q
     ·exact nb c _ z
  refine ⟨.ref s.heap.objs.size, _, I2, rfl, ⟨s.heap.objs.size, x, hfr, rfl, fun ys hy => by rw [I.list_inj hy hq]; exact hx, rfl⟩, ⟨⟨_, by simpa using he2⟩, hit1.extBut hs2.extBut (Ne.symm hei)⟩, fun b hb => ?_⟩
  have hlt : b < s.heap.objs.size := by
   rcases List.mem_cons.mp hb with rfl | hb
   ·exact elt
   ·have e2 : b = it := by simpa using hb
    subst e2
    obtain ⟨o, e1, _⟩ := st
    exact Heap.lt_size e1
  rw [zm (Nat.ne_of_lt hlt)]
  exact (hf b hb).1
 done := by
  intro X hP hw hK hc i pins s σ H E I hf st hg
  subst hP hw hK
  obtain ⟨⟨old, he⟩, st⟩ := st
  obtain ⟨xs, hq, hx⟩ := hg
  obtain ⟨its, rv, p, hz⟩ := I.list hq
  obtain ⟨f0, f1, f2, f3, f4, f5⟩ := hf it (by simp)
  have hl := rv.length
  exact wpAny_pyNext_enum_end (I.ok.hd hc) he st p.isList (by simp; omega) fun h' eb => ⟨rfl, I.turned (t' := s.toks) (fun b o hb e => eb b o hb e) f0 f1 f3 f4 f5⟩
 self := fun _ _ _ _ _ st h => by
  obtain ⟨⟨old, he⟩, _⟩ := st
  exact wpAny_pyIter_enum he h
end L2
set_option Elab.async false
set_option linter.all false
set_option maxRecDepth 100000
set_option maxHeartbeats 4000000
namespace L2
open PySem PySem.Spec PyProof.Rows
section
variable {X : Cx} {pins : List (Addr × Obj)} {σ : St} {H : Hp} {s : Shared}
theorem Inv.yieldTup {ch : List Addr} {h2 : Heap} {tk : Nat} {T : Addr} {xs : List V} {us : List Value} (I : Inv X pins σ H s) (hf : ∀ b ∈ ch, xx X pins H b) (kk : ∀ b o, b ∉ ch -> s.heap.get? b = some o -> h2.get? b = some o) (hT : s.heap.objs.size <= T)
  (ht2 : h2.get? T = some { cls := .type "tuple", data := .seq us.toArray }) (rv : zD xs us) (hz : xs.length <= sizeLine) : Inv X pins σ (upd H T (.tup xs)) { s with heap := h2, toks := tk } := by
 have hfr : H T = none := I.hok.fresh hT
 have nb : ∀ c v, H c = some v -> c ∉ ch := fun c v z hm => by rw [(hf c hm).1] at z; cases z
 refine I.step (g' := s.gens) (d' := s.drawn) (ch := ch) (fun b hb => ⟨(hf b hb).2.2.2.1, (hf b hb).2.1, (hf b hb).2.2.2.2.1, (hf b hb).2.2.2.2.2⟩) (fun b o _ _ hc q _ => kk b o hc q) (fun b o _ _ hc q _ => ⟨o.slots, kk b o hc q⟩)
  (fun b o _ q n => by rw [zm (Nat.ne_of_lt (Nat.lt_of_lt_of_le (Heap.lt_size q) hT))]; exact n) (fun b o hc q => ⟨o, kk b o hc q⟩)
  (fun b xs q => by rw [zm (zp q hfr)]; exact q) (fun b o u q => by rw [zm (zp q hfr)]; exact q) (fun b ps q => ⟨#[], by rw [zm (zp q hfr), q]; simp⟩) (fun m hm => ?_) (fun b v q => ?_) I.bare
 ·obtain ⟨o, es, ep, ho, r⟩ := hm
  exact ⟨o, es, ep, kk _ o (fun z => (hf _ z).2.1 rfl) ho, r⟩
 ·by_cases hb : b = T
  ·subst hb
   rw [zh] at q
   cases q
   exact ⟨hz, us, rv, _, ht2, rfl, ⟨_, rfl⟩, rfl⟩
  ·rw [zm hb] at q
   refine (I.hok b v q).stay (fun c o hc q' => kk c o ?_ q') (fun c z => by rw [zm (zp z hfr)]; exact z) fun c xs z => by rw [zm (zp z hfr)]; exact z
   rcases hc with z | z
   ·rw [z]; exact nb b v q
   ·exact nb c _ z
theorem Inv.turnedL {ch : List Addr} {h2 : Heap} {tk : Nat} (I : Inv X pins σ H s) (hf : ∀ b ∈ ch, xx X pins H b) (kk : ∀ b o, b ∉ ch -> s.heap.get? b = some o -> h2.get? b = some o) : Inv X pins σ H { s with heap := h2, toks := tk } := by
 have nb : ∀ c v, H c = some v -> c ∉ ch := fun c v z hm => by rw [(hf c hm).1] at z; cases z
 refine I.step (g' := s.gens) (d' := s.drawn) (ch := ch) (fun b hb => ⟨(hf b hb).2.2.2.1, (hf b hb).2.1, (hf b hb).2.2.2.2.1, (hf b hb).2.2.2.2.2⟩) (fun b o _ _ hc q _ => kk b o hc q) (fun b o _ _ hc q _ => ⟨o.slots, kk b o hc q⟩)
  (fun b o _ q n => n) (fun b o hc q => ⟨o, kk b o hc q⟩) (fun b xs q => q) (fun b o u q => q) (fun b ps q => ⟨#[], by rw [q]; simp⟩) (fun m hm => ?_) (fun b v q => ?_) I.bare
 ·obtain ⟨o, es, ep, ho, r⟩ := hm
  exact ⟨o, es, ep, kk _ o (fun z => (hf _ z).2.1 rfl) ho, r⟩
 ·refine (I.hok b v q).stay (fun c o hc q' => kk c o ?_ q') (fun c z => z) fun c xs z => z
  rcases hc with z | z
  ·rw [z]; exact nb b v q
  ·exact nb c _ z
end
noncomputable def Itz (K : PySem.W.Frag) (a b : Addr) : It :=
 ⟨fun i H => ∃ xs ys x y, SqL K H a xs /\ SqL K H b ys /\ xs[i]? = some x /\ ys[i]? = some y, fun i H z H' => ∃ p x y, H p = none /\ z = .ref p /\ (∀ xs, SqL K H a xs -> xs[i]? = some x) /\ (∀ ys, SqL K H b ys -> ys[i]? = some y) /\ H' = upd H p (.tup [x, y]),
  fun i H => ∃ xs ys, SqL K H a xs /\ SqL K H b ys /\ (xs.length <= i \/ ys.length <= i)⟩
theorem Ye {P : Program} {w : World} {K : PySem.W.Frag} {es : List Expr} {kt : Nat} {tp : Pos} (l1 l2 z TI TO i1 i2 : Addr) (D : ZipApart z TI TO i1 i2 l1 l2) :
  Zt P w K (.Tuple es kt tp) (Itz K l1 l2) [z, TI, TO, i1, i2] z (fun i h => IsZip h z TI TO .none /\ IsPair h TI (.ref i1) (.ref i2) /\ (∃ a b, IsPair h TO a b) /\ h.IsListIter i1 l1 i /\ h.IsListIter i2 l2 i) where
 mem := by simp
 obj := fun i h st b hb => by
  obtain ⟨hz, hTI, ⟨a, c, hTO⟩, ⟨o1, e1, c1, d1⟩, ⟨o2, e2, c2, d2⟩⟩ := st
  simp only [List.mem_cons, List.not_mem_nil, or_false] at hb
  rcases hb with rfl | rfl | rfl | rfl | rfl
  ·exact ⟨_, hz, fun v q => by have q' : Data.fields _ = Data.cell v := q; cases q'⟩
  ·exact ⟨_, hTI, fun v q => by have q' : Data.seq _ _ = Data.cell v := q; cases q'⟩
  ·exact ⟨_, hTO, fun v q => by have q' : Data.seq _ _ = Data.cell v := q; cases q'⟩
  ·exact ⟨o1, e1, fun v q => by rw [d1] at q; cases q⟩
  ·exact ⟨o2, e2, fun v q => by rw [d2] at q; cases q⟩
 keep := fun i h h' st k => by
  obtain ⟨hz, hTI, ⟨a, c, hTO⟩, h1, h2⟩ := st
  exact ⟨k _ (by simp) _ hz, k _ (by simp) _ hTI, ⟨a, c, k _ (by simp) _ hTO⟩, h1.at fun o e => k _ (by simp) o e, h2.at fun o e => k _ (by simp) o e⟩
 item := by
  intro X hP hw hK hc i pins s σ H E I hf st hg
  subst hP hw hK
  obtain ⟨hz, hTI, ⟨a, c, hTO⟩, h1, h2⟩ := st
  obtain ⟨xs, ys, x, y, hq1, hq2, hx, hy⟩ := hg
  obtain ⟨its1, rv1, p1, hz1⟩ := I.list hq1
  obtain ⟨its2, rv2, p2, hz2⟩ := I.list hq2
  obtain ⟨u, hu, ru⟩ := rv1.get hx
  obtain ⟨v, hv, rvv⟩ := rv2.get hy
  refine wpAny_pyNext_zip_item D hz hTI hTO h1 h2 p1.isList p2.isList (x := u) (y := v) (by simpa using hu) (by simpa using hv) fun g1 b1 b2 b3 b4 b5 b6 hk => ?_
  refine ⟨.ref s.heap.objs.size, rfl, wpAny_letOwnedTupleGo_zip b1 fun g2 hz2' hs2 => ?_⟩
  replace hs2 : Heap.SameBut z g1 g2 := hs2
  have zlt : z < s.heap.objs.size := Heap.lt_size hz
  have I2 : Inv X pins σ (upd H s.heap.objs.size (.tup [x, y])) { s with heap := g2, toks := s.toks } := by
   refine I.yieldTup (us := [u, v]) hf (fun b o hb e => ?_) (Nat.le_refl _) ((hs2.2 _ (Nat.ne_of_gt zlt)).trans b5) (.cons ru (.cons rvv .nil)) (by show 2 <= sizeLine; decide)
   simp only [List.mem_cons, List.not_mem_nil, or_false, not_or] at hb
   exact (hs2.2 b hb.1).trans (hk b o hb.1 hb.2.2.1 hb.2.2.2.1 hb.2.2.2.2 e)
  refine ⟨.ref s.heap.objs.size, _, I2, rfl, ⟨s.heap.objs.size, x, y, I.hok.fresh (Nat.le_refl _), rfl, fun xs' h' => by rw [I.list_inj h' hq1]; exact hx, fun ys' h' => by rw [I.list_inj h' hq2]; exact hy, rfl⟩,
   ⟨hz2', (hs2.2 _ D.TIz).trans (hk _ _ D.TIz D.TITO D.TIi1 D.TIi2 hTI), ⟨_, _, (hs2.2 _ D.TOz).trans b2⟩, b3.extBut hs2.extBut D.i1z, b4.extBut hs2.extBut D.i2z⟩, fun b hb => ?_⟩
  have hlt : b < s.heap.objs.size := by
   simp only [List.mem_cons, List.not_mem_nil, or_false] at hb
   rcases hb with rfl | rfl | rfl | rfl | rfl
   ·exact zlt
   ·exact Heap.lt_size hTI
   ·exact Heap.lt_size hTO
   ·obtain ⟨o, e, _⟩ := h1; exact Heap.lt_size e
   ·obtain ⟨o, e, _⟩ := h2; exact Heap.lt_size e
  rw [zm (Nat.ne_of_lt hlt)]
  exact (hf b hb).1
 done := by
  intro X hP hw hK hc i pins s σ H E I hf st hg
  subst hP hw hK
  obtain ⟨hz, hTI, ⟨a, c, hTO⟩, h1, h2⟩ := st
  obtain ⟨xs, ys, hq1, hq2, hend⟩ := hg
  obtain ⟨its1, rv1, p1, hz1⟩ := I.list hq1
  obtain ⟨its2, rv2, p2, hz2⟩ := I.list hq2
  have l1 := rv1.length
  have l2 := rv2.length
  refine wpAny_pyNext_zip_end (I.ok.hd hc) D hz hTI hTO h1 h2 p1.isList p2.isList (by simp; omega) fun h' hk => ⟨rfl, I.turnedL (tk := s.toks) hf fun b o hb e => ?_⟩
  simp only [List.mem_cons, List.not_mem_nil, or_false, not_or] at hb
  exact hk b o hb.1 hb.2.2.1 hb.2.2.2.1 hb.2.2.2.2 e
 self := fun _ _ _ _ _ st h => wpAny_pyIter_zip st.1 h
theorem xW : bootBuiltins "enumerate" = some (.type "enumerate") := by decide +kernel
theorem Kv : bootBuiltins "zip" = some (.type "zip") := by decide +kernel
section
variable {X : Cx} {es : List Expr} {kt : Nat} {tp : Pos}
noncomputable def WP (K : PySem.W.Frag) (ta : TA) : TI := fun σ H R => ta σ H fun vs H1 => ∃ a, vs = [.ref a] /\ (∃ xs, SqL K H1 a xs) /\ R (Ite K a) H1
theorem VU {e : Expr} {ta : TA} {p pos : Pos} (hg : Gl X "enumerate") (hm : X.mg "enumerate" = none) (ha : PA X [e] ta) (hs : starEach [e] X.env = [(false, eval e X.env)] := by rfl) :
  PI X (.Tuple es kt tp) (.Call (.Name "enumerate" p) [e] [] pos) (WP X.K ta) := by
 intro pins s σ H R I h
 refine Call_ (kz I hg hm (xW) (PyProof.Rows.callWith_type1 (thn (ha pos pins s σ H _ I h) fun us s1 ⟨vs, H1, I1, r1, q1⟩ => ?_) hs rfl))
 obtain ⟨a, e, ⟨xs, hq⟩, q⟩ := q1
 subst e
 obtain ⟨u, rfl, ru⟩ := jS r1
 cases ru
 obtain ⟨its, rv, pl, hz⟩ := I1.list hq
 refine call_enumerate_list pl.isList fun h' he hit hsz hk => wpAny_pyIter_enum he ?_
 have I2 : Inv X pins σ H1 { s1 with heap := h' } := I1.kept (t' := s1.toks) hk
 refine ⟨s1.heap.objs.size + 1, [s1.heap.objs.size + 1, s1.heap.objs.size], _, _, H1, rfl, I2, yJ a _ _ (Nat.succ_ne_self _), ⟨⟨_, he⟩, hit⟩, fun b hb => ?_, q⟩
 have hb' : s1.heap.objs.size <= b := by
  simp only [List.mem_cons, List.not_mem_nil, or_false] at hb
  rcases hb with rfl | rfl
  ·exact Nat.le_succ _
  ·exact Nat.le_refl _
 exact I1.fpOk hb' (I1.hok.fresh hb')
end
theorem Xs {K : PySem.W.Frag} {a : Addr} {xs : List V} {g : TG} {tb : TS} {D : jJ} {σ : St} {H : Hp} (Pv : Nat -> St -> Hp -> Prop) (h0 : Pv 0 σ H) (hl : ∀ i σ H, i <= xs.length -> Pv i σ H -> SqL K H a xs)
  (hs : ∀ i x p σ H, xs[i]? = some x -> H p = none -> Pv i σ H -> g (.ref p) σ (upd H p (.tup [.int i, x])) fun σ2 H2 => tb { D with nx := Pv (i + 1), ct := Pv (i + 1), bk := D.nx } σ2 H2) (hd : ∀ σ H, Pv xs.length σ H -> D.nx σ H) :
  ∃ W : Nat -> Nat -> St -> Hp -> Prop, (∃ m, W 0 m σ H) /\ ∀ i m σ H, W i m σ H ->
   ((Ite K a).stop i H /\ D.nx σ H) \/ ((Ite K a).go i H /\ ∃ N : St -> Hp -> Prop, (∀ σ' H', N σ' H' -> ∃ m', m' < m /\ W (i + 1) m' σ' H') /\ ∀ x H', (Ite K a).yld i H x H' -> g x σ H' fun σ2 H2 => tb { D with nx := N, ct := N, bk := D.nx } σ2 H2) := by
 refine ⟨fun i m σ H => m = xs.length - i /\ i <= xs.length /\ Pv i σ H, ⟨xs.length, by simp, Nat.zero_le _, h0⟩, ?_⟩
 rintro i m σ H ⟨rfl, hi, p⟩
 have q := hl i σ H hi p
 by_cases hlt : i < xs.length
 ·refine .inr ⟨⟨xs, xs[i], q, by simp [hlt]⟩, Pv (i + 1), fun σ' H' p' => ⟨xs.length - (i + 1), by omega, rfl, hlt, p'⟩, fun x H' y => ?_⟩
  obtain ⟨pp, x', hp, rfl, y, rfl⟩ := y
  exact hs i x' pp σ _ (y xs q) hp p
 ·have e : i = xs.length := by omega
  subst e
  exact .inl ⟨⟨xs, q, Nat.le_refl _⟩, hd σ H p⟩
end L2
set_option Elab.async false
set_option linter.all false
set_option maxRecDepth 100000
set_option maxHeartbeats 4000000
namespace L2
open PySem PySem.Spec PyProof.Rows
noncomputable def Zu (p : Addr) (a b c : Int) : HO := .ext fun h => ∃ t u v, h.get? p = some { cls := .type "range", data := .fields #[.int a t, .int b u, .int c v] }
theorem BI {P : Program} {w : World} {H : Hp} {h : Heap} {p : Addr} {a b c : Int} {t u v : Tok} (e : h.get? p = some { cls := .type "range", data := .fields #[.int a t, .int b u, .int c v] }) : zL P w H h p (Zu p a b c) :=
 ⟨⟨t, u, v, e⟩, ⟨_, e⟩, fun h1 h2 ⟨t, u, v, q⟩ k => ⟨t, u, v, k _ q⟩⟩
noncomputable def qq (a c : Int) (n : Nat) : List Int := (List.range n).map fun (i : Nat) => a + (i : Int) * c
theorem zr (a c : Int) (n : Nat) : (qq a c n).length = n := by simp [qq]
theorem Ql {a c : Int} : ∀ {n : Nat} {acc : Array Value}, ItemsOf (fun (i : Nat) (v : Value) => ∃ t, v = Value.int (a + (i : Int) * c) t) acc n -> zD ((qq a c n).map V.int) acc.toList := by
 intro n acc ⟨hs, hi⟩
 have key : ∀ (k : Nat) (l : List Value), l.length = k -> (∀ (j : Nat) v, l[j]? = some v -> ∃ t, v = Value.int (a + (j : Int) * c) t) -> zD ((qq a c k).map V.int) l := by
  intro k
  induction k with
  | zero => intro l hl _; cases l with
   | nil => exact .nil
   | cons => simp at hl
  | succ k ih =>
   intro l hl hv
   obtain ⟨l', x, rfl⟩ : ∃ l' x, l = l' ++ [x] := ⟨l.dropLast, l.getLast (by intro e; rw [e] at hl; simp at hl), (List.dropLast_concat_getLast _).symm⟩
   have hl' : l'.length = k := by simpa using hl
   have e : (qq a c (k + 1)).map V.int = (qq a c k).map V.int ++ [.int (a + (k : Int) * c)] := by simp [qq, List.range_succ]
   rw [e]
   refine (ih l' hl' fun j v hj => hv j v ?_).append (.cons ?_ .nil)
   ·rw [List.getElem?_append_left (List.getElem?_eq_some_iff.mp hj).1]; exact hj
   ·obtain ⟨t, rfl⟩ := hv k x (by rw [List.getElem?_append_right (by omega), hl']; simp)
    exact ⟨t, rfl⟩
 exact key n acc.toList (by simpa using hs) fun j v hj => hi j v (by simpa using hj)
section
variable {X : Cx}
theorem xu : qN X (.type "range") (fun xs H Q => ∃ b : Int, xs = [.int b] /\ ∀ p, H p = none -> Q (.ref p) (upd H p (Zu p 0 b 1))) := by
 intro pins s σ H xs us Q I r h
 obtain ⟨b, rfl, q⟩ := h
 obtain ⟨u, rfl, t, rfl⟩ := jS r
 refine call_range_1 ⟨.ref s.heap.objs.size, _, I.laid (fun b o e => Heap.get?_push_of_some _ e) (Nat.le_refl _) ?_, rfl, q _ (I.hok.fresh (Nat.le_refl _))⟩
 exact BI (Heap.get?_push_size _ rfl)
theorem ki (hc : X.calm = true) : qN X (.type "list") (fun xs H Q => ∃ p a b c n, xs = [.ref p] /\ H p = some (Zu p a b c) /\ Builtin.Range.small a b c = true /\ Builtin.Range.rangeSize a b c = ((n : Nat) : Int) /\ n <= 100000 /\ ∀ l, H l = none -> Q (.ref l) (upd H l (.lst ((qq a c n).map V.int)))) := by
 intro pins s σ H xs us Q I r h
 obtain ⟨p, a, b, c, n, rfl, hp, hs, hn, hz, q⟩ := h
 obtain ⟨u, rfl, rx⟩ := jS r
 cases rx
 obtain ⟨⟨t, u, v, e⟩, _⟩ := (show zL X.prog X.w H s.heap p (Zu p a b c) from I.hok _ _ hp)
 refine call_list_range (I.ok.hd hc) e hs hn (Nat.le_trans hz (by decide)) fun h' tk acc c' hk he hi => ?_
 refine ⟨.ref s.heap.objs.size, _, I.laid hk (Nat.le_refl _) (show zL X.prog X.w _ h' _ (.lst ((qq a c n).map V.int)) from ⟨?_, acc.toList, c', Ql hi, by simpa using he⟩), rfl, q _ (I.hok.fresh (Nat.le_refl _))⟩
 rw [List.length_map, zr]
 exact Nat.le_trans hz (by decide)
end
end L2
set_option Elab.async false
set_option linter.all false
set_option maxRecDepth 100000
set_option maxHeartbeats 4000000
namespace L2
open PySem PySem.Spec PyProof.Rows
section
variable {X : Cx}
noncomputable def isT (t c : String) : Option Bool := if (Value.type t == Value.type c) = true then some true else if PySem.W.kitMeta c = true then (fastBuiltinMro t).map (·.contains (Value.type c)) else none
theorem QQ (K : PySem.W.Frag) (t c : String) : PySem.W.kitOne K (.type t) (.type c) = isT t c := rfl
noncomputable def yr (t : String) : List String -> Option Bool
 | [] => some false
 | c :: r => match isT t c with
  | some true => some true
  | some false => yr t r
  | none => none
theorem Zs (K : PySem.W.Frag) (t : String) : ∀ cs : List String, PySem.W.kitAny K (.type t) (cs.map Value.type) = yr t cs
 | [] => rfl
 | c :: r => by
  show (match PySem.W.kitOne K (.type t) (.type c) with | some true => some true | some false => PySem.W.kitAny K (.type t) (r.map Value.type) | none => none) = _
  rw [QQ, Zs K t r]; rfl
theorem qK : qN X (.builtin "isinstance") (fun xs H Q => ∃ x t c b, xs = [x, .ty c] /\ jL X.K H x (.type t) /\ isT t c = some b /\ Q (.bl b) H) := by
 intro pins s σ H xs us Q I r h
 obtain ⟨x, t, c, b, rfl, ty, e, q⟩ := h
 obtain ⟨u, v, rfl, ru, rv⟩ := yO r
 cases rv
 exact JU I ru ty (by rw [QQ]; exact e) fun tk => ⟨.bl b, H, I.tok _, rfl, q⟩
theorem wJ : ∀ {cs : List String} {us : List Value}, zD (cs.map V.ty) us -> us = cs.map Value.type
 | [], _, .nil => rfl
 | c :: cs, _, .cons r t => by rw [wJ t]; cases r; rfl
theorem yX : qN X (.builtin "isinstance") (fun xs H Q => ∃ x t p cs b, xs = [x, .ref p] /\ H p = some (.tup (List.map V.ty cs)) /\ jL X.K H x (.type t) /\ yr t cs = some b /\ Q (.bl b) H) := by
 intro pins s σ H xs us Q I r h
 obtain ⟨x, t, p, cs, b, rfl, hp, ty, e, q⟩ := h
 obtain ⟨u, v, rfl, rx, rv⟩ := yO r
 cases rv
 obtain ⟨_, its, rt, o, ho, hc, ⟨n, hd⟩, _⟩ := (show zL X.prog X.w H s.heap p (.tup (List.map V.ty cs)) from I.hok _ _ hp)
 obtain ⟨oc, od, odt, osl⟩ := o
 simp only at hc hd
 subst hc hd
 have e' : PySem.W.kitAny X.K (.type t) its = some b := by rw [wJ rt, Zs]; exact e
 have fin : ∀ tk, EP X pins σ Q (.bool b) { s with toks := tk } := fun tk => ⟨.bl b, H, I.tok _, rfl, q⟩
 cases ty with
 | non => cases (show u = Value.none from rx); exact PySem.W.kia_tup PySem.W.kitx_none I.kIn True.intro ho e' (fun z => nomatch z) fin
 | bl y => cases (show u = Value.bool y from rx); exact PySem.W.kia_tup PySem.W.kitx_bool I.kIn True.intro ho e' (fun z => nomatch z) fin
 | int i => obtain ⟨t, q⟩ := (show ∃ t, u = Value.int i t from rx); cases q; exact PySem.W.kia_tup PySem.W.kitx_int I.kIn True.intro ho e' (fun z => nomatch z) fin
 | str y => obtain ⟨t, q⟩ := (show ∃ t, u = Value.str y t from rx); cases q; exact PySem.W.kia_tup PySem.W.kitx_str I.kIn True.intro ho e' (fun z => nomatch z) fin
 | flt y => obtain ⟨t, q⟩ := (show ∃ t, u = Value.float y t from rx); cases q; exact PySem.W.kia_tup PySem.W.kitx_float I.kIn True.intro ho e' (fun z => nomatch z) fin
 | @lst a xs ea =>
  cases (show u = Value.ref a from rx)
  obtain ⟨_, _, n, _, h1⟩ := (show zL X.prog X.w H s.heap a (.lst xs) from I.hok a _ ea)
  exact PySem.W.kia_tup PySem.W.kitx_list I.kIn ⟨_, h1, rfl⟩ ho e' (fun z => nomatch z) fin
 | @frz a ob xs ea =>
  cases (show u = Value.ref a from rx)
  obtain ⟨_, _, _, n, _, h1⟩ := (show zL X.prog X.w H s.heap a (.frz ob (.lst xs)) from I.hok a _ ea)
  exact PySem.W.kia_tup PySem.W.kitx_list I.kIn ⟨_, h1, rfl⟩ ho e' (fun z => nomatch z) fin
 | @tup a xs ea =>
  cases (show u = Value.ref a from rx)
  obtain ⟨_, _, _, p⟩ := (show zL X.prog X.w H s.heap a (.tup xs) from I.hok a _ ea)
  obtain ⟨o, h1, h2, _⟩ := p
  exact PySem.W.kia_tup PySem.W.kitx_tuple I.kIn ⟨o, h1, h2⟩ ho e' (fun z => nomatch z) fin
 | @dK a kvs ea =>
  cases (show u = Value.ref a from rx)
  obtain ⟨_, _, vs, _, p⟩ := (show zL X.prog X.w H s.heap a (.dK kvs) from I.hok a _ ea)
  obtain ⟨o, es, ep, h1, h2, _⟩ := p
  exact PySem.W.kia_tup PySem.W.kitx_dict I.kIn ⟨o, h1, h2.1⟩ ho e' (fun z => nomatch z) fin
 | @dT a kvs ea =>
  cases (show u = Value.ref a from rx)
  obtain ⟨_, _, xs, _, o, es, ep, h1, h2, _⟩ := (show zL X.prog X.w H s.heap a (.dT kvs) from I.hok a _ ea)
  exact PySem.W.kia_tup PySem.W.kitx_dict I.kIn ⟨o, h1, h2.1⟩ ho e' (fun z => nomatch z) fin
theorem Qd {lo : Int} {n : Nat} {g : TG} {tt : TT} {te : TE} {Q : VK} {τ : St} {H1 : Hp} {D : Addr} (Pv : Nat -> St -> Hp -> Prop) (h0 : Pv 0 τ (upd H1 D (.lst [])))
  (hs : ∀ i τ H, i < n -> Pv i τ H -> g (.int (lo + i)) τ H fun τ2 H3 => tt τ2 H3 fun b H4 => if b = true then te τ2 H4 fun v H5 => ∃ ys, H5 D = some (.lst ys) /\ ys.length < sizeLine /\ Pv (i + 1) τ2 (upd H5 D (.lst (ys ++ [v]))) else Pv (i + 1) τ2 H4)
  (hd : ∀ τ H, Pv n τ H -> Q (.ref D) H) :
  ∃ W : Nat -> Nat -> St -> Hp -> Prop, (∃ m, W 0 m τ (upd H1 D (.lst []))) /\ ∀ i m τ H2, W i m τ H2 ->
   ((Itr lo n).stop i H2 /\ Q (.ref D) H2) \/ ((Itr lo n).go i H2 /\ ∃ N : St -> Hp -> Prop, (∀ τ' H', N τ' H' -> ∃ m', m' < m /\ W (i + 1) m' τ' H') /\ ∀ x H', (Itr lo n).yld i H2 x H' -> g x τ H' fun τ2 H3 => tt τ2 H3 fun b H4 =>
    if b = true then te τ2 H4 fun v H5 => ∃ ys, H5 D = some (.lst ys) /\ ys.length < sizeLine /\ N τ2 (upd H5 D (.lst (ys ++ [v]))) else N τ2 H4) := by
 refine ⟨fun i m τ H => m = n - i /\ i <= n /\ Pv i τ H, ⟨n, by simp, Nat.zero_le _, h0⟩, ?_⟩
 rintro i m τ H ⟨rfl, hi, p⟩
 by_cases hlt : i < n
 ·refine .inr ⟨hlt, Pv (i + 1), fun σ' H' p' => ⟨n - (i + 1), by omega, rfl, hlt, p'⟩, fun x H' y => ?_⟩
  obtain ⟨e, y⟩ := y
  subst e y
  exact hs i τ _ hlt p
 ·have e : i = n := by omega
  subst e
  exact .inl ⟨Nat.le_refl _, hd τ H p⟩
theorem De {K : PySem.W.Frag} {a : Addr} {xs : List V} {g : TG} {tt : TT} {te : TE} {Q : VK} {τ : St} {H1 : Hp} {D : Addr} (Pv : Nat -> St -> Hp -> Prop) (h0 : Pv 0 τ (upd H1 D (.lst []))) (hl : ∀ i τ H, i <= xs.length -> Pv i τ H -> SqL K H a xs)
  (hs : ∀ i x τ H, xs[i]? = some x -> Pv i τ H -> g x τ H fun τ2 H3 => tt τ2 H3 fun b H4 => if b = true then te τ2 H4 fun v H5 => ∃ ys, H5 D = some (.lst ys) /\ ys.length < sizeLine /\ Pv (i + 1) τ2 (upd H5 D (.lst (ys ++ [v]))) else Pv (i + 1) τ2 H4)
  (hd : ∀ τ H, Pv xs.length τ H -> Q (.ref D) H) :
  ∃ W : Nat -> Nat -> St -> Hp -> Prop, (∃ m, W 0 m τ (upd H1 D (.lst []))) /\ ∀ i m τ H2, W i m τ H2 ->
   ((Itl K a).stop i H2 /\ Q (.ref D) H2) \/ ((Itl K a).go i H2 /\ ∃ N : St -> Hp -> Prop, (∀ τ' H', N τ' H' -> ∃ m', m' < m /\ W (i + 1) m' τ' H') /\ ∀ x H', (Itl K a).yld i H2 x H' -> g x τ H' fun τ2 H3 => tt τ2 H3 fun b H4 =>
    if b = true then te τ2 H4 fun v H5 => ∃ ys, H5 D = some (.lst ys) /\ ys.length < sizeLine /\ N τ2 (upd H5 D (.lst (ys ++ [v]))) else N τ2 H4) := by
 refine ⟨fun i m τ H => m = xs.length - i /\ i <= xs.length /\ Pv i τ H, ⟨xs.length, by simp, Nat.zero_le _, h0⟩, ?_⟩
 rintro i m τ H ⟨rfl, hi, p⟩
 have q := hl i τ H hi p
 by_cases hlt : i < xs.length
 ·refine .inr ⟨⟨xs, xs[i], q, by simp [hlt]⟩, Pv (i + 1), fun σ' H' p' => ⟨xs.length - (i + 1), by omega, rfl, hlt, p'⟩, fun x H' y => ?_⟩
  obtain ⟨e, y⟩ := y
  subst e
  exact hs i x τ _ (y xs q) p
 ·have e : i = xs.length := by omega
  subst e
  exact .inl ⟨⟨xs, q, Nat.le_refl _⟩, hd τ H p⟩
theorem JS {K : PySem.W.Frag} {a : Addr} {xs : List V} {g : TG} {tt : TT} {te : TE} {Q : VK} {τ : St} {H1 : Hp} {D : Addr} (Pv : Nat -> St -> Hp -> Prop) (h0 : Pv 0 τ (upd H1 D (.lst []))) (hl : ∀ i τ H, i <= xs.length -> Pv i τ H -> SqL K H a xs)
  (hs : ∀ i x p τ H, xs[i]? = some x -> H p = none -> Pv i τ H -> g (.ref p) τ (upd H p (.tup [.int i, x])) fun τ2 H3 => tt τ2 H3 fun b H4 => if b = true then te τ2 H4 fun v H5 => ∃ ys, H5 D = some (.lst ys) /\ ys.length < sizeLine /\ Pv (i + 1) τ2 (upd H5 D (.lst (ys ++ [v]))) else Pv (i + 1) τ2 H4)
  (hd : ∀ τ H, Pv xs.length τ H -> Q (.ref D) H) :
  ∃ W : Nat -> Nat -> St -> Hp -> Prop, (∃ m, W 0 m τ (upd H1 D (.lst []))) /\ ∀ i m τ H2, W i m τ H2 ->
   ((Ite K a).stop i H2 /\ Q (.ref D) H2) \/ ((Ite K a).go i H2 /\ ∃ N : St -> Hp -> Prop, (∀ τ' H', N τ' H' -> ∃ m', m' < m /\ W (i + 1) m' τ' H') /\ ∀ x H', (Ite K a).yld i H2 x H' -> g x τ H' fun τ2 H3 => tt τ2 H3 fun b H4 =>
    if b = true then te τ2 H4 fun v H5 => ∃ ys, H5 D = some (.lst ys) /\ ys.length < sizeLine /\ N τ2 (upd H5 D (.lst (ys ++ [v]))) else N τ2 H4) := by
 refine ⟨fun i m τ H => m = xs.length - i /\ i <= xs.length /\ Pv i τ H, ⟨xs.length, by simp, Nat.zero_le _, h0⟩, ?_⟩
 rintro i m τ H ⟨rfl, hi, p⟩
 have q := hl i τ H hi p
 by_cases hlt : i < xs.length
 ·refine .inr ⟨⟨xs, xs[i], q, by simp [hlt]⟩, Pv (i + 1), fun σ' H' p' => ⟨xs.length - (i + 1), by omega, rfl, hlt, p'⟩, fun x H' y => ?_⟩
  obtain ⟨pp, x', hp, rfl, y, rfl⟩ := y
  exact hs i x' pp τ _ (y xs q) hp p
 ·have e : i = xs.length := by omega
  subst e
  exact .inl ⟨⟨xs, q, Nat.le_refl _⟩, hd τ H p⟩
end
end L2
set_option Elab.async false
set_option linter.all false
set_option maxRecDepth 100000
set_option maxHeartbeats 4000000
namespace L2
open PySem PySem.Spec PyProof.Rows
noncomputable def At (K : PySem.W.Frag) (mg : Str -> Option Value) (x : Str) (st : Stmt) : Prop := ∃ f fd, Fun K x x st f fd /\ mg x = some (.ref f)
noncomputable def Df (P : Program) (w : World) (K : PySem.W.Frag) (mg : Str -> Option Value) (base : Heap) (x : Str) (ps : List Str) (k : Nat) (sp : Sp) : Prop :=
 ∃ f fd, kf P w K mg base CX0 k f fd ps sp /\ y9 K fd ps [] /\ PySem.W.keepIn K (.ref f) = true /\ mg x = some (.ref f) /\ ∃ oc od osl, K.lookup f = some ⟨oc, od, .func fd, osl⟩
theorem Df.mono {P : Program} {w : World} {K : PySem.W.Frag} {mg : Str -> Option Value} {base : Heap} {x : Str} {ps : List Str} {j k : Nat} {sp : Sp} (D : Df P w K mg base x ps j sp) (h : j <= k) : Df P w K mg base x ps k sp :=
 let ⟨f, fd, F, r⟩ := D
 ⟨f, fd, F.mono h, r⟩
section
variable {X : Cx} {k : Nat} {x : Str} {ps : List Str} {sp : Sp} {p pos : Pos} {e : Expr} {es : List Expr} {t : TA}
theorem zq (D : Df X.prog X.w X.K X.mg X.base x ps k sp) (hr : jk k X.A) (hg : Gl X x) (ha : PA X (e :: es) t) (hdb : (x == ("__debug__" : Str)) = false := by decide)
  (he : starEach (e :: es) X.env = (false, eval e X.env) :: starEach es X.env := by rfl) (hpl : (backTo pos (starEach es X.env)).any (·.1) = false := by rfl) : PE X (.Call (.Name x p) (e :: es) [] pos) (QL sp [] E0 t) := by
 obtain ⟨f, fd, F, b, kp, m, _⟩ := D
 exact Y9 F hr hg m kp b .nil DS ha hdb he hpl
end
theorem jt {P : Program} {w : World} {K : PySem.W.Frag} {mg : Str -> Option Value} {base : Heap} {x : Str} {st : Stmt} {N ps : List Str} {k : Nat} {sp : Sp} (a : At K mg x st) (S : zt N ps (zf st))
  (hb : ∀ (kV doc pm : Value) (an : Option Addr) (cdv ct : Value) (us : List Value), us.length = ps.length -> bindArgs (PySem.W.fnOf x x (jb st) (qA st) (zf st) .none kV doc pm an cdv ct) ⟨us, []⟩ = pure (ps.zip us))
  (len : ∀ vs H Q E, sp vs H Q E -> vs.length = ps.length)
  (hbody : ∀ (f : Addr) (cdv : Value) (A : Around) (outer : List Env) (s : Shared) (H : Hp) (vs : List V) (Q : VK) (E : XK), jk k (A.deeper (envOfC x (zf st) s.heap.objs.size f cdv)) -> sp vs H Q E ->
   ∃ t, PSs (v7 CX0 P w K mg base N x (zf st) f cdv A outer s H E).nox (qA st) t /\ t { nx := fun _ H' => Q .non H', rt := Q } (qo N vs) H) : Df P w K mg base x ps (k + 1) sp := by
 obtain ⟨f, fd, F, m⟩ := a
 obtain ⟨oc, od, kV, doc, pm, an, cdv, ct, osl, _, lk, _⟩ := id F.ex
 exact ⟨f, fd, F.ok S len fun cdv A outer s H vs Q E => hbody f cdv A outer s H vs Q E, F.binds hb, F.kp, m, oc, od, osl, lk⟩
theorem at_mk {K : PySem.W.Frag} {mg : Str -> Option Value} {h : Heap} {x : Str} {st : Stmt} {f : Addr} {oc : Value} {od an : Option Addr} {osl : Array (Option Value)} {kV doc pm cdv ct : Value} (X : K.In h) (G : h.Ns mainGlobals mg) (a : PySem.W.nsIn K mainGlobals x = some (some (.ref f)))
  (l : K.lookup f = some ⟨oc, od, .func (PySem.W.fnOf x x (jb st) (qA st) (zf st) .none kV doc pm an cdv ct), osl⟩) (c : PySem.W.codeIn K cdv x = true) (k : PySem.W.keepIn K (.ref f) = true) : At K mg x st := ⟨f, _, YR l c k, PySem.W.mg_of X G a⟩
theorem Df.fn {P : Program} {w : World} {K : PySem.W.Frag} {mg : Str -> Option Value} {base : Heap} {x : Str} {ps : List Str} {k : Nat} {sp : Sp} {f : Addr} {fd : FuncData} {oc : Value} {od : Option Addr} {osl : Array (Option Value)} (D : Df P w K mg base x ps k sp) (m : mg x = some (.ref f)) (l : K.lookup f = some ⟨oc, od, .func fd, osl⟩) : kf P w K mg base CX0 k f fd ps sp := by
 obtain ⟨f', fd', F, _, _, m', oc', od', osl', l'⟩ := D
 rw [m] at m'
 cases m'
 rw [l] at l'
 cases l'
 exact F
structure Blt (mg : Str -> Option Value) : Prop where
 len : mg "len" = none
 range : mg "range" = none
 list : mg "list" = none
 tuple : mg "tuple" = none
 int : mg "int" = none
 bool : mg "bool" = none
 str : mg "str" = none
 abs : mg "abs" = none
 divmod : mg "divmod" = none
 enumerate : mg "enumerate" = none
 zip : mg "zip" = none
 sorted : mg "sorted" = none
 max : mg "max" = none
 min : mg "min" = none
 isinstance : mg "isinstance" = none
 all : mg "all" = none
theorem blt_mk {K : PySem.W.Frag} {mg : Str -> Option Value} {h : Heap} (X : K.In h) (G : h.Ns mainGlobals mg) (z1 : PySem.W.nsIn K mainGlobals "len" = some none) (z2 : PySem.W.nsIn K mainGlobals "range" = some none) (z3 : PySem.W.nsIn K mainGlobals "list" = some none) (z4 : PySem.W.nsIn K mainGlobals "tuple" = some none) (z5 : PySem.W.nsIn K mainGlobals "int" = some none) (z6 : PySem.W.nsIn K mainGlobals "bool" = some none) (z7 : PySem.W.nsIn K mainGlobals "str" = some none) (z8 : PySem.W.nsIn K mainGlobals "abs" = some none)
  (z9 : PySem.W.nsIn K mainGlobals "divmod" = some none) (z10 : PySem.W.nsIn K mainGlobals "enumerate" = some none) (z11 : PySem.W.nsIn K mainGlobals "zip" = some none) (z12 : PySem.W.nsIn K mainGlobals "sorted" = some none) (z13 : PySem.W.nsIn K mainGlobals "max" = some none) (z14 : PySem.W.nsIn K mainGlobals "min" = some none) (z15 : PySem.W.nsIn K mainGlobals "isinstance" = some none) (z16 : PySem.W.nsIn K mainGlobals "all" = some none) : Blt mg :=
 ⟨PySem.W.mg_none_of X G z1, PySem.W.mg_none_of X G z2, PySem.W.mg_none_of X G z3, PySem.W.mg_none_of X G z4, PySem.W.mg_none_of X G z5, PySem.W.mg_none_of X G z6, PySem.W.mg_none_of X G z7, PySem.W.mg_none_of X G z8, PySem.W.mg_none_of X G z9, PySem.W.mg_none_of X G z10, PySem.W.mg_none_of X G z11, PySem.W.mg_none_of X G z12, PySem.W.mg_none_of X G z13, PySem.W.mg_none_of X G z14, PySem.W.mg_none_of X G z15, PySem.W.mg_none_of X G z16⟩
theorem zG : bootBuiltins "isinstance" = some (.builtin "isinstance") := by decide +kernel
theorem ZE : bootBuiltins "abs" = some (.builtin "abs") := by decide +kernel
theorem Kt : bootBuiltins "divmod" = some (.builtin "divmod") := by decide +kernel
theorem Ay : bootBuiltins "max" = some (.builtin "max") := by decide +kernel
theorem zK : bootBuiltins "len" = some (.builtin "len") := by decide +kernel
theorem jD : bootBuiltins "list" = some (.type "list") := by decide +kernel
theorem Zr : bootBuiltins "tuple" = some (.type "tuple") := by decide +kernel
theorem yt : bootBuiltins "int" = some (.type "int") := by decide +kernel
theorem QB : bootBuiltins "bool" = some (.type "bool") := by decide +kernel
theorem Z8 : bootBuiltins "str" = some (.type "str") := by decide +kernel
theorem Zz : bootBuiltins "range" = some (.type "range") := by decide +kernel
noncomputable def Kp (bs : List Addr) (H H' : Hp) : Prop := ∀ c o, c ∉ bs -> H c = some o -> H' c = some o
theorem Kp.refl {bs : List Addr} {H : Hp} : Kp bs H H := fun _ _ _ h => h
theorem Kp.trans {bs : List Addr} {H H1 H2 : Hp} (a : Kp bs H H1) (b : Kp bs H1 H2) : Kp bs H H2 := fun c o n h => b c o n (a c o n h)
theorem Kp.new {bs : List Addr} {H : Hp} {p : Addr} (o : HO) (h : H p = none) : Kp bs H (upd H p o) := fun c u _ q => by rw [zm (zp q h)]; exact q
theorem Kp.set {bs : List Addr} {H : Hp} {p : Addr} (o : HO) (h : p ∈ bs) : Kp bs H (upd H p o) := fun c u n q => by have hne : c ≠ p := (fun e => n (by rw [e]; exact h)); rw [zm hne]; exact q
theorem Kp.mono {bs bs' : List Addr} {H H' : Hp} (a : Kp bs H H') (h : ∀ b ∈ bs, b ∈ bs') : Kp bs' H H' := fun c o n q => a c o (fun z => n (h c z)) q
theorem Kp.free {H H' : Hp} (e : Kp [] H H') {l : Addr} (h : H' l = Option.none) : H l = Option.none := by
 cases q : H l with
 | none => rfl
 | some o => rw [e l o (by simp) q] at h; cases h
noncomputable def Bx (H : Hp) (b : Addr) (N : Nat) : Prop := ∃ x y z : Int, H b = some (.lst [.int x, .int y, .int z]) /\ 0 <= x /\ 0 <= y /\ y < 2147483648 /\ 0 <= z /\ z <= N
noncomputable abbrev il (ns : List Int) : HO := .lst (ns.map V.int)
end L2
set_option Elab.async false
set_option linter.all false
set_option maxRecDepth 100000
set_option maxHeartbeats 4000000
namespace L2
open PySem PySem.Spec PyProof.Rows
theorem cxK {CX : CXT} {P : Program} {w : World} {K : PySem.W.Frag} {mg : Str -> Option Value} {base : Heap} {N : List Str} {qual : Str} {scope : Scope} {f : Addr} {cd : Value} {A : Around} {outer : List Env} {s : Shared} {H : Hp} {E : XK} :
  (v7 CX P w K mg base N qual scope f cd A outer s H E).K = K := rfl
noncomputable def Va (J : It) (g : TG) (tb : TS) (D : jJ) (σ : St) (H : Hp) : Prop := ∃ W : Nat -> Nat -> St -> Hp -> Prop, (∃ m, W 0 m σ H) /\ ∀ i m σ H, W i m σ H ->
 (J.stop i H /\ D.nx σ H) \/ (J.go i H /\ ∃ N : St -> Hp -> Prop, (∀ σ' H', N σ' H' -> ∃ m', m' < m /\ W (i + 1) m' σ' H') /\ ∀ x H', J.yld i H x H' -> g x σ H' fun σ2 H2 => tb { D with nx := N, ct := N, bk := D.nx } σ2 H2)
theorem Jm {wi : TI} {g : TG} {tb : TS} {D : jJ} {σ : St} {H : Hp} : Bq wi g tb D σ H = wi σ H (fun J H1 => Va J g tb D σ H1) := rfl
noncomputable def wz (J : It) (g : TG) (tt : TT) (te : TE) (D : Addr) (Q : VK) (τ : St) (H : Hp) : Prop := ∃ W : Nat -> Nat -> St -> Hp -> Prop, (∃ m, W 0 m τ H) /\ ∀ i m τ H2, W i m τ H2 ->
 (J.stop i H2 /\ Q (.ref D) H2) \/ (J.go i H2 /\ ∃ N : St -> Hp -> Prop, (∀ τ' H', N τ' H' -> ∃ m', m' < m /\ W (i + 1) m' τ' H') /\ ∀ x H', J.yld i H2 x H' -> g x τ H' fun τ2 H3 => tt τ2 H3 fun b H4 =>
  if b = true then te τ2 H4 fun v H5 => ∃ ys, H5 D = some (.lst ys) /\ ys.length < sizeLine /\ N τ2 (upd H5 D (.lst (ys ++ [v]))) else N τ2 H4)
theorem YZ {ts : List Nat} {wi : TI} {g : TG} {tt : TT} {te : TE} {σ : St} {H : Hp} {Q : VK} :
  Zk ts wi g tt te σ H Q = wi σ H (fun J H1 => ∀ D, H1 D = none -> wz J g tt te D Q (clr ts σ) (upd H1 D (.lst []))) := rfl
theorem Zw {lo : Int} {n : Nat} {g : TG} {tb : TS} {D : jJ} {σ : St} {H : Hp} (Pv : Nat -> St -> Hp -> Prop) (h0 : Pv 0 σ H)
  (hs : ∀ i σ H, i < n -> Pv i σ H -> g (.int (lo + i)) σ H fun σ2 H2 => tb { D with nx := Pv (i + 1), ct := Pv (i + 1), bk := D.nx } σ2 H2) (hd : ∀ σ H, Pv n σ H -> D.nx σ H) : Va (Itr lo n) g tb D σ H := Km Pv h0 hs hd
theorem Vj {K : PySem.W.Frag} {a : Addr} {xs : List V} {g : TG} {tb : TS} {D : jJ} {σ : St} {H : Hp} (Pv : Nat -> St -> Hp -> Prop) (h0 : Pv 0 σ H) (hl : ∀ i σ H, i <= xs.length -> Pv i σ H -> SqL K H a xs)
  (hs : ∀ i x σ H, xs[i]? = some x -> Pv i σ H -> g x σ H fun σ2 H2 => tb { D with nx := Pv (i + 1), ct := Pv (i + 1), bk := D.nx } σ2 H2) (hd : ∀ σ H, Pv xs.length σ H -> D.nx σ H) : Va (Itl K a) g tb D σ H := K2 Pv h0 hl hs hd
theorem VP {K : PySem.W.Frag} {a : Addr} {xs : List V} {g : TG} {tb : TS} {D : jJ} {σ : St} {H : Hp} (Pv : Nat -> St -> Hp -> Prop) (h0 : Pv 0 σ H) (hl : ∀ i σ H, i <= xs.length -> Pv i σ H -> SqL K H a xs)
  (hs : ∀ i x p σ H, xs[i]? = some x -> H p = none -> Pv i σ H -> g (.ref p) σ (upd H p (.tup [.int i, x])) fun σ2 H2 => tb { D with nx := Pv (i + 1), ct := Pv (i + 1), bk := D.nx } σ2 H2) (hd : ∀ σ H, Pv xs.length σ H -> D.nx σ H) : Va (Ite K a) g tb D σ H := Xs Pv h0 hl hs hd
theorem Xa {lo : Int} {n : Nat} {g : TG} {tt : TT} {te : TE} {Q : VK} {τ : St} {H1 : Hp} {D : Addr} (Pv : Nat -> St -> Hp -> Prop) (h0 : Pv 0 τ (upd H1 D (.lst [])))
  (hs : ∀ i τ H, i < n -> Pv i τ H -> g (.int (lo + i)) τ H fun τ2 H3 => tt τ2 H3 fun b H4 => if b = true then te τ2 H4 fun v H5 => ∃ ys, H5 D = some (.lst ys) /\ ys.length < sizeLine /\ Pv (i + 1) τ2 (upd H5 D (.lst (ys ++ [v]))) else Pv (i + 1) τ2 H4)
  (hd : ∀ τ H, Pv n τ H -> Q (.ref D) H) : wz (Itr lo n) g tt te D Q τ (upd H1 D (.lst [])) := Qd Pv h0 hs hd
theorem VG {K : PySem.W.Frag} {a : Addr} {xs : List V} {g : TG} {tt : TT} {te : TE} {Q : VK} {τ : St} {H1 : Hp} {D : Addr} (Pv : Nat -> St -> Hp -> Prop) (h0 : Pv 0 τ (upd H1 D (.lst []))) (hl : ∀ i τ H, i <= xs.length -> Pv i τ H -> SqL K H a xs)
  (hs : ∀ i x p τ H, xs[i]? = some x -> H p = none -> Pv i τ H -> g (.ref p) τ (upd H p (.tup [.int i, x])) fun τ2 H3 => tt τ2 H3 fun b H4 => if b = true then te τ2 H4 fun v H5 => ∃ ys, H5 D = some (.lst ys) /\ ys.length < sizeLine /\ Pv (i + 1) τ2 (upd H5 D (.lst (ys ++ [v]))) else Pv (i + 1) τ2 H4)
  (hd : ∀ τ H, Pv xs.length τ H -> Q (.ref D) H) : wz (Ite K a) g tt te D Q τ (upd H1 D (.lst [])) := JS Pv h0 hl hs hd
end L2
set_option Elab.async false
set_option linter.all false
set_option maxRecDepth 100000
set_option maxHeartbeats 4000000
namespace L2
open PySem PySem.Spec PyProof.Rows
theorem kc {X : Cx} : qN X (.type "int") (fun xs H Q => ∃ k, xs = [.bl k] /\ Q (.int (if k then 1 else 0)) H) := by
 intro pins s σ H xs us Q I r h
 exact JT pins s σ H xs us Q I r (.inr h)
theorem Y7 {X : Cx} : PIp X .FloorDiv (rI YN fun i j => .int (i / j)) := KQ
end L2
set_option Elab.async false
set_option linter.all false
set_option maxRecDepth 100000
set_option maxHeartbeats 4000000
namespace L2
open PySem PySem.Spec PyProof.Rows
noncomputable def zl (n : Nat) (ns : List Int) : Prop := ns.length = n /\ ns.Nodup /\ ∀ x ∈ ns, 0 <= x /\ x < (n : Int)
theorem yC : ∀ (n : Nat) (l : List Int), l.Nodup -> (∀ x ∈ l, 0 <= x /\ x < (n : Int)) -> l.length <= n
 | 0, l, _, h => by
  cases l with
  | nil => exact Nat.le_refl _
  | cons x r => have := h x List.mem_cons_self; omega
 | n + 1, l, hn, h => by
  have ih := yC n (l.erase (n : Int)) (hn.erase _) (fun x hx => by
   have h1 := h x (List.mem_of_mem_erase hx)
   have h2 : x ≠ (n : Int) := fun e => by
    subst e
    exact (hn.not_mem_erase) hx
   omega)
  by_cases hm : (n : Int) ∈ l
  ·rw [List.length_erase_of_mem hm] at ih; omega
  ·rw [List.erase_of_not_mem hm] at ih; omega
theorem zl.surj {n : Nat} {ns : List Int} (h : zl n ns) {x : Int} (h0 : 0 <= x) (h1 : x < n) : x ∈ ns := by
 obtain ⟨l, d, b⟩ := h
 refine Classical.byContradiction fun hm => ?_
 have := yC n (x :: ns) (List.nodup_cons.mpr ⟨hm, d⟩) (fun y hy => by
  rcases List.mem_cons.mp hy with rfl | hy
  ·exact ⟨h0, h1⟩
  ·exact b y hy)
 rw [List.length_cons, l] at this
 omega
theorem zl.getD {n : Nat} {ns : List Int} (h : zl n ns) {i : Nat} (hi : i < n) : 0 <= ns.getD i 0 /\ ns.getD i 0 < n := by
 obtain ⟨l, d, b⟩ := h
 have hi' : i < ns.length := by omega
 have e : ns.getD i 0 = ns[i] := by rw [List.getD_eq_getElem?_getD, List.getElem?_eq_getElem hi']; rfl
 rw [e]
 exact b _ (List.getElem_mem hi')
theorem zT {ns : List Int} {i : Nat} (h : i < ns.length) : ns.getD i 0 = ns[i] := by rw [List.getD_eq_getElem?_getD, List.getElem?_eq_getElem h]; rfl
theorem zl.inj {n : Nat} {ns : List Int} (h : zl n ns) {i j : Nat} (hi : i < n) (hj : j < n) (e : ns.getD i 0 = ns.getD j 0) : i = j := by
 obtain ⟨l, d, b⟩ := h
 rw [zT (by omega), zT (by omega)] at e
 exact (List.getElem_inj d).mp e
theorem qU {n : Nat} {ns : List Int} (l : ns.length = n) (b : ∀ i, i < n -> 0 <= ns.getD i 0 /\ ns.getD i 0 < n) (j : ∀ i k, i < n -> k < n -> ns.getD i 0 = ns.getD k 0 -> i = k) : zl n ns := by
 refine ⟨l, ?_, fun x hx => ?_⟩
 ·rw [List.nodup_iff_pairwise_ne, List.pairwise_iff_getElem]
  intro i k hi hk hik e
  have := j i k (by omega) (by omega) (by rw [zT hi, zT hk]; exact e)
  omega
 ·obtain ⟨i, hi, rfl⟩ := List.mem_iff_getElem.mp hx
  have := b i (by omega)
  rwa [zT hi] at this
theorem zl.ex {n : Nat} {ns : List Int} (h : zl n ns) {j : Nat} (hj : j < n) : ∃ i, i < n /\ ns.getD i 0 = (j : Int) := by
 have hm := h.surj (x := (j : Int)) (by omega) (by omega)
 obtain ⟨i, hi, e⟩ := List.mem_iff_getElem.mp hm
 exact ⟨i, by rw [<- h.1]; exact hi, by rw [zT hi]; exact e⟩
theorem qm (n : Nat) {i : Nat} (h : i < n) : (qq 0 1 n).getD i 0 = (i : Int) := by
 rw [zT (by rw [zr]; exact h)]
 simp [qq]
theorem zl.rng (n : Nat) : zl n (qq 0 1 n) := by
 refine qU (zr 0 1 n) (fun i hi => ?_) (fun i k hi hk e => ?_)
 ·rw [qm n hi]; omega
 ·rw [qm n hi, qm n hk] at e; omega
theorem Kp.drop1 {bs : List Addr} {H H' : Hp} {p : Addr} {o : HO} (hp : H p = none) (k : Kp (p :: bs) (upd H p o) H') : Kp bs H H' := fun c u n h => by
 have hne : c ≠ p := zp h hp
 refine k c u ?_ ((zm hne).trans h)
 intro hm
 rcases List.mem_cons.mp hm with e | e
 ·exact hne e
 ·exact n e
theorem Xn {ns : List Int} {i j : Nat} {v : Int} (h : i < ns.length) : (ns.set i v).getD j 0 = if j = i then v else ns.getD j 0 := by
 rw [List.getD_eq_getElem?_getD, List.getElem?_set]
 by_cases e : i = j
 ·subst e; simp [h]
 ·rw [if_neg e, if_neg (Ne.symm e), List.getD_eq_getElem?_getD]
theorem jI {xs ys : List Int} (l : xs.length = ys.length) (h : ∀ i, i < xs.length -> xs.getD i 0 = ys.getD i 0) : xs = ys := by
 refine List.ext_getElem l fun i h1 h2 => ?_
 have := h i h1
 rwa [zT h1, zT h2] at this
noncomputable def Qr : V -> V -> V -> Hp -> (Hp -> Prop) -> Prop := fun o i v H Q => ∃ k, i = .int k /\ ∃ p, o = .ref p /\ ∃ xs, H p = some (.lst xs) /\ ∃ j, ixN xs.length k = some j /\ Q (upd H p (.lst (xs.set j v)))
section
variable {X : Cx}
theorem j8 : MtR X "list.append" vW := yQ
theorem ja {es : List Expr} {k : Nat} {t : TGs} {pos : Pos} {K : PySem.W.Frag} (n : Nat) (h : X.K = K) (hc : X.calm = true) (hs : PGs X es t) (hn : (assignEach es X.env).length = n := by rfl) (hst : (assignEach es X.env).findIdx? (·.1) = none := by rfl) : PG X (.Tuple es k pos) (Vt K n t) := h ▸ AM hc hs hn hst
theorem qR : Ba X Qr := by
 intro pins s σ H o i v ov iv u Q I ro ri rv h
 obtain ⟨k, e1, p, e2, xs, h1, j, h2, q⟩ := h
 exact Xc pins s σ H o i v ov iv u Q I ro ri rv ⟨p, xs, k, j, e2, e1, h1, h2, q⟩
theorem kl {K : PySem.W.Frag} (h : X.K = K) : qN X (.builtin "len") (fun xs H Q => ∃ p ys, xs = [.ref p] /\ (SqL K H p ys \/ SqT K H p ys) /\ Q (.int ys.length) H) := h ▸ zk
end
end L2
set_option Elab.async false
set_option linter.all false
set_option maxRecDepth 100000
set_option maxHeartbeats 4000000
namespace L2
open PySem PySem.Spec PyProof.Rows
noncomputable def aft (one other : List Int) : List Int := one.map fun x => other.getD x.toNat 0
theorem zH (a b : List Int) : (aft a b).length = a.length := List.length_map _
theorem zY {a : List Int} (b : List Int) {i : Nat} (h : i < a.length) : (aft a b).getD i 0 = b.getD (a.getD i 0).toNat 0 := by
 rw [zT (by rw [zH]; exact h), zT h]
 exact List.getElem_map _
theorem zl.aft {n : Nat} {a b : List Int} (ha : zl n a) (hb : zl n b) : zl n (aft a b) := by
 refine qU (by rw [zH, ha.1]) (fun i hi => ?_) (fun i k hi hk e => ?_)
 ·rw [zY b (by rw [ha.1]; exact hi)]
  have := ha.getD hi
  exact hb.getD (by omega)
 ·rw [zY b (by rw [ha.1]; exact hi), zY b (by rw [ha.1]; exact hk)] at e
  have h1 := ha.getD hi
  have h2 := ha.getD hk
  have := hb.inj (by omega) (by omega) e
  exact ha.inj hi hk (by omega)
theorem yR {n : Nat} {a b c : List Int} (ha : zl n a) (hb : b.length = n) : aft (aft a b) c = aft a (aft b c) := by
 refine jI (by rw [zH, zH, zH]) fun i hi => ?_
 rw [zH, zH, ha.1] at hi
 have h1 := ha.getD hi
 rw [zY c (by rw [zH, ha.1]; exact hi), zY b (by rw [ha.1]; exact hi), zY _ (by rw [ha.1]; exact hi), zY c (by omega)]
theorem jw {n : Nat} {b : List Int} (hb : b.length = n) : aft (qq 0 1 n) b = b := by
 refine jI (by rw [zH, zr, hb]) fun i hi => ?_
 rw [zH, zr] at hi
 rw [zY b (by rw [zr]; exact hi), qm n hi, Int.toNat_natCast]
theorem ko {n : Nat} {a : List Int} (ha : zl n a) : aft a (qq 0 1 n) = a := by
 refine jI (by rw [zH]) fun i hi => ?_
 rw [zH, ha.1] at hi
 have h1 := ha.getD hi
 rw [zY _ (by rw [ha.1]; exact hi), qm n (by omega)]
 omega
noncomputable def qi (os bs : List Int) : Prop := bs.length = os.length /\ ∀ i, i < os.length -> bs.getD (os.getD i 0).toNat 0 = (i : Int)
theorem qi.at {n : Nat} {os bs : List Int} (ho : zl n os) (h : qi os bs) {j : Nat} (hj : j < n) : ∃ i : Nat, i < n /\ os.getD i 0 = (j : Int) /\ bs.getD j 0 = (i : Int) := by
 obtain ⟨i, hi, e⟩ := ho.ex hj
 refine ⟨i, hi, e, ?_⟩
 have := h.2 i (by rw [ho.1]; exact hi)
 rw [e, Int.toNat_natCast] at this
 exact this
theorem qi.ord {n : Nat} {os bs : List Int} (ho : zl n os) (h : qi os bs) : zl n bs := by
 refine qU (by rw [h.1, ho.1]) (fun j hj => ?_) (fun j k hj hk e => ?_)
 ·obtain ⟨i, hi, _, e⟩ := h.at ho hj
  rw [e]; omega
 ·obtain ⟨i, hi, e1, e2⟩ := h.at ho hj
  obtain ⟨i', hi', e1', e2'⟩ := h.at ho hk
  have : i = i' := by omega
  subst this
  omega
theorem qi.right {n : Nat} {os bs : List Int} (ho : zl n os) (h : qi os bs) : aft os bs = qq 0 1 n := by
 refine jI (by rw [zH, zr, ho.1]) fun i hi => ?_
 rw [zH] at hi
 rw [zY bs hi, h.2 i hi, qm n (by rw [<- ho.1]; exact hi)]
theorem qi.unique {n : Nat} {os bs cs : List Int} (ho : zl n os) (h : qi os bs) (hc : cs.length = n) (e : aft os cs = qq 0 1 n) : cs = bs := by
 refine jI (by rw [hc, h.1, ho.1]) fun j hj => ?_
 obtain ⟨i, hi, e1, e2⟩ := h.at ho (by omega : j < n)
 have := congrArg (fun l => l.getD i 0) e
 rw [zY cs (by rw [ho.1]; exact hi), e1, Int.toNat_natCast, qm n hi] at this
 rw [this, e2]
noncomputable def kR (os : List Int) (k : Nat) : Nat := ((List.range k).filter fun (i : Nat) => !decide (os.getD i 0 = (i : Int))).length
noncomputable def pwl (n : Nat) (b : List Int) : Nat -> List Int
 | 0 => qq 0 1 n
 | k + 1 => aft (pwl n b k) b
theorem qQ {n : Nat} {b : List Int} (hb : zl n b) : ∀ k, zl n (pwl n b k)
 | 0 => zl.rng n
 | k + 1 => (qQ hb k).aft hb
theorem xD {n : Nat} {b : List Int} (hb : zl n b) (j : Nat) : ∀ k, aft (pwl n b j) (pwl n b k) = pwl n b (j + k)
 | 0 => ko (qQ hb j)
 | k + 1 => by
  show aft (pwl n b j) (aft (pwl n b k) b) = aft (pwl n b (j + k)) b
  rw [<- yR (qQ hb j) (qQ hb k).1, xD hb j k]
theorem Q7 {n : Nat} {b : List Int} (hb : zl n b) : pwl n b 1 = b := jw hb.1
theorem QU {n : Nat} {b : List Int} (hb : zl n b) : ∀ k, pwl n (aft b b) k = pwl n b (2 * k)
 | 0 => rfl
 | k + 1 => by
  show aft (pwl n (aft b b) k) (aft b b) = _
  have e : aft b b = pwl n b 2 := by
   show aft b b = aft (aft (qq 0 1 n) b) b
   rw [jw hb.1]
  rw [QU hb k, e, xD hb]
  rfl
end L2
set_option Elab.async false
set_option linter.all false
set_option maxRecDepth 100000
set_option maxHeartbeats 4000000
namespace L2
open PySem PySem.Spec PyProof.Rows
section
variable {X : Cx}
noncomputable def Jo (K : PySem.W.Frag) : R2 := fun x y H Q => ∃ p xs i v, x = .ref p /\ y = .int i /\ (SqL K H p xs \/ SqT K H p xs) /\ atI xs i = some v /\ Q v H
theorem kn : IxR X (Jo X.K) := by
 intro value slice pins s σ H x y v u Q I rx ry h hs
 obtain ⟨p, xs, i, z, e1, e2, hq | hq, he, q⟩ := h
 ·exact qe value slice pins s σ H x y v u Q I rx ry ⟨p, xs, i, z, e1, e2, hq, he, q⟩ hs
 ·exact Qa value slice pins s σ H x y v u Q I rx ry ⟨p, xs, i, z, e1, e2, hq, he, q⟩ hs
theorem Qp {K : PySem.W.Frag} (h : X.K = K) : IxR X (Jo K) := h ▸ kn
theorem Bh : bootBuiltins "all" = some (.builtin "all") := by decide +kernel
theorem xT : ∀ {bs : List Bool} {us : List Value}, zD (bs.map V.bl) us -> us = bs.map Value.bool
 | [], _, h => by cases h; rfl
 | b :: bs, _, h => by
  cases h with
  | cons r rs => cases r; rw [xT rs]; rfl
theorem ZJ (bs : List Bool) : ((List.range bs.length).all fun i => (bs[i]?).getD true) = bs.all id := by
 rw [Bool.eq_iff_iff, List.all_eq_true, List.all_eq_true]
 constructor
 ·intro h x hx
  obtain ⟨i, hi, rfl⟩ := List.getElem_of_mem hx
  have := h i (by simpa using hi)
  simpa [List.getElem?_eq_getElem hi] using this
 ·intro h i hi
  have hi' : i < bs.length := by simpa using hi
  simpa [List.getElem?_eq_getElem hi'] using h bs[i] (List.getElem_mem hi')
theorem Kr (hc : X.calm = true) : qN X (.builtin "all") (fun xs H Q => ∃ p bs, xs = [.ref p] /\ SqL X.K H p (List.map V.bl bs) /\ Q (.bl (bs.all id)) H) := by
  intro pins s σ H xs us Q I r h
  obtain ⟨p, bs, rfl, hq, q⟩ := h
  obtain ⟨u, rfl, rx⟩ := jS r
  cases rx
  obtain ⟨its, rv, pl, hz⟩ := I.list hq
  have hu := xT rv
  subst hu
  have hlt : p < s.heap.objs.size := by obtain ⟨_, e, _⟩ := pl.isList; exact Heap.lt_size e
  refine call_all_walk (wpAny_pyIter_list pl.isList ?_)
  refine ⟨s.heap.objs.size, [s.heap.objs.size, p], [s.heap.objs.size], (bs.map Value.bool).toArray.size, _, _, fun i => (bs[i]?).getD true, rfl, Walks.list (A := X.A.in1) (I.ok.hd hc) _ p (Nat.ne_of_lt hlt) (bs.map Value.bool).toArray,
    ⟨⟨_, Heap.get?_push_size _ rfl, rfl, rfl⟩, pl.isList.push _⟩, fun i v s' Q' E' hP hQ => ?_, fun h' tk hk => ?_⟩
  · have hP' : (bs.map Value.bool)[i]? = some v := by simpa using hP
    rw [List.getElem?_map] at hP'
    cases e : bs[i]? with
    | none => rw [e] at hP'; cases hP'
    | some b =>
      rw [e] at hP'
      cases hP'
      simp only [e, Option.getD_some] at hQ
      exact wpAny_truthy_bool hQ
  · have e : ((List.range (bs.map Value.bool).toArray.size).all fun i => (bs[i]?).getD true) = bs.all id := by
      rw [List.size_toArray, List.length_map]; exact ZJ bs
    rw [e]
    refine ⟨.bl (bs.all id), H, I.turnedL (ch := []) (tk := tk) (fun b hb => nomatch hb) (fun b o _ eb => ?_), rfl, q⟩
    exact hk b o (fun hm => by rw [List.mem_singleton.mp hm] at eb; exact Nat.lt_irrefl _ (Heap.lt_size eb)) (Heap.get?_push_of_some _ eb)
end
end L2
set_option Elab.async false
set_option linter.all false
set_option maxRecDepth 100000
set_option maxHeartbeats 4000000
namespace L2
open PySem PySem.Spec PyProof.Rows
noncomputable def nxt (os : List Int) (p : Int) : Int := os.getD p.toNat 0
noncomputable def itn (os : List Int) : Nat -> Int -> Int
 | 0, p => p
 | k + 1, p => nxt os (itn os k p)
theorem qr {n : Nat} {os : List Int} (h : zl n os) {p : Int} (p0 : 0 <= p) (p1 : p < n) : ∀ k, 0 <= itn os k p /\ itn os k p < n
 | 0 => ⟨p0, p1⟩
 | k + 1 => by
  have := qr h p0 p1 k
  exact h.getD (by omega)
theorem jd (os : List Int) (p : Int) (b : Nat) : ∀ a, itn os (a + b) p = itn os a (itn os b p)
 | 0 => by rw [Nat.zero_add]; rfl
 | a + 1 => by
  rw [show a + 1 + b = (a + b) + 1 by omega]
  show nxt os (itn os (a + b) p) = nxt os (itn os a (itn os b p))
  rw [jd os p b a]
theorem VN {n : Nat} {os : List Int} (h : zl n os) {x y : Int} (x0 : 0 <= x) (x1 : x < n) (y0 : 0 <= y) (y1 : y < n) (e : nxt os x = nxt os y) : x = y := by
 have := h.inj (i := x.toNat) (j := y.toNat) (by omega) (by omega) e
 omega
theorem xK {n : Nat} {os : List Int} (h : zl n os) {x y : Int} (x0 : 0 <= x) (x1 : x < n) (y0 : 0 <= y) (y1 : y < n) : ∀ k, itn os k x = itn os k y -> x = y
 | 0, e => e
 | k + 1, e => by
  have bx := qr h x0 x1 k
  have by' := qr h y0 y1 k
  exact xK h x0 x1 y0 y1 k (VN h bx.1 bx.2 by'.1 by'.2 e)
theorem xJ {n : Nat} {os : List Int} (h : zl n os) {p : Int} (p0 : 0 <= p) (p1 : p < n) : ∃ M, 1 <= M /\ M <= n /\ itn os M p = p := by
 apply Classical.byContradiction
 intro hno
 have hp : ((List.range (n + 1)).map fun i => itn os i p).Nodup := by
  rw [List.Nodup, List.pairwise_map]
  refine List.Pairwise.imp_of_mem (R := fun a b => a < b) ?_ List.pairwise_lt_range
  intro a b ha hb hlt e
  have hb' : b < n + 1 := by simpa using hb
  refine hno ⟨b - a, by omega, by omega, ?_⟩
  have bb := qr h p0 p1 (b - a)
  refine (xK h p0 p1 bb.1 bb.2 a ?_).symm
  rw [<- jd, show a + (b - a) = b by omega]
  exact e
 have := yC n _ hp (fun x hx => by
  obtain ⟨i, _, rfl⟩ := List.mem_map.mp hx
  exact qr h p0 p1 i)
 rw [List.length_map, List.length_range] at this
 omega
noncomputable def qH (os : List Int) (p : Int) (m : Nat) (e : Int) : Prop := 1 <= m /\ e = itn os m p /\ e <= p /\ ∀ j, 1 <= j -> j < m -> p < itn os j p
theorem qH.uniq {os : List Int} {p : Int} {m m' : Nat} {e e' : Int} (h : qH os p m e) (h' : qH os p m' e') : m = m' /\ e = e' := by
 obtain ⟨a1, a2, a3, a4⟩ := h
 obtain ⟨b1, b2, b3, b4⟩ := h'
 have : m = m' := by
  rcases Nat.lt_trichotomy m m' with z | z | z
  ·have := b4 m a1 z; omega
  ·exact z
  ·have := a4 m' b1 z; omega
 subst this
 exact ⟨rfl, a2.trans b2.symm⟩
open Classical in
noncomputable def wkM (os : List Int) (p : Int) : Nat := if h : ∃ m, ∃ e, qH os p m e then Classical.choose h else 0
open Classical in
noncomputable def wkE (os : List Int) (p : Int) : Int := itn os (wkM os p) p
theorem qH.wkM {os : List Int} {p : Int} {m : Nat} {e : Int} (h : qH os p m e) : wkM os p = m := by
 have hx : ∃ m, ∃ e, qH os p m e := ⟨m, e, h⟩
 obtain ⟨e', h'⟩ := Classical.choose_spec hx
 unfold L2.wkM
 rw [dif_pos hx]
 exact (h'.uniq h).1
theorem qH.wkE {os : List Int} {p : Int} {m : Nat} {e : Int} (h : qH os p m e) : wkE os p = e := by
 unfold L2.wkE
 rw [h.wkM]
 exact h.2.1.symm
end L2
set_option Elab.async false
set_option linter.all false
set_option maxRecDepth 100000
set_option maxHeartbeats 4000000
namespace L2
open PySem PySem.Spec PyProof.Rows
end L2
set_option Elab.async false
set_option linter.all false
set_option maxRecDepth 100000
set_option maxHeartbeats 4000000
namespace L2
open PySem PySem.Spec PyProof.Rows
section
variable {P : Program} {w : World} {A : Around} {E : Value -> Shared -> Prop} {s : Shared} {j t : Addr} {i : Nat} {its : Array Value} {Q : Value -> Shared -> Prop}
theorem jA {x : Value} (hj : s.heap.IsTupleIter j t i) (ht : s.heap.IsTuple t its) (hx : its[i]? = some x) (hQ : ∀ h', h'.IsTupleIter j t (i + 1) -> Heap.SameBut j s.heap h' -> Q x { s with heap := h' }) : wpAny (model P w) A (Builtin.SmallTypes.nextOf (.ref j)) Q E s := by
 obtain ⟨o, ho, hc, hd⟩ := id hj
 obtain ⟨ot, hot, _, nt, hdt⟩ := ht
 unfold Builtin.SmallTypes.nextOf
 refine wpAny_bind (wpAny_callSpecial?_slot (name := Str.ofString "__next__") hj.typeIs F.slot_tuple_iterator_next (wpAny_call_entry F.slot_tuple_iterator_next hj.typeIs F.entry_tuple_iterator_next ?_ (F.args_tuple_iterator_next_1 _)))
 refine wpAny_bind (m := field (.ref j) 0) (wpAny_field ho hd (x := .ref t) rfl ?_); show wpAny _ _ (if (Value.ref t == Value.none) = true then _ else _) _ _ s; rw [if_neg (show ¬ ((Value.ref t == Value.none) = true) from Bool.false_ne_true)]
 refine wpAny_bind (m := field (.ref j) 1) (wpAny_field ho hd (x := .int i 0) rfl ?_); refine wpAny_bind (m := seqItems? (.ref t)) (wpAny_seqItems hot hdt ?_); simp only [Int.toNat_natCast, hx]
 refine wpAny_bind (wpAny_setField ho hd (by simp) (wpAny_pure ⟨x, rfl, wpAny_pure (hQ _ ⟨_, Heap.get?_update_self _ ho (Obj.isFreed_of_fields (Obj.data_mapFields hd _)), (Obj.cls_mapFields ..).trans hc, by rw [Obj.data_mapFields hd]; simp [rawInt]⟩ (Heap.SameBut.update ..))⟩))
theorem jK (hh : A.handled = none) (hj : s.heap.IsTupleIter j t i) (ht : s.heap.IsTuple t its) (hx : its[i]? = none) (hE : ∀ h' e, Heap.ExtBut j s.heap h' -> (∃ o, h'.get? e = some o /\ o.cls = .type "StopIteration") -> E (.ref e) { s with heap := h' }) : wpAny (model P w) A (Builtin.SmallTypes.nextOf (.ref j)) Q E s := by
 obtain ⟨o, ho, hc, hd⟩ := id hj
 obtain ⟨ot, hot, _, nt, hdt⟩ := ht
 unfold Builtin.SmallTypes.nextOf
 refine wpAny_bind (wpAny_callSpecial?_slot (name := Str.ofString "__next__") hj.typeIs F.slot_tuple_iterator_next (wpAny_call_entry F.slot_tuple_iterator_next hj.typeIs F.entry_tuple_iterator_next ?_ (F.args_tuple_iterator_next_1 _)))
 refine wpAny_bind (m := field (.ref j) 0) (wpAny_field ho hd (x := .ref t) rfl ?_); show wpAny _ _ (if (Value.ref t == Value.none) = true then _ else _) _ _ s; rw [if_neg (show ¬ ((Value.ref t == Value.none) = true) from Bool.false_ne_true)]
 refine wpAny_bind (m := field (.ref j) 1) (wpAny_field ho hd (x := .int i 0) rfl ?_); refine wpAny_bind (m := seqItems? (.ref t)) (wpAny_seqItems hot hdt ?_); simp only [Int.toNat_natCast, hx]
 refine wpAny_bind (wpAny_rule (wpAny_bind (wpAny_setField ho hd (by simp) ?_))); refine wpAny_bind (m := newExc (.type "StopIteration") []) ?_; simp only [newExc, newTuple]; refine wpAny_bind (wpAny_newObj_type ?_ (by size_fits)); refine wpAny_bind (m := firstArgMember _ _) (wpAny_of_eq (a := Value.none) (by first | rfl | (simp only [firstArgMember]; rfl)) ?_); refine wpAny_newObj_type ?_ (by size_fits); simp only [raiseNew]; refine wpAny_bind (wpAny_handled ?_)
 (first | rw [show A.in1.handled = none from hh] | rw [hh]); refine wpAny_bind (wpAny_pure (wpAny_throw ?_)); exact hE _ _ (((Heap.SameBut.update ..).extBut.push _).push _) ⟨_, Heap.get?_push_size _ rfl, rfl⟩
end
theorem JH {P : Program} {w : World} {A : Around} (hh : A.handled = none) (j t : Addr) (hne : t ≠ j) (its : Array Value) :
  Draws P w A j [j, t] its.size (fun i v => its[i]? = some v) (fun i h => h.IsTupleIter j t i /\ h.IsTuple t its) where
 live := fun _ _ st => let ⟨o, ho, _⟩ := st.1; ⟨o, ho⟩
 frame := fun _ _ _ st hk => ⟨st.1.at fun o e => hk j (by simp) o e, let ⟨o, ho, r⟩ := st.2; ⟨o, hk t (by simp) o ho, r⟩⟩
 item := fun i s Q E hi st hQ => by
  refine jA st.1 st.2 (x := its[i]) (by simp [hi]) fun h' hit' hs' => ?_
  exact hQ _ h' s.toks (by simp [hi]) ⟨hit', let ⟨o, ho, r⟩ := st.2; ⟨o, (hs'.2 t hne).trans ho, r⟩⟩ hs'
 done := fun s Q E st hE => jK hh st.1 st.2 (by simp) hE
open AutoSeq1 (wpAny_loadPart') in
theorem Kd (l : Addr) (its : Array Value) (n : Nat) (dct : Option Addr) (sl : Array (Option Value)) :
  Meets (Builtin.«enumerate.__new__» ⟨[.type "enumerate", .ref l], []⟩) (fun _ R s => s.heap.get? l = some { cls := .type "tuple", dict := dct, data := .seq its n, slots := sl } /\ R (.ok (.ret (.ref (s.heap.push { cls := .type "tuple_iterator", data := .fields #[.ref l, .int 0 0] }).objs.size))) { s with heap := (s.heap.push { cls := .type "tuple_iterator", data := .fields #[.ref l, .int 0 0] }).push { cls := .type "enumerate", data := .fields #[.none, .bool false, .ref s.heap.objs.size, rawInt 0, .none, .none] } }) :=
 .of_wp fun prog w A R s h => by
  obtain ⟨hp, g, d, tk, os⟩ := s
  obtain ⟨hl, h⟩ := h
  have hsub := sub_enumerate
  have hT : Heap.IsTuple (Shared.heap ⟨hp, g, d, tk, os⟩) l its := ⟨_, hl, rfl, n, rfl⟩
  wp_walk using wpAny_loadPart' hl
  refine wpAny_stack_any fun st => wpAny_pure ?_
  split
  ·rename_i c _ _ _ _ _
   cases (c == Value.type "enumerate")
   ·wp_walk using wpAny_loadPart' hl, wpAny_pyIter_tuple hT; exact ⟨_, rfl, h⟩
   ·wp_walk using wpAny_loadPart' hl, wpAny_pyIter_tuple hT; exact ⟨_, rfl, h⟩
  ·wp_walk using wpAny_loadPart' hl, wpAny_pyIter_tuple hT; exact ⟨_, rfl, h⟩
theorem ZL {P : Program} {w : World} {A : Around} {E : Value -> Shared -> Prop} {s : Shared} {l : Addr} {its : Array Value} {Q : Value -> Shared -> Prop} (hT : s.heap.IsTuple l its)
  (h : ∀ h', IsEnum h' (s.heap.objs.size + 1) s.heap.objs.size 0 .none -> h'.IsTupleIter s.heap.objs.size l 0 -> (∀ b o, s.heap.get? b = some o -> h'.get? b = some o) -> Q (.ref (s.heap.objs.size + 1)) { s with heap := h' }) :
  wpAny (model P w) A (call (.type "enumerate") [.ref l]) Q E s := by
 obtain ⟨⟨c, dct, dt, sl⟩, hl, hc, n, hd⟩ := hT
 replace hc : c = .type "tuple" := hc
 replace hd : dt = .seq its n := hd
 subst hc hd
 refine callType_new F.called_enumerate (by decide) (F.typeCall_enumerate_1 _) (F.newCall_enumerate_1 _) (fun obj => F.args_object_init_2 obj _) F.entry_enumerate_new (Kd l its n dct sl) ⟨hl, ?_⟩
 have hz : (s.heap.push { cls := .type "tuple_iterator", data := .fields #[.ref l, .int 0 0] }).objs.size = s.heap.objs.size + 1 := Heap.size_push ..
 show _ /\ _
 rw [hz]
 have he : IsEnum ((s.heap.push { cls := .type "tuple_iterator", data := .fields #[.ref l, .int 0 0] }).push { cls := .type "enumerate", data := .fields #[.none, .bool false, .ref s.heap.objs.size, rawInt 0, .none, .none] }) (s.heap.objs.size + 1) s.heap.objs.size 0 .none := by
  have hg := Heap.get?_push_size (s.heap.push { cls := .type "tuple_iterator", data := .fields #[.ref l, .int 0 0] }) (o := { cls := .type "enumerate", data := .fields #[.none, .bool false, .ref s.heap.objs.size, rawInt 0, .none, .none] }) rfl
  rw [hz] at hg; exact hg
 exact ⟨⟨_, he, rfl⟩, h _ he ⟨_, Heap.get?_push_of_some _ (Heap.get?_push_size _ rfl), rfl, rfl⟩ fun b o x => Heap.get?_push_of_some _ (Heap.get?_push_of_some _ x)⟩
theorem Jz {P : Program} {w : World} {A : Around} {E : Value -> Shared -> Prop} {s : Shared} {e j t : Addr} {i : Nat} {its : Array Value} {old : Value} {Q : Option Value -> Shared -> Prop} (hh : A.handled = none)
  (he : IsEnum s.heap e j i old) (hj : s.heap.IsTupleIter j t i) (ht : s.heap.IsTuple t its) (hx : its[i]? = none) (hQ : ∀ h', Heap.ExtBut j s.heap h' -> Q none { s with heap := h' }) : wpAny (model P w) A (pyNext (.ref e)) Q E s := by
 have hT : s.TypeIs (.ref e) "enumerate" := ⟨_, he, rfl⟩
 unfold pyNext
 refine wpAny_bind (wpAny_attempt (wpAny_callSpecial?_slot (name := Str.ofString "__next__") hT F.slot_enumerate_next (wpAny_call_entry F.slot_enumerate_next hT F.entry_enumerate_next ?_ (F.args_enumerate_next_1 _))))
 refine wpAny_bind (m := field (.ref e) 2) (wpAny_field he rfl (x := .ref j) rfl ?_); refine wpAny_bind (jK hh hj ht hx fun h' x he' hx' => ?_)
 obtain ⟨o, ho, hc⟩ := hx'
 refine wpAny_bind (wpAny_isInstance (T := "StopIteration") (b := true) ⟨o, ho, hc⟩ isSubtype_stop ?_); exact wpAny_pure (hQ _ he')
noncomputable def V7 (K : PySem.W.Frag) (a : Addr) : It :=
 ⟨fun i H => ∃ xs x, SqT K H a xs /\ xs[i]? = some x, fun i H y H' => ∃ p x, H p = none /\ y = .ref p /\ (∀ xs, SqT K H a xs -> xs[i]? = some x) /\ H' = upd H p (.tup [.int i, x]), fun i H => ∃ xs, SqT K H a xs /\ xs.length <= i⟩
theorem ZP {P : Program} {w : World} {K : PySem.W.Frag} {es : List Expr} {kt : Nat} {tp : Pos} (a e it : Addr) (hei : e ≠ it) (hea : e ≠ a) (hai : a ≠ it) : Zt P w K (.Tuple es kt tp) (V7 K a) [e, it] e (fun i h => (∃ old, IsEnum h e it (i : Nat) old) /\ h.IsTupleIter it a i) where
 mem := by simp
 obj := fun i h st b hb => by
  obtain ⟨⟨old, he⟩, ⟨o, e1, c, d⟩⟩ := st
  rcases List.mem_cons.mp hb with rfl | hb
  ·exact ⟨_, he, fun v z => by have z' : Data.fields _ = Data.cell v := z; cases z'⟩
  ·have e2 : b = it := by simpa using hb
   subst e2
   exact ⟨o, e1, fun v z => by rw [d] at z; cases z⟩
 keep := fun i h h' st k => by
  obtain ⟨⟨old, he⟩, st⟩ := st
  exact ⟨⟨old, k e (by simp) _ he⟩, st.at fun o e => k it (by simp) o e⟩
 item := by
  intro X hP hw hK hc i pins s σ H E I hf st hg
  subst hP hw hK
  obtain ⟨⟨old, he⟩, st⟩ := st
  obtain ⟨xs, x, hq, hx⟩ := hg
  obtain ⟨its, rv, p, hz⟩ := I.tuple hq
  obtain ⟨u, hu, ru⟩ := rv.get hx
  have hlt : i < its.toArray.size := by
   have := (List.getElem?_eq_some_iff.mp hu).1
   simpa using this
  refine wpAny_pyNext_enum_itemD (JH (A := X.A.in1) (I.ok.hd hc) it a hai its.toArray) he ⟨st, p⟩ hlt hei (by simp [hei, hea]) fun x' h1 tk hP heo hit1 ht1 hz1 hk1 => ?_
  have hxu : x' = u := by
   have h1' : its[i]? = some x' := by simpa using hP
   rw [hu] at h1'; cases h1'; rfl
  subst hxu
  refine ⟨.ref s.heap.objs.size, rfl, wpAny_letOwnedTupleGo_enum heo fun h2 he2 hs2 => ?_⟩
  replace hs2 : Heap.SameBut e h1 h2 := hs2
  have elt : e < s.heap.objs.size := Heap.lt_size he
  have ht2 := (hs2.2 _ (Nat.ne_of_gt elt)).trans ht1
  have I2 : Inv X pins σ (upd H s.heap.objs.size (.tup [.int i, x])) { s with heap := h2, toks := tk + 1 } := by
   refine I.yieldTup (us := [.int i tk, x']) hf (fun b o hb q => ?_) (Nat.le_refl _) ht2 (.cons ⟨_, rfl⟩ (.cons ru .nil)) (by show 2 <= sizeLine; decide)
   have n1 : b ≠ e := fun z => hb (by simp [z])
   have n2 : b ≠ it := fun z => hb (by simp [z])
   exact (hs2.2 b n1).trans (hk1 b o n1 n2 q)
  refine ⟨.ref s.heap.objs.size, _, I2, rfl, ⟨s.heap.objs.size, x, I.hok.fresh (Nat.le_refl _), rfl, fun ys hy => by rw [I.tuple_inj hy hq]; exact hx, rfl⟩, ⟨⟨_, by simpa using he2⟩, hit1.1.extBut hs2.extBut (Ne.symm hei)⟩, fun b hb => ?_⟩
  have hlt : b < s.heap.objs.size := by
   rcases List.mem_cons.mp hb with rfl | hb
   ·exact elt
   ·have e2 : b = it := by simpa using hb
    subst e2
    obtain ⟨o, e1, _⟩ := st
    exact Heap.lt_size e1
  rw [zm (Nat.ne_of_lt hlt)]
  exact (hf b hb).1
 done := by
  intro X hP hw hK hc i pins s σ H E I hf st hg
  subst hP hw hK
  obtain ⟨⟨old, he⟩, st⟩ := st
  obtain ⟨xs, hq, hx⟩ := hg
  obtain ⟨its, rv, p, hz⟩ := I.tuple hq
  obtain ⟨f0, f1, f2, f3, f4, f5⟩ := hf it (by simp)
  have hl := rv.length
  exact Jz (I.ok.hd hc) he st p (by simp; omega) fun h' eb => ⟨rfl, I.turned (t' := s.toks) (fun b o hb e => eb b o hb e) f0 f1 f3 f4 f5⟩
 self := fun _ _ _ _ _ st h => by
  obtain ⟨⟨old, he⟩, _⟩ := st
  exact wpAny_pyIter_enum he h
section
variable {X : Cx} {es : List Expr} {kt : Nat} {tp : Pos}
noncomputable def vV (K : PySem.W.Frag) (ta : TA) : TI := fun σ H R => ta σ H fun vs H1 => ∃ a, vs = [.ref a] /\ (((∃ xs, SqL K H1 a xs) /\ R (Ite K a) H1) \/ ((∃ xs, SqT K H1 a xs) /\ R (V7 K a) H1))
theorem xn {e : Expr} {ta : TA} {p pos : Pos} (hg : Gl X "enumerate") (hm : X.mg "enumerate" = none) (ha : PA X [e] ta) (hs : starEach [e] X.env = [(false, eval e X.env)] := by rfl) :
  PI X (.Tuple es kt tp) (.Call (.Name "enumerate" p) [e] [] pos) (vV X.K ta) := by
 intro pins s σ H R I h
 refine Call_ (kz I hg hm (xW) (PyProof.Rows.callWith_type1 (thn (ha pos pins s σ H _ I h) fun us s1 ⟨vs, H1, I1, r1, q1⟩ => ?_) hs rfl))
 obtain ⟨a, e, q⟩ := q1
 subst e
 obtain ⟨u, rfl, ru⟩ := jS r1
 cases ru
 have hb' : ∀ b ∈ [s1.heap.objs.size + 1, s1.heap.objs.size], s1.heap.objs.size <= b := by
  intro b hb
  simp only [List.mem_cons, List.not_mem_nil, or_false] at hb
  omega
 rcases q with ⟨⟨xs, hq⟩, q⟩ | ⟨⟨xs, hq⟩, q⟩
 ·obtain ⟨its, rv, pl, hz⟩ := I1.list hq
  refine call_enumerate_list pl.isList fun h' he hit hsz hk => wpAny_pyIter_enum he ?_
  have I2 : Inv X pins σ H1 { s1 with heap := h' } := I1.kept (t' := s1.toks) hk
  exact ⟨s1.heap.objs.size + 1, [s1.heap.objs.size + 1, s1.heap.objs.size], _, _, H1, rfl, I2, yJ a _ _ (Nat.succ_ne_self _), ⟨⟨_, he⟩, hit⟩, fun b hb => I1.fpOk (hb' b hb) (I1.hok.fresh (hb' b hb)), q⟩
 ·obtain ⟨its, rv, pl, hz⟩ := I1.tuple hq
  have alt : a < s1.heap.objs.size := by obtain ⟨o, e, _⟩ := pl; exact Heap.lt_size e
  refine ZL pl fun h' he hit hk => wpAny_pyIter_enum he ?_
  have I2 : Inv X pins σ H1 { s1 with heap := h' } := I1.kept (t' := s1.toks) hk
  exact ⟨s1.heap.objs.size + 1, [s1.heap.objs.size + 1, s1.heap.objs.size], _, _, H1, rfl, I2, ZP a (s1.heap.objs.size + 1) s1.heap.objs.size (Nat.succ_ne_self _) (Nat.ne_of_gt (Nat.lt_succ_of_lt alt)) (Nat.ne_of_lt alt), ⟨⟨_, he⟩, hit⟩, fun b hb => I1.fpOk (hb' b hb) (I1.hok.fresh (hb' b hb)), q⟩
end
theorem KB {K : PySem.W.Frag} {H H' : Hp} {a : Addr} {xs : List V} (h : SqT K H a xs) (e : Kp [] H H') : SqT K H' a xs := by
 rcases h with (h | ⟨o, h⟩) | h
 ·exact .inl (.inl (e _ _ (by simp) h))
 ·exact .inl (.inr ⟨o, e _ _ (by simp) h⟩)
 ·exact .inr h
theorem XC {K : PySem.W.Frag} {H H' : Hp} {a : Addr} {xs : List V} (h : SqL K H a xs) (e : Kp [] H H') : SqL K H' a xs := by
 rcases h with (h | ⟨o, h⟩) | h
 ·exact .inl (.inl (e _ _ (by simp) h))
 ·exact .inl (.inr ⟨o, e _ _ (by simp) h⟩)
 ·exact .inr h
end L2
set_option Elab.async false
set_option linter.all false
set_option maxRecDepth 100000
set_option maxHeartbeats 4000000
namespace L2
open PySem PySem.Spec PyProof.Rows
theorem qi.same {n : Nat} {os bs cs : List Int} (ho : zl n os) (h : qi os bs) (h' : qi os cs) : cs = bs := qi.unique ho h (h'.ord ho).1 (h'.right ho)
noncomputable def ME (t : TE) : Prop := ∀ σ H Q Q', (∀ v H1, Q v H1 -> Q' v H1) -> t σ H Q -> t σ H Q'
noncomputable def MT (t : TT) : Prop := ∀ σ H Q Q', (∀ v H1, Q v H1 -> Q' v H1) -> t σ H Q -> t σ H Q'
noncomputable def MR (r : R2) : Prop := ∀ x y H Q Q', (∀ z H1, Q z H1 -> Q' z H1) -> r x y H Q -> r x y H Q'
theorem vZ {i : Nat} : ME (vR i) := fun _ _ _ _ hq ⟨v, e, h⟩ => ⟨v, e, hq _ _ h⟩
theorem DA {r : R2} {ta tb : TE} (hr : MR r) (ha : ME ta) (hb : ME tb) : ME (tOp r ta tb) := fun _ _ _ _ hq h => ha _ _ _ _ (fun _ _ h1 => hb _ _ _ _ (fun _ _ h2 => hr _ _ _ _ _ hq h2) h1) h
theorem Vo {t : TE} (h : ME t) : MT (yL t) := fun _ _ _ _ hq q => h _ _ _ _ (fun _ _ ⟨k, e, z⟩ => ⟨k, e, hq _ _ z⟩) q
end L2
set_option Elab.async false
set_option linter.all false
set_option maxRecDepth 100000
set_option maxHeartbeats 4000000
namespace L2
open PySem PySem.Spec PyProof.Rows
theorem yA {p : Nat -> Prop} : ∀ n, p n -> ∃ m, p m /\ ∀ j, j < m -> ¬ p j := by
 intro n
 induction n using Nat.strongRecOn with
 | _ n ih =>
  intro h
  by_cases hx : ∃ j, j < n /\ p j
  ·obtain ⟨j, hj, pj⟩ := hx
   exact ih j hj pj
  ·exact ⟨n, h, fun j hj pj => hx ⟨j, hj, pj⟩⟩
noncomputable def qP (os : List Int) (p : Int) (m : Nat) : Prop := 1 <= m /\ itn os m p = p /\ ∀ j, 1 <= j -> j < m -> itn os j p ≠ p
theorem qP.uniq {os : List Int} {p : Int} {m m' : Nat} (h : qP os p m) (h' : qP os p m') : m = m' := by
 obtain ⟨a1, a3, a4⟩ := h
 obtain ⟨b1, b3, b4⟩ := h'
 rcases Nat.lt_trichotomy m m' with z | z | z
 ·exact absurd a3 (b4 m a1 z)
 ·exact z
 ·exact absurd b3 (a4 m' b1 z)
theorem qX {n : Nat} {os : List Int} (h : zl n os) {p : Int} (p0 : 0 <= p) (p1 : p < n) : ∃ m, qP os p m /\ m <= n := by
 obtain ⟨M, h1, h2, h3⟩ := xJ h p0 p1
 obtain ⟨m, ⟨m1, m2⟩, m3⟩ := yA (p := fun k => 1 <= k /\ itn os k p = p) M ⟨h1, h3⟩
 refine ⟨m, ⟨m1, m2, fun j j1 jm e => m3 j jm ⟨j1, e⟩⟩, ?_⟩
 rcases Nat.lt_or_ge M m with z | z
 ·exact absurd ⟨h1, h3⟩ (m3 M z)
 ·omega
open Classical in
noncomputable def per (os : List Int) (p : Int) : Nat := if h : ∃ m, qP os p m then Classical.choose h else 0
theorem qP.per {os : List Int} {p : Int} {m : Nat} (h : qP os p m) : per os p = m := by
 have hx : ∃ m, qP os p m := ⟨m, h⟩
 unfold L2.per
 rw [dif_pos hx]
 exact (Classical.choose_spec hx).uniq h
noncomputable def itl (os : List Int) (p : Int) (k : Nat) : List Int := (List.range k).map fun i => itn os i p
theorem wQ (os : List Int) (p : Int) (k : Nat) : itl os p (k + 1) = itl os p k ++ [itn os k p] := by
 unfold itl; rw [List.range_succ, List.map_append]; rfl
theorem zP (os : List Int) (p : Int) (k : Nat) : (itl os p k).length = k := by simp [itl]
theorem jc {os : List Int} {p : Int} {k : Nat} {x : Int} : x ∈ itl os p k ↔ ∃ i, i < k /\ itn os i p = x := by
 unfold itl
 rw [List.mem_map]
 constructor
 ·rintro ⟨i, hi, e⟩
  exact ⟨i, by simpa using hi, e⟩
 ·rintro ⟨i, hi, e⟩
  exact ⟨i, by simpa using hi, e⟩
noncomputable def zB (os : List Int) (p : Int) : List Int := itl os p (per os p)
noncomputable def Rch (os : List Int) (q x : Int) : Prop := ∃ k, itn os k q = x
theorem Rch.refl {os : List Int} {p : Int} : Rch os p p := ⟨0, rfl⟩
theorem Rch.trans {os : List Int} {p q r : Int} (a : Rch os p q) (b : Rch os q r) : Rch os p r := by
 obtain ⟨i, rfl⟩ := a
 obtain ⟨j, rfl⟩ := b
 exact ⟨j + i, jd os p i j⟩
theorem xH {os : List Int} {p : Int} {m : Nat} (h : itn os m p = p) : ∀ k, itn os (k * m) p = p
 | 0 => by rw [Nat.zero_mul]; rfl
 | k + 1 => by rw [Nat.succ_mul, Nat.add_comm, jd, xH h k, h]
theorem Q4 {os : List Int} {p : Int} {m : Nat} (h : itn os m p = p) (k : Nat) : itn os k p = itn os (k % m) p := by
 have e : k = k % m + (k / m) * m := by rw [Nat.mul_comm]; exact (Nat.mod_add_div k m).symm
 conv => lhs; rw [e]
 rw [jd, xH h]
theorem Rch.symm {n : Nat} {os : List Int} (h : zl n os) {p q : Int} (p0 : 0 <= p) (p1 : p < n) (a : Rch os p q) : Rch os q p := by
 obtain ⟨k, rfl⟩ := a
 obtain ⟨M, h1, _, h3⟩ := xJ h p0 p1
 refine ⟨(k + 1) * M - k, ?_⟩
 have hle : k <= (k + 1) * M := Nat.le_trans (Nat.le_succ k) (Nat.le_mul_of_pos_right _ h1)
 rw [<- jd, Nat.sub_add_cancel hle, xH h3]
theorem Rch.mem_ring {os : List Int} {p x : Int} {m : Nat} (h : qP os p m) : Rch os p x ↔ x ∈ itl os p m := by
 rw [jc]
 constructor
 ·rintro ⟨k, rfl⟩
  exact ⟨k % m, Nat.mod_lt _ h.1, (Q4 h.2.1 k).symm⟩
 ·rintro ⟨i, _, e⟩
  exact ⟨i, e⟩
noncomputable def kB (os : List Int) (p : Nat) : Prop := ∀ q : Nat, q < p -> ¬ Rch os (q : Int) (p : Int)
open Classical in
noncomputable def zg (os : List Int) : Nat -> List (List Int)
 | 0 => []
 | i + 1 => zg os i ++ if kB os i /\ 1 < per os (i : Int) then [zB os (i : Int)] else []
noncomputable def zZ (os : List Int) (i : Nat) (x : Int) : Prop := ∃ q : Nat, q < i /\ Rch os (q : Int) x
theorem zZ.succ {os : List Int} {i : Nat} {x : Int} : zZ os (i + 1) x ↔ zZ os i x \/ Rch os (i : Int) x := by
 constructor
 ·rintro ⟨q, hq, r⟩
  by_cases e : q = i
  ·subst e; exact .inr r
  ·exact .inl ⟨q, by omega, r⟩
 ·rintro (⟨q, hq, r⟩ | r)
  ·exact ⟨q, by omega, r⟩
  ·exact ⟨i, by omega, r⟩
theorem jr {os : List Int} {i : Nat} : kB os i ↔ ¬ zZ os i (i : Int) := by
 constructor
 ·rintro h ⟨q, hq, r⟩; exact h q hq r
 ·intro h q hq r; exact h ⟨q, hq, r⟩
theorem zZ.step {n : Nat} {os : List Int} (h : zl n os) {i : Nat} (hi : i < n) (hs : zZ os i (i : Int)) {x : Int} : zZ os (i + 1) x ↔ zZ os i x := by
 rw [zZ.succ]
 constructor
 ·rintro (z | z)
  ·exact z
  ·obtain ⟨q, hq, r⟩ := hs
   exact ⟨q, hq, r.trans z⟩
 ·exact .inl
theorem zZ.apart {n : Nat} {os : List Int} (h : zl n os) {i : Nat} (hi : i < n) (hs : ¬ zZ os i (i : Int)) {x : Int} (r : Rch os (i : Int) x) : ¬ zZ os i x := by
 rintro ⟨q, hq, rq⟩
 exact hs ⟨q, hq, rq.trans (r.symm h (by omega) (by omega))⟩
theorem qj (os : List Int) : ∀ i, (zg os i).length <= i
 | 0 => Nat.le_refl _
 | i + 1 => by
  unfold zg
  rw [List.length_append]
  have := qj os i
  split <;> simp <;> omega
theorem qG {n : Nat} {os : List Int} (h : zl n os) {r : List Int} : ∀ {i : Nat}, i <= n -> r ∈ zg os i -> 1 < r.length /\ r.length <= n
 | 0, _, hr => by simp [zg] at hr
 | i + 1, hi, hr => by
  unfold zg at hr
  rcases List.mem_append.mp hr with z | z
  ·exact qG h (by omega) z
  ·by_cases c : kB os i /\ 1 < per os (i : Int)
   ·rw [if_pos c] at z
    rw [List.mem_singleton.mp z]
    obtain ⟨m, hm, hle⟩ := qX h (p := (i : Int)) (by omega) (by omega)
    unfold zB
    rw [zP]
    have := hm.per
    omega
   ·rw [if_neg c] at z; cases z
end L2
set_option Elab.async false
set_option linter.all false
set_option maxRecDepth 100000
set_option maxHeartbeats 4000000
namespace L2
open PySem PySem.Spec PyProof.Rows
theorem Q5 {n : Nat} {os : List Int} (h : zl n os) {p : Int} (p0 : 0 <= p) (p1 : p < n) : ∃ m e, qH os p m e /\ m <= n := by
 obtain ⟨M, h1, h2, h3⟩ := xJ h p0 p1
 obtain ⟨m, ⟨m1, m2⟩, m3⟩ := yA (p := fun k => 1 <= k /\ itn os k p <= p) M ⟨h1, by omega⟩
 refine ⟨m, _, ⟨m1, rfl, m2, fun j j1 jm => ?_⟩, ?_⟩
 ·have := m3 j jm
  rcases (show p < itn os j p \/ itn os j p <= p by omega) with z | z
  ·exact z
  ·exact absurd ⟨j1, z⟩ this
 ·rcases Nat.lt_or_ge M m with z | z
  ·exact absurd ⟨h1, by omega⟩ (m3 M z)
  ·omega
theorem qH.per {os : List Int} {p : Int} {m : Nat} {e : Int} (h : qH os p m e) (he : e = p) : qP os p m :=
 ⟨h.1, by rw [<- h.2.1]; exact he, fun j j1 jm z => by have := h.2.2.2 j j1 jm; omega⟩
end L2
set_option Elab.async false
set_option linter.all false
set_option maxRecDepth 100000
set_option maxHeartbeats 4000000
namespace L2
open PySem PySem.Spec PyProof.Rows
noncomputable def iLT (K : PySem.W.Frag) (tl : TE) : TI := fun σ H R => tl σ H fun x H1 => ∃ a, x = .ref a /\ (((∃ xs, SqL K H1 a xs) /\ R (Itl K a) H1) \/ ((∃ xs, SqT K H1 a xs) /\ R (Itt K a) H1))
theorem kM {X : Cx} {tg : Expr} {l : Expr} {tl : TE} (hl : PE X l tl) : PI X tg l (iLT X.K tl) := by
 intro pins s σ H R I h
 refine thn (hl pins s σ H _ I h) fun v s1 ⟨x, H1, I1, r1, q1⟩ => ?_
 obtain ⟨a, e, q⟩ := q1
 subst e
 cases r1
 have fo : ∀ b ∈ [s1.heap.objs.size], xx X pins H1 b := fun b hb => by
  have e : b = s1.heap.objs.size := by simpa using hb
  subst e
  exact I1.fpOk (Nat.le_refl _) (I1.hok.fresh (Nat.le_refl _))
 rcases q with ⟨⟨xs, hq⟩, q⟩ | ⟨⟨xs, hq⟩, q⟩
 ·obtain ⟨its, rv, p, hz⟩ := I1.list hq
  refine wpAny_pyIter_list p.isList ?_
  exact ⟨s1.heap.objs.size, [s1.heap.objs.size], _, _, H1, rfl, I1.kept (t' := s1.toks) fun b o e => Heap.get?_push_of_some _ e, ve a _, ⟨_, Heap.get?_push_size _ rfl, rfl, rfl⟩, fo, q⟩
 ·obtain ⟨its, rv, p, hz⟩ := I1.tuple hq
  refine wpAny_pyIter_tuple (show s1.heap.IsTuple a its.toArray from p) ?_
  exact ⟨s1.heap.objs.size, [s1.heap.objs.size], _, _, H1, rfl, I1.kept (t' := s1.toks) fun b o e => Heap.get?_push_of_some _ e, ZY a _, ⟨_, Heap.get?_push_size _ rfl, rfl, rfl⟩, fo, q⟩
theorem Jf {n : Nat} {b : List Int} (hb : zl n b) {i : Nat} (hi : i < n) : ∀ k, (pwl n b k).getD i 0 = itn b k (i : Int)
 | 0 => qm n hi
 | k + 1 => by
  show (aft (pwl n b k) b).getD i 0 = nxt b (itn b k (i : Int))
  rw [zY b (by rw [(qQ hb k).1]; exact hi), Jf hb hi k]
  rfl
noncomputable def D0 (n : Nat) (os : List Int) (many : Int) (rs : List Int) : Prop := ∃ bs, zl n bs /\ (0 <= many -> bs = os) /\ (many < 0 -> qi os bs) /\ rs = pwl n bs many.natAbs
theorem vj {n : Nat} {os : List Int} (h : zl n os) {r : List Int} : ∀ {i : Nat}, i <= n -> r ∈ zg os i -> ∃ (q : Nat) (L : Nat), q < n /\ qP os (q : Int) L /\ r = itl os (q : Int) L
 | 0, _, hr => by simp [zg] at hr
 | i + 1, hi, hr => by
  unfold zg at hr
  rcases List.mem_append.mp hr with z | z
  ·exact vj h (by omega) z
  ·by_cases c : kB os i /\ 1 < per os (i : Int)
   ·rw [if_pos c] at z
    rw [List.mem_singleton.mp z]
    obtain ⟨m, hm, _⟩ := qX h (p := (i : Int)) (by omega) (by omega)
    refine ⟨i, m, by omega, hm, ?_⟩
    unfold zB
    rw [hm.per]
   ·rw [if_neg c] at z; cases z
end L2
set_option Elab.async false
set_option linter.all false
set_option maxRecDepth 100000
set_option maxHeartbeats 4000000
namespace L2
open PySem PySem.Spec PyProof.Rows
end L2
set_option Elab.async false
set_option linter.all false
set_option maxRecDepth 100000
set_option maxHeartbeats 4000000
namespace L2
open PySem PySem.Spec PyProof.Rows
section
variable {X : Cx}
theorem Xy : bootBuiltins "sum" = some (.builtin "sum") := by decide +kernel
theorem xN : ∀ {ns : List Int} {us : List Value}, zD (ns.map V.int) us -> ∃ ps : List (Int × Tok), us = ps.map (fun p => Value.int p.1 p.2) /\ ps.map (·.1) = ns
 | [], _, h => by cases h; exact ⟨[], rfl, rfl⟩
 | n :: ns, _, h => by
  cases h with
  | cons r rs =>
   obtain ⟨ps, e1, e2⟩ := xN rs
   obtain ⟨t, rfl⟩ := r
   exact ⟨(n, t) :: ps, by rw [e1]; rfl, by rw [<- e2]; rfl⟩
theorem KI {ps : List (Int × Tok)} {i : Nat} (h : i < ps.length) : numAt ps.toArray i = (ps.map (·.1)).getD i 0 := by
 unfold numAt
 rw [List.getD_eq_getElem?_getD, List.getElem?_map, List.getElem?_toArray]
theorem vL {ps : List (Int × Tok)} : ∀ k, k <= ps.length -> preSum (numAt ps.toArray) k = ((ps.map (·.1)).take k).sum
 | 0, _ => rfl
 | k + 1, h => by
  show preSum (numAt ps.toArray) k + numAt ps.toArray k = _
  rw [vL k (by omega), KI (by omega)]
  have hk : k < (ps.map (·.1)).length := by rw [List.length_map]; omega
  rw [zT hk, <- List.take_append_getElem hk, List.sum_append]
  simp
theorem KR : ∀ {ns : List Int}, (∀ x ∈ ns, 0 <= x /\ x <= (1000000 : Int)) -> 0 <= ns.sum /\ ns.sum <= 1000000 * (ns.length : Int)
 | [], _ => by simp
 | n :: ns, h => by
  have h1 := h n (by simp)
  have h2 := KR (ns := ns) fun x hx => h x (by simp [hx])
  rw [List.sum_cons, List.length_cons]
  omega
theorem vm (hc : X.calm = true) : qN X (.builtin "sum") (fun xs H Q => ∃ p ns, xs = [.ref p] /\ SqL X.K H p (List.map V.int ns) /\ (∀ x ∈ ns, 0 <= x /\ x <= (1000000 : Int)) /\ ns.length <= 100000 /\ Q (.int ns.sum) H) := by
  intro pins s σ H xs us Q I r h
  obtain ⟨p, ns, rfl, hq, hb, hl, q⟩ := h
  obtain ⟨u, rfl, rx⟩ := jS r
  cases rx
  obtain ⟨its, rv, pl, hz⟩ := I.list hq
  obtain ⟨ps, rfl, rfl⟩ := xN rv
  rw [List.length_map] at hl
  have hL : s.heap.IsList p (intItems ps.toArray) := by
    have := pl.isList
    unfold intItems
    simpa using this
  refine sum_intList (I.ok.hd hc) hL (fun j hj => ?_) fun h' tk t' hk => ?_
  · have hj' : j < ps.length := by simpa using hj
    rw [KI hj', vL (j + 1) (by omega)]
    have hjm : j < (ps.map (·.1)).length := by rw [List.length_map]; exact hj'
    have b1 := hb ((ps.map (·.1)).getD j 0) (by rw [zT hjm]; exact List.getElem_mem hjm)
    have b2 := KR (ns := (ps.map (·.1)).take (j + 1)) fun x hx => hb x (List.mem_of_mem_take hx)
    rw [List.length_take, List.length_map] at b2
    constructor
    · constructor <;> omega
    · constructor <;> omega
  · have es : preSum (numAt ps.toArray) ps.toArray.size = (ps.map (·.1)).sum := by
      rw [List.size_toArray, vL _ (Nat.le_refl _), List.take_of_length_le (by rw [List.length_map]; exact Nat.le_refl _)]
    rw [es]
    exact ⟨.int (ps.map (·.1)).sum, H, I.turnedL (ch := []) (tk := tk) (fun b hb => nomatch hb) (fun b o _ eb => hk b o eb), ⟨t', rfl⟩, q⟩
end
theorem Vh {K : PySem.W.Frag} {a : Addr} {xs : List V} {g : TG} {tt : TT} {te : TE} {Q : VK} {τ : St} {H1 : Hp} (hq : SqL K H1 a xs \/ SqT K H1 a xs)
  (h : ∀ D, H1 D = none -> ∃ Pv : Nat -> St -> Hp -> Prop, Pv 0 τ (upd H1 D (.lst [])) /\ (∀ i τ H', Pv i τ H' -> Kp [] H1 H') /\
   (∀ i x p τ H, xs[i]? = some x -> H p = none -> Pv i τ H -> g (.ref p) τ (upd H p (.tup [.int i, x])) fun τ2 H3 => tt τ2 H3 fun b H4 => if b = true then te τ2 H4 fun v H5 => ∃ ys, H5 D = some (.lst ys) /\ ys.length < sizeLine /\ Pv (i + 1) τ2 (upd H5 D (.lst (ys ++ [v]))) else Pv (i + 1) τ2 H4) /\
   (∀ τ H, Pv xs.length τ H -> Q (.ref D) H)) :
  ((∃ xs, SqL K H1 a xs) /\ ∀ D, H1 D = none -> wz (Ite K a) g tt te D Q τ (upd H1 D (.lst []))) \/ ((∃ xs, SqT K H1 a xs) /\ ∀ D, H1 D = none -> wz (V7 K a) g tt te D Q τ (upd H1 D (.lst []))) := by
 rcases hq with hq | hq
 ·refine .inl ⟨⟨_, hq⟩, fun D hD => ?_⟩
  obtain ⟨Pv, h0, hl, hs, hd⟩ := h D hD
  exact VG Pv h0 (fun i τ H' _ p => XC hq (hl i τ H' p)) hs hd
 ·refine .inr ⟨⟨_, hq⟩, fun D hD => ?_⟩
  obtain ⟨Pv, h0, hl, hs, hd⟩ := h D hD
  refine ⟨fun i m τ H => m = xs.length - i /\ i <= xs.length /\ Pv i τ H, ⟨xs.length, by simp, Nat.zero_le _, h0⟩, ?_⟩
  rintro i m τ H ⟨rfl, hi, p⟩
  have q := KB hq (hl i τ H p)
  by_cases hlt : i < xs.length
  ·refine .inr ⟨⟨xs, xs[i], q, by simp [hlt]⟩, Pv (i + 1), fun σ' H' p' => ⟨xs.length - (i + 1), by omega, rfl, hlt, p'⟩, fun x H' y => ?_⟩
   obtain ⟨pp, x', hp, rfl, y, rfl⟩ := y
   exact hs i x' pp τ _ (y xs q) hp p
  ·have e : i = xs.length := by omega
   subst e
   exact .inl ⟨⟨xs, q, Nat.le_refl _⟩, hd τ H p⟩
end L2
set_option Elab.async false
set_option linter.all false
set_option maxRecDepth 100000
set_option maxHeartbeats 4000000
namespace L2
open PySem PySem.Spec PyProof.Rows
section
variable {X : Cx}
end
end L2
set_option Elab.async false
set_option linter.all false
set_option maxRecDepth 100000
set_option maxHeartbeats 4000000
namespace L2
open PySem PySem.Spec PyProof.Rows
end L2
set_option Elab.async false
set_option linter.all false
set_option maxRecDepth 100000
set_option maxHeartbeats 4000000
namespace L2
open PySem PySem.Spec PyProof.Rows
section
variable {prog : Program} {w : World} {A : Around} {R : Result -> Shared -> Prop} {s : Shared}
end
noncomputable def CL (J : It) (g : TG) (tt : TT) (tr : St -> Hp -> (St -> Hp -> Prop) -> Prop) (N : St -> Hp -> Prop) (σ : St) (H : Hp) : Prop := ∃ W : Nat -> Nat -> St -> Hp -> Prop, (∃ m, W 0 m σ H) /\ ∀ i m τ H2, W i m τ H2 ->
 (J.stop i H2 /\ N τ H2) \/ (J.go i H2 /\ ∃ N1 : St -> Hp -> Prop, (∀ τ' H', N1 τ' H' -> ∃ m', m' < m /\ W (i + 1) m' τ' H') /\ ∀ x H', J.yld i H2 x H' -> g x τ H' fun τ2 H3 => tt τ2 H3 fun b H4 =>
  if b = true then tr τ2 H4 N1 else N1 τ2 H4)
noncomputable abbrev TR := St -> Hp -> (St -> Hp -> Prop) -> Prop
noncomputable def Qk (te : TE) (D : Addr) : TR := fun σ H N => te σ H fun v H5 => ∃ ys, H5 D = some (.lst ys) /\ ys.length < sizeLine /\ N σ (upd H5 D (.lst (ys ++ [v])))
noncomputable def Bz (wi : TI) (g : TG) (tt : TT) (tr : Addr -> TR) (D : Addr) : TR := fun σ H N => wi σ H fun J H1 => CL J g tt (tr D) N σ H1
section
variable {C : Cx} {elt tg iter : Expr} {ifs : List Expr} {gens : List Comprehension} {scope : Scope} {pos : Pos} {d : Nat} {D : Addr} {g : TG} {tt : TT} {te : TE} {tr : TR}
end
noncomputable def YX (ts : List Nat) (wi : TI) (g : TG) (tt : TT) (tr : Addr -> TR) : TE := fun σ H Q => wi σ H fun J H1 => ∀ D, H1 D = none -> CL J g tt (tr D) (fun _ H2 => Q (.ref D) H2) (clr ts σ) (upd H1 D (.lst []))
section
variable {X : Cx} {ts : List Nat} {scope : Scope} {tg iter elt : Expr} {ifs : List Expr} {jT : List Comprehension} {wi : TI} {g : TG} {tt : TT} {tr : Addr -> TR} {pos : Pos}
end
theorem J4 {ts : List Nat} {wi : TI} {g : TG} {tt : TT} {tr : Addr -> TR} {σ : St} {H : Hp} {Q : VK} :
  YX ts wi g tt tr σ H Q = wi σ H (fun J H1 => ∀ D, H1 D = none -> CL J g tt (tr D) (fun _ H2 => Q (.ref D) H2) (clr ts σ) (upd H1 D (.lst []))) := rfl
theorem Ka {wi : TI} {g : TG} {tt : TT} {tr : Addr -> TR} {D : Addr} {σ : St} {H : Hp} {N : St -> Hp -> Prop} : Bz wi g tt tr D σ H N = wi σ H (fun J H1 => CL J g tt (tr D) N σ H1) := rfl
theorem Ki {te : TE} {D : Addr} {σ : St} {H : Hp} {N : St -> Hp -> Prop} : Qk te D σ H N = te σ H (fun v H5 => ∃ ys, H5 D = some (.lst ys) /\ ys.length < sizeLine /\ N σ (upd H5 D (.lst (ys ++ [v])))) := rfl
end L2
set_option Elab.async false
set_option linter.all false
set_option maxRecDepth 100000
set_option maxHeartbeats 4000000
namespace L2
open PySem PySem.Spec PyProof.Rows
section
variable {P : Program} {w : World} {A : Around} {E : Value -> Shared -> Prop} {it l : Addr} {items : Array Value}
end
section
variable {X : Cx} {pos : Pos}
end
end L2
set_option Elab.async false
set_option linter.all false
set_option maxRecDepth 100000
set_option maxHeartbeats 4000000
namespace L2
open PySem PySem.Spec PyProof.Rows
noncomputable def rep (o : Nat) (G : List Int) : List Int := (List.range (o * G.length)).map fun (i : Nat) => ((i / G.length * G.length : Nat) : Int) + G.getD (i % G.length) 0
end L2
set_option Elab.async false
set_option linter.all false
set_option maxRecDepth 100000
set_option maxHeartbeats 4000000
namespace L2
open PySem PySem.Spec PyProof.Rows
section
variable {P : Program} {w : World} {A : Around} {E : Value -> Shared -> Prop} {s : Shared} {z TI TO i1 i2 l1 l2 : Addr} {k : Nat} {xs ys : Array Value} {x y a b : Value} {Q : Option Value -> Shared -> Prop}
theorem J5 (D : ZipApart z TI TO i1 i2 l1 l2) (hz : IsZip s.heap z TI TO .none) (hTI : IsPair s.heap TI (.ref i1) (.ref i2)) (hTO : IsPair s.heap TO a b) (h1 : s.heap.IsTupleIter i1 l1 k) (h2 : s.heap.IsTupleIter i2 l2 k) (p1 : s.heap.IsTuple l1 xs) (p2 : s.heap.IsTuple l2 ys) (hx : xs[k]? = some x) (hy : ys[k]? = some y)
  (hQ : ∀ h', IsZip h' z TI TO (rawInt s.heap.objs.size) -> IsPair h' TO x y -> h'.IsTupleIter i1 l1 (k + 1) -> h'.IsTupleIter i2 l2 (k + 1) -> IsPair h' s.heap.objs.size x y -> h'.objs.size = s.heap.objs.size + 1 -> (∀ c o, c ≠ z -> c ≠ TO -> c ≠ i1 -> c ≠ i2 -> s.heap.get? c = some o -> h'.get? c = some o) -> Q (some (.ref s.heap.objs.size)) { s with heap := h' }) :
  wpAny (model P w) A (pyNext (.ref z)) Q E s := by
 have hT : s.TypeIs (.ref z) "zip" := ⟨_, hz, rfl⟩
 unfold pyNext
 refine wpAny_bind (wpAny_attempt (wpAny_callSpecial?_slot (name := Str.ofString "__next__") hT F.slot_zip_next (wpAny_call_entry F.slot_zip_next hT F.entry_zip_next ?_ (F.args_zip_next_1 _))))
 refine wpAny_bind (m := field (.ref z) 2) (wpAny_field hz rfl (x := .bool false) rfl ?_)
 refine wpAny_bind (m := field (.ref z) 3) (wpAny_field hz rfl (x := .ref TI) rfl ?_)
 refine wpAny_bind (m := seqItems? (.ref TI)) (wpAny_seqItems hTI rfl ?_)
 refine wpAny_bind (m := Builtin.SmallTypes.ownedTupleIsFree (.ref z)) ?_
 unfold Builtin.SmallTypes.ownedTupleIsFree
 refine wpAny_bind (wpAny_field hz rfl (x := .none) rfl (wpAny_pure ?_))
 refine wpAny_bind (m := rule "zip.__next__.owned-tuple-again") (wpAny_rule ?_)
 refine wpAny_bind (m := field (.ref z) 4) (wpAny_field hz rfl (x := .ref TO) rfl ?_)
 refine wpAny_bind (m := setField (.ref z) 0 .ellipsis) (wpAny_setField hz rfl (by simp) ?_)
 have sb1 := Heap.SameBut.update s.heap z (Obj.mapFields fun x_1 => x_1.setIfInBounds 0 Value.ellipsis)
 have g1 : (s.heap.update z (Obj.mapFields fun x_1 => x_1.setIfInBounds 0 Value.ellipsis)).get? z = some { cls := Value.type "zip", data := Data.fields #[.ellipsis, Value.bool false, Value.bool false, Value.ref TI, Value.ref TO] } := Heap.get?_update_self _ hz (Obj.isFreed_of_fields (Obj.data_mapFields rfl _))
 generalize s.heap.update z (Obj.mapFields fun x_1 => x_1.setIfInBounds 0 Value.ellipsis) = h1' at *
 refine wpAny_bind ?_
 rw [show (#[Value.ref i1, Value.ref i2].toList.zipIdx : List (Value × Nat)) = [(.ref i1, 0), (.ref i2, 1)] from rfl, List.forIn_cons]
 dsimp only
 have it1 : h1'.IsTupleIter i1 l1 k := by obtain ⟨o, ho, r⟩ := h1; exact ⟨o, (sb1.2 i1 D.i1z).trans ho, r⟩
 have tp1 : h1'.IsTuple l1 xs := by obtain ⟨o, ho, r⟩ := p1; exact ⟨o, (sb1.2 l1 D.l1z).trans ho, r⟩
 refine wpAny_bind (wpAny_bind (wpAny_onRaise ?_))
 show wpAny _ _ (Builtin.SmallTypes.nextOf (.ref i1) >>= fun v => pure (some v)) _ _ _
 refine wpAny_bind (jA it1 tp1 hx fun h2' it2 sb2 => wpAny_pure ?_)
 dsimp only
 have gTO2 : IsPair h2' TO a b := ((sb2.2 TO D.TOi1).trans (sb1.2 TO D.TOz)).trans hTO
 refine wpAny_bind (wpAny_seqItems gTO2 rfl ?_)
 dsimp only
 refine wpAny_bind (wpAny_updateSeq_pair gTO2 fun h3' g3 sb3 => ?_)
 refine wpAny_bind (wpAny_letGo (wpAny_pure ?_))
 dsimp only
 have g3' : IsPair h3' TO x b := g3
 have it3 : h3'.IsTupleIter i2 l2 k := by obtain ⟨o, ho, r⟩ := h2; exact ⟨o, (((sb3.2 i2 (Ne.symm D.TOi2)).trans (sb2.2 i2 (Ne.symm D.i12))).trans (sb1.2 i2 D.i2z)).trans ho, r⟩
 have tp3 : h3'.IsTuple l2 ys := by obtain ⟨o, ho, r⟩ := p2; exact ⟨o, (((sb3.2 l2 D.l2TO).trans (sb2.2 l2 D.l2i1)).trans (sb1.2 l2 D.l2z)).trans ho, r⟩
 rw [List.forIn_cons]
 refine wpAny_bind (wpAny_bind (wpAny_onRaise ?_))
 show wpAny _ _ (Builtin.SmallTypes.nextOf (.ref i2) >>= fun v => pure (some v)) _ _ _
 refine wpAny_bind (jA it3 tp3 hy fun h4' it4 sb4 => wpAny_pure ?_)
 dsimp only
 have gTO4 : IsPair h4' TO x b := (sb4.2 TO D.TOi2).trans g3'
 refine wpAny_bind (wpAny_seqItems gTO4 rfl ?_)
 dsimp only
 refine wpAny_bind (wpAny_updateSeq_pair gTO4 fun h5' g5 sb5 => ?_)
 refine wpAny_bind (wpAny_letGo (wpAny_pure ?_))
 dsimp only
 have g5' : IsPair h5' TO x y := g5
 rw [List.forIn_nil]
 refine wpAny_pure ?_
 dsimp only
 refine wpAny_bind (wpAny_seqItems g5' rfl ?_)
 dsimp only
 have sz5 : h5'.objs.size = s.heap.objs.size := ((((sb5.1).trans sb4.1).trans sb3.1).trans sb2.1).trans sb1.1
 refine wpAny_bind (wpAny_newTuple ?_ (by show 2 <= sizeLine; decide))
 have gz5 : h5'.get? z = some { cls := Value.type "zip", data := Data.fields #[.ellipsis, Value.bool false, Value.bool false, Value.ref TI, Value.ref TO] } := ((((sb5.2 z (Ne.symm D.TOz)).trans (sb4.2 z (Ne.symm D.i2z))).trans (sb3.2 z (Ne.symm D.TOz))).trans (sb2.2 z (Ne.symm D.i1z))).trans g1
 have zlt : z < h5'.objs.size := Heap.lt_size gz5
 have g6 : (h5'.push { cls := Value.type "tuple", data := Data.seq #[x, y] }).get? z = _ := Heap.get?_push_of_some _ gz5
 have n6 : (h5'.push { cls := Value.type "tuple", data := Data.seq #[x, y] }).get? h5'.objs.size = some { cls := Value.type "tuple", data := Data.seq #[x, y] } := Heap.get?_push_size _ rfl
 have ex6 : ∀ c o, h5'.get? c = some o -> (h5'.push { cls := Value.type "tuple", data := Data.seq #[x, y] }).get? c = some o := fun c o e => Heap.get?_push_of_some _ e
 have sz6 : (h5'.push { cls := Value.type "tuple", data := Data.seq #[x, y] }).objs.size = h5'.objs.size + 1 := Heap.size_push ..
 show wpAny _ _ (Builtin.SmallTypes.ownedTupleHandOut (.ref z) (.ref h5'.objs.size) >>= _) _ _ { s with heap := h5'.push { cls := Value.type "tuple", data := Data.seq #[x, y] } }
 generalize h5'.push { cls := Value.type "tuple", data := Data.seq #[x, y] } = h6' at *
 unfold Builtin.SmallTypes.ownedTupleHandOut
 refine wpAny_bind (wpAny_bind (wpAny_setField g6 rfl (by simp) (wpAny_setField (Heap.get?_update_self _ g6 (Obj.isFreed_of_fields (Obj.data_mapFields rfl _))) rfl (by simp) ?_)))
 have sb7 := Heap.SameBut.update h6' z (Obj.mapFields fun x_1 => x_1.setIfInBounds 0 (rawInt h5'.objs.size))
 have g7 : (h6'.update z (Obj.mapFields fun x_1 => x_1.setIfInBounds 0 (rawInt h5'.objs.size))).get? z = some { cls := Value.type "zip", data := Data.fields #[rawInt h5'.objs.size, Value.bool false, Value.bool false, Value.ref TI, Value.ref TO] } := Heap.get?_update_self _ g6 (Obj.isFreed_of_fields (Obj.data_mapFields rfl _))
 dsimp only
 generalize h6'.update z (Obj.mapFields fun x_1 => x_1.setIfInBounds 0 (rawInt h5'.objs.size)) = h7' at *
 have sb8 := Heap.SameBut.update h7' z (Obj.mapFields fun x_1 => x_1.setIfInBounds 1 (Value.bool false))
 have g8 : (h7'.update z (Obj.mapFields fun x_1 => x_1.setIfInBounds 1 (Value.bool false))).get? z = some { cls := Value.type "zip", data := Data.fields #[rawInt h5'.objs.size, Value.bool false, Value.bool false, Value.ref TI, Value.ref TO] } := Heap.get?_update_self _ g7 (Obj.isFreed_of_fields (Obj.data_mapFields rfl _))
 generalize h7'.update z (Obj.mapFields fun x_1 => x_1.setIfInBounds 1 (Value.bool false)) = h8' at *
 have far : ∀ c o, c ≠ z -> h6'.get? c = some o -> h8'.get? c = some o := fun c o hc e => ((sb8.2 c hc).trans (sb7.2 c hc)).trans e
 refine wpAny_pure ⟨_, rfl, wpAny_pure ?_⟩
 rw [sz5] at g8 n6 sz6 zlt ⊢
 refine hQ h8' g8 (far _ _ D.TOz (ex6 _ _ g5')) ?_ ?_ (far _ _ (Nat.ne_of_gt zlt) n6) (by rw [sb8.1, sb7.1, sz6]) fun c o c1 c2 c3 c4 e => ?_
 ·obtain ⟨o, ho, r⟩ := it2
  exact ⟨o, far _ _ D.i1z (ex6 _ _ (((sb5.2 i1 (Ne.symm D.TOi1)).trans (sb4.2 i1 D.i12)).trans ((sb3.2 i1 (Ne.symm D.TOi1)).trans ho))), r⟩
 ·obtain ⟨o, ho, r⟩ := it4
  exact ⟨o, far _ _ D.i2z (ex6 _ _ ((sb5.2 i2 (Ne.symm D.TOi2)).trans ho)), r⟩
 ·exact far _ _ c1 (ex6 _ _ ((sb5.2 c c2).trans ((sb4.2 c c4).trans ((sb3.2 c c2).trans ((sb2.2 c c3).trans ((sb1.2 c c1).trans e))))))
theorem Xw (hh : A.handled = none) (D : ZipApart z TI TO i1 i2 l1 l2) (hz : IsZip s.heap z TI TO .none) (hTI : IsPair s.heap TI (.ref i1) (.ref i2)) (h1 : s.heap.IsTupleIter i1 l1 k) (p1 : s.heap.IsTuple l1 xs) (hx : xs[k]? = none)
  (hQ : ∀ h', (∀ c o, c ≠ z -> c ≠ TO -> c ≠ i1 -> c ≠ i2 -> s.heap.get? c = some o -> h'.get? c = some o) -> Q none { s with heap := h' }) : wpAny (model P w) A (pyNext (.ref z)) Q E s := by
 have hT : s.TypeIs (.ref z) "zip" := ⟨_, hz, rfl⟩
 unfold pyNext
 refine wpAny_bind (wpAny_attempt (wpAny_callSpecial?_slot (name := Str.ofString "__next__") hT F.slot_zip_next (wpAny_call_entry F.slot_zip_next hT F.entry_zip_next ?_ (F.args_zip_next_1 _))))
 refine wpAny_bind (m := field (.ref z) 2) (wpAny_field hz rfl (x := .bool false) rfl ?_)
 refine wpAny_bind (m := field (.ref z) 3) (wpAny_field hz rfl (x := .ref TI) rfl ?_)
 refine wpAny_bind (m := seqItems? (.ref TI)) (wpAny_seqItems hTI rfl ?_)
 refine wpAny_bind (m := Builtin.SmallTypes.ownedTupleIsFree (.ref z)) ?_
 unfold Builtin.SmallTypes.ownedTupleIsFree
 refine wpAny_bind (wpAny_field hz rfl (x := .none) rfl (wpAny_pure ?_))
 refine wpAny_bind (m := rule "zip.__next__.owned-tuple-again") (wpAny_rule ?_)
 refine wpAny_bind (m := field (.ref z) 4) (wpAny_field hz rfl (x := .ref TO) rfl ?_)
 refine wpAny_bind (m := setField (.ref z) 0 .ellipsis) (wpAny_setField hz rfl (by simp) ?_)
 have sb1 := Heap.SameBut.update s.heap z (Obj.mapFields fun x_1 => x_1.setIfInBounds 0 Value.ellipsis)
 have g1 : (s.heap.update z (Obj.mapFields fun x_1 => x_1.setIfInBounds 0 Value.ellipsis)).get? z = some { cls := Value.type "zip", data := Data.fields #[.ellipsis, Value.bool false, Value.bool false, Value.ref TI, Value.ref TO] } := Heap.get?_update_self _ hz (Obj.isFreed_of_fields (Obj.data_mapFields rfl _))
 generalize s.heap.update z (Obj.mapFields fun x_1 => x_1.setIfInBounds 0 Value.ellipsis) = h1' at *
 refine wpAny_bind ?_
 rw [show (#[Value.ref i1, Value.ref i2].toList.zipIdx : List (Value × Nat)) = [(.ref i1, 0), (.ref i2, 1)] from rfl, List.forIn_cons]
 dsimp only
 have it1 : h1'.IsTupleIter i1 l1 k := by obtain ⟨o, ho, r⟩ := h1; exact ⟨o, (sb1.2 i1 D.i1z).trans ho, r⟩
 have tp1 : h1'.IsTuple l1 xs := by obtain ⟨o, ho, r⟩ := p1; exact ⟨o, (sb1.2 l1 D.l1z).trans ho, r⟩
 refine wpAny_bind (wpAny_bind (wpAny_onRaise ?_))
 show wpAny _ _ (Builtin.SmallTypes.nextOf (.ref i1) >>= fun v => pure (some v)) _ _ _
 refine wpAny_bind (jK (by first | exact hh | (show A.in1.handled = none; exact hh)) it1 tp1 hx fun h2' e ex2 ⟨oe, hoe, hce⟩ => ?_)
 have gz2 : h2'.get? z = some { cls := Value.type "zip", data := Data.fields #[.ellipsis, Value.bool false, Value.bool false, Value.ref TI, Value.ref TO] } := ex2 z _ (Ne.symm D.i1z) g1
 have hez : e ≠ z := by
  intro h
  subst h
  have hoe' : h2'.get? e = some oe := hoe
  rw [gz2] at hoe'
  cases hoe'
  exact absurd (show Value.type "zip" = Value.type "StopIteration" from hce) (by decide)
 refine wpAny_setField gz2 rfl (by simp) ?_
 have sb3 := Heap.SameBut.update h2' z (Obj.mapFields fun x_1 => x_1.setIfInBounds 0 Value.none)
 dsimp only
 generalize h2'.update z (Obj.mapFields fun x_1 => x_1.setIfInBounds 0 Value.none) = h3' at *
 refine wpAny_bind (wpAny_isInstance (T := "StopIteration") (b := true) ⟨oe, (sb3.2 e hez).trans hoe, hce⟩ isSubtype_stop ?_)
 refine wpAny_pure (hQ h3' fun c o c1 c2 c3 c4 ec => ?_)
 exact (sb3.2 c c1).trans (ex2 c o c3 ((sb1.2 c c1).trans ec))
end
open AutoSeq1 (wpAny_loadPart') in
theorem Yr (l1 l2 : Addr) (xs ys : Array Value) (n1 n2 : Nat) (d1 d2 : Option Addr) (s1 s2 : Array (Option Value)) :
  Meets (Builtin.«zip.__new__» ⟨[.type "zip", .ref l1, .ref l2], []⟩) (fun _ R s => s.heap.get? l1 = some { cls := .type "tuple", dict := d1, data := .seq xs n1, slots := s1 } /\ s.heap.get? l2 = some { cls := .type "tuple", dict := d2, data := .seq ys n2, slots := s2 } /\
   ∀ g1 g2 g3 g4 g5, g1 = s.heap.push { cls := .type "tuple_iterator", data := .fields #[.ref l1, .int 0 0] } -> g2 = g1.push { cls := .type "tuple_iterator", data := .fields #[.ref l2, .int 0 0] } -> g3 = g2.push { cls := .type "tuple", data := .seq #[.ref s.heap.objs.size, .ref g1.objs.size] } -> g4 = g3.push { cls := .type "tuple", data := .seq #[.none, .none] } -> g5 = g4.push { cls := .type "zip", data := .fields #[.none, .bool false, .bool false, .ref g2.objs.size, .ref g3.objs.size] } -> R (.ok (.ret (.ref g4.objs.size))) { s with heap := g5 }) :=
 .of_wp fun prog w A R s h => by
  obtain ⟨hp, g, d, tk, os⟩ := s
  obtain ⟨hl1, hl2, h⟩ := h
  have hT1 : Heap.IsTuple (Shared.heap ⟨hp, g, d, tk, os⟩) l1 xs := ⟨_, hl1, rfl, n1, rfl⟩
  have hT2 : Heap.IsTuple (hp.push { cls := .type "tuple_iterator", data := .fields #[.ref l1, .int 0 0] }) l2 ys := ⟨_, Heap.get?_push_of_some _ hl2, rfl, n2, rfl⟩
  have hsub : isSubtype (Value.type "zip") (Value.type "zip") = pure true := by first | exact sub_zip | rfl
  wp_walk using wpAny_loadPart' hl1, wpAny_pyIter_tuple hT1, wpAny_pyIter_tuple hT2
  exact ⟨_, rfl, h _ _ _ _ _ rfl rfl rfl rfl rfl⟩
theorem Ku {P : Program} {w : World} {A : Around} {E : Value -> Shared -> Prop} {s : Shared} {l1 l2 : Addr} {xs ys : Array Value} {Q : Value -> Shared -> Prop} (hT1 : s.heap.IsTuple l1 xs) (hT2 : s.heap.IsTuple l2 ys)
  (h : ∀ h', IsZip h' (s.heap.objs.size + 4) (s.heap.objs.size + 2) (s.heap.objs.size + 3) .none -> IsPair h' (s.heap.objs.size + 2) (.ref s.heap.objs.size) (.ref (s.heap.objs.size + 1)) -> IsPair h' (s.heap.objs.size + 3) .none .none -> h'.IsTupleIter s.heap.objs.size l1 0 -> h'.IsTupleIter (s.heap.objs.size + 1) l2 0 -> (∀ b o, s.heap.get? b = some o -> h'.get? b = some o) -> Q (.ref (s.heap.objs.size + 4)) { s with heap := h' }) :
  wpAny (model P w) A (call (.type "zip") [.ref l1, .ref l2]) Q E s := by
 obtain ⟨⟨c1, d1, dt1, sl1⟩, hl1, hc1, n1, hd1⟩ := hT1
 replace hc1 : c1 = .type "tuple" := hc1
 replace hd1 : dt1 = .seq xs n1 := hd1
 subst hc1 hd1
 obtain ⟨⟨c2, d2, dt2, sl2⟩, hl2, hc2, n2, hd2⟩ := hT2
 replace hc2 : c2 = .type "tuple" := hc2
 replace hd2 : dt2 = .seq ys n2 := hd2
 subst hc2 hd2
 refine callType_new F.called_zip (by decide) (F.typeCall_zip_2 _ _) (F.newCall_zip_2 _ _) (fun obj => F.args_object_init_3 obj _ _) F.entry_zip_new (Yr l1 l2 xs ys n1 n2 d1 d2 sl1 sl2) ⟨hl1, hl2, ?_⟩
 intro g1 g2 g3 g4 g5 e1 e2 e3 e4 e5
 have z1 : g1.objs.size = s.heap.objs.size + 1 := by rw [e1, Heap.size_push]
 have z2 : g2.objs.size = s.heap.objs.size + 2 := by rw [e2, Heap.size_push, z1]
 have z3 : g3.objs.size = s.heap.objs.size + 3 := by rw [e3, Heap.size_push, z2]
 have z4 : g4.objs.size = s.heap.objs.size + 4 := by rw [e4, Heap.size_push, z3]
 have k1 : ∀ b o, s.heap.get? b = some o -> g1.get? b = some o := fun b o x => by rw [e1]; exact Heap.get?_push_of_some _ x
 have k2 : ∀ b o, g1.get? b = some o -> g2.get? b = some o := fun b o x => by rw [e2]; exact Heap.get?_push_of_some _ x
 have k3 : ∀ b o, g2.get? b = some o -> g3.get? b = some o := fun b o x => by rw [e3]; exact Heap.get?_push_of_some _ x
 have k4 : ∀ b o, g3.get? b = some o -> g4.get? b = some o := fun b o x => by rw [e4]; exact Heap.get?_push_of_some _ x
 have k5 : ∀ b o, g4.get? b = some o -> g5.get? b = some o := fun b o x => by rw [e5]; exact Heap.get?_push_of_some _ x
 have p1 : g1.get? s.heap.objs.size = some { cls := .type "tuple_iterator", data := .fields #[.ref l1, .int 0 0] } := by rw [e1]; exact Heap.get?_push_size _ rfl
 have p2 : g2.get? (s.heap.objs.size + 1) = some { cls := .type "tuple_iterator", data := .fields #[.ref l2, .int 0 0] } := by
  have := Heap.get?_push_size g1 (o := { cls := .type "tuple_iterator", data := .fields #[.ref l2, .int 0 0] }) rfl
  rw [z1] at this; rw [e2]; exact this
 have p3 : g3.get? (s.heap.objs.size + 2) = some { cls := .type "tuple", data := .seq #[.ref s.heap.objs.size, .ref (s.heap.objs.size + 1)] } := by
  have := Heap.get?_push_size g2 (o := { cls := .type "tuple", data := .seq #[.ref s.heap.objs.size, .ref g1.objs.size] }) rfl
  rw [z2] at this; rw [e3, this, z1]
 have p4 : g4.get? (s.heap.objs.size + 3) = some { cls := .type "tuple", data := .seq #[.none, .none] } := by
  have := Heap.get?_push_size g3 (o := { cls := .type "tuple", data := .seq #[.none, .none] }) rfl
  rw [z3] at this; rw [e4, this]
 have p5 : g5.get? (s.heap.objs.size + 4) = some { cls := .type "zip", data := .fields #[.none, .bool false, .bool false, .ref (s.heap.objs.size + 2), .ref (s.heap.objs.size + 3)] } := by
  have := Heap.get?_push_size g4 (o := { cls := .type "zip", data := .fields #[.none, .bool false, .bool false, .ref g2.objs.size, .ref g3.objs.size] }) rfl
  rw [z4] at this; rw [e5, this, z2, z3]
 show _ /\ _
 rw [z4]
 exact ⟨⟨_, p5, rfl⟩, h _ p5 (k5 _ _ (k4 _ _ p3)) (k5 _ _ p4) ⟨_, k5 _ _ (k4 _ _ (k3 _ _ (k2 _ _ p1))), rfl, rfl⟩ ⟨_, k5 _ _ (k4 _ _ (k3 _ _ p2)), rfl, rfl⟩ fun b o x => k5 _ _ (k4 _ _ (k3 _ _ (k2 _ _ (k1 _ _ x))))⟩
noncomputable def B9 (K : PySem.W.Frag) (a b : Addr) : It :=
 ⟨fun i H => ∃ xs ys x y, SqT K H a xs /\ SqT K H b ys /\ xs[i]? = some x /\ ys[i]? = some y, fun i H z H' => ∃ p x y, H p = none /\ z = .ref p /\ (∀ xs, SqT K H a xs -> xs[i]? = some x) /\ (∀ ys, SqT K H b ys -> ys[i]? = some y) /\ H' = upd H p (.tup [x, y]),
  fun i H => ∃ xs, SqT K H a xs /\ xs.length <= i⟩
theorem JX {P : Program} {w : World} {K : PySem.W.Frag} {es : List Expr} {kt : Nat} {tp : Pos} (l1 l2 z TI TO i1 i2 : Addr) (D : ZipApart z TI TO i1 i2 l1 l2) :
  Zt P w K (.Tuple es kt tp) (B9 K l1 l2) [z, TI, TO, i1, i2] z (fun i h => IsZip h z TI TO .none /\ IsPair h TI (.ref i1) (.ref i2) /\ (∃ a b, IsPair h TO a b) /\ h.IsTupleIter i1 l1 i /\ h.IsTupleIter i2 l2 i) where
 mem := by simp
 obj := fun i h st b hb => by
  obtain ⟨hz, hTI, ⟨a, c, hTO⟩, ⟨o1, e1, c1, d1⟩, ⟨o2, e2, c2, d2⟩⟩ := st
  simp only [List.mem_cons, List.not_mem_nil, or_false] at hb
  rcases hb with rfl | rfl | rfl | rfl | rfl
  ·exact ⟨_, hz, fun v q => by have q' : Data.fields _ = Data.cell v := q; cases q'⟩
  ·exact ⟨_, hTI, fun v q => by have q' : Data.seq _ _ = Data.cell v := q; cases q'⟩
  ·exact ⟨_, hTO, fun v q => by have q' : Data.seq _ _ = Data.cell v := q; cases q'⟩
  ·exact ⟨o1, e1, fun v q => by rw [d1] at q; cases q⟩
  ·exact ⟨o2, e2, fun v q => by rw [d2] at q; cases q⟩
 keep := fun i h h' st k => by
  obtain ⟨hz, hTI, ⟨a, c, hTO⟩, h1, h2⟩ := st
  exact ⟨k _ (by simp) _ hz, k _ (by simp) _ hTI, ⟨a, c, k _ (by simp) _ hTO⟩, h1.at fun o e => k _ (by simp) o e, h2.at fun o e => k _ (by simp) o e⟩
 item := by
  intro X hP hw hK hc i pins s σ H E I hf st hg
  subst hP hw hK
  obtain ⟨hz, hTI, ⟨a, c, hTO⟩, h1, h2⟩ := st
  obtain ⟨xs, ys, x, y, hq1, hq2, hx, hy⟩ := hg
  obtain ⟨its1, rv1, p1, hz1⟩ := I.tuple hq1
  obtain ⟨its2, rv2, p2, hz2⟩ := I.tuple hq2
  obtain ⟨u, hu, ru⟩ := rv1.get hx
  obtain ⟨v, hv, rvv⟩ := rv2.get hy
  refine J5 D hz hTI hTO h1 h2 p1 p2 (x := u) (y := v) (by simpa using hu) (by simpa using hv) fun g1 b1 b2 b3 b4 b5 b6 hk => ?_
  refine ⟨.ref s.heap.objs.size, rfl, wpAny_letOwnedTupleGo_zip b1 fun g2 hz2' hs2 => ?_⟩
  replace hs2 : Heap.SameBut z g1 g2 := hs2
  have zlt : z < s.heap.objs.size := Heap.lt_size hz
  have I2 : Inv X pins σ (upd H s.heap.objs.size (.tup [x, y])) { s with heap := g2, toks := s.toks } := by
   refine I.yieldTup (us := [u, v]) hf (fun b o hb e => ?_) (Nat.le_refl _) ((hs2.2 _ (Nat.ne_of_gt zlt)).trans b5) (.cons ru (.cons rvv .nil)) (by show 2 <= sizeLine; decide)
   simp only [List.mem_cons, List.not_mem_nil, or_false, not_or] at hb
   exact (hs2.2 b hb.1).trans (hk b o hb.1 hb.2.2.1 hb.2.2.2.1 hb.2.2.2.2 e)
  refine ⟨.ref s.heap.objs.size, _, I2, rfl, ⟨s.heap.objs.size, x, y, I.hok.fresh (Nat.le_refl _), rfl, fun xs' h' => by rw [I.tuple_inj h' hq1]; exact hx, fun ys' h' => by rw [I.tuple_inj h' hq2]; exact hy, rfl⟩,
   ⟨hz2', (hs2.2 _ D.TIz).trans (hk _ _ D.TIz D.TITO D.TIi1 D.TIi2 hTI), ⟨_, _, (hs2.2 _ D.TOz).trans b2⟩, b3.extBut hs2.extBut D.i1z, b4.extBut hs2.extBut D.i2z⟩, fun b hb => ?_⟩
  have hlt : b < s.heap.objs.size := by
   simp only [List.mem_cons, List.not_mem_nil, or_false] at hb
   rcases hb with rfl | rfl | rfl | rfl | rfl
   ·exact zlt
   ·exact Heap.lt_size hTI
   ·exact Heap.lt_size hTO
   ·obtain ⟨o, e, _⟩ := h1; exact Heap.lt_size e
   ·obtain ⟨o, e, _⟩ := h2; exact Heap.lt_size e
  rw [zm (Nat.ne_of_lt hlt)]
  exact (hf b hb).1
 done := by
  intro X hP hw hK hc i pins s σ H E I hf st hg
  subst hP hw hK
  obtain ⟨hz, hTI, ⟨a, c, hTO⟩, h1, h2⟩ := st
  obtain ⟨xs, hq1, hend⟩ := hg
  obtain ⟨its1, rv1, p1, hz1⟩ := I.tuple hq1
  have l1 := rv1.length
  refine Xw (I.ok.hd hc) D hz hTI h1 p1 (by simp; omega) fun h' hk => ⟨rfl, I.turnedL (tk := s.toks) hf fun b o hb e => ?_⟩
  simp only [List.mem_cons, List.not_mem_nil, or_false, not_or] at hb
  exact hk b o hb.1 hb.2.2.1 hb.2.2.2.1 hb.2.2.2.2 e
 self := fun _ _ _ _ _ st h => wpAny_pyIter_zip st.1 h
section
variable {X : Cx} {es : List Expr} {kt : Nat} {tp : Pos}
noncomputable def ZF (K : PySem.W.Frag) (ta : TA) : TI := fun σ H R => ta σ H fun vs H1 => ∃ a b, vs = [.ref a, .ref b] /\ (((∃ xs, SqL K H1 a xs) /\ (∃ ys, SqL K H1 b ys) /\ R (Itz K a b) H1) \/ ((∃ xs, SqT K H1 a xs) /\ (∃ ys, SqT K H1 b ys) /\ R (B9 K a b) H1))
theorem K6 {e1 e2 : Expr} {ta : TA} {p pos : Pos} (hg : Gl X "zip") (hm : X.mg "zip" = none) (ha : PA X [e1, e2] ta) (hs : starEach [e1, e2] X.env = [(false, eval e1 X.env), (false, eval e2 X.env)] := by rfl) (hs2 : starEach [e2] X.env = [(false, eval e2 X.env)] := by rfl) :
  PI X (.Tuple es kt tp) (.Call (.Name "zip" p) [e1, e2] [] pos) (ZF X.K ta) := by
 intro pins s σ H R I h
 refine Call_ (kz I hg hm Kv (PyProof.Rows.callWith_type1 (thn (ha pos pins s σ H _ I h) fun us s1 ⟨vs, H1, I1, r1, q1⟩ => ?_) (by rw [hs, hs2]) (by rw [hs2]; rfl)))
 obtain ⟨a, b, e, q1⟩ := q1
 subst e
 obtain ⟨u, v, rfl, ru, rv⟩ := yO r1
 cases ru
 cases rv
 rcases q1 with ⟨⟨xs, hq1⟩, ⟨ys, hq2⟩, q⟩ | ⟨⟨xs, hq1⟩, ⟨ys, hq2⟩, q⟩
 ·obtain ⟨its1, rv1, p1, hz1⟩ := I1.list hq1
  obtain ⟨its2, rv2, p2, hz2⟩ := I1.list hq2
  have la : a < s1.heap.objs.size := by obtain ⟨o, e, _⟩ := p1.isList; exact Heap.lt_size e
  have lb : b < s1.heap.objs.size := by obtain ⟨o, e, _⟩ := p2.isList; exact Heap.lt_size e
  refine call_zip_2 p1.isList p2.isList fun h' b1 b2 b3 b4 b5 hsz hk => wpAny_pyIter_zip b1 ?_
  have I2 : Inv X pins σ H1 { s1 with heap := h' } := I1.kept (t' := s1.toks) hk
  refine ⟨s1.heap.objs.size + 4, [s1.heap.objs.size + 4, s1.heap.objs.size + 2, s1.heap.objs.size + 3, s1.heap.objs.size, s1.heap.objs.size + 1], _, _, H1, rfl, I2, Ye a b _ _ _ _ _ (zipApart_new la lb), ⟨b1, b2, ⟨_, _, b3⟩, b4, b5⟩, fun c hb => ?_, q⟩
  have hb' : s1.heap.objs.size <= c := by
   simp only [List.mem_cons, List.not_mem_nil, or_false] at hb
   rcases hb with rfl | rfl | rfl | rfl | rfl <;> first | exact Nat.le_refl _ | exact Nat.le_add_right _ _
  exact I1.fpOk hb' (I1.hok.fresh hb')
 ·obtain ⟨its1, rv1, p1, hz1⟩ := I1.tuple hq1
  obtain ⟨its2, rv2, p2, hz2⟩ := I1.tuple hq2
  have la : a < s1.heap.objs.size := by obtain ⟨o, e, _⟩ := p1; exact Heap.lt_size e
  have lb : b < s1.heap.objs.size := by obtain ⟨o, e, _⟩ := p2; exact Heap.lt_size e
  refine Ku p1 p2 fun h' b1 b2 b3 b4 b5 hk => wpAny_pyIter_zip b1 ?_
  have I2 : Inv X pins σ H1 { s1 with heap := h' } := I1.kept (t' := s1.toks) hk
  refine ⟨s1.heap.objs.size + 4, [s1.heap.objs.size + 4, s1.heap.objs.size + 2, s1.heap.objs.size + 3, s1.heap.objs.size, s1.heap.objs.size + 1], _, _, H1, rfl, I2, JX a b _ _ _ _ _ (zipApart_new la lb), ⟨b1, b2, ⟨_, _, b3⟩, b4, b5⟩, fun c hb => ?_, q⟩
  have hb' : s1.heap.objs.size <= c := by
   simp only [List.mem_cons, List.not_mem_nil, or_false] at hb
   rcases hb with rfl | rfl | rfl | rfl | rfl <;> first | exact Nat.le_refl _ | exact Nat.le_add_right _ _
  exact I1.fpOk hb' (I1.hok.fresh hb')
end
end L2
set_option Elab.async false
set_option linter.all false
set_option maxRecDepth 100000
set_option maxHeartbeats 4000000
namespace L2
open PySem PySem.Spec PyProof.Rows
section
variable {X : Cx} {e st : Expr} {te : TE} {lo hi : Option Expr} {tl th ts : TO} {p2 pos : Pos}
end
end L2
set_option Elab.async false
set_option linter.all false
set_option maxRecDepth 100000
set_option maxHeartbeats 4000000
namespace L2
open PySem PySem.Spec PyProof.Rows
theorem j0 {α : Type} (p q : α -> Bool) : ∀ (l : List α), (∀ x ∈ l, ¬ (p x = true /\ q x = true)) -> l.countP (fun x => p x || q x) = l.countP p + l.countP q
 | [], _ => rfl
 | x :: l, h => by
  have ih := j0 p q l fun y hy => h y (by simp [hy])
  have hx := h x (by simp)
  rw [List.countP_cons, List.countP_cons, List.countP_cons, ih]
  cases hp : p x <;> cases hq : q x
  ·simp
  ·simp; omega
  ·simp; omega
  ·exact absurd ⟨hp, hq⟩ hx
theorem ZT (n y : Nat) (h : y < n) : (List.range n).countP (fun x => decide (x = y)) = 1 := by
 induction n with
 | zero => omega
 | succ n ih =>
  rw [List.range_succ, List.countP_append]
  by_cases e : y = n
  ·subst e
   have : (List.range y).countP (fun x => decide (x = y)) = 0 := by
    rw [List.countP_eq_zero]
    intro x hx
    have : x < y := by simpa using hx
    simp; omega
   rw [this]; simp
  ·rw [ih (by omega)]
   have : ¬ n = y := fun z => e z.symm
   simp [this]
theorem yo (n : Nat) : ∀ (R : List Nat), R.Nodup -> (∀ x ∈ R, x < n) -> (List.range n).countP (fun x => decide (x ∈ R)) = R.length
 | [], _, _ => by simp
 | y :: R, nd, hb => by
  have hy := List.nodup_cons.mp nd
  have e : (fun x => decide (x ∈ y :: R)) = fun x => decide (x = y) || decide (x ∈ R) := by
   funext x
   rw [Bool.eq_iff_iff]
   simp
  rw [e, j0, ZT n y (hb y (by simp)), yo n R hy.2 fun x hx => hb x (by simp [hx]), List.length_cons, Nat.add_comm]
  intro x _ ⟨h1, h2⟩
  have h1' : x = y := by simpa using h1
  subst h1'
  exact hy.1 (by simpa using h2)
theorem Q1 {n : Nat} {os : List Int} (h : zl n os) {i : Nat} (hi : i < n) : 1 < per os (i : Int) ↔ ¬ os.getD i 0 = (i : Int) := by
 obtain ⟨M, hM, hMn⟩ := qX h (p := (i : Int)) (by omega) (by omega)
 rw [hM.per]
 have e1 : itn os 1 (i : Int) = os.getD i 0 := by
  show os.getD ((i : Int)).toNat 0 = _
  rw [Int.toNat_natCast]
 constructor
 ·intro z e
  exact hM.2.2 1 (Nat.le_refl _) z (by rw [e1, e])
 ·intro z
  rcases Nat.lt_or_ge 1 M with y | y
  ·exact y
  ·have : M = 1 := by have := hM.1; omega
   rw [this] at hM
   exact absurd (by rw [<- e1, hM.2.1]) z
theorem J7 {n : Nat} {os : List Int} (h : zl n os) {p : Int} (p0 : 0 <= p) (p1 : p < n) {M : Nat} (hM : qP os p M) : (itl os p M).Nodup := by
 rw [List.nodup_iff_pairwise_ne, List.pairwise_iff_getElem]
 intro i j hi hj hij e
 rw [zP] at hi hj
 have e' : itn os i p = itn os j p := by
  have e1 : (itl os p M)[i]'(by rw [zP]; exact hi) = itn os i p := by simp [itl]
  have e2 : (itl os p M)[j]'(by rw [zP]; exact hj) = itn os j p := by simp [itl]
  rw [<- e1, <- e2]; exact e
 have b := qr h p0 p1 (j - i)
 have e2 : itn os (j - i) p = p := by
  refine (xK h p0 p1 b.1 b.2 i ?_).symm
  rw [<- jd, show i + (j - i) = j by omega]
  exact e'
 exact hM.2.2 (j - i) (by omega) (by omega) e2
theorem Z1 {n : Nat} {os : List Int} (h : zl n os) {i x : Nat} (hi : i < n) (hx : x < n) (hp : 1 < per os (i : Int)) (r : Rch os (i : Int) (x : Int)) : ¬ os.getD x 0 = (x : Int) := by
 intro e
 have r2 := r.symm h (by omega) (by omega)
 obtain ⟨k, hk⟩ := r2
 have hfix : ∀ k, itn os k (x : Int) = (x : Int) := by
  intro k
  induction k with
  | zero => rfl
  | succ k ih =>
   show nxt os (itn os k (x : Int)) = _
   rw [ih]
   show os.getD ((x : Int)).toNat 0 = _
   rw [Int.toNat_natCast, e]
 rw [hfix k] at hk
 have : x = i := by omega
 subst this
 exact (Q1 h hi).mp hp e
open Classical in
noncomputable def yG (os : List Int) (n i : Nat) : Nat := (List.range n).countP fun (x : Nat) => decide (zZ os i (x : Int) /\ ¬ os.getD x 0 = (x : Int))
noncomputable def kO (rs : List (List Int)) : Nat := (rs.map List.length).sum
theorem Xd (a b : List (List Int)) : kO (a ++ b) = kO a + kO b := by unfold kO; rw [List.map_append, List.sum_append]
open Classical in
theorem yz {n : Nat} {os : List Int} (h : zl n os) : ∀ i, i <= n -> kO (zg os i) = yG os n i
 | 0, _ => by
  unfold yG
  have : (List.range n).countP (fun (x : Nat) => decide (zZ os 0 (x : Int) /\ ¬ os.getD x 0 = (x : Int))) = 0 := by
   rw [List.countP_eq_zero]
   intro x _ hx
   have := (of_decide_eq_true hx).1
   obtain ⟨q, hq, _⟩ := this
   omega
  rw [this]; rfl
 | i + 1, hi => by
  have ih := yz h i (by omega)
  show kO (zg os i ++ _) = _
  rw [Xd, ih]
  obtain ⟨M, hM, hMn⟩ := qX h (p := (i : Int)) (by omega) (by omega)
  by_cases hL : kB os i
  ·have hns := jr.mp hL
   by_cases hp : 1 < per os (i : Int)
   ·rw [if_pos ⟨hL, hp⟩]
    have e : (fun x : Nat => decide (zZ os (i + 1) (x : Int) /\ ¬ os.getD x 0 = (x : Int))) = fun x : Nat => decide (zZ os i (x : Int) /\ ¬ os.getD x 0 = (x : Int)) || decide (Rch os (i : Int) (x : Int) /\ ¬ os.getD x 0 = (x : Int)) := by
     funext x
     rw [Bool.eq_iff_iff, Bool.or_eq_true, decide_eq_true_eq, decide_eq_true_eq, decide_eq_true_eq, zZ.succ]
     constructor
     ·rintro ⟨a | a, b⟩
      ·exact .inl ⟨a, b⟩
      ·exact .inr ⟨a, b⟩
     ·rintro (⟨a, b⟩ | ⟨a, b⟩)
      ·exact ⟨.inl a, b⟩
      ·exact ⟨.inr a, b⟩
    unfold yG
    rw [e, j0]
    ·congr 1
     have e2 : (List.range n).countP (fun x : Nat => decide (Rch os (i : Int) (x : Int) /\ ¬ os.getD x 0 = (x : Int))) = (List.range n).countP (fun x : Nat => decide (x ∈ (itl os (i : Int) M).map Int.toNat)) := by
      refine List.countP_congr fun x hx => ?_
      have hx' : x < n := by simpa using hx
      rw [decide_eq_true_eq, decide_eq_true_eq, List.mem_map]
      constructor
      ·rintro ⟨r, _⟩
       exact ⟨(x : Int), (Rch.mem_ring hM).mp r, by simp⟩
      ·rintro ⟨y, hy, e⟩
       obtain ⟨k, hk, ek⟩ := jc.mp hy
       have b := qr h (p := (i : Int)) (by omega) (by omega) k
       have hyx : y = (x : Int) := by omega
       rw [hyx] at hy
       have r := (Rch.mem_ring hM).mpr hy
       exact ⟨r, Z1 h (by omega) hx' hp r⟩
     have hnd := J7 h (p := (i : Int)) (by omega) (by omega) hM
     rw [e2, yo]
     ·rw [List.length_map, zP]
      unfold kO zB
      rw [hM.per]
      simp [zP]
     ·rw [List.nodup_iff_pairwise_ne, List.pairwise_map]
      refine List.Pairwise.imp_of_mem (fun {a b} ha hb hab e => ?_) (List.nodup_iff_pairwise_ne.mp hnd)
      obtain ⟨k1, _, e1⟩ := jc.mp ha
      obtain ⟨k2, _, e2⟩ := jc.mp hb
      have b1 := qr h (p := (i : Int)) (by omega) (by omega) k1
      have b2 := qr h (p := (i : Int)) (by omega) (by omega) k2
      exact hab (by omega)
     ·intro x hx
      obtain ⟨y, hy, e⟩ := List.mem_map.mp hx
      obtain ⟨k, hk, ek⟩ := jc.mp hy
      have b := qr h (p := (i : Int)) (by omega) (by omega) k
      omega
    ·intro x _ ⟨h1, h2⟩
     exact zZ.apart h (by omega) hns (of_decide_eq_true h2).1 (of_decide_eq_true h1).1
   ·rw [if_neg (fun z => hp z.2)]
    have e : yG os n (i + 1) = yG os n i := by
     unfold yG
     refine List.countP_congr fun x hx => ?_
     have hx' : x < n := by simpa using hx
     rw [decide_eq_true_eq, decide_eq_true_eq, zZ.succ]
     have hfix : os.getD i 0 = (i : Int) := Classical.byContradiction fun z => hp ((Q1 h (by omega)).mpr z)
     constructor
     ·rintro ⟨a | a, b⟩
      ·exact ⟨a, b⟩
      ·exfalso
       obtain ⟨k, hk⟩ := a
       have hstay : ∀ k, itn os k (i : Int) = (i : Int) := by
        intro k
        induction k with
        | zero => rfl
        | succ k ih =>
         show nxt os (itn os k (i : Int)) = _
         rw [ih]
         show os.getD ((i : Int)).toNat 0 = _
         rw [Int.toNat_natCast, hfix]
       rw [hstay k] at hk
       have : i = x := by omega
       subst this
       exact b hfix
     ·rintro ⟨a, b⟩
      exact ⟨.inl a, b⟩
    rw [e]
    rfl
  ·rw [if_neg (fun z => hL z.1)]
   have hs : zZ os i (i : Int) := Classical.byContradiction fun z => hL (jr.mpr z)
   have e : yG os n (i + 1) = yG os n i := by
    unfold yG
    refine List.countP_congr fun x hx => ?_
    rw [decide_eq_true_eq, decide_eq_true_eq, zZ.step h (by omega) hs]
   rw [e]
   rfl
open Classical in
theorem yd {n : Nat} {os : List Int} (h : zl n os) : kO (zg os n) = kR os n := by
 rw [yz h n (Nat.le_refl n)]
 unfold yG kR
 rw [List.countP_eq_length_filter]
 congr 1
 refine List.filter_congr fun x hx => ?_
 have hx' : x < n := by simpa using hx
 rw [Bool.eq_iff_iff]
 constructor
 ·intro z
  have := (of_decide_eq_true z).2
  simpa using this
 ·intro z
  have z' : ¬ os.getD x 0 = (x : Int) := by simpa using z
  exact decide_eq_true ⟨⟨x, hx', Rch.refl⟩, z'⟩
end L2
set_option Elab.async false
set_option linter.all false
set_option maxRecDepth 100000
set_option maxHeartbeats 4000000
namespace L2
open PySem PySem.Spec PyProof.Rows
end L2
set_option Elab.async false
set_option linter.all false
set_option maxRecDepth 100000
set_option maxHeartbeats 4000000
namespace L2
open PySem PySem.Spec PyProof.Rows
noncomputable def qL (n b e : Nat) : List Int := qq 0 1 b ++ qq ((e : Int) - 1) (-1) (e - b) ++ qq (e : Int) 1 (n - e)
theorem Jw {n b e : Nat} (h1 : b <= e) (h2 : e <= n) : (qL n b e).length = n := by
 unfold qL
 rw [List.length_append, List.length_append, zr, zr, zr]; omega
theorem qI {n b e t : Nat} (h1 : b <= e) (h2 : e <= n) (ht : t < n) : (qL n b e).getD t 0 = if b <= t /\ t < e then ((b + e - 1 - t : Nat) : Int) else (t : Int) := by
 unfold qL
 rw [List.getD_eq_getElem?_getD]
 by_cases c1 : t < b
 ·rw [if_neg (by omega), List.getElem?_append_left (by rw [List.length_append, zr, zr]; omega), List.getElem?_append_left (by rw [zr]; exact c1)]
  unfold qq
  rw [List.getElem?_map, List.getElem?_range c1]
  show (0 : Int) + (t : Int) * 1 = _
  omega
 ·by_cases c2 : t < e
  ·rw [if_pos ⟨by omega, c2⟩, List.getElem?_append_left (by rw [List.length_append, zr, zr]; omega), List.getElem?_append_right (by rw [zr]; omega), zr]
   unfold qq
   rw [List.getElem?_map, List.getElem?_range (by omega)]
   show ((e : Int) - 1) + ((t - b : Nat) : Int) * (-1) = _
   omega
  ·rw [if_neg (by omega), List.getElem?_append_right (by rw [List.length_append, zr, zr]; omega), List.length_append, zr, zr]
   unfold qq
   rw [List.getElem?_map, List.getElem?_range (by omega)]
   show (e : Int) + ((t - (b + (e - b)) : Nat) : Int) * 1 = _
   omega
theorem va {n b e : Nat} (h1 : b <= e) (h2 : e <= n) : zl n (qL n b e) := by
 refine qU (Jw h1 h2) (fun i hi => ?_) (fun i j hi hj e => ?_)
 ·rw [qI h1 h2 hi]; split <;> omega
 ·rw [qI h1 h2 hi, qI h1 h2 hj] at e
  split at e <;> split at e <;> omega
end L2
set_option Elab.async false
set_option linter.all false
set_option maxRecDepth 100000
set_option maxHeartbeats 4000000
namespace L2
open PySem PySem.Spec PyProof.Rows
section
variable {X : Cx}
variable {o e : Expr} {es : List Expr} {to : TE} {t : TA} {name : Str} {apos cpos : Pos} {T id : String} {r : V -> List V -> Hp -> VK -> Prop} {K : PySem.W.Frag}
end
end L2
set_option Elab.async false
set_option linter.all false
set_option maxRecDepth 100000
set_option maxHeartbeats 4000000
namespace L2
open PySem PySem.Spec PyProof.Rows
section
variable {X : Cx} {tg : Expr}
end
inductive Dd where
 | take (p : Nat) | move (p g : Nat) | lay (g : Nat)
noncomputable abbrev RS := List (Option Int) × Option Int × List Int
noncomputable def inc (mv : List Int) (x : Int) : List Int := mv.set x.toNat (mv.getD x.toNat 0 + 1)
inductive Do : Dd -> RS -> RS -> Prop
 | take {p : Nat} {row : List (Option Int)} {mv : List Int} {x : Int} : row[p]? = some (some x) -> Do (.take p) (row, none, mv) (row.set p none, some x, inc mv x)
 | move {p g : Nat} {row : List (Option Int)} {h : Option Int} {mv : List Int} {x : Int} : row[p]? = some (some x) -> row[g]? = some none -> Do (.move p g) (row, h, mv) ((row.set p none).set g (some x), h, inc mv x)
 | lay {g : Nat} {row : List (Option Int)} {mv : List Int} {x : Int} : row[g]? = some none -> Do (.lay g) (row, some x, mv) (row.set g (some x), none, inc mv x)
inductive Dos : List Dd -> RS -> RS -> Prop
 | nil {s : RS} : Dos [] s s
 | cons {d : Dd} {l : List Dd} {s t u : RS} : Do d s t -> Dos l t u -> Dos (d :: l) s u
end L2
set_option Elab.async false
set_option linter.all false
set_option maxRecDepth 100000
set_option maxHeartbeats 4000000
namespace L2
open PySem PySem.Spec PyProof.Rows
section
variable {X : Cx} {K : PySem.W.Frag}
end
end L2
set_option Elab.async false
set_option linter.all false
set_option maxRecDepth 100000
set_option maxHeartbeats 4000000
namespace L2
open PySem PySem.Spec PyProof.Rows
section
variable {X : Cx}
end
end L2
set_option Elab.async false
set_option linter.all false
set_option maxRecDepth 100000
set_option maxHeartbeats 4000000
namespace L2
open PySem PySem.Spec PyProof.Rows
section
variable {X : Cx}
end
section
variable {X : Cx} {e st : Expr} {te : TE} {ts : TO} {p2 pos : Pos}
end
end L2
set_option Elab.async false
set_option linter.all false
set_option maxRecDepth 100000
set_option maxHeartbeats 4000000
namespace L2
open PySem PySem.Spec PyProof.Rows
section
variable {X : Cx}
end
end L2
set_option Elab.async false
set_option linter.all false
set_option maxRecDepth 100000
set_option maxHeartbeats 4000000
namespace L2
open PySem PySem.Spec PyProof.Rows
noncomputable def AtM (K : PySem.W.Frag) (C : Addr) (m qual : Str) (st : Stmt) : Prop := ∃ f fd, Fun K m qual st f fd /\ D6 K C m f
section
variable {X : Cx} {k : Nat} {C : Addr} {m x : Str} {ps : List Str} {sp : Sp} {p pos apos : Pos} {o e : Expr} {es : List Expr} {t : TA} {to : TE}
end
structure KD (K : PySem.W.Frag) (w : World) (a : Addr) (kvs : List (Key × V)) : Prop where
 ex : ∃ es ep, K.lookup a = some ⟨.type "dict", none, .dict es ep, #[]⟩ /\ ∀ P : Program, PySem.KeysOf (zX P w) es /\ ∃ vs, KV kvs vs /\ Pairs (zX P w) es.toList vs /\ (vs.map (·.1)).Nodup
 ns : (a == sysModules) = false
section
variable {X : Cx} {e : Expr} {ty : TE} {p apos cpos : Pos} {x : Str} {a : Addr} {kvs : List (Key × V)}
end
end L2
set_option Elab.async false
set_option linter.all false
set_option maxRecDepth 100000
set_option maxHeartbeats 4000000
namespace L2
open PySem PySem.Spec PyProof.Rows
section
variable {X : Cx}
end
theorem Ed {K : PySem.W.Frag} {C f : Addr} {m qual : Str} {st : Stmt} {oc kV dc pm cd ct : Value} {od an : Option Addr} {sl : Array (Option Value)} (a1 : PySem.W.findIn K (.ref C) m = some (some (.ref f))) (i1 : PySem.W.isFn K (.ref f) = true)
  (l1 : K.lookup f = some ⟨oc, od, .func (PySem.W.fnOf m qual (jb st) (qA st) (zf st) .none kV dc pm an cd ct), sl⟩) (c1 : PySem.W.codeIn K cd qual = true) (k1 : PySem.W.keepIn K (.ref f) = true) : AtM K C m qual st := ⟨f, _, YR l1 c1 k1, ⟨a1, i1, k1⟩⟩
end L2
set_option Elab.async false
set_option linter.all false
set_option maxRecDepth 100000
set_option maxHeartbeats 4000000
namespace L2
open PySem PySem.Spec PyProof.Rows
section
variable {X : Cx}
end
end L2
set_option Elab.async false
set_option linter.all false
set_option maxRecDepth 100000
set_option maxHeartbeats 4000000
namespace L2
open PySem PySem.Spec PyProof.Rows
structure ScG (X : Cx) (ts : List Nat) (scope : Scope) : Prop where
 kind : scope.kind = .function
 cell : ∀ y ∈ scope.names, y.2 = .cell -> scope.names.lookup y.1 = some .cell
 loc : ∀ y ∈ scope.names, y.2 = .local -> scope.names.lookup y.1 = some .local
 free : ∀ y ∈ scope.names, y.2 = .free -> X.env.kindOf y.1 = some .cell \/ X.env.kindOf y.1 = some .free
 ts : ∀ (i : Nat) x, X.N[i]? = some x -> scope.names.lookup x = some .local \/ scope.names.lookup x = some .cell -> i ∈ ts
section
variable {X : Cx} {ts : List Nat} {scope : Scope} {pins : List (Addr × Obj)} {σ : St} {H : Hp} {s : Shared} {fp : List Addr}
end
section
variable {X : Cx} {ts : List Nat} {scope : Scope} {tg iter elt : Expr} {ifs : List Expr} {wi : TI} {g : TG} {tt : TT} {te : TE} {pos : Pos}
end
end L2
set_option Elab.async false
set_option linter.all false
set_option maxRecDepth 100000
set_option maxHeartbeats 4000000
namespace L2
open PySem PySem.Spec PyProof.Rows
section
variable {X : Cx}
end
end L2
set_option Elab.async false
set_option linter.all false
set_option maxRecDepth 100000
set_option maxHeartbeats 4000000
namespace L2
open PySem PySem.Spec PyProof.Rows
inductive Dat where
 | non | bl (b : Bool) | int (i : Int) | str (x : Str) | ty (n : String) | lst (l : List Dat) | tup (l : List Dat) | rng (lo hi c : Int) | scr (K : PySem.W.Frag) (l : List Int)
inductive AV where
 | d (x : Dat) | ref (a : Addr)
inductive MO where
 | lst (l : List AV) | dK (kvs : List (Key × AV)) | ins (C : Addr) (fs : List (Str × AV))
noncomputable abbrev MH := Addr -> Option MO
noncomputable abbrev ASt := List (Option AV)
noncomputable def mup (M : MH) (a : Addr) (o : MO) : MH := fun b => if b = a then some o else M b
theorem zA {M : MH} {a : Addr} {o : MO} : mup M a o a = some o := if_pos rfl
theorem zR {M : MH} {a b : Addr} {o : MO} (h : b ≠ a) : mup M a o b = M b := if_neg h
theorem Wm {M : MH} {a : Addr} {o u : MO} : mup (mup M a o) a u = mup M a u := by
 funext b; unfold mup; split <;> rfl
noncomputable abbrev Own := Addr -> Prop
inductive Rep (H : Hp) (O : Own) : V -> Dat -> Prop
 | non : Rep H O .non .non
 | bl {b : Bool} : Rep H O (.bl b) (.bl b)
 | int {i : Int} : Rep H O (.int i) (.int i)
 | str {x : Str} : Rep H O (.str x) (.str x)
 | ty {n : String} : Rep H O (.ty n) (.ty n)
 | lst {a : Addr} {xs : List V} {l : List Dat} : ¬ O a -> H a = some (.lst xs) -> xs.length = l.length -> (∀ (i : Nat) x d, xs[i]? = some x -> l[i]? = some d -> Rep H O x d) -> Rep H O (.ref a) (.lst l)
 | tup {a : Addr} {xs : List V} {l : List Dat} : ¬ O a -> H a = some (.tup xs) -> xs.length = l.length -> (∀ (i : Nat) x d, xs[i]? = some x -> l[i]? = some d -> Rep H O x d) -> Rep H O (.ref a) (.tup l)
 | rng {a : Addr} {lo hi c : Int} : ¬ O a -> H a = some (Zu a lo hi c) -> Rep H O (.ref a) (.rng lo hi c)
 | scr {a : Addr} {K : PySem.W.Frag} {l : List Int} : ¬ O a -> Rd H a (.lst (l.map V.int)) -> Rep H O (.ref a) (.scr K l)
 | scrK {a : Addr} {K : PySem.W.Frag} {l : List Int} : SqL K (fun _ => none) a (l.map V.int) -> Rep H O (.ref a) (.scr K l)
noncomputable def Jv (H : Hp) (O : Own) (xs : List V) (l : List Dat) : Prop := xs.length = l.length /\ ∀ (i : Nat) x d, xs[i]? = some x -> l[i]? = some d -> Rep H O x d
noncomputable def zw (H : Hp) (O : Own) (M : MH) (v : V) : AV -> Prop
 | .d x => Rep H O v x
 | .ref a => v = .ref a /\ M a ≠ none
noncomputable def zi (H : Hp) (O : Own) (M : MH) (xs : List V) (l : List AV) : Prop := xs.length = l.length /\ ∀ (i : Nat) x d, xs[i]? = some x -> l[i]? = some d -> zw H O M x d
noncomputable def wj {κ : Type} (H : Hp) (O : Own) (M : MH) (xs : List (κ × V)) (l : List (κ × AV)) : Prop := xs.map (·.1) = l.map (·.1) /\ zi H O M (xs.map (·.2)) (l.map (·.2))
noncomputable def qO (H : Hp) (O : Own) (M : MH) (a : Addr) : MO -> Prop
 | .lst l => ∃ xs, H a = some (.lst xs) /\ zi H O M xs l
 | .dK kvs => ∃ xs, H a = some (.dK xs) /\ wj H O M xs kvs
 | .ins C fs => ∃ dx xs, H a = some (.ins C dx xs) /\ wj H O M xs fs /\ O dx /\ M dx = none /\ H dx = some (.own a)
structure Wf (H : Hp) (O : Own) (M : MH) : Prop where
 mo : ∀ a o, M a = some o -> qO H O M a o
 own : ∀ a, M a ≠ none -> O a
 al : ∀ a, O a -> ∃ o, H a = some o /\ ∀ xs, o ≠ .tup xs
theorem Wf.ne {H : Hp} {O : Own} {M : MH} (w : Wf H O M) (a : Addr) (h : O a) : H a ≠ none := by obtain ⟨o, e, _⟩ := w.al a h; rw [e]; exact fun z => nomatch z
structure Ext (H : Hp) (O : Own) (M : MH) (H' : Hp) (O' : Own) (M' : MH) : Prop where
 fix : ∀ a o, ¬ O a -> H a = some o -> H' a = some o /\ ¬ O' a
 prv : ∀ a, O a -> M a = none -> H' a = H a /\ O' a /\ M' a = none
 mst : ∀ a, M a ≠ none -> M' a ≠ none
theorem Ext.refl {H : Hp} {O : Own} {M : MH} : Ext H O M H O M := ⟨fun _ _ h e => ⟨e, h⟩, fun _ h e => ⟨rfl, h, e⟩, fun _ h => h⟩
theorem Ext.trans {H H1 H2 : Hp} {O O1 O2 : Own} {M M1 M2 : MH} (a : Ext H O M H1 O1 M1) (b : Ext H1 O1 M1 H2 O2 M2) : Ext H O M H2 O2 M2 :=
 ⟨fun x o h e => let ⟨e1, h1⟩ := a.fix x o h e; b.fix x o h1 e1, fun x h e => by
  obtain ⟨e1, h1, n1⟩ := a.prv x h e
  obtain ⟨e2, h2, n2⟩ := b.prv x h1 n1
  exact ⟨e2.trans e1, h2, n2⟩, fun x h => b.mst x (a.mst x h)⟩
theorem Rep.imp {H H' : Hp} {O O' : Own} (k : ∀ a o, ¬ O a -> H a = some o -> H' a = some o /\ ¬ O' a) {v : V} {d : Dat} (r : Rep H O v d) : Rep H' O' v d := by
 induction r with
 | non => exact .non
 | bl => exact .bl
 | int => exact .int
 | str => exact .str
 | ty => exact .ty
 | lst h e l _ ih => exact .lst (k _ _ h e).2 (k _ _ h e).1 l ih
 | tup h e l _ ih => exact .tup (k _ _ h e).2 (k _ _ h e).1 l ih
 | rng h e => exact .rng (k _ _ h e).2 (k _ _ h e).1
 | scr h e =>
  rcases e with e | ⟨o, e⟩
  ·exact .scr (k _ _ h e).2 (.inl (k _ _ h e).1)
  ·exact .scr (k _ _ h e).2 (.inr ⟨o, (k _ _ h e).1⟩)
 | scrK h => exact .scrK h
theorem Wo {H : Hp} {O : Own} {K : PySem.W.Frag} {v : V} {l : List Int} (r : Rep H O v (.scr K l)) : ∃ a, v = .ref a /\ SqL K H a (l.map V.int) := by
 cases r with
 | @scr a _ _ _ h => exact ⟨a, rfl, .inl h⟩
 | @scrK a _ _ h =>
  rcases h with (h | ⟨o, h⟩) | h
  ·cases h
  ·cases h
  ·exact ⟨a, rfl, .inr h⟩
theorem Vv {H : Hp} {O : Own} {K : PySem.W.Frag} {a : Addr} {l : List Int} (ho : ∀ a, ¬ O a) (h : SqL K H a (l.map V.int)) : Rep H O (.ref a) (.scr K l) := by
 rcases h with h | h
 ·exact .scr (ho a) h
 ·exact .scrK (.inr h)
theorem Rep.ext {H H' : Hp} {O O' : Own} {M M' : MH} (k : Ext H O M H' O' M') {v : V} {d : Dat} (r : Rep H O v d) : Rep H' O' v d := r.imp k.fix
theorem zw.ext {H H' : Hp} {O O' : Own} {M M' : MH} (k : Ext H O M H' O' M') {v : V} {x : AV} (r : zw H O M v x) : zw H' O' M' v x := by
 cases x with
 | d x => exact Rep.ext k r
 | ref a => exact ⟨r.1, k.mst a r.2⟩
theorem zi.ext {H H' : Hp} {O O' : Own} {M M' : MH} (k : Ext H O M H' O' M') {xs : List V} {l : List AV} (r : zi H O M xs l) : zi H' O' M' xs l := ⟨r.1, fun i x d e1 e2 => (r.2 i x d e1 e2).ext k⟩
theorem wj.ext {κ : Type} {H H' : Hp} {O O' : Own} {M M' : MH} (k : Ext H O M H' O' M') {xs : List (κ × V)} {l : List (κ × AV)} (r : wj H O M xs l) : wj H' O' M' xs l := ⟨r.1, r.2.ext k⟩
theorem zi.nil {H : Hp} {O : Own} {M : MH} : zi H O M [] [] := ⟨rfl, fun i x d e => by simp at e⟩
theorem zi.cons {H : Hp} {O : Own} {M : MH} {x : V} {d : AV} {xs : List V} {l : List AV} (h : zw H O M x d) (r : zi H O M xs l) : zi H O M (x :: xs) (d :: l) :=
 ⟨by simp [r.1], fun i y e h1 h2 => by
  cases i with
  | zero => simp at h1 h2; subst h1 h2; exact h
  | succ i => simp at h1 h2; exact r.2 i y e h1 h2⟩
theorem zi.head {H : Hp} {O : Own} {M : MH} {x : V} {d : AV} {xs : List V} {l : List AV} (r : zi H O M (x :: xs) (d :: l)) : zw H O M x d /\ zi H O M xs l :=
 ⟨r.2 0 x d rfl rfl, by have := r.1; simpa using this, fun i y e h1 h2 => r.2 (i + 1) y e (by simpa using h1) (by simpa using h2)⟩
theorem zi.nil_inv {H : Hp} {O : Own} {M : MH} {xs : List V} (r : zi H O M xs []) : xs = [] := List.length_eq_zero_iff.mp r.1
theorem zi.cons_inv {H : Hp} {O : Own} {M : MH} {xs : List V} {d : AV} {l : List AV} (r : zi H O M xs (d :: l)) : ∃ x r', xs = x :: r' /\ zw H O M x d /\ zi H O M r' l := by
 cases xs with
 | nil => have := r.1; simp at this
 | cons x r' => exact ⟨x, r', rfl, r.head⟩
theorem zi.append {H : Hp} {O : Own} {M : MH} {xs ys : List V} {l m : List AV} (a : zi H O M xs l) (b : zi H O M ys m) : zi H O M (xs ++ ys) (l ++ m) :=
 ⟨by rw [List.length_append, List.length_append, a.1, b.1], fun i x d h1 h2 => by
  by_cases c : i < xs.length
  ·rw [List.getElem?_append_left c] at h1
   rw [List.getElem?_append_left (by rw [<- a.1]; exact c)] at h2
   exact a.2 i x d h1 h2
  ·rw [List.getElem?_append_right (by omega)] at h1
   rw [List.getElem?_append_right (by rw [<- a.1]; omega), <- a.1] at h2
   exact b.2 _ x d h1 h2⟩
theorem zi.snoc {H : Hp} {O : Own} {M : MH} {xs : List V} {l : List AV} {x : V} {d : AV} (a : zi H O M xs l) (b : zw H O M x d) : zi H O M (xs ++ [x]) (l ++ [d]) := a.append (.cons b .nil)
theorem zi.set {H : Hp} {O : Own} {M : MH} {xs : List V} {l : List AV} {x : V} {d : AV} (a : zi H O M xs l) (b : zw H O M x d) (j : Nat) : zi H O M (xs.set j x) (l.set j d) :=
 ⟨by rw [List.length_set, List.length_set, a.1], fun i y e h1 h2 => by
  rw [List.getElem?_set] at h1 h2
  by_cases c : j = i
  ·rw [if_pos c] at h1 h2
   split at h1
   ·split at h2
    ·cases h1; cases h2; exact b
    ·cases h2
   ·cases h1
  ·rw [if_neg c] at h1 h2
   exact a.2 i y e h1 h2⟩
theorem zi.get {H : Hp} {O : Own} {M : MH} {xs : List V} {l : List AV} (a : zi H O M xs l) {i : Nat} {d : AV} (h : l[i]? = some d) : ∃ x, xs[i]? = some x /\ zw H O M x d := by
 have hi := (List.getElem?_eq_some_iff.mp h).1
 have hx : i < xs.length := by rw [a.1]; exact hi
 exact ⟨xs[i], by simp [hx], a.2 i _ _ (by simp [hx]) h⟩
theorem Jv.av {H : Hp} {O : Own} {M : MH} {xs : List V} {l : List Dat} (r : Jv H O xs l) : zi H O M xs (l.map .d) :=
 ⟨by rw [List.length_map]; exact r.1, fun i x d h1 h2 => by
  rw [List.getElem?_map] at h2
  cases e : l[i]? with
  | none => rw [e] at h2; cases h2
  | some y => rw [e] at h2; cases h2; exact r.2 i x y h1 e⟩
theorem zi.pure {H : Hp} {O : Own} {M : MH} {xs : List V} {l : List Dat} (r : zi H O M xs (l.map .d)) : Jv H O xs l :=
 ⟨by have := r.1; rwa [List.length_map] at this, fun i x d h1 h2 => r.2 i x (.d d) h1 (by rw [List.getElem?_map, h2]; rfl)⟩
theorem Wf.fresh {H : Hp} {O : Own} {M : MH} (w : Wf H O M) {p : Addr} (h : H p = none) : ¬ O p /\ M p = none := by
 have : ¬ O p := fun z => w.ne p z h
 exact ⟨this, by
  cases e : M p with
  | none => rfl
  | some o => exact absurd (w.own p (by rw [e]; exact fun z => nomatch z)) this⟩
theorem qO.ext {H H' : Hp} {O O' : Own} {M M' : MH} (k : Ext H O M H' O' M') {a : Addr} {o : MO} (e : H' a = H a) (r : qO H O M a o) : qO H' O' M' a o := by
 cases o with
 | lst l => obtain ⟨xs, h, r⟩ := r; exact ⟨xs, e.trans h, r.ext k⟩
 | dK l => obtain ⟨xs, h, r⟩ := r; exact ⟨xs, e.trans h, r.ext k⟩
 | ins C fs => obtain ⟨dx, xs, h, r, q1, q2, q3⟩ := r; obtain ⟨x1, x2, x3⟩ := k.prv dx q1 q2; exact ⟨dx, xs, e.trans h, r.ext k, x2, x3, x1.trans q3⟩
theorem jz {H : Hp} {O : Own} {M : MH} (w : Wf H O M) {p : Addr} (h : H p = none) (o : HO) : Ext H O M (upd H p o) O M :=
 ⟨fun a u ha e => ⟨by rw [zm (zp e h)]; exact e, ha⟩, fun a ha e => ⟨zm (fun z => w.ne a ha (by rw [z]; exact h)), ha, e⟩, fun _ h => h⟩
theorem Qo {H : Hp} {O : Own} {M : MH} (w : Wf H O M) {p : Addr} (h : H p = none) (o : HO) : Wf (upd H p o) O M :=
 ⟨fun a mo e => qO.ext (jz w h o) (zm (fun z => by rw [z, (w.fresh h).2] at e; cases e)) (w.mo a mo e), w.own, fun a ha => by
  have : a ≠ p := fun z => w.ne a ha (by rw [z]; exact h)
  rw [zm this]; exact w.al a ha⟩
noncomputable def J8 (O : Own) (p : Addr) : Own := fun a => a = p \/ O a
noncomputable def V1 (O : Own) (p : Addr) : Own := fun a => a ≠ p /\ O a
theorem vA {H : Hp} {O : Own} {M : MH} (w : Wf H O M) {p : Addr} (h : M p ≠ none) (o : HO) (mo : MO) : Ext H O M (upd H p o) O (mup M p mo) :=
 ⟨fun a u ha e => ⟨by rw [zm (fun z => ha (by rw [z]; exact w.own p h))]; exact e, ha⟩, fun a ha e => by
  have hne : a ≠ p := fun z => h (by rw [<- z]; exact e)
  exact ⟨zm hne, ha, by rw [zR hne]; exact e⟩, fun a ha => by
  by_cases e : a = p
  ·rw [e, zA]; exact fun z => nomatch z
  ·rw [zR e]; exact ha⟩
theorem AX {H : Hp} {O : Own} {M : MH} (w : Wf H O M) {p : Addr} (h : M p ≠ none) {o : HO} {mo : MO} (ho : ∀ xs, o ≠ .tup xs) (r : qO (upd H p o) O (mup M p mo) p mo) : Wf (upd H p o) O (mup M p mo) := by
 refine ⟨fun a u e => ?_, fun a ha => ?_, fun a ha => ?_⟩
 ·by_cases c : a = p
  ·subst c; rw [zA] at e; cases e; exact r
  ·rw [zR c] at e
   exact qO.ext (vA w h o mo) (zm c) (w.mo a u e)
 ·by_cases c : a = p
  ·subst c; exact w.own a h
  ·rw [zR c] at ha; exact w.own a ha
 ·by_cases c : a = p
  ·rw [c, zh]; exact ⟨o, rfl, ho⟩
  ·rw [zm c]; exact w.al a ha
theorem je {H : Hp} {O : Own} {M : MH} (w : Wf H O M) {p : Addr} (h : H p = none) (o : HO) : Ext H O M (upd H p o) (J8 O p) M :=
 ⟨fun a u ha e => ⟨by rw [zm (zp e h)]; exact e, fun z => z.elim (zp e h) ha⟩, fun a ha e => by
  have hne : a ≠ p := fun z => w.ne a ha (by rw [z]; exact h)
  exact ⟨zm hne, .inr ha, e⟩, fun _ h => h⟩
theorem vY {H : Hp} {O : Own} {M : MH} (w : Wf H O M) {p : Addr} (h : H p = none) (o : HO) (ho : ∀ xs, o ≠ .tup xs) : Wf (upd H p o) (J8 O p) M :=
 ⟨fun a mo e => qO.ext (je w h o) (zm (fun z => by rw [z, (w.fresh h).2] at e; cases e)) (w.mo a mo e), fun a ha => .inr (w.own a ha), fun a ha => by
  by_cases c : a = p
  ·rw [c, zh]; exact ⟨o, rfl, ho⟩
  ·rw [zm c]; exact w.al a (ha.resolve_left c)⟩
theorem xG {H : Hp} {O : Own} {p : Addr} (hO : O p) (o : HO) : ∀ a u, ¬ O a -> H a = some u -> upd H p o a = some u /\ ¬ O a := fun a u ha e => ⟨by rw [zm (fun z => ha (by rw [z]; exact hO))]; exact e, ha⟩
theorem zw.imp {H H' : Hp} {O O' : Own} {M M' : MH} (k : ∀ a o, ¬ O a -> H a = some o -> H' a = some o /\ ¬ O' a) (hm : ∀ a, M a ≠ none -> M' a ≠ none) {v : V} {x : AV} (r : zw H O M v x) : zw H' O' M' v x := by
 cases x with
 | d x => exact Rep.imp k r
 | ref a => exact ⟨r.1, hm a r.2⟩
theorem zi.imp {H H' : Hp} {O O' : Own} {M M' : MH} (k : ∀ a o, ¬ O a -> H a = some o -> H' a = some o /\ ¬ O' a) (hm : ∀ a, M a ≠ none -> M' a ≠ none) {xs : List V} {l : List AV} (r : zi H O M xs l) : zi H' O' M' xs l := ⟨r.1, fun i x d e1 e2 => (r.2 i x d e1 e2).imp k hm⟩
theorem qO.imp {H H' : Hp} {O O' : Own} {M : MH} (k : ∀ a o, ¬ O a -> H a = some o -> H' a = some o /\ ¬ O' a) {a : Addr} {o : MO} (e : H' a = H a) (hd : ∀ dx x, O dx -> M dx = none -> H dx = some (.own x) -> H' dx = some (.own x) /\ O' dx) (r : qO H O M a o) : qO H' O' M a o := by
 cases o with
 | lst l => obtain ⟨xs, h, r⟩ := r; exact ⟨xs, e.trans h, r.imp k fun _ z => z⟩
 | dK l => obtain ⟨xs, h, r⟩ := r; exact ⟨xs, e.trans h, r.1, r.2.imp k fun _ z => z⟩
 | ins C fs => obtain ⟨dx, xs, h, r, q1, q2, q3⟩ := r; exact ⟨dx, xs, e.trans h, ⟨r.1, r.2.imp k fun _ z => z⟩, (hd dx a q1 q2 q3).2, q2, (hd dx a q1 q2 q3).1⟩
theorem ZD {H : Hp} {O : Own} {M : MH} (w : Wf H O M) {p : Addr} (hO : O p) (hM : M p = none) {xs : List V} (hp : H p = some (.lst xs)) (o : HO) (ho : ∀ xs, o ≠ .tup xs) : Wf (upd H p o) O M :=
 ⟨fun a mo e => qO.imp (xG hO o) (zm (fun z => by rw [z, hM] at e; cases e)) (fun dx x h1 _ h3 => ⟨by rw [zm (Qw h3 hp (fun z => nomatch z))]; exact h3, h1⟩) (w.mo a mo e), w.own, fun a ha => by
  by_cases c : a = p
  ·rw [c, zh]; exact ⟨o, rfl, ho⟩
  ·rw [zm c]; exact w.al a ha⟩
theorem xa {H : Hp} {O : Own} (p : Addr) : ∀ a u, ¬ O a -> H a = some u -> H a = some u /\ ¬ V1 O p a := fun a u ha e => ⟨e, fun z => ha z.2⟩
theorem Y1 {H : Hp} {O : Own} {M : MH} (w : Wf H O M) {p : Addr} (hM : M p = none) {xs : List V} (hp : H p = some (.lst xs)) : Wf H (V1 O p) M :=
 ⟨fun a mo e => qO.imp (xa p) rfl (fun dx x h1 _ h3 => ⟨h3, ⟨Qw h3 hp (fun z => nomatch z), h1⟩⟩) (w.mo a mo e), fun a ha => ⟨fun z => ha (by rw [z]; exact hM), w.own a ha⟩, fun a ha => w.al a ha.2⟩
end L2
set_option Elab.async false
set_option linter.all false
set_option maxRecDepth 100000
set_option maxHeartbeats 4000000
namespace L2
open PySem PySem.Spec PyProof.Rows
noncomputable abbrev AK := AV -> MH -> Prop
noncomputable abbrev AE := ASt -> MH -> AK -> Prop
noncomputable abbrev AT := ASt -> MH -> (Bool -> MH -> Prop) -> Prop
noncomputable abbrev AA := ASt -> MH -> (List AV -> MH -> Prop) -> Prop
structure yM where
 nx : ASt -> MH -> Prop
 rt : AK
 bk : ASt -> MH -> Prop := fun _ _ => False
 ct : ASt -> MH -> Prop := fun _ _ => False
noncomputable abbrev AS := MH -> yM -> ASt -> MH -> Prop
noncomputable abbrev AG := AV -> ASt -> MH -> (ASt -> MH -> Prop) -> Prop
noncomputable abbrev AGs := List AV -> ASt -> MH -> (ASt -> MH -> Prop) -> Prop
noncomputable abbrev AI := ASt -> MH -> (List AV -> (MH -> Prop) -> MH -> Prop) -> Prop
structure Er (H : Hp) (O : Own) (M : MH) (σ : St) (ρ : ASt) : Prop where
 len : σ.length = ρ.length
 get : ∀ (i : Nat) x, ρ[i]? = some (some x) -> ∃ v, σ[i]? = some (some v) /\ zw H O M v x
theorem Er.ext {H H' : Hp} {O O' : Own} {M M' : MH} {σ : St} {ρ : ASt} (e : Er H O M σ ρ) (k : Ext H O M H' O' M') : Er H' O' M' σ ρ := ⟨e.len, fun i x h => let ⟨v, h1, h2⟩ := e.get i x h; ⟨v, h1, h2.ext k⟩⟩
theorem Er.set {H : Hp} {O : Own} {M : MH} {σ : St} {ρ : ASt} (e : Er H O M σ ρ) {v : V} {x : AV} (r : zw H O M v x) (j : Nat) : Er H O M (σ.set j (some v)) (ρ.set j (some x)) :=
 ⟨by rw [List.length_set, List.length_set, e.len], fun i y h => by
  rw [List.getElem?_set] at h ⊢
  by_cases c : j = i
  ·rw [if_pos c] at h ⊢
   by_cases c2 : j < ρ.length
   ·rw [if_pos c2] at h; rw [if_pos (by rw [e.len]; exact c2)]; cases h; exact ⟨v, rfl, r⟩
   ·rw [if_neg c2] at h; cases h
  ·rw [if_neg c] at h ⊢; exact e.get i y h⟩
noncomputable def Vg : List Nat -> ASt -> ASt
 | [], σ => σ
 | j :: r, σ => Vg r (σ.set j none)
theorem Er.clr {H : Hp} {O : Own} {M : MH} : ∀ (ts : List Nat) {σ : St} {ρ : ASt}, Er H O M σ ρ -> Er H O M (clr ts σ) (Vg ts ρ)
  | [], _, _, e => e
  | j :: r, σ, ρ, e => Er.clr r ⟨by rw [List.length_set, List.length_set, e.len], fun i y h => by
      rw [List.getElem?_set] at h ⊢
      by_cases c : j = i
      · rw [if_pos c] at h
        split at h <;> cases h
      · rw [if_neg c] at h ⊢; exact e.get i y h⟩
structure zU (t : TE) (a : AE) : Prop where
 go : ∀ {σ : St} {H : Hp} {O : Own} {ρ : ASt} {M : MH} {Q : VK} {Q' : AK}, Wf H O M -> Er H O M σ ρ -> a ρ M Q' -> (∀ x M' v H' O', Q' x M' -> Ext H O M H' O' M' -> Wf H' O' M' -> zw H' O' M' v x -> Q v H') -> t σ H Q
structure kF (t : TT) (a : AT) : Prop where
 go : ∀ {σ : St} {H : Hp} {O : Own} {ρ : ASt} {M : MH} {Q : Bool -> Hp -> Prop} {Q' : Bool -> MH -> Prop}, Wf H O M -> Er H O M σ ρ -> a ρ M Q' -> (∀ b M' H' O', Q' b M' -> Ext H O M H' O' M' -> Wf H' O' M' -> Q b H') -> t σ H Q
structure kW (t : TA) (a : AA) : Prop where
 go : ∀ {σ : St} {H : Hp} {O : Own} {ρ : ASt} {M : MH} {Q : List V -> Hp -> Prop} {Q' : List AV -> MH -> Prop}, Wf H O M -> Er H O M σ ρ -> a ρ M Q' -> (∀ x M' v H' O', Q' x M' -> Ext H O M H' O' M' -> Wf H' O' M' -> zi H' O' M' v x -> Q v H') -> t σ H Q
structure ZR (t : TE) (a : ASt -> MH -> (List AV -> MH -> Prop) -> Prop) : Prop where
 go : ∀ {σ : St} {H : Hp} {O : Own} {ρ : ASt} {M : MH} {Q : VK} {Q' : List AV -> MH -> Prop}, Wf H O M -> Er H O M σ ρ -> a ρ M Q' ->
  (∀ l M' p xs H' O', Q' l M' -> Ext H O M H' O' M' -> Wf H' O' M' -> O' p -> M' p = none -> H p = none -> H' p = some (.lst xs) -> zi H' O' M' xs l -> Q (.ref p) H') -> t σ H Q
noncomputable abbrev AR2 := AV -> AV -> MH -> AK -> Prop
structure ZU (r : R2) (a : AR2) : Prop where
 go : ∀ {x y : V} {dx dy : AV} {H : Hp} {O : Own} {M : MH} {Q : VK} {Q' : AK}, Wf H O M -> zw H O M x dx -> zw H O M y dy -> a dx dy M Q' -> (∀ x M' v H' O', Q' x M' -> Ext H O M H' O' M' -> Wf H' O' M' -> zw H' O' M' v x -> Q v H') -> r x y H Q
structure Ei (r : V -> Hp -> VK -> Prop) (a : AV -> MH -> AK -> Prop) : Prop where
 go : ∀ {x : V} {dx : AV} {H : Hp} {O : Own} {M : MH} {Q : VK} {Q' : AK}, Wf H O M -> zw H O M x dx -> a dx M Q' -> (∀ x M' v H' O', Q' x M' -> Ext H O M H' O' M' -> Wf H' O' M' -> zw H' O' M' v x -> Q v H') -> r x H Q
structure yF (r : List V -> Hp -> VK -> Prop) (a : List AV -> MH -> AK -> Prop) : Prop where
 go : ∀ {vs : List V} {xs : List AV} {H : Hp} {O : Own} {M : MH} {Q : VK} {Q' : AK}, Wf H O M -> zi H O M vs xs -> a xs M Q' -> (∀ x M' v H' O', Q' x M' -> Ext H O M H' O' M' -> Wf H' O' M' -> zw H' O' M' v x -> Q v H') -> r vs H Q
noncomputable def V9 (i : Nat) : AE := fun ρ M Q => ∃ x, ρ[i]? = some (some x) /\ Q x M
noncomputable def aC (d : Dat) : AE := fun _ M Q => Q (.d d) M
theorem VA {i : Nat} : zU (vR i) (V9 i) := ⟨fun w e ⟨x, h, q⟩ k => let ⟨v, h1, h2⟩ := e.get i x h; ⟨v, h1, k _ _ _ _ _ q .refl w h2⟩⟩
theorem BL {i : Int} : zU (tC (.int i)) (aC (.int i)) := ⟨fun w _ q k => k _ _ _ _ _ q .refl w .int⟩
theorem An {i : Bool} : zU (tC (.bl i)) (aC (.bl i)) := ⟨fun w _ q k => k _ _ _ _ _ q .refl w .bl⟩
theorem AD : zU (tC .non) (aC .non) := ⟨fun w _ q k => k _ _ _ _ _ q .refl w .non⟩
theorem BE {i : String} : zU (tC (.ty i)) (aC (.ty i)) := ⟨fun w _ q k => k _ _ _ _ _ q .refl w .ty⟩
noncomputable def aOp (r : AR2) (a b : AE) : AE := fun ρ M Q => a ρ M fun x M1 => b ρ M1 fun y M2 => r x y M2 Q
theorem Bg {r : R2} {ra : AR2} {t u : TE} {a b : AE} (hr : ZU r ra) (h1 : zU t a) (h2 : zU u b) : zU (tOp r t u) (aOp ra a b) :=
 ⟨fun w e q k => h1.go w e q fun x M1 v H1 O1 q1 k1 w1 r1 => h2.go w1 (e.ext k1) q1 fun y M2 u H2 O2 q2 k2 w2 r2 => hr.go w2 (r1.ext k2) r2 q2 fun z M3 v3 H3 O3 q3 k3 w3 r3 => k z M3 v3 H3 O3 q3 ((k1.trans k2).trans k3) w3 r3⟩
noncomputable def BB : AA := fun _ M Q => Q [] M
noncomputable def QH (a : AE) (b : AA) : AA := fun ρ M Q => a ρ M fun x M1 => b ρ M1 fun xs M2 => Q (x :: xs) M2
theorem Vd : kW BH BB := ⟨fun w _ q k => k _ _ _ _ _ q .refl w .nil⟩
theorem Xx {t : TE} {u : TA} {a : AE} {b : AA} (h1 : zU t a) (h2 : kW u b) : kW (KU t u) (QH a b) :=
 ⟨fun w e q k => h1.go w e q fun x M1 v H1 O1 q1 k1 w1 r1 => h2.go w1 (e.ext k1) q1 fun y M2 u H2 O2 q2 k2 w2 r2 => k _ _ _ _ _ q2 (k1.trans k2) w2 (.cons (r1.ext k2) r2)⟩
theorem Z4 {H : Hp} {O : Own} {M : MH} (is : List Int) : zi H O M (is.map V.int) (is.map fun i => .d (.int i)) := by
 induction is with
 | nil => exact .nil
 | cons i r ih => exact .cons .int ih
noncomputable def aCB (r : List AV -> MH -> AK -> Prop) (b : AA) : AE := fun ρ M Q => b ρ M fun xs M1 => r xs M1 Q
theorem AW {r : List V -> Hp -> VK -> Prop} {ra : List AV -> MH -> AK -> Prop} {u : TA} {b : AA} (hr : yF r ra) (h2 : kW u b) : zU (tCB r u) (aCB ra b) :=
 ⟨fun w e q k => h2.go w e q fun x M1 v H1 O1 q1 k1 w1 r1 => hr.go w1 r1 q1 fun z M3 v3 H3 O3 q3 k3 w3 r3 => k z M3 v3 H3 O3 q3 (k1.trans k3) w3 r3⟩
noncomputable abbrev ASp := List AV -> MH -> AK -> Prop
noncomputable def cSp (a : ASp) : Sp := fun vs H Q _ => ∃ xs M O Q', Wf H O M /\ zi H O M vs xs /\ a xs M Q' /\ ∀ x M' v H' O', Q' x M' -> Ext H O M H' O' M' -> Wf H' O' M' -> zw H' O' M' v x -> Q v H'
noncomputable def KY (sp : ASp) (b : AA) : AE := fun ρ M Q => b ρ M fun xs M1 => sp xs M1 Q
theorem X2 {sp : ASp} {u : TA} {b : AA} (h : kW u b) : zU (QL (cSp sp) [] E0 u) (KY sp b) :=
 ⟨fun w e q k => h.go w e q fun x M1 v H1 O1 q1 k1 w1 r1 => ⟨x, M1, O1, _, w1, by rw [List.append_nil]; exact r1, q1, fun z M3 v3 H3 O3 q3 k3 w3 r3 => k z M3 v3 H3 O3 q3 (k1.trans k3) w3 r3⟩⟩
noncomputable def pur : List AV -> Option (List Dat)
 | [] => some []
 | .d x :: r => match pur r with | some l => some (x :: l) | none => none
 | .ref _ :: _ => none
theorem We : pur [] = some [] := rfl
theorem Xh {x : Dat} {r : List AV} {l : List Dat} (h : pur r = some l) : pur (.d x :: r) = some (x :: l) := by unfold pur; rw [h]
theorem jh (l : List Dat) : pur (l.map .d) = some l := by
 induction l with
 | nil => rfl
 | cons x r ih => exact Xh ih
theorem jX : ∀ {xs : List AV} {l : List Dat}, pur xs = some l -> xs = l.map .d
 | [], l, h => by cases h; rfl
 | .d x :: r, l, h => by
  unfold pur at h
  cases e : pur r with
  | none => rw [e] at h; cases h
  | some m => rw [e] at h; cases h; rw [jX e]; rfl
 | .ref _ :: _, _, h => by cases h
theorem Ext.shown {H H' : Hp} {O O' : Own} {M M' : MH} {p : Addr} (w : Wf H O M) (k : Ext H O M H' O' M') (h : H p = none) : Ext H O M H' (V1 O' p) M' :=
 ⟨fun a o ha e => ⟨(k.fix a o ha e).1, fun z => (k.fix a o ha e).2 z.2⟩, fun a ha e => ⟨(k.prv a ha e).1, ⟨fun z => w.ne a ha (by rw [z]; exact h), (k.prv a ha e).2.1⟩, (k.prv a ha e).2.2⟩, k.mst⟩
theorem Ext.owned {H H' : Hp} {O O' : Own} {M M' : MH} {p : Addr} (w : Wf H O M) (k : Ext H O M H' O' M') (h : H p = none) (mo : MO) : Ext H O M H' O' (mup M' p mo) :=
 ⟨k.fix, fun a ha e => ⟨(k.prv a ha e).1, (k.prv a ha e).2.1, by rw [zR (fun z => w.ne a ha (by rw [z]; exact h))]; exact (k.prv a ha e).2.2⟩, fun a ha => by
  by_cases e : a = p
  ·rw [e, zA]; exact fun z => nomatch z
  ·rw [zR e]; exact k.mst a ha⟩
theorem wF {H : Hp} {O : Own} {M : MH} {p : Addr} (w : Wf H O M) (hO : O p) (hM : M p = none) {xs : List V} {l : List AV} (hp : H p = some (.lst xs)) (r : zi H O M xs l) : Wf H O (mup M p (.lst l)) := by
 have km : ∀ a, M a ≠ none -> mup M p (.lst l) a ≠ none := fun a ha => by
  by_cases e : a = p
  ·rw [e, zA]; exact fun z => nomatch z
  ·rw [zR e]; exact ha
 refine ⟨fun a u e => ?_, fun a ha => ?_, w.al⟩
 ·by_cases c : a = p
  ·subst c; rw [zA] at e; cases e; exact ⟨xs, hp, r.imp (fun _ _ z h => ⟨h, z⟩) km⟩
  ·rw [zR c] at e
   have := w.mo a u e
   cases u with
   | lst m => obtain ⟨ys, h1, h2⟩ := this; exact ⟨ys, h1, h2.imp (fun _ _ z h => ⟨h, z⟩) km⟩
   | dK m => obtain ⟨ys, h1, h2⟩ := this; exact ⟨ys, h1, h2.1, h2.2.imp (fun _ _ z h => ⟨h, z⟩) km⟩
   | ins C fs =>
    obtain ⟨dx, ys, h1, h2, h3, h4, h5⟩ := this
    exact ⟨dx, ys, h1, ⟨h2.1, h2.2.imp (fun _ _ z h => ⟨h, z⟩) km⟩, h3, by rw [zR (Qw h5 hp (fun z => nomatch z))]; exact h4, h5⟩
 ·by_cases c : a = p
  ·rw [c]; exact hO
  ·rw [zR c] at ha; exact w.own a ha
noncomputable abbrev AF := ASt -> MH -> (List AV -> MH -> Prop) -> Prop
noncomputable def aFz (a : AF) : AE := fun ρ M Q => a ρ M fun l M' => ∃ ds, pur l = some ds /\ Q (.d (.lst ds)) M'
noncomputable def aOw (a : AF) : AE := fun ρ M Q => a ρ M fun l M' => ∀ p, M p = none -> M' p = none -> Q (.ref p) (mup M' p (.lst l))
noncomputable def Du (t : TE) : TE := t
theorem Qg {X : Cx} {e : Expr} {t : TE} (h : PE X e t) : PE X e (Du t) := h
theorem xC {t : TE} {a : AF} (h : ZR t a) : zU t (aFz a) :=
 ⟨fun w e q k => h.go w e q fun l M' p xs H' O' q1 k1 w1 o1 m1 hp hx r1 => by
  obtain ⟨ds, e1, q2⟩ := q1
  rw [jX e1] at r1
  have r2 := r1.pure
  exact k _ _ _ _ _ q2 (k1.shown w hp) (Y1 w1 m1 hx) (Rep.lst (fun z => z.1 rfl) hx r2.1 fun i x d e1 e2 => (r2.2 i x d e1 e2).imp (xa p))⟩
theorem Wk {t : TE} {a : AF} (h : ZR t a) : zU (Du t) (aOw a) :=
 ⟨fun w e q k => h.go w e q fun l M' p xs H' O' q1 k1 w1 o1 m1 hp hx r1 => k _ _ _ _ _ (q1 p (w.fresh hp).2 m1) (k1.owned w hp _) (wF w1 o1 m1 hx r1) ⟨rfl, by rw [zA]; exact fun z => nomatch z⟩⟩
noncomputable def DQ (b : AA) : AF := fun ρ M Q => b ρ M fun xs M1 => xs.length <= sizeLine /\ Q xs M1
theorem KW {u : TA} {b : AA} (h : kW u b) : ZR (B7 u) (DQ b) :=
 ⟨fun w e q k => h.go w e q fun x M1 v H1 O1 q1 k1 w1 r1 => ⟨by rw [r1.1]; exact q1.1, fun p hp =>
  k x M1 p v _ _ q1.2 (k1.trans (je w1 hp _)) (vY w1 hp _ (fun _ z => nomatch z)) (.inl rfl) (w1.fresh hp).2 (by
   cases e0 : (_ : Hp) p with
   | none => exact e0
   | some o =>
    exfalso
    rename_i H0 O0 _ M0 _ _
    by_cases c : O0 p
    ·by_cases c2 : M0 p = none
     ·exact w1.ne p (k1.prv p c c2).2.1 hp
     ·exact w1.ne p (w1.own p (k1.mst p c2)) hp
    ·rw [(k1.fix p o c e0).1] at hp; cases hp) zh (r1.ext (je w1 hp _))⟩⟩
noncomputable def Dn (b : AA) : AE := fun ρ M Q => b ρ M fun xs M1 => xs.length <= sizeLine /\ ∃ ds, pur xs = some ds /\ Q (.d (.tup ds)) M1
theorem Ww {u : TA} {b : AA} (h : kW u b) : zU (Bt u) (Dn b) :=
 ⟨fun w e q k => h.go w e q fun x M1 v H1 O1 q1 k1 w1 r1 => ⟨by rw [r1.1]; exact q1.1, fun p hp => by
  obtain ⟨_, ds, e1, q2⟩ := q1
  rw [jX e1] at r1
  have r2 := r1.pure
  exact k _ _ _ _ _ q2 (k1.trans (jz w1 hp _)) (Qo w1 hp _) (Rep.tup (w1.fresh hp).1 zh r2.1 fun i x d e1 e2 => (r2.2 i x d e1 e2).ext (jz w1 hp _))⟩⟩
noncomputable def aB (a : AE) : AT := fun ρ M Q => a ρ M fun x M1 => ∃ b, x = .d (.bl b) /\ Q b M1
theorem kA {H : Hp} {O : Own} {v : V} {b : Bool} (r : Rep H O v (.bl b)) : v = .bl b := by cases r; rfl
theorem zJ {H : Hp} {O : Own} {v : V} {b : Int} (r : Rep H O v (.int b)) : v = .int b := by cases r; rfl
theorem KN {H : Hp} {O : Own} {v : V} {b : String} (r : Rep H O v (.ty b)) : v = .ty b := by cases r; rfl
theorem Vz {H : Hp} {O : Own} {v : V} (r : Rep H O v .non) : v = .non := by cases r; rfl
theorem Dv {t : TE} {a : AE} (h : zU t a) : kF (tB t) (aB a) := ⟨fun w e q k => h.go w e q fun x M1 v H1 O1 ⟨b, e1, q1⟩ k1 w1 r1 => by
 subst e1; exact ⟨b, kA r1, k _ _ _ _ q1 k1 w1⟩⟩
theorem X7 {t : TE} {a : AE} (h : zU t a) : kF (yL t) (aB a) := ⟨fun w e q k => h.go w e q fun x M1 v H1 O1 ⟨b, e1, q1⟩ k1 w1 r1 => by
 subst e1; exact ⟨b, kA r1, k _ _ _ _ q1 k1 w1⟩⟩
noncomputable def y6 : AT := fun _ M Q => Q true M
theorem YL : kF XX y6 := ⟨fun w _ q k => k _ _ _ _ q .refl w⟩
noncomputable def aOr (a b : AT) : AT := fun ρ M Q => a ρ M fun c M1 => if c = true then Q true M1 else b ρ M1 Q
noncomputable def Dr (a : AT) : AT := fun ρ M Q => a ρ M fun c M1 => Q (!c) M1
theorem B0 {t u : TT} {a b : AT} (h1 : kF t a) (h2 : kF u b) : kF (tOr t u) (aOr a b) := ⟨fun w e q k => h1.go w e q fun c M1 H1 O1 q1 k1 w1 => by
 cases c with
 | false => exact h2.go w1 (e.ext k1) q1 fun c M2 H2 O2 q2 k2 w2 => k _ _ _ _ q2 (k1.trans k2) w2
 | true => exact k _ _ _ _ q1 k1 w1⟩
theorem Wd {t : TT} {a : AT} (h1 : kF t a) : kF (Bm t) (Dr a) := ⟨fun w e q k => h1.go w e q fun c M1 H1 O1 q1 k1 w1 => k _ _ _ _ q1 k1 w1⟩
noncomputable def WI (a b : AE) : AE := fun ρ M Q => a ρ M fun x M1 => ∃ c, x = .d (.bl c) /\ if c = true then b ρ M1 Q else Q (.d (.bl false)) M1
noncomputable def Dk (a b : AE) : AE := fun ρ M Q => a ρ M fun x M1 => ∃ c, x = .d (.bl c) /\ if c = true then Q (.d (.bl true)) M1 else b ρ M1 Q
theorem KM {t u : TE} {a b : AE} (h1 : zU t a) (h2 : zU u b) : zU (Ky t u) (WI a b) := ⟨fun w e q k => h1.go w e q fun x M1 v H1 O1 ⟨c, e1, q1⟩ k1 w1 r1 => by
 subst e1
 refine ⟨c, kA r1, ?_⟩
 cases c with
 | true => exact h2.go w1 (e.ext k1) q1 fun c M2 v2 H2 O2 q2 k2 w2 r2 => k _ _ _ _ _ q2 (k1.trans k2) w2 r2
 | false => exact k _ _ _ _ _ q1 k1 w1 .bl⟩
theorem Vl {t u : TE} {a b : AE} (h1 : zU t a) (h2 : zU u b) : zU (Bw t u) (Dk a b) := ⟨fun w e q k => h1.go w e q fun x M1 v H1 O1 ⟨c, e1, q1⟩ k1 w1 r1 => by
 subst e1
 refine ⟨c, kA r1, ?_⟩
 cases c with
 | false => exact h2.go w1 (e.ext k1) q1 fun c M2 v2 H2 O2 q2 k2 w2 r2 => k _ _ _ _ _ q2 (k1.trans k2) w2 r2
 | true => exact k _ _ _ _ _ q1 k1 w1 .bl⟩
noncomputable def aIf (c : AT) (a b : AE) : AE := fun ρ M Q => c ρ M fun c M1 => if c = true then a ρ M1 Q else b ρ M1 Q
theorem Aq {c : TT} {t u : TE} {ac : AT} {a b : AE} (hc : kF c ac) (h1 : zU t a) (h2 : zU u b) : zU (tIf c t u) (aIf ac a b) := ⟨fun w e q k => hc.go w e q fun c M1 H1 O1 q1 k1 w1 => by
 cases c with
 | true => exact h1.go w1 (e.ext k1) q1 fun c M2 v2 H2 O2 q2 k2 w2 r2 => k _ _ _ _ _ q2 (k1.trans k2) w2 r2
 | false => exact h2.go w1 (e.ext k1) q1 fun c M2 v2 H2 O2 q2 k2 w2 r2 => k _ _ _ _ _ q2 (k1.trans k2) w2 r2⟩
end L2
set_option Elab.async false
set_option linter.all false
set_option maxRecDepth 100000
set_option maxHeartbeats 4000000
namespace L2
open PySem PySem.Spec PyProof.Rows
structure ED (H0 : Hp) (O0 : Own) (M0 : MH) (D : jJ) (D' : yM) : Prop where
 nx : ∀ σ H O ρ M, Wf H O M -> Er H O M σ ρ -> Ext H0 O0 M0 H O M -> D'.nx ρ M -> D.nx σ H
 rt : ∀ v x H O M, Wf H O M -> Ext H0 O0 M0 H O M -> zw H O M v x -> D'.rt x M -> D.rt v H
 bk : ∀ σ H O ρ M, Wf H O M -> Er H O M σ ρ -> Ext H0 O0 M0 H O M -> D'.bk ρ M -> D.bk σ H
 ct : ∀ σ H O ρ M, Wf H O M -> Er H O M σ ρ -> Ext H0 O0 M0 H O M -> D'.ct ρ M -> D.ct σ H
theorem ED.tr {H0 H1 : Hp} {O0 O1 : Own} {M0 M1 : MH} {D : jJ} {D' : yM} (E : ED H0 O0 M0 D D') (k : Ext H0 O0 M0 H1 O1 M1) : ED H1 O1 M1 D D' :=
 ⟨fun σ H O ρ M w e x q => E.nx σ H O ρ M w e (k.trans x) q, fun v y H O M w x r q => E.rt v y H O M w (k.trans x) r q, fun σ H O ρ M w e x q => E.bk σ H O ρ M w e (k.trans x) q, fun σ H O ρ M w e x q => E.ct σ H O ρ M w e (k.trans x) q⟩
structure jx (t : TS) (a : AS) : Prop where
 go : ∀ {H0 : Hp} {O0 : Own} {M0 : MH} {D : jJ} {D' : yM} {σ : St} {H : Hp} {O : Own} {ρ : ASt} {M : MH}, Wf H0 O0 M0 -> Wf H O M -> Er H O M σ ρ -> Ext H0 O0 M0 H O M -> a M0 D' ρ M -> ED H0 O0 M0 D D' -> t D σ H
noncomputable def Yd : AS := fun _ D ρ M => D.nx ρ M
theorem Xl : jx X6 Yd := ⟨fun _ w e x q E => E.nx _ _ _ _ _ w e x q⟩
noncomputable def kN (a b : AS) : AS := fun B D ρ M => a B { D with nx := b B D } ρ M
theorem Wa {t u : TS} {a b : AS} (h1 : jx t a) (h2 : jx u b) : jx (BX t u) (kN a b) :=
 ⟨fun w0 w e x q E => h1.go w0 w e x q ⟨fun σ H O ρ M w e x q => h2.go w0 w e x q E, E.rt, E.bk, E.ct⟩⟩
noncomputable def DL (a : AE) : AS := fun _ D ρ M => a ρ M D.rt
theorem VH {t : TE} {a : AE} (h : zU t a) : jx (BR t) (DL a) := ⟨fun _ w e x q E => h.go w e q fun y M1 v H1 O1 q1 k1 w1 r1 => E.rt _ _ _ _ _ w1 (x.trans k1) r1 q1⟩
noncomputable def DX (c : AT) (a b : AS) : AS := fun B D ρ M => c ρ M fun k M1 => if k = true then a B D ρ M1 else b B D ρ M1
theorem Wh {c : TT} {t u : TS} {ac : AT} {a b : AS} (hc : kF c ac) (h1 : jx t a) (h2 : jx u b) : jx (BO c t u) (DX ac a b) :=
 ⟨fun w0 w e x q E => hc.go w e q fun k M1 H1 O1 q1 k1 w1 => by
  cases k with
  | true => exact h1.go w0 w1 (e.ext k1) (x.trans k1) q1 E
  | false => exact h2.go w0 w1 (e.ext k1) (x.trans k1) q1 E⟩
noncomputable def KH : AS := fun _ _ _ _ => False
theorem JB : jx Qm KH := ⟨fun _ _ _ _ q _ => q.elim⟩
structure vE (g : TG) (a : AG) : Prop where
 go : ∀ {v : V} {x : AV} {σ : St} {H : Hp} {O : Own} {ρ : ASt} {M : MH} {Q : St -> Hp -> Prop} {Q' : ASt -> MH -> Prop}, Wf H O M -> Er H O M σ ρ -> zw H O M v x -> a x ρ M Q' ->
  (∀ σ' H' O' ρ' M', Q' ρ' M' -> Ext H O M H' O' M' -> Wf H' O' M' -> Er H' O' M' σ' ρ' -> Q σ' H') -> g v σ H Q
structure QI (g : TGs) (a : AGs) : Prop where
 go : ∀ {v : List V} {x : List AV} {σ : St} {H : Hp} {O : Own} {ρ : ASt} {M : MH} {Q : St -> Hp -> Prop} {Q' : ASt -> MH -> Prop}, Wf H O M -> Er H O M σ ρ -> zi H O M v x -> a x ρ M Q' ->
  (∀ σ' H' O' ρ' M', Q' ρ' M' -> Ext H O M H' O' M' -> Wf H' O' M' -> Er H' O' M' σ' ρ' -> Q σ' H') -> g v σ H Q
noncomputable def jl (i : Nat) : AG := fun x ρ M Q => Q (ρ.set i (some x)) M
theorem JL {i : Nat} : vE (wD i) (jl i) := ⟨fun w e r q k => k _ _ _ _ _ q .refl w (e.set r i)⟩
noncomputable def KA : AGs := fun xs ρ M Q => xs = [] /\ Q ρ M
noncomputable def vS (a : AG) (b : AGs) : AGs := fun xs ρ M Q => ∃ x r, xs = x :: r /\ a x ρ M fun ρ' M' => b r ρ' M' Q
theorem XG : QI W3 KA := ⟨fun w e r q k => by obtain ⟨e1, q⟩ := q; subst e1; exact ⟨r.nil_inv, k _ _ _ _ _ q .refl w e⟩⟩
theorem Ju {g : TG} {u : TGs} {a : AG} {b : AGs} (h1 : vE g a) (h2 : QI u b) : QI (K0 g u) (vS a b) := ⟨fun w e r q k => by
 obtain ⟨x, r', e1, q⟩ := q; subst e1
 obtain ⟨v, vr, e2, rv, rr⟩ := r.cons_inv
 subst e2
 exact ⟨v, vr, rfl, h1.go w e rv q fun σ' H' O' ρ' M' q1 k1 w1 e1 => h2.go w1 e1 (rr.ext k1) q1 fun σ2 H2 O2 ρ2 M2 q2 k2 w2 e2 => k _ _ _ _ _ q2 (k1.trans k2) w2 e2⟩⟩
noncomputable def XO (n : Nat) (b : AGs) : AG := fun x ρ M Q => ∃ l, x = .d (.tup l) /\ l.length = n /\ b (l.map .d) ρ M Q
theorem XW {K : PySem.W.Frag} {n : Nat} {u : TGs} {b : AGs} (h : QI u b) : vE (Vt K n u) (XO n b) := ⟨fun {v x σ H O ρ M Q Q'} w e r q k => by
 obtain ⟨l, e1, ln, q⟩ := q; subst e1
 cases (show Rep H O v (.tup l) from r) with
 | @tup a xs _ o1 h1 l1 r1 => exact ⟨a, xs, rfl, SqT.of h1, l1.trans ln, h.go w e (Jv.av ⟨l1, r1⟩) q k⟩⟩
noncomputable def z0 (x : AV) (M : MH) : Option (List AV) := match x with
 | .d (.lst l) => some (l.map .d)
 | .ref a => match M a with
  | some (.lst l) => some l
  | _ => none
 | _ => none
noncomputable def Bc (x : AV) : Option (List AV) := match x with
 | .d (.tup l) => some (l.map .d)
 | _ => none
noncomputable def qD (x : AV) (M : MH) : Option (List AV) := match x with
 | .d (.lst l) => some (l.map .d)
 | .d (.tup l) => some (l.map .d)
 | .ref a => match M a with
  | some (.lst l) => some l
  | _ => none
 | _ => none
theorem Kw (l : List Dat) (M : MH) : z0 (.d (.lst l)) M = some (l.map .d) := rfl
theorem Bu (l : List Dat) : Bc (.d (.tup l)) = some (l.map .d) := rfl
theorem Bd (l : List Dat) (M : MH) : qD (.d (.lst l)) M = some (l.map .d) := rfl
theorem Al (l : List Dat) (M : MH) : qD (.d (.tup l)) M = some (l.map .d) := rfl
theorem Yw {a : Addr} {M : MH} {l : List AV} (h : M a = some (.lst l)) : z0 (.ref a) M = some l := by unfold z0; dsimp only; rw [h]
theorem kL {a : Addr} {M : MH} {l : List AV} (h : M a = some (.lst l)) : qD (.ref a) M = some l := by unfold qD; dsimp only; rw [h]
theorem XB {x : AV} {M : MH} {l : List AV} (h : z0 x M = some l) : (∃ m, x = .d (.lst m) /\ l = m.map .d) \/ ∃ a, x = .ref a /\ M a = some (.lst l) := by
 cases x with
 | d x =>
  cases x with
  | lst m => cases h; exact .inl ⟨m, rfl, rfl⟩
  | _ => cases h
 | ref a =>
  unfold z0 at h
  dsimp only at h
  cases e : M a with
  | none => rw [e] at h; cases h
  | some o =>
   rw [e] at h
   cases o with
   | lst m => cases h; exact .inr ⟨a, rfl, e⟩
   | _ => cases h
theorem jW {x : AV} {M : MH} {l : List AV} (h : qD x M = some l) : z0 x M = some l \/ ∃ m, x = .d (.tup m) /\ l = m.map .d := by
 cases x with
 | d x =>
  cases x with
  | lst m => cases h; exact .inl rfl
  | tup m => cases h; exact .inr ⟨m, rfl, rfl⟩
  | _ => cases h
 | ref a => exact .inl h
theorem qw {H : Hp} {O : Own} {M : MH} {v : V} {x : AV} {l : List AV} (w : Wf H O M) (r : zw H O M v x) (h : z0 x M = some l) : ∃ a xs, v = .ref a /\ H a = some (.lst xs) /\ zi H O M xs l := by
 rcases XB h with ⟨m, rfl, rfl⟩ | ⟨a, rfl, e⟩
 ·cases (show Rep H O v (.lst m) from r) with
  | @lst a xs _ o1 h1 l1 r1 => exact ⟨a, xs, rfl, h1, Jv.av ⟨l1, r1⟩⟩
 ·obtain ⟨xs, h1, r1⟩ := w.mo a _ e
  exact ⟨a, xs, r.1, h1, r1⟩
theorem jj {H : Hp} {O : Own} {M : MH} {v : V} {x : AV} {l : List AV} (r : zw H O M v x) (h : Bc x = some l) : ∃ a xs, v = .ref a /\ H a = some (.tup xs) /\ zi H O M xs l := by
 cases x with
 | ref a => cases h
 | d x =>
  cases x with
  | tup m =>
   cases h
   cases (show Rep H O v (.tup m) from r) with
   | @tup a xs _ o1 h1 l1 r1 => exact ⟨a, xs, rfl, h1, Jv.av ⟨l1, r1⟩⟩
  | _ => cases h
theorem Qf {H : Hp} {O : Own} {M : MH} {v : V} {x : AV} {l : List AV} (w : Wf H O M) (r : zw H O M v x) (h : qD x M = some l) : ∃ a xs, v = .ref a /\ (H a = some (.lst xs) \/ H a = some (.tup xs)) /\ zi H O M xs l := by
 rcases jW h with e | ⟨m, rfl, rfl⟩
 ·obtain ⟨a, xs, h1, h2, h3⟩ := qw w r e; exact ⟨a, xs, h1, .inl h2, h3⟩
 ·obtain ⟨a, xs, h1, h2, h3⟩ := jj (l := m.map .d) r rfl; exact ⟨a, xs, h1, .inr h2, h3⟩
structure YF (t : YS) (a : AV -> AV -> AV -> MH -> (MH -> Prop) -> Prop) : Prop where
 go : ∀ {o i v : V} {ao ai av : AV} {H : Hp} {O : Own} {M : MH} {Q : Hp -> Prop} {Q' : MH -> Prop}, Wf H O M -> zw H O M o ao -> zw H O M i ai -> zw H O M v av -> a ao ai av M Q' -> (∀ M' H' O', Q' M' -> Ext H O M H' O' M' -> Wf H' O' M' -> Q H') -> t o i v H Q
noncomputable def WJ (a b : AE) (s : AV -> AV -> AV -> MH -> (MH -> Prop) -> Prop) : AG := fun x ρ M Q => a ρ M fun o M1 => b ρ M1 fun i M2 => s o i x M2 fun M3 => Q ρ M3
theorem K5 {to ti : TE} {t : YS} {a b : AE} {s : AV -> AV -> AV -> MH -> (MH -> Prop) -> Prop} (h1 : zU to a) (h2 : zU ti b) (h3 : YF t s) : vE (A5 to ti t) (WJ a b s) := ⟨fun w e r q k =>
 h1.go w e q fun x M1 v H1 O1 q1 k1 w1 r1 => h2.go w1 (e.ext k1) q1 fun y M2 u H2 O2 q2 k2 w2 r2 => h3.go w2 (r1.ext k2) r2 (r.ext (k1.trans k2)) q2 fun M3 H3 O3 q3 k3 w3 => k _ _ _ _ _ q3 ((k1.trans k2).trans k3) w3 (e.ext ((k1.trans k2).trans k3))⟩
theorem jB {M : MH} {p : Addr} {o : MO} (h : M p = some o) : M p ≠ none := by rw [h]; exact fun z => nomatch z
noncomputable def asL : AV -> AV -> AV -> MH -> (MH -> Prop) -> Prop := fun o i v M Q => ∃ p l k j, o = .ref p /\ i = .d (.int k) /\ M p = some (.lst l) /\ ixN l.length k = some j /\ Q (mup M p (.lst (l.set j v)))
theorem KO : YF Qr asL := ⟨fun w ro ri rv q k => by
 obtain ⟨p, l, n, j, rfl, rfl, hm, hj, q⟩ := q
 obtain ⟨xs, hx, rx⟩ := w.mo p _ hm
 have np := jB hm
 refine ⟨n, zJ ri, p, ro.1, xs, hx, j, by rw [rx.1]; exact hj, k _ _ _ q (vA w np _ _) (AX w np (fun _ z => nomatch z) ⟨_, zh, (rx.set rv j).ext (vA w np _ _)⟩)⟩⟩
noncomputable def DG (a : AE) (g : AG) : AS := fun _ D ρ M => a ρ M fun x M1 => g x ρ M1 D.nx
theorem VW {t : TE} {g : TG} {a : AE} {ag : AG} (h : zU t a) (hg : vE g ag) : jx (Xm t g) (DG a ag) := ⟨fun _ w e x q E => h.go w e q fun y M1 v H1 O1 q1 k1 w1 r1 => hg.go w1 (e.ext k1) r1 q1 fun σ2 H2 O2 ρ2 M2 q2 k2 w2 e2 => E.nx _ _ _ _ _ w2 e2 ((x.trans k1).trans k2) q2⟩
noncomputable def Dy (i j : Nat) (a : AA) : AS := fun _ D ρ M => a ρ M fun xs M1 => ∃ x y, xs = [x, y] /\ D.nx ((ρ.set i (some x)).set j (some y)) M1
theorem VM {i j : Nat} {t : TA} {a : AA} (h : kW t a) : jx (B2 i j t) (Dy i j a) := ⟨fun _ w e x q E => h.go w e q fun ys M1 vs H1 O1 q1 k1 w1 r1 => by
 obtain ⟨y, z, rfl, q2⟩ := q1
 obtain ⟨v1, r', rfl, a1, r2⟩ := r1.cons_inv
 obtain ⟨v2, r', rfl, a2, r3⟩ := r2.cons_inv
 rw [r3.nil_inv]
 exact ⟨v1, v2, rfl, E.nx _ _ _ _ _ w1 (((e.ext k1).set a1 i).set a2 j) (x.trans k1) q2⟩⟩
structure Yp (t : TIp) (a : AR2) : Prop where
 go : ∀ {x y : V} {dx dy : AV} {H : Hp} {O : Own} {M : MH} {Q : VK} {Q' : AK}, Wf H O M -> zw H O M x dx -> zw H O M y dy -> a dx dy M Q' -> (∀ x M' v H' O', Q' x M' -> Ext H O M H' O' M' -> Wf H' O' M' -> zw H' O' M' v x -> Q v H') -> t x y H Q
noncomputable def DC (i : Nat) (a : AE) (r : AR2) : AS := fun _ D ρ M => ∃ x, ρ[i]? = some (some x) /\ a ρ M fun y M1 => r x y M1 fun z M2 => D.nx (ρ.set i (some z)) M2
theorem VY {i : Nat} {t : TE} {ti : TIp} {a : AE} {r : AR2} (h : zU t a) (hi : Yp ti r) : jx (Ak i t ti) (DC i a r) := ⟨fun _ w e x q E => by
 obtain ⟨y, hy, q⟩ := q
 obtain ⟨v, hv, rv⟩ := e.get i y hy
 exact ⟨v, hv, h.go w e q fun z M1 u H1 O1 q1 k1 w1 r1 => hi.go w1 (rv.ext k1) r1 q1 fun z2 M2 v2 H2 O2 q2 k2 w2 r2 => E.nx _ _ _ _ _ w2 ((e.ext (k1.trans k2)).set r2 i) (x.trans (k1.trans k2)) q2⟩⟩
noncomputable def BV (c : AT) (b : AS) : AS := fun B D ρ M => ∃ W : Nat -> ASt -> MH -> Prop, (∃ m, W m ρ M) /\ ∀ m ρ M, W m ρ M -> c ρ M fun k M1 => if k = true then b B { D with nx := fun ρ' M' => ∃ m', m' < m /\ W m' ρ' M', ct := fun ρ' M' => ∃ m', m' < m /\ W m' ρ' M', bk := D.nx } ρ M1 else D.nx ρ M1
theorem Jx {c : TT} {t : TS} {ac : AT} {a : AS} (hc : kF c ac) (h : jx t a) : jx (ZM c t) (BV ac a) := ⟨fun {H0 O0 M0 D D' σ H O ρ M} w0 w e x q E => by
 obtain ⟨W, ⟨m, h0⟩, st⟩ := q
 refine ⟨fun m σ H => ∃ O ρ M, Wf H O M /\ Er H O M σ ρ /\ Ext H0 O0 M0 H O M /\ W m ρ M, ⟨m, O, ρ, M, w, e, x, h0⟩, ?_⟩
 rintro m σ H ⟨O, ρ, M, w, e, x, hw⟩
 refine hc.go w e (st m ρ M hw) fun k M1 H1 O1 q1 k1 w1 => ?_
 cases k with
 | false => exact E.nx _ _ _ _ _ w1 (e.ext k1) (x.trans k1) q1
 | true => exact ⟨fun σ' H' => ∃ m', m' < m /\ ∃ O ρ M, Wf H' O M /\ Er H' O M σ' ρ /\ Ext H0 O0 M0 H' O M /\ W m' ρ M, fun σ' H' z => z, h.go w0 w1 (e.ext k1) (x.trans k1) q1 ⟨fun σ H O ρ M w e x ⟨m', hm, hw⟩ => ⟨m', hm, O, ρ, M, w, e, x, hw⟩, E.rt, E.nx, fun σ H O ρ M w e x ⟨m', hm, hw⟩ => ⟨m', hm, O, ρ, M, w, e, x, hw⟩⟩⟩⟩
noncomputable def xb (J : It) (H : Hp) (O : Own) (M : MH) (l : List AV) (G : MH -> Prop) : Prop :=
 ∀ (H' : Hp) (O' : Own) (M' : MH), (∀ a o, ¬ O a -> H a = some o -> H' a = some o /\ ¬ O' a) -> (∀ a, M a ≠ none -> M' a ≠ none) -> Wf H' O' M' -> G M' -> ∀ i : Nat, (i = l.length -> J.stop i H') /\
  ∀ y, l[i]? = some y -> J.go i H' /\ ∀ x H'', J.yld i H' x H'' -> Ext H' O' M' H'' O' M' /\ Wf H'' O' M' /\ zw H'' O' M' x y
structure Z2 (wi : TI) (ai : AI) : Prop where
 go : ∀ {σ : St} {H : Hp} {O : Own} {ρ : ASt} {M : MH} {R : It -> Hp -> Prop} {R' : List AV -> (MH -> Prop) -> MH -> Prop}, Wf H O M -> Er H O M σ ρ -> ai ρ M R' -> (∀ l G M' J H' O', R' l G M' -> Ext H O M H' O' M' -> Wf H' O' M' -> xb J H' O' M' l G -> R J H') -> wi σ H R
noncomputable def DZ (ag : AG) (ab : AS) (B : MH) (D : yM) (G : MH -> Prop) (l : List AV) (ρ : ASt) (M : MH) : Prop :=
 ∃ Pv : Nat -> ASt -> MH -> Prop, Pv 0 ρ M /\ (∀ i x ρ M, l[i]? = some x -> Pv i ρ M -> G M /\ ag x ρ M fun ρ' M' => ab B { D with nx := Pv (i + 1), ct := Pv (i + 1), bk := D.nx } ρ' M') /\ ∀ ρ M, Pv l.length ρ M -> G M /\ D.nx ρ M
noncomputable def DI (ai : AI) (ag : AG) (ab : AS) : AS := fun _ D ρ M => ai ρ M fun l G M1 => DZ ag ab M1 D G l ρ M1
theorem Vs {wi : TI} {g : TG} {t : TS} {ai : AI} {ag : AG} {ab : AS} (hi : Z2 wi ai) (hg : vE g ag) (hb : jx t ab) : jx (Bq wi g t) (DI ai ag ab) := ⟨fun {H0 O0 M0 D D' σ H O ρ M} w0 w e x q E => by
 rw [Jm]
 refine hi.go w e q fun l G M1 J H1 O1 q1 k1 w1 hj => ?_
 have E1 := E.tr (x.trans k1)
 obtain ⟨Pv, p0, ps, pd⟩ := q1
 refine ⟨fun i m σ H => m = l.length - i /\ i <= l.length /\ ∃ O ρ M, Wf H O M /\ Er H O M σ ρ /\ Ext H1 O1 M1 H O M /\ Pv i ρ M, ⟨l.length, by simp, Nat.zero_le _, O1, ρ, M1, w1, e.ext k1, .refl, p0⟩, ?_⟩
 rintro i m σ H ⟨rfl, hi, O, ρ, M, w, e, x, hf⟩
 by_cases hil : i < l.length
 ·have hy : l[i]? = some l[i] := List.getElem?_eq_getElem hil
  obtain ⟨hG, q2⟩ := ps i l[i] ρ M hy hf
  obtain ⟨j1, j2⟩ := (hj H O M x.fix x.mst w hG i).2 l[i] hy
  refine .inr ⟨j1, fun σ' H' => ∃ O ρ M, Wf H' O M /\ Er H' O M σ' ρ /\ Ext H1 O1 M1 H' O M /\ Pv (i + 1) ρ M, fun σ' H' z => ⟨l.length - (i + 1), by omega, rfl, hil, z⟩, fun v H' hv => ?_⟩
  obtain ⟨k2, w2, r2⟩ := j2 v H' hv
  refine hg.go w2 (e.ext k2) r2 q2 fun σ3 H3 O3 ρ3 M3 q3 k3 w3 e3 => ?_
  exact hb.go w1 w3 e3 ((x.trans k2).trans k3) q3 ⟨fun σ H O ρ M w e x q => ⟨O, ρ, M, w, e, x, q⟩, E1.rt, E1.nx, fun σ H O ρ M w e x q => ⟨O, ρ, M, w, e, x, q⟩⟩
 ·have e0 : i = l.length := by omega
  subst e0
  obtain ⟨hG, q2⟩ := pd ρ M hf
  exact .inl ⟨(hj H O M x.fix x.mst w hG l.length).1 rfl, E1.nx _ _ _ _ _ w e x q2⟩⟩
end L2
set_option Elab.async false
set_option linter.all false
set_option maxRecDepth 100000
set_option maxHeartbeats 4000000
namespace L2
open PySem PySem.Spec PyProof.Rows
theorem ya {H H1 : Hp} {O O1 : Own} {M M1 : MH} (w1 : Wf H1 O1 M1) (k1 : Ext H O M H1 O1 M1) {p : Addr} (hp : H1 p = none) : H p = none := by
 cases e0 : H p with
 | none => rfl
 | some o =>
  exfalso
  by_cases c : O p
  ·by_cases c2 : M p = none
   ·exact w1.ne p (k1.prv p c c2).2.1 hp
   ·exact w1.ne p (w1.own p (k1.mst p c2)) hp
  ·rw [(k1.fix p o c e0).1] at hp; cases hp
theorem JF {K : PySem.W.Frag} {H : Hp} {O : Own} {M : MH} {a : Addr} {x : AV} {l : List AV} (r : zw H O M (.ref a) x) (h : z0 x M = some l) : xb (Itl K a) H O M l (fun M' => z0 x M' = some l) := by
 intro H' O' M' fix mst w' hG i
 obtain ⟨a', xs, e, h1, r1⟩ := qw w' (r.imp fix mst) hG
 cases e
 refine ⟨fun e => ⟨xs, SqL.of h1, by rw [r1.1]; omega⟩, fun y hy => ?_⟩
 obtain ⟨v, hv, rv⟩ := r1.get hy
 refine ⟨⟨xs, v, SqL.of h1, hv⟩, fun z H'' hz => ?_⟩
 obtain ⟨e1, e2⟩ := hz
 subst e1
 have := e2 xs (SqL.of h1)
 rw [hv] at this; cases this
 exact ⟨.refl, w', rv⟩
theorem YK {K : PySem.W.Frag} {H : Hp} {O : Own} {M : MH} {a : Addr} {x : AV} {l : List AV} (r : zw H O M (.ref a) x) (h : Bc x = some l) : xb (Itt K a) H O M l (fun _ => True) := by
 intro H' O' M' fix mst w' hG i
 obtain ⟨a', xs, e, h1, r1⟩ := jj (r.imp fix mst) h
 cases e
 refine ⟨fun e => ⟨xs, SqT.of h1, by rw [r1.1]; omega⟩, fun y hy => ?_⟩
 obtain ⟨v, hv, rv⟩ := r1.get hy
 refine ⟨⟨xs, v, SqT.of h1, hv⟩, fun z H'' hz => ?_⟩
 obtain ⟨e1, e2⟩ := hz
 subst e1
 have := e2 xs (SqT.of h1)
 rw [hv] at this; cases this
 exact ⟨.refl, w', rv⟩
noncomputable def aiS (a : AE) : AI := fun ρ M R => a ρ M fun x M1 => ∃ l, qD x M1 = some l /\ R l (fun M' => qD x M' = some l) M1
theorem xb.mono {J : It} {H : Hp} {O : Own} {M : MH} {l : List AV} {G G' : MH -> Prop} (h : xb J H O M l G) (k : ∀ M, G' M -> G M) : xb J H O M l G' := fun H' O' M' fix mst w' hG => h H' O' M' fix mst w' (k _ hG)
theorem B1 {K : PySem.W.Frag} {t : TE} {a : AE} (h : zU t a) : Z2 (iLT K t) (aiS a) := ⟨fun w e q k => h.go w e q fun x M1 v H1 O1 ⟨l, hl, q1⟩ k1 w1 r1 => by
 rcases jW hl with hl' | ⟨m, rfl, rfl⟩
 ·obtain ⟨a, xs, rfl, h1, _⟩ := qw w1 r1 hl'
  refine ⟨a, rfl, .inl ⟨⟨xs, SqL.of h1⟩, k _ _ _ _ _ _ q1 k1 w1 ((JF r1 hl').mono fun M hM => ?_)⟩⟩
  rcases jW hM with z | ⟨m, rfl, rfl⟩
  ·exact z
  ·cases hl'
 ·obtain ⟨a, xs, rfl, h1, _⟩ := jj (l := m.map .d) r1 rfl
  exact ⟨a, rfl, .inr ⟨⟨xs, SqT.of h1⟩, k _ _ _ _ _ _ q1 k1 w1 ((YK r1 rfl).mono fun _ _ => trivial)⟩⟩⟩
noncomputable def ZH (lo c : Int) (n : Nat) : List AV := (List.range n).map fun (k : Nat) => .d (.int (lo + (k : Int) * c))
theorem j4 (lo c : Int) (n : Nat) : (ZH lo c n).length = n := by simp [ZH]
theorem yD {lo c : Int} {n i : Nat} {y : AV} (h : (ZH lo c n)[i]? = some y) : i < n /\ y = .d (.int (lo + (i : Int) * c)) := by
 have hi := (List.getElem?_eq_some_iff.mp h).1
 rw [j4] at hi
 unfold ZH at h
 rw [List.getElem?_map, List.getElem?_range hi] at h
 cases h
 exact ⟨hi, rfl⟩
theorem YE {H : Hp} {O : Own} {M : MH} (lo : Int) (n : Nat) : xb (Itr lo n) H O M (ZH lo 1 n) (fun _ => True) := by
 intro H' O' M' fix mst w' hG i
 refine ⟨fun e => by rw [j4] at e; exact Nat.le_of_eq e.symm, fun y hy => ?_⟩
 obtain ⟨hi, rfl⟩ := yD hy
 refine ⟨hi, fun z H'' hz => ?_⟩
 obtain ⟨rfl, rfl⟩ := hz
 rw [Int.mul_one]
 exact ⟨.refl, w', .int⟩
noncomputable def DM (a : AA) : AI := fun ρ M R => a ρ M fun xs M1 => ∃ j : Int, xs = [.d (.int j)] /\ -(2 ^ 62) <= j /\ j < 2 ^ 62 /\ R (ZH 0 1 j.toNat) (fun _ => True) M1
theorem Ve {t : TA} {a : AA} (h : kW t a) : Z2 (Yl t) (DM a) := ⟨fun w e q k => h.go w e q fun x M1 v H1 O1 ⟨j, e1, j1, j2, q1⟩ k1 w1 r1 => by
 subst e1
 obtain ⟨v1, r', rfl, a1, r2⟩ := r1.cons_inv
 rw [r2.nil_inv, zJ a1]
 exact ⟨j, rfl, j1, j2, k _ _ _ _ _ _ q1 k1 w1 (YE _ _)⟩⟩
noncomputable def yf (m : List Dat) : List AV := (List.range m.length).map fun (i : Nat) => .d (.tup [.int (i : Int), m.getD i .non])
theorem jv (m : List Dat) : (yf m).length = m.length := by simp [yf]
theorem j7 {m : List Dat} {i : Nat} {y : AV} (h : (yf m)[i]? = some y) : ∃ d, m[i]? = some d /\ y = .d (.tup [.int (i : Int), d]) := by
 have hi := (List.getElem?_eq_some_iff.mp h).1
 rw [jv] at hi
 unfold yf at h
 rw [List.getElem?_map, List.getElem?_range hi] at h
 cases h
 exact ⟨m[i], List.getElem?_eq_getElem hi, by dsimp only; rw [List.getD_eq_getElem?_getD, List.getElem?_eq_getElem hi]; rfl⟩
theorem kI {H : Hp} {O : Own} {M : MH} (w : Wf H O M) {p : Addr} (hp : H p = none) {x y : V} {d e : Dat} (r1 : Rep H O x d) (r2 : Rep H O y e) : Ext H O M (upd H p (.tup [x, y])) O M /\ Wf (upd H p (.tup [x, y])) O M /\ zw (upd H p (.tup [x, y])) O M (.ref p) (.d (.tup [d, e])) :=
 ⟨jz w hp _, Qo w hp _, Rep.tup (w.fresh hp).1 zh rfl fun i z f h1 h2 => by
  match i, h1, h2 with
  | 0, h1, h2 => cases h1; cases h2; exact r1.ext (jz w hp _)
  | 1, h1, h2 => cases h1; cases h2; exact r2.ext (jz w hp _)
  | (i + 2), h1, _ => cases h1⟩
theorem JJ {K : PySem.W.Frag} {H : Hp} {O : Own} {M : MH} {a : Addr} {x : AV} {m : List Dat} (r : zw H O M (.ref a) x) (h : z0 x M = some (m.map .d)) : xb (Ite K a) H O M (yf m) (fun M' => z0 x M' = some (m.map .d)) := by
 intro H' O' M' fix mst w' hG i
 obtain ⟨a', xs, e, h1, r1⟩ := qw w' (r.imp fix mst) hG
 cases e
 have l1 := r1.1
 rw [List.length_map] at l1
 refine ⟨fun e => ⟨xs, SqL.of h1, by rw [jv] at e; omega⟩, fun y hy => ?_⟩
 obtain ⟨d, hd, rfl⟩ := j7 hy
 obtain ⟨v, hv, rv⟩ := r1.get (i := i) (d := .d d) (by rw [List.getElem?_map, hd]; rfl)
 refine ⟨⟨xs, v, SqL.of h1, hv⟩, fun z H'' hz => ?_⟩
 obtain ⟨p, x', hp, rfl, e2, rfl⟩ := hz
 have := e2 xs (SqL.of h1)
 rw [hv] at this; cases this
 exact kI w' hp .int rv
theorem Z9 {K : PySem.W.Frag} {H : Hp} {O : Own} {M : MH} {a : Addr} {m : List Dat} (r : zw H O M (.ref a) (.d (.tup m))) : xb (V7 K a) H O M (yf m) (fun _ => True) := by
 intro H' O' M' fix mst w' hG i
 obtain ⟨a', xs, e, h1, r1⟩ := jj (l := m.map .d) (r.imp fix mst) rfl
 cases e
 have l1 := r1.1
 rw [List.length_map] at l1
 refine ⟨fun e => ⟨xs, SqT.of h1, by rw [jv] at e; omega⟩, fun y hy => ?_⟩
 obtain ⟨d, hd, rfl⟩ := j7 hy
 obtain ⟨v, hv, rv⟩ := r1.get (i := i) (d := .d d) (by rw [List.getElem?_map, hd]; rfl)
 refine ⟨⟨xs, v, SqT.of h1, hv⟩, fun z H'' hz => ?_⟩
 obtain ⟨p, x', hp, rfl, e2, rfl⟩ := hz
 have := e2 xs (SqT.of h1)
 rw [hv] at this; cases this
 exact kI w' hp .int rv
noncomputable def aiE (a : AA) : AI := fun ρ M R => a ρ M fun xs M1 => ∃ x l m, xs = [x] /\ qD x M1 = some l /\ pur l = some m /\ R (yf m) (fun M' => qD x M' = some l) M1
theorem Z6 {x : AV} {M M' : MH} {l l' : List AV} (h : z0 x M = some l) (h' : qD x M' = some l') : z0 x M' = some l' := by
 rcases jW h' with z | ⟨m, rfl, rfl⟩
 ·exact z
 ·cases h
theorem WY {K : PySem.W.Frag} {t : TA} {a : AA} (h : kW t a) : Z2 (vV K t) (aiE a) := ⟨fun w e q k => h.go w e q fun xs M1 v H1 O1 ⟨x, l, m, e1, hl, hm, q1⟩ k1 w1 r1 => by
 subst e1
 obtain ⟨v1, r', rfl, a1, r2⟩ := r1.cons_inv
 rw [r2.nil_inv]
 rw [jX hm] at hl q1
 rcases jW hl with hl' | ⟨m', rfl, e2⟩
 ·obtain ⟨a, xs, rfl, h1, _⟩ := qw w1 a1 hl'
  exact ⟨a, rfl, .inl ⟨⟨xs, SqL.of h1⟩, k _ _ _ _ _ _ q1 k1 w1 ((JJ a1 hl').mono fun M hM => Z6 hl' hM)⟩⟩
 ·obtain rfl : m = m' := by have := congrArg pur e2; rw [jh, jh] at this; cases this; rfl
  obtain ⟨a, xs, rfl, h1, _⟩ := jj (l := m.map .d) a1 rfl
  exact ⟨a, rfl, .inr ⟨⟨xs, SqT.of h1⟩, k _ _ _ _ _ _ q1 k1 w1 ((Z9 a1).mono fun _ _ => trivial)⟩⟩⟩
noncomputable def vC (m n : List Dat) : List AV := (List.range (min m.length n.length)).map fun (i : Nat) => .d (.tup [m.getD i .non, n.getD i .non])
theorem jV (m n : List Dat) : (vC m n).length = min m.length n.length := by simp [vC]
theorem yl {m n : List Dat} {i : Nat} {y : AV} (h : (vC m n)[i]? = some y) : ∃ d e, m[i]? = some d /\ n[i]? = some e /\ y = .d (.tup [d, e]) := by
 have hi := (List.getElem?_eq_some_iff.mp h).1
 rw [jV] at hi
 unfold vC at h
 rw [List.getElem?_map, List.getElem?_range hi] at h
 cases h
 have h1 : i < m.length := by omega
 have h2 : i < n.length := by omega
 exact ⟨m[i], n[i], List.getElem?_eq_getElem h1, List.getElem?_eq_getElem h2, by dsimp only; rw [List.getD_eq_getElem?_getD, List.getElem?_eq_getElem h1, List.getD_eq_getElem?_getD, List.getElem?_eq_getElem h2]; rfl⟩
theorem Xr {K : PySem.W.Frag} {H : Hp} {O : Own} {M : MH} {a b : Addr} {x y : AV} {m n : List Dat} (r : zw H O M (.ref a) x) (h : z0 x M = some (m.map .d)) (r' : zw H O M (.ref b) y) (h' : z0 y M = some (n.map .d)) : xb (Itz K a b) H O M (vC m n) (fun M' => z0 x M' = some (m.map .d) /\ z0 y M' = some (n.map .d)) := by
 intro H' O' M' fix mst w' hG i
 obtain ⟨a', xs, e, h1, r1⟩ := qw w' (r.imp fix mst) hG.1
 cases e
 obtain ⟨b', ys, e, h2, r2⟩ := qw w' (r'.imp fix mst) hG.2
 cases e
 have l1 := r1.1
 have l2 := r2.1
 rw [List.length_map] at l1 l2
 refine ⟨fun e => ⟨xs, ys, SqL.of h1, SqL.of h2, by rw [jV] at e; omega⟩, fun z hz => ?_⟩
 obtain ⟨d, f, hd, hf, rfl⟩ := yl hz
 obtain ⟨v, hv, rv⟩ := r1.get (i := i) (d := .d d) (by rw [List.getElem?_map, hd]; rfl)
 obtain ⟨u, hu, ru⟩ := r2.get (i := i) (d := .d f) (by rw [List.getElem?_map, hf]; rfl)
 refine ⟨⟨xs, ys, v, u, SqL.of h1, SqL.of h2, hv, hu⟩, fun z H'' hz => ?_⟩
 obtain ⟨p, x', y', hp, rfl, e2, e3, rfl⟩ := hz
 have := e2 xs (SqL.of h1)
 rw [hv] at this; cases this
 have := e3 ys (SqL.of h2)
 rw [hu] at this; cases this
 exact kI w' hp rv ru
theorem Kb {K : PySem.W.Frag} {H : Hp} {O : Own} {M : MH} {a b : Addr} {m n : List Dat} (hmn : m.length <= n.length) (r : zw H O M (.ref a) (.d (.tup m))) (r' : zw H O M (.ref b) (.d (.tup n))) : xb (B9 K a b) H O M (vC m n) (fun _ => True) := by
 intro H' O' M' fix mst w' hG i
 obtain ⟨a', xs, e, h1, r1⟩ := jj (l := m.map .d) (r.imp fix mst) rfl
 cases e
 obtain ⟨b', ys, e, h2, r2⟩ := jj (l := n.map .d) (r'.imp fix mst) rfl
 cases e
 have l1 := r1.1
 have l2 := r2.1
 rw [List.length_map] at l1 l2
 refine ⟨fun e => ⟨xs, SqT.of h1, by rw [jV] at e; omega⟩, fun z hz => ?_⟩
 obtain ⟨d, f, hd, hf, rfl⟩ := yl hz
 obtain ⟨v, hv, rv⟩ := r1.get (i := i) (d := .d d) (by rw [List.getElem?_map, hd]; rfl)
 obtain ⟨u, hu, ru⟩ := r2.get (i := i) (d := .d f) (by rw [List.getElem?_map, hf]; rfl)
 refine ⟨⟨xs, ys, v, u, SqT.of h1, SqT.of h2, hv, hu⟩, fun z H'' hz => ?_⟩
 obtain ⟨p, x', y', hp, rfl, e2, e3, rfl⟩ := hz
 have := e2 xs (SqT.of h1)
 rw [hv] at this; cases this
 have := e3 ys (SqT.of h2)
 rw [hu] at this; cases this
 exact kI w' hp rv ru
noncomputable def DW (a : AA) : AI := fun ρ M R => a ρ M fun xs M1 => ∃ x y m n, xs = [x, y] /\ ((z0 x M1 = some (List.map AV.d m) /\ z0 y M1 = some (List.map AV.d n)) \/ (x = .d (.tup m) /\ y = .d (.tup n) /\ m.length <= n.length)) /\ R (vC m n) (fun M' => z0 x M' = z0 x M1 /\ z0 y M' = z0 y M1) M1
theorem Y4 {K : PySem.W.Frag} {t : TA} {a : AA} (h : kW t a) : Z2 (ZF K t) (DW a) := ⟨fun w e q k => h.go w e q fun xs M1 v H1 O1 ⟨x, y, m, n, e1, hxy, q1⟩ k1 w1 r1 => by
 subst e1
 obtain ⟨v1, r', rfl, a1, r2⟩ := r1.cons_inv
 obtain ⟨v2, r', rfl, a2, r3⟩ := r2.cons_inv
 rw [r3.nil_inv]
 rcases hxy with ⟨hx, hy⟩ | ⟨rfl, rfl, hmn⟩
 ·obtain ⟨a, xs, rfl, h1, _⟩ := qw w1 a1 hx
  obtain ⟨b, ys, rfl, h2, _⟩ := qw w1 a2 hy
  exact ⟨a, b, rfl, .inl ⟨⟨xs, SqL.of h1⟩, ⟨ys, SqL.of h2⟩, k _ _ _ _ _ _ q1 k1 w1 ((Xr a1 hx a2 hy).mono fun _ z => ⟨z.1.trans hx, z.2.trans hy⟩)⟩⟩
 ·obtain ⟨a, xs, rfl, h1, _⟩ := jj (l := m.map .d) a1 rfl
  obtain ⟨b, ys, rfl, h2, _⟩ := jj (l := n.map .d) a2 rfl
  exact ⟨a, b, rfl, .inr ⟨⟨xs, SqT.of h1⟩, ⟨ys, SqT.of h2⟩, k _ _ _ _ _ _ q1 k1 w1 ((Kb hmn a1 a2).mono fun _ _ => trivial)⟩⟩⟩
structure xy (D : Addr) (H : Hp) (O : Own) (M : MH) (H' : Hp) (O' : Own) (M' : MH) : Prop where
 fix : ∀ a o, ¬ O a -> H a = some o -> H' a = some o /\ ¬ O' a
 prv : ∀ a, a ≠ D -> O a -> M a = none -> H' a = H a /\ O' a /\ M' a = none
 mst : ∀ a, M a ≠ none -> M' a ≠ none
theorem Ext.x {D : Addr} {H H' : Hp} {O O' : Own} {M M' : MH} (k : Ext H O M H' O' M') : xy D H O M H' O' M' := ⟨k.fix, fun a _ => k.prv a, k.mst⟩
theorem xy.trans {D : Addr} {H H1 H2 : Hp} {O O1 O2 : Own} {M M1 M2 : MH} (a : xy D H O M H1 O1 M1) (b : xy D H1 O1 M1 H2 O2 M2) : xy D H O M H2 O2 M2 :=
 ⟨fun x o h e => let ⟨e1, h1⟩ := a.fix x o h e; b.fix x o h1 e1, fun x hx h e => by
  obtain ⟨e1, h1, n1⟩ := a.prv x hx h e
  obtain ⟨e2, h2, n2⟩ := b.prv x hx h1 n1
  exact ⟨e2.trans e1, h2, n2⟩, fun x h => b.mst x (a.mst x h)⟩
theorem xy.set {D : Addr} {H : Hp} {O : Own} {M : MH} (hO : O D) (o : HO) : xy D H O M (upd H D o) O M := ⟨xG hO o, fun a ha h e => ⟨zm ha, h, e⟩, fun _ h => h⟩
theorem Er.imp {H H' : Hp} {O O' : Own} {M M' : MH} {σ : St} {ρ : ASt} (e : Er H O M σ ρ) (k : ∀ a o, ¬ O a -> H a = some o -> H' a = some o /\ ¬ O' a) (hm : ∀ a, M a ≠ none -> M' a ≠ none) : Er H' O' M' σ ρ := ⟨e.len, fun i x h => let ⟨v, h1, h2⟩ := e.get i x h; ⟨v, h1, h2.imp k hm⟩⟩
noncomputable abbrev ATR := List AV -> ASt -> MH -> (List AV -> ASt -> MH -> Prop) -> Prop
structure QV (D : Addr) (tr : TR) (a : ATR) : Prop where
 go : ∀ {σ : St} {H : Hp} {O : Own} {ρ : ASt} {M : MH} {acc : List AV} {ys : List V} {N : St -> Hp -> Prop} {N' : List AV -> ASt -> MH -> Prop}, Wf H O M -> Er H O M σ ρ -> O D -> M D = none -> H D = some (.lst ys) -> zi H O M ys acc -> a acc ρ M N' ->
  (∀ acc' ρ' M' σ' H' O' ys', N' acc' ρ' M' -> xy D H O M H' O' M' -> Wf H' O' M' -> Er H' O' M' σ' ρ' -> O' D -> M' D = none -> H' D = some (.lst ys') -> zi H' O' M' ys' acc' -> N σ' H') -> tr σ H N
noncomputable def yk (a : AE) : ATR := fun acc ρ M N => a ρ M fun x M1 => acc.length < sizeLine /\ N (acc ++ [x]) ρ M1
theorem wM {D : Addr} {t : TE} {a : AE} (h : zU t a) : QV D (Qk t D) (yk a) := ⟨fun {σ H O ρ M acc ys N N'} w e o m hd r q k => h.go w e q fun x M1 v H1 O1 ⟨q0, q1⟩ k1 w1 r1 => by
 obtain ⟨e1, o1, m1⟩ := k1.prv D o m
 have r' := r.ext k1
 refine ⟨ys, e1.trans hd, by rw [r.1]; exact q0, k _ _ _ _ _ _ (ys ++ [v]) q1 (k1.x.trans (xy.set o1 _)) (ZD w1 o1 m1 (e1.trans hd) _ (fun _ z => nomatch z)) ((e.ext k1).imp (xG o1 _) (fun _ z => z)) o1 m1 zh ((r'.snoc r1).imp (xG o1 _) (fun _ z => z))⟩⟩
noncomputable def JP (ag : AG) (at_ : AT) (tr : ATR) (G : MH -> Prop) (N : List AV -> ASt -> MH -> Prop) (l acc : List AV) (ρ : ASt) (M : MH) : Prop :=
 ∃ Pv : Nat -> List AV -> ASt -> MH -> Prop, Pv 0 acc ρ M /\ (∀ i x acc ρ M, l[i]? = some x -> Pv i acc ρ M -> G M /\ ag x ρ M fun ρ2 M2 => at_ ρ2 M2 fun b M3 => if b = true then tr acc ρ2 M3 (Pv (i + 1)) else Pv (i + 1) acc ρ2 M3) /\ ∀ acc ρ M, Pv l.length acc ρ M -> G M /\ N acc ρ M
theorem AY {D : Addr} {g : TG} {tt : TT} {tr : TR} {ag : AG} {at_ : AT} {atr : ATR} (hg : vE g ag) (ht : kF tt at_) (hr : QV D tr atr) {J : It} {H1 : Hp} {O1 : Own} {M1 : MH} {l : List AV} {G : MH -> Prop} (hj : xb J H1 O1 M1 l G) {N' : List AV -> ASt -> MH -> Prop} {N : St -> Hp -> Prop}
  {σ : St} {ρ : ASt} {acc : List AV} {ys : List V} (w : Wf H1 O1 M1) (e : Er H1 O1 M1 σ ρ) (o : O1 D) (m : M1 D = none) (hd : H1 D = some (.lst ys)) (r : zi H1 O1 M1 ys acc) (q : JP ag at_ atr G N' l acc ρ M1)
  (k : ∀ acc' ρ' M' σ' H' O' ys', N' acc' ρ' M' -> xy D H1 O1 M1 H' O' M' -> Wf H' O' M' -> Er H' O' M' σ' ρ' -> O' D -> M' D = none -> H' D = some (.lst ys') -> zi H' O' M' ys' acc' -> N σ' H') : CL J g tt tr N σ H1 := by
 obtain ⟨Pv, p0, ps, pd⟩ := q
 refine ⟨fun i n σ H => n = l.length - i /\ i <= l.length /\ ∃ O ρ M acc ys, Wf H O M /\ Er H O M σ ρ /\ xy D H1 O1 M1 H O M /\ O D /\ M D = none /\ H D = some (.lst ys) /\ zi H O M ys acc /\ Pv i acc ρ M,
  ⟨l.length, by simp, Nat.zero_le _, O1, ρ, M1, acc, ys, w, e, Ext.refl.x, o, m, hd, r, p0⟩, ?_⟩
 rintro i n σ H ⟨rfl, hi, O, ρ, M, acc, ys, w, e, x, o, m, hd, r, hf⟩
 by_cases hil : i < l.length
 ·have hy : l[i]? = some l[i] := List.getElem?_eq_getElem hil
  obtain ⟨hG, q2⟩ := ps i l[i] acc ρ M hy hf
  obtain ⟨j1, j2⟩ := (hj H O M x.fix x.mst w hG i).2 l[i] hy
  refine .inr ⟨j1, fun σ' H' => ∃ O ρ M acc ys, Wf H' O M /\ Er H' O M σ' ρ /\ xy D H1 O1 M1 H' O M /\ O D /\ M D = none /\ H' D = some (.lst ys) /\ zi H' O M ys acc /\ Pv (i + 1) acc ρ M, fun σ' H' z => ⟨l.length - (i + 1), by omega, rfl, hil, z⟩, fun v H' hv => ?_⟩
  obtain ⟨k2, w2, r2⟩ := j2 v H' hv
  refine hg.go w2 (e.ext k2) r2 q2 fun σ3 H3 O3 ρ3 M3 q3 k3 w3 e3 => ?_
  refine ht.go w3 e3 q3 fun b M4 H4 O4 q4 k4 w4 => ?_
  have k24 := (k2.trans k3).trans k4
  obtain ⟨d4, o4, m4⟩ := k24.prv D o m
  have r4 := r.ext k24
  cases b with
  | true =>
   exact hr.go w4 (e3.ext k4) o4 m4 (d4.trans hd) r4 q4 fun acc' ρ' M' σ' H' O' ys' q5 k5 w5 e5 o5 m5 d5 r5 => ⟨O', ρ', M', acc', ys', w5, e5, (x.trans k24.x).trans k5, o5, m5, d5, r5, q5⟩
  | false =>
   exact ⟨O4, ρ3, M4, acc, ys, w4, e3.ext k4, x.trans k24.x, o4, m4, d4.trans hd, r4, q4⟩
 ·have e0 : i = l.length := by omega
  subst e0
  obtain ⟨hG, q2⟩ := pd acc ρ M hf
  exact .inl ⟨(hj H O M x.fix x.mst w hG l.length).1 rfl, k _ _ _ _ _ _ _ q2 x w e o m hd r⟩
noncomputable def Ya (ts : List Nat) (ai : AI) (ag : AG) (at_ : AT) (atr : ATR) : AF := fun ρ M Q => ai ρ M fun l G M1 => JP ag at_ atr G (fun acc _ M' => Q acc M') l [] (Vg ts ρ) M1
theorem Qb {ts : List Nat} {wi : TI} {g : TG} {tt : TT} {tr : Addr -> TR} {ai : AI} {ag : AG} {at_ : AT} {atr : ATR} (hi : Z2 wi ai) (hg : vE g ag) (ht : kF tt at_) (hr : ∀ D, QV D (tr D) atr) : ZR (YX ts wi g tt tr) (Ya ts ai ag at_ atr) := ⟨fun {σ H O ρ M Q Q'} w e q k => by
 refine hi.go w e q fun l G M1 J H1 O1 q1 k1 w1 hj D hD => ?_
 have kp := je w1 hD (.lst [])
 have hj' : xb J (upd H1 D (.lst [])) (J8 O1 D) M1 l G := fun H' O' M' fix mst w' hG => hj H' O' M' (fun a o ha ho => fix a o (kp.fix a o ha ho).2 (kp.fix a o ha ho).1) mst w' hG
 refine AY hg ht (hr D) hj' (vY w1 hD _ (fun _ z => nomatch z)) (((e.ext k1).clr ts).ext kp) (.inl rfl) (w1.fresh hD).2 zh .nil q1 fun acc' ρ' M' σ' H' O' ys' q5 k5 w5 e5 o5 m5 d5 r5 => ?_
 have hH := ya w1 k1 hD
 refine k _ _ _ _ _ _ q5 ⟨fun a o ha ho => ?_, fun a ha hm => ?_, fun a hm => k5.mst a (k1.mst a hm)⟩ w5 o5 m5 hH d5 r5
 ·obtain ⟨x1, x2⟩ := (k1.trans kp).fix a o ha ho
  exact k5.fix a o x2 x1
 ·obtain ⟨x1, x2, x3⟩ := (k1.trans kp).prv a ha hm
  obtain ⟨y1, y2, y3⟩ := k5.prv a (fun z => w.ne a ha (by rw [z]; exact hH)) x2 x3
  exact ⟨y1.trans x1, y2, y3⟩⟩
theorem JE {ts : List Nat} {wi : TI} {g : TG} {tt : TT} {te : TE} {ai : AI} {ag : AG} {at_ : AT} {ae : AE} (hi : Z2 wi ai) (hg : vE g ag) (ht : kF tt at_) (he : zU te ae) : ZR (Zk ts wi g tt te) (Ya ts ai ag at_ (yk ae)) :=
 ⟨fun w e q k => (Qb (ts := ts) (tr := Qk te) hi hg ht fun D => wM he).go w e q k⟩
end L2
set_option Elab.async false
set_option linter.all false
set_option maxRecDepth 100000
set_option maxHeartbeats 4000000
namespace L2
open PySem PySem.Spec PyProof.Rows
noncomputable def aI (C : Int -> Int -> Prop) (g : Int -> Int -> Dat) : AR2 := fun x y M Q => ∃ i j, x = .d (.int i) /\ y = .d (.int j) /\ C i j /\ Q (.d (g i j)) M
noncomputable def aI0 (g : Int -> Int -> Dat) : AR2 := fun x y M Q => ∃ i j, x = .d (.int i) /\ y = .d (.int j) /\ Q (.d (g i j)) M
theorem Ae {C : Int -> Int -> Prop} {f : Int -> Int -> Int} : ZU (rI C fun i j => .int (f i j)) (aI C fun i j => .int (f i j)) := ⟨fun w r1 r2 ⟨i, j, e1, e2, c, q⟩ k => by
 subst e1 e2; exact ⟨i, j, zJ r1, zJ r2, c, k _ _ _ _ _ q .refl w .int⟩⟩
theorem Vy {f : Int -> Int -> Int} : ZU (rI0 fun i j => .int (f i j)) (aI0 fun i j => .int (f i j)) := ⟨fun w r1 r2 ⟨i, j, e1, e2, q⟩ k => by
 subst e1 e2; exact ⟨i, j, zJ r1, zJ r2, k _ _ _ _ _ q .refl w .int⟩⟩
theorem YA {f : Int -> Int -> Bool} : ZU (rI0 fun i j => .bl (f i j)) (aI0 fun i j => .bl (f i j)) := ⟨fun w r1 r2 ⟨i, j, e1, e2, q⟩ k => by
 subst e1 e2; exact ⟨i, j, zJ r1, zJ r2, k _ _ _ _ _ q .refl w .bl⟩⟩
theorem Wc {f : Int -> Int -> Int} : Yp (ipI f) (aI0 fun i j => .int (f i j)) := ⟨fun w r1 r2 ⟨i, j, e1, e2, q⟩ k => by
 subst e1 e2; exact ⟨i, j, zJ r1, zJ r2, k _ _ _ _ _ q .refl w .int⟩⟩
theorem Vr {C : Int -> Int -> Prop} {f : Int -> Int -> Int} : Yp (rI C fun i j => .int (f i j)) (aI C fun i j => .int (f i j)) := ⟨fun w r1 r2 ⟨i, j, e1, e2, c, q⟩ k => by
 subst e1 e2; exact ⟨i, j, zJ r1, zJ r2, c, k _ _ _ _ _ q .refl w .int⟩⟩
noncomputable def eqS : Dat -> Dat -> Option Bool
 | .non, .non => some true | .non, .int _ => some false | .int _, .non => some false | .non, .bl _ => some false | .bl _, .non => some false | .non, .str _ => some false | .str _, .non => some false
 | .int i, .int j => some (decide (i = j)) | .bl a, .bl b => some (decide (a = b)) | .str a, .str b => some (decide (a = b))
 | .int _, .str _ => some false | .str _, .int _ => some false | .bl _, .str _ => some false | .str _, .bl _ => some false
 | _, _ => none
noncomputable def kq : AV -> Bool
 | .d .non => true
 | _ => false
theorem K3 {H : Hp} {O : Own} {M : MH} {v : V} {x : AV} (r : zw H O M v x) : decide (v = V.non) = kq x := by
 cases x with
 | ref a => rw [r.1]; rfl
 | d x => cases (show Rep H O v x from r) <;> rfl
noncomputable def DE (f : Bool -> Bool) : AR2 := fun x y M Q => y = .d .non /\ Q (.d (.bl (f (kq x)))) M
theorem Vf : ZU (fun x y H Q => y = V.non /\ Q (V.bl (decide (x = V.non))) H) (DE id) := ⟨fun w r1 r2 ⟨e, q⟩ k => by
 subst e; exact ⟨Vz r2, by rw [K3 r1]; exact k _ _ _ _ _ q .refl w .bl⟩⟩
theorem Y8 {H : Hp} {O : Own} {M : MH} {xs : List V} {l : List AV} (r : zi H O M xs l) {i : Int} {x : AV} (h : atI l i = some x) : ∃ v, atI xs i = some v /\ zw H O M v x := by
 unfold atI at h ⊢
 rw [r.1]
 cases e : ixN l.length i with
 | none => rw [e] at h; cases h
 | some j => rw [e] at h; exact r.get h
noncomputable def aIx (s : AV -> MH -> Option (List AV)) : AR2 := fun x y M Q => ∃ l i z, s x M = some l /\ y = .d (.int i) /\ atI l i = some z /\ Q z M
theorem YO {K : PySem.W.Frag} : ZU (Jo K) (aIx qD) := ⟨fun w r1 r2 ⟨l, i, z, h, e, hz, q⟩ k => by
 subst e
 obtain ⟨a, xs, rfl, h1, r⟩ := Qf w r1 h
 obtain ⟨v, hv, rv⟩ := Y8 r hz
 exact ⟨a, xs, i, v, rfl, zJ r2, h1.elim (fun h => .inl (SqL.of h)) (fun h => .inr (SqT.of h)), hv, k _ _ _ _ _ q .refl w rv⟩⟩
structure YQ (r : R2) (a : AV -> AV -> MH -> (List AV -> Prop) -> Prop) : Prop where
 go : ∀ {x y : V} {dx dy : AV} {H : Hp} {O : Own} {M : MH} {Q : VK} {Q' : List AV -> Prop}, Wf H O M -> zw H O M x dx -> zw H O M y dy -> a dx dy M Q' -> (∀ l ys, Q' l -> zi H O M ys l -> ∀ p, H p = none -> Q (.ref p) (upd H p (.lst ys))) -> r x y H Q
noncomputable def fOp (r : AV -> AV -> MH -> (List AV -> Prop) -> Prop) (a b : AE) : AF := fun ρ M Q => a ρ M fun x M1 => b ρ M1 fun y M2 => r x y M2 fun l => Q l M2
theorem v5 {r : R2} {ra : AV -> AV -> MH -> (List AV -> Prop) -> Prop} {t u : TE} {a b : AE} (hr : YQ r ra) (h1 : zU t a) (h2 : zU u b) : ZR (tOp r t u) (fOp ra a b) :=
 ⟨fun w e q k => h1.go w e q fun x M1 v H1 O1 q1 k1 w1 r1 => h2.go w1 (e.ext k1) q1 fun y M2 u H2 O2 q2 k2 w2 r2 => hr.go w2 (r1.ext k2) r2 q2 fun l ys q3 r3 p hp =>
  k l M2 p ys _ _ q3 ((k1.trans k2).trans (je w2 hp _)) (vY w2 hp _ (fun _ z => nomatch z)) (.inl rfl) (w2.fresh hp).2 (ya w2 (k1.trans k2) hp) zh (r3.ext (je w2 hp _))⟩
noncomputable def BP : AV -> AV -> MH -> (List AV -> Prop) -> Prop := fun x y M Q => ∃ l m, z0 x M = some l /\ z0 y M = some m /\ l.length + m.length <= sizeLine /\ Q (l ++ m)
theorem wq : YQ VX BP := ⟨fun w r1 r2 ⟨l, m, h1, h2, hs, q⟩ k => by
 obtain ⟨a, xs, rfl, e1, p1⟩ := qw w r1 h1
 obtain ⟨b, ys, rfl, e2, p2⟩ := qw w r2 h2
 exact ⟨a, b, xs, ys, rfl, rfl, e1, e2, by rw [p1.1, p2.1]; exact hs, k _ _ q (p1.append p2)⟩⟩
theorem zi.rep {H : Hp} {O : Own} {M : MH} {xs : List V} {l : List AV} (a : zi H O M xs l) : ∀ k : Nat, zi H O M (List.replicate k xs).flatten (List.replicate k l).flatten
 | 0 => .nil
 | k + 1 => by rw [List.replicate_succ, List.replicate_succ, List.flatten_cons, List.flatten_cons]; exact a.append (zi.rep a k)
noncomputable def Bj : AV -> AV -> MH -> (List AV -> Prop) -> Prop := fun x y M Q => ∃ l k, z0 x M = some l /\ y = .d (.int k) /\ -(2 ^ 63) <= k /\ k < 2 ^ 63 /\ l.length * k.toNat <= sizeLine /\ Q (List.replicate k.toNat l).flatten
theorem wU : YQ VV Bj := ⟨fun w r1 r2 ⟨l, n, h1, e, b1, b2, hs, q⟩ k => by
 subst e
 obtain ⟨a, xs, rfl, e1, p1⟩ := qw w r1 h1
 exact ⟨a, n, xs, rfl, zJ r2, e1, b1, b2, by rw [p1.1]; exact hs, k _ _ q (p1.rep _)⟩⟩
noncomputable abbrev AO := ASt -> MH -> (Option Int -> MH -> Prop) -> Prop
structure Eg (t : TO) (a : AO) : Prop where
 go : ∀ {σ : St} {H : Hp} {O : Own} {ρ : ASt} {M : MH} {Q : Option Int -> Hp -> Prop} {Q' : Option Int -> MH -> Prop}, Wf H O M -> Er H O M σ ρ -> a ρ M Q' -> (∀ x M' H' O', Q' x M' -> Ext H O M H' O' M' -> Wf H' O' M' -> Q x H') -> t σ H Q
end L2
set_option Elab.async false
set_option linter.all false
set_option maxRecDepth 100000
set_option maxHeartbeats 4000000
namespace L2
open PySem PySem.Spec PyProof.Rows
mutual
noncomputable def eqD : Dat -> Dat -> Bool
 | .non, .non => true
 | .bl a, .bl b => a == b
 | .bl a, .int b => (if a then 1 else 0) == b
 | .int a, .bl b => a == (if b then 1 else 0)
 | .int a, .int b => a == b
 | .str a, .str b => a == b
 | .lst a, .lst b => jN a b
 | .tup a, .tup b => jN a b
 | _, _ => false
noncomputable def jN : List Dat -> List Dat -> Bool
 | [], [] => true
 | a :: r, b :: r' => eqD a b && jN r r'
 | _, _ => false
end
mutual
noncomputable def dp : Dat -> Nat
 | .lst l => dps l + 1
 | .tup l => dps l + 1
 | .rng _ _ _ => 1000
 | .scr _ _ => 1000
 | .ty _ => 1000
 | _ => 0
noncomputable def dps : List Dat -> Nat
 | [] => 0
 | a :: r => max (dp a) (dps r)
end
theorem Qs {l : List Dat} {n : Nat} (h : ∀ d ∈ l, dp d <= n) : dps l <= n := by
 induction l with
 | nil => exact Nat.zero_le _
 | cons a r ih => rw [dps]; exact Nat.max_le.mpr ⟨h a (by simp), ih fun d hd => h d (by simp [hd])⟩
theorem qd {l : List Dat} {d : Dat} (h : d ∈ l) : dp d <= dps l := by
 induction l with
 | nil => cases h
 | cons a r ih =>
  rw [dps]
  rcases List.mem_cons.mp h with rfl | h
  ·exact Nat.le_max_left _ _
  ·exact Nat.le_trans (ih h) (Nat.le_max_right _ _)
theorem jQ : ∀ (l m : List Dat), l.length = m.length -> jN l m = (List.range l.length).all fun j => eqD (l.getD j .non) (m.getD j .non)
 | [], [], _ => rfl
 | a :: r, b :: r', h => by
  rw [jN, jQ r r' (by simpa using h), List.length_cons, List.range_succ_eq_map, List.all_cons, List.all_map]; rfl
 | [], _ :: _, h => by simp at h
 | _ :: _, [], h => by simp at h
theorem j5 : ∀ (l m : List Dat), l.length ≠ m.length -> jN l m = false
 | [], [], h => absurd rfl h
 | a :: r, b :: r', h => by rw [jN, j5 r r' (fun z => h (by simp [z])), Bool.and_false]
 | [], _ :: _, h => by simp [jN]
 | _ :: _, [], h => by simp [jN]
theorem YW (l m : List Dat) : eqD (.lst l) (.tup m) = false := by simp [eqD]
theorem XS (l m : List Dat) : eqD (.tup l) (.lst m) = false := by simp [eqD]
theorem Vc {p : Dat -> Prop} (h : ∀ a, (∀ b, dp b < dp a -> p b) -> p a) (a : Dat) : p a := by
 have : ∀ n a, dp a <= n -> p a := fun n => by
  induction n with
  | zero => intro a ha; exact h a fun b hb => absurd hb (by omega)
  | succ n ih => intro a ha; exact h a fun b hb => ih b (by omega)
 exact this (dp a) a (Nat.le_refl _)
theorem yT {l : List Dat} (h : ∀ d ∈ l, eqD d d = true) : jN l l = true := by
 induction l with
 | nil => rfl
 | cons a r ih => rw [jN, h a (by simp), ih fun d hd => h d (by simp [hd])]; rfl
theorem XA {a : Dat} : dp a < 1000 -> eqD a a = true := by
 refine Vc (p := fun a => dp a < 1000 -> eqD a a = true) (fun a ih ha => ?_) a
 cases a with
 | non => rfl
 | bl b => rw [eqD]; simp
 | int i => rw [eqD]; simp
 | str x => rw [eqD]; simp
 | lst l =>
  rw [eqD]
  rw [dp] at ha ih
  exact yT fun d hd => ih d (by have := qd hd; omega) (by have := qd hd; omega)
 | tup l =>
  rw [eqD]
  rw [dp] at ha ih
  exact yT fun d hd => ih d (by have := qd hd; omega) (by have := qd hd; omega)
 | rng a b c => rw [dp] at ha; omega
 | scr _ l => rw [dp] at ha; omega
 | ty l => rw [dp] at ha; omega
theorem Rep.fn {H : Hp} {O O' : Own} {v : V} {a b : Dat} (r : Rep H O v a) : Rep H O' v b -> dp a < 1000 -> dp b < 1000 -> a = b := by
 induction r generalizing b with
 | non => intro r' _ _; cases r'; rfl
 | bl => intro r' _ _; cases r'; rfl
 | int => intro r' _ _; cases r'; rfl
 | str => intro r' _ _; cases r'; rfl
 | ty => intro r' h _; rw [dp] at h; omega
 | rng _ _ => intro r' h _; rw [dp] at h; omega
 | scr _ _ => intro r' h _; rw [dp] at h; omega
 | scrK _ => intro r' h _; rw [dp] at h; omega
 | @lst a xs l o1 h1 l1 r1 ih =>
  intro r' ha hb
  cases r' with
  | @lst _ ys m o2 h2 l2 r2 =>
   rw [h1] at h2; cases h2
   congr 1
   refine List.ext_getElem (l1.symm.trans l2) fun i i1 i2 => ?_
   have i0 : i < xs.length := by omega
   rw [dp] at ha hb
   refine ih i xs[i] l[i] (by simp [i0]) (by simp [i1]) (r2 i xs[i] m[i] (by simp [i0]) (by simp [i2])) ?_ ?_
   ·have := qd (List.getElem_mem i1); omega
   ·have := qd (List.getElem_mem i2); omega
  | @tup _ ys m o2 h2 => rw [h1] at h2; cases h2
  | rng o2 h2 => rw [dp] at hb; omega
  | scr o2 h2 => rw [dp] at hb; omega
  | scrK _ => rw [dp] at hb; omega
 | @tup a xs l o1 h1 l1 r1 ih =>
  intro r' ha hb
  cases r' with
  | @tup _ ys m o2 h2 l2 r2 =>
   rw [h1] at h2; cases h2
   congr 1
   refine List.ext_getElem (l1.symm.trans l2) fun i i1 i2 => ?_
   have i0 : i < xs.length := by omega
   rw [dp] at ha hb
   refine ih i xs[i] l[i] (by simp [i0]) (by simp [i1]) (r2 i xs[i] m[i] (by simp [i0]) (by simp [i2])) ?_ ?_
   ·have := qd (List.getElem_mem i1); omega
   ·have := qd (List.getElem_mem i2); omega
  | @lst _ ys m o2 h2 => rw [h1] at h2; cases h2
  | rng o2 h2 => rw [dp] at hb; omega
  | scr o2 h2 => rw [dp] at hb; omega
  | scrK _ => rw [dp] at hb; omega
section
variable {X : Cx} {pins : List (Addr × Obj)} {s : Shared} {σ : St} {H : Hp}
theorem jO {xs : List V} {us : List Value} (r : zD xs us) {j : Nat} (h : j < us.toArray.size) : ∃ x, xs[j]? = some x /\ zC x us.toArray[j] := by
 have h' : j < us.length := by simpa using h
 have hx : j < xs.length := by rw [r.length]; exact h'
 obtain ⟨u, hu, ru⟩ := r.get (i := j) (List.getElem?_eq_getElem hx)
 have e : us.toArray[j] = u := by
  have := (List.getElem?_eq_some_iff.mp hu).2
  simpa using this
 exact ⟨xs[j], List.getElem?_eq_getElem hx, by rw [e]; exact ru⟩
theorem Xg (I : Inv X pins σ H s) {A : Around} {p q : Addr} {O O' : Own} {a b : Dat} (ih : ∀ (c d : Dat) (v u : V) (v' u' : Value), dp c < dp a -> Rep H O v c -> Rep H O' u d -> dp d < 1000 -> zC v v' -> zC u u' -> SeqAt.EqAt A.in1 s v' u' (eqD c d))
    (ra : Rep H O (.ref p) a) (rb : Rep H O' (.ref q) b) (ha : dp a < 1000) (hb : dp b < 1000) (hu : A.units < cLine) : SeqAt.RcAt A s (.ref p) (.ref q) (eqD a b) := by
  cases ra with
  | @lst _ xs l o1 h1 l1 r1 =>
    obtain ⟨us, u1, p1, z1⟩ := I.list (SqL.of h1)
    cases rb with
    | @lst _ ys m o2 h2 l2 r2 =>
      obtain ⟨ws, u2, p2, z2⟩ := I.list (SqL.of h2)
      have s1 : us.toArray.size = l.length := by rw [List.size_toArray, <- u1.length, l1]
      have s2 : ws.toArray.size = m.length := by rw [List.size_toArray, <- u2.length, l2]
      by_cases e : l.length = m.length
      · have h := SeqAt.RcAt.lists (A := A) (e := fun j => eqD (l.getD j .non) (m.getD j .non)) p1.isList p2.isList (by rw [s1, s2, e]) hu (fun j j1 j2 => by
          obtain ⟨x, hx, rx⟩ := jO u1 j1
          obtain ⟨y, hy, ry⟩ := jO u2 j2
          have k1 : j < l.length := by rw [<- s1]; exact j1
          have k2 : j < m.length := by rw [<- s2]; exact j2
          rw [dp] at ha hb ih
          refine ih _ _ x y _ _ ?_ (r1 j x _ hx ?_) (r2 j y _ hy ?_) ?_ rx ry
          · rw [List.getD_eq_getElem?_getD, List.getElem?_eq_getElem k1]
            have := qd (List.getElem_mem k1); show dp l[j] < _; omega
          · rw [List.getD_eq_getElem?_getD, List.getElem?_eq_getElem k1]; rfl
          · rw [List.getD_eq_getElem?_getD, List.getElem?_eq_getElem k2]; rfl
          · rw [List.getD_eq_getElem?_getD, List.getElem?_eq_getElem k2]
            have := qd (List.getElem_mem k2); show dp m[j] < _; omega)
        rw [s1, <- jQ l m e] at h
        rw [eqD]; exact h
      · rw [eqD, j5 l m e]
        exact SeqAt.RcAt.lists_lengths p1.isList p2.isList (by rw [s1, s2]; simpa using e) hu
    | @tup _ ys m o2 h2 l2 r2 =>
      obtain ⟨ws, u2, p2, z2⟩ := I.tuple (SqT.of h2)
      rw [YW]
      exact SeqAt.RcAt.list_tuple p1.isList p2 hu
    | rng o2 h2 => rw [dp] at hb; omega
    | scr o2 h2 => rw [dp] at hb; omega
    | scrK _ => rw [dp] at hb; omega
  | @tup _ xs l o1 h1 l1 r1 =>
    obtain ⟨us, u1, p1, z1⟩ := I.tuple (SqT.of h1)
    cases rb with
    | @tup _ ys m o2 h2 l2 r2 =>
      obtain ⟨ws, u2, p2, z2⟩ := I.tuple (SqT.of h2)
      have s1 : us.toArray.size = l.length := by rw [List.size_toArray, <- u1.length, l1]
      have s2 : ws.toArray.size = m.length := by rw [List.size_toArray, <- u2.length, l2]
      have h := SeqAt.RcAt.tuples (A := A) (e := fun j => eqD (l.getD j .non) (m.getD j .non)) (show s.heap.IsTuple p us.toArray from p1) (show s.heap.IsTuple q ws.toArray from p2) hu (fun j j1 j2 => by
          obtain ⟨x, hx, rx⟩ := jO u1 j1
          obtain ⟨y, hy, ry⟩ := jO u2 j2
          have k1 : j < l.length := by rw [<- s1]; exact j1
          have k2 : j < m.length := by rw [<- s2]; exact j2
          rw [dp] at ha hb ih
          refine ih _ _ x y _ _ ?_ (r1 j x _ hx ?_) (r2 j y _ hy ?_) ?_ rx ry
          · rw [List.getD_eq_getElem?_getD, List.getElem?_eq_getElem k1]
            have := qd (List.getElem_mem k1); show dp l[j] < _; omega
          · rw [List.getD_eq_getElem?_getD, List.getElem?_eq_getElem k1]; rfl
          · rw [List.getD_eq_getElem?_getD, List.getElem?_eq_getElem k2]; rfl
          · rw [List.getD_eq_getElem?_getD, List.getElem?_eq_getElem k2]
            have := qd (List.getElem_mem k2); show dp m[j] < _; omega)
      rw [s1, s2] at h
      rw [eqD]
      by_cases e : l.length = m.length
      · rw [<- e, Nat.min_self, beq_self_eq_true, Bool.and_true, <- jQ l m e] at h
        exact h
      · rw [j5 l m e]
        rw [show (l.length == m.length) = false by simpa using e, Bool.and_false] at h
        exact h
    | @lst _ ys m o2 h2 l2 r2 =>
      obtain ⟨ws, u2, p2, z2⟩ := I.list (SqL.of h2)
      rw [XS]
      exact SeqAt.RcAt.tuple_list p1 p2.isList hu
    | rng o2 h2 => rw [dp] at hb; omega
    | scr o2 h2 => rw [dp] at hb; omega
    | scrK _ => rw [dp] at hb; omega
  | rng o2 h2 => rw [dp] at ha; omega
  | scr o2 h2 => rw [dp] at ha; omega
  | scrK _ => rw [dp] at ha; omega
theorem Ec (I : Inv X pins σ H s) {a : Addr} {xs : List V} (h : H a = some (.lst xs)) : ∃ us, s.heap.IsList a us := let ⟨_, _, p, _⟩ := I.list (SqL.of h); ⟨_, p.isList⟩
theorem Eb (I : Inv X pins σ H s) {a : Addr} {xs : List V} (h : H a = some (.tup xs)) : ∃ us, s.heap.IsTuple a us := let ⟨_, _, p, _⟩ := I.tuple (SqT.of h); ⟨_, p⟩
local macro_rules | `(tactic| walk_at "sc") => `(tactic| first
 | with_reducible exact .same _ | with_reducible exact .none_none | with_reducible exact .none_bool _ | with_reducible exact .none_int _ _ | with_reducible exact .none_str _ _ | with_reducible exact .bool_none _ | with_reducible exact .bool_bool _ _ | with_reducible exact .bool_int _ _ _ | with_reducible exact .bool_str _ _ _ | with_reducible exact .int_none _ _ | with_reducible exact .int_bool _ _ _ | with_reducible exact .int_int _ _ _ _ | with_reducible exact .int_str _ _ _ _ | with_reducible exact .str_none _ _ | with_reducible exact .str_bool _ _ _ | with_reducible exact .str_int _ _ _ _ | with_reducible exact .str_str _ _ _ _)
theorem ls_ (I : Inv X pins σ H s) {a : Addr} {xs : List V} (h : H a = some (.lst xs)) : s.heap.IsList a (Classical.choose (Ec I h)) := Classical.choose_spec _
theorem ts_ (I : Inv X pins σ H s) {a : Addr} {xs : List V} (h : H a = some (.tup xs)) : s.heap.IsTuple a (Classical.choose (Eb I h)) := Classical.choose_spec _
local macro_rules | `(tactic| walk_at "sq") => `(tactic| first
 | with_reducible exact .none_list (ls_ (by assumption) (by assumption)) (by assumption) | with_reducible exact .bool_list _ (ls_ (by assumption) (by assumption)) (by assumption) | with_reducible exact .int_list _ _ (ls_ (by assumption) (by assumption)) (by assumption) | with_reducible exact .str_list _ _ (ls_ (by assumption) (by assumption)) (by assumption) | with_reducible exact .list_none (ls_ (by assumption) (by assumption)) (by assumption) | with_reducible exact .list_bool _ (ls_ (by assumption) (by assumption)) (by assumption) | with_reducible exact .list_int _ _ (ls_ (by assumption) (by assumption)) (by assumption) | with_reducible exact .list_str _ _ (ls_ (by assumption) (by assumption)) (by assumption)
 | with_reducible exact .none_tuple (ts_ (by assumption) (by assumption)) (by assumption) | with_reducible exact .bool_tuple _ (ts_ (by assumption) (by assumption)) (by assumption) | with_reducible exact .int_tuple _ _ (ts_ (by assumption) (by assumption)) (by assumption) | with_reducible exact .str_tuple _ _ (ts_ (by assumption) (by assumption)) (by assumption) | with_reducible exact .tuple_none (ts_ (by assumption) (by assumption)) (by assumption) | with_reducible exact .tuple_bool _ (ts_ (by assumption) (by assumption)) (by assumption) | with_reducible exact .tuple_int _ _ (ts_ (by assumption) (by assumption)) (by assumption) | with_reducible exact .tuple_str _ _ (ts_ (by assumption) (by assumption)) (by assumption))
theorem Q6 (I : Inv X pins σ H s) {O O' : Own} (A : Around) (hu : A.units < cLine) (a b : Dat) (v u : V) (v' u' : Value) (ha : dp a < 1000) (ra : Rep H O v a) (rb : Rep H O' u b) (hb : dp b < 1000) (rv : zC v v') (ru : zC u u')
    (ih : ∀ (c d : Dat) (v u : V) (v' u' : Value), dp c < dp a -> Rep H O v c -> Rep H O' u d -> dp d < 1000 -> zC v v' -> zC u u' -> SeqAt.EqAt A.in1 s v' u' (eqD c d)) : SeqAt.EqAt A s v' u' (eqD a b) := by
  by_cases hr : ∃ p q, v = .ref p /\ u = .ref q
  · obtain ⟨p, q, rfl, rfl⟩ := hr
    cases rv
    cases ru
    by_cases e : p = q
    · subst e
      rw [<- ra.fn rb ha hb, XA ha]
      exact .same _
    · exact .of_refs e (Xg I ih ra rb ha hb hu)
  · cases ra <;> cases rb <;> first
      | with_reducible exact absurd ⟨_, _, rfl, rfl⟩ hr
      | (rw [dp] at ha; omega)
      | (rw [dp] at hb; omega)
      | ((first | (obtain ⟨t0, rfl⟩ := rv) | cases rv); (first | (obtain ⟨t1, rfl⟩ := ru) | cases ru); simp only [eqD, Bool.not_false, Bool.not_true]; first | walk_at "sc" | walk_at "sq")
theorem Ym (I : Inv X pins σ H s) {O O' : Own} : ∀ (n : Nat) (A : Around), A.units + n < cLine -> ∀ (a b : Dat) (v u : V) (v' u' : Value), dp a <= n -> n < 1000 -> Rep H O v a -> Rep H O' u b -> dp b < 1000 -> zC v v' -> zC u u' -> SeqAt.EqAt A s v' u' (eqD a b) := by
 intro n
 induction n with
 | zero =>
  intro A hu a b v u v' u' ha _ ra rb hb rv ru
  exact Q6 I A (by omega) a b v u v' u' (by omega) ra rb hb rv ru fun _ _ _ _ _ _ h => absurd h (by omega)
 | succ n ih =>
  intro A hu a b v u v' u' ha hn ra rb hb rv ru
  exact Q6 I A (by omega) a b v u v' u' (by omega) ra rb hb rv ru fun c d x y x' y' hc rc rd hd rx ry => ih A.in1 (by show A.units + 1 + n < _; omega) c d x y x' y' (by omega) (by omega) rc rd hd rx ry
noncomputable def B4 (f : Bool -> Bool) : R2 := fun x y H Q => ∃ O O' a b, Rep H O x a /\ Rep H O' y b /\ dp a <= 40 /\ dp b <= 40 /\ Q (.bl (f (eqD a b))) H
theorem Da (I : Inv X pins σ H s) {O O' : Own} (A : Around) (hu : A.units + 41 < cLine) (a b : Dat) (v u : V) (v' u' : Value) (ha : dp a <= 40) (ra : Rep H O v a) (rb : Rep H O' u b) (hb : dp b <= 40) (rv : zC v v') (ru : zC u u') : SeqAt.RcAt A s v' u' (eqD a b) := by
  have ih : ∀ (c d : Dat) (v u : V) (v' u' : Value), dp c < dp a -> Rep H O v c -> Rep H O' u d -> dp d < 1000 -> zC v v' -> zC u u' -> SeqAt.EqAt A.in1 s v' u' (eqD c d) := fun c d v u v' u' hc rc rd hd rv ru => Ym I 40 A.in1 (by show A.units + 1 + 40 < _; omega) c d v u v' u' (by omega) (by omega) rc rd hd rv ru
  replace hu : A.units < cLine := by omega
  by_cases hr : ∃ p q, v = .ref p /\ u = .ref q
  · obtain ⟨p, q, rfl, rfl⟩ := hr
    cases rv
    cases ru
    exact Xg I ih ra rb (by omega) (by omega) hu
  · cases ra <;> cases rb <;> first
      | with_reducible exact absurd ⟨_, _, rfl, rfl⟩ hr
      | (rw [dp] at ha; omega)
      | (rw [dp] at hb; omega)
      | ((first | (obtain ⟨t0, rfl⟩ := rv) | cases rv); (first | (obtain ⟨t1, rfl⟩ := ru) | cases ru); simp only [eqD, Bool.not_false, Bool.not_true]; first | walk_at "sc" | walk_at "sq")
theorem YI (I : Inv X pins σ H s) {A : Around} {p q : Addr} {O O' : Own} {a b : Dat} (ih : ∀ (c d : Dat) (v u : V) (v' u' : Value), dp c < dp a -> Rep H O v c -> Rep H O' u d -> dp d < 1000 -> zC v v' -> zC u u' -> SeqAt.EqAt A.in1 s v' u' (eqD c d))
    (ra : Rep H O (.ref p) a) (rb : Rep H O' (.ref q) b) (ha : dp a < 1000) (hb : dp b < 1000) (hu : A.units < cLine) : SeqAt.RcNeAt A s (.ref p) (.ref q) (!(eqD a b)) := by
  cases ra with
  | @lst _ xs l o1 h1 l1 r1 =>
    obtain ⟨us, u1, p1, z1⟩ := I.list (SqL.of h1)
    cases rb with
    | @lst _ ys m o2 h2 l2 r2 =>
      obtain ⟨ws, u2, p2, z2⟩ := I.list (SqL.of h2)
      have s1 : us.toArray.size = l.length := by rw [List.size_toArray, <- u1.length, l1]
      have s2 : ws.toArray.size = m.length := by rw [List.size_toArray, <- u2.length, l2]
      by_cases e : l.length = m.length
      · have h := SeqAt.RcNeAt.lists (A := A) (e := fun j => eqD (l.getD j .non) (m.getD j .non)) p1.isList p2.isList (by rw [s1, s2, e]) hu (fun j j1 j2 => by
          obtain ⟨x, hx, rx⟩ := jO u1 j1
          obtain ⟨y, hy, ry⟩ := jO u2 j2
          have k1 : j < l.length := by rw [<- s1]; exact j1
          have k2 : j < m.length := by rw [<- s2]; exact j2
          rw [dp] at ha hb ih
          refine ih _ _ x y _ _ ?_ (r1 j x _ hx ?_) (r2 j y _ hy ?_) ?_ rx ry
          · rw [List.getD_eq_getElem?_getD, List.getElem?_eq_getElem k1]
            have := qd (List.getElem_mem k1); show dp l[j] < _; omega
          · rw [List.getD_eq_getElem?_getD, List.getElem?_eq_getElem k1]; rfl
          · rw [List.getD_eq_getElem?_getD, List.getElem?_eq_getElem k2]; rfl
          · rw [List.getD_eq_getElem?_getD, List.getElem?_eq_getElem k2]
            have := qd (List.getElem_mem k2); show dp m[j] < _; omega)
        rw [s1, <- jQ l m e] at h
        rw [eqD]; exact h
      · rw [eqD, j5 l m e]
        exact SeqAt.RcNeAt.lists_lengths p1.isList p2.isList (by rw [s1, s2]; simpa using e) hu
    | @tup _ ys m o2 h2 l2 r2 =>
      obtain ⟨ws, u2, p2, z2⟩ := I.tuple (SqT.of h2)
      rw [YW]
      exact SeqAt.RcNeAt.list_tuple p1.isList p2 hu
    | rng o2 h2 => rw [dp] at hb; omega
    | scr o2 h2 => rw [dp] at hb; omega
    | scrK _ => rw [dp] at hb; omega
  | @tup _ xs l o1 h1 l1 r1 =>
    obtain ⟨us, u1, p1, z1⟩ := I.tuple (SqT.of h1)
    cases rb with
    | @tup _ ys m o2 h2 l2 r2 =>
      obtain ⟨ws, u2, p2, z2⟩ := I.tuple (SqT.of h2)
      have s1 : us.toArray.size = l.length := by rw [List.size_toArray, <- u1.length, l1]
      have s2 : ws.toArray.size = m.length := by rw [List.size_toArray, <- u2.length, l2]
      have h := SeqAt.RcNeAt.tuples (A := A) (e := fun j => eqD (l.getD j .non) (m.getD j .non)) (show s.heap.IsTuple p us.toArray from p1) (show s.heap.IsTuple q ws.toArray from p2) hu (fun j j1 j2 => by
          obtain ⟨x, hx, rx⟩ := jO u1 j1
          obtain ⟨y, hy, ry⟩ := jO u2 j2
          have k1 : j < l.length := by rw [<- s1]; exact j1
          have k2 : j < m.length := by rw [<- s2]; exact j2
          rw [dp] at ha hb ih
          refine ih _ _ x y _ _ ?_ (r1 j x _ hx ?_) (r2 j y _ hy ?_) ?_ rx ry
          · rw [List.getD_eq_getElem?_getD, List.getElem?_eq_getElem k1]
            have := qd (List.getElem_mem k1); show dp l[j] < _; omega
          · rw [List.getD_eq_getElem?_getD, List.getElem?_eq_getElem k1]; rfl
          · rw [List.getD_eq_getElem?_getD, List.getElem?_eq_getElem k2]; rfl
          · rw [List.getD_eq_getElem?_getD, List.getElem?_eq_getElem k2]
            have := qd (List.getElem_mem k2); show dp m[j] < _; omega)
      rw [s1, s2] at h
      rw [eqD]
      by_cases e : l.length = m.length
      · rw [<- e, Nat.min_self, beq_self_eq_true, Bool.and_true, <- jQ l m e] at h
        exact h
      · rw [j5 l m e]
        rw [show (l.length == m.length) = false by simpa using e, Bool.and_false] at h
        exact h
    | @lst _ ys m o2 h2 l2 r2 =>
      obtain ⟨ws, u2, p2, z2⟩ := I.list (SqL.of h2)
      rw [XS]
      exact SeqAt.RcNeAt.tuple_list p1 p2.isList hu
    | rng o2 h2 => rw [dp] at hb; omega
    | scr o2 h2 => rw [dp] at hb; omega
    | scrK _ => rw [dp] at hb; omega
  | rng o2 h2 => rw [dp] at ha; omega
  | scr o2 h2 => rw [dp] at ha; omega
  | scrK _ => rw [dp] at ha; omega
theorem YD (I : Inv X pins σ H s) {O O' : Own} (A : Around) (hu : A.units + 41 < cLine) (a b : Dat) (v u : V) (v' u' : Value) (ha : dp a <= 40) (ra : Rep H O v a) (rb : Rep H O' u b) (hb : dp b <= 40) (rv : zC v v') (ru : zC u u') : SeqAt.RcNeAt A s v' u' (!(eqD a b)) := by
  have ih : ∀ (c d : Dat) (v u : V) (v' u' : Value), dp c < dp a -> Rep H O v c -> Rep H O' u d -> dp d < 1000 -> zC v v' -> zC u u' -> SeqAt.EqAt A.in1 s v' u' (eqD c d) := fun c d v u v' u' hc rc rd hd rv ru => Ym I 40 A.in1 (by show A.units + 1 + 40 < _; omega) c d v u v' u' (by omega) (by omega) rc rd hd rv ru
  replace hu : A.units < cLine := by omega
  by_cases hr : ∃ p q, v = .ref p /\ u = .ref q
  · obtain ⟨p, q, rfl, rfl⟩ := hr
    cases rv
    cases ru
    exact YI I ih ra rb (by omega) (by omega) hu
  · cases ra <;> cases rb <;> first
      | with_reducible exact absurd ⟨_, _, rfl, rfl⟩ hr
      | (rw [dp] at ha; omega)
      | (rw [dp] at hb; omega)
      | ((first | (obtain ⟨t0, rfl⟩ := rv) | cases rv); (first | (obtain ⟨t1, rfl⟩ := ru) | cases ru); simp only [eqD, Bool.not_false, Bool.not_true]; first | walk_at "sc" | walk_at "sq")
theorem qp (hu : X.A.units + 64 < cLine) : OpR X (compareOp .Eq) (B4 id) := by
 intro pins s σ H x y v u Q I rx ry h
 obtain ⟨O, O', a, b, ra, rb, ha, hb, k⟩ := h
 exact Da I X.A (by omega) a b x y v u ha ra rb hb rx ry _ _ _ _ ⟨.bl _, H, I, rfl, k⟩
theorem qV (hu : X.A.units + 64 < cLine) : OpR X (compareOp .NotEq) (B4 not) := by
 intro pins s σ H x y v u Q I rx ry h
 obtain ⟨O, O', a, b, ra, rb, ha, hb, k⟩ := h
 exact YD I X.A (by omega) a b x y v u ha ra rb hb rx ry _ _ _ _ ⟨.bl _, H, I, rfl, k⟩
end
noncomputable def yB (x : AV) (M : MH) : Option Dat := match x with
 | .d x => some x
 | .ref a => match M a with
  | some (.lst l) => (pur l).map .lst
  | _ => none
theorem Af (x : Dat) (M : MH) : yB (.d x) M = some x := rfl
theorem wl {H : Hp} {O : Own} {M : MH} {v : V} {x : AV} {d : Dat} (w : Wf H O M) (r : zw H O M v x) (h : yB x M = some d) : ∃ O', Rep H O' v d := by
 cases x with
 | d x => cases h; exact ⟨O, r⟩
 | ref a =>
  unfold yB at h
  dsimp only at h
  cases e : M a with
  | none => rw [e] at h; cases h
  | some o =>
   rw [e] at h
   cases o with
   | lst l =>
    dsimp only at h
    cases ep : pur l with
    | none => rw [ep] at h; cases h
    | some ds =>
     rw [ep] at h
     cases h
     obtain ⟨xs, hx, rx⟩ := w.mo a _ e
     rw [jX ep] at rx
     have rp := rx.pure
     refine ⟨V1 O a, ?_⟩
     rw [r.1]
     exact Rep.lst (fun z => z.1 rfl) hx rp.1 fun i x d e1 e2 => (rp.2 i x d e1 e2).imp (xa a)
   | _ => cases h
noncomputable def Dj (f : Bool -> Bool) : AR2 := fun x y M Q => ∃ a b, yB x M = some a /\ yB y M = some b /\ dp a <= 40 /\ dp b <= 40 /\ Q (.d (.bl (f (eqD a b)))) M
theorem VZ {f : Bool -> Bool} : ZU (B4 f) (Dj f) := ⟨fun w r1 r2 ⟨a, b, e1, e2, h1, h2, q⟩ k => by
 obtain ⟨O1, p1⟩ := wl w r1 e1
 obtain ⟨O2, p2⟩ := wl w r2 e2
 exact ⟨O1, O2, a, b, p1, p2, h1, h2, k _ _ _ _ _ q .refl w .bl⟩⟩
theorem qW (i : Int) : dp (.int i) = 0 := by simp [dp]
theorem qk (ns : List Int) : dp (.lst (ns.map .int)) <= 1 := by
 rw [dp]
 have : dps (ns.map Dat.int) <= 0 := Qs fun d hd => by
  obtain ⟨i, _, rfl⟩ := List.mem_map.mp hd
  rw [qW]; exact Nat.le_refl _
 omega
theorem vd : ∀ (ns ms : List Int), jN (ns.map .int) (ms.map .int) = decide (ns = ms)
 | [], [] => by simp [jN]
 | [], _ :: _ => by simp [jN]
 | _ :: _, [] => by simp [jN]
 | a :: r, b :: r' => by
  rw [List.map_cons, List.map_cons, jN, vd r r', show eqD (.int a) (.int b) = (a == b) by simp [eqD]]
  by_cases h : a = b <;> simp [h]
theorem jq (ns ms : List Int) : eqD (.lst (ns.map .int)) (.lst (ms.map .int)) = decide (ns = ms) := by rw [eqD, vd]
end L2
set_option Elab.async false
set_option linter.all false
set_option maxRecDepth 100000
set_option maxHeartbeats 4000000
namespace L2
open PySem PySem.Spec PyProof.Rows
theorem qT {H : Hp} {O : Own} {M : MH} {vs : List V} {x : AV} (r : zi H O M vs [x]) : ∃ v, vs = [v] /\ zw H O M v x := by
 obtain ⟨v1, r', rfl, a1, r2⟩ := r.cons_inv
 rw [r2.nil_inv]; exact ⟨v1, rfl, a1⟩
theorem xh {H : Hp} {O : Own} {M : MH} {vs : List V} {x y : AV} (r : zi H O M vs [x, y]) : ∃ v u, vs = [v, u] /\ zw H O M v x /\ zw H O M u y := by
 obtain ⟨v1, r', rfl, a1, r2⟩ := r.cons_inv
 obtain ⟨v2, rfl, a2⟩ := qT r2
 exact ⟨v1, v2, rfl, a1, a2⟩
noncomputable def DJ : List AV -> MH -> AK -> Prop := fun xs M Q => ∃ x l, xs = [x] /\ qD x M = some l /\ Q (.d (.int (l.length : Nat))) M
theorem V4 {K : PySem.W.Frag} : yF (fun xs H Q => ∃ p ys, xs = [V.ref p] /\ (SqL K H p ys \/ SqT K H p ys) /\ Q (V.int ys.length) H) DJ := ⟨fun w r ⟨x, l, e, h, q⟩ k => by
 subst e
 obtain ⟨v, rfl, rv⟩ := qT r
 obtain ⟨a, xs, rfl, h1, r1⟩ := Qf w rv h
 exact ⟨a, xs, rfl, h1.elim (fun h => .inl (SqL.of h)) (fun h => .inr (SqT.of h)), by rw [r1.1]; exact k _ _ _ _ _ q .refl w .int⟩⟩
noncomputable def bI1 (f : Int -> Int) : List AV -> MH -> AK -> Prop := fun xs M Q => ∃ i, xs = [.d (.int i)] /\ Q (.d (.int (f i))) M
theorem Wv : yF (fun xs H Q => ∃ i, xs = [V.int i] /\ Q (V.int (if i < 0 then -i else i)) H) (bI1 fun i => if i < 0 then -i else i) := ⟨fun w r ⟨i, e, q⟩ k => by
 subst e
 obtain ⟨v, rfl, rv⟩ := qT r
 exact ⟨i, by rw [zJ rv], k _ _ _ _ _ q .refl w .int⟩⟩
noncomputable def bI2 (f : Int -> Int -> Int) : List AV -> MH -> AK -> Prop := fun xs M Q => ∃ i j, xs = [.d (.int i), .d (.int j)] /\ Q (.d (.int (f i j))) M
theorem BU {f : Int -> Int -> Int} : yF (fun xs H Q => ∃ i j, xs = [V.int i, V.int j] /\ Q (V.int (f i j)) H) (bI2 f) := ⟨fun w r ⟨i, j, e, q⟩ k => by
 subst e
 obtain ⟨v, u, rfl, rv, ru⟩ := xh r
 exact ⟨i, j, by rw [zJ rv, zJ ru], k _ _ _ _ _ q .refl w .int⟩⟩
noncomputable def Wy : List AV -> MH -> AK -> Prop := fun xs M Q => ∃ c, xs = [.d (.bl c)] /\ Q (.d (.int (if c = true then 1 else 0))) M
theorem XH : yF (fun xs H Q => ∃ k, xs = [V.bl k] /\ Q (V.int (if k = true then 1 else 0)) H) Wy := ⟨fun w r ⟨c, e, q⟩ k => by
 subst e
 obtain ⟨v, rfl, rv⟩ := qT r
 exact ⟨c, by rw [kA rv], k _ _ _ _ _ q .refl w .int⟩⟩
structure WH (r : List V -> Hp -> VK -> Prop) (a : List AV -> MH -> (List AV -> Prop) -> Prop) : Prop where
 go : ∀ {vs : List V} {xs : List AV} {H : Hp} {O : Own} {M : MH} {Q : VK} {Q' : List AV -> Prop}, Wf H O M -> zi H O M vs xs -> a xs M Q' -> (∀ l ys, Q' l -> zi H O M ys l -> ∀ p, H p = none -> Q (.ref p) (upd H p (.lst ys))) -> r vs H Q
noncomputable def fCB (r : List AV -> MH -> (List AV -> Prop) -> Prop) (b : AA) : AF := fun ρ M Q => b ρ M fun xs M1 => r xs M1 fun l => Q l M1
theorem Jk {r : List V -> Hp -> VK -> Prop} {ra : List AV -> MH -> (List AV -> Prop) -> Prop} {u : TA} {b : AA} (hr : WH r ra) (h : kW u b) : ZR (tCB r u) (fCB ra b) :=
 ⟨fun w e q k => h.go w e q fun x M1 v H1 O1 q1 k1 w1 r1 => hr.go w1 r1 q1 fun l ys q3 r3 p hp =>
  k l M1 p ys _ _ q3 (k1.trans (je w1 hp _)) (vY w1 hp _ (fun _ z => nomatch z)) (.inl rfl) (w1.fresh hp).2 (ya w1 k1 hp) zh (r3.ext (je w1 hp _))⟩
theorem jU {H : Hp} {O : Own} {M : MH} : ∀ {ns : List Int} {xs : List V}, zi H O M xs (ns.map fun i => AV.d (.int i)) -> xs = ns.map V.int
 | [], xs, r => r.nil_inv
 | i :: ns, xs, r => by
  obtain ⟨v, r', rfl, a1, r2⟩ := r.cons_inv
  rw [zJ a1, jU r2]; rfl
noncomputable def tyA (x : AV) (M : MH) : Option String := match x with
 | .d .non => some "NoneType"
 | .d (.bl _) => some "bool"
 | .d (.int _) => some "int"
 | .d (.str _) => some "str"
 | .d (.lst _) => some "list"
 | .d (.tup _) => some "tuple"
 | .ref a => match M a with
  | some (.lst _) => some "list"
  | some (.dK _) => some "dict"
  | _ => none
 | _ => none
theorem XJ {K : PySem.W.Frag} {H : Hp} {O : Own} {M : MH} {v : V} {x : AV} {t : String} (w : Wf H O M) (r : zw H O M v x) (h : tyA x M = some t) : jL K H v (.type t) := by
 cases x with
 | d x =>
  cases (show Rep H O v x from r) with
  | non => cases h; exact .non
  | bl => cases h; exact .bl _
  | int => cases h; exact .int _
  | str => cases h; exact .str _
  | lst o e => cases h; exact .lst e
  | tup o e => cases h; exact .tup e
  | ty => cases h
  | rng _ _ => cases h
  | scr _ _ => cases h
  | scrK _ => cases h
 | ref a =>
  unfold tyA at h
  dsimp only at h
  rw [r.1]
  cases e : M a with
  | none => rw [e] at h; cases h
  | some o =>
   rw [e] at h
   have := w.mo a o e
   cases o with
   | lst l => cases h; obtain ⟨xs, hx, _⟩ := this; exact .lst hx
   | dK l => cases h; obtain ⟨xs, hx, _⟩ := this; exact .dK hx
   | ins C fs => cases h
noncomputable def DN : List AV -> MH -> AK -> Prop := fun xs M Q => ∃ x t c b, xs = [x, .d (.ty c)] /\ tyA x M = some t /\ isT t c = some b /\ Q (.d (.bl b)) M
theorem VI {K : PySem.W.Frag} : yF (fun xs H Q => ∃ x t c b, xs = [x, V.ty c] /\ jL K H x (Value.type t) /\ isT t c = some b /\ Q (V.bl b) H) DN := ⟨fun w r ⟨x, t, c, b, e, h, hb, q⟩ k => by
 subst e
 obtain ⟨v, u, rfl, rv, ru⟩ := xh r
 exact ⟨v, t, c, b, by rw [KN ru], XJ w rv h, hb, k _ _ _ _ _ q .refl w .bl⟩⟩
theorem Jh {H : Hp} {O : Own} {M : MH} : ∀ {ns : List String} {xs : List V}, zi H O M xs ((ns.map Dat.ty).map .d) -> xs = ns.map V.ty
 | [], xs, r => r.nil_inv
 | i :: ns, xs, r => by
  obtain ⟨v, r', rfl, a1, r2⟩ := r.cons_inv
  rw [KN a1, Jh r2]; rfl
noncomputable def wg : List Dat -> Option (List String)
 | [] => some []
 | .ty n :: r => (wg r).map (n :: ·)
 | _ => none
theorem Jr : ∀ {l : List Dat} {cs : List String}, wg l = some cs -> l = cs.map Dat.ty
 | [], cs, h => by cases h; rfl
 | .ty n :: r, cs, h => by
  unfold wg at h
  cases e : wg r with
  | none => rw [e] at h; cases h
  | some m => rw [e] at h; cases h; rw [Jr e]; rfl
 | .non :: _, _, h => by cases h
 | .bl _ :: _, _, h => by cases h
 | .int _ :: _, _, h => by cases h
 | .str _ :: _, _, h => by cases h
 | .lst _ :: _, _, h => by cases h
 | .tup _ :: _, _, h => by cases h
 | .rng _ _ _ :: _, _, h => by cases h
 | .scr _ _ :: _, _, h => by cases h
noncomputable def WT : List AV -> MH -> AK -> Prop := fun xs M Q => ∃ x t l cs b, xs = [x, .d (.tup l)] /\ wg l = some cs /\ tyA x M = some t /\ yr t cs = some b /\ Q (.d (.bl b)) M
theorem X8 {K : PySem.W.Frag} : yF (fun xs H Q => ∃ x t p cs b, xs = [x, V.ref p] /\ H p = some (HO.tup (List.map V.ty cs)) /\ jL K H x (Value.type t) /\ yr t cs = some b /\ Q (V.bl b) H) WT := ⟨fun w r ⟨x, t, l, cs, b, e, hc, h, hb, q⟩ k => by
 subst e
 obtain ⟨v, u, rfl, rv, ru⟩ := xh r
 rw [Jr hc] at ru
 obtain ⟨a, xs, rfl, h1, r1⟩ := jj (l := (cs.map Dat.ty).map .d) ru rfl
 rw [Jh r1] at h1
 exact ⟨v, t, a, cs, b, rfl, h1, XJ w rv h, hb, k _ _ _ _ _ q .refl w .bl⟩⟩
noncomputable def WU : List AV -> MH -> AK -> Prop := fun xs M Q => ∃ x ns, xs = [x] /\ z0 x M = some (List.map (fun i => AV.d (.int i)) ns) /\ (∀ (x : Int), x ∈ ns -> 0 <= x /\ x <= 1000000) /\ ns.length <= 100000 /\ Q (.d (.int ns.sum)) M
theorem X1 {K : PySem.W.Frag} : yF (fun xs H Q => ∃ p ns, xs = [V.ref p] /\ SqL K H p (List.map V.int ns) /\ (∀ (x : Int), x ∈ ns -> 0 <= x /\ x <= 1000000) /\ ns.length <= 100000 /\ Q (V.int ns.sum) H) WU := ⟨fun w r ⟨x, ns, e, h, h2, h3, q⟩ k => by
 subst e
 obtain ⟨v, rfl, rv⟩ := qT r
 obtain ⟨a, xs, rfl, h1, r1⟩ := qw w rv h
 rw [jU r1] at h1
 exact ⟨a, ns, rfl, SqL.of h1, h2, h3, k _ _ _ _ _ q .refl w .int⟩⟩
theorem QG {H : Hp} {O : Own} {M : MH} : ∀ {ns : List Bool} {xs : List V}, zi H O M xs (ns.map fun i => AV.d (.bl i)) -> xs = ns.map V.bl
 | [], xs, r => r.nil_inv
 | i :: ns, xs, r => by
  obtain ⟨v, r', rfl, a1, r2⟩ := r.cons_inv
  rw [kA a1, QG r2]; rfl
noncomputable def DH (f : List Bool -> Bool) : List AV -> MH -> AK -> Prop := fun xs M Q => ∃ x bs, xs = [x] /\ z0 x M = some (List.map (fun b => AV.d (.bl b)) bs) /\ Q (.d (.bl (f bs))) M
theorem Wi {K : PySem.W.Frag} {f : List Bool -> Bool} : yF (fun xs H Q => ∃ p bs, xs = [V.ref p] /\ SqL K H p (List.map V.bl bs) /\ Q (V.bl (f bs)) H) (DH f) := ⟨fun w r ⟨x, bs, e, h, q⟩ k => by
 subst e
 obtain ⟨v, rfl, rv⟩ := qT r
 obtain ⟨a, xs, rfl, h1, r1⟩ := qw w rv h
 rw [QG r1] at h1
 exact ⟨a, bs, rfl, SqL.of h1, k _ _ _ _ _ q .refl w .bl⟩⟩
noncomputable def WL : List AV -> MH -> AK -> Prop := fun xs M Q => ∃ b, xs = [.d (.int b)] /\ Q (.d (.rng 0 b 1)) M
theorem YT : yF (fun xs H Q => ∃ b, xs = [V.int b] /\ ∀ (p : Addr), H p = none -> Q (V.ref p) (upd H p (Zu p 0 b 1))) WL := ⟨fun w r ⟨b, e, q⟩ k => by
 subst e
 obtain ⟨v, rfl, rv⟩ := qT r
 exact ⟨b, by rw [zJ rv], fun p hp => k _ _ _ _ _ q (jz w hp _) (Qo w hp _) (Rep.rng (w.fresh hp).1 zh)⟩⟩
noncomputable def Y0 : List AV -> MH -> (List AV -> Prop) -> Prop := fun xs M Q => ∃ a b c n, xs = [.d (.rng a b c)] /\ Builtin.Range.small a b c = true /\ Builtin.Range.rangeSize a b c = ((n : Nat) : Int) /\ n <= 100000 /\ Q ((qq a c n).map fun i => AV.d (.int i))
theorem vx : WH (fun xs H Q => ∃ p a b c n, xs = [.ref p] /\ H p = some (Zu p a b c) /\ Builtin.Range.small a b c = true /\ Builtin.Range.rangeSize a b c = ((n : Nat) : Int) /\ n <= 100000 /\ ∀ l, H l = none -> Q (.ref l) (upd H l (.lst ((qq a c n).map V.int)))) Y0 := ⟨fun {vs xs H O M Q Q'} w r ⟨a, b, c, n, e, h1, h2, h3, q⟩ k => by
 subst e
 obtain ⟨v, rfl, rv⟩ := qT r
 cases (show Rep H O v (.rng a b c) from rv) with
 | rng o h => exact ⟨_, a, b, c, n, rfl, h, h1, h2, h3, k _ _ q (Z4 _)⟩⟩
structure Eh (r : V -> List V -> Hp -> VK -> Prop) (a : AV -> List AV -> MH -> AK -> Prop) : Prop where
 go : ∀ {x : V} {dx : AV} {vs : List V} {xs : List AV} {H : Hp} {O : Own} {M : MH} {Q : VK} {Q' : AK}, Wf H O M -> zw H O M x dx -> zi H O M vs xs -> a dx xs M Q' -> (∀ x M' v H' O', Q' x M' -> Ext H O M H' O' M' -> Wf H' O' M' -> zw H' O' M' v x -> Q v H') -> r x vs H Q
noncomputable def Jj (r : Addr) : MO -> Prop
 | .lst l => AV.ref r ∈ l
 | .dK kvs => AV.ref r ∈ kvs.map (·.2)
 | .ins _ fs => AV.ref r ∈ fs.map (·.2)
structure Kj (M0 M' : MH) (x x' : AV) (M'' : MH) : Prop where
 sub : ∀ q, M'' q = M' q \/ (M0 q = none /\ M'' q = none)
 cl : ∀ q o, M'' q = some o -> M0 q = some o \/ ∀ r, Jj r o -> M'' r ≠ none
 res : (x' = x /\ ∀ p, x = .ref p -> M'' p ≠ none) \/ ∃ p l ds, x = .ref p /\ M' p = some (.lst l) /\ pur l = some ds /\ M'' p = none /\ x' = .d (.lst ds)
theorem Qe {H0 H : Hp} {O0 O : Own} {M0 M' M'' : MH} {x x' : AV} {v : V} (w0 : Wf H0 O0 M0) (w : Wf H O M') (k : Ext H0 O0 M0 H O M') (r : zw H O M' v x) (f : Kj M0 M' x x' M'') :
    ∃ O'', Wf H O'' M'' /\ Ext H0 O0 M0 H O'' M'' /\ zw H O'' M'' v x' := by
  have ks : ∀ a u, ¬ O a -> H a = some u -> H a = some u /\ ¬ (O a /\ ¬ (M' a ≠ none /\ M'' a = none)) := fun a u h e => ⟨e, fun z => h z.1⟩
  have k0 : ∀ a, M0 a ≠ none -> M'' a = M' a := fun a h => (f.sub a).elim (fun z => z) (fun z => absurd z.1 h)
  have m0 : ∀ a, M0 a ≠ none -> M'' a ≠ none := fun a h => by rw [k0 a h]; exact k.mst a h
  have avs : ∀ {xs : List V} {l : List AV}, zi H O M' xs l -> (∀ r, AV.ref r ∈ l -> M'' r ≠ none) -> zi H (fun a => O a /\ ¬ (M' a ≠ none /\ M'' a = none)) M'' xs l := fun {xs l} rr hr => ⟨rr.1, fun i y d e1 e2 => by
    have := rr.2 i y d e1 e2
    cases d with
    | d d => exact Rep.imp ks this
    | ref a => exact ⟨this.1, hr a (List.mem_of_getElem? e2)⟩⟩
  have refs0 : ∀ q o, M0 q = some o -> ∀ r, Jj r o -> M0 r ≠ none := fun q o e r hr => by
    have := w0.mo q o e
    cases o with
    | lst l =>
      obtain ⟨xs, _, rr⟩ := this
      obtain ⟨i, hi⟩ := List.getElem?_of_mem hr
      obtain ⟨y, _, ry⟩ := rr.get hi
      exact ry.2
    | dK l =>
      obtain ⟨xs, _, rr⟩ := this
      obtain ⟨i, hi⟩ := List.getElem?_of_mem hr
      obtain ⟨y, _, ry⟩ := rr.2.get hi
      exact ry.2
    | ins C l =>
      obtain ⟨dx, xs, _, rr, _⟩ := this
      obtain ⟨i, hi⟩ := List.getElem?_of_mem hr
      obtain ⟨y, _, ry⟩ := rr.2.get hi
      exact ry.2
  refine ⟨fun a => O a /\ ¬ (M' a ≠ none /\ M'' a = none), ⟨fun q o e => ?_, fun a h => ?_, fun a h => w.al a h.1⟩, ⟨fun a u h e => ?_, fun a h e => ?_, m0⟩, ?_⟩
  · have e' : M' q = some o := by
      rcases f.sub q with z | z
      · rw [<- z]; exact e
      · rw [z.2] at e; cases e
    have hr : ∀ r, Jj r o -> M'' r ≠ none := by
      rcases f.cl q o e with z | z
      · exact fun r hr => m0 r (refs0 q o z r hr)
      · exact z
    have := w.mo q o e'
    cases o with
    | lst l => obtain ⟨xs, h1, rr⟩ := this; exact ⟨xs, h1, avs rr hr⟩
    | dK l => obtain ⟨xs, h1, rr⟩ := this; exact ⟨xs, h1, rr.1, avs rr.2 hr⟩
    | ins C l =>
      obtain ⟨dx, xs, h1, rr, h2, h3, h4⟩ := this
      refine ⟨dx, xs, h1, ⟨rr.1, avs rr.2 hr⟩, ⟨h2, fun z => z.1 h3⟩, ?_, h4⟩
      rcases f.sub dx with z | z
      · rw [z]; exact h3
      · exact z.2
  · refine ⟨w.own a ?_, fun z => h z.2⟩
    rcases f.sub a with z | z
    · rw [<- z]; exact h
    · exact absurd z.2 h
  · obtain ⟨x1, x2⟩ := k.fix a u h e
    exact ⟨x1, fun z => x2 z.1⟩
  · obtain ⟨x1, x2, x3⟩ := k.prv a h e
    refine ⟨x1, ⟨x2, fun z => z.1 x3⟩, ?_⟩
    rcases f.sub a with z | z
    · rw [z]; exact x3
    · exact z.2
  · rcases f.res with ⟨rfl, hp⟩ | ⟨p, l, ds, rfl, hm, hp, hn, rfl⟩
    · cases x' with
      | d d => exact Rep.imp ks r
      | ref a => exact ⟨r.1, hp a rfl⟩
    · obtain ⟨xs, hx, rx⟩ := w.mo p _ hm
      rw [jX hp] at rx
      have rp := rx.pure
      rw [r.1]
      exact Rep.lst (fun z => z.2 ⟨jB hm, hn⟩) hx rp.1 fun i x d e1 e2 => (rp.2 i x d e1 e2).imp ks
noncomputable def Fr (M0 M : MH) : Prop := ∀ q, M0 q ≠ none -> M q = M0 q
theorem Fr.refl {M : MH} : Fr M M := fun _ _ => rfl
theorem Fr.mup {M0 M : MH} (f : Fr M0 M) {p : Addr} (h : M0 p = none) (o : MO) : Fr M0 (mup M p o) := fun q hq => by rw [zR (fun z => hq (by rw [z]; exact h))]; exact f q hq
theorem Fr.sub {M0 M : MH} (f : Fr M0 M) (q : Addr) : M0 q = M q \/ (M0 q = none /\ M0 q = none) := by
 cases e : M0 q with
 | none => exact .inr ⟨rfl, rfl⟩
 | some o => exact .inl (by rw [f q (by rw [e]; exact fun z => nomatch z), e])
theorem Yt {M0 M : MH} (f : Fr M0 M) (d : Dat) : Kj M0 M (.d d) (.d d) M0 := ⟨f.sub, fun q o e => .inl e, .inl ⟨rfl, fun p z => nomatch z⟩⟩
theorem Ja {M0 M : MH} (f : Fr M0 M) {p : Addr} {l : List AV} {ds : List Dat} (h0 : M0 p = none) (h : M p = some (.lst l)) (hp : pur l = some ds) : Kj M0 M (.ref p) (.d (.lst ds)) M0 := ⟨f.sub, fun q o e => .inl e, .inr ⟨p, l, ds, rfl, h, hp, h0, rfl⟩⟩
theorem v0 {l : List AV} {ds : List Dat} (h : pur l = some ds) (r : Addr) : AV.ref r ∉ l := by
 rw [jX h]; intro z
 obtain ⟨d, _, e⟩ := List.mem_map.mp z
 cases e
theorem VR {M0 M : MH} (f : Fr M0 M) {p : Addr} {l : List AV} {ds : List Dat} (h0 : M0 p = none) (h : M p = some (.lst l)) (hp : pur l = some ds) : Kj M0 M (.ref p) (.ref p) (mup M0 p (.lst l)) := by
 refine ⟨fun q => ?_, fun q o e => ?_, .inl ⟨rfl, fun q z => by cases z; rw [zA]; exact fun z => nomatch z⟩⟩
 ·by_cases c : q = p
  ·rw [c, zA, h]; exact .inl rfl
  ·rw [zR c]; exact f.sub q
 ·by_cases c : q = p
  ·rw [c, zA] at e
   cases e
   exact .inr fun r hr => absurd hr (v0 hp r)
  ·rw [zR c] at e; exact .inl e
noncomputable def zI (N : List Str) (xs : List AV) : ASt := xs.map some ++ List.replicate (N.length - xs.length) none
theorem Xf {H : Hp} {O : Own} {M : MH} {vs : List V} {xs : List AV} (r : zi H O M vs xs) (N : List Str) : Er H O M (qo N vs) (zI N xs) := by
 unfold qo zI
 refine ⟨by simp [r.1], fun i x h => ?_⟩
 by_cases c : i < xs.length
 ·rw [List.getElem?_append_left (by simpa using c), List.getElem?_map] at h
  cases e : xs[i]? with
  | none => rw [e] at h; cases h
  | some y =>
   rw [e] at h
   cases h
   obtain ⟨v, hv, rv⟩ := r.get e
   exact ⟨v, by rw [List.getElem?_append_left (by rw [List.length_map, r.1]; exact c), List.getElem?_map, hv]; rfl, rv⟩
 ·rw [List.getElem?_append_right (by simp; omega), List.getElem?_replicate] at h
  split at h <;> cases h
noncomputable def rtA (M0 : MH) (Q : AK) : AK := fun x M' => ∃ x' M'', Kj M0 M' x x' M'' /\ Q x' M''
theorem dfA {P : Program} {w : World} {K : PySem.W.Frag} {mg : Str -> Option Value} {base : Heap} {x : Str} {st : Stmt} {N ps : List Str} {k : Nat} {a : ASp} (at_ : At K mg x st) (S : zt N ps (zf st))
  (hb : ∀ (kV doc pm : Value) (an : Option Addr) (cdv ct : Value) (us : List Value), us.length = ps.length -> bindArgs (PySem.W.fnOf x x (jb st) (qA st) (zf st) .none kV doc pm an cdv ct) ⟨us, []⟩ = pure (ps.zip us))
  (len : ∀ xs M Q, a xs M Q -> xs.length = ps.length)
  (hbody : ∀ (f : Addr) (cdv : Value) (A : Around) (outer : List Env) (s : Shared) (H : Hp) (E : XK), jk k (A.deeper (envOfC x (zf st) s.heap.objs.size f cdv)) ->
   ∃ t, PSs (v7 CX0 P w K mg base N x (zf st) f cdv A outer s H E).nox (qA st) t /\ ∃ b, jx t b /\ ∀ xs M Q, a xs M Q -> b M { nx := fun _ M' => rtA M Q (.d .non) M', rt := rtA M Q } (zI N xs) M) : Df P w K mg base x ps (k + 1) (cSp a) := by
 refine jt at_ S hb (fun vs H Q E h => ?_) (fun f cdv A outer s H vs Q E hr h => ?_)
 ·obtain ⟨xs, M, O, Q', w, r, q, _⟩ := h
  rw [r.1]; exact len xs M Q' q
 ·obtain ⟨t, ht, b, hb, hq⟩ := hbody f cdv A outer s H E hr
  refine ⟨t, ht, ?_⟩
  obtain ⟨xs, M, O, Q', w, r, q, kk⟩ := h
  refine hb.go w w (Xf r N) .refl (hq xs M Q' q) ⟨fun σ H' O' ρ M' w' e' x' q' => ?_, fun v y H' O' M' w' x' r' q' => ?_, fun _ _ _ _ _ _ _ _ z => z.elim, fun _ _ _ _ _ _ _ _ z => z.elim⟩
  ·obtain ⟨y', M'', f, q2⟩ := q'
   obtain ⟨O'', w2, k2, r2⟩ := Qe w w' x' (show zw H' O' M' .non (.d .non) from .non) f
   exact kk _ _ _ _ _ q2 k2 w2 r2
  ·obtain ⟨y', M'', f, q2⟩ := q'
   obtain ⟨O'', w2, k2, r2⟩ := Qe w w' x' r' f
   exact kk _ _ _ _ _ q2 k2 w2 r2
end L2
set_option Elab.async false
set_option linter.all false
set_option maxRecDepth 100000
set_option maxHeartbeats 4000000
namespace L2
open PySem PySem.Spec PyProof.Rows
structure D7 (tr : Addr -> TR) (a : ATR) : Prop where
 go : ∀ D, QV D (tr D) a
theorem XF {t u : TE} {a b : AE} (h1 : zU t a) (h2 : zU u b) : zU (tOp VX t u) (aFz (fOp BP a b)) := xC (v5 wq h1 h2)
theorem YU {t u : TE} {a b : AE} (h1 : zU t a) (h2 : zU u b) : zU (tOp VV t u) (aFz (fOp Bj a b)) := xC (v5 wU h1 h2)
theorem JV {u : TA} {b : AA} (h : kW u b) : zU (tCB (fun xs H Q => ∃ p a b c n, xs = [.ref p] /\ H p = some (Zu p a b c) /\ Builtin.Range.small a b c = true /\ Builtin.Range.rangeSize a b c = ((n : Nat) : Int) /\ n <= 100000 /\ ∀ l, H l = none -> Q (.ref l) (upd H l (.lst ((qq a c n).map V.int)))) u) (aFz (fCB Y0 b)) := xC (Jk vx h)
theorem ex2 {t : TS} {q : AS -> Prop} {b : AS} (h : jx t b) (k : q b) : ∃ b, jx t b /\ q b := ⟨b, h, k⟩
section
variable {X : Cx} {K : PySem.W.Frag}
end
theorem xo {τ : Type} (R : τ -> ASt) (f : AV -> AV) {ag : AG} {ae : AE} {G : MH -> Prop} {N : List AV -> ASt -> MH -> Prop} {l : List AV} {ρ : ASt} {M : MH} (h0 : ∃ o, ρ = R o) (hG : G M) (hl : l.length <= 100000)
  (hs : ∀ (o : τ) (x : AV) (Q : AV -> ASt -> MH -> Prop), x ∈ l -> (∀ o', Q (f x) (R o') M) -> ag x (R o) M fun ρ2 M2 => ae ρ2 M2 fun y M3 => Q y ρ2 M3) (hN : ∀ o, N (l.map f) (R o) M) : JP ag y6 (yk ae) G N l [] ρ M := by
 have hsl : 100000 < sizeLine := by rw [sizeLine_eq]; decide
 refine ⟨fun i acc ρ' M' => i <= l.length /\ acc = (l.take i).map f /\ M' = M /\ ∃ o, ρ' = R o, ⟨Nat.zero_le _, rfl, rfl, h0⟩, ?_, ?_⟩
 ·rintro i x acc ρ' M' hx ⟨hi, rfl, rfl, o, rfl⟩
  have hil := (List.getElem?_eq_some_iff.mp hx).1
  refine ⟨hG, ?_⟩
  refine hs o x (fun y ρ2 M3 => ((l.take i).map f).length < sizeLine /\ (i + 1 <= l.length /\ (l.take i).map f ++ [y] = (l.take (i + 1)).map f /\ M3 = M' /\ ∃ o, ρ2 = R o)) (List.mem_of_getElem? hx) fun o' => ⟨by rw [List.length_map, List.length_take]; omega, hil, ?_, rfl, o', rfl⟩
  rw [List.take_add_one, hx, List.map_append]; rfl
 ·rintro acc ρ' M' ⟨_, rfl, rfl, o, rfl⟩
  rw [List.take_length]
  exact ⟨hG, hN o⟩
theorem Wx {τ : Type} (R : τ -> ASt) (f : Nat -> AV) {ag : AG} {ae : AE} {G : MH -> Prop} {N : List AV -> ASt -> MH -> Prop} {l : List AV} {ρ : ASt} {M : MH} (h0 : ∃ o, ρ = R o) (hG : G M) (hl : l.length <= 100000)
  (hs : ∀ (o : τ) (i : Nat) (x : AV) (Q : AV -> ASt -> MH -> Prop), l[i]? = some x -> (∀ o', Q (f i) (R o') M) -> ag x (R o) M fun ρ2 M2 => ae ρ2 M2 fun y M3 => Q y ρ2 M3) (hN : ∀ o, N ((List.range l.length).map f) (R o) M) : JP ag y6 (yk ae) G N l [] ρ M := by
 have hsl : 100000 < sizeLine := by rw [sizeLine_eq]; decide
 refine ⟨fun i acc ρ' M' => i <= l.length /\ acc = (List.range i).map f /\ M' = M /\ ∃ o, ρ' = R o, ⟨Nat.zero_le _, rfl, rfl, h0⟩, ?_, ?_⟩
 ·rintro i x acc ρ' M' hx ⟨hi, rfl, rfl, o, rfl⟩
  have hil := (List.getElem?_eq_some_iff.mp hx).1
  refine ⟨hG, ?_⟩
  refine hs o i x (fun y ρ2 M3 => ((List.range i).map f).length < sizeLine /\ (i + 1 <= l.length /\ (List.range i).map f ++ [y] = (List.range (i + 1)).map f /\ M3 = M' /\ ∃ o, ρ2 = R o)) hx fun o' => ⟨by rw [List.length_map, List.length_range]; omega, hil, ?_, rfl, o', rfl⟩
  rw [List.range_succ, List.map_append]; rfl
 ·rintro acc ρ' M' ⟨_, rfl, rfl, o, rfl⟩
  exact ⟨hG, hN o⟩
theorem Ar : isT "int" "int" = some true := by decide +kernel
theorem WZ : isT "int" "bool" = some false := by decide +kernel
theorem Bs : isT "int" "str" = some false := by decide +kernel
theorem Bp : isT "int" "list" = some false := by decide +kernel
theorem A2 : isT "int" "tuple" = some false := by decide +kernel
theorem Bn : isT "bool" "int" = some true := by decide +kernel
theorem BJ : isT "bool" "bool" = some true := by decide +kernel
theorem Aa : isT "bool" "str" = some false := by decide +kernel
theorem A4 : isT "bool" "list" = some false := by decide +kernel
theorem AC : isT "bool" "tuple" = some false := by decide +kernel
theorem Br : isT "str" "int" = some false := by decide +kernel
theorem BN : isT "str" "bool" = some false := by decide +kernel
theorem BQ : isT "str" "str" = some true := by decide +kernel
theorem BF : isT "str" "list" = some false := by decide +kernel
theorem BY : isT "str" "tuple" = some false := by decide +kernel
theorem BC : isT "NoneType" "int" = some false := by decide +kernel
theorem Az : isT "NoneType" "bool" = some false := by decide +kernel
theorem Aj : isT "NoneType" "str" = some false := by decide +kernel
theorem BZ : isT "NoneType" "list" = some false := by decide +kernel
theorem AN : isT "NoneType" "tuple" = some false := by decide +kernel
theorem A3 : isT "list" "int" = some false := by decide +kernel
theorem Ap : isT "list" "bool" = some false := by decide +kernel
theorem W7 : isT "list" "str" = some false := by decide +kernel
theorem AL : isT "list" "list" = some true := by decide +kernel
theorem B8 : isT "list" "tuple" = some false := by decide +kernel
theorem B6 : isT "tuple" "int" = some false := by decide +kernel
theorem Bo : isT "tuple" "bool" = some false := by decide +kernel
theorem W8 : isT "tuple" "str" = some false := by decide +kernel
theorem W6 : isT "tuple" "list" = some false := by decide +kernel
theorem BM : isT "tuple" "tuple" = some true := by decide +kernel
theorem Ab : yr "int" ["list", "tuple"] = some false := by decide +kernel
theorem As : yr "bool" ["list", "tuple"] = some false := by decide +kernel
theorem Be : yr "str" ["list", "tuple"] = some false := by decide +kernel
theorem BS : yr "NoneType" ["list", "tuple"] = some false := by decide +kernel
theorem Av : yr "list" ["list", "tuple"] = some true := by decide +kernel
theorem W2 : yr "tuple" ["list", "tuple"] = some true := by decide +kernel
theorem Yg : wg [] = some [] := rfl
theorem Ko {n : String} {r : List Dat} : wg (.ty n :: r) = (wg r).map (n :: ·) := rfl
theorem DB (M : MH) : tyA (.d .non) M = some "NoneType" := rfl
theorem D2 (b : Bool) (M : MH) : tyA (.d (.bl b)) M = some "bool" := rfl
theorem Dh (i : Int) (M : MH) : tyA (.d (.int i)) M = some "int" := rfl
theorem DK (s : Str) (M : MH) : tyA (.d (.str s)) M = some "str" := rfl
theorem DF (l : List Dat) (M : MH) : tyA (.d (.lst l)) M = some "list" := rfl
theorem Ds (l : List Dat) (M : MH) : tyA (.d (.tup l)) M = some "tuple" := rfl
theorem Ks (x : Dat) (r : List AV) : pur (.d x :: r) = match pur r with | some l => some (x :: l) | none => none := rfl
theorem W4 (i j : Int) : eqS (.int i) (.int j) = some (decide (i = j)) := rfl
theorem Ax (i j : Bool) : eqS (.bl i) (.bl j) = some (decide (i = j)) := rfl
theorem Ao (i j : Str) : eqS (.str i) (.str j) = some (decide (i = j)) := rfl
theorem VT : kq (.d .non) = true := rfl
theorem V5 (i : Int) : kq (.d (.int i)) = false := rfl
theorem VQ (i : List Dat) : kq (.d (.lst i)) = false := rfl
theorem V0 (i : List Dat) : kq (.d (.tup i)) = false := rfl
theorem Vi (i : Addr) : kq (.ref i) = false := rfl
theorem Y6 (i : Str) : kq (.d (.str i)) = false := rfl
theorem V6 (i : Bool) : kq (.d (.bl i)) = false := rfl
end L2
set_option Elab.async false
set_option linter.all false
set_option maxRecDepth 100000
set_option maxHeartbeats 4000000
namespace L2
open PySem PySem.Spec PyProof.Rows
theorem yj {H H' : Hp} {O : Own} {M : MH} (w : Wf H O M) (k : Kp [] H H') : Ext H O M H' O M /\ Wf H' O M := by
 have e : Ext H O M H' O M := ⟨fun a o h e => ⟨k a o (by simp) e, h⟩, fun a h e => ⟨by
  obtain ⟨o, ho, _⟩ := w.al a h
  rw [ho]; exact k a o (by simp) ho, h, e⟩, fun _ h => h⟩
 refine ⟨e, ⟨fun a o h => qO.ext e ?_ (w.mo a o h), w.own, fun a h => ?_⟩⟩
 ·obtain ⟨u, hu, _⟩ := w.al a (w.own a (by rw [h]; exact fun z => nomatch z))
  rw [hu]; exact k a u (by simp) hu
 ·obtain ⟨o, ho, hn⟩ := w.al a h
  exact ⟨o, k a o (by simp) ho, hn⟩
theorem Aw {H H' : Hp} {O : Own} {M : MH} (w : Wf H O M) {b : Addr} {l : List AV} (hb : M b = some (.lst l)) (k : Kp [b] H H') {ns : List Int} (h : H' b = some (.lst (ns.map V.int))) :
  Ext H O M H' O (mup M b (.lst (ns.map fun i => .d (.int i)))) /\ Wf H' O (mup M b (.lst (ns.map fun i => .d (.int i)))) := by
 have hOb := w.own b (jB hb)
 have kk : ∀ a o, a ≠ b -> H a = some o -> H' a = some o := fun a o ha e => k a o (by simpa using ha) e
 have e : Ext H O M H' O (mup M b (.lst (ns.map fun i => .d (.int i)))) := ⟨fun a o h e => ⟨kk a o (fun z => h (by rw [z]; exact hOb)) e, h⟩, fun a ha e => by
  have hne : a ≠ b := fun z => by rw [z, hb] at e; cases e
  obtain ⟨o, ho, _⟩ := w.al a ha
  exact ⟨by rw [ho]; exact kk a o hne ho, ha, by rw [zR hne]; exact e⟩, fun a ha => by
  by_cases c : a = b
  ·rw [c, zA]; exact fun z => nomatch z
  ·rw [zR c]; exact ha⟩
 refine ⟨e, ⟨fun a o ho => ?_, fun a ha => ?_, fun a ha => ?_⟩⟩
 ·by_cases c : a = b
  ·subst c; rw [zA] at ho; cases ho; exact ⟨_, h, Z4 ns⟩
  ·rw [zR c] at ho
   refine qO.ext e ?_ (w.mo a o ho)
   obtain ⟨u, hu, _⟩ := w.al a (w.own a (jB ho))
   rw [hu]; exact kk a u c hu
 ·by_cases c : a = b
  ·rw [c]; exact hOb
  ·rw [zR c] at ha; exact w.own a ha
 ·by_cases c : a = b
  ·rw [c]; exact ⟨_, h, fun xs z => nomatch z⟩
  ·obtain ⟨o, ho, hn⟩ := w.al a ha
   exact ⟨o, kk a o c ho, hn⟩
theorem kJ {H : Hp} {O : Own} {p : Addr} {ns : List Int} (ho : ¬ O p) (h : H p = some (.lst (ns.map V.int))) : Rep H O (.ref p) (.lst (ns.map .int)) :=
 Rep.lst ho h (by simp) fun i x d e1 e2 => by
  rw [List.getElem?_map] at e1 e2
  cases e : ns[i]? with
  | none => rw [e] at e1; cases e1
  | some n => rw [e] at e1 e2; cases e1; cases e2; exact .int
theorem wA {H : Hp} {O : Own} {M : MH} {v : V} {x : AV} {ns : List Int} (w : Wf H O M) (r : zw H O M v x) (h : qD x M = some (ns.map fun i => .d (.int i))) : ∃ a, v = .ref a /\ (H a = some (.lst (ns.map V.int)) \/ H a = some (.tup (ns.map V.int))) := by
 obtain ⟨a, xs, rfl, h1, r1⟩ := Qf w r h
 rw [jU r1] at h1
 exact ⟨a, rfl, h1⟩
theorem Zn {H : Hp} {O : Own} {M : MH} {v : V} {x : AV} {ns : List Int} (w : Wf H O M) (r : zw H O M v x) (h : z0 x M = some (ns.map fun i => .d (.int i))) : ∃ a, v = .ref a /\ H a = some (.lst (ns.map V.int)) := by
 obtain ⟨a, xs, rfl, h1, r1⟩ := qw w r h
 rw [jU r1] at h1
 exact ⟨a, rfl, h1⟩
theorem Df.imp' {P : Program} {w : World} {K : PySem.W.Frag} {mg : Str -> Option Value} {base : Heap} {x : Str} {ps : List Str} {sp sp' : Sp} {k : Nat} (D : Df P w K mg base x ps k sp) (h : ∀ vs H Q E, sp' vs H Q E -> sp vs H Q E) : Df P w K mg base x ps k sp' :=
 let ⟨f, fd, F, r⟩ := D
 ⟨f, fd, F.imp h, r⟩
mutual
noncomputable def wdt : Dat -> Nat
 | .lst l => max l.length (Qj l)
 | .tup l => max l.length (Qj l)
 | _ => 0
noncomputable def Qj : List Dat -> Nat
 | [] => 0
 | a :: r => max (wdt a) (Qj r)
end
theorem V8 {l : List Dat} {n : Nat} (h : ∀ d ∈ l, wdt d <= n) : Qj l <= n := by
 induction l with
 | nil => exact Nat.zero_le _
 | cons a r ih => rw [Qj]; exact Nat.max_le.mpr ⟨h a (by simp), ih fun d hd => h d (by simp [hd])⟩
theorem Jb {l : List Dat} {d : Dat} (h : d ∈ l) : wdt d <= Qj l := by
 induction l with
 | nil => cases h
 | cons a r ih =>
  rw [Qj]
  rcases List.mem_cons.mp h with rfl | h
  ·exact Nat.le_max_left _ _
  ·exact Nat.le_trans (ih h) (Nat.le_max_right _ _)
noncomputable def jp (n : Nat) (d : Dat) : Prop := dp d <= n /\ wdt d <= 100000
theorem jp.mono {n m : Nat} {d : Dat} (h : jp n d) (k : n <= m) : jp m d := ⟨Nat.le_trans h.1 k, h.2⟩
theorem Zd {n : Nat} {l : List Dat} (hl : l.length <= 100000) (h : ∀ d ∈ l, jp n d) : jp (n + 1) (.lst l) := ⟨by rw [dp]; exact Nat.succ_le_succ (Qs fun d hd => (h d hd).1), by rw [wdt]; exact Nat.max_le.mpr ⟨hl, V8 fun d hd => (h d hd).2⟩⟩
theorem wN (n : Nat) (i : Int) : jp n (.int i) := ⟨by simp [dp], by simp [wdt]⟩
theorem J1 {ns : List Int} (h : ns.length <= 100000) : jp 1 (.lst (ns.map .int)) := Zd (by simpa using h) fun d hd => by obtain ⟨i, _, rfl⟩ := List.mem_map.mp hd; exact wN 0 i
theorem jp.lst {n : Nat} {l : List Dat} (h : jp (n + 1) (.lst l)) : l.length <= 100000 /\ ∀ d ∈ l, jp n d := by
 obtain ⟨h1, h2⟩ := h
 rw [dp] at h1
 rw [wdt] at h2
 exact ⟨(Nat.max_le.mp h2).1, fun d hd => ⟨by have := qd hd; omega, Nat.le_trans (Jb hd) (Nat.max_le.mp h2).2⟩⟩
theorem jp.tup {n : Nat} {l : List Dat} (h : jp (n + 1) (.tup l)) : l.length <= 100000 /\ ∀ d ∈ l, jp n d := by
 obtain ⟨h1, h2⟩ := h
 rw [dp] at h1
 rw [wdt] at h2
 exact ⟨(Nat.max_le.mp h2).1, fun d hd => ⟨by have := qd hd; omega, Nat.le_trans (Jb hd) (Nat.max_le.mp h2).2⟩⟩
theorem jp.no_l {l : List Dat} (h : jp 0 (.lst l)) : False := by have := h.1; rw [dp] at this; omega
theorem jp.no_t {l : List Dat} (h : jp 0 (.tup l)) : False := by have := h.1; rw [dp] at this; omega
theorem wv {x : AV} {M : MH} {l : List Dat} (h : yB x M = some (.lst l)) : z0 x M = some (l.map .d) /\ qD x M = some (l.map .d) /\ tyA x M = some "list" /\ kq x = false := by
 cases x with
 | d x => cases h; exact ⟨rfl, rfl, rfl, rfl⟩
 | ref a =>
  unfold yB at h
  dsimp only at h
  cases e : M a with
  | none => rw [e] at h; cases h
  | some o =>
   rw [e] at h
   cases o with
   | lst m =>
    dsimp only at h
    cases ep : pur m with
    | none => rw [ep] at h; cases h
    | some ds =>
     rw [ep] at h
     cases h
     rw [jX ep] at e
     exact ⟨Yw e, kL e, by unfold tyA; dsimp only; rw [e], rfl⟩
   | _ => cases h
theorem qa {x : AV} {M : MH} {d : Dat} (h : yB x M = some d) (hd : ∀ l, d ≠ .lst l) : x = .d d := by
 cases x with
 | d x => cases h; rfl
 | ref a =>
  unfold yB at h
  dsimp only at h
  cases e : M a with
  | none => rw [e] at h; cases h
  | some o =>
   rw [e] at h
   cases o with
   | lst m =>
    dsimp only at h
    cases ep : pur m with
    | none => rw [ep] at h; cases h
    | some ds => rw [ep] at h; cases h; exact absurd rfl (hd ds)
   | _ => cases h
theorem Dp (b : Bool) : dp (.bl b) = 0 := by simp [dp]
theorem W0 (b : Str) : dp (.str b) = 0 := by simp [dp]
theorem By : dp .non = 0 := by simp [dp]
theorem W5 (a b : Bool) : eqD (.bl a) (.bl b) = decide (a = b) := by rw [eqD]; cases a <;> cases b <;> rfl
theorem xf (a b : Int) : eqD (.int a) (.int b) = decide (a = b) := by rw [eqD]; by_cases h : a = b <;> simp [h]
theorem A8 (a b : Str) : eqD (.str a) (.str b) = decide (a = b) := by rw [eqD]; by_cases h : a = b <;> simp [h]
theorem A6 : eqD .non .non = true := by simp [eqD]
theorem A9 (i : Int) : eqD .non (.int i) = false := by simp [eqD]
theorem BW (i : Int) : eqD (.int i) .non = false := by simp [eqD]
theorem Ac (i : Int) (s : Str) : eqD (.int i) (.str s) = false := by simp [eqD]
theorem B3 (i : Int) (s : Str) : eqD (.str s) (.int i) = false := by simp [eqD]
theorem BK (s : Str) : eqD (.str s) .non = false := by simp [eqD]
theorem Bk (s : Str) : eqD .non (.str s) = false := by simp [eqD]
theorem jf (ns : List Int) : List.map AV.d (List.map Dat.int ns) = List.map (fun i => AV.d (.int i)) ns := by rw [List.map_map]; rfl
theorem WM (ns : List Bool) : List.map AV.d (List.map Dat.bl ns) = List.map (fun i => AV.d (.bl i)) ns := by rw [List.map_map]; rfl
theorem zM (ns : List Int) : pur (List.map (fun i => AV.d (.int i)) ns) = some (ns.map Dat.int) := by rw [<- jf, jh]
theorem Wg (ns : List Bool) : pur (List.map (fun i => AV.d (.bl i)) ns) = some (ns.map Dat.bl) := by rw [<- WM, jh]
theorem QK {α β : Type} (f : α -> β) (l : List α) (i : Int) : atI (l.map f) i = (atI l i).map f := by
 unfold atI
 rw [List.length_map]
 cases ixN l.length i with
 | none => rfl
 | some j => exact List.getElem?_map ..
theorem X5 {n : Nat} {i : Int} (h0 : 0 <= i) (h1 : i < n) : ixN n i = some i.toNat := by unfold ixN; rw [if_pos h0, if_pos h1]
theorem YH {α : Type} {l : List α} {i : Int} (h0 : 0 <= i) (h1 : i < l.length) (d : α) : atI l i = some (l.getD i.toNat d) := by
 unfold atI
 rw [X5 h0 h1]
 show l[i.toNat]? = _
 rw [List.getD_eq_getElem?_getD, List.getElem?_eq_getElem (by omega)]; rfl
theorem yi {ns : List Int} {i : Int} (h0 : 0 <= i) (h1 : i < ns.length) : atI (ns.map fun i => AV.d (.int i)) i = some (.d (.int (ns.getD i.toNat 0))) := by rw [QK, YH h0 h1 0]; rfl
theorem zn {a jT : AS} {B : MH} {D : yM} {ρ : ASt} {M : MH} (h : ∀ r, r = jT -> kN a r B D ρ M) : kN a jT B D ρ M := h jT rfl
theorem Fr.non {M M' : MH} (f : Fr M M') {p : Addr} (h : M' p = none) : M p = none := by
 cases e : M p with
 | none => rfl
 | some o => rw [f p (by rw [e]; exact fun z => nomatch z), e] at h; cases h
noncomputable abbrev ilD (os : List Int) : Dat := .lst (os.map .int)
theorem Y5 (ns : List Int) (M : MH) : z0 (.d (ilD ns)) M = some (ns.map fun i => .d (.int i)) := by rw [Kw, jf]
noncomputable def BxM (M : MH) (b : Addr) (N : Nat) : Prop := ∃ x y z : Int, M b = some (.lst [.d (.int x), .d (.int y), .d (.int z)]) /\ 0 <= x /\ 0 <= y /\ y < 2147483648 /\ 0 <= z /\ z <= N
theorem BxM.mono {M : MH} {b : Addr} {N N' : Nat} (h : BxM M b N) (hn : N <= N') : BxM M b N' := by
 obtain ⟨x, y, z, h1, h2, h3, h4, h5, h6⟩ := h
 exact ⟨x, y, z, h1, h2, h3, h4, h5, by omega⟩
theorem BxM.ne {M : MH} {b : Addr} {N : Nat} (h : BxM M b N) : M b ≠ none := by obtain ⟨x, y, z, h1, _⟩ := h; exact jB h1
theorem BxM.bx {H : Hp} {O : Own} {M : MH} {b : Addr} {N : Nat} (w : Wf H O M) (h : BxM M b N) : Bx H b N := by
 obtain ⟨x, y, z, h1, h2⟩ := h
 obtain ⟨xs, hx, rx⟩ := w.mo b _ h1
 rw [jU (ns := [x, y, z]) rx] at hx
 exact ⟨x, y, z, hx, h2⟩
noncomputable def BxS (M M' : MH) (b : Addr) (N : Nat) : Prop := BxM M' b N /\ ∃ o, M' = mup M b o
theorem BxS.at {M M' : MH} {b : Addr} {N : Nat} (h : BxS M M' b N) {q : Addr} (hq : q ≠ b) : M' q = M q := by
 obtain ⟨_, o, rfl⟩ := h
 exact zR hq
theorem A7 {H H' : Hp} {O : Own} {M : MH} (w : Wf H O M) {b : Addr} {N N' : Nat} (hb : BxM M b N) (k : Kp [b] H H') (h : Bx H' b N') : ∃ M', BxS M M' b N' /\ Ext H O M H' O M' /\ Wf H' O M' := by
 obtain ⟨x, y, z, h1, _⟩ := hb
 obtain ⟨x', y', z', g1, g2⟩ := h
 obtain ⟨e1, e2⟩ := Aw w h1 k (ns := [x', y', z']) g1
 exact ⟨_, ⟨⟨x', y', z', zA, g2⟩, _, rfl⟩, e1, e2⟩
end L2
set_option Elab.async false
set_option linter.all false
set_option maxRecDepth 100000
set_option maxHeartbeats 4000000
namespace L2
open PySem PySem.Spec PyProof.Rows
mutual
noncomputable def pdD : Dat -> PyData
 | .bl b => .bool b
 | .int i => .int i
 | .str x => .str x
 | .lst l => .list (vH l)
 | .tup l => .tuple (vH l)
 | _ => .none
noncomputable def vH : List Dat -> List PyData
 | [] => []
 | a :: r => pdD a :: vH r
end
section
variable {X : Cx} {pins : List (Addr × Obj)} {s : Shared} {σ : St} {H : Hp} {O : Own}
mutual
theorem Bf : ∀ d : Dat, (pdD d).hasDict = false
 | .non => by simp [pdD, PyData.hasDict]
 | .bl _ => by simp [pdD, PyData.hasDict]
 | .int _ => by simp [pdD, PyData.hasDict]
 | .str _ => by simp [pdD, PyData.hasDict]
 | .ty _ => by simp [pdD, PyData.hasDict]
 | .rng _ _ _ => by simp [pdD, PyData.hasDict]
 | .scr _ _ => by simp [pdD, PyData.hasDict]
 | .lst l => by rw [pdD, PyData.hasDict]; exact vD l
 | .tup l => by rw [pdD, PyData.hasDict]; exact vD l
theorem vD : ∀ l : List Dat, PyData.hasDictAll (vH l) = false
 | [] => by simp [vH, PyData.hasDictAll]
 | a :: r => by rw [vH, PyData.hasDictAll, Bf a, vD r]; rfl
end
mutual
theorem Xt : ∀ d : Dat, (pdD d).depth <= dp d
 | .non => by simp [pdD, PyData.depth]
 | .bl _ => by simp [pdD, PyData.depth]
 | .int _ => by simp [pdD, PyData.depth]
 | .str _ => by simp [pdD, PyData.depth]
 | .ty _ => by simp [pdD, PyData.depth]
 | .rng _ _ _ => by simp [pdD, PyData.depth]
 | .scr _ _ => by simp [pdD, PyData.depth]
 | .lst l => by rw [pdD, PyData.depth, dp]; exact Nat.succ_le_succ (xg l)
 | .tup l => by rw [pdD, PyData.depth, dp]; exact Nat.succ_le_succ (xg l)
theorem xg : ∀ l : List Dat, PyData.depthAll (vH l) <= dps l
 | [] => by simp [vH, PyData.depthAll]
 | a :: r => by rw [vH, PyData.depthAll, dps]; exact Nat.max_le.mpr ⟨Nat.le_trans (Xt a) (Nat.le_max_left _ _), Nat.le_trans (xg r) (Nat.le_max_right _ _)⟩
end
end
section
variable {X : Cx}
end
structure Sh (b : Nat) (d : Dat) : Prop where
 s : (pdD d).showable = true
 l : (pdD d).shown.length <= b
theorem Wb {a b : ASp} (h : ∀ xs M Q, b xs M Q -> a xs M (rtA M Q)) (vs : List V) (H : Hp) (Q : VK) (E : XK) (q : cSp b vs H Q E) : cSp a vs H Q E := by
 obtain ⟨xs, M, O, Q', w, r, q, k⟩ := q
 refine ⟨xs, M, O, _, w, r, h xs M Q' q, fun x M' v H' O' q' e' w' r' => ?_⟩
 obtain ⟨y', M'', f, q2⟩ := q'
 obtain ⟨O'', w2, k2, r2⟩ := Qe w w' e' r' f
 exact k _ _ _ _ _ q2 k2 w2 r2
end L2
set_option Elab.async false
set_option linter.all false
set_option maxRecDepth 100000
set_option maxHeartbeats 4000000
namespace L2
open PySem PySem.Spec PyProof.Rows
theorem BxM.refs {M : MH} {b : Addr} {N : Nat} (h : BxM M b N) {o : MO} (e : M b = some o) (r : Addr) : ¬ Jj r o := by
 obtain ⟨x, y, z, h1, _⟩ := h
 rw [h1] at e
 cases e
 exact v0 (l := [AV.d (.int x), AV.d (.int y), AV.d (.int z)]) (ds := [.int x, .int y, .int z]) rfl r
structure SB (M0 M : MH) (b : Addr) (N : Nat) : Prop where
 bx : BxM M b N
 fr : ∀ q, M0 q ≠ none -> q ≠ b -> M q = M0 q
 b0 : M0 b ≠ none
theorem SB.refl {M : MH} {b : Addr} {N : Nat} (h : BxM M b N) : SB M M b N := ⟨h, fun _ _ _ => rfl, h.ne⟩
theorem SB.go {M0 M M' : MH} {b : Addr} {N N' : Nat} (s : SB M0 M b N) (t : BxS M M' b N') : SB M0 M' b N' := ⟨t.1, fun q hq hb => (t.at hb).trans (s.fr q hq hb), s.b0⟩
theorem SB.mono {M0 M : MH} {b : Addr} {N N' : Nat} (s : SB M0 M b N) (h : N <= N') : SB M0 M b N' := ⟨s.bx.mono h, s.fr, s.b0⟩
theorem BxM.put {M : MH} {b p : Addr} {N : Nat} (h : BxM M b N) (n : b ≠ p) (o : MO) : BxM (mup M p o) b N := by
 obtain ⟨x, y, z, h1, h2⟩ := h
 exact ⟨x, y, z, by rw [zR n]; exact h1, h2⟩
theorem SB.new {M0 M : MH} {b p : Addr} {N : Nat} (s : SB M0 M b N) (hp : M p = none) : M0 p = none /\ p ≠ b := by
 have hb : p ≠ b := fun z => s.bx.ne (by rw [<- z]; exact hp)
 refine ⟨?_, hb⟩
 cases e : M0 p with
 | none => rfl
 | some o => rw [s.fr p (by rw [e]; exact fun z => nomatch z) hb, e] at hp; cases hp
theorem SB.fin {M0 M : MH} {b : Addr} {N : Nat} (s : SB M0 M b N) (d : Dat) : ∃ M'', Kj M0 M (.d d) (.d d) M'' /\ BxS M0 M'' b N := by
 obtain ⟨x, y, z, h1, h2⟩ := s.bx
 refine ⟨mup M0 b (.lst [.d (.int x), .d (.int y), .d (.int z)]), ⟨fun q => ?_, fun q o e => ?_, .inl ⟨rfl, fun p z => nomatch z⟩⟩, ⟨x, y, z, zA, h2⟩, _, rfl⟩
 ·by_cases c : q = b
  ·rw [c, zA, h1]; exact .inl rfl
  ·rw [zR c]
   cases e : M0 q with
   | none => exact .inr ⟨rfl, rfl⟩
   | some o => exact .inl (by rw [s.fr q (by rw [e]; exact fun z => nomatch z) c, e])
 ·by_cases c : q = b
  ·rw [c, zA] at e
   cases e
   exact .inr fun r hr => absurd hr (v0 (ds := [.int x, .int y, .int z]) rfl r)
  ·rw [zR c] at e; exact .inl e
theorem SB.rt {M0 M : MH} {b : Addr} {N : Nat} {Q : AK} {d : Dat} (s : SB M0 M b N) (q : ∀ M', BxS M0 M' b N -> Q (.d d) M') : rtA M0 Q (.d d) M := by
 obtain ⟨M'', f, t⟩ := s.fin d
 exact ⟨_, _, f, q M'' t⟩
theorem jo {M0 M : MH} {Q : AK} {d : Dat} (f : Fr M0 M) (q : Q (.d d) M0) : rtA M0 Q (.d d) M := ⟨_, _, Yt f d, q⟩
theorem SB.frm {M M2 M' : MH} {b : Addr} {N : Nat} (f : Fr M M2) (hb : M b = none) (s : SB M2 M' b N) : Fr M M' := fun q hq => by
 have h1 : q ≠ b := fun z => hq (by rw [z]; exact hb)
 rw [s.fr q (by rw [f q hq]; exact hq) h1, f q hq]
theorem Ef {l : List Dat} {i : Int} (h0 : 0 <= i) (h1 : i < l.length) : ∃ d ∈ l, atI (l.map AV.d) i = some (.d d) := by
 have h2 : i.toNat < l.length := by omega
 refine ⟨l[i.toNat], List.getElem_mem h2, ?_⟩
 rw [QK, YH h0 h1 .non, List.getD_eq_getElem?_getD, List.getElem?_eq_getElem h2]; rfl
theorem Vq (l m : List Dat) : pur (l.map AV.d ++ m.map AV.d) = some (l ++ m) := by rw [<- List.map_append, jh]
section
variable {X : Cx}
end
section
open PySem.SeqAt
open PySem.AutoSeq1 (wpAny_loadPart')
open PySem.MeetsSeq PySem.MeetsSeq2 PySem.MeetsSeq3 PySem.SeqRoads2
end
section
variable {X : Cx}
end
end L2
set_option Elab.async false
set_option linter.all false
set_option maxRecDepth 100000
set_option maxHeartbeats 4000000
namespace L2
open PySem PySem.Spec PyProof.Rows
section
variable {X : Cx} {pins : List (Addr × Obj)} {σ : St} {H : Hp} {s : Shared} {a b : Addr} {kvs : List (List Key × V)} {k : List Key} {v : V} {r : Value} {A : Around} {E : Value -> Shared -> Prop}
end
end L2
set_option Elab.async false
set_option linter.all false
set_option maxRecDepth 100000
set_option maxHeartbeats 4000000
namespace L2
open PySem PySem.Spec PyProof.Rows
section
variable {prog : Program} {w : World} {A : Around} {E : Value -> Shared -> Prop} {s : Shared}
end
section
variable {X : Cx}
end
end L2
set_option Elab.async false
set_option linter.all false
set_option maxRecDepth 100000
set_option maxHeartbeats 4000000
namespace Ot
open PySem PySem.Spec PyProof.Rows L2
noncomputable def top (i : Nat) : Stmt := PySem.Challenge.pw_ownturn_k64_whole_rings_of_known_orders.main.body.getD i (.Pass ⟨0, 0, 0, 0⟩)
section
variable {P : Program} {w : World} {K : PySem.W.Frag} {mg : Str -> Option Value} {base : Heap} {k : Nat}
local macro_rules | `(tactic| walk_at "rd") => `(tactic| try simp only [XX, BX, BO, yL, tOp, vR, tC, tB, DD, Dt, Jo, rI0, rI, Xm, wD, BR, WS, X6, Vt, K0, W3, A5, tCB, KU, BH, QL, WA, Qr, VX, VV, rEq, rNe, B7, Bt, tBM, vW, QE, J4, ZF, ipI, Qm, Ka, Ki, tIf, tOr, Dw, Bm, Bw, Ky, B2, Ak, Jm, YZ, cxK, Yl, WD, iLT, WP, vV, YY, wf, WW, tSl, WC, QS, DY, List.append_nil,
 List.getElem?_cons_zero, List.getElem?_cons_succ, Option.some.injEq, exists_eq_left', exists_eq_left, V.int.injEq, V.ref.injEq, V.bl.injEq, List.cons.injEq, and_true, true_and, and_assoc, decide_eq_true_eq, Bool.not_eq_true', decide_eq_false_iff_not, Bool.false_eq_true, if_false, if_true, reduceIte, exists_and_left, exists_and_right, List.set_cons_zero, List.set_cons_succ, List.nil_append, List.cons_append])
theorem jR {H : Hp} {a b : Addr} {o : HO} (h' : H b = none) (h : H a = some o) : a ≠ b := zp h h'
theorem wV {H H' : Hp} {l : Addr} (h : H' l = none) (e : Kp [] H H') : H l = none := e.free h
theorem yp {K : PySem.W.Frag} {H H' : Hp} {a : Addr} {xs : List V} (h : SqL K H a xs) (e : Kp [] H H') : SqL K H' a xs := by
 rcases h with (h | ⟨o, h⟩) | h
 ·exact .inl (.inl (e _ _ (by simp) h))
 ·exact .inl (.inr ⟨o, e _ _ (by simp) h⟩)
 ·exact .inr h
theorem hsl : 100000 < sizeLine := by rw [sizeLine_eq]; decide
theorem Yn {α : Type} (k : Nat) (v : α) : (List.replicate k [v]).flatten = List.replicate k v := by simp
theorem jn (i : Int) {j : Int} (h : 0 < j) : 0 <= i % j /\ i % j < j := ⟨Int.emod_nonneg _ (by omega), Int.emod_lt_of_pos _ h⟩
theorem xj {i j : Int} (h1 : 0 <= i) (h2 : i < 18446744073709551616) : Yb i j := .inl ⟨by omega, by omega⟩
theorem ku {i j : Int} (h1 : 0 <= j) (h2 : j < 18446744073709551616) : Yb i j := .inr ⟨by omega, by omega⟩
theorem b01 (c : Prop) [Decidable c] : 0 <= (if c then (1 : Int) else 0) := by split <;> decide
theorem kE {i j : Int} (h1 : 0 < j) (h2 : j < 1073741824) : YN i j := ⟨h1, h2⟩
local macro_rules | `(tactic| walk_at "ne") => `(tactic| first | (with_reducible assumption) | exact Ne.symm (by with_reducible assumption) | exact jR (by with_reducible assumption) (by walk_at "hp") | exact Ne.symm (jR (by with_reducible assumption) (by walk_at "hp")))
local macro_rules | `(tactic| walk_at "hp") => `(tactic| first | (with_reducible assumption) | (with_reducible exact zh) | ((with_reducible refine Eq.trans (zm ?ne) ?_); (case ne => walk_at "ne"); walk_at "hp"))
local macro_rules | `(tactic| walk_at "kp") => `(tactic| first | (with_reducible assumption) | (with_reducible exact Kp.refl) | ((with_reducible refine Kp.trans ?_ (Kp.new _ ?h)); (case h => with_reducible assumption); walk_at "kp") | ((with_reducible refine Kp.trans ?_ (Kp.set _ ?h)); (case h => (simp; done)); walk_at "kp"))
local macro_rules | `(tactic| walk_at "fr") => `(tactic| first | (with_reducible assumption) | exact wV (by with_reducible assumption) (by walk_at "kp"))
local macro_rules | `(tactic| walk_at "sz") => `(tactic| (simp only [List.length_cons, List.length_nil, List.length_map, List.length_append, List.length_replicate, List.length_take, List.length_drop, zr, Yn, Nat.zero_add, Nat.one_mul]; omega))
local macro_rules | `(tactic| walk_at "fact") => `(tactic| first | (with_reducible assumption) | exact rfl | exact SqL.of (by walk_at "hp") | exact SqT.of (by walk_at "hp") | exact Or.inl (SqL.of (by walk_at "hp")) | exact Or.inr (SqT.of (by walk_at "hp")) | exact Or.inl (by with_reducible assumption) | exact yp (by with_reducible assumption) (by walk_at "kp") | exact Or.inl (yp (by with_reducible assumption) (by walk_at "kp")) | exact Exists.intro _ (SqL.of (by walk_at "hp")) | exact Exists.intro _ (yp (by with_reducible assumption) (by walk_at "kp")) | (walk_at "hp") | decide | omega | exact xj (by omega) (by omega) | exact ku (by omega) (by omega) | exact kE (by omega) (by omega) | exact ⟨by omega, by omega⟩ | (walk_at "sz") | exact ⟨by decide, by decide, by decide⟩ | exact ku (b01 _) (b01' _) | (walk_at "fr"))
local macro_rules | `(tactic| walk_at "x1") => `(tactic| first
 | ((with_reducible refine Exists.intro ?w (And.intro ?h ?_)); (case h => walk_at "fact"))
 | ((with_reducible refine And.intro ?h ?_); (case h => walk_at "fact"))
 | ((with_reducible refine Exists.intro ?w (Exists.intro ?w2 (And.intro ?h ?_))); (case h => walk_at "fact")))
local macro_rules | `(tactic| walk_at "xs") => `(tactic| repeat walk_at "x1")
local macro_rules | `(tactic| walk_at "sim1") => `(tactic| first
 | (with_reducible apply Xx) | with_reducible exact VA | with_reducible exact BL | with_reducible exact AD | with_reducible exact An | with_reducible exact BE | with_reducible exact Vd | with_reducible exact YL | with_reducible exact JL | with_reducible exact XG
 | with_reducible exact Xl | with_reducible exact JB | with_reducible exact VZ | with_reducible exact Ae | with_reducible exact Vy | with_reducible exact YA | with_reducible exact YO
 | with_reducible exact Vf | with_reducible exact Wc | with_reducible exact Vr | with_reducible exact KO | with_reducible exact V4
 | with_reducible exact Wv | with_reducible exact BU | with_reducible exact XH | with_reducible exact VI | with_reducible exact X8 | with_reducible exact X1 | with_reducible exact Wi | with_reducible exact YT
 | with_reducible exact wq | with_reducible exact wU
 | with_reducible exact vx
 | (with_reducible apply Wa) | (with_reducible apply Wh) | (with_reducible apply VW) | (with_reducible apply VH) | (with_reducible apply Vs) | (with_reducible apply Jx) | (with_reducible apply VM) | (with_reducible apply VY) | (with_reducible apply XW)
 | (with_reducible apply Ju) | (with_reducible apply K5) | (with_reducible apply X7) | (with_reducible apply Dv) | (with_reducible apply B0) | (with_reducible apply Wd) | (with_reducible apply B1) | (with_reducible apply Ve)
 | (with_reducible apply WY) | (with_reducible apply Y4) | (with_reducible apply X2) | (with_reducible apply Ww) | (with_reducible apply Aq) | (with_reducible apply KM)
 | (with_reducible apply Vl) | (with_reducible apply wM) | (with_reducible apply KW) | (with_reducible apply v5)
 | (with_reducible apply Jk) | (with_reducible apply JE) | (with_reducible apply Wk) | (with_reducible apply XF) | (with_reducible apply YU) | (with_reducible apply Bg) | (with_reducible apply JV) | (with_reducible apply AW)
 | (with_reducible apply xC))
local macro_rules | `(tactic| walk_at "sim") => `(tactic| repeat' walk_at "sim1")
local macro_rules | `(tactic| walk_at "ra") => `(tactic| try simp only [ V9, aC, aOp, BB, QH, aCB, KY, aFz, aOw, DQ, Dn, aB, y6, aOr, Dr, WI, Dk, aIf, Yd, kN, DL, DX, KH, jl, KA, vS, XO, WJ, asL, DG, Dy, DC, DI, aiS, DM, aiE, DW, yk, Ya, aI, aI0, DE, aIx, fOp, BP, Bj, Dj, DJ, bI1, bI2, Wy, fCB, DN, WT, WU, DH, WL, Y0, Vg, Af, Kw, Bu, Bd, Al, DB, D2, Dh, DK, DF, Ds, Yg, Ko, Option.map_some, Ab, As, Be, BS, Av, W2, Ar, WZ, Bs, Bp, A2, Bn, BJ, Aa, A4, AC, Br, BN, BQ, BF, BY, BC, Az, Aj, BZ, AN, A3, Ap, W7, AL, B8, B6, Bo, W8, W6, BM, We, Ks, jh, zM, Wg, jf, WM, W4, Ax, Ao, VT, V5, VQ, V0, Vi, Y6, V6, qW, Dp, W0, By, W5, xf, A8, A6, A9, BW, Ac, B3, BK, Bk, id, decide_true, decide_false, Bool.decide_eq_true, not_true_eq_false, not_false_eq_true, Wm,
 List.getElem?_cons_zero, List.getElem?_cons_succ, Option.some.injEq, exists_eq_left', exists_eq_left, AV.d.injEq, AV.ref.injEq, Dat.int.injEq, Dat.bl.injEq, Dat.str.injEq, Dat.lst.injEq, Dat.tup.injEq, Dat.ty.injEq, List.cons.injEq, and_true, true_and, and_assoc, decide_eq_true_eq, Bool.not_eq_true', decide_eq_false_iff_not, Bool.false_eq_true, if_false, if_true, reduceIte, exists_and_left, exists_and_right, List.set_cons_zero, List.set_cons_succ, List.nil_append, List.cons_append, List.length_map, List.map_cons, List.map_nil, Nat.zero_le, Bool.not_true, Bool.not_false, Bool.true_eq_false, eq_self, List.length_cons, List.length_nil])
theorem w8 (ns : List Int) (lo hi : Option Int) : J9 (ns.map V.int) lo hi = List.map V.int ((ns.drop (HT.sIx ns.length 0 lo)).take (HT.sIx ns.length ns.length hi - HT.sIx ns.length 0 lo)) := by
 unfold J9
 rw [List.length_map, <- List.map_drop, <- List.map_take]
theorem Qz (cs : List Int) (j : Nat) (v : Int) : (cs.map V.int).set j (.int v) = (cs.set j v).map V.int := by rw [List.map_set]
theorem qz {cs : List Int} {k : Int} (h0 : 0 <= k) (h1 : k < cs.length) : ixN (cs.map V.int).length k = some k.toNat /\ atI (cs.map V.int) k = some (.int (cs.getD k.toNat 0)) := by
 have hk : k.toNat < cs.length := by omega
 have e1 : ixN (cs.map V.int).length k = some k.toNat := by unfold ixN; rw [List.length_map, if_pos h0, if_pos h1]
 refine ⟨e1, ?_⟩
 unfold atI
 rw [e1]
 show (cs.map V.int)[k.toNat]? = _
 rw [List.getElem?_map, List.getD_eq_getElem?_getD, List.getElem?_eq_getElem hk]; rfl
theorem jE {ns : List Int} {i : Nat} {x : V} (h : (ns.map V.int)[i]? = some x) : x = .int (ns.getD i 0) /\ i < ns.length := by
 rw [List.getElem?_map] at h
 cases e : ns[i]? with
 | none => rw [e] at h; cases h
 | some v =>
  rw [e] at h
  cases h
  exact ⟨by rw [List.getD_eq_getElem?_getD, e]; rfl, (List.getElem?_eq_some_iff.mp e).1⟩
theorem Kp.un {bs : List Addr} {p : Addr} {H H' : Hp} (h : Kp (p :: bs) H H') (hp : H p = none) : Kp bs H H' := fun c o n e => h c o (by
 intro z
 rcases List.mem_cons.mp z with z | z
 ·subst z; rw [hp] at e; cases e
 ·exact n z) e
theorem xq {K : PySem.W.Frag} {H H' : Hp} {a : Addr} {xs : List V} (h : SqL K H a xs \/ SqT K H a xs) (e : Kp [] H H') : SqL K H' a xs \/ SqT K H' a xs := h.imp (fun z => XC z e) (fun z => KB z e)
noncomputable def rfs (rs : List (Addr × List Int)) : List V := rs.map fun r => V.ref r.1
theorem Ws {j : Int} (h1 : 0 < j) (h2 : j < 18446744073709551616) : j.natAbs.log2 < 9000 := Nat.lt_of_lt_of_le ((Nat.log2_lt (by omega)).mpr (show j.natAbs < 2 ^ 64 by omega)) (show 64 <= 9000 by decide)
theorem xr {X : Cx} : qN X (.builtin "divmod") (fun xs H Q => ∃ i j, xs = [.int i, .int j] /\ (0 < j /\ j < 18446744073709551616) /\ ∀ p, H p = none -> Q (.ref p) (upd H p (.tup [.int (i / j), .int (i % j)]))) := by
 intro pins s σ H xs us Q I r h
 obtain ⟨i, j, rfl, ⟨h1, h2⟩, q⟩ := h
 obtain ⟨u, w', rfl, ⟨t, rfl⟩, ⟨t', rfl⟩⟩ := yO r
 refine divmod_int (by omega) ?_ (.inl (PyProof.noPylong_of_log2 (Ws h1 h2)))
 rw [Int.fdiv_eq_ediv_of_nonneg i (by omega), Int.fmod_eq_emod_of_nonneg i (by omega)]
 have hn : H s.heap.objs.size = none := I.hok.fresh (Nat.le_refl _)
 refine ⟨.ref s.heap.objs.size, _, ?_, rfl, q _ hn⟩
 refine I.laid (fun b o e => Heap.get?_push_of_some _ e) (Nat.le_refl _) ⟨by simp only [List.length_cons, List.length_nil]; rw [sizeLine_eq]; decide, [.int (i / j) s.toks, .int (i % j) (s.toks + 1)], .cons ⟨_, rfl⟩ (.cons ⟨_, rfl⟩ .nil), ?_⟩
 exact ⟨_, Heap.get?_push_size s.heap rfl, rfl, ⟨0, rfl⟩, rfl⟩
noncomputable abbrev ZX : Stmt := top 37
theorem Q0 : zt ["_law_box_here", "_law_many", "_law_once", "_law_found"] ["_law_box_here", "_law_many"] (zf ZX) := ⟨rfl, rfl, rfl, by decide +kernel, rfl, by decide +kernel, by decide +kernel⟩
noncomputable def X3 : Sp := fun vs H Q _ => ∃ (b : Addr) (many : Int) (N : Nat), vs = [.ref b, .int many] /\ Bx H b N /\ N < 1000000000 /\ 0 < many /\ many < 18446744073709551616 /\ ∀ r H', Kp [b] H H' -> Bx H' b (N + 1) -> 0 <= r -> r < many -> Q (.int r) H'
theorem VC (a : At K mg "_law_take" ZX) (B : Blt mg) : Df P w K mg base "_law_take" ["_law_box_here", "_law_many"] 1 X3 := by
 refine jt (k := 0) a Q0 (fun _ _ _ _ _ _ us hl => match us, hl with | [_, _], _ => rfl) (fun vs H Q E h => ?_) (fun f cdv A outer s H vs Q E hr h => ?_)
 ·obtain ⟨b, m, N, rfl, _⟩ := h; rfl
 obtain ⟨b, m, N, rfl, ⟨x, y, z, hb, hx, hy, hy', hz, hz'⟩, hN, hm, hm', q⟩ := h
 have sc := Q0
 refine ⟨_, (zc (qx (zE yc (zV qe (pv 0) zd (fun _ _ => rfl)) zd (zz _)) (zc (jP (zj xr rfl B.divmod Kt (za (zV qe (pv 0) zd (fun _ _ => rfl)) (za (pv 1) zb))) (ja (K := K) 2 rfl rfl (zO (xp (pv 0) zd qR) (zO (zy (i := 3) sc.nd rfl (by first | exact Or.inl rfl | exact Or.inr rfl)) jg))))
  (ze (zu (pv 3)))) zN)
  (zc (jP (zo zQ (zV qe (pv 0) zd (fun _ _ => rfl)) zd) (xp (pv 0) zd qR))
  (zc (zx (i := 2) sc.nd rfl (by first | exact Or.inl rfl | exact Or.inr rfl) (zo qc (zo qb (zo zQ (zV qe (pv 0) zd (fun _ _ => rfl)) (zo qb zd (zV qe (pv 0) zd (fun _ _ => rfl)))) (zo zQ zd (zV qe (pv 0) zd (fun _ _ => rfl)))) zd))
  (zc (jP (zo qc (zo zQ (zo qb (pv 2) (zo zQ (zo qc (pv 2) zd) zd)) (zV qe (pv 0) zd (fun _ _ => rfl))) zd) (xp (pv 0) zd qR))
  (ze (zu (zo qc (zo j6 (zo qc (zo qb (zV qe (pv 0) zd (fun _ _ => rfl)) (zo zQ (zo qc (zV qe (pv 0) zd (fun _ _ => rfl)) zd) zd)) zd) zd) (pv 1)))))))), ?_⟩
 rw [show qo ["_law_box_here", "_law_many", "_law_once", "_law_found"] [V.ref b, V.int m] = [some (.ref b), some (.int m), none, none] from rfl]
 walk_at "rd"
 walk_at "xs"
 refine w6 (fun c => ?_) (fun c => ?_)
 ·walk_at "xs"
  refine fun p hp => ?_
  walk_at "xs"
  refine q _ _ ((Kp.new _ hp).trans (Kp.set _ (by simp))) ⟨_, _, _, zh, Int.ediv_nonneg hx (by omega), hy, hy', hz, by omega⟩ (jn x hm).1 (jn x hm).2
 ·walk_at "xs"
  refine q _ _ ((Kp.set _ (by simp)).trans (Kp.set _ (by simp))) ⟨_, _, _, zh, hx, ?_, ?_, ?_, ?_⟩ (jn _ hm).1 (jn _ hm).2
  ·exact (jn _ (by decide)).1
  ·exact Int.lt_trans (jn _ (by decide)).2 (by decide)
  ·omega
  ·omega
noncomputable abbrev Xb : Stmt := top 36
theorem Xv : zt ["_law_script", "_law_k", "_law_cell"] ["_law_script", "_law_k"] (zf Xb) := ⟨rfl, rfl, rfl, by decide +kernel, rfl, by decide +kernel, by decide +kernel⟩
noncomputable def Wz : Sp := fun vs H Q _ => ∃ (a : Addr) (k : Int) (cs : List Int), vs = [.ref a, .int k] /\ H a = some (il cs) /\ 0 <= k /\ k <= 1000 /\ cs.length <= 1000 /\ ∀ p H', Kp [] H H' -> H p = none -> Bx H' p 0 -> Q (.ref p) H'
theorem Vw {cs : List Int} {k : Int} (h0 : 0 <= k) : ∃ c : Int, atI (cs.map V.int ++ List.replicate (k + 1).toNat (V.int 0)) k = some (.int c) := by
 have e : cs.map V.int ++ List.replicate (k + 1).toNat (V.int 0) = (cs ++ List.replicate (k + 1).toNat 0).map V.int := by simp
 have ek : k = ((k.toNat : Nat) : Int) := by omega
 have hk : k.toNat < (cs ++ List.replicate (k + 1).toNat (0 : Int)).length := by rw [List.length_append, List.length_replicate]; omega
 refine ⟨(cs ++ List.replicate (k + 1).toNat 0)[k.toNat], ?_⟩
 rw [e]
 have q : atI ((cs ++ List.replicate (k + 1).toNat (0 : Int)).map V.int) ((k.toNat : Nat) : Int) = some (.int (cs ++ List.replicate (k + 1).toNat 0)[k.toNat]) := Wr (by rw [List.getElem?_map, List.getElem?_eq_getElem hk] <;> rfl)
 rw [<- ek] at q
 exact q
theorem AZ (a : At K mg "_law_box" Xb) (B : Blt mg) : Df P w K mg base "_law_box" ["_law_script", "_law_k"] 1 Wz := by
 refine jt (k := 0) a Xv (fun _ _ _ _ _ _ us hl => match us, hl with | [_, _], _ => rfl) (fun vs H Q E h => ?_) (fun f cdv A outer s H vs Q E hr h => ?_)
 ·obtain ⟨a, k, cs, rfl, _⟩ := h; rfl
 obtain ⟨a, k, cs, rfl, ha, hk, hk', hcs, q⟩ := h
 have sc := Xv
 have hsl := hsl
 refine ⟨_, (zc (zx (i := 2) sc.nd rfl (by first | exact Or.inl rfl | exact Or.inr rfl) (zV qe (zo Yo (pv 0) (zo vP (qv (za zd zb)) (zo zQ (pv 1) zd))) (pv 1) (fun _ _ => rfl)))
  (ze (zu (qv (za (zo qb (zj xV rfl B.abs ZE (za (pv 2) zb)) (ql kc rfl B.int yt (za (qf WN (zj xV rfl B.abs ZE (za (pv 2) zb)) (zo YJ zd zd) (zz _)) zb))) (za (zo qc (zo qb (zo zQ (zo zQ (zo qc (pv 2) zd) (zo qb zd (pv 1))) zd) zd) zd) (za zd zb))))))), ?_⟩
 rw [show qo ["_law_script", "_law_k", "_law_cell"] [V.ref a, V.int k] = [some (.ref a), some (.int k), none] from rfl]
 walk_at "rd"
 walk_at "xs"
 intro p1 hp1
 walk_at "xs"
 intro p2 hp2
 walk_at "xs"
 intro p3 hp3
 simp only [Yn] at hp3 ⊢
 obtain ⟨c, hc⟩ := Vw (cs := cs) hk
 walk_at "xs"
 intro p4 hp4
 refine q _ _ (by walk_at "kp") (by walk_at "fr") ⟨_, _, _, zh, ?_, ?_, ?_, ?_, ?_⟩
 ·exact Int.mul_nonneg (by split <;> omega) (b01 _)
 ·exact (jn _ (by decide)).1
 ·exact Int.lt_trans (jn _ (by decide)).2 (by decide)
 ·decide
 ·decide
noncomputable abbrev yn : Stmt := top 38
theorem vg : zt ["_law_script", "_law_many", "_law_cells", "_law_k", "_law_cell"] ["_law_script", "_law_many"] (zf yn) := ⟨rfl, rfl, rfl, by decide +kernel, rfl, by decide +kernel, by decide +kernel⟩
noncomputable def wB (K : PySem.W.Frag) : Sp := fun vs H Q _ => ∃ (a : Addr) (m : Int) (ns : List Int), vs = [.ref a, .int m] /\ SqL K H a (ns.map V.int) /\ 0 < m /\ m <= 60 /\ ns.length <= 63 /\ ∀ p H' cs, Kp [] H H' -> H p = none -> H' p = some (il cs) -> cs.length <= 1000 -> Q (.ref p) H'
theorem JW (a : At K mg "_law_folded" yn) (B : Blt mg) : Df P w K mg base "_law_folded" ["_law_script", "_law_many"] 1 (wB K) := by
 refine jt (k := 0) a vg (fun _ _ _ _ _ _ us hl => match us, hl with | [_, _], _ => rfl) (fun vs H Q E h => ?_) (fun f cdv A outer s H vs Q E hr h => ?_)
 ·obtain ⟨a, k, cs, rfl, _⟩ := h; rfl
 obtain ⟨a, m, ns, rfl, ha, hm, hm', hns, q⟩ := h
 obtain ⟨M, rfl⟩ : ∃ M : Nat, m = M := ⟨m.toNat, by omega⟩
 have sc := vg
 have hsl := hsl
 refine ⟨_, (zc (zx (i := 2) sc.nd rfl (by first | exact Or.inl rfl | exact Or.inr rfl) (ql vI rfl B.list jD (za (wX Jq (pv 0) Vk (vX (pv 1))) zb)))
  (zc (jG PassesOwn.never rfl (VU rfl B.enumerate (za (wX Jq (pv 0) (vX (pv 1)) (vX zd)) zb)) (ja (K := K) 2 rfl rfl (zO (zy (i := 3) sc.nd rfl (by first | exact Or.inl rfl | exact Or.inr rfl)) (zO (zy (i := 4) sc.nd rfl (by first | exact Or.inl rfl | exact Or.inr rfl)) jg))) (ze (jP (zo zQ (zV qe (pv 2) (zo qc (pv 3) (pv 1)) (fun _ _ => rfl)) (zo qb (pv 4) (zo zQ (pv 3) zd))) (xp (pv 2) (zo qc (pv 3) (pv 1)) qR))))
  (ze (zu (pv 2))))), ?_⟩
 rw [show qo ["_law_script", "_law_many", "_law_cells", "_law_k", "_law_cell"] [V.ref a, V.int M] = [some (.ref a), some (.int M), none, none, none] from rfl]
 walk_at "rd"
 walk_at "xs"
 intro p1 hp1
 rw [w8]
 walk_at "xs"
 intro p2 hp2
 walk_at "xs"
 intro p3 hp3
 rw [w8]
 have e63 : (63 : Int) = ((63 : Nat) : Int) := rfl
 simp only [HT.sIx_none, HT.sIx_nat, e63, List.drop_zero, Nat.sub_zero] at hp2 hp3 ⊢
 walk_at "xs"
 generalize hc0 : ns.take (min M ns.length) = c0 at hp2 hp3 ⊢
 generalize hd0 : (ns.drop (min M ns.length)).take (min 63 ns.length - min M ns.length) = d0 at hp2 hp3 ⊢
 have lc : c0.length = min M ns.length := by rw [<- hc0, List.length_take]; omega
 have ld : d0.length <= ns.length - M := by rw [<- hd0, List.length_take, List.length_drop]; omega
 have n23 : p2 ≠ p3 := by walk_at "ne"
 refine VP (xs := d0.map V.int) (fun i τ H' => ∃ u v cs, τ = [some (.ref a), some (.int M), some (.ref p2), u, v] /\ Kp [p2] (upd (upd (upd H p1 (HO.lst (List.map V.int c0))) p2 (HO.lst (List.map V.int c0))) p3 (HO.lst (List.map V.int d0))) H' /\ H' p2 = some (il cs) /\ cs.length = c0.length) ?_ ?_ ?_ ?_
 ·exact ⟨none, none, c0, rfl, Kp.refl, by walk_at "hp", rfl⟩
 ·rintro i τ H' _ ⟨u, v, cs, rfl, kp, _⟩
  exact SqL.of (kp _ _ (by simp [Ne.symm n23]) (by walk_at "hp"))
 ·rintro i x pp τ H' hx hpp ⟨u, v, cs, rfl, kp, hcs, hl⟩
  obtain ⟨rfl, hi⟩ := jE hx
  have b1 := jn (i : Int) hm
  obtain ⟨g1, g2⟩ := qz (cs := cs) (k := (i : Int) % (M : Int)) b1.1 (by omega)
  have hcs' : upd H' pp (HO.tup [V.int i, V.int (d0.getD i 0)]) p2 = some (il cs) := by walk_at "hp"
  walk_at "rd"
  walk_at "xs"
  refine ⟨(kp.trans (Kp.new _ hpp)).trans (Kp.set _ (by simp)), _, zh.trans (congrArg some (congrArg HO.lst (Qz _ _ _))), by rw [List.length_set]; exact hl⟩
 ·rintro τ H' ⟨u, v, cs, rfl, kp, hcs, hl⟩
  walk_at "rd"
  refine q _ _ cs (fun c o hc hh => kp c o ?_ ((((Kp.new _ hp1).trans (Kp.new _ hp2)).trans (Kp.new _ hp3)) c o hc hh)) (by walk_at "fr") hcs (by omega)
  have : c ≠ p2 := jR (wV hp2 (Kp.new _ hp1)) hh
  simpa using this
theorem DU : MR rNe := fun _ _ _ _ _ hq ⟨e, h⟩ => ⟨e, hq _ _ h⟩
theorem xS {ss : List Bool} {i : Nat} (h : i < ss.length) : ixN (ss.map V.bl).length (i : Int) = some i /\ atI (ss.map V.bl) (i : Int) = some (.bl (ss.getD i false)) := by
 have e1 : ixN (ss.map V.bl).length (i : Int) = some i := by unfold ixN; rw [List.length_map, if_pos (by omega), if_pos (by omega), Int.toNat_natCast]
 refine ⟨e1, ?_⟩
 unfold atI
 rw [e1]
 show (ss.map V.bl)[i]? = _
 rw [List.getElem?_map, List.getD_eq_getElem?_getD, List.getElem?_eq_getElem h]; rfl
theorem J0 {ss : List Bool} {i j : Nat} {v : Bool} (h : i < ss.length) : (ss.set i v).getD j false = if j = i then v else ss.getD j false := by
 rw [List.getD_eq_getElem?_getD, List.getD_eq_getElem?_getD, List.getElem?_set]
 by_cases e : i = j
 ·subst e; rw [if_pos rfl, if_pos h, if_pos rfl]; rfl
 ·rw [if_neg e, if_neg (fun z => e z.symm)]
noncomputable abbrev j3 : Stmt := top 10
theorem kS : zt ["order", "first", "ring", "place"] ["order", "first"] (zf j3) := ⟨rfl, rfl, rfl, by decide +kernel, rfl, by decide +kernel, by decide +kernel⟩
noncomputable def x9 (K : PySem.W.Frag) : Sp := fun vs H Q _ => ∃ (a : Addr) (n : Nat) (os : List Int) (p : Int), vs = [.ref a, .int p] /\ (SqL K H a (os.map V.int) \/ SqT K H a (os.map V.int)) /\ zl n os /\ n <= 1000 /\ 0 <= p /\ p < n /\ ∀ t H', Kp [] H H' -> H t = none -> H' t = some (il (zB os p)) -> Q (.ref t) H'
theorem v8 (a : At K mg "ring_from" j3) (B : Blt mg) : Df P w K mg base "ring_from" ["order", "first"] 1 (x9 K) := by
  refine jt (k := 0) a kS (fun _ _ _ _ _ _ us hl => match us, hl with | [_, _], _ => rfl) (fun vs H Q E h => ?_) (fun f cdv A outer s H vs Q E hr h => ?_)
  · obtain ⟨a, _, _, _, rfl, _⟩ := h; rfl
  obtain ⟨a, n, os, p, rfl, ha, ho, hn, p0, p1, q⟩ := h
  have sc := kS
  have hsl := hsl
  have ol := ho.1
  obtain ⟨M, hM, hMn⟩ := qX ho p0 p1
  refine ⟨_, (zc (zx (i := 2) sc.nd rfl (by first | exact Or.inl rfl | exact Or.inr rfl) (qv (za (pv 1) zb)))
    (zc (zx (i := 3) sc.nd rfl (by first | exact Or.inl rfl | exact Or.inr rfl) (zV kn (pv 0) (pv 1) (fun _ _ => rfl)))
    (zc (qY PassesOwn.never (zE WO (pv 3) (pv 1) (zz _)) (zc (xF (QC PySem.F.plainAttrs_list PySem.F.slot_list_append PySem.F.type_list_append j8 (pv 2) (za (pv 3) zb)))
    (ze (zx (i := 3) sc.nd rfl (by first | exact Or.inl rfl | exact Or.inr rfl) (zV kn (pv 0) (pv 3) (fun _ _ => rfl))))))
    (ze (zu (pv 2)))))), ?_⟩
  rw [show qo ["order", "first", "ring", "place"] [V.ref a, V.int p] = [some (.ref a), some (.int p), none, none] from rfl]
  walk_at "rd"
  obtain ⟨e1, e2⟩ := qz (cs := os) (k := p) p0 (by omega)
  refine ⟨by show 1 <= sizeLine; decide, fun t ht => ⟨_, xq ha (Kp.new _ ht), _, e2, ?_⟩⟩
  refine yb (fun τ H' => ∃ (j : Nat), τ = [some (.ref a), some (.int p), some (.ref t), some (.int (itn os j p))] /\ Kp [t] (upd H t (.lst [.int p])) H' /\ H' t = some (il (itl os p j)) /\ 1 <= j /\ j <= M /\ ∀ i, 1 <= i -> i < j -> itn os i p ≠ p)
    (fun _ H' => match H' t with | some (.lst xs) => M + 1 - xs.length | _ => 0) ?_ ?_ (Vo (DA DU vZ vZ))
  · exact ⟨1, rfl, Kp.refl, zh, Nat.le_refl _, hM.1, fun i h1 h2 => by omega⟩
  · rintro τ H' ⟨j, rfl, kp, hH, j1, jM, hj⟩
    have bd := qr ho p0 p1 j
    have k0 := Kp.drop1 ht kp
    walk_at "rd"
    refine ⟨rfl, w6 (fun c => ?_) (fun c => ?_)⟩
    · have jM' : j < M := by
        rcases Nat.lt_or_ge j M with z | z
        · exact z
        · have e : j = M := by omega
          subst e
          exact absurd hM.2.1 c
      obtain ⟨g1, g2⟩ := qz (cs := os) (k := itn os j p) bd.1 (by omega)
      have k1 : Kp [] H (upd H' t (HO.lst (List.map V.int (itl os p j) ++ [V.int (itn os j p)]))) := Kp.drop1 ht (kp.trans (Kp.set _ (by simp)))
      refine ⟨.inl ⟨rfl, _, SqL.of hH⟩, _, hH, by rw [List.length_map, zP]; omega, _, xq ha k1, _, g2, ⟨j + 1, rfl, kp.trans (Kp.set _ (by simp)), ?_, by omega, by omega, fun i h1 h2 => ?_⟩, ?_⟩
      · rw [wQ]
        exact zh.trans (congrArg some (congrArg HO.lst (by rw [List.map_append]; rfl)))
      · by_cases e : i = j
        · subst e; exact c
        · exact hj i h1 (by omega)
      · rw [zh, hH]
        show M + 1 - (List.map V.int (itl os p j) ++ [V.int (itn os j p)]).length < M + 1 - (List.map V.int (itl os p j)).length
        rw [List.length_append, List.length_map, zP]
        show M + 1 - (j + 1) < M + 1 - j
        omega
    · have hw : qP os p j := ⟨j1, by by_cases z : itn os j p = p; exact z; exact absurd z c, hj⟩
      refine q _ _ k0 ht ?_
      unfold zB
      rw [hw.per]
      exact hH
noncomputable abbrev wc : Stmt := top 11
theorem wI : zt ["order", "seen", "found", "first", "ring", "place"] ["order"] (zf wc) := ⟨rfl, rfl, rfl, by decide +kernel, rfl, by decide +kernel, by decide +kernel⟩
noncomputable def Q2 (K : PySem.W.Frag) : Sp := fun vs H Q _ => ∃ (a : Addr) (n : Nat) (os : List Int), vs = [.ref a] /\ (SqL K H a (os.map V.int) \/ SqT K H a (os.map V.int)) /\ zl n os /\ n <= 1000 /\
 ∀ p H' rs, Kp [] H H' -> H p = none -> H' p = some (.lst (rfs rs)) -> (∀ r ∈ rs, H r.1 = none /\ r.1 ≠ p /\ H' r.1 = some (il r.2)) -> rs.map (·.2) = zg os n -> Q (.ref p) H'
theorem K1 (a : At K mg "rings" wc) (B : Blt mg) (D_ring_from : Df P w K mg base "ring_from" ["order", "first"] 1 (x9 K)) : Df P w K mg base "rings" ["order"] 2 (Q2 K) := by
 refine jt (k := 1) a wI (fun _ _ _ _ _ _ us hl => match us, hl with | [_], _ => rfl) (fun vs H Q E h => ?_) (fun f cdv A outer s H vs Q E hr h => ?_)
 ·obtain ⟨a, _, _, rfl, _⟩ := h; rfl
 obtain ⟨a, n, os, rfl, ha, ho, hn, q⟩ := h
 have sc := wI
 have hsl := hsl
 have ol := ho.1
 refine ⟨_, (zc (zx (i := 1) sc.nd rfl (by first | exact Or.inl rfl | exact Or.inr rfl) (zo vP (qv (za jH zb)) (zj zk rfl B.len zK (za (pv 0) zb))))
  (zc (zx (i := 2) sc.nd rfl (by first | exact Or.inl rfl | exact Or.inr rfl) (qv zb))
  (zc (jG PassesOwn.never rfl (qy rfl B.range (za (zj zk rfl B.len zK (za (pv 0) zb)) zb)) (zy (i := 3) sc.nd rfl (by first | exact Or.inl rfl | exact Or.inr rfl)) (ze (qx (ky (qZ (zV qe (pv 1) (pv 3) (fun _ _ => rfl)) (fun _ => rfl))) (zc (zx (i := 4) sc.nd rfl (by first | exact Or.inl rfl | exact Or.inr rfl) (zq D_ring_from hr rfl (za (pv 0) (za (pv 3) zb))))
  (zc (jG PassesOwn.never rfl (Vp (pv 4)) (zy (i := 5) sc.nd rfl (by first | exact Or.inl rfl | exact Or.inr rfl)) (ze (jP jH (xp (pv 1) (pv 5) qR))))
  (ze (qx (zE yc (zj zk rfl B.len zK (za (pv 4) zb)) zd (zz _)) (ze (xF (QC PySem.F.plainAttrs_list PySem.F.slot_list_append PySem.F.type_list_append j8 (pv 2) (za (pv 4) zb)))) zN)))) zN)))
  (ze (zu (pv 2)))))), ?_⟩
 rw [show qo ["order", "seen", "found", "first", "ring", "place"] [V.ref a] = [some (.ref a), none, none, none, none, none] from rfl]
 walk_at "rd"
 refine ⟨by show 1 <= sizeLine; decide, fun pz hpz => ⟨_, xq ha (Kp.new _ hpz), _, zh, ?_⟩⟩
 rw [List.length_map, ol, Int.toNat_natCast, Yn]
 refine ⟨by omega, by omega, by show 1 * n <= sizeLine; omega, fun ps hps => ?_⟩
 refine ⟨Nat.zero_le _, fun pf hpf => ?_⟩
 have kH := ((Kp.new (bs := []) (HO.lst [V.bl false]) hpz).trans (Kp.new (HO.lst (List.replicate n (V.bl false))) hps)).trans (Kp.new (HO.lst []) hpf)
 have nps : H ps = none := (Kp.new (bs := []) _ hpz).free hps
 have npf : H pf = none := ((Kp.new (bs := []) _ hpz).trans (Kp.new _ hps)).free hpf
 have hps0 := (Kp.new (bs := []) (HO.lst []) hpf) ps _ (by simp) (zh (H := upd H pz (HO.lst [V.bl false])) (o := HO.lst (List.replicate n (V.bl false))))
 have hpf0 := zh (H := upd (upd H pz (HO.lst [V.bl false])) ps (HO.lst (List.replicate n (V.bl false)))) (a := pf) (o := HO.lst [])
 have nsf : ps ≠ pf := zp zh hpf
 generalize upd (upd (upd H pz (HO.lst [V.bl false])) ps (HO.lst (List.replicate n (V.bl false)))) pf (HO.lst []) = H0 at *
 refine ⟨_, xq ha kH, ?_⟩
 rw [List.length_map, ol]
 refine ⟨by omega, by omega, ?_⟩
 rw [Int.toNat_natCast]
 refine Zw (fun i τ G => ∃ (x3 x4 x5 : Option V) (ss : List Bool) (rs : List (Addr × List Int)), τ = [some (.ref a), some (.ref ps), some (.ref pf), x3, x4, x5] /\ Kp [ps, pf] H0 G /\ G ps = some (.lst (ss.map V.bl)) /\ ss.length = n /\ (∀ x : Nat, x < n -> (ss.getD x false = true ↔ zZ os i (x : Int))) /\ G pf = some (.lst (rfs rs)) /\ (∀ r ∈ rs, H r.1 = none /\ r.1 ≠ pf /\ r.1 ≠ ps /\ G r.1 = some (il r.2)) /\ rs.map (·.2) = zg os i) ?_ ?_ ?_
 ·refine ⟨none, none, none, List.replicate n false, [], rfl, Kp.refl, by rw [List.map_replicate]; exact hps0, by simp, fun x hx => ?_, hpf0, fun r hr => (nomatch hr), rfl⟩
  constructor
  ·intro z
   rw [List.getD_eq_getElem?_getD, List.getElem?_replicate, if_pos hx] at z
   cases z
  ·rintro ⟨q, hq, _⟩; omega
 ·rintro i τ G hi ⟨x3, x4, x5, ss, rs, rfl, kG, gs, ls, hs, gf, hr, er⟩
  have kHG : Kp [] H G := Kp.un (Kp.un ((kH.mono (by simp)).trans kG) nps) npf
  obtain ⟨s1, s2⟩ := xS (ss := ss) (i := i) (by omega)
  have lrs : rs.length <= i := by
   have := qj os i
   rw [<- er, List.length_map] at this
   exact this
  rw [Int.zero_add]
  walk_at "rd"
  refine ⟨_, SqL.of gs, _, s2, _, rfl, w6 (fun c => ?_) (fun c => ?_)⟩
  ·have hns : ¬ zZ os i (i : Int) := by rw [<- hs i hi, c]; simp
   refine ⟨a, n, os, i, rfl, xq ha kHG, ho, hn, by omega, by omega, fun t G1 k1 ht h1 => ?_⟩
   have gs1 := k1 _ _ (by simp) gs
   have gf1 := k1 _ _ (by simp) gf
   obtain ⟨M, hM, hMn⟩ := qX ho (p := (i : Int)) (by omega) (by omega)
   have hrl : (zB os (i : Int)).length = M := by unfold zB; rw [zP, hM.per]
   have nts : t ≠ ps := Ne.symm (zp gs ht)
   have ntf : t ≠ pf := Ne.symm (zp gf ht)
   refine ⟨t, rfl, ⟨_, SqL.of h1⟩, ?_⟩
   refine Vj (xs := (zB os (i : Int)).map V.int) (fun j τ G' => ∃ (x5 : Option V) (ss' : List Bool), τ = [some (.ref a), some (.ref ps), some (.ref pf), some (.int (i : Int)), some (.ref t), x5] /\ Kp [ps] G1 G' /\ G' ps = some (.lst (ss'.map V.bl)) /\ ss'.length = n /\ ∀ x : Nat, x < n -> (ss'.getD x false = true ↔ zZ os i (x : Int) \/ (x : Int) ∈ (zB os (i : Int)).take j)) ?_ ?_ ?_ ?_
   ·exact ⟨x5, ss, rfl, Kp.refl, gs1, ls, fun x hx => by rw [hs x hx]; simp⟩
   ·rintro j τ G' _ ⟨_, ss', rfl, kp, _⟩
    exact SqL.of (kp _ _ (by simpa using nts) h1)
   ·rintro j x τ G' hx ⟨y5, ss', rfl, kp, gs', ls', hs'⟩
    obtain ⟨rfl, hj⟩ := jE hx
    have hm : (zB os (i : Int)).getD j 0 ∈ zB os (i : Int) := by rw [zT hj]; exact List.getElem_mem hj
    have hb : 0 <= (zB os (i : Int)).getD j 0 /\ (zB os (i : Int)).getD j 0 < (n : Int) := by
     obtain ⟨k, _, e⟩ := jc.mp hm
     rw [<- e]
     exact qr ho (by omega) (by omega) k
    have htk : (zB os (i : Int)).take (j + 1) = (zB os (i : Int)).take j ++ [(zB os (i : Int)).getD j 0] := by
     rw [zT hj]; exact (List.take_append_getElem hj).symm
    generalize (zB os (i : Int)).getD j 0 = v at *
    obtain ⟨vn, rfl⟩ : ∃ vn : Nat, v = vn := ⟨v.toNat, by omega⟩
    obtain ⟨g1, g2⟩ := xS (ss := ss') (i := vn) (by omega)
    walk_at "rd"
    refine ⟨_, gs', vn, g1, kp.trans (Kp.set _ (by simp)), ss'.set vn true, zh.trans (congrArg some (congrArg HO.lst (by rw [List.map_set]))), by rw [List.length_set]; exact ls', fun x hx => ?_⟩
    rw [J0 (by omega), htk, List.mem_append, List.mem_singleton]
    by_cases e : x = vn
    ·subst e; rw [if_pos rfl]; simp
    ·have e' : ¬ ((x : Int) = (vn : Int)) := by omega
     rw [if_neg e, hs' x hx]
     simp [e']
   ·rintro τ G' ⟨y5, ss', rfl, kp, gs', ls', hs'⟩
    rw [List.length_map, List.take_length] at hs'
    have h1' := kp _ _ (by simpa using nts) h1
    have gf' := kp _ _ (by simpa using Ne.symm nsf) gf1
    have hs'' : ∀ x : Nat, x < n -> (ss'.getD x false = true ↔ zZ os (i + 1) (x : Int)) := fun x hx => by
     rw [hs' x hx, zZ.succ, Rch.mem_ring hM]
     unfold zB
     rw [hM.per]
    have kp2 : Kp [ps, pf] H0 G' := (kG.trans (k1.mono (by simp))).trans (kp.mono (by simp))
    have hr' : ∀ r ∈ rs, H r.1 = none /\ r.1 ≠ pf /\ r.1 ≠ ps /\ G' r.1 = some (il r.2) := fun r hr0 => by
     obtain ⟨z1, z2, z3, z4⟩ := hr r hr0
     exact ⟨z1, z2, z3, kp _ _ (by simpa using z3) (k1 _ _ (by simp) z4)⟩
    have hL : kB os i := jr.mpr hns
    walk_at "rd"
    refine ⟨_, .inl (SqL.of h1'), w6 (fun c1 => ?_) (fun c1 => ?_)⟩
    ·have hpe : 1 < per os (i : Int) := by rw [hM.per]; rw [List.length_map, hrl] at c1; omega
     refine ⟨.inl ⟨rfl, _, SqL.of gf'⟩, _, gf', by unfold rfs; rw [List.length_map]; omega, ⟨_, rfl⟩, kp2.trans (Kp.set _ (by simp)), ss', (zm nsf).trans gs', ls', hs'', rs ++ [(t, zB os (i : Int))], ?_, fun r hr0 => ?_, ?_⟩
     ·refine zh.trans (congrArg some (congrArg HO.lst ?_))
      unfold rfs; rw [List.map_append]; rfl
     ·rcases List.mem_append.mp hr0 with z | z
      ·obtain ⟨z1, z2, z3, z4⟩ := hr' r z
       exact ⟨z1, z2, z3, (zm z2).trans z4⟩
      ·rw [List.mem_singleton.mp z]
       exact ⟨kHG.free ht, ntf, nts, (zm ntf).trans h1'⟩
     ·show _ = zg os i ++ _
      rw [if_pos ⟨hL, hpe⟩, List.map_append, er]
      rfl
    ·have hpe : ¬ 1 < per os (i : Int) := by rw [hM.per]; rw [List.length_map, hrl] at c1; omega
     refine ⟨⟨_, rfl⟩, kp2, ss', gs', ls', hs'', rs, gf', hr', ?_⟩
     show _ = zg os i ++ _
     rw [if_neg (fun z => hpe z.2), List.append_nil, er]
  ·have hsi : zZ os i (i : Int) := (hs i hi).mp (by cases z : ss.getD i false with | true => rfl | false => exact absurd z c)
   refine ⟨kG, ss, gs, ls, fun x hx => by rw [hs x hx, zZ.step ho hi hsi], rs, gf, hr, ?_⟩
   show _ = zg os i ++ _
   rw [if_neg (fun z => jr.mp z.1 hsi), List.append_nil, er]
 ·rintro τ G ⟨x3, x4, x5, ss, rs, rfl, kG, gs, ls, hs, gf, hr, er⟩
  have kHG : Kp [] H G := Kp.un (Kp.un ((kH.mono (by simp)).trans kG) nps) npf
  walk_at "rd"
  exact q _ _ rs kHG npf gf (fun r hr0 => ⟨(hr r hr0).1, (hr r hr0).2.1, (hr r hr0).2.2.2⟩) er
theorem KL {i j : Nat} {r : R2} (hr : ∀ x y H Q Q', (∀ z H1, Q z H1 -> Q' z H1) -> r x y H Q -> r x y H Q') : ∀ σ H Q Q', (∀ b H1, Q b H1 -> Q' b H1) -> yL (tOp r (vR i) (vR j)) σ H Q -> yL (tOp r (vR i) (vR j)) σ H Q' := by
 rintro σ H Q Q' hq ⟨x, e, y, e2, h⟩
 exact ⟨x, e, y, e2, hr _ _ _ _ _ (fun z H1 ⟨k, e, q⟩ => ⟨k, e, hq _ _ q⟩) h⟩
noncomputable abbrev xc : Stmt := top 16
theorem yh : zt ["order", "place", "at", "steps"] ["order", "place"] (zf xc) := ⟨rfl, rfl, rfl, by decide +kernel, rfl, by decide +kernel, by decide +kernel⟩
noncomputable def yx (K : PySem.W.Frag) : Sp := fun vs H Q _ => ∃ (a : Addr) (n : Nat) (os : List Int) (p : Int), vs = [.ref a, .int p] /\ (SqL K H a (os.map V.int) \/ SqT K H a (os.map V.int)) /\ zl n os /\ 0 <= p /\ p < n /\ ∀ m e, qH os p m e -> ∀ t, H t = none -> Q (.ref t) (upd H t (.tup [.int m, .int e]))
theorem ZA (a : At K mg "walk_of" xc) (B : Blt mg) : Df P w K mg base "walk_of" ["order", "place"] 1 (yx K) := by
 refine jt (k := 0) a yh (fun _ _ _ _ _ _ us hl => match us, hl with | [_, _], _ => rfl) (fun vs H Q E h => ?_) (fun f cdv A outer s H vs Q E hr h => ?_)
 ·obtain ⟨a, _, _, _, rfl, _⟩ := h; rfl
 obtain ⟨a, n, os, p, rfl, ha, ho, p0, p1, q⟩ := h
 have sc := yh
 have hsl := hsl
 have ol := ho.1
 obtain ⟨M, hM1, _, hM⟩ := xJ ho p0 p1
 refine ⟨_, (zc (zx (i := 2) sc.nd rfl (by first | exact Or.inl rfl | exact Or.inr rfl) (zV kn (pv 0) (pv 1) (fun _ _ => rfl)))
  (zc (zx (i := 3) sc.nd rfl (by first | exact Or.inl rfl | exact Or.inr rfl) zd)
  (zc (qY PassesOwn.never (zE yc (pv 2) (pv 1) (zz _)) (zc (zx (i := 2) sc.nd rfl (by first | exact Or.inl rfl | exact Or.inr rfl) (zV kn (pv 0) (pv 2) (fun _ _ => rfl)))
  (ze (Qh (i := 3) sc.nd rfl (by first | exact Or.inl rfl | exact Or.inr rfl) zd Kz))))
  (ze (zu (jF (za (pv 3) (za (pv 2) zb)))))))), ?_⟩
 rw [show qo ["order", "place", "at", "steps"] [V.ref a, V.int p] = [some (.ref a), some (.int p), none, none] from rfl]
 walk_at "rd"
 obtain ⟨e1, e2⟩ := qz (cs := os) (k := p) p0 (by omega)
 refine ⟨_, ha, _, e2, ?_⟩
 refine yb (fun τ H' => H' = H /\ ∃ (j : Nat), τ = [some (.ref a), some (.int p), some (.int (itn os j p)), some (.int j)] /\ 1 <= j /\ j <= M /\ ∀ i, 1 <= i -> i < j -> p < itn os i p)
  (fun τ _ => match τ with | [_, _, _, some (.int l)] => M - l.toNat | _ => 0) ?_ ?_ (KL fun x y H Q Q' hq ⟨i, j, e1, e2, q⟩ => ⟨i, j, e1, e2, hq _ _ q⟩)
 ·exact ⟨rfl, 1, rfl, Nat.le_refl _, hM1, fun i h1 h2 => by omega⟩
 ·rintro τ H' ⟨rfl, j, rfl, j1, jM, hj⟩
  have bd := qr ho p0 p1 j
  walk_at "rd"
  refine w6 (fun c => ?_) (fun c => ?_)
  ·obtain ⟨g1, g2⟩ := qz (cs := os) (k := itn os j p) bd.1 (by omega)
   have jM' : j < M := by
    rcases Nat.lt_or_ge j M with z | z
    ·exact z
    ·have : j = M := by omega
     subst this; omega
   refine ⟨_, ha, _, g2, ⟨j + 1, rfl, rfl, by omega, by omega, fun i h1 h2 => ?_⟩, ?_⟩
   ·by_cases e : i = j
    ·subst e; omega
    ·exact hj i h1 (by omega)
   ·show M - ((j : Int) + 1).toNat < M - (j : Int).toNat
    omega
  ·walk_at "rd"
   refine ⟨by show 2 <= sizeLine; decide, fun t ht => q _ _ ⟨j1, rfl, by omega, hj⟩ t ht⟩
noncomputable abbrev jC : Stmt := top 17
theorem kh : zt ["order", "place"] ["order", "place"] (zf jC) := ⟨rfl, rfl, rfl, by decide +kernel, rfl, by decide +kernel, by decide +kernel⟩
noncomputable def QM (K : PySem.W.Frag) : Sp := fun vs H Q _ => ∃ (a : Addr) (n : Nat) (os : List Int) (p : Int), vs = [.ref a, .int p] /\ (SqL K H a (os.map V.int) \/ SqT K H a (os.map V.int)) /\ zl n os /\ 0 <= p /\ p < n /\ ∀ H', Kp [] H H' -> Q (.int (wkM os p)) H'
theorem yE (a : At K mg "steps_from" jC) (B : Blt mg) (D_walk_of : Df P w K mg base "walk_of" ["order", "place"] 1 (yx K)) : Df P w K mg base "steps_from" ["order", "place"] 2 (QM K) := by
 refine jt (k := 1) a kh (fun _ _ _ _ _ _ us hl => match us, hl with | [_, _], _ => rfl) (fun vs H Q E h => ?_) (fun f cdv A outer s H vs Q E hr h => ?_)
 ·obtain ⟨a, _, _, _, rfl, _⟩ := h; rfl
 obtain ⟨a, n, os, p, rfl, ha, ho, p0, p1, q⟩ := h
 have sc := kh
 refine ⟨_, (ze (zu (zV Qa (zq D_walk_of hr rfl (za (pv 0) (za (pv 1) zb))) zd (fun _ _ => rfl)))), ?_⟩
 rw [show qo ["order", "place"] [V.ref a, V.int p] = [some (.ref a), some (.int p)] from rfl]
 walk_at "rd"
 refine ⟨a, n, os, p, rfl, ha, ho, p0, p1, fun m e hw t ht => ⟨_, rfl, _, SqT.of zh, _, rfl, ?_⟩⟩
 rw [<- hw.wkM]
 exact q _ (Kp.new _ ht)
noncomputable abbrev vK : Stmt := top 18
theorem wR : zt ["order", "place"] ["order", "place"] (zf vK) := ⟨rfl, rfl, rfl, by decide +kernel, rfl, by decide +kernel, by decide +kernel⟩
noncomputable def Q3 (K : PySem.W.Frag) : Sp := fun vs H Q _ => ∃ (a : Addr) (n : Nat) (os : List Int) (p : Int), vs = [.ref a, .int p] /\ (SqL K H a (os.map V.int) \/ SqT K H a (os.map V.int)) /\ zl n os /\ 0 <= p /\ p < n /\ ∀ H', Kp [] H H' -> Q (.bl (decide (wkE os p = p))) H'
theorem Xe (a : At K mg "leads" vK) (B : Blt mg) (D_walk_of : Df P w K mg base "walk_of" ["order", "place"] 1 (yx K)) : Df P w K mg base "leads" ["order", "place"] 2 (Q3 K) := by
 refine jt (k := 1) a wR (fun _ _ _ _ _ _ us hl => match us, hl with | [_, _], _ => rfl) (fun vs H Q E h => ?_) (fun f cdv A outer s H vs Q E hr h => ?_)
 ·obtain ⟨a, _, _, _, rfl, _⟩ := h; rfl
 obtain ⟨a, n, os, p, rfl, ha, ho, p0, p1, q⟩ := h
 have sc := wR
 refine ⟨_, (ze (zu (qf D1 (zV Qa (zq D_walk_of hr rfl (za (pv 0) (za (pv 1) zb))) zd (fun _ _ => rfl)) (pv 1) (zz _)))), ?_⟩
 rw [show qo ["order", "place"] [V.ref a, V.int p] = [some (.ref a), some (.int p)] from rfl]
 walk_at "rd"
 refine ⟨a, n, os, p, rfl, ha, ho, p0, p1, fun m e hw t ht => ⟨_, rfl, _, SqT.of zh, _, rfl, rfl, ?_⟩⟩
 rw [<- hw.wkE, show decide (V.int (wkE os p) = V.int p) = decide (wkE os p = p) by simp]
 exact q _ (Kp.new _ ht)
noncomputable abbrev v9 : Stmt := top 19
theorem wr : zt ["order", "place"] ["order"] (zf v9) := ⟨rfl, rfl, rfl, by decide +kernel, rfl, by decide +kernel, by decide +kernel⟩
noncomputable def wkL (os : List Int) (k : Nat) : List Int := (List.range k).map fun (i : Nat) => ((wkM os (i : Int) : Nat) : Int)
theorem X0 (os : List Int) (k : Nat) : wkL os (k + 1) = wkL os k ++ [((wkM os (k : Int) : Nat) : Int)] := by
 unfold wkL; rw [List.range_succ, List.map_append]; rfl
theorem QT (os : List Int) (k : Nat) : (wkL os k).length = k := by simp [wkL]
noncomputable def QP (K : PySem.W.Frag) : Sp := fun vs H Q _ => ∃ (a : Addr) (n : Nat) (os : List Int), vs = [.ref a] /\ (SqL K H a (os.map V.int) \/ SqT K H a (os.map V.int)) /\ zl n os /\ n <= 1000 /\ ∀ p H', Kp [] H H' -> H p = none -> H' p = some (il (wkL os n)) -> Q (.ref p) H'
theorem K9 (a : At K mg "walks" v9) (B : Blt mg) (D_steps_from : Df P w K mg base "steps_from" ["order", "place"] 2 (QM K)) : Df P w K mg base "walks" ["order"] 3 (QP K) := by
 refine jt (k := 2) a wr (fun _ _ _ _ _ _ us hl => match us, hl with | [_], _ => rfl) (fun vs H Q E h => ?_) (fun f cdv A outer s H vs Q E hr h => ?_)
 ·obtain ⟨a, _, _, rfl, _⟩ := h; rfl
 obtain ⟨a, n, os, rfl, ha, ho, hn, q⟩ := h
 have sc := wr
 have hsl := hsl
 have ol := ho.1
 refine ⟨_, (ze (zu (qJ (ts := [1]) rfl rfl (qy rfl B.range (za (zj zk rfl B.len zK (za (pv 0) zb)) zb)) (fun _ _ _ _ => (zy (i := 1) sc.nd rfl (by first | exact Or.inl rfl | exact Or.inr rfl))) (fun _ _ _ _ => qt) (fun _ _ _ _ => (zq D_steps_from hr rfl (za (pv 0) (za (pv 1) zb))))))), ?_⟩
 rw [show qo ["order", "place"] [V.ref a] = [some (.ref a), none] from rfl]
 walk_at "rd"
 refine ⟨_, ha, ?_⟩
 rw [List.length_map, ol]
 refine ⟨by omega, by omega, fun D hD => ?_⟩
 rw [Int.toNat_natCast]
 refine Xa (fun i τ H' => ∃ u, τ = [some (.ref a), u] /\ Kp [D] (upd H D (.lst [])) H' /\ H' D = some (il (wkL os i))) ?_ ?_ ?_
 ·exact ⟨none, rfl, Kp.refl, zh⟩
 ·rintro i τ H' hi ⟨u, rfl, kp, hd⟩
  have k0 := Kp.drop1 hD kp
  walk_at "rd"
  refine ⟨a, n, os, _, rfl, xq ha k0, ho, by omega, by omega, fun H2 k2 => ?_⟩
  refine ⟨_, k2 _ _ (by simp) hd, by rw [List.length_map, QT]; omega, (kp.trans (k2.mono (by simp))).trans (Kp.set _ (by simp)), ?_⟩
  rw [X0, Int.zero_add]
  exact zh.trans (congrArg some (congrArg HO.lst (by rw [List.map_append]; rfl)))
 ·rintro τ H' ⟨u, rfl, kp, hd⟩
  exact q _ _ (Kp.drop1 hD kp) hD hd
open Classical in
noncomputable def ZV (os : List Int) : Nat -> List (List Int)
 | 0 => []
 | i + 1 => ZV os i ++ if kB os i then [zB os (i : Int)] else []
theorem Xu (os : List Int) : ∀ i, (ZV os i).length <= i
 | 0 => Nat.le_refl _
 | i + 1 => by
  have := Xu os i
  show (ZV os i ++ _).length <= _
  rw [List.length_append]
  split
  ·show _ + 1 <= _; omega
  ·show _ + 0 <= _; omega
theorem yW {n : Nat} {os : List Int} (h : zl n os) {i : Nat} (hi : i < n) : wkE os (i : Int) = (i : Int) ↔ kB os i := by
 obtain ⟨m, e, hw, hm⟩ := Q5 h (p := (i : Int)) (by omega) (by omega)
 rw [hw.wkE]
 constructor
 ·intro he q hq r
  have hp := hw.per he
  have r2 := r.symm h (by omega) (by omega)
  obtain ⟨j, hj, ej⟩ := jc.mp ((Rch.mem_ring hp).mp r2)
  rcases Nat.eq_zero_or_pos j with z | z
  ·subst z
   have : (i : Int) = (q : Int) := ej
   omega
  ·have := hw.2.2.2 j z hj
   omega
 ·intro hL
  have b := qr h (p := (i : Int)) (by omega) (by omega) m
  rw [<- hw.2.1] at b
  have le := hw.2.2.1
  rcases (show e < (i : Int) \/ e = (i : Int) by omega) with z | z
  ·exfalso
   have r : Rch os (i : Int) e := ⟨m, hw.2.1.symm⟩
   have r2 := r.symm h (by omega) (by omega)
   obtain ⟨q, hq⟩ : ∃ q : Nat, e = q := ⟨e.toNat, by omega⟩
   rw [hq] at r2 z
   exact hL q (by omega) r2
  ·exact z
open Classical in
noncomputable def ldL (os : List Int) : Nat -> List Int
 | 0 => []
 | i + 1 => ldL os i ++ if ¬ (i : Int) = os.getD i 0 /\ wkE os (i : Int) = (i : Int) then [(i : Int)] else []
theorem Q8 (os : List Int) : ∀ i, (ldL os i).length <= i
 | 0 => Nat.le_refl _
 | i + 1 => by
  have := Q8 os i
  show (ldL os i ++ _).length <= _
  rw [List.length_append]
  split
  ·show _ + 1 <= _; omega
  ·show _ + 0 <= _; omega
noncomputable def hds (rs : List (List Int)) : List Int := (rs.filter fun r => decide (1 < r.length)).map fun r => r.getD 0 0
theorem VL (a b : List (List Int)) : hds (a ++ b) = hds a ++ hds b := by unfold hds; rw [List.filter_append, List.map_append]
theorem QD {n : Nat} {os : List Int} (h : zl n os) : ∀ k, k <= n -> hds (ZV os k) = ldL os k
 | 0, _ => rfl
 | k + 1, hk => by
  show hds (ZV os k ++ _) = ldL os k ++ _
  rw [VL, QD h k (by omega)]
  congr 1
  obtain ⟨M, hM, hMn⟩ := qX h (p := (k : Int)) (by omega) (by omega)
  by_cases hL : kB os k
  ·rw [if_pos hL]
   have hlen : (zB os (k : Int)).length = M := by unfold zB; rw [zP, hM.per]
   have hfix : 1 < M ↔ ¬ (k : Int) = os.getD k 0 := by
    have e1 : itn os 1 (k : Int) = os.getD k 0 := by
     show os.getD (itn os 0 (k : Int)).toNat 0 = _
     show os.getD ((k : Int)).toNat 0 = _
     rw [Int.toNat_natCast]
    constructor
    ·intro z e
     exact hM.2.2 1 (Nat.le_refl _) z (by rw [e1, <- e])
    ·intro z
     rcases Nat.lt_or_ge 1 M with y | y
     ·exact y
     ·have : M = 1 := by have := hM.1; omega
      rw [this] at hM
      exact absurd (by rw [<- e1, hM.2.1]) z
   by_cases hf : ¬ (k : Int) = os.getD k 0
   ·rw [if_pos ⟨hf, (yW h (by omega)).mpr hL⟩]
    unfold hds
    rw [List.filter_cons_of_pos (by rw [hlen]; exact decide_eq_true (hfix.mpr hf))]
    show [(zB os (k : Int)).getD 0 0] = _
    have h0 : 0 < (zB os (k : Int)).length := by rw [hlen]; exact hM.1
    have : (zB os (k : Int)).getD 0 0 = (k : Int) := by
     unfold zB itl
     rw [hM.per, List.getD_eq_getElem?_getD, List.getElem?_map, List.getElem?_range hM.1]
     rfl
    rw [this]
   ·rw [if_neg (fun z => hf z.1)]
    unfold hds
    rw [List.filter_cons_of_neg (by rw [hlen]; simp; have := fun z => hf (hfix.mp z); omega)]
    rfl
  ·rw [if_neg hL, if_neg (fun z => hL ((yW h (by omega)).mp z.2))]
   rfl
theorem AR {n : Nat} {os : List Int} (h : zl n os) (hn : n <= 1000) : ∀ x ∈ wkL os n, 0 <= x /\ x <= (1000000 : Int) := by
 intro x hx
 unfold wkL at hx
 obtain ⟨i, hi, e⟩ := List.mem_map.mp hx
 have hi' : i < n := by simpa using hi
 obtain ⟨m, e2, hw, hm⟩ := Q5 h (p := (i : Int)) (by omega) (by omega)
 have := hw.wkM
 have e : ((wkM os (i : Int) : Nat) : Int) = x := e
 omega
noncomputable abbrev x8 : Stmt := top 20
theorem yZ : zt ["order", "found", "place", "goal"] ["order"] (zf x8) := ⟨rfl, rfl, rfl, by decide +kernel, rfl, by decide +kernel, by decide +kernel⟩
noncomputable def wL (K : PySem.W.Frag) : Sp := fun vs H Q _ => ∃ (a : Addr) (n : Nat) (os : List Int), vs = [.ref a] /\ (SqL K H a (os.map V.int) \/ SqT K H a (os.map V.int)) /\ zl n os /\ n <= 1000 /\ ∀ (p t : Addr) (H' : Hp), Kp [] H H' -> H p = none -> H t = none -> H' p = some (il (ldL os n)) -> H' t = some (.tup [.ref p, .int (wkL os n).sum]) -> Q (.ref t) H'
theorem JR (a : At K mg "leaders_found" x8) (B : Blt mg) (Bsum : mg "sum" = none) (D_leads : Df P w K mg base "leads" ["order", "place"] 3 (Q3 K)) (D_walks : Df P w K mg base "walks" ["order"] 3 (QP K)) : Df P w K mg base "leaders_found" ["order"] 4 (wL K) := by
 refine jt (k := 3) a yZ (fun _ _ _ _ _ _ us hl => match us, hl with | [_], _ => rfl) (fun vs H Q E h => ?_) (fun f cdv A outer s H vs Q E hr h => ?_)
 ·obtain ⟨a, _, _, rfl, _⟩ := h; rfl
 obtain ⟨a, n, os, rfl, ha, ho, hn, q⟩ := h
 have sc := yZ
 have hsl := hsl
 have ol := ho.1
 refine ⟨_, (zc (xL (j := 1) rfl sc.nd rfl (by first | exact Or.inl rfl | exact Or.inr rfl) (ts := [2, 3]) rfl (xn rfl B.enumerate (za (pv 0) zb)) (fun _ _ _ _ => (ja (K := K) 2 rfl rfl (zO (zy (i := 2) sc.nd rfl (by first | exact Or.inl rfl | exact Or.inr rfl)) (zO (zy (i := 3) sc.nd rfl (by first | exact Or.inl rfl | exact Or.inr rfl)) jg)))) (fun _ _ _ _ => Qy (PW.pt (BD (zE WO (pv 2) (pv 3) (zz _)) (V3 (qZ (zq D_leads hr rfl (za (pv 0) (za (pv 2) zb))) (fun _ => rfl)))))) (fun _ _ _ _ => (pv 2)))
  (ze (zu (jF (za (pv 1) (za (zj (vm rfl) rfl Bsum Xy (za (zq D_walks hr rfl (za (pv 0) zb)) zb)) zb)))))), ?_⟩
 rw [show qo ["order", "found", "place", "goal"] [V.ref a] = [some (.ref a), none, none, none] from rfl]
 walk_at "rd"
 refine Vh ha fun D hD => ⟨fun i τ G => ∃ u v, τ = [some (.ref a), none, u, v] /\ Kp [D] (upd H D (.lst [])) G /\ G D = some (il (ldL os i)), ?_, ?_, ?_, ?_⟩
 ·exact ⟨none, none, rfl, Kp.refl, zh⟩
 ·rintro i τ G ⟨u, v, rfl, kp, hd⟩
  exact Kp.drop1 hD kp
 ·rintro i x pp τ G hx hpp ⟨u, v, rfl, kp, hd⟩
  obtain ⟨rfl, hi⟩ := jE hx
  have hle := Q8 os i
  have k0 := (Kp.drop1 hD kp).trans (Kp.new (bs := []) (HO.tup [V.int i, V.int (os.getD i 0)]) hpp)
  have hd1 := (Kp.new (bs := []) (HO.tup [V.int i, V.int (os.getD i 0)]) hpp) _ _ (by simp) hd
  have kp1 := kp.trans ((Kp.new (bs := []) (HO.tup [V.int i, V.int (os.getD i 0)]) hpp).mono (bs' := [D]) (by simp))
  walk_at "rd"
  refine ⟨_, SqT.of zh, rfl, _, _, rfl, _, _, rfl, rfl, rfl, ?_⟩
  refine w6 (fun c => ?_) (fun c => ?_)
  ·have c' : ¬ (i : Int) = os.getD i 0 := fun e => c (congrArg V.int e)
   refine ⟨a, n, os, _, rfl, xq ha k0, ho, by omega, by omega, fun G1 k1 => ⟨_, rfl, ?_⟩⟩
   have hd2 := k1 _ _ (by simp) hd1
   have kp2 := kp1.trans (k1.mono (bs' := [D]) (by simp))
   by_cases hw : wkE os (i : Int) = (i : Int)
   ·rw [if_pos (decide_eq_true hw)]
    refine ⟨_, hd2, by rw [List.length_map]; omega, kp2.trans (Kp.set _ (by simp)), ?_⟩
    show _ = some (il (ldL os i ++ _))
    rw [if_pos ⟨c', hw⟩]
    exact zh.trans (congrArg some (congrArg HO.lst (by rw [List.map_append]; rfl)))
   ·rw [if_neg (by simpa using hw)]
    refine ⟨kp2, ?_⟩
    show _ = some (il (ldL os i ++ _))
    rw [if_neg (fun z => hw z.2), List.append_nil]
    exact hd2
  ·refine ⟨kp1, ?_⟩
   show _ = some (il (ldL os i ++ _))
   rw [if_neg (fun z => z.1 (V.int.inj (Classical.byContradiction c))), List.append_nil]
   exact hd1
 ·rintro τ G ⟨u, v, rfl, kp, hd⟩
  rw [List.length_map, ol] at hd
  have k0 := Kp.drop1 hD kp
  walk_at "rd"
  refine ⟨a, n, os, rfl, xq ha k0, ho, hn, fun p1 G1 k1 hp1 h1 => ⟨p1, rfl, _, SqL.of h1, AR ho hn, by rw [QT]; omega, by show 2 <= sizeLine; omega, fun t ht => ?_⟩⟩
  have kt := Kp.new (bs := []) (HO.tup [V.ref D, V.int (wkL os n).sum]) ht
  exact q D t _ ((k0.trans k1).trans kt) hD ((k0.trans k1).free ht) ((k1.trans kt) _ _ (by simp) hd) zh
theorem Ee {t : TE} (h : ME t) : MT (tB t) := fun _ _ _ _ hq q => h _ _ _ _ (fun _ _ ⟨k, e, z⟩ => ⟨k, e, hq _ _ z⟩) q
theorem Vm {ta tb : TE} (ha : ME ta) (hb : ME tb) : ME (wf ta tb) := fun _ _ _ _ hq h => ha _ _ _ _ (fun _ _ h1 => hb _ _ _ _ (fun _ _ ⟨a, o, e, g, z⟩ => ⟨a, o, e, g, hq _ _ z⟩) h1) h
theorem wm {n : Nat} {os : List Int} (h : zl n os) {p : Int} (p0 : 0 <= p) (p1 : p < n) {M j k : Nat} (hM : qP os p M) (hj : j <= M) (hk : k < j) (e : itn os k p = itn os j p) : j = M := by
 have e2 : itn os (j - k) p = p := by
  have b := qr h p0 p1 (j - k)
  refine (xK h p0 p1 b.1 b.2 k ?_).symm
  rw [<- jd, show k + (j - k) = j by omega]
  exact e
 rcases Nat.lt_or_ge (j - k) M with z | z
 ·exact absurd e2 (hM.2.2 (j - k) (by omega) z)
 ·omega
noncomputable abbrev xP : Stmt := top 42
theorem vw : zt ["_law_order", "_law_met", "_law_found", "_law_place", "_law_ring", "_law_here"] ["_law_order"] (zf xP) := ⟨rfl, rfl, rfl, by decide +kernel, rfl, by decide +kernel, by decide +kernel⟩
noncomputable def wO (K : PySem.W.Frag) : Sp := fun vs H Q _ => ∃ (a : Addr) (n : Nat) (os : List Int), vs = [.ref a] /\ SqL K H a (os.map V.int) /\ zl n os /\ n <= 1000 /\
 ∀ p H' rs, Kp [] H H' -> H p = none -> H' p = some (.lst (rfs rs)) -> (∀ r ∈ rs, H r.1 = none /\ r.1 ≠ p /\ H' r.1 = some (il r.2)) -> rs.map (·.2) = zg os n -> Q (.ref p) H'
theorem Kn (a : At K mg "_law_rings" xP) (B : Blt mg) : Df P w K mg base "_law_rings" ["_law_order"] 1 (wO K) := by
  refine jt (k := 0) a vw (fun _ _ _ _ _ _ us hl => match us, hl with | [_], _ => rfl) (fun vs H Q E h => ?_) (fun f cdv A outer s H vs Q E hr h => ?_)
  · obtain ⟨a, _, _, rfl, _⟩ := h; rfl
  obtain ⟨a, n, os, rfl, ha, ho, hn, q⟩ := h
  have sc := vw
  have hsz : sizeLine = 16777216 := sizeLine_eq
  have ol := ho.1
  refine ⟨_, (zc (zx (i := 1) sc.nd rfl (by first | exact Or.inl rfl | exact Or.inr rfl) YV)
    (zc (zx (i := 2) sc.nd rfl (by first | exact Or.inl rfl | exact Or.inr rfl) (qv zb))
    (zc (jG PassesOwn.never rfl (qy rfl B.range (za (zj zk rfl B.len zK (za (pv 0) zb)) zb)) (zy (i := 3) sc.nd rfl (by first | exact Or.inl rfl | exact Or.inr rfl)) (zc (zx (i := 4) sc.nd rfl (by first | exact Or.inl rfl | exact Or.inr rfl) (qv zb))
    (zc (zx (i := 5) sc.nd rfl (by first | exact Or.inl rfl | exact Or.inr rfl) (pv 3))
    (zc (qY PassesOwn.never (W1 (Kh (WK hr) (pv 5) (pv 1))) (zc (Vb (WK hr) (pv 1) (pv 5) jH rfl)
    (zc (xF (QC PySem.F.plainAttrs_list PySem.F.slot_list_append PySem.F.type_list_append j8 (pv 4) (za (pv 5) zb)))
    (ze (zx (i := 5) sc.nd rfl (by first | exact Or.inl rfl | exact Or.inr rfl) (zV qe (pv 0) (pv 5) (fun _ _ => rfl)))))))
    (ze (qx (zE yc (zj zk rfl B.len zK (za (pv 4) zb)) zd (zz _)) (ze (xF (QC PySem.F.plainAttrs_list PySem.F.slot_list_append PySem.F.type_list_append j8 (pv 2) (za (pv 4) zb)))) zN))))))
    (ze (zu (pv 2)))))), ?_⟩
  rw [show qo ["_law_order", "_law_met", "_law_found", "_law_place", "_law_ring", "_law_here"] [V.ref a] = [some (.ref a), none, none, none, none, none] from rfl]
  walk_at "rd"
  refine fun pm hpm => ⟨Nat.zero_le _, fun pf hpf' => ?_⟩
  have kH := (Kp.new (bs := []) (HO.dK []) hpm).trans (Kp.new (HO.lst []) hpf')
  have npm : H pm = none := hpm
  have hpf : H pf = none := (Kp.new (bs := []) _ hpm).free hpf'
  have hpm0 := (Kp.new (bs := []) (HO.lst []) hpf') pm _ (by simp) (zh (H := H) (o := HO.dK []))
  have hpf0 := zh (H := upd H pm (HO.dK [])) (a := pf) (o := HO.lst [])
  have nsf : pm ≠ pf := zp zh hpf'
  generalize upd (upd H pm (HO.dK [])) pf (HO.lst []) = H0 at *
  refine ⟨_, .inl (yp ha kH), ?_⟩
  rw [List.length_map, ol]
  refine ⟨by omega, by omega, ?_⟩
  rw [Int.toNat_natCast]
  refine Zw (fun i τ G => ∃ (x3 x4 x5 : Option V) (kvs : List (Key × V)) (rs : List (Addr × List Int)), τ = [some (.ref a), some (.ref pm), some (.ref pf), x3, x4, x5] /\ Kp [pm, pf] H0 G /\ G pm = some (.dK kvs) /\ kvs.length <= i * 1000 /\ (∀ x : Nat, x < n -> ((qM kvs (Sum.inl (x : Int))).isSome = true ↔ zZ os i (x : Int))) /\ G pf = some (.lst (rfs rs)) /\ (∀ r ∈ rs, H r.1 = none /\ r.1 ≠ pf /\ r.1 ≠ pm /\ G r.1 = some (il r.2)) /\ rs.map (·.2) = zg os i) ?_ ?_ ?_
  · refine ⟨none, none, none, [], [], rfl, Kp.refl, hpm0, by simp, fun x hx => ?_, hpf0, fun r hr => (nomatch hr), rfl⟩
    constructor
    · intro z; simp [qM] at z
    · rintro ⟨q, hq, _⟩; omega
  · rintro i τ G hi ⟨x3, x4, x5, kvs, rs, rfl, kG, gm, lk, hs, gf, hr, er⟩
    have kHG : Kp [] H G := Kp.un (Kp.un ((kH.mono (by simp)).trans kG) npm) hpf
    have lrs : rs.length <= i := by
      have := qj os i
      rw [<- er, List.length_map] at this
      exact this
    obtain ⟨M, hM, hMn⟩ := qX ho (p := (i : Int)) (by omega) (by omega)
    rw [Int.zero_add]
    walk_at "rd"
    refine ⟨Nat.zero_le _, fun pr hpr => ?_⟩
    have gm1 := (Kp.new (bs := []) (HO.lst []) hpr) _ _ (by simp) gm
    have gf1 := (Kp.new (bs := []) (HO.lst []) hpr) _ _ (by simp) gf
    have gr1 := zh (H := G) (a := pr) (o := HO.lst [])
    have nrm : pr ≠ pm := Ne.symm (zp gm hpr)
    have nrf : pr ≠ pf := Ne.symm (zp gf hpr)
    refine yb (fun τ G' => ∃ (j : Nat) (kvs' : List (Key × V)), τ = [some (.ref a), some (.ref pm), some (.ref pf), some (.int (i : Int)), some (.ref pr), some (.int (itn os j (i : Int)))] /\ Kp [pm, pr] (upd G pr (.lst [])) G' /\ G' pm = some (.dK kvs') /\ kvs'.length <= i * 1000 + j /\ G' pr = some (il (itl os (i : Int) j)) /\ j <= M /\ (∀ x : Nat, x < n -> ((qM kvs' (Sum.inl (x : Int))).isSome = true ↔ zZ os i (x : Int) \/ ∃ k, k < j /\ itn os k (i : Int) = (x : Int))) /\ (1 <= j -> ¬ zZ os i (i : Int)))
      (fun _ H' => match H' pr with | some (.lst xs) => M + 1 - xs.length | _ => 0) ?_ ?_ (Ee (Vm vZ vZ))
    · exact ⟨0, kvs, rfl, Kp.refl, gm1, by omega, gr1, Nat.zero_le _, fun x hx => by rw [hs x hx]; simp, fun z => by omega⟩
    · rintro τ G' ⟨j, kvs', rfl, kp, gm', lk', gr', jM, hx', hns⟩
      have bd := qr ho (p := (i : Int)) (by omega) (by omega) j
      have kpG : Kp [pm] G G' := Kp.drop1 hpr (kp.mono (bs' := [pr, pm]) (by intro b hb; simp at hb ⊢; exact hb.symm))
      have k1 : Kp [] H G' := Kp.un ((kHG.mono (bs' := [pm]) (by simp)).trans kpG) npm
      have npr : H pr = none := kHG.free hpr
      obtain ⟨vn, hvn⟩ : ∃ vn : Nat, itn os j (i : Int) = vn := ⟨(itn os j (i : Int)).toNat, by omega⟩
      have hv := hx' vn (by omega)
      walk_at "rd"
      refine ⟨_, Yq.k (k := Sum.inl (itn os j (i : Int))) gm', ?_⟩
      rw [hvn]
      refine w6 (fun c => ?_) (fun c => ?_)
      · have hno : ¬ (zZ os i (vn : Int) \/ ∃ k, k < j /\ itn os k (i : Int) = (vn : Int)) := by rw [<- hv, c]; simp
        have jM' : j < M := by
          rcases Nat.lt_or_ge j M with z | z
          · exact z
          · have e : j = M := by omega
            subst e
            exact absurd (.inr ⟨0, hM.1, by show (i : Int) = vn; rw [<- hvn, hM.2.1]⟩) hno
        obtain ⟨g1, g2⟩ := qz (cs := os) (k := (vn : Int)) (by omega) (by omega)
        have nmr : pm ≠ pr := Ne.symm nrm
        have gr2 : upd G' pm (.dK (ke kvs' (Sum.inl (vn : Int)) (.bl true))) pr = some (il (itl os (i : Int) j)) := (zm nrm).trans gr'
        have kX := (kp.trans (Kp.set (.dK (ke kvs' (Sum.inl (vn : Int)) (.bl true))) (by simp : pm ∈ [pm, pr]))).trans (Kp.set (HO.lst (List.map V.int (itl os (i : Int) j) ++ [V.int (vn : Int)])) (by simp : pr ∈ [pm, pr]))
        have kHX := Kp.un (Kp.un (((k1.mono (bs' := [pm, pr]) (by simp)).trans (Kp.set (.dK (ke kvs' (Sum.inl (vn : Int)) (.bl true))) (by simp : pm ∈ [pm, pr]))).trans (Kp.set (HO.lst (List.map V.int (itl os (i : Int) j) ++ [V.int (vn : Int)])) (by simp : pr ∈ [pm, pr]))) npm) npr
        have lp := jY kvs' (Sum.inl (vn : Int)) (V.bl true)
        refine ⟨_, Yy.k (k := Sum.inl (vn : Int)) gm' (by omega), .inl ⟨rfl, _, SqL.of gr2⟩, _, gr2, by rw [List.length_map, zP]; omega, _, yp ha kHX, _, g2, ⟨j + 1, ?_, kX, _, (zm nmr).trans zh, by omega, ?_, by omega, ?_, ?_⟩, ?_⟩
        · show _ = V.int (os.getD (itn os j (i : Int)).toNat 0)
          rw [hvn]
        · rw [wQ, hvn]
          exact zh.trans (congrArg some (congrArg HO.lst (by rw [List.map_append]; rfl)))
        · intro x hx
          rw [KP]
          by_cases e : x = vn
          · subst e
            rw [if_pos rfl]
            simp only [Option.isSome_some, true_iff]
            exact .inr ⟨j, by omega, hvn⟩
          · rw [if_neg (fun z => e (by have := Sum.inl.inj z; omega)), hx' x hx]
            constructor
            · rintro (z | ⟨k, hk, e2⟩)
              · exact .inl z
              · exact .inr ⟨k, by omega, e2⟩
            · rintro (z | ⟨k, hk, e2⟩)
              · exact .inl z
              · by_cases kj : k = j
                · subst kj; exact absurd (by omega) e
                · exact .inr ⟨k, by omega, e2⟩
        · intro _ s
          rcases Nat.eq_zero_or_pos j with z | z
          · subst z
            exact hno (.inl (by rw [<- hvn]; exact s))
          · exact hns z s
        · rw [zh, gr']
          show M + 1 - (List.map V.int (itl os (i : Int) j) ++ [V.int (vn : Int)]).length < M + 1 - (List.map V.int (itl os (i : Int) j)).length
          rw [List.length_append, List.length_map, zP]
          show M + 1 - (j + 1) < M + 1 - j
          omega
      · have c' : (qM kvs' (Sum.inl (vn : Int))).isSome = true := by
          cases z : (qM kvs' (Sum.inl (vn : Int))).isSome with
          | true => rfl
          | false => exact absurd z c
        have hin := hv.mp c'
        have gf' := kpG _ _ (by simpa using Ne.symm nsf) gf
        have kp2 : Kp [pm, pf] H0 G' := kG.trans (kpG.mono (by simp))
        have hr' : ∀ r ∈ rs, H r.1 = none /\ r.1 ≠ pf /\ r.1 ≠ pm /\ G' r.1 = some (il r.2) := fun r hr0 => by
          obtain ⟨z1, z2, z3, z4⟩ := hr r hr0
          exact ⟨z1, z2, z3, kpG _ _ (by simpa using z3) z4⟩
        rcases Nat.eq_zero_or_pos j with z | z
        · subst z
          have hsi : zZ os i (i : Int) := by
            rcases hin with y | ⟨k, hk, _⟩
            · rw [<- hvn] at y; exact y
            · omega
          refine ⟨_, .inl (SqL.of gr'), ?_⟩
          rw [if_neg (by simp [itl])]
          refine ⟨⟨_, rfl⟩, kp2, kvs', gm', by omega, fun x hx => by rw [hx' x hx, zZ.step ho hi hsi]; simp, rs, gf', hr', ?_⟩
          show _ = zg os i ++ _
          rw [if_neg (fun y => jr.mp y.1 hsi), List.append_nil, er]
        · have hn' := hns z
          have hnS : ¬ zZ os i (vn : Int) := zZ.apart ho hi hn' ⟨j, hvn⟩
          obtain ⟨k, hk, e⟩ := hin.resolve_left hnS
          have jeq : j = M := wm ho (by omega) (by omega) hM jM hk (e.trans hvn.symm)
          subst jeq
          have hring : zB os (i : Int) = itl os (i : Int) j := by unfold zB; rw [hM.per]
          have hs'' : ∀ x : Nat, x < n -> ((qM kvs' (Sum.inl (x : Int))).isSome = true ↔ zZ os (i + 1) (x : Int)) := fun x hx => by
            rw [hx' x hx, zZ.succ, Rch.mem_ring hM, jc]
          have hL : kB os i := jr.mpr hn'
          refine ⟨_, .inl (SqL.of gr'), w6 (fun c1 => ?_) (fun c1 => ?_)⟩
          · have hpe : 1 < per os (i : Int) := by rw [hM.per]; rw [List.length_map, zP] at c1; omega
            refine ⟨.inl ⟨rfl, _, SqL.of gf'⟩, _, gf', by unfold rfs; rw [List.length_map]; omega, ⟨_, rfl⟩, kp2.trans (Kp.set _ (by simp)), kvs', (zm nsf).trans gm', by omega, hs'', rs ++ [(pr, zB os (i : Int))], ?_, fun r hr0 => ?_, ?_⟩
            · refine zh.trans (congrArg some (congrArg HO.lst ?_))
              unfold rfs; rw [List.map_append]; rfl
            · rcases List.mem_append.mp hr0 with y | y
              · obtain ⟨z1, z2, z3, z4⟩ := hr' r y
                exact ⟨z1, z2, z3, (zm z2).trans z4⟩
              · rw [List.mem_singleton.mp y]
                refine ⟨npr, nrf, nrm, (zm nrf).trans ?_⟩
                show _ = some (il (zB os (i : Int)))
                rw [hring]; exact gr'
            · show _ = zg os i ++ _
              rw [if_pos ⟨hL, hpe⟩, List.map_append, er]
              rfl
          · have hpe : ¬ 1 < per os (i : Int) := by rw [hM.per]; rw [List.length_map, zP] at c1; omega
            refine ⟨⟨_, rfl⟩, kp2, kvs', gm', by omega, hs'', rs, gf', hr', ?_⟩
            show _ = zg os i ++ _
            rw [if_neg (fun y => hpe y.2), List.append_nil, er]
  · rintro τ G ⟨x3, x4, x5, kvs, rs, rfl, kG, gm, lk, hs, gf, hr, er⟩
    have kHG : Kp [] H G := Kp.un (Kp.un ((kH.mono (by simp)).trans kG) npm) hpf
    walk_at "rd"
    exact q _ _ rs kHG hpf gf (fun r hr0 => ⟨(hr r hr0).1, (hr r hr0).2.1, (hr r hr0).2.2.2⟩) er
noncomputable def Jd : ASp := fun xs M Q => ∃ (b : Addr) (many : Int) (N : Nat), xs = [.ref b, .d (.int many)] /\ BxM M b N /\ N < 1000000000 /\ 0 < many /\ many < 18446744073709551616 /\ ∀ r M', BxS M M' b (N + 1) -> 0 <= r -> r < many -> Q (.d (.int r)) M'
theorem Wu (vs : List V) (H : Hp) (Q : VK) (E : XK) (h : cSp Jd vs H Q E) : X3 vs H Q E := by
 obtain ⟨xs, M, O, Q', w, r, ⟨b, many, N, rfl, hb, h1, h2, h3, q⟩, k⟩ := h
 obtain ⟨v, u, rfl, rv, ru⟩ := xh r
 rw [zJ ru, rv.1]
 refine ⟨b, many, N, rfl, hb.bx w, h1, h2, h3, fun r H' kp hb' r0 r1 => ?_⟩
 obtain ⟨M', s, e, w'⟩ := A7 w hb kp hb'
 exact k _ _ _ _ _ (q r M' s r0 r1) e w' .int
noncomputable def DV : ASp := fun xs M Q => ∃ (x : AV) (k : Int) (cs : List Int), xs = [x, .d (.int k)] /\ z0 x M = some (cs.map fun i => .d (.int i)) /\ 0 <= k /\ k <= 1000 /\ cs.length <= 1000 /\ ∀ p o, M p = none -> BxM (mup M p o) p 0 -> Q (.ref p) (mup M p o)
theorem WX (vs : List V) (H : Hp) (Q : VK) (E : XK) (h : cSp DV vs H Q E) : Wz vs H Q E := by
 obtain ⟨xs, M, O, Q', w, r, ⟨x, n, cs, rfl, hx, h1, h2, h3, q⟩, k⟩ := h
 obtain ⟨v, u, rfl, rv, ru⟩ := xh r
 rw [zJ ru]
 obtain ⟨a, rfl, ha⟩ := Zn w rv hx
 refine ⟨a, n, cs, rfl, ha, h1, h2, h3, fun p H' kp hp hb' => ?_⟩
 obtain ⟨x', y', z', g1, g2⟩ := hb'
 obtain ⟨e1, w1⟩ := yj w kp
 have fr := w.fresh hp
 have e2 := Ext.owned (O' := J8 O p) (p := p) w ⟨fun a o h e => ⟨(e1.fix a o h e).1, fun z => z.elim (zp e hp) h⟩, fun a h e => ⟨(e1.prv a h e).1, .inr h, e⟩, fun _ h => h⟩ hp (.lst ([x', y', z'].map fun i => .d (.int i)))
 refine k _ _ _ _ _ (q p _ fr.2 ⟨x', y', z', zA, g2⟩) e2 (wF (O := J8 O p) (xs := [V.int x', V.int y', V.int z']) ⟨fun a o h => ?_, fun a h => .inr (w1.own a h), fun a h => ?_⟩ (.inl rfl) fr.2 g1 (Z4 [x', y', z'])) ⟨rfl, by rw [zA]; exact fun z => nomatch z⟩
 ·have e3 : Ext H O M H' (J8 O p) M := ⟨fun a o h e => ⟨(e1.fix a o h e).1, fun z => z.elim (zp e hp) h⟩, fun a h e => ⟨(e1.prv a h e).1, .inr h, e⟩, fun _ h => h⟩
  refine qO.ext e3 ?_ (w.mo a o h)
  obtain ⟨u, hu, _⟩ := w.al a (w.own a (jB h))
  rw [hu]; exact kp a u (by simp) hu
 ·rcases h with rfl | h
  ·exact ⟨_, g1, fun xs z => nomatch z⟩
  ·exact w1.al a h
noncomputable def Jg (K : PySem.W.Frag) : ASp := fun xs M Q => ∃ (m : Int) (ns : List Int), xs = [.d (.scr K ns), .d (.int m)] /\ 0 < m /\ m <= 60 /\ ns.length <= 63 /\ ∀ cs : List Int, cs.length <= 1000 -> Q (.d (.lst (cs.map .int))) M
theorem JD (vs : List V) (H : Hp) (Q : VK) (E : XK) (h : cSp (Jg K) vs H Q E) : wB K vs H Q E := by
 obtain ⟨xs, M, O, Q', w, r, ⟨m, ns, rfl, h1, h2, h3, q⟩, k⟩ := h
 obtain ⟨v, u, rfl, rv, ru⟩ := xh r
 rw [zJ ru]
 obtain ⟨a, rfl, ha⟩ := Wo rv
 refine ⟨a, m, ns, rfl, ha, h1, h2, h3, fun p H' cs kp hp hc lc => ?_⟩
 obtain ⟨e1, w1⟩ := yj w kp
 exact k _ _ _ _ _ (q cs lc) e1 w1 (kJ (w.fresh hp).1 hc)
noncomputable def kY : ASp := fun xs M Q => ∃ (x : AV) (n : Nat) (os : List Int), xs = [x] /\ qD x M = some (os.map fun i => .d (.int i)) /\ zl n os /\ n <= 1000 /\ Q (.d (.lst ((zg os n).map ilD))) M
theorem KS (vs : List V) (H : Hp) (Q : VK) (E : XK) (h : cSp kY vs H Q E) : Q2 K vs H Q E := by
 obtain ⟨xs, M, O, Q', w, r, ⟨x, n, os, rfl, hx, ho, hn, q⟩, k⟩ := h
 obtain ⟨v, rfl, rv⟩ := qT r
 obtain ⟨a, rfl, ha⟩ := wA w rv hx
 refine ⟨a, n, os, rfl, ha.elim (fun h => .inl (SqL.of h)) (fun h => .inr (SqT.of h)), ho, hn, fun p H' rs kp hp h1 h2 er => ?_⟩
 obtain ⟨e1, w1⟩ := yj w kp
 refine k _ _ _ _ _ q e1 w1 (Rep.lst (w.fresh hp).1 h1 (by rw [<- er]; unfold rfs; simp) fun i x d i1 i2 => ?_)
 rw [<- er] at i2
 unfold rfs at i1
 rw [List.getElem?_map] at i1 i2
 rw [List.getElem?_map] at i2
 cases e : rs[i]? with
 | none => rw [e] at i1; cases i1
 | some y =>
  rw [e] at i1 i2
  cases i1; cases i2
  have := h2 y (List.mem_of_getElem? e)
  exact kJ (w.fresh this.1).1 this.2.2
noncomputable def xE : ASp := fun xs M Q => ∃ (x : AV) (n : Nat) (os : List Int), xs = [x] /\ z0 x M = some (os.map fun i => .d (.int i)) /\ zl n os /\ n <= 1000 /\ Q (.d (.lst ((zg os n).map ilD))) M
theorem Kl (vs : List V) (H : Hp) (Q : VK) (E : XK) (h : cSp xE vs H Q E) : wO K vs H Q E := by
 obtain ⟨xs, M, O, Q', w, r, ⟨x, n, os, rfl, hx, ho, hn, q⟩, k⟩ := h
 obtain ⟨v, rfl, rv⟩ := qT r
 obtain ⟨a, rfl, ha⟩ := Zn w rv hx
 refine ⟨a, n, os, rfl, SqL.of ha, ho, hn, fun p H' rs kp hp h1 h2 er => ?_⟩
 obtain ⟨e1, w1⟩ := yj w kp
 refine k _ _ _ _ _ q e1 w1 (Rep.lst (w.fresh hp).1 h1 (by rw [<- er]; unfold rfs; simp) fun i x d i1 i2 => ?_)
 rw [<- er] at i2
 unfold rfs at i1
 rw [List.getElem?_map] at i1 i2
 rw [List.getElem?_map] at i2
 cases e : rs[i]? with
 | none => rw [e] at i1; cases i1
 | some y =>
  rw [e] at i1 i2
  cases i1; cases i2
  have := h2 y (List.mem_of_getElem? e)
  exact kJ (w.fresh this.1).1 this.2.2
noncomputable abbrev xi : Stmt := top 12
theorem xX : zt ["order", "ring"] ["order"] (zf xi) := ⟨rfl, rfl, rfl, by decide +kernel, rfl, by decide +kernel, by decide +kernel⟩
noncomputable def yI (os : List Int) (n : Nat) : List Int := (zg os n).map fun r => r.getD 0 0
noncomputable def xR : ASp := fun xs M Q => ∃ (x : AV) (n : Nat) (os : List Int), xs = [x] /\ qD x M = some (os.map fun i => .d (.int i)) /\ zl n os /\ n <= 1000 /\ Q (.d (ilD (yI os n))) M
noncomputable def hdA : AV -> AV
 | .d (.lst (x :: _)) => .d x
 | _ => .d .non
theorem ZQ {r : List Int} (h : 1 <= r.length) : hdA (.d (ilD r)) = .d (.int (r.getD 0 0)) := by
 cases r with
 | nil => simp at h
 | cons a l => rfl
theorem xO {n : Nat} {os : List Int} (ho : zl n os) : (((zg os n).map ilD).map AV.d).map hdA = (yI os n).map fun i => AV.d (.int i) := by
 unfold yI
 rw [List.map_map, List.map_map, List.map_map]
 refine List.map_congr_left fun r hr => ?_
 have := qG ho (Nat.le_refl n) hr
 exact ZQ (by omega)
theorem ZC (a : At K mg "leaders" xi) (B : Blt mg) (D_rings : Df P w K mg base "rings" ["order"] 2 (cSp kY)) : Df P w K mg base "leaders" ["order"] 3 (cSp xR) := by
 refine dfA (k := 2) a xX (fun _ _ _ _ _ _ us hl => match us, hl with | [_], _ => rfl) (fun xs M Q h => ?_) (fun f cdv A outer s H E hr => ?_)
 ·obtain ⟨_, _, _, rfl, _⟩ := h; rfl
 have sc := xX
 have hsl := hsl
 refine ⟨_, (ze (zu (qJ (ts := [1]) rfl rfl (kM (zq D_rings hr rfl (za (pv 0) zb))) (fun _ _ _ _ => (zy (i := 1) sc.nd rfl (by first | exact Or.inl rfl | exact Or.inr rfl))) (fun _ _ _ _ => qt) (fun _ _ _ _ => (zV (Qp (K := K) rfl) (pv 1) zd (fun _ _ => rfl)))))), ?_⟩
 refine ex2 (by walk_at "sim") ?_
 rintro xs M Q ⟨x, n, os, rfl, hx, ho, hn, q⟩
 rw [show zI ["order", "ring"] [x] = [some x, none] from rfl]
 walk_at "ra"
 refine ⟨x, n, os, rfl, hx, ho, hn, _, rfl, ?_⟩
 refine xo (fun o => [some x, o]) hdA ⟨_, rfl⟩ rfl (by rw [List.length_map, List.length_map]; have := qj os n; omega) (fun o y Q hy q => ?_) fun o => ?_
 ·rw [List.map_map] at hy
  obtain ⟨r, hr, rfl⟩ := List.mem_map.mp hy
  have := qG ho (Nat.le_refl n) hr
  have h0 := yi (ns := r) (i := 0) (by omega) (by omega)
  rw [Int.toNat_zero] at h0
  show jl 1 (AV.d (ilD r)) _ _ _
  walk_at "ra"
  rw [h0]
  walk_at "ra"
  have q := q (some (.d (ilD r)))
  rw [show hdA ((AV.d ∘ ilD) r) = _ from ZQ (by omega)] at q
  exact q
 ·rw [xO ho, zM]
  exact ⟨_, rfl, _, _, Yt Fr.refl _, q⟩
noncomputable def QJ : ASp := fun xs M Q => ∃ (x : AV) (n : Nat) (os : List Int), xs = [x] /\ qD x M = some (os.map fun i => .d (.int i)) /\ zl n os /\ n <= 1000 /\ Q (.d (.tup [ilD (ldL os n), .int (wkL os n).sum])) M
theorem JM (vs : List V) (H : Hp) (Q : VK) (E : XK) (h : cSp QJ vs H Q E) : wL K vs H Q E := by
 obtain ⟨xs, M, O, Q', w, r, ⟨x, n, os, rfl, hx, ho, hn, q⟩, k⟩ := h
 obtain ⟨v, rfl, rv⟩ := qT r
 obtain ⟨a, rfl, ha⟩ := wA w rv hx
 refine ⟨a, n, os, rfl, ha.elim (fun h => .inl (SqL.of h)) (fun h => .inr (SqT.of h)), ho, hn, fun p t H' kp hp ht h1 h2 => ?_⟩
 obtain ⟨e1, w1⟩ := yj w kp
 refine k _ _ _ _ _ q e1 w1 (Rep.tup (w.fresh ht).1 h2 rfl fun i x d i1 i2 => ?_)
 match i, i1, i2 with
 | 0, i1, i2 => cases i1; cases i2; exact kJ (w.fresh hp).1 h1
 | 1, i1, i2 => cases i1; cases i2; exact .int
 | (i + 2), i1, _ => cases i1
theorem JC {a b : List Int} (h : a.length = b.length) (g : ∀ x, x < a.length -> a.getD x 0 = b.getD x 0) : a = b := by
 refine List.ext_getElem h fun i h1 h2 => ?_
 have := g i h1
 rwa [List.getD_eq_getElem?_getD, List.getElem?_eq_getElem h1, List.getD_eq_getElem?_getD, List.getElem?_eq_getElem h2] at this
theorem Wl {n : Nat} {os : List Int} {i : Nat} : ∃ k : Nat, k <= i /\ kB os k /\ Rch os (k : Int) (i : Int) := by
 obtain ⟨m, hm, hl⟩ := yA (p := fun q => Rch os ((q : Nat) : Int) (i : Int)) i Rch.refl
 refine ⟨m, ?_, fun q hq hr => hl q hq (hr.trans hm), hm⟩
 rcases Nat.lt_or_ge i m with h | h
 ·exact absurd Rch.refl (hl i h)
 ·exact h
theorem ww (os : List Int) (a b : Nat) (p : Int) : itn os (a + b) p = itn os a (itn os b p) := by
 induction a with
 | zero => rw [Nat.zero_add]; rfl
 | succ a ih => rw [show a + 1 + b = (a + b) + 1 by omega]; show nxt os (itn os (a + b) p) = nxt os (itn os a (itn os b p)); rw [ih]
theorem Xz {os : List Int} {t : Nat} {p q : Int} (h : itn os t p = p) (r : Rch os p q) : itn os t q = q := by
 obtain ⟨j, rfl⟩ := r
 rw [<- ww, Nat.add_comm, ww, h]
theorem QX {n : Nat} {os : List Int} {k : Nat} (hL : kB os k) (hp : 1 < per os (k : Int)) : ∀ {i : Nat}, k < i -> zB os (k : Int) ∈ zg os i
 | 0, h => absurd h (Nat.not_lt_zero _)
 | i + 1, h => by
  unfold zg
  by_cases c : k = i
  ·subst c; rw [if_pos ⟨hL, hp⟩]; simp
  ·exact List.mem_append_left _ (QX (n := n) hL hp (by omega))
theorem wa {os : List Int} {r : List Int} : ∀ {i : Nat}, r ∈ zg os i -> ∃ k : Nat, k < i /\ kB os k /\ 1 < per os (k : Int) /\ r = zB os (k : Int)
 | 0, hr => by simp [zg] at hr
 | i + 1, hr => by
  unfold zg at hr
  rcases List.mem_append.mp hr with z | z
  ·obtain ⟨k, hk, e⟩ := wa z
   exact ⟨k, by omega, e⟩
  ·by_cases c : kB os i /\ 1 < per os (i : Int)
   ·rw [if_pos c] at z
    exact ⟨i, by omega, c.1, c.2, List.mem_singleton.mp z⟩
   ·rw [if_neg c] at z; cases z
noncomputable def xm (os : List Int) (n t : Nat) : Prop := ∀ i : Nat, i < n -> itn os t (i : Int) = (i : Int)
theorem Wn {os : List Int} {p : Int} {m t : Nat} (h : qP os p m) (e : itn os t p = p) : m ∣ t := by
 rw [Q4 h.2.1] at e
 rcases Nat.eq_zero_or_pos (t % m) with z | z
 ·exact Nat.dvd_of_mod_eq_zero z
 ·exact absurd e (h.2.2 _ z (Nat.mod_lt _ h.1))
theorem yU {n : Nat} {os : List Int} (h : zl n os) (t : Nat) : xm os n t ↔ ∀ r ∈ zg os n, r.length ∣ t := by
 constructor
 ·intro hs r hr
  obtain ⟨k, hk, hL, hp, rfl⟩ := wa hr
  obtain ⟨m, hm, _⟩ := qX h (p := (k : Int)) (by omega) (by omega)
  unfold zB
  rw [zP, hm.per]
  exact Wn hm (hs k hk)
 ·intro hr i hi
  obtain ⟨k, hk, hL, hrc⟩ := Wl (n := n) (os := os) (i := i)
  obtain ⟨m, hm, _⟩ := qX h (p := (k : Int)) (by omega) (by omega)
  refine Xz ?_ hrc
  have hd : m ∣ t := by
   by_cases c : 1 < per os (k : Int)
   ·have := hr _ (QX (n := n) hL c (by omega))
    unfold zB at this
    rwa [zP, hm.per] at this
   ·rw [hm.per] at c
    have : m = 1 := by have := hm.1; omega
    rw [this]; exact Nat.one_dvd t
  obtain ⟨z, rfl⟩ := hd
  rw [Nat.mul_comm]
  exact xH hm.2.1 z
noncomputable def kD (t l : Nat) : Nat := t / Nat.gcd t l * l
theorem xI (t l : Nat) : kD t l = Nat.lcm t l := by
 unfold kD Nat.lcm
 rw [Nat.mul_comm t l, Nat.mul_div_assoc _ (Nat.gcd_dvd_left t l), Nat.mul_comm]
noncomputable def qE (rs : List (List Int)) : Nat := rs.foldl (fun t r => kD t r.length) 1
theorem xQ : ∀ (rs : List (List Int)) (t : Nat), (t ∣ rs.foldl (fun t r => kD t r.length) t /\ ∀ r ∈ rs, r.length ∣ rs.foldl (fun t r => kD t r.length) t) /\ ∀ z, t ∣ z -> (∀ r ∈ rs, r.length ∣ z) -> rs.foldl (fun t r => kD t r.length) t ∣ z
 | [], t => ⟨⟨Nat.dvd_refl t, fun r hr => nomatch hr⟩, fun z hz _ => hz⟩
 | r :: rs, t => by
  obtain ⟨⟨h1, h2⟩, h3⟩ := xQ rs (kD t r.length)
  rw [List.foldl_cons]
  have a1 : t ∣ kD t r.length := by rw [xI]; exact Nat.dvd_lcm_left _ _
  have a2 : r.length ∣ kD t r.length := by rw [xI]; exact Nat.dvd_lcm_right _ _
  refine ⟨⟨Nat.dvd_trans a1 h1, fun x hx => ?_⟩, fun z hz hr => h3 z ?_ fun x hx => hr x (by simp [hx])⟩
  ·rcases List.mem_cons.mp hx with rfl | hx
   ·exact Nat.dvd_trans a2 h1
   ·exact h2 x hx
  ·rw [xI]; exact Nat.lcm_dvd hz (hr r (by simp))
theorem Yz {rs : List (List Int)} {r : List Int} (h : r ∈ rs) : r.length ∣ qE rs := (xQ rs 1).1.2 r h
theorem ZZ {rs : List (List Int)} {z : Nat} (h : ∀ r ∈ rs, r.length ∣ z) : qE rs ∣ z := (xQ rs 1).2 z (Nat.one_dvd z) h
theorem kQ {n : Nat} {os : List Int} (h : zl n os) : 0 < qE (zg os n) := by
 have : ∀ (rs : List (List Int)) (t : Nat), 0 < t -> (∀ r ∈ rs, 0 < r.length) -> 0 < rs.foldl (fun t r => kD t r.length) t := by
  intro rs
  induction rs with
  | nil => intro t ht _; exact ht
  | cons r rs ih =>
   intro t ht hr
   rw [List.foldl_cons]
   refine ih _ ?_ fun x hx => hr x (by simp [hx])
   rw [xI]
   exact Nat.lcm_pos ht (hr r (by simp))
 exact this _ 1 (by omega) fun r hr => by have := qG h (Nat.le_refl n) hr; omega
theorem kd {n : Nat} {os : List Int} (h : zl n os) : xm os n (qE (zg os n)) := (yU h _).mpr fun _ hr => Yz hr
theorem yS {n : Nat} {os : List Int} (h : zl n os) {t : Nat} (hs : xm os n t) : pwl n os t = qq 0 1 n := by
 refine JC (by rw [(qQ h t).1, zr]) fun x hx => ?_
 rw [(qQ h t).1] at hx
 rw [Jf h hx, hs x hx, qm n hx]
theorem Kx {n : Nat} {os bs : List Int} (h : zl n os) (hb : qi os bs) : pwl n os (qE (zg os n) - 1) = bs := by
 have hp := kQ h
 refine qi.unique h hb (qQ h _).1 ?_
 have := xD h 1 (qE (zg os n) - 1)
 rw [Q7 h, show 1 + (qE (zg os n) - 1) = qE (zg os n) by omega, yS h (kd h)] at this
 exact this
theorem Xj {n : Nat} {os : List Int} (h : zl n os) {t : Nat} (t1 : 1 <= t) (hs : xm os n t) (hl : ∀ j, 1 <= j -> xm os n j -> t <= j) : t = qE (zg os n) := by
 have a := hl _ (kQ h) (kd h)
 have b := Nat.le_of_dvd t1 (ZZ ((yU h t).mp hs))
 omega
noncomputable def wd : Dat -> Option (List Dat)
 | .lst l => some l
 | .tup l => some l
 | _ => none
theorem Ah {d : Dat} {l : List Dat} (h : wd d = some l) (M : MH) : qD (.d d) M = some (l.map .d) := by
 cases d with
 | lst m => cases h; rfl
 | tup m => cases h; rfl
 | _ => cases h
theorem ji {d : Dat} {os : List Int} (h : wd d = some (os.map .int)) (M : MH) : qD (.d d) M = some (os.map fun i => .d (.int i)) := by rw [Ah h, jf]
theorem vT {τ : Type} (R : τ -> ASt) (f : Nat -> Int) {ag : AG} {ae : AE} {G : MH -> Prop} {N : List AV -> ASt -> MH -> Prop} {n : Nat} {ρ : ASt} {M : MH} (h0 : ∃ o, ρ = R o) (hG : G M) (hl : n <= 100000)
  (hs : ∀ (o : τ) (i : Nat) (Q : AV -> ASt -> MH -> Prop), i < n -> (∀ o', Q (.d (.int (f i))) (R o') M) -> ag (.d (.int (i : Int))) (R o) M fun ρ2 M2 => ae ρ2 M2 fun y M3 => Q y ρ2 M3) (hN : ∀ o, N (((List.range n).map f).map fun i => AV.d (.int i)) (R o) M) : JP ag y6 (yk ae) G N (ZH 0 1 n) [] ρ M := by
 refine Wx R (fun i => .d (.int (f i))) h0 hG (by rw [j4]; exact hl) (fun o i x Q hx q => ?_) fun o => ?_
 ·obtain ⟨hi, rfl⟩ := yD hx
  rw [Int.zero_add, Int.mul_one]
  exact hs o i Q hi q
 ·rw [j4]
  have := hN o
  rw [List.map_map] at this
  exact this
theorem qk (ns : List Int) : dp (ilD ns) <= 40 := by
 have : ∀ ns : List Int, dps (ns.map .int) <= 0 := fun ns => Qs fun d hd => by obtain ⟨i, _, rfl⟩ := List.mem_map.mp hd; simp [dp]
 rw [dp]; have := this ns; omega
noncomputable def qC (n : Nat) (k : Int) : List Int := (List.range n).map fun (i : Nat) => ((i : Int) + k) % (n : Int)
noncomputable def qL (r c : Nat) : List Int := (List.range (r * c)).map fun (p : Nat) => ((p % c * r + p / c : Nat) : Int)
noncomputable def zW (m f : Nat) : List Int := ((List.range m).map fun (i : Nat) => ((2 * i + f : Nat) : Int)) ++ (List.range m).map fun (i : Nat) => ((2 * i + 1 - f : Nat) : Int)
noncomputable def Bb (one other : List Int) : List Int := one.map fun p => other.getD p.toNat 0
theorem vf (n : Nat) (k : Int) : (qC n k).length = n := by simp [qC]
theorem qS {n : Nat} {k : Int} {i : Nat} (h : i < n) : (qC n k).getD i 0 = ((i : Int) + k) % (n : Int) := by
 rw [zT (by rw [vf]; exact h)]; simp [qC]
theorem ka (n : Nat) (k : Int) : zl n (qC n k) := by
 refine qU (vf n k) (fun i hi => ?_) (fun i j hi hj e => ?_)
 ·rw [qS hi]
  exact ⟨Int.emod_nonneg _ (by omega), Int.emod_lt_of_pos _ (by omega)⟩
 ·rw [qS hi, qS hj] at e
  have d : (((i : Int) + k) - ((j : Int) + k)) % (n : Int) = 0 := by
   rw [Int.sub_emod, e, Int.sub_self, Int.zero_emod]
  rw [show ((i : Int) + k) - ((j : Int) + k) = (i : Int) - j by omega] at d
  obtain ⟨c, hc⟩ := Int.dvd_of_emod_eq_zero d
  have h1 : (i : Int) - j < n := by omega
  have h2 : -(n : Int) < (i : Int) - j := by omega
  have hn : (0 : Int) < n := by omega
  have c0 : c = 0 := by
   rcases Int.lt_trichotomy c 0 with z | z | z
   ·exfalso
    have : (n : Int) * c <= (n : Int) * (-1) := Int.mul_le_mul_of_nonneg_left (by omega) (by omega)
    omega
   ·exact z
   ·exfalso
    have : (n : Int) * 1 <= (n : Int) * c := Int.mul_le_mul_of_nonneg_left (by omega) (by omega)
    omega
  subst c0
  omega
theorem we {n : Nat} {k : Int} (hn : 0 < n) {p : Int} (p0 : 0 <= p) (p1 : p < n) : ∀ j, itn (qC n k) j p = (p + (j : Int) * k) % (n : Int)
 | 0 => by
  show p = _
  simp
  exact (Int.emod_eq_of_lt p0 p1).symm
 | j + 1 => by
  have b0 := Int.emod_nonneg (p + (j : Int) * k) (show (n : Int) ≠ 0 by omega)
  have b1 := Int.emod_lt_of_pos (p + (j : Int) * k) (show (0 : Int) < n by omega)
  show (qC n k).getD (itn (qC n k) j p).toNat 0 = _
  rw [we hn p0 p1 j, qS (by omega), Int.toNat_of_nonneg b0, Int.emod_add_emod]
  congr 1
  push_cast
  rw [Int.add_mul]
  omega
theorem j9 {n : Nat} {k p : Int} (hn : 0 < n) (p0 : 0 <= p) (p1 : p < n) (j : Nat) : (p + (j : Int) * k) % (n : Int) = p ↔ n ∣ j * (k % (n : Int)).toNat := by
 have r0 := Int.emod_nonneg k (show (n : Int) ≠ 0 by omega)
 have e : ((j * (k % (n : Int)).toNat : Nat) : Int) = (j : Int) * (k % (n : Int)) := by push_cast; rw [Int.toNat_of_nonneg r0]
 have e2 : ((j : Int) * (k % (n : Int))) % (n : Int) = ((j : Int) * k) % (n : Int) := by rw [Int.mul_emod (j : Int) (k % (n : Int)), Int.emod_emod_of_dvd k (Int.dvd_refl _), <- Int.mul_emod]
 rw [<- Int.natCast_dvd_natCast, e]
 constructor
 ·intro h
  have : ((p + (j : Int) * k) - p) % (n : Int) = 0 := by
   rw [Int.sub_emod, h, Int.emod_eq_of_lt p0 p1]; simp
  rw [show (p + (j : Int) * k) - p = (j : Int) * k by omega, <- e2] at this
  exact Int.dvd_of_emod_eq_zero this
 ·intro h
  have h0 : ((j : Int) * k) % (n : Int) = 0 := by rw [<- e2]; exact Int.emod_eq_zero_of_dvd h
  rw [Int.add_emod, h0, Int.emod_eq_of_lt p0 p1, Int.add_zero, Int.emod_eq_of_lt p0 p1]
theorem Y2 {n r : Nat} {k : Int} (hn : 0 < n) (hr : (k % (n : Int)).toNat = r) {p : Int} (p0 : 0 <= p) (p1 : p < n) : qP (qC n k) p (n / Nat.gcd n r) := by
 have gp : 0 < Nat.gcd n r := Nat.gcd_pos_of_pos_left _ hn
 obtain ⟨M, hM⟩ := Nat.gcd_dvd_left n r
 obtain ⟨m, hm⟩ := Nat.gcd_dvd_right n r
 generalize hg : Nat.gcd n r = g at *
 have eM : n / g = M := by rw [hM]; exact Nat.mul_div_cancel_left M gp
 rw [eM]
 have hMp : 0 < M := Nat.pos_of_ne_zero fun z => by subst z; simp at hM; omega
 refine ⟨hMp, ?_, fun j h1 h2 => ?_⟩
 ·rw [we hn p0 p1, j9 hn p0 p1, hr]
  refine ⟨m, ?_⟩
  rw [hm, <- Nat.mul_assoc, Nat.mul_comm M g, <- hM]
 ·rw [we hn p0 p1, Ne, j9 hn p0 p1, hr]
  intro h
  have h3 : n ∣ Nat.gcd (j * n) (j * r) := Nat.dvd_gcd ⟨j, Nat.mul_comm j n⟩ h
  rw [Nat.gcd_mul_left, hg, hM, Nat.mul_comm j g] at h3
  have h4 := Nat.dvd_of_mul_dvd_mul_left gp h3
  have := Nat.le_of_dvd (by omega) h4
  omega
theorem wt {M : Nat} : ∀ (rs : List (List Int)), (∀ r ∈ rs, r.length = M) -> kO rs = rs.length * M
 | [], _ => by simp [kO]
 | r :: rs, h => by
  have h1 := wt rs fun x hx => h x (by simp [hx])
  have h2 := h r (by simp)
  unfold kO at *
  simp only [List.map_cons, List.sum_cons, List.length_cons] at *
  rw [h1, h2, Nat.add_mul]
  omega
theorem yY {n r : Nat} {k : Int} (hn : 0 < n) (hr : (k % (n : Int)).toNat = r) : ∀ x ∈ zg (qC n k) n, x.length = n / Nat.gcd n r := by
 intro x hx
 obtain ⟨q, L, hq, hL, e⟩ := vj (ka n k) (Nat.le_refl n) hx
 rw [e, zP]
 exact hL.uniq (Y2 hn hr (by omega) (by omega))
theorem JO {os : List Int} : ∀ (n : Nat), (∀ i, i < n -> os.getD i 0 ≠ (i : Int)) -> kR os n = n := by
 intro n h
 unfold kR
 rw [List.filter_eq_self.mpr, List.length_range]
 intro i hi
 simpa using h i (List.mem_range.mp hi)
theorem XM {os : List Int} : ∀ (n : Nat), (∀ i, i < n -> os.getD i 0 = (i : Int)) -> kR os n = 0 := by
 intro n h
 unfold kR
 rw [List.length_eq_zero_iff, List.filter_eq_nil_iff]
 intro i hi
 simpa using h i (List.mem_range.mp hi)
theorem Qt {n r : Nat} {k : Int} (hn : 0 < n) (hr : (k % (n : Int)).toNat = r) (h0 : 0 < r) : (zg (qC n k) n).length = Nat.gcd n r := by
 have ord := ka n k
 have gp : 0 < Nat.gcd n r := Nat.gcd_pos_of_pos_left _ hn
 have r1 := Int.emod_lt_of_pos k (show (0 : Int) < n by omega)
 have hs := wt _ (yY (k := k) hn hr)
 rw [yd ord, JO n fun i hi z => ?_] at hs
 ·obtain ⟨M, hM⟩ := Nat.gcd_dvd_left n r
  generalize Nat.gcd n r = g at *
  have eM : n / g = M := by rw [hM]; exact Nat.mul_div_cancel_left M gp
  rw [eM] at hs
  have hMp : 0 < M := Nat.pos_of_ne_zero fun z => by subst z; simp at hM; omega
  have : (zg (qC n k) n).length * M = g * M := by omega
  exact Nat.eq_of_mul_eq_mul_right hMp this
 ·rw [qS hi] at z
  have := (j9 hn (p := (i : Int)) (by omega) (by omega) 1 (k := k)).mp (by simpa using z)
  rw [hr, Nat.one_mul] at this
  have := Nat.le_of_dvd h0 this
  omega
theorem ZO {n : Nat} {k : Int} (h : n = 0 \/ k % (n : Int) = 0) : zg (qC n k) n = [] := by
 have ord := ka n k
 have hs := yd ord
 rw [XM n fun i hi => ?_] at hs
 ·cases e : zg (qC n k) n with
  | nil => rfl
  | cons x xs =>
   have := qG ord (Nat.le_refl n) (r := x) (by rw [e]; simp)
   rw [e] at hs
   unfold kO at hs
   simp only [List.map_cons, List.sum_cons] at hs
   omega
 ·rw [qS hi]
  have := (j9 (n := n) (by omega) (p := (i : Int)) (by omega) (by omega) 1 (k := k)).mpr (by
   rcases h with z | z
   ·omega
   ·rw [z]; simp)
  simpa using this
noncomputable def WR : ASp := fun xs M Q => ∃ (n : Nat) (k : Int), xs = [.d (.int n), .d (.int k)] /\ n <= 2000 /\ Q (.d (ilD (qC n k))) M
noncomputable abbrev ZG : Stmt := top 25
theorem QY : zt ["n", "k", "place"] ["n", "k"] (zf ZG) := ⟨rfl, rfl, rfl, by decide +kernel, rfl, by decide +kernel, by decide +kernel⟩
theorem Wq (a : At K mg "roll_order" ZG) (B : Blt mg) : Df P w K mg base "roll_order" ["n", "k"] 1 (cSp WR) := by
 refine dfA (k := 0) a QY (fun _ _ _ _ _ _ us hl => match us, hl with | [_, _], _ => rfl) (fun xs M Q h => ?_) (fun f cdv A outer s H E hr => ?_)
 ·obtain ⟨_, _, rfl, _⟩ := h; rfl
 have sc := QY
 have hsl := hsl
 refine ⟨_, (ze (zu (qJ (ts := [2]) rfl rfl (qy rfl B.range (za (pv 0) zb)) (fun _ _ _ _ => (zy (i := 2) sc.nd rfl (by first | exact Or.inl rfl | exact Or.inr rfl))) (fun _ _ _ _ => qt) (fun _ _ _ _ => (zo qc (zo zQ (pv 2) (pv 1)) (pv 0)))))), ?_⟩
 refine ex2 (by walk_at "sim") ?_
 rintro xs M Q ⟨n, k, rfl, hn, q⟩
 rw [show zI ["n", "k", "place"] [.d (.int n), .d (.int k)] = [some (.d (.int n)), some (.d (.int k)), none] from rfl]
 walk_at "ra"
 refine ⟨by omega, by omega, ?_⟩
 rw [Int.toNat_natCast]
 refine vT (fun o => [some (.d (.int n)), some (.d (.int k)), o]) (fun i => ((i : Int) + k) % (n : Int)) ⟨_, rfl⟩ trivial (by omega) (fun o i Q hi q => ?_) fun o => ⟨_, zM _, jo Fr.refl q⟩
 walk_at "ra"
 exact ⟨by omega, q _⟩
noncomputable def Yx : ASp := fun xs M Q => ∃ (r c p : Nat), xs = [.d (.int r), .d (.int c), .d (.int p)] /\ 0 < c /\ r <= 100000 /\ c <= 100000 /\ p <= 100000 /\ Q (.d (.int ((p % c * r + p / c : Nat) : Int))) M
noncomputable abbrev vN : Stmt := top 29
theorem wZ : zt ["rows", "columns", "place"] ["rows", "columns", "place"] (zf vN) := ⟨rfl, rfl, rfl, by decide +kernel, rfl, by decide +kernel, by decide +kernel⟩
theorem KJ (a : At K mg "turn_place" vN) (B : Blt mg) : Df P w K mg base "turn_place" ["rows", "columns", "place"] 1 (cSp Yx) := by
 refine dfA (k := 0) a wZ (fun _ _ _ _ _ _ us hl => match us, hl with | [_, _, _], _ => rfl) (fun xs M Q h => ?_) (fun f cdv A outer s H E hr => ?_)
 ·obtain ⟨_, _, _, rfl, _⟩ := h; rfl
 have sc := wZ
 have hsl := hsl
 refine ⟨_, (ze (zu (zo zQ (zo qb (zo qc (pv 2) (pv 1)) (pv 0)) (zo j6 (pv 2) (pv 1))))), ?_⟩
 refine ex2 (by walk_at "sim") ?_
 rintro xs M Q ⟨r, c, p, rfl, hc, h1, h2, h3, q⟩
 rw [show zI ["rows", "columns", "place"] [.d (.int r), .d (.int c), .d (.int p)] = [some (.d (.int r)), some (.d (.int c)), some (.d (.int p))] from rfl]
 walk_at "ra"
 refine ⟨by omega, ku (by omega) (by omega), kE (by omega) (by omega), ?_⟩
 refine jo Fr.refl ?_
 rw [show (p : Int) % c * r + p / c = ((p % c * r + p / c : Nat) : Int) by push_cast; rfl]
 exact q
noncomputable def X4 : ASp := fun xs M Q => ∃ (r c : Nat), xs = [.d (.int r), .d (.int c)] /\ r <= 2000 /\ c <= 2000 /\ r * c <= 2000 /\ Q (.d (ilD (qL r c))) M
noncomputable abbrev Qn : Stmt := top 30
theorem Jt : zt ["rows", "columns", "place"] ["rows", "columns"] (zf Qn) := ⟨rfl, rfl, rfl, by decide +kernel, rfl, by decide +kernel, by decide +kernel⟩
theorem Vx (a : At K mg "turn_order" Qn) (B : Blt mg) (D_turn_place : Df P w K mg base "turn_place" ["rows", "columns", "place"] 1 (cSp Yx)) : Df P w K mg base "turn_order" ["rows", "columns"] 2 (cSp X4) := by
 refine dfA (k := 1) a Jt (fun _ _ _ _ _ _ us hl => match us, hl with | [_, _], _ => rfl) (fun xs M Q h => ?_) (fun f cdv A outer s H E hr => ?_)
 ·obtain ⟨_, _, rfl, _⟩ := h; rfl
 have sc := Jt
 have hsl := hsl
 refine ⟨_, (ze (zu (qJ (ts := [2]) rfl rfl (qy rfl B.range (za (zo qb (pv 0) (pv 1)) zb)) (fun _ _ _ _ => (zy (i := 2) sc.nd rfl (by first | exact Or.inl rfl | exact Or.inr rfl))) (fun _ _ _ _ => qt) (fun _ _ _ _ => (zq D_turn_place hr rfl (za (pv 0) (za (pv 1) (za (pv 2) zb)))))))), ?_⟩
 refine ex2 (by walk_at "sim") ?_
 rintro xs M Q ⟨r, c, rfl, h1, h2, h3, q⟩
 rw [show zI ["rows", "columns", "place"] [.d (.int r), .d (.int c)] = [some (.d (.int r)), some (.d (.int c)), none] from rfl]
 walk_at "ra"
 refine ⟨ku (by omega) (by omega), ?_⟩
 rw [show (r : Int) * c = ((r * c : Nat) : Int) by push_cast; rfl]
 refine ⟨by omega, by omega, ?_⟩
 rw [Int.toNat_natCast]
 refine vT (fun o => [some (.d (.int r)), some (.d (.int c)), o]) (fun p => ((p % c * r + p / c : Nat) : Int)) ⟨_, rfl⟩ trivial (by omega) (fun o i Q hi q => ?_) fun o => ⟨_, zM _, jo Fr.refl q⟩
 walk_at "ra"
 exact ⟨r, c, i, rfl, Nat.pos_of_ne_zero (fun z => by rw [z] at hi; simp at hi), by omega, by omega, by omega, q _⟩
noncomputable def Yi : ASp := fun xs M Q => ∃ (m f : Nat), xs = [.d (.int m), .d (.int f)] /\ m <= 1000 /\ f <= 1 /\ Q (.d (ilD (zW m f))) M
noncomputable abbrev vB : Stmt := top 33
theorem Zg : zt ["many", "first", "one", "other", "at"] ["many", "first"] (zf vB) := ⟨rfl, rfl, rfl, by decide +kernel, rfl, by decide +kernel, by decide +kernel⟩
theorem XT (a : At K mg "weave_order" vB) (B : Blt mg) : Df P w K mg base "weave_order" ["many", "first"] 1 (cSp Yi) := by
 refine dfA (k := 0) a Zg (fun _ _ _ _ _ _ us hl => match us, hl with | [_, _], _ => rfl) (fun xs M Q h => ?_) (fun f cdv A outer s H E hr => ?_)
 ·obtain ⟨_, _, rfl, _⟩ := h; rfl
 have sc := Zg
 have hsl := hsl
 refine ⟨_, (zc (xL (j := 2) rfl sc.nd rfl (by first | exact Or.inl rfl | exact Or.inr rfl) (ts := [4]) rfl (qy rfl B.range (za (pv 0) zb)) (fun _ _ _ _ => (zy (i := 4) sc.nd rfl (by first | exact Or.inl rfl | exact Or.inr rfl))) (fun _ _ _ _ => qt) (fun _ _ _ _ => (zo zQ (zo qb zd (pv 4)) (pv 1))))
  (zc (xL (j := 3) rfl sc.nd rfl (by first | exact Or.inl rfl | exact Or.inr rfl) (ts := [4]) rfl (qy rfl B.range (za (pv 0) zb)) (fun _ _ _ _ => (zy (i := 4) sc.nd rfl (by first | exact Or.inl rfl | exact Or.inr rfl))) (fun _ _ _ _ => qt) (fun _ _ _ _ => (zo kr (zo zQ (zo qb zd (pv 4)) zd) (pv 1))))
  (ze (zu (zo Yo (pv 2) (pv 3)))))), ?_⟩
 refine ex2 (by walk_at "sim") ?_
 rintro xs M Q ⟨m, f, rfl, h1, h2, q⟩
 rw [show zI ["many", "first", "one", "other", "at"] [.d (.int m), .d (.int f)] = [some (.d (.int m)), some (.d (.int f)), none, none, none] from rfl]
 refine zn fun r hr0 => ?_
 walk_at "ra"
 refine ⟨by omega, by omega, ?_⟩
 rw [Int.toNat_natCast]
 refine vT (fun o => [some (.d (.int m)), some (.d (.int f)), none, none, o]) (fun (i : Nat) => ((2 * i + f : Nat) : Int)) ⟨_, rfl⟩ trivial (by omega) (fun o i Q hi q => ?_) fun o => ⟨_, zM _, ?_⟩
 ·walk_at "ra"
  exact ⟨xj (by omega) (by omega), by rw [show 2 * (i : Int) + f = ((2 * i + f : Nat) : Int) by push_cast; rfl]; exact q _⟩
 subst hr0
 refine zn fun r hr0 => ?_
 walk_at "ra"
 refine ⟨by omega, by omega, ?_⟩
 rw [Int.toNat_natCast]
 refine vT (fun o => [some (.d (.int m)), some (.d (.int f)), some (.d (ilD ((List.range m).map fun (i : Nat) => ((2 * i + f : Nat) : Int)))), none, o]) (fun (i : Nat) => ((2 * i + 1 - f : Nat) : Int)) ⟨_, rfl⟩ trivial (by omega) (fun o i Q hi q => ?_) fun o => ⟨_, zM _, ?_⟩
 ·walk_at "ra"
  exact ⟨xj (by omega) (by omega), by rw [show 2 * (i : Int) + 1 - f = ((2 * i + 1 - f : Nat) : Int) by omega]; exact q _⟩
 subst hr0
 walk_at "ra"
 refine ⟨by simp only [List.length_map, List.length_range]; omega, (zW m f).map .int, ?_, jo Fr.refl q⟩
 unfold zW
 rw [List.map_append, <- Vq, jf, jf]
noncomputable def AJ : ASp := fun xs M Q => ∃ (a b : Nat), xs = [.d (.int a), .d (.int b)] /\ Q (.d (.int (Nat.gcd a b : Nat))) M
noncomputable abbrev XQ : Stmt := top 13
theorem Xq : zt ["one", "other"] ["one", "other"] (zf XQ) := ⟨rfl, rfl, rfl, by decide +kernel, rfl, by decide +kernel, by decide +kernel⟩
theorem AH (a : At K mg "common_divisor" XQ) (B : Blt mg) : Df P w K mg base "common_divisor" ["one", "other"] 1 (cSp AJ) := by
 refine dfA (k := 0) a Xq (fun _ _ _ _ _ _ us hl => match us, hl with | [_, _], _ => rfl) (fun xs M Q h => ?_) (fun f cdv A outer s H E hr => ?_)
 ·obtain ⟨_, _, rfl, _⟩ := h; rfl
 have sc := Xq
 have hsl := hsl
 refine ⟨_, (zc (qY PassesOwn.never (zE yc (pv 1) zd (zz _)) (ze (Yh (i := 0) (j := 1) rfl sc.nd rfl rfl (by decide) rfl rfl (za (pv 1) (za (zo qc (pv 0) (pv 1)) zb)) rfl)))
  (ze (zu (pv 0)))), ?_⟩
 refine ex2 (by walk_at "sim") ?_
 rintro xs M Q ⟨a, b, rfl, q⟩
 rw [show zI ["one", "other"] [.d (.int a), .d (.int b)] = [some (.d (.int a)), some (.d (.int b))] from rfl]
 refine zn fun r hr0 => ?_
 show kN _ _ _ _ _ _
 unfold kN
 refine ⟨fun m ρ M' => M = M' /\ ∃ u : Nat, ρ = [some (.d (.int u)), some (.d (.int m))] /\ Nat.gcd u m = Nat.gcd a b, ⟨b, rfl, a, rfl, rfl⟩, ?_⟩
 rintro m ρ M' ⟨rfl, u, rfl, e⟩
 walk_at "ra"
 by_cases c : (0 : Int) < m
 ·rw [if_pos c]
  walk_at "ra"
  have ml := Nat.mod_lt u (show 0 < m by omega)
  refine ⟨c, u % m, ml, m, rfl, by rw [Int.natCast_emod], ?_⟩
  rw [<- e, Nat.gcd_comm u m, Nat.gcd_rec m u, Nat.gcd_comm]
 ·rw [if_neg c]
  have m0 : m = 0 := by omega
  subst m0
  subst hr0
  walk_at "ra"
  rw [Nat.gcd_zero_right] at e
  rw [e]
  exact jo Fr.refl q
noncomputable def Xk : ASp := fun xs M Q => ∃ (n : Nat) (k : Int), xs = [.d (.int n), .d (.int k)] /\ n <= 100000 /\ Q (.d (.bl (decide (n = 0 \/ k % (n : Int) = 0)))) M
noncomputable abbrev vG : Stmt := top 26
theorem wH : zt ["n", "k"] ["n", "k"] (zf vG) := ⟨rfl, rfl, rfl, by decide +kernel, rfl, by decide +kernel, by decide +kernel⟩
theorem Yu (a : At K mg "stays" vG) (B : Blt mg) : Df P w K mg base "stays" ["n", "k"] 1 (cSp Xk) := by
 refine dfA (k := 0) a wH (fun _ _ _ _ _ _ us hl => match us, hl with | [_, _], _ => rfl) (fun xs M Q h => ?_) (fun f cdv A outer s H E hr => ?_)
 ·obtain ⟨_, _, rfl, _⟩ := h; rfl
 have sc := wH
 have hsl := hsl
 refine ⟨_, (ze (zu (Dm (qf (qp hr.units) (pv 0) zd (zz _)) (yw (qf (qp hr.units) (zo qc (pv 1) (pv 0)) zd (zz _)))))), ?_⟩
 refine ex2 (by walk_at "sim") ?_
 rintro xs M Q ⟨n, k, rfl, hn, q⟩
 rw [show zI ["n", "k"] [.d (.int n), .d (.int k)] = [some (.d (.int n)), some (.d (.int k))] from rfl]
 walk_at "ra"
 by_cases c : n = 0
 ·subst c
  rw [if_pos (by rfl)]
  exact jo Fr.refl (by rw [decide_eq_true (.inl rfl)] at q; exact q)
 ·rw [if_neg (by omega)]
  refine ⟨by omega, jo Fr.refl ?_⟩
  rw [show decide (k % (n : Int) = 0) = decide (n = 0 \/ k % (n : Int) = 0) from decide_eq_decide.mpr ⟨.inr, fun h => h.resolve_left c⟩]
  exact q
noncomputable def Yk : ASp := fun xs M Q => ∃ (n : Nat) (k : Int), xs = [.d (.int n), .d (.int k)] /\ n <= 100000 /\ (n = 0 \/ k % (n : Int) = 0 -> Q (.d (.tup [.int 0, .int 0])) M) /\ (0 < n -> 0 < k % (n : Int) -> Q (.d (.tup [.int (Nat.gcd n (k % (n : Int)).toNat : Nat), .int (n / Nat.gcd n (k % (n : Int)).toNat : Nat)])) M)
noncomputable abbrev vM : Stmt := top 27
theorem Ze : zt ["n", "k", "many"] ["n", "k"] (zf vM) := ⟨rfl, rfl, rfl, by decide +kernel, rfl, by decide +kernel, by decide +kernel⟩
theorem KZ (a : At K mg "roll_rings" vM) (B : Blt mg) (D_stays : Df P w K mg base "stays" ["n", "k"] 1 (cSp Xk)) (D_common_divisor : Df P w K mg base "common_divisor" ["one", "other"] 1 (cSp AJ)) : Df P w K mg base "roll_rings" ["n", "k"] 2 (cSp Yk) := by
 refine dfA (k := 1) a Ze (fun _ _ _ _ _ _ us hl => match us, hl with | [_, _], _ => rfl) (fun xs M Q h => ?_) (fun f cdv A outer s H E hr => ?_)
 ·obtain ⟨_, _, rfl, _⟩ := h; rfl
 have sc := Ze
 have hsl := hsl
 refine ⟨_, (zc (qx (qZ (zq D_stays hr rfl (za (pv 0) (za (pv 1) zb))) (fun _ => rfl)) (ze (zu (jF (za zd (za zd zb))))) zN)
  (zc (zx (i := 2) sc.nd rfl (by first | exact Or.inl rfl | exact Or.inr rfl) (zq D_common_divisor hr rfl (za (pv 0) (za (zo qc (pv 1) (pv 0)) zb))))
  (ze (zu (jF (za (pv 2) (za (zo j6 (pv 0) (pv 2)) zb))))))), ?_⟩
 refine ex2 (by walk_at "sim") ?_
 rintro xs M Q ⟨n, k, rfl, hn, q1, q2⟩
 rw [show zI ["n", "k", "many"] [.d (.int n), .d (.int k)] = [some (.d (.int n)), some (.d (.int k)), none] from rfl]
 refine zn fun r hr0 => ?_
 walk_at "ra"
 refine ⟨n, k, rfl, hn, _, rfl, ?_⟩
 by_cases c : n = 0 \/ k % (n : Int) = 0
 ·rw [if_pos (decide_eq_true c)]
  exact ⟨by omega, jo Fr.refl (q1 c)⟩
 ·rw [if_neg (by rw [decide_eq_false c]; decide)]
  subst hr0
  walk_at "ra"
  have n0 : 0 < n := Nat.pos_of_ne_zero fun z => c (.inl z)
  obtain ⟨m0, m1⟩ := jn k (j := (n : Int)) (by omega)
  have mp : 0 < k % (n : Int) := by
   rcases Int.lt_or_eq_of_le m0 with h | h
   ·exact h
   ·exact absurd (.inr h.symm) c
  have gp : 0 < Nat.gcd n (k % (n : Int)).toNat := Nat.gcd_pos_of_pos_left _ n0
  have gl : Nat.gcd n (k % (n : Int)).toNat <= n := Nat.gcd_le_left _ n0
  refine ⟨by omega, n, (k % (n : Int)).toNat, by rw [Int.toNat_of_nonneg m0], _, rfl, ⟨by omega, by omega⟩, by omega, _, rfl, ?_⟩
  rw [<- Int.natCast_ediv]
  exact jo Fr.refl (q2 n0 mp)
noncomputable abbrev kT : Stmt := top 4
theorem xY : zt ["n"] ["n"] (zf kT) := ⟨rfl, rfl, rfl, by decide +kernel, rfl, by decide +kernel, by decide +kernel⟩
noncomputable def vv : ASp := fun xs M Q => ∃ n : Nat, xs = [.d (.int n)] /\ n <= 1000 /\ ∀ p, M p = none -> Q (.ref p) (mup M p (.lst ((qq 0 1 n).map fun i => .d (.int i))))
theorem Zm (a : At K mg "staying" kT) (B : Blt mg) : Df P w K mg base "staying" ["n"] 1 (cSp vv) := by
 refine dfA (k := 0) a xY (fun _ _ _ _ _ _ us hl => match us, hl with | [_], _ => rfl) (fun xs M Q h => ?_) (fun f cdv A outer s H E hr => ?_)
 ·obtain ⟨_, rfl, _⟩ := h; rfl
 have sc := xY
 have hsl := hsl
 refine ⟨_, (ze (zu (Qg (ql (ki rfl) rfl B.list jD (za (ql xu rfl B.range Zz (za (pv 0) zb)) zb))))), ?_⟩
 refine ex2 (by walk_at "sim") ?_
 rintro xs M Q ⟨n, rfl, hn, q⟩
 rw [show zI ["n"] [.d (.int n)] = [some (.d (.int n))] from rfl]
 walk_at "ra"
 refine ⟨_, _, _, rfl, small_one (by omega) (by omega) (by omega) (by omega), n, by rw [rangeSize_one]; split <;> omega, by omega, fun p hp _ => ?_⟩
 exact ⟨_, _, VR (Fr.refl.mup hp _) hp zA (zM _), q p hp⟩
noncomputable def Zh : ASp := fun xs M Q => ∃ n : Nat, xs = [.d (.int n)] /\ n <= 1000 /\ Q (.d (ilD (qq 0 1 n))) M
theorem ZW (vs : List V) (H : Hp) (Q : VK) (E : XK) : cSp Zh vs H Q E -> cSp vv vs H Q E := Wb (fun xs M Q ⟨n, e, h1, q⟩ => ⟨n, e, h1, fun p hp => ⟨_, _, Ja (Fr.refl.mup hp _) hp zA (zM _), q⟩⟩) vs H Q E
noncomputable def XN : ASp := fun xs M Q => ∃ (dx dy : Dat) (a b : List Int), xs = [.d dx, .d dy] /\ wd dx = some (a.map .int) /\ wd dy = some (b.map .int) /\ a.length = b.length /\ b.length <= 2000 /\ (∀ p ∈ a, 0 <= p /\ p < (b.length : Int)) /\ Q (.d (ilD (Bb a b))) M
noncomputable def Dz (b : List Int) : AV -> AV
 | .d (.int p) => .d (.int (b.getD p.toNat 0))
 | x => x
noncomputable abbrev vO : Stmt := top 5
theorem Zv : zt ["one", "other", "place"] ["one", "other"] (zf vO) := ⟨rfl, rfl, rfl, by decide +kernel, rfl, by decide +kernel, by decide +kernel⟩
theorem X9 (a : At K mg "after" vO) (B : Blt mg) : Df P w K mg base "after" ["one", "other"] 1 (cSp XN) := by
 refine dfA (k := 0) a Zv (fun _ _ _ _ _ _ us hl => match us, hl with | [_, _], _ => rfl) (fun xs M Q h => ?_) (fun f cdv A outer s H E hr => ?_)
 ·obtain ⟨_, _, _, _, rfl, _⟩ := h; rfl
 have sc := Zv
 have hsl := hsl
 refine ⟨_, (zc (qx (zE (qV hr.units) (zj zk rfl B.len zK (za (pv 0) zb)) (zj zk rfl B.len zK (za (pv 1) zb)) (zz _)) (ze KE) zN)
  (ze (zu (qJ (ts := [2]) rfl rfl (kM (pv 0)) (fun _ _ _ _ => (zy (i := 2) sc.nd rfl (by first | exact Or.inl rfl | exact Or.inr rfl))) (fun _ _ _ _ => qt) (fun _ _ _ _ => (zV (Qp (K := K) rfl) (pv 1) (pv 2) (fun _ _ => rfl))))))), ?_⟩
 refine ex2 (by walk_at "sim") ?_
 rintro xs M Q ⟨dx, dy, a, b, rfl, hx, hy, hl, hb, hp, q⟩
 rw [show zI ["one", "other", "place"] [.d dx, .d dy] = [some (.d dx), some (.d dy), none] from rfl]
 walk_at "ra"
 refine ⟨_, ji hx M, _, ji hy M, ?_⟩
 rw [List.length_map, List.length_map, if_neg (by omega)]
 refine ⟨_, ji hx M, ?_⟩
 refine xo (fun o => [some (.d dx), some (.d dy), o]) (Dz b) ⟨_, rfl⟩ (ji hx M) (by rw [List.length_map]; omega) (fun o y Q hy2 q => ?_) fun o => ?_
 ·obtain ⟨p, hp2, rfl⟩ := List.mem_map.mp hy2
  have hb2 := hp p hp2
  walk_at "ra"
  exact ⟨_, ji hy M, _, yi hb2.1 hb2.2, q _⟩
 ·rw [show (a.map fun i => AV.d (.int i)).map (Dz b) = (Bb a b).map fun i => AV.d (.int i) by unfold Bb; rw [List.map_map, List.map_map]; rfl]
  exact ⟨_, zM _, jo Fr.refl q⟩
noncomputable def KF : ASp := fun xs M Q => ∃ (dx : Dat) (n : Nat) (os : List Int), xs = [.d dx] /\ wd dx = some (os.map .int) /\ zl n os /\ n <= 2000 /\ ∀ bs, qi os bs -> Q (.d (ilD bs)) M
noncomputable abbrev Z7 : Stmt := top 6
theorem Jn : zt ["order", "back", "place", "goal"] ["order"] (zf Z7) := ⟨rfl, rfl, rfl, by decide +kernel, rfl, by decide +kernel, by decide +kernel⟩
theorem Vn (a : At K mg "back_of" Z7) (B : Blt mg) : Df P w K mg base "back_of" ["order"] 1 (cSp KF) := by
 refine dfA (k := 0) a Jn (fun _ _ _ _ _ _ us hl => match us, hl with | [_], _ => rfl) (fun xs M Q h => ?_) (fun f cdv A outer s H E hr => ?_)
 ·obtain ⟨_, _, _, rfl, _⟩ := h; rfl
 have sc := Jn
 have hsl := hsl
 refine ⟨_, (zc (zx (i := 1) sc.nd rfl (by first | exact Or.inl rfl | exact Or.inr rfl) (Qg (zo vP (qv (za zd zb)) (zj zk rfl B.len zK (za (pv 0) zb)))))
  (zc (jG PassesOwn.never rfl (xn rfl B.enumerate (za (pv 0) zb)) (ja (K := K) 2 rfl rfl (zO (zy (i := 2) sc.nd rfl (by first | exact Or.inl rfl | exact Or.inr rfl)) (zO (zy (i := 3) sc.nd rfl (by first | exact Or.inl rfl | exact Or.inr rfl)) jg))) (ze (jP (pv 2) (xp (pv 1) (pv 3) qR))))
  (ze (zu (pv 1))))), ?_⟩
 refine ex2 (by walk_at "sim") ?_
 rintro xs M Q ⟨dx, n, os, rfl, hx, ho, hn, q⟩
 rw [show zI ["order", "back", "place", "goal"] [.d dx] = [some (.d dx), none, none, none] from rfl]
 have h1 := ho.1
 refine zn fun r hr0 => ?_
 walk_at "ra"
 refine ⟨by omega, _, ji hx M, by rw [List.length_map]; omega, by rw [List.length_map]; omega, by rw [List.length_map]; omega, fun p hp _ => ?_⟩
 rw [List.length_map, h1, Int.toNat_natCast, Yn]
 have hp1 := zA (M := M) (a := p) (o := .lst (List.replicate n (AV.d (.int 0))))
 have f1 := (Fr.refl (M := M)).mup hp (.lst (List.replicate n (AV.d (.int 0))))
 subst hr0
 refine zn fun r hr0 => ?_
 walk_at "ra"
 refine ⟨_, ji hx _, _, zM _, ?_⟩
 refine ⟨fun i ρ M' => ∃ u v bs, ρ = [some (.d dx), some (.ref p), u, v] /\ M' = mup M p (.lst (bs.map fun i => AV.d (.int i))) /\ bs.length = n /\ ∀ j, j < i -> bs.getD (os.getD j 0).toNat 0 = (j : Int), ⟨none, none, List.replicate n 0, rfl, by rw [List.map_replicate], by simp, fun j hj => nomatch hj⟩, ?_, ?_⟩
 ·rintro i y ρ M' hy ⟨u, v, bs, rfl, rfl, lb, hj⟩
  refine ⟨ji hx _, ?_⟩
  obtain ⟨d, hd, rfl⟩ := j7 hy
  rw [List.getElem?_map] at hd
  cases e : os[i]? with
  | none => rw [e] at hd; cases hd
  | some k =>
   rw [e] at hd
   cases hd
   have hi := (List.getElem?_eq_some_iff.mp e).1
   have hk : os.getD i 0 = k := by rw [List.getD_eq_getElem?_getD, e]; rfl
   have kb := ho.2.2 k (List.mem_of_getElem? e)
   walk_at "ra"
   refine ⟨_, zA, k.toNat, by rw [List.length_map, X5 kb.1 (by omega)], bs.set k.toNat (i : Int), ?_, by rw [List.length_set]; exact lb, fun j hj' => ?_⟩
   ·rw [List.map_set]
   ·rw [Xn (by omega)]
    by_cases c : j = i
    ·subst c; rw [hk, if_pos rfl]
    ·rw [if_neg, hj j (by omega)]
     intro z
     have gj := ho.getD (i := j) (by omega)
     exact c (ho.inj (by omega) (by omega) (by rw [hk]; omega))
 ·rintro ρ M' ⟨u, v, bs, rfl, rfl, lb, hj⟩
  refine ⟨ji hx _, ?_⟩
  subst hr0
  walk_at "ra"
  refine ⟨_, _, Ja (Fr.refl.mup hp _) hp zA (zM _), q bs ⟨by omega, fun i hi => hj i ?_⟩⟩
  simp only [jv, List.length_map]
  exact hi
theorem Vu {n : Nat} {rr ss : List Int} (hr : zl n rr) (hs : zl n ss) (l : Nat) : aft (if l % 2 = 1 then aft rr ss else rr) (pwl n (aft ss ss) (l / 2)) = aft rr (pwl n ss l) := by
 rw [QU hs]
 by_cases h : l % 2 = 1
 ·rw [if_pos h, yR hr hs.1]
  have e : aft ss (pwl n ss (2 * (l / 2))) = pwl n ss l := by
   have := xD hs 1 (2 * (l / 2))
   rw [Q7 hs] at this
   rw [this]
   congr 1; omega
  rw [e]
 ·rw [if_neg h]
  congr 2; omega
noncomputable def Xi : ASp := fun xs M Q => ∃ (dx : Dat) (n : Nat) (os rs : List Int) (many : Int), xs = [.d dx, .d (.int many)] /\ wd dx = some (os.map .int) /\ zl n os /\ n <= 1000 /\ D0 n os many rs /\ Q (.d (ilD rs)) M
noncomputable abbrev vU : Stmt := top 7
theorem wC : zt ["order", "many", "step", "left", "reached"] ["order", "many"] (zf vU) := ⟨rfl, rfl, rfl, by decide +kernel, rfl, by decide +kernel, by decide +kernel⟩
theorem Yj (a : At K mg "times" vU) (B : Blt mg) (D_staying : Df P w K mg base "staying" ["n"] 2 (cSp Zh)) (D_after : Df P w K mg base "after" ["one", "other"] 2 (cSp XN)) (D_back_of : Df P w K mg base "back_of" ["order"] 2 (cSp KF)) : Df P w K mg base "times" ["order", "many"] 3 (cSp Xi) := by
 refine dfA (k := 2) a wC (fun _ _ _ _ _ _ us hl => match us, hl with | [_, _], _ => rfl) (fun xs M Q h => ?_) (fun f cdv A outer s H E hr => ?_)
 ·obtain ⟨_, _, _, _, _, rfl, _⟩ := h; rfl
 have sc := wC
 have hsl := hsl
 refine ⟨_, (zc (zx (i := 2) sc.nd rfl (by first | exact Or.inl rfl | exact Or.inr rfl) (wG (zE WN (pv 1) zd (zz _)) (pv 0) (zq D_back_of hr rfl (za (pv 0) zb))))
  (zc (zx (i := 3) sc.nd rfl (by first | exact Or.inl rfl | exact Or.inr rfl) (zj xV rfl B.abs ZE (za (pv 1) zb)))
  (zc (zx (i := 4) sc.nd rfl (by first | exact Or.inl rfl | exact Or.inr rfl) (zq D_staying hr rfl (za (zj zk rfl B.len zK (za (pv 0) zb)) zb)))
  (zc (qY PassesOwn.never (zE yc (pv 3) zd (zz _)) (zc (qx (zE (qp hr.units) (zo qc (pv 3) zd) zd (zz _)) (ze (zx (i := 4) sc.nd rfl (by first | exact Or.inl rfl | exact Or.inr rfl) (zq D_after hr rfl (za (pv 4) (za (pv 2) zb))))) zN)
  (zc (zx (i := 2) sc.nd rfl (by first | exact Or.inl rfl | exact Or.inr rfl) (zq D_after hr rfl (za (pv 2) (za (pv 2) zb))))
  (ze (Qh (i := 3) sc.nd rfl (by first | exact Or.inl rfl | exact Or.inr rfl) zd Y7)))))
  (ze (zu (pv 4))))))), ?_⟩
 refine ex2 (by walk_at "sim") ?_
 rintro xs M Q ⟨dx, n, os, rs, many, rfl, hx, ho, hn, ⟨bs, hb, hp, hm, rfl⟩, q⟩
 rw [show zI ["order", "many", "step", "left", "reached"] [.d dx, .d (.int many)] = [some (.d dx), some (.d (.int many)), none, none, none] from rfl]
 refine zn fun r hr0 => ?_
 walk_at "ra"
 have key : ∀ d : Dat, wd d = some (bs.map .int) -> r M { nx := fun x M' => rtA M Q (AV.d Dat.non) M', rt := rtA M Q } [some (AV.d dx), some (AV.d (Dat.int many)), some (AV.d d), none, none] M := by
  intro d hd
  have ol := ho.1
  subst hr0
  refine zn fun r hr0 => ?_
  walk_at "ra"
  have hab : (if many < 0 then -many else many) = (many.natAbs : Int) := by split <;> omega
  rw [hab]
  generalize many.natAbs = t at *
  subst hr0
  refine zn fun r hr0 => ?_
  walk_at "ra"
  refine ⟨_, ji hx _, n, by rw [List.length_map, ol], hn, ?_⟩
  subst hr0
  refine zn fun r hr0 => ?_
  show kN _ _ _ _ _ _
  unfold kN
  refine ⟨fun m ρ M' => M = M' /\ ∃ (e : Dat) (b rc : List Int), ρ = [some (.d dx), some (.d (.int many)), some (.d e), some (.d (.int m)), some (.d (ilD rc))] /\ wd e = some (b.map .int) /\ zl n b /\ zl n rc /\ aft rc (pwl n b m) = pwl n bs t, ⟨t, rfl, d, bs, _, rfl, hd, hb, zl.rng n, jw (qQ hb _).1⟩, ?_⟩
  rintro m ρ M' ⟨rfl, e, b, rc, rfl, he, hb2, hrc, eq⟩
  have bl := hb2.1
  have rl := hrc.1
  walk_at "ra"
  by_cases c : (0 : Int) < m
  ·rw [if_pos c]
   have st := Vu hrc hb2 m
   have bd : ∀ p ∈ b, 0 <= p /\ p < (b.length : Int) := fun p hp => by rw [bl]; exact hb2.2.2 p hp
   have rd : ∀ p ∈ rc, 0 <= p /\ p < (b.length : Int) := fun p hp => by rw [bl]; exact hrc.2.2 p hp
   refine ⟨by decide, ?_⟩
   by_cases c2 : (m : Int) % 2 = 1
   ·rw [if_pos c2]
    rw [if_pos (by omega)] at st
    exact ⟨_, _, rc, b, rfl, rfl, he, by omega, by omega, rd, _, _, b, b, rfl, he, he, rfl, by omega, bd, ⟨by omega, by omega⟩, m / 2, by omega, rfl, _, rfl, by omega, aft b b, aft rc b, rfl, rfl, hb2.aft hb2, hrc.aft hb2, by rw [st]; exact eq⟩
   ·rw [if_neg c2]
    rw [if_neg (by omega)] at st
    exact ⟨_, _, b, b, rfl, he, he, rfl, by omega, bd, ⟨by omega, by omega⟩, m / 2, by omega, rfl, _, rfl, by omega, aft b b, rc, rfl, rfl, hb2.aft hb2, hrc, by rw [st]; exact eq⟩
  ·rw [if_neg c]
   have m0 : m = 0 := by omega
   subst m0
   subst hr0
   walk_at "ra"
   rw [<- eq, show pwl n b 0 = qq 0 1 n from rfl, ko hrc] at q
   exact jo Fr.refl q
 by_cases c : 0 <= many
 ·rw [if_pos c]
  exact key dx (by rw [hp c]; exact hx)
 ·rw [if_neg c]
  refine ⟨dx, n, os, rfl, hx, ho, by omega, fun bs' hb' => ?_⟩
  exact key _ (by rw [qi.same ho (hm (by omega)) hb']; rfl)
theorem qF {m f p : Nat} (hp : p < 2 * m) : (zW m f).getD p 0 = if p < m then ((2 * p + f : Nat) : Int) else ((2 * (p - m) + 1 - f : Nat) : Int) := by
 unfold zW
 by_cases c : p < m
 ·rw [if_pos c, List.getD_eq_getElem?_getD, List.getElem?_append_left (by simpa using c), List.getElem?_map, List.getElem?_range c]; rfl
 ·rw [if_neg c, List.getD_eq_getElem?_getD, List.getElem?_append_right (by simpa using c), List.getElem?_map, List.length_map, List.length_range, List.getElem?_range (by omega)]; rfl
theorem JZ (m f : Nat) : (zW m f).length = 2 * m := by unfold zW; rw [List.length_append, List.length_map, List.length_map, List.length_range]; omega
theorem ju {m f : Nat} (hf : f <= 1) : zl (2 * m) (zW m f) := by
 refine qU (JZ m f) (fun i hi => ?_) (fun i j hi hj e => ?_)
 ·rw [qF hi]; split <;> omega
 ·rw [qF hi, qF hj] at e
  split at e <;> split at e <;> omega
theorem xA (os : List Int) (p : Nat) : nxt os (p : Int) = os.getD p 0 := by unfold nxt; rw [Int.toNat_natCast]
theorem xk {m : Nat} : ∀ (t : Nat) {p : Nat}, p < 2 * m -> ∃ q : Nat, q < 2 * m /\ itn (zW m 1) t (p : Int) = (q : Int) /\ q + 1 = 2 ^ t * (p + 1) % (2 * m + 1)
 | 0, p, hp => ⟨p, hp, rfl, by rw [Nat.pow_zero, Nat.one_mul, Nat.mod_eq_of_lt (by omega)]⟩
 | t + 1, p, hp => by
  obtain ⟨q, hq, e1, e2⟩ := xk t hp
  have e3 : itn (zW m 1) (t + 1) (p : Int) = nxt (zW m 1) (q : Int) := by show nxt _ (itn _ t _) = _; rw [e1]
  rw [e3, xA, qF hq]
  have e4 : 2 ^ (t + 1) * (p + 1) % (2 * m + 1) = 2 * (q + 1) % (2 * m + 1) := by
   rw [e2, Nat.mul_mod_mod, Nat.pow_succ, Nat.mul_comm (2 ^ t) 2, Nat.mul_assoc]
  rw [e4]
  by_cases c : q < m
  ·exact ⟨2 * q + 1, by omega, by rw [if_pos c], by rw [Nat.mod_eq_of_lt (by omega)]; omega⟩
  ·refine ⟨2 * (q - m) + 1 - 1, by omega, by rw [if_neg c], ?_⟩
   rw [show 2 * (q + 1) = (2 * (q - m) + 1) + (2 * m + 1) by omega, Nat.add_mod_right, Nat.mod_eq_of_lt (by omega)]
   omega
theorem xl {m : Nat} : ∀ (t : Nat) {p : Nat}, p < 2 * m - 1 -> ∃ q : Nat, q < 2 * m - 1 /\ itn (zW m 0) t (p : Int) = (q : Int) /\ q = 2 ^ t * p % (2 * m - 1)
 | 0, p, hp => ⟨p, hp, rfl, by rw [Nat.pow_zero, Nat.one_mul, Nat.mod_eq_of_lt hp]⟩
 | t + 1, p, hp => by
  obtain ⟨q, hq, e1, e2⟩ := xl t hp
  have e3 : itn (zW m 0) (t + 1) (p : Int) = nxt (zW m 0) (q : Int) := by show nxt _ (itn _ t _) = _; rw [e1]
  rw [e3, xA, qF (by omega)]
  have e4 : 2 ^ (t + 1) * p % (2 * m - 1) = 2 * q % (2 * m - 1) := by
   rw [e2, Nat.mul_mod_mod, Nat.pow_succ, Nat.mul_comm (2 ^ t) 2, Nat.mul_assoc]
  rw [e4]
  by_cases c : q < m
  ·exact ⟨2 * q, by omega, by rw [if_pos c]; rfl, by rw [Nat.mod_eq_of_lt (by omega)]⟩
  ·refine ⟨2 * (q - m) + 1, by omega, by rw [if_neg c]; rfl, ?_⟩
   rw [show 2 * q = (2 * (q - m) + 1) + (2 * m - 1) by omega, Nat.add_mod_right, Nat.mod_eq_of_lt (by omega)]
theorem xt {m : Nat} (hm : 1 <= m) : ∀ t, itn (zW m 0) t ((2 * m - 1 : Nat) : Int) = ((2 * m - 1 : Nat) : Int)
 | 0 => rfl
 | t + 1 => by
  show nxt _ (itn _ t _) = _
  rw [xt hm t, xA, qF (by omega), if_neg (by omega)]
  congr 1; omega
noncomputable def byW (m f : Nat) : Nat := if f = 1 then 2 * m + 1 else 2 * m - 1
theorem QF {k t x : Nat} (hk : 1 < k) (hx : x < k) (h : 2 ^ t % k = 1) : 2 ^ t * x % k = x := by
 rw [<- Nat.mod_mul_mod, h, Nat.one_mul, Nat.mod_eq_of_lt hx]
theorem Zl {m f : Nat} (hf : f <= 1) (hb : 1 < byW m f) (t : Nat) : xm (zW m f) (2 * m) t ↔ 2 ^ t % byW m f = 1 := by
 unfold byW at *
 by_cases c : f = 1
 ·subst c
  rw [if_pos rfl] at *
  constructor
  ·intro h
   have h0 := h 0 (by omega)
   obtain ⟨q, hq, e1, e2⟩ := xk (m := m) t (p := 0) (by omega)
   rw [h0] at e1
   have : q = 0 := by omega
   rw [this, Nat.zero_add, Nat.mul_one] at e2
   exact e2.symm
  ·intro h i hi
   obtain ⟨q, hq, e1, e2⟩ := xk (m := m) t hi
   rw [QF hb (by omega) h] at e2
   rw [e1]; congr 1; omega
 ·have f0 : f = 0 := by omega
  subst f0
  rw [if_neg (by omega)] at *
  constructor
  ·intro h
   have h0 := h 1 (by omega)
   obtain ⟨q, hq, e1, e2⟩ := xl (m := m) t (p := 1) (by omega)
   rw [h0] at e1
   have : q = 1 := by omega
   rw [this, Nat.mul_one] at e2
   exact e2.symm
  ·intro h i hi
   by_cases c2 : i < 2 * m - 1
   ·obtain ⟨q, hq, e1, e2⟩ := xl (m := m) t c2
    rw [QF hb c2 h] at e2
    rw [e1, e2]
   ·rw [show i = 2 * m - 1 by omega]
    exact xt (by omega) t
theorem Zp {m f : Nat} (hf : f <= 1) (hb : byW m f <= 1) : qE (zg (zW m f) (2 * m)) = 1 := by
 refine (Xj (ju hf) (Nat.le_refl 1) (fun i hi => ?_) fun j hj _ => hj).symm
 unfold byW at hb
 by_cases c : f = 1
 ·rw [if_pos c] at hb; omega
 ·rw [if_neg c] at hb
  have f0 : f = 0 := by omega
  have m1 : m = 1 := by omega
  subst f0 m1
  show nxt _ (i : Int) = _
  rw [xA, qF hi]
  split <;> omega
noncomputable abbrev kC : Stmt := top 39
theorem yv : zt ["_law_found", "_law_due", "_law_one", "_law_other"] ["_law_found", "_law_due"] (zf kC) := ⟨rfl, rfl, rfl, by decide +kernel, rfl, by decide +kernel, by decide +kernel⟩
noncomputable def yP (n : Nat) : ASp := fun xs M Q => ∃ (x y : AV) (d : Dat), xs = [x, y] /\ yB x M = some d /\ yB y M = some d /\ jp n d /\ n <= 30 /\ Q (.d (.bl true)) M
noncomputable def aNo : ASp := fun _ _ _ => False
theorem wu {x y : AV} {M : MH} {l : List Dat} {n : Nat} {sp : ASp} (hsp : ∀ xs M Q, yP n xs M Q -> sp xs M Q) {N : List AV -> ASt -> MH -> Prop} (hl : l.length <= 100000) (hd : ∀ d ∈ l, jp n d) (hn : n <= 30) {u v : Option AV} (hN : N (l.map fun _ => AV.d (.bl true)) [] M) (hN' : ∀ acc ρ ρ' M, N acc ρ M -> N acc ρ' M) :
  JP (XO 2 (vS (jl 2) (vS (jl 3) KA))) y6 (yk (KY sp (QH (V9 2) (QH (V9 3) BB)))) (fun M' => z0 x M' = z0 x M /\ z0 y M' = z0 y M) N (vC l l) [] [some x, some y, u, v] M := by
 have e : (vC l l).map (fun _ => AV.d (.bl true)) = l.map fun _ => AV.d (.bl true) := by
  rw [List.map_const', List.map_const', jV, Nat.min_self]
 refine xo (fun (o : Option AV × Option AV) => [some x, some y, o.1, o.2]) (fun _ => .d (.bl true)) ⟨(u, v), rfl⟩ ⟨rfl, rfl⟩ (by rw [jV, Nat.min_self]; exact hl) (fun o z Q hz q => ?_) fun o => by rw [e]; exact hN' _ _ _ _ hN
 obtain ⟨i, hi⟩ := List.getElem?_of_mem hz
 obtain ⟨d, d', h1, h2, rfl⟩ := yl hi
 rw [h1] at h2; cases h2
 walk_at "ra"
 exact hsp _ _ _ ⟨_, _, d, rfl, rfl, rfl, hd d (List.mem_of_getElem? h1), hn, q (some (.d d), some (.d d))⟩
theorem Zo {l : List Dat} : ∃ bs : List Bool, (l.map fun _ => Dat.bl true) = bs.map Dat.bl /\ (l.map fun _ => AV.d (Dat.bl true)) = bs.map (fun b => AV.d (.bl b)) /\ bs.all id = true := ⟨l.map fun _ => true, by rw [List.map_map]; rfl, by rw [List.map_map]; rfl, by simp⟩
theorem DO (a : At K mg "_law_alike" kC) : Df P w K mg base "_law_alike" ["_law_found", "_law_due"] 1 (cSp aNo) :=
 jt (k := 0) a yv (fun _ _ _ _ _ _ us hl => match us, hl with | [_, _], _ => rfl) (fun vs H Q E h => by obtain ⟨_, _, _, _, _, _, h, _⟩ := h; exact h.elim) (fun f cdv A outer s H vs Q E hr h => by obtain ⟨_, _, _, _, _, _, h, _⟩ := h; exact h.elim)
theorem wx (a : At K mg "_law_alike" kC) (B : Blt mg) (Ball : mg "all" = none) {kk : Nat} (n : Nat) {sp : ASp} (hsp : ∀ xs M Q, 1 <= n -> yP (n - 1) xs M Q -> sp xs M Q) (D_law_alike : Df P w K mg base "_law_alike" ["_law_found", "_law_due"] kk (cSp sp)) : Df P w K mg base "_law_alike" ["_law_found", "_law_due"] (kk + 1) (cSp (yP n)) := by
 refine dfA (k := kk) a yv (fun _ _ _ _ _ _ us hl => match us, hl with | [_, _], _ => rfl) (fun xs M Q h => ?_) (fun f cdv A outer s H E hr => ?_)
 ·obtain ⟨_, _, _, rfl, _⟩ := h; rfl
 have sc := yv
 have hsl := hsl
 have hs2 : 0 + 1 + 1 <= sizeLine := by omega
 refine ⟨_, (zc (qx (qZ (zj yX rfl B.isinstance zG (za (pv 1) (za (jF (za (qu (v := .ty "list") rfl B.list jD rfl) (za (qu (v := .ty "tuple") rfl B.tuple Zr rfl) zb))) zb))) (fun _ => rfl)) (zc (qx (PW.pt (yg (ky (qZ (zj yX rfl B.isinstance zG (za (pv 0) (za (jF (za (qu (v := .ty "list") rfl B.list jD rfl) (za (qu (v := .ty "tuple") rfl B.tuple Zr rfl) zb))) zb))) (fun _ => rfl))) (kx (zE (qV hr.units) (zj qK rfl B.isinstance zG (za (pv 0) (za (qu (v := .ty "list") rfl B.list jD rfl) zb))) (zj qK rfl B.isinstance zG (za (pv 1) (za (qu (v := .ty "list") rfl B.list jD rfl) zb))) (zz _))))) (ze (zu jH)) zN)
  (ze (zu (yy (qf (qp hr.units) (zj zk rfl B.len zK (za (pv 0) zb)) (zj zk rfl B.len zK (za (pv 1) zb)) (zz _)) (yw (zj (Kr rfl) rfl Ball Bh (za (qJ (ts := [2, 3]) rfl rfl (K6 rfl B.zip (za (pv 0) (za (pv 1) zb))) (fun _ _ _ _ => (ja (K := K) 2 rfl rfl (zO (zy (i := 2) sc.nd rfl (by first | exact Or.inl rfl | exact Or.inr rfl)) (zO (zy (i := 3) sc.nd rfl (by first | exact Or.inl rfl | exact Or.inr rfl)) jg)))) (fun _ _ _ _ => qt) (fun _ _ _ _ => (zq D_law_alike hr rfl (za (pv 2) (za (pv 3) zb))))) zb))))))) zN)
  (zc (qx (PW.pt (yg (zE Ai (pv 1) Ag (zz _)) (kx (qZ (zj qK rfl B.isinstance zG (za (pv 1) (za (qu (v := .ty "str") rfl B.str Z8 rfl) zb))) (fun _ => rfl))))) (ze (zu (yy (qf (qp hr.units) (pv 0) (pv 1) (zz _)) (yw (qf (qp hr.units) (zj qK rfl B.isinstance zG (za (pv 0) (za (qu (v := .ty "str") rfl B.str Z8 rfl) zb))) (zj qK rfl B.isinstance zG (za (pv 1) (za (qu (v := .ty "str") rfl B.str Z8 rfl) zb))) (zz _)))))) zN)
  (ze (zu (yy (zj qK rfl B.isinstance zG (za (pv 0) (za (qu (v := .ty "int") rfl B.int yt rfl) zb))) (yy (qf (qp hr.units) (zj qK rfl B.isinstance zG (za (pv 0) (za (qu (v := .ty "bool") rfl B.bool QB rfl) zb))) (zj qK rfl B.isinstance zG (za (pv 1) (za (qu (v := .ty "bool") rfl B.bool QB rfl) zb))) (zz _)) (yw (qf (qp hr.units) (pv 0) (pv 1) (zz _))))))))), ?_⟩
 refine ex2 (by walk_at "sim") ?_
 rintro xs M Q ⟨x, y, d, rfl, hx, hy, hd, hn, q⟩
 rw [show zI ["_law_found", "_law_due", "_law_one", "_law_other"] [x, y] = [some x, some y, none, none] from rfl]
 have fin := Yt (M0 := M) Fr.refl (.bl true)
 cases d with
 | non => obtain rfl := qa hx (fun _ z => nomatch z); obtain rfl := qa hy (fun _ z => nomatch z); walk_at "ra"; exact ⟨hs2, _, _, fin, q⟩
 | bl b => obtain rfl := qa hx (fun _ z => nomatch z); obtain rfl := qa hy (fun _ z => nomatch z); walk_at "ra"; exact ⟨hs2, _, _, fin, q⟩
 | int i => obtain rfl := qa hx (fun _ z => nomatch z); obtain rfl := qa hy (fun _ z => nomatch z); walk_at "ra"; exact ⟨hs2, _, _, fin, q⟩
 | str i => obtain rfl := qa hx (fun _ z => nomatch z); obtain rfl := qa hy (fun _ z => nomatch z); walk_at "ra"; exact ⟨hs2, _, _, fin, q⟩
 | tup l =>
  obtain rfl := qa hx (fun _ z => nomatch z)
  obtain rfl := qa hy (fun _ z => nomatch z)
  cases n with
  | zero => exact hd.no_t.elim
  | succ n =>
   obtain ⟨hl, hd'⟩ := hd.tup
   walk_at "ra"
   refine ⟨hs2, hs2, l, l, .inr ⟨rfl, rfl, Nat.le_refl _⟩, wu (n := n) (sp := sp) (fun xs M Q h => hsp xs M Q (by omega) h) hl hd' (by omega) ?_ (fun _ _ _ _ z => z)⟩
   obtain ⟨bs, b1, b2, b3⟩ := Zo (l := l)
   refine ⟨l.map fun _ => .bl true, ?_, bs, by rw [List.map_map]; exact b2, ?_⟩
   ·rw [<- jh (l.map fun _ => Dat.bl true), List.map_map]; rfl
   ·rw [b3]; exact ⟨_, _, fin, q⟩
 | lst l =>
  obtain ⟨x1, x2, x3, x4⟩ := wv hx
  obtain ⟨y1, y2, y3, y4⟩ := wv hy
  cases n with
  | zero => exact hd.no_l.elim
  | succ n =>
   obtain ⟨hl, hd'⟩ := hd.lst
   walk_at "ra"
   simp only [x2, x3, x4, y2, y3, y4]
   walk_at "ra"
   refine ⟨hs2, hs2, l, l, .inl ⟨x1, y1⟩, wu (n := n) (sp := sp) (fun xs M Q h => hsp xs M Q (by omega) h) hl hd' (by omega) ?_ (fun _ _ _ _ z => z)⟩
   obtain ⟨bs, b1, b2, b3⟩ := Zo (l := l)
   refine ⟨l.map fun _ => .bl true, ?_, bs, by rw [List.map_map]; exact b2, ?_⟩
   ·rw [<- jh (l.map fun _ => Dat.bl true), List.map_map]; rfl
   ·rw [b3]; exact ⟨_, _, fin, q⟩
 | ty t => have := hd.1; rw [dp] at this; omega
 | rng _ _ _ => have := hd.1; rw [dp] at this; omega
 | scr _ _ => have := hd.1; rw [dp] at this; omega
theorem vt (a : At K mg "_law_alike" kC) (B : Blt mg) (Ball : mg "all" = none) : ∀ n, Df P w K mg base "_law_alike" ["_law_found", "_law_due"] (n + 2) (cSp (yP n))
 | 0 => wx a B Ball 0 (sp := aNo) (fun _ _ _ h => absurd h (by omega)) (DO a)
 | n + 1 => wx a B Ball (n + 1) (sp := yP n) (fun _ _ _ _ h => h) (vt a B Ball n)
noncomputable def XE (K : PySem.W.Frag) : ASp := fun xs M Q => ∃ (m : Int) (ns : List Int), xs = [.d (.scr K ns), .d (.int m)] /\ 0 < m /\ m <= 60 /\ ns.length <= 63 /\ ∀ p M' (bs : List Addr), Fr M M' -> M p = none -> M' p = some (.lst (bs.map AV.ref)) -> bs.Nodup -> (∀ b ∈ bs, BxM M' b 0 /\ b ≠ p /\ M b = none) -> bs.length <= 1000 -> Q (.ref p) M'
noncomputable abbrev v4 : Stmt := top 40
theorem Zq : zt ["_law_script", "_law_many", "_law_cells", "_law_k"] ["_law_script", "_law_many"] (zf v4) := ⟨rfl, rfl, rfl, by decide +kernel, rfl, by decide +kernel, by decide +kernel⟩
theorem YM (a : At K mg "_law_boxes" v4) (B : Blt mg) (D_law_folded : Df P w K mg base "_law_folded" ["_law_script", "_law_many"] 1 (cSp (Jg K))) (D_law_box : Df P w K mg base "_law_box" ["_law_script", "_law_k"] 1 (cSp DV)) : Df P w K mg base "_law_boxes" ["_law_script", "_law_many"] 2 (cSp (XE K)) := by
 refine dfA (k := 1) a Zq (fun _ _ _ _ _ _ us hl => match us, hl with | [_, _], _ => rfl) (fun xs M Q h => ?_) (fun f cdv A outer s H E hr => ?_)
 ·obtain ⟨_, _, rfl, _⟩ := h; rfl
 have sc := Zq
 have hsl := hsl
 refine ⟨_, (zc (zx (i := 2) sc.nd rfl (by first | exact Or.inl rfl | exact Or.inr rfl) (zq D_law_folded hr rfl (za (pv 0) (za (pv 1) zb))))
  (ze (zu (Qg (qJ (ts := [3]) rfl rfl (qy rfl B.range (za (zj (Jy rfl) rfl B.max Ay (za zd (za (zj zk rfl B.len zK (za (pv 2) zb)) zb))) zb)) (fun _ _ _ _ => (zy (i := 3) sc.nd rfl (by first | exact Or.inl rfl | exact Or.inr rfl))) (fun _ _ _ _ => qt) (fun _ _ _ _ => (zq D_law_box hr rfl (za (pv 2) (za (pv 3) zb))))))))), ?_⟩
 refine ex2 (by walk_at "sim") ?_
 rintro xs M Q ⟨m, ns, rfl, h1, h2, hn, q⟩
 rw [show zI ["_law_script", "_law_many", "_law_cells", "_law_k"] [.d (.scr K ns), .d (.int m)] = [some (.d (.scr K ns)), some (.d (.int m)), none, none] from rfl]
 refine zn fun r hr0 => ?_
 walk_at "ra"
 refine ⟨m, ns, rfl, h1, h2, hn, fun cs lc => ?_⟩
 subst hr0
 walk_at "ra"
 obtain ⟨z, hz, hz'⟩ : ∃ z : Nat, (if (cs.length : Int) > 1 then (cs.length : Int) else 1) = (z : Int) /\ z <= 1000 := by
  split
  ·exact ⟨cs.length, rfl, by omega⟩
  ·exact ⟨1, rfl, by omega⟩
 rw [hz, Int.toNat_natCast]
 refine ⟨by omega, by omega, ?_⟩
 refine ⟨fun i acc ρ M' => ∃ u bs, ρ = [some (.d (.scr K ns)), some (.d (.int m)), some (.d (ilD cs)), u] /\ acc = bs.map AV.ref /\ bs.length = i /\ bs.Nodup /\ Fr M M' /\ (∀ q o, M' q = some o -> M q = some o \/ q ∈ bs) /\ ∀ b ∈ bs, BxM M' b 0 /\ M b = none, ⟨none, [], rfl, rfl, rfl, List.nodup_nil, Fr.refl, (fun q o e => .inl e), fun b hb => nomatch hb⟩, ?_, ?_⟩
 ·rintro i y acc ρ M' hy ⟨u, bs, rfl, rfl, lb, nd, f, ho, hb⟩
  obtain ⟨hi, rfl⟩ := yD hy
  refine ⟨trivial, ?_⟩
  walk_at "ra"
  refine ⟨_, _, cs, rfl, Y5 _ _, by omega, by omega, by omega, fun b o hbn bx => ⟨by omega, bs ++ [b], by rw [List.map_append]; rfl, by rw [List.length_append, lb]; rfl, ?_, f.mup (f.non hbn) o, (fun q o' e => ?_), fun x hx => ?_⟩⟩
  ·refine List.nodup_append.mpr ⟨nd, by simp, fun x hx y hy e => ?_⟩
   rw [List.mem_singleton.mp hy] at e
   exact (hb x hx).1.ne (by rw [e]; exact hbn)
  ·by_cases c : q = b
   ·exact .inr (by simp [c])
   ·rw [zR c] at e
    exact (ho q o' e).imp (fun z => z) (fun z => by simp [z])
  ·rcases List.mem_append.mp hx with hx | hx
   ·exact ⟨(hb x hx).1.put (fun z => (hb x hx).1.ne (by rw [z]; exact hbn)) o, (hb x hx).2⟩
   ·rw [List.mem_singleton.mp hx]; exact ⟨bx, f.non hbn⟩
 ·rintro acc ρ M' ⟨u, bs, rfl, rfl, lb, nd, f, ho, hb⟩
  rw [j4] at lb
  refine ⟨trivial, fun p hp hp' => ?_⟩
  have hbp : ∀ b ∈ bs, b ≠ p := fun b h z => (hb b h).1.ne (by rw [z]; exact hp')
  refine ⟨.ref p, mup M' p (.lst (bs.map AV.ref)), ⟨fun _ => .inl rfl, fun q' o e => ?_, .inl ⟨rfl, fun p' z => by cases z; rw [zA]; exact fun z => nomatch z⟩⟩, q p _ bs (f.mup hp _) hp zA nd (fun b h => ⟨(hb b h).1.put (hbp b h) _, hbp b h, (hb b h).2⟩) (by omega)⟩
  by_cases c : q' = p
  ·rw [c, zA] at e
   cases e
   refine .inr fun r hr => ?_
   obtain ⟨b, hb', e2⟩ := List.mem_map.mp (show AV.ref r ∈ bs.map AV.ref from hr)
   cases e2
   rw [zR (hbp r hb')]
   exact (hb r hb').1.ne
  ·rw [zR c] at e
   rcases ho q' o e with z | z
   ·exact .inl z
   ·exact .inr fun r hr => absurd hr ((hb q' z).1.refs e r)
noncomputable def Q9 : ASp := fun xs M Q => ∃ (b : Addr) (N : Nat), xs = [.ref b, .d (.int 200)] /\ BxM M b N /\ N < 100000 /\ ∀ (r c : Nat) M', BxS M M' b (N + 4) -> 1 <= r -> 1 <= c -> r * c <= 200 -> r <= 200 -> c <= 200 -> Q (.d (.tup [.int r, .int c])) M'
noncomputable abbrev YB : Stmt := top 41
theorem YC : zt ["_law_box_here", "_law_most", "_law_rows"] ["_law_box_here", "_law_most"] (zf YB) := ⟨rfl, rfl, rfl, by decide +kernel, rfl, by decide +kernel, by decide +kernel⟩
theorem Dc (a : At K mg "_law_table_sizes" YB) (B : Blt mg) (D_law_take : Df P w K mg base "_law_take" ["_law_box_here", "_law_many"] 1 (cSp Jd)) : Df P w K mg base "_law_table_sizes" ["_law_box_here", "_law_most"] 2 (cSp Q9) := by
 refine dfA (k := 1) a YC (fun _ _ _ _ _ _ us hl => match us, hl with | [_, _], _ => rfl) (fun xs M Q h => ?_) (fun f cdv A outer s H E hr => ?_)
 ·obtain ⟨_, _, rfl, _⟩ := h; rfl
 have sc := YC
 have hsl := hsl
 refine ⟨_, (zc (qx (zE (qp hr.units) (zq D_law_take hr rfl (za (pv 0) (za zd zb))) zd (zz _)) (zc (zx (i := 2) sc.nd rfl (by first | exact Or.inl rfl | exact Or.inr rfl) (zo zQ zd (zq D_law_take hr rfl (za (pv 0) (za (zV kn (qv (za zd (za (pv 1) zb))) (zq D_law_take hr rfl (za (pv 0) (za zd zb))) (fun _ _ => rfl)) zb)))))
  (ze (zu (jF (za (pv 2) (za (zo zQ zd (zq D_law_take hr rfl (za (pv 0) (za (zo j6 (pv 1) (pv 2)) zb)))) zb)))))) zN)
  (ze (zu (jF (za (zo zQ zd (zq D_law_take hr rfl (za (pv 0) (za zd zb)))) (za (zo zQ zd (zq D_law_take hr rfl (za (pv 0) (za zd zb)))) zb)))))), ?_⟩
 refine ex2 (by walk_at "sim") ?_
 rintro xs M Q ⟨b, N, rfl, hb, hN, q⟩
 rw [show zI ["_law_box_here", "_law_most", "_law_rows"] [.ref b, .d (.int 200)] = [some (.ref b), some (.d (.int 200)), none] from rfl]
 refine zn fun r hr0 => ?_
 walk_at "ra"
 have sb := SB.refl hb
 refine ⟨b, 6, N, rfl, hb, by omega, by omega, by omega, fun c1 M1 s1 c10 c11 => ⟨_, rfl, by rw [qW]; omega, ?_⟩⟩
 have sb := sb.go s1
 rw [xf]
 by_cases c : c1 = 0
 ·rw [if_pos (decide_eq_true c)]
  refine ⟨by omega, b, 2, _, rfl, sb.bx, by omega, by omega, by omega, fun c2 M2 s2 c20 c21 => ⟨c2, rfl, ?_⟩⟩
  have sb := sb.go s2
  obtain ⟨t, ht, ht1, ht2⟩ : ∃ t : Int, atI [AV.d (Dat.int 20), AV.d (Dat.int 200)] c2 = some (.d (.int t)) /\ 20 <= t /\ t <= 200 := by
   obtain ⟨d, hd, e⟩ := Ef (l := [Dat.int 20, Dat.int 200]) c20 c21
   simp only [List.mem_cons, List.not_mem_nil, or_false] at hd
   rcases hd with rfl | rfl
   ·exact ⟨20, e, by omega, by omega⟩
   ·exact ⟨200, e, by omega, by omega⟩
  refine ⟨_, ht, b, t, _, rfl, sb.bx, by omega, by omega, by omega, fun c3 M3 s3 c30 c31 => ?_⟩
  have sb := sb.go s3
  obtain ⟨k, rfl⟩ : ∃ k : Nat, c3 = k := ⟨c3.toNat, by omega⟩
  have e0 : (200 : Int) / (1 + (k : Int)) = ((200 / (1 + k) : Nat) : Int) := by push_cast; rfl
  have h1 : 1 <= 200 / (1 + k) := Nat.div_pos (by omega) (by omega)
  have h2 : 200 / (1 + k) <= 200 := Nat.div_le_self _ _
  refine ⟨_, rfl, kE (by omega) (by omega), b, _, _, rfl, sb.bx, by omega, by rw [e0]; omega, by rw [e0]; omega, fun c4 M4 s4 c40 c41 => ⟨_, rfl, by omega, ?_⟩⟩
  rw [e0] at c41
  have sb := sb.go s4
  obtain ⟨j, rfl⟩ : ∃ j : Nat, c4 = j := ⟨c4.toNat, by omega⟩
  have h3 : (1 + k) * (1 + j) <= 200 := Nat.le_trans (Nat.mul_le_mul_left _ (show 1 + j <= 200 / (1 + k) by omega)) (Nat.mul_div_le _ _)
  refine sb.rt fun M' t' => ?_
  rw [show (1 : Int) + (k : Int) = ((1 + k : Nat) : Int) by omega, show (1 : Int) + (j : Int) = ((1 + j : Nat) : Int) by omega]
  exact q (1 + k) (1 + j) M' t' (by omega) (by omega) h3 (by omega) (by omega)
 ·rw [if_neg (by simp [c])]
  subst hr0
  walk_at "ra"
  refine ⟨b, 7, _, rfl, sb.bx, by omega, by omega, by omega, fun c2 M2 s2 c20 c21 => ⟨_, rfl, b, 7, _, rfl, s2.1, by omega, by omega, by omega, fun c3 M3 s3 c30 c31 => ⟨_, rfl, by omega, ?_⟩⟩⟩
  have sb := (sb.go s2).go s3
  obtain ⟨k, rfl⟩ : ∃ k : Nat, c2 = k := ⟨c2.toNat, by omega⟩
  obtain ⟨j, rfl⟩ : ∃ k : Nat, c3 = k := ⟨c3.toNat, by omega⟩
  have h3 : (1 + k) * (1 + j) <= 7 * 7 := Nat.mul_le_mul (by omega) (by omega)
  refine (sb.mono (show N + 1 + 1 + 1 <= N + 4 by omega)).rt fun M' t' => ?_
  rw [show (1 : Int) + (k : Int) = ((1 + k : Nat) : Int) by omega, show (1 : Int) + (j : Int) = ((1 + j : Nat) : Int) by omega]
  exact q (1 + k) (1 + j) M' t' (by omega) (by omega) (by omega) (by omega) (by omega)
noncomputable def Jc : ASp := fun xs M Q => ∃ (b : Addr) (N : Nat), xs = [.ref b] /\ BxM M b N /\ N < 100000 /\ ∀ (m : Nat) M', BxS M M' b (N + 4) -> m <= 100 -> Q (.d (.int m)) M'
noncomputable abbrev xU : Stmt := top 43
theorem y8 : zt ["_law_box_here"] ["_law_box_here"] (zf xU) := ⟨rfl, rfl, rfl, by decide +kernel, rfl, by decide +kernel, by decide +kernel⟩
theorem JI (a : At K mg "_law_halves" xU) (B : Blt mg) (D_law_take : Df P w K mg base "_law_take" ["_law_box_here", "_law_many"] 1 (cSp Jd)) : Df P w K mg base "_law_halves" ["_law_box_here"] 2 (cSp Jc) := by
 refine dfA (k := 1) a y8 (fun _ _ _ _ _ _ us hl => match us, hl with | [_], _ => rfl) (fun xs M Q h => ?_) (fun f cdv A outer s H E hr => ?_)
 ·obtain ⟨_, _, rfl, _⟩ := h; rfl
 have sc := y8
 have hsl := hsl
 refine ⟨_, (zc (qx (zE (qp hr.units) (zq D_law_take hr rfl (za (pv 0) (za zd zb))) zd (zz _)) (ze (zu (zo kr zd (zq D_law_take hr rfl (za (pv 0) (za zd zb)))))) zN)
  (ze (zu (zV kn (qv (za (zq D_law_take hr rfl (za (pv 0) (za zd zb))) (za (zo zQ zd (zq D_law_take hr rfl (za (pv 0) (za zd zb)))) zb))) (ql kc rfl B.int yt (za (qf (qp hr.units) (zq D_law_take hr rfl (za (pv 0) (za zd zb))) zd (zz _)) zb)) (fun _ _ => rfl))))), ?_⟩
 refine ex2 (by walk_at "sim") ?_
 rintro xs M Q ⟨b, N, rfl, hb, hN, q⟩
 rw [show zI ["_law_box_here"] [.ref b] = [some (.ref b)] from rfl]
 refine zn fun r hr0 => ?_
 walk_at "ra"
 have sb := SB.refl hb
 refine ⟨b, 12, N, rfl, hb, by omega, by omega, by omega, fun c1 M1 s1 c10 c11 => ⟨_, rfl, by rw [qW]; omega, ?_⟩⟩
 have sb := sb.go s1
 rw [xf]
 by_cases c : c1 = 0
 ·rw [if_pos (decide_eq_true c)]
  refine ⟨b, 60, _, rfl, sb.bx, by omega, by omega, by omega, fun c2 M2 s2 c20 c21 => ?_⟩
  have sb := sb.go s2
  refine ⟨_, rfl, (sb.mono (show N + 1 + 1 <= N + 4 by omega)).rt fun M' t' => ?_⟩
  rw [show (100 : Int) - c2 = ((100 - c2.toNat : Nat) : Int) by omega]
  exact q _ M' t' (by omega)
 ·rw [if_neg (by simp [c])]
  subst hr0
  walk_at "ra"
  refine ⟨b, 8, _, rfl, sb.bx, by omega, by omega, by omega, fun c2 M2 s2 c20 c21 => ⟨b, 33, _, rfl, s2.1, by omega, by omega, by omega, fun c3 M3 s3 c30 c31 => ⟨_, rfl, by omega, _, rfl, b, 5, _, rfl, s3.1, by omega, by omega, by omega, fun c4 M4 s4 c40 c41 => ?_⟩⟩⟩
  have sb := ((sb.go s2).go s3).go s4
  refine ⟨_, rfl, by rw [qW]; omega, ?_⟩
  obtain ⟨t, ht, ht1⟩ : ∃ t : Nat, atI (List.map AV.d [Dat.int c2, Dat.int (8 + c3)]) (if eqD (Dat.int c4) (Dat.int 0) = true then 1 else 0) = some (.d (.int t)) /\ t <= 100 := by
   split
   ·exact ⟨(8 + c3).toNat, by rw [show (((8 + c3).toNat : Nat) : Int) = 8 + c3 by omega]; rfl, by omega⟩
   ·exact ⟨c2.toNat, by rw [show ((c2.toNat : Nat) : Int) = c2 by omega]; rfl, by omega⟩
  exact ⟨_, ht, sb.rt fun M' t' => q t M' t' ht1⟩
theorem xB {n : Nat} {os : List Int} (h : zl n os) {r : List Int} (hr : r ∈ zg os n) : 2 <= r.length /\ r.length <= n := by
 obtain ⟨k, hk, hL, hp, rfl⟩ := wa hr
 obtain ⟨m, hm, hmn⟩ := qX h (p := (k : Int)) (by omega) (by omega)
 unfold zB
 rw [zP, hm.per] at *
 omega
noncomputable def ye : ASp := fun xs M Q => ∃ (x : AV) (n : Nat) (os : List Int), xs = [x] /\ qD x M = some (os.map fun i => .d (.int i)) /\ zl n os /\ n <= 1000 /\ Q (.d (.int (qE (zg os n) : Nat))) M
noncomputable abbrev kU : Stmt := top 14
theorem xM : zt ["order", "turns", "ring"] ["order"] (zf kU) := ⟨rfl, rfl, rfl, by decide +kernel, rfl, by decide +kernel, by decide +kernel⟩
theorem Qi (a : At K mg "turns_of" kU) (B : Blt mg) (D_rings : Df P w K mg base "rings" ["order"] 3 (cSp kY)) (D_common_divisor : Df P w K mg base "common_divisor" ["one", "other"] 3 (cSp AJ)) : Df P w K mg base "turns_of" ["order"] 4 (cSp ye) := by
 refine dfA (k := 3) a xM (fun _ _ _ _ _ _ us hl => match us, hl with | [_], _ => rfl) (fun xs M Q h => ?_) (fun f cdv A outer s H E hr => ?_)
 ·obtain ⟨_, _, _, rfl, _⟩ := h; rfl
 have sc := xM
 have hsl := hsl
 refine ⟨_, (zc (zx (i := 1) sc.nd rfl (by first | exact Or.inl rfl | exact Or.inr rfl) zd)
  (zc (jG PassesOwn.never rfl (kM (zq D_rings hr rfl (za (pv 0) zb))) (zy (i := 2) sc.nd rfl (by first | exact Or.inl rfl | exact Or.inr rfl)) (ze (zx (i := 1) sc.nd rfl (by first | exact Or.inl rfl | exact Or.inr rfl) (zo qb (zo j6 (pv 1) (zq D_common_divisor hr rfl (za (pv 1) (za (zj zk rfl B.len zK (za (pv 2) zb)) zb)))) (zj zk rfl B.len zK (za (pv 2) zb))))))
  (ze (zu (pv 1))))), ?_⟩
 refine ex2 (by walk_at "sim") ?_
 rintro xs M Q ⟨x, n, os, rfl, hx, ho, hn, q⟩
 rw [show zI ["order", "turns", "ring"] [x] = [some x, none, none] from rfl]
 refine zn fun r hr0 => ?_
 walk_at "ra"
 subst hr0
 refine zn fun r hr0 => ?_
 walk_at "ra"
 refine ⟨x, n, os, rfl, hx, ho, hn, _, rfl, ?_⟩
 have lr := qj os n
 refine ⟨fun i ρ M' => M = M' /\ ∃ u, ρ = [some x, some (.d (.int (qE ((zg os n).take i) : Nat))), u], ⟨rfl, _, rfl⟩, ?_, ?_⟩
 ·rintro i y ρ M' hy ⟨rfl, u, rfl⟩
  rw [List.map_map, List.getElem?_map] at hy
  cases e : (zg os n)[i]? with
  | none => rw [e] at hy; cases hy
  | some rg =>
   rw [e] at hy
   cases hy
   obtain ⟨b1, b2⟩ := xB ho (List.mem_of_getElem? e)
   have st : qE ((zg os n).take (i + 1)) = kD (qE ((zg os n).take i)) rg.length := by
    rw [List.take_succ, e]
    show qE (_ ++ [rg]) = _
    unfold qE
    rw [List.foldl_append]; rfl
   have sr : qD ((AV.d ∘ ilD) rg) M = some (rg.map fun i => .d (.int i)) := by rw [<- jf]; rfl
   have gp : 0 < Nat.gcd (qE ((zg os n).take i)) rg.length := Nat.gcd_pos_of_pos_right _ (by omega)
   have gl : Nat.gcd (qE ((zg os n).take i)) rg.length <= rg.length := Nat.gcd_le_right _ (by omega)
   refine ⟨rfl, ?_⟩
   show jl _ _ _ _ _
   walk_at "ra"
   refine ⟨_, sr, _, rg.length, by rw [List.length_map], _, rfl, kE (by omega) (by omega), _, sr, ku (by omega) (by rw [List.length_map]; omega), ?_⟩
   rw [st, List.length_map]
   unfold kD
   push_cast
   exact ⟨rfl, rfl, _, rfl⟩
 ·rintro ρ M' ⟨rfl, u, rfl⟩
  subst hr0
  walk_at "ra"
  rw [List.take_length]
  exact jo Fr.refl q
noncomputable def Y3 : ASp := fun xs M Q => ∃ (x : AV) (n : Nat) (os : List Int), xs = [x] /\ qD x M = some (os.map fun i => .d (.int i)) /\ os.length = n /\ n <= 1000 /\ Q (.d (.int (kR os n : Nat))) M
noncomputable abbrev XU : Stmt := top 8
theorem Xp : zt ["order", "place", "goal"] ["order"] (zf XU) := ⟨rfl, rfl, rfl, by decide +kernel, rfl, by decide +kernel, by decide +kernel⟩
theorem W9 (a : At K mg "off" XU) (B : Blt mg) : Df P w K mg base "off" ["order"] 1 (cSp Y3) := by
 refine dfA (k := 0) a Xp (fun _ _ _ _ _ _ us hl => match us, hl with | [_], _ => rfl) (fun xs M Q h => ?_) (fun f cdv A outer s H E hr => ?_)
 ·obtain ⟨_, _, _, rfl, _⟩ := h; rfl
 have sc := Xp
 have hsl := hsl
 refine ⟨_, (ze (zu (zj zk rfl B.len zK (za (qJ (ts := [1, 2]) rfl rfl (xn rfl B.enumerate (za (pv 0) zb)) (fun _ _ _ _ => (ja (K := K) 2 rfl rfl (zO (zy (i := 1) sc.nd rfl (by first | exact Or.inl rfl | exact Or.inr rfl)) (zO (zy (i := 2) sc.nd rfl (by first | exact Or.inl rfl | exact Or.inr rfl)) jg)))) (fun _ _ _ _ => Qy (zE (qV hr.units) (pv 1) (pv 2) (zz _))) (fun _ _ _ _ => (pv 1))) zb)))), ?_⟩
 refine ex2 (by walk_at "sim") ?_
 rintro xs M Q ⟨x, n, os, rfl, hx, ho, hn, q⟩
 rw [show zI ["order", "place", "goal"] [x] = [some x, none, none] from rfl]
 walk_at "ra"
 refine ⟨_, hx, _, zM _, ?_⟩
 refine ⟨fun i acc ρ M' => M = M' /\ (∃ ks : List Int, acc = ks.map (fun k => AV.d (.int k)) /\ ks.length = kR os i) /\ ∃ u v, ρ = [some x, u, v], ⟨rfl, ⟨[], rfl, rfl⟩, _, _, rfl⟩, ?_, ?_⟩
 ·rintro i y acc ρ M' hy ⟨rfl, ⟨ks, rfl, lk⟩, u, v, rfl⟩
  refine ⟨hx, ?_⟩
  obtain ⟨d, hd, rfl⟩ := j7 hy
  rw [List.getElem?_map] at hd
  cases e : os[i]? with
  | none => rw [e] at hd; cases hd
  | some k =>
   rw [e] at hd
   cases hd
   have hk : os.getD i 0 = k := by rw [List.getD_eq_getElem?_getD, e]; rfl
   have st : kR os (i + 1) = kR os i + if k = (i : Int) then 0 else 1 := by
    unfold kR
    rw [List.range_succ, List.filter_append, List.length_append]
    congr 1
    simp only [List.filter_cons, List.filter_nil, hk]
    by_cases c : k = (i : Int)
    ·simp [c]
    ·simp [c]
   have hi := (List.getElem?_eq_some_iff.mp e).1
   have le : kR os i <= i := by have := List.length_filter_le (fun (i : Nat) => !decide (os.getD i 0 = (i : Int))) (List.range i); rw [List.length_range] at this; exact this
   walk_at "ra"
   by_cases c : k = (i : Int)
   ·rw [if_pos c] at st
    rw [if_neg (not_not_intro c.symm)]
    exact ⟨⟨ks, rfl, by omega⟩, _, rfl⟩
   ·rw [if_neg c] at st
    rw [if_pos (fun z => c z.symm)]
    exact ⟨Nat.lt_of_lt_of_le (show ks.length < 1001 by omega) (by decide), ⟨ks ++ [(i : Int)], by rw [List.map_append]; rfl, by rw [List.length_append]; show _ + 1 = _; omega⟩, _, rfl⟩
 ·rintro acc ρ M' ⟨rfl, ⟨ks, rfl, lk⟩, u, v, rfl⟩
  refine ⟨hx, _, zM _, ?_⟩
  rw [List.length_map, lk, jv, List.length_map, ho]
  exact jo Fr.refl q
noncomputable def WG : ASp := fun xs M Q => ∃ (x : AV) (n : Nat) (os : List Int), xs = [x] /\ qD x M = some (os.map fun i => .d (.int i)) /\ zl n os /\ n <= 1000 /\ Q (.d (.int (kR os n + (zg os n).length))) M
noncomputable abbrev Z3 : Stmt := top 22
theorem QR : zt ["order"] ["order"] (zf Z3) := ⟨rfl, rfl, rfl, by decide +kernel, rfl, by decide +kernel, by decide +kernel⟩
theorem VB (a : At K mg "fewest_moves" Z3) (B : Blt mg) (D_off : Df P w K mg base "off" ["order"] 3 (cSp Y3)) (D_rings : Df P w K mg base "rings" ["order"] 3 (cSp kY)) : Df P w K mg base "fewest_moves" ["order"] 4 (cSp WG) := by
 refine dfA (k := 3) a QR (fun _ _ _ _ _ _ us hl => match us, hl with | [_], _ => rfl) (fun xs M Q h => ?_) (fun f cdv A outer s H E hr => ?_)
 ·obtain ⟨_, _, _, rfl, _⟩ := h; rfl
 have sc := QR
 have hsl := hsl
 refine ⟨_, (ze (zu (zo zQ (zq D_off hr rfl (za (pv 0) zb)) (zj zk rfl B.len zK (za (zq D_rings hr rfl (za (pv 0) zb)) zb))))), ?_⟩
 refine ex2 (by walk_at "sim") ?_
 rintro xs M Q ⟨x, n, os, rfl, hx, ho, hn, q⟩
 rw [show zI ["order"] [x] = [some x] from rfl]
 walk_at "ra"
 refine ⟨x, n, os, rfl, hx, ho.1, hn, x, n, os, rfl, hx, ho, hn, _, rfl, _, rfl, ?_⟩
 rw [List.length_map, List.length_map]
 exact jo Fr.refl q
noncomputable def WE : ASp := fun xs M Q => ∃ (x : AV) (n : Nat) (os : List Int), xs = [x] /\ qD x M = some (os.map fun i => .d (.int i)) /\ zl n os /\ n <= 1000 /\ Q (.d (.int ((kR os n : Nat) - ((zg os n).length : Nat)))) M
noncomputable abbrev ZK : Stmt := top 23
theorem QW : zt ["order"] ["order"] (zf ZK) := ⟨rfl, rfl, rfl, by decide +kernel, rfl, by decide +kernel, by decide +kernel⟩
theorem VO (a : At K mg "fewest_swaps" ZK) (B : Blt mg) (D_off : Df P w K mg base "off" ["order"] 3 (cSp Y3)) (D_rings : Df P w K mg base "rings" ["order"] 3 (cSp kY)) : Df P w K mg base "fewest_swaps" ["order"] 4 (cSp WE) := by
 refine dfA (k := 3) a QW (fun _ _ _ _ _ _ us hl => match us, hl with | [_], _ => rfl) (fun xs M Q h => ?_) (fun f cdv A outer s H E hr => ?_)
 ·obtain ⟨_, _, _, rfl, _⟩ := h; rfl
 have sc := QW
 have hsl := hsl
 refine ⟨_, (ze (zu (zo kr (zq D_off hr rfl (za (pv 0) zb)) (zj zk rfl B.len zK (za (zq D_rings hr rfl (za (pv 0) zb)) zb))))), ?_⟩
 refine ex2 (by walk_at "sim") ?_
 rintro xs M Q ⟨x, n, os, rfl, hx, ho, hn, q⟩
 rw [show zI ["order"] [x] = [some x] from rfl]
 walk_at "ra"
 refine ⟨x, n, os, rfl, hx, ho.1, hn, x, n, os, rfl, hx, ho, hn, _, rfl, _, rfl, ?_⟩
 rw [List.length_map, List.length_map]
 exact jo Fr.refl q
theorem wy (r c : Nat) : (qL r c).length = r * c := by unfold qL; simp
noncomputable def XD : ASp := fun xs M Q => ∃ (r c : Nat), xs = [.d (.int r), .d (.int c)] /\ r <= 1000 /\ c <= 1000 /\ r * c <= 1000 /\ zl (r * c) (qL r c) /\ Q (.d (.int ((zg (qL r c) (r * c)).length : Nat))) M
noncomputable abbrev vF : Stmt := top 31
theorem Zc : zt ["rows", "columns"] ["rows", "columns"] (zf vF) := ⟨rfl, rfl, rfl, by decide +kernel, rfl, by decide +kernel, by decide +kernel⟩
theorem K8 (a : At K mg "turn_rings" vF) (B : Blt mg) (D_leaders : Df P w K mg base "leaders" ["order"] 3 (cSp xR)) (D_turn_order : Df P w K mg base "turn_order" ["rows", "columns"] 3 (cSp X4)) : Df P w K mg base "turn_rings" ["rows", "columns"] 4 (cSp XD) := by
 refine dfA (k := 3) a Zc (fun _ _ _ _ _ _ us hl => match us, hl with | [_, _], _ => rfl) (fun xs M Q h => ?_) (fun f cdv A outer s H E hr => ?_)
 ·obtain ⟨_, _, rfl, _⟩ := h; rfl
 have sc := Zc
 have hsl := hsl
 refine ⟨_, (ze (zu (zj zk rfl B.len zK (za (zq D_leaders hr rfl (za (zq D_turn_order hr rfl (za (pv 0) (za (pv 1) zb))) zb)) zb)))), ?_⟩
 refine ex2 (by walk_at "sim") ?_
 rintro xs M Q ⟨r, c, rfl, h1, h2, h3, ho, q⟩
 rw [show zI ["rows", "columns"] [.d (.int r), .d (.int c)] = [some (.d (.int r)), some (.d (.int c))] from rfl]
 walk_at "ra"
 refine ⟨r, c, rfl, by omega, by omega, by omega, _, _, _, rfl, by rw [<- jf]; rfl, ho, h3, _, rfl, ?_⟩
 rw [List.length_map, List.length_map, show (yI (qL r c) (r * c)).length = (zg (qL r c) (r * c)).length from List.length_map _]
 exact jo Fr.refl q
noncomputable def Js : ASp := fun xs M Q => ∃ (m f : Nat), xs = [.d (.int m), .d (.int f)] /\ m <= 400 /\ f <= 1 /\ Q (.d (.int (qE (zg (zW m f) (2 * m)) : Nat))) M
noncomputable abbrev yu : Stmt := top 34
theorem vo : zt ["many", "first", "by", "turns", "rest"] ["many", "first"] (zf yu) := ⟨rfl, rfl, rfl, by decide +kernel, rfl, by decide +kernel, by decide +kernel⟩
theorem JG (a : At K mg "weave_turns" yu) (B : Blt mg) : Df P w K mg base "weave_turns" ["many", "first"] 1 (cSp Js) := by
 refine dfA (k := 0) a vo (fun _ _ _ _ _ _ us hl => match us, hl with | [_, _], _ => rfl) (fun xs M Q h => ?_) (fun f cdv A outer s H E hr => ?_)
 ·obtain ⟨_, _, rfl, _⟩ := h; rfl
 have sc := vo
 have hsl := hsl
 refine ⟨_, (zc (zx (i := 2) sc.nd rfl (by first | exact Or.inl rfl | exact Or.inr rfl) (wG (zE (qp hr.units) (pv 1) zd (zz _)) (zo zQ (zo qb zd (pv 0)) zd) (zo kr (zo qb zd (pv 0)) zd)))
  (zc (qx (zE Dl (pv 2) zd (zz _)) (ze (zu zd)) zN)
  (zc (zx (i := 3) sc.nd rfl (by first | exact Or.inl rfl | exact Or.inr rfl) zd)
  (zc (zx (i := 4) sc.nd rfl (by first | exact Or.inl rfl | exact Or.inr rfl) zd)
  (zc (qY PassesOwn.never (zE (qV hr.units) (pv 4) zd (zz _)) (zc (zx (i := 4) sc.nd rfl (by first | exact Or.inl rfl | exact Or.inr rfl) (zo qc (zo qb (pv 4) zd) (pv 2)))
  (ze (Qh (i := 3) sc.nd rfl (by first | exact Or.inl rfl | exact Or.inr rfl) zd Kz))))
  (ze (zu (pv 3)))))))), ?_⟩
 refine ex2 (by walk_at "sim") ?_
 rintro xs M Q ⟨m, f, rfl, hm, hf, q⟩
 rw [show zI ["many", "first", "by", "turns", "rest"] [.d (.int m), .d (.int f)] = [some (.d (.int m)), some (.d (.int f)), none, none, none] from rfl]
 refine zn fun r hr0 => ?_
 walk_at "ra"
 have key : ∀ b : Int, b = (byW m f : Nat) \/ (b <= 1 /\ byW m f <= 1) -> r M { nx := fun x M' => rtA M Q (AV.d Dat.non) M', rt := rtA M Q } [some (AV.d (Dat.int m)), some (AV.d (Dat.int f)), some (AV.d (Dat.int b)), none, none] M := by
  intro b hb
  subst hr0
  refine zn fun r hr0 => ?_
  walk_at "ra"
  by_cases c : b <= 1
  ·rw [if_pos c]
   rw [Zp hf (by omega)] at q
   exact jo Fr.refl q
  ·rw [if_neg c]
   have e : b = (byW m f : Nat) := by omega
   subst e
   have hB : 1 < byW m f := by omega
   have h3 : 3 <= byW m f := by unfold byW at *; split <;> split at hB <;> omega
   have hs := Zl hf hB
   have hL := (hs _).mp (kd (ju hf))
   have L1 := kQ (ju (m := m) hf)
   have li := fun t => Xj (ju (m := m) hf) (t := t)
   generalize qE (zg (zW m f) (2 * m)) = L at *
   generalize byW m f = B at *
   subst hr0
   refine zn fun r hr0 => ?_
   walk_at "ra"
   subst hr0
   refine zn fun r hr0 => ?_
   walk_at "ra"
   subst hr0
   refine zn fun r hr0 => ?_
   show kN _ _ _ _ _ _
   unfold kN
   refine ⟨fun k ρ M' => M = M' /\ ∃ t : Nat, ρ = [some (.d (.int m)), some (.d (.int f)), some (.d (.int B)), some (.d (.int t)), some (.d (.int (2 ^ t % B : Nat)))] /\ 1 <= t /\ t + k = L /\ ∀ j, 1 <= j -> 2 ^ j % B = 1 -> t <= j, ⟨L - 1, rfl, 1, by rw [show 2 ^ 1 % B = 2 from Nat.mod_eq_of_lt (by omega)]; rfl, by omega, by omega, fun j hj _ => hj⟩, ?_⟩
   rintro k ρ M' ⟨rfl, t, rfl, t1, tk, tj⟩
   walk_at "ra"
   by_cases c1 : 2 ^ t % B = 1
   ·rw [if_neg (not_not_intro (by omega))]
    subst hr0
    walk_at "ra"
    rw [<- li t t1 ((hs t).mpr c1) fun j j1 js => tj j j1 ((hs j).mp js)] at q
    exact jo Fr.refl q
   ·rw [if_pos (by omega)]
    have k0 : k ≠ 0 := fun z => c1 (by rw [show t = L by omega]; exact hL)
    refine ⟨ku (by omega) (by omega), by omega, k - 1, by omega, t + 1, by omega, ?_, by omega, by omega, fun j j1 js => ?_⟩
    ·have : 2 ^ (t + 1) % B = 2 ^ t % B * 2 % B := by rw [Nat.pow_succ, Nat.mod_mul_mod]
     rw [this]; push_cast; rfl
    ·have := tj j j1 js
     rcases Nat.lt_or_eq_of_le this with h | h
     ·exact h
     ·subst h; exact absurd js c1
 by_cases c : f = 1
 ·rw [if_pos (by omega)]
  exact ⟨xj (by omega) (by omega), key _ (.inl (by unfold byW; rw [if_pos c]; omega))⟩
 ·rw [if_neg (by omega)]
  refine ⟨xj (by omega) (by omega), key _ ?_⟩
  unfold byW; rw [if_neg c]; omega
noncomputable def Je : ASp := fun xs M Q => ∃ (a b : Nat), xs = [.d (.int a), .d (.int b)] /\ Q (.d (.int (Nat.gcd a b : Nat))) M
noncomputable abbrev yq : Stmt := top 44
theorem yV : zt ["_law_one", "_law_other"] ["_law_one", "_law_other"] (zf yq) := ⟨rfl, rfl, rfl, by decide +kernel, rfl, by decide +kernel, by decide +kernel⟩
theorem Kk (a : At K mg "_law_shared" yq) (B : Blt mg) : Df P w K mg base "_law_shared" ["_law_one", "_law_other"] 1 (cSp Je) := by
 refine dfA (k := 0) a yV (fun _ _ _ _ _ _ us hl => match us, hl with | [_, _], _ => rfl) (fun xs M Q h => ?_) (fun f cdv A outer s H E hr => ?_)
 ·obtain ⟨_, _, rfl, _⟩ := h; rfl
 have sc := yV
 have hsl := hsl
 refine ⟨_, (zc (qY PassesOwn.never (zE yc (pv 1) zd (zz _)) (ze (Yh (i := 0) (j := 1) rfl sc.nd rfl rfl (by decide) rfl rfl (za (pv 1) (za (zo qc (pv 0) (pv 1)) zb)) rfl)))
  (ze (zu (pv 0)))), ?_⟩
 refine ex2 (by walk_at "sim") ?_
 rintro xs M Q ⟨a, b, rfl, q⟩
 rw [show zI ["_law_one", "_law_other"] [.d (.int a), .d (.int b)] = [some (.d (.int a)), some (.d (.int b))] from rfl]
 refine zn fun r hr0 => ?_
 show kN _ _ _ _ _ _
 unfold kN
 refine ⟨fun m ρ M' => M = M' /\ ∃ u : Nat, ρ = [some (.d (.int u)), some (.d (.int m))] /\ Nat.gcd u m = Nat.gcd a b, ⟨b, rfl, a, rfl, rfl⟩, ?_⟩
 rintro m ρ M' ⟨rfl, u, rfl, e⟩
 walk_at "ra"
 by_cases c : (0 : Int) < m
 ·rw [if_pos c]
  walk_at "ra"
  have ml := Nat.mod_lt u (show 0 < m by omega)
  refine ⟨c, u % m, ml, m, rfl, by rw [Int.natCast_emod], ?_⟩
  rw [<- e, Nat.gcd_comm u m, Nat.gcd_rec m u, Nat.gcd_comm]
 ·rw [if_neg c]
  have m0 : m = 0 := by omega
  subst m0
  subst hr0
  walk_at "ra"
  rw [Nat.gcd_zero_right] at e
  rw [e]
  exact jo Fr.refl q
theorem xv (os : List Int) : ∀ k, (ZV os k).filter (fun r => decide (1 < r.length)) = zg os k
 | 0 => rfl
 | k + 1 => by
  show (ZV os k ++ _).filter _ = zg os (k + 1)
  unfold zg
  rw [List.filter_append, xv os k]
  congr 1
  have hlen : (zB os (k : Int)).length = per os (k : Int) := by unfold zB; rw [zP]
  by_cases hL : kB os k
  ·rw [if_pos hL]
   by_cases hp : 1 < per os (k : Int)
   ·rw [if_pos ⟨hL, hp⟩, List.filter_cons_of_pos (by rw [hlen]; exact decide_eq_true hp), List.filter_nil]
   ·rw [if_neg (fun z => hp z.2), List.filter_cons_of_neg (by rw [hlen]; simp [hp]), List.filter_nil]
  ·rw [if_neg hL, if_neg (fun z => hL z.1), List.filter_nil]
theorem AB {n : Nat} {os : List Int} (h : zl n os) : ldL os n = yI os n := by
 rw [<- QD h n (Nat.le_refl _)]
 unfold hds yI
 rw [xv]
theorem Kc {n : Nat} {os : List Int} (ho : zl n os) (hn : n <= 1000) : jp 6 (.lst ((zg os n).map ilD)) := by
 have lr := qj os n
 refine (Zd (n := 1) (by rw [List.length_map]; omega) fun d hd => ?_).mono (by decide)
 obtain ⟨r, hr, rfl⟩ := List.mem_map.mp hd
 exact J1 (by have := (xB ho hr).2; omega)
theorem Zy {rs : List (List Int)} : ((rs.map ilD).map AV.d).map (fun x => match x with | .d (.lst l) => AV.d (.int l.length) | y => y) = (rs.map fun r => (r.length : Int)).map fun i => AV.d (.int i) := by
 rw [List.map_map, List.map_map, List.map_map]
 refine List.map_congr_left fun r hr => ?_
 show AV.d (.int ((r.map Dat.int).length : Nat)) = _
 rw [List.length_map]; rfl
theorem KG (rs : List (List Int)) : (rs.map fun r => (r.length : Int)).sum = (kO rs : Nat) := by
 induction rs with
 | nil => rfl
 | cons r rs ih => rw [List.map_cons, List.sum_cons, ih]; unfold kO; simp
noncomputable def J3 : AV -> AV := fun x => match x with | .d (.lst l) => AV.d (.int l.length) | y => y
noncomputable def aOR : ASp := fun xs M Q => ∃ (n : Nat) (os : List Int), xs = [.d (ilD os)] /\ zl n os /\ n <= 1000 /\ Q (.d (.bl true)) M
noncomputable abbrev xZ : Stmt := top 45
theorem vb : zt ["_law_order", "_law_due", "_law_often", "_law_ring", "_law_moving"] ["_law_order"] (zf xZ) := ⟨rfl, rfl, rfl, by decide +kernel, rfl, by decide +kernel, by decide +kernel⟩
theorem Kf (a : At K mg "_law_order_right" xZ) (B : Blt mg) (Bsum : mg "sum" = none) (D_law_rings : Df P w K mg base "_law_rings" ["_law_order"] 12 (cSp xE)) (D_law_alike : Df P w K mg base "_law_alike" ["_law_found", "_law_due"] 12 (cSp (yP 6))) (D_rings : Df P w K mg base "rings" ["order"] 12 (cSp kY)) (D_leaders : Df P w K mg base "leaders" ["order"] 12 (cSp xR)) (D_law_shared : Df P w K mg base "_law_shared" ["_law_one", "_law_other"] 12 (cSp Je)) (D_turns_of : Df P w K mg base "turns_of" ["order"] 12 (cSp ye)) (D_times : Df P w K mg base "times" ["order", "many"] 12 (cSp Xi)) (D_back_of : Df P w K mg base "back_of" ["order"] 12 (cSp KF)) (D_leaders_found : Df P w K mg base "leaders_found" ["order"] 12 (cSp QJ)) (D_off : Df P w K mg base "off" ["order"] 12 (cSp Y3)) (D_fewest_moves : Df P w K mg base "fewest_moves" ["order"] 12 (cSp WG)) (D_fewest_swaps : Df P w K mg base "fewest_swaps" ["order"] 12 (cSp WE)) : Df P w K mg base "_law_order_right" ["_law_order"] 13 (cSp aOR) := by
 refine dfA (k := 12) a vb (fun _ _ _ _ _ _ us hl => match us, hl with | [_], _ => rfl) (fun xs M Q h => ?_) (fun f cdv A outer s H E hr => ?_)
 ·obtain ⟨_, _, rfl, _⟩ := h; rfl
 have sc := vb
 have hsl := hsl
 refine ⟨_, (zc (zx (i := 1) sc.nd rfl (by first | exact Or.inl rfl | exact Or.inr rfl) (zq D_law_rings hr rfl (za (pv 0) zb)))
  (zc (qx (PW.pt (yg (ky (qZ (zq D_law_alike hr rfl (za (zq D_rings hr rfl (za (pv 0) zb)) (za (pv 1) zb))) (fun _ => rfl))) (kx (zE (qV hr.units) (zq D_leaders hr rfl (za (pv 0) zb)) (qJ (ts := [3]) rfl rfl (kM (pv 1)) (fun _ _ _ _ => (zy (i := 3) sc.nd rfl (by first | exact Or.inl rfl | exact Or.inr rfl))) (fun _ _ _ _ => qt) (fun _ _ _ _ => (zV (Qp (K := K) rfl) (pv 3) zd (fun _ _ => rfl)))) (zz _))))) (ze (zu jH)) zN)
  (zc (zx (i := 2) sc.nd rfl (by first | exact Or.inl rfl | exact Or.inr rfl) zd)
  (zc (jG PassesOwn.never rfl (kM (pv 1)) (zy (i := 3) sc.nd rfl (by first | exact Or.inl rfl | exact Or.inr rfl)) (ze (zx (i := 2) sc.nd rfl (by first | exact Or.inl rfl | exact Or.inr rfl) (zo qb (zo j6 (pv 2) (zq D_law_shared hr rfl (za (pv 2) (za (zj zk rfl B.len zK (za (pv 3) zb)) zb)))) (zj zk rfl B.len zK (za (pv 3) zb))))))
  (zc (qx (PW.pt (yg (ky (qZ (zq D_law_alike hr rfl (za (zq D_turns_of hr rfl (za (pv 0) zb)) (za (pv 2) zb))) (fun _ => rfl))) (kx (zE (qV hr.units) (zq D_times hr rfl (za (pv 0) (za (pv 2) zb))) (ql (ki rfl) rfl B.list jD (za (ql xu rfl B.range Zz (za (zj zk rfl B.len zK (za (pv 0) zb)) zb)) zb)) (zz _))))) (ze (zu jH)) zN)
  (zc (qx (PW.pt (yg (zE (qV hr.units) (zq D_times hr rfl (za (pv 0) (za (zo kr (pv 2) zd) zb))) (zq D_back_of hr rfl (za (pv 0) zb)) (zz _)) (kx (zE (qV hr.units) (zV kn (zq D_leaders_found hr rfl (za (pv 0) zb)) zd (fun _ _ => rfl)) (zq D_leaders hr rfl (za (pv 0) zb)) (zz _))))) (ze (zu jH)) zN)
  (zc (zx (i := 4) sc.nd rfl (by first | exact Or.inl rfl | exact Or.inr rfl) (zj (vm rfl) rfl Bsum Xy (za (qJ (ts := [3]) rfl rfl (kM (pv 1)) (fun _ _ _ _ => (zy (i := 3) sc.nd rfl (by first | exact Or.inl rfl | exact Or.inr rfl))) (fun _ _ _ _ => qt) (fun _ _ _ _ => (zj (kl (K := K) rfl) rfl B.len zK (za (pv 3) zb)))) zb)))
  (zc (qx (zE (qV hr.units) (zq D_off hr rfl (za (pv 0) zb)) (pv 4) (zz _)) (ze (zu jH)) zN)
  (ze (zu (qf (qp hr.units) (qv (za (zq D_fewest_moves hr rfl (za (pv 0) zb)) (za (zq D_fewest_swaps hr rfl (za (pv 0) zb)) zb))) (qv (za (zo zQ (pv 4) (zj zk rfl B.len zK (za (pv 1) zb))) (za (zo kr (pv 4) (zj zk rfl B.len zK (za (pv 1) zb))) zb))) (zz _)))))))))))), ?_⟩
 refine ex2 (by walk_at "sim") ?_
 rintro xs M Q ⟨n, os, rfl, ho, hn, q⟩
 rw [show zI ["_law_order", "_law_due", "_law_often", "_law_ring", "_law_moving"] [.d (ilD os)] = [some (.d (ilD os)), none, none, none, none] from rfl]
 have h1 := ho.1
 have so : ∀ M : MH, qD (.d (ilD os)) M = some (os.map fun i => .d (.int i)) := fun M => by rw [<- jf]; rfl
 have sd : wd (ilD os) = some (os.map .int) := rfl
 have lr := qj os n
 have lo := yd ho
 have ell := AB ho
 have fr := Kc ho hn
 refine zn fun r hr0 => ?_
 walk_at "ra"
 refine ⟨_, n, os, rfl, so M, ho, hn, ?_⟩
 subst hr0
 refine zn fun r hr0 => ?_
 walk_at "ra"
 refine ⟨_, n, os, rfl, so M, ho, hn, _, _, _, rfl, rfl, rfl, fr, by omega, _, rfl, ?_⟩
 rw [if_neg (by decide)]
 refine ⟨_, n, os, rfl, so M, ho, hn, ?_⟩
 refine xo (fun o => [some (.d (ilD os)), some (.d (.lst ((zg os n).map ilD))), none, o, none]) hdA ⟨_, rfl⟩ trivial (by rw [List.length_map, List.length_map]; omega) (fun o y Q hy q => ?_) fun o => ?_
 ·rw [List.map_map] at hy
  obtain ⟨r, hr, rfl⟩ := List.mem_map.mp hy
  have := qG ho (Nat.le_refl n) hr
  have h0 := yi (ns := r) (i := 0) (by omega) (by omega)
  rw [Int.toNat_zero] at h0
  show jl 3 (AV.d (ilD r)) _ _ _
  walk_at "ra"
  rw [h0]
  walk_at "ra"
  have q := q (some (.d (ilD r)))
  rw [show hdA ((AV.d ∘ ilD) r) = _ from ZQ (by omega)] at q
  exact q
 rw [xO ho, zM]
 refine ⟨_, rfl, _, rfl, qk _, qk _, ?_⟩
 rw [if_neg (by rw [show eqD (ilD (yI os n)) (Dat.lst ((yI os n).map .int)) = _ from jq _ _]; simp)]
 subst hr0
 refine zn fun r hr0 => ?_
 walk_at "ra"
 subst hr0
 refine zn fun r hr0 => ?_
 walk_at "ra"
 refine ⟨fun i ρ M' => M = M' /\ ∃ u, ρ = [some (.d (ilD os)), some (.d (.lst ((zg os n).map ilD))), some (.d (.int (qE ((zg os n).take i) : Nat))), u, none], ⟨rfl, _, rfl⟩, ?_, ?_⟩
 ·rintro i y ρ M' hy ⟨rfl, u, rfl⟩
  rw [List.map_map, List.getElem?_map] at hy
  cases e : (zg os n)[i]? with
  | none => rw [e] at hy; cases hy
  | some rg =>
   rw [e] at hy
   cases hy
   obtain ⟨b1, b2⟩ := xB ho (List.mem_of_getElem? e)
   have st : qE ((zg os n).take (i + 1)) = kD (qE ((zg os n).take i)) rg.length := by
    rw [List.take_succ, e]
    show qE (_ ++ [rg]) = _
    unfold qE
    rw [List.foldl_append]; rfl
   have sr : qD ((AV.d ∘ ilD) rg) M = some (rg.map fun i => .d (.int i)) := by rw [<- jf]; rfl
   have gp : 0 < Nat.gcd (qE ((zg os n).take i)) rg.length := Nat.gcd_pos_of_pos_right _ (by omega)
   have gl : Nat.gcd (qE ((zg os n).take i)) rg.length <= rg.length := Nat.gcd_le_right _ (by omega)
   refine ⟨trivial, ?_⟩
   show jl _ _ _ _ _
   walk_at "ra"
   refine ⟨_, sr, _, rg.length, by rw [List.length_map], _, rfl, kE (by omega) (by omega), _, sr, ku (by omega) (by rw [List.length_map]; omega), ?_⟩
   rw [st, List.length_map]
   unfold kD
   push_cast
   exact ⟨rfl, rfl, _, rfl⟩
 rintro ρ M' ⟨rfl, u, rfl⟩
 refine ⟨trivial, ?_⟩
 rw [List.length_map, List.length_map, List.take_length]
 clear o
 have L1 := kQ ho
 have ps := yS ho (kd ho)
 have pb := fun bs => Kx (bs := bs) ho
 generalize hL : qE (zg os n) = L at *
 subst hr0
 dsimp only
 refine zn fun r hr0 => ?_
 walk_at "ra"
 refine ⟨_, n, os, rfl, so M, ho, hn, _, _, _, rfl, rfl, by rw [hL]; rfl, wN 6 _, by omega, _, rfl, ?_⟩
 rw [if_neg (by decide)]
 refine ⟨_, n, os, _, _, rfl, sd, ho, hn, ⟨os, ho, fun _ => rfl, fun h => by omega, rfl⟩, _, _, _, rfl, small_one (by omega) (by omega) (by omega) (by omega), n, by rw [rangeSize_one]; split <;> omega, by omega, _, rfl, qk _, qk _, ?_⟩
 rw [show pwl n os (L : Int).natAbs = pwl n os L from rfl, ps, if_neg (by rw [show eqD (ilD (qq 0 1 n)) (Dat.lst ((qq 0 1 n).map .int)) = _ from jq _ _]; simp)]
 subst hr0
 refine zn fun r hr0 => ?_
 walk_at "ra"
 refine ⟨_, n, os, _, _, rfl, sd, ho, hn, ⟨os, ho, fun _ => rfl, fun h => by omega, rfl⟩, _, n, os, rfl, sd, ho, by omega, fun bs hb => ?_⟩
 rw [show ((L : Int) - 1).natAbs = L - 1 by omega, pb bs hb]
 walk_at "ra"
 refine ⟨qk _, qk _, ?_⟩
 rw [if_neg (by rw [show eqD (ilD bs) (ilD bs) = _ from jq _ _]; simp)]
 refine ⟨_, n, os, rfl, so M, ho, hn, ?_⟩
 refine ⟨_, rfl, _, rfl, _, n, os, rfl, so M, ho, hn, _, rfl, _, rfl, qk _, qk _, ?_⟩
 rw [ell, if_neg (by rw [show eqD (ilD (yI os n)) (ilD (yI os n)) = _ from jq _ _]; simp)]
 subst hr0
 refine zn fun r hr0 => ?_
 walk_at "ra"
 refine xo (fun o => [some (.d (ilD os)), some (.d (.lst ((zg os n).map ilD))), some (.d (.int L)), o, none]) J3 ⟨_, rfl⟩ trivial (by rw [List.length_map, List.length_map]; omega) (fun o y Q hy q => ?_) fun o => ?_
 ·rw [List.map_map] at hy
  obtain ⟨r, hr, rfl⟩ := List.mem_map.mp hy
  show jl 3 (AV.d (ilD r)) _ _ _
  walk_at "ra"
  have q := q (some (.d (ilD r)))
  rw [show J3 ((AV.d ∘ ilD) r) = AV.d (.int r.length) from by show AV.d (.int ((r.map Dat.int).length : Nat)) = _; rw [List.length_map]] at q
  exact q
 rw [show (((zg os n).map ilD).map AV.d).map J3 = _ from Zy, zM]
 refine ⟨_, rfl, _, jf _, fun x hx => ?_, by rw [List.length_map]; omega, ?_⟩
 ·obtain ⟨r, hr, rfl⟩ := List.mem_map.mp hx
  have := (xB ho hr).2
  omega
 rw [KG, lo]
 subst hr0
 refine zn fun r hr0 => ?_
 walk_at "ra"
 refine ⟨_, n, os, rfl, so M, h1, hn, _, rfl, by rw [qW]; omega, ?_⟩
 rw [if_neg (by rw [xf]; simp)]
 subst hr0
 walk_at "ra"
 refine ⟨_, n, os, rfl, so M, ho, hn, _, n, os, rfl, so M, ho, hn, by omega, _, rfl, by omega, qk [_, _], qk [_, _], ?_⟩
 rw [show ∀ a b : Int, eqD (Dat.lst [.int a, .int b]) (Dat.lst [.int a, .int b]) = true from fun a b => by rw [show eqD (Dat.lst [.int a, .int b]) (Dat.lst [.int a, .int b]) = _ from jq [a, b] [a, b]]; simp]
 exact jo Fr.refl q
theorem qI {r c i : Nat} (h : i < r * c) : (qL r c).getD i 0 = ((i % c * r + i / c : Nat) : Int) := by
 rw [zT (by rw [wy]; exact h)]; simp [qL]
theorem va {r c : Nat} (hr : 1 <= r) (hc : 1 <= c) : zl (r * c) (qL r c) := by
 have key : ∀ i : Nat, i < r * c -> i / c < r /\ i % c < c := fun i hi => ⟨by rw [Nat.div_lt_iff_lt_mul hc]; exact hi, Nat.mod_lt _ hc⟩
 refine qU (wy r c) (fun i hi => ?_) (fun i k hi hk e => ?_)
 ·obtain ⟨h1, h2⟩ := key i hi
  have : (i % c + 1) * r <= c * r := Nat.mul_le_mul_right r h2
  rw [Nat.succ_mul, Nat.mul_comm c r] at this
  rw [qI hi]
  exact ⟨Int.natCast_nonneg _, Int.ofNat_lt.mpr (by omega)⟩
 ·obtain ⟨h1, h2⟩ := key i hi
  obtain ⟨k1, k2⟩ := key k hk
  rw [qI hi, qI hk] at e
  have e' : i % c * r + i / c = k % c * r + k / c := by omega
  have d1 : (i % c * r + i / c) / r = i % c := by rw [Nat.add_comm, Nat.add_mul_div_right _ _ hr, Nat.div_eq_of_lt h1, Nat.zero_add]
  have d2 : (k % c * r + k / c) / r = k % c := by rw [Nat.add_comm, Nat.add_mul_div_right _ _ hr, Nat.div_eq_of_lt k1, Nat.zero_add]
  have m : i % c = k % c := by rw [<- d1, <- d2, e']
  have d : i / c = k / c := by rw [m] at e'; omega
  rw [<- Nat.div_add_mod i c, <- Nat.div_add_mod k c, m, d]
theorem Zj {M : Nat} : ∀ {rs : List (List Int)}, (∀ r ∈ rs, r.length = M) -> (rs.map fun r => (r.length : Int)) = List.replicate rs.length (M : Int)
 | [], _ => rfl
 | r :: rs, h => by rw [List.map_cons, Zj fun x hx => h x (by simp [hx]), h r (by simp)]; rfl
noncomputable def WV : ASp := fun xs M Q => ∃ (b : Addr) (N : Nat), xs = [.ref b] /\ BxM M b N /\ N < 100000 /\ ∀ M', BxS M M' b (N + 6) -> Q (.d (.bl true)) M'
noncomputable abbrev Z5 : Stmt := top 46
theorem Ji : zt ["_law_box_here", "_law_n", "_law_by", "_law_order", "_law_longs", "_law_many", "_law_long", "_law_ring"] ["_law_box_here"] (zf Z5) := ⟨rfl, rfl, rfl, by decide +kernel, rfl, by decide +kernel, by decide +kernel⟩
theorem Wt (a : At K mg "_law_rolled_right" Z5) (B : Blt mg) (D_law_take : Df P w K mg base "_law_take" ["_law_box_here", "_law_many"] 18 (cSp Jd)) (D_roll_order : Df P w K mg base "roll_order" ["n", "k"] 18 (cSp WR)) (D_law_rings : Df P w K mg base "_law_rings" ["_law_order"] 18 (cSp xE)) (D_roll_rings : Df P w K mg base "roll_rings" ["n", "k"] 18 (cSp Yk)) (D_law_order_right : Df P w K mg base "_law_order_right" ["_law_order"] 18 (cSp aOR)) : Df P w K mg base "_law_rolled_right" ["_law_box_here"] 19 (cSp WV) := by
 refine dfA (k := 18) a Ji (fun _ _ _ _ _ _ us hl => match us, hl with | [_], _ => rfl) (fun xs M Q h => ?_) (fun f cdv A outer s H E hr => ?_)
 ·obtain ⟨_, _, rfl, _⟩ := h; rfl
 have sc := Ji
 have hsl := hsl
 refine ⟨_, (zc (zx (i := 1) sc.nd rfl (by first | exact Or.inl rfl | exact Or.inr rfl) (zV kn (qv (za (zq D_law_take hr rfl (za (pv 0) (za zd zb))) (za (zq D_law_take hr rfl (za (pv 0) (za zd zb))) zb))) (ql kc rfl B.int yt (za (qf (qp hr.units) (zq D_law_take hr rfl (za (pv 0) (za zd zb))) zd (zz _)) zb)) (fun _ _ => rfl)))
  (zc (zx (i := 2) sc.nd rfl (by first | exact Or.inl rfl | exact Or.inr rfl) (zV kn (qv (za (zo kr (zq D_law_take hr rfl (za (pv 0) (za (zo zQ (zo qb zd (pv 1)) zd) zb))) (pv 1)) (za (zq D_law_take hr rfl (za (pv 0) (za (zo YJ zd zd) zb))) zb))) (ql kc rfl B.int yt (za (qf (qp hr.units) (zq D_law_take hr rfl (za (pv 0) (za zd zb))) zd (zz _)) zb)) (fun _ _ => rfl)))
  (zc (zx (i := 3) sc.nd rfl (by first | exact Or.inl rfl | exact Or.inr rfl) (zq D_roll_order hr rfl (za (pv 1) (za (pv 2) zb))))
  (zc (xL (j := 4) rfl sc.nd rfl (by first | exact Or.inl rfl | exact Or.inr rfl) (ts := [7]) rfl (kM (zq D_law_rings hr rfl (za (pv 3) zb))) (fun _ _ _ _ => (zy (i := 7) sc.nd rfl (by first | exact Or.inl rfl | exact Or.inr rfl))) (fun _ _ _ _ => qt) (fun _ _ _ _ => (zj (kl (K := K) rfl) rfl B.len zK (za (pv 7) zb))))
  (zc (jP (zq D_roll_rings hr rfl (za (pv 1) (za (pv 2) zb))) (ja (K := K) 2 rfl rfl (zO (zy (i := 5) sc.nd rfl (by first | exact Or.inl rfl | exact Or.inr rfl)) (zO (zy (i := 6) sc.nd rfl (by first | exact Or.inl rfl | exact Or.inr rfl)) jg))))
  (ze (zu (yy (qf (qp hr.units) (pv 4) (zo vP (qv (za (pv 6) zb)) (pv 5)) (zz _)) (yw (zq D_law_order_right hr rfl (za (pv 3) zb))))))))))), ?_⟩
 refine ex2 (by walk_at "sim") ?_
 rintro xs M Q ⟨b, N, rfl, hb, hN, q⟩
 rw [show zI ["_law_box_here", "_law_n", "_law_by", "_law_order", "_law_longs", "_law_many", "_law_long", "_law_ring"] [.ref b] = [some (.ref b), none, none, none, none, none, none, none] from rfl]
 have sb := SB.refl hb
 refine zn fun r hr0 => ?_
 walk_at "ra"
 refine ⟨b, 25, _, rfl, sb.bx, by omega, by omega, by omega, fun c1 M1 s1 c10 c11 => ⟨b, 201, _, rfl, s1.1, by omega, by omega, by omega, fun c2 M2 s2 c20 c21 => ⟨by omega, _, rfl, b, 6, _, rfl, s2.1, by omega, by omega, by omega, fun c3 M3 s3 c30 c31 => ?_⟩⟩⟩
 have sb := ((sb.go s1).go s2).go s3
 refine ⟨_, rfl, by rw [qW]; omega, ?_⟩
 obtain ⟨n, hn, hn1⟩ : ∃ t : Nat, atI (List.map AV.d [Dat.int c1, Dat.int c2]) (if eqD (Dat.int c3) (Dat.int 0) = true then 1 else 0) = some (.d (.int t)) /\ t <= 200 := by
  split
  ·exact ⟨c2.toNat, by rw [show ((c2.toNat : Nat) : Int) = c2 by omega]; rfl, by omega⟩
  ·exact ⟨c1.toNat, by rw [show ((c1.toNat : Nat) : Int) = c1 by omega]; rfl, by omega⟩
 refine ⟨_, hn, ?_⟩
 subst hr0
 refine zn fun r hr0 => ?_
 walk_at "ra"
 have e18 : (10 : Int) ^ Int.toNat 18 = 1000000000000000000 := by decide
 rw [e18]
 refine ⟨xj (by omega) (by omega), b, _, _, rfl, sb.bx, by omega, by omega, by omega, fun c4 M4 s4 c40 c41 => ⟨_, rfl, ⟨by omega, by omega, by decide⟩, b, _, _, rfl, s4.1, by omega, by omega, by omega, fun c5 M5 s5 c50 c51 => ⟨by omega, _, rfl, b, 4, _, rfl, s5.1, by omega, by omega, by omega, fun c6 M6 s6 c60 c61 => ?_⟩⟩⟩
 have sb := ((sb.go s4).go s5).go s6
 refine ⟨_, rfl, by rw [qW]; omega, ?_⟩
 obtain ⟨k, hk⟩ : ∃ t : Int, atI (List.map AV.d [Dat.int (c4 - n), Dat.int c5]) (if eqD (Dat.int c6) (Dat.int 0) = true then 1 else 0) = some (.d (.int t)) := by
  split
  ·exact ⟨_, rfl⟩
  ·exact ⟨_, rfl⟩
 refine ⟨_, hk, ?_⟩
 have ho := ka n k
 subst hr0
 refine zn fun r hr0 => ?_
 walk_at "ra"
 refine ⟨n, k, rfl, by omega, ?_⟩
 subst hr0
 refine zn fun r hr0 => ?_
 walk_at "ra"
 have lr := qj (qC n k) n
 refine ⟨_, n, _, rfl, by rw [<- jf]; rfl, ho, by omega, _, rfl, ?_⟩
 refine xo (fun o => [some (.ref b), some (.d (.int n)), some (.d (.int k)), some (.d (ilD (qC n k))), none, none, none, o]) J3 ⟨_, rfl⟩ rfl (by rw [List.length_map, List.length_map]; omega) (fun o y Q hy q => ?_) fun o => ?_
 ·rw [List.map_map] at hy
  obtain ⟨r, hr, rfl⟩ := List.mem_map.mp hy
  show jl 7 (AV.d (ilD r)) _ _ _
  walk_at "ra"
  have q := q (some (.d (ilD r)))
  rw [show J3 ((AV.d ∘ ilD) r) = AV.d (.int r.length) from by show AV.d (.int ((r.map Dat.int).length : Nat)) = _; rw [List.length_map]] at q
  exact q
 rw [show (((zg (qC n k) n).map ilD).map AV.d).map J3 = _ from Zy, zM]
 refine ⟨_, rfl, ?_⟩
 subst hr0
 refine zn fun r hr0 => ?_
 walk_at "ra"
 refine ⟨n, k, rfl, by omega, fun h => ?_, fun h1 h2 => ?_⟩
 ·have e := ZO h
  walk_at "ra"
  subst hr0
  walk_at "ra"
  rw [e]
  refine ⟨by omega, by decide, by decide, by rw [Int.toNat_zero]; omega, [], rfl, by simp [dp, dps], by simp [dp, dps], ?_⟩
  rw [if_pos (by simp [eqD, jN])]
  exact ⟨n, _, rfl, ho, by omega, sb.rt fun M' t' => q M' t'⟩
 ·have e1 := yY (k := k) h1 rfl
  have e2 := Qt (k := k) h1 rfl (by omega)
  have gl : Nat.gcd n (k % (n : Int)).toNat <= n := Nat.gcd_le_left _ h1
  rw [show List.map (fun r => ((r.length : Nat) : Int)) (zg (qC n k) n) = _ from Zj e1, e2]
  walk_at "ra"
  subst hr0
  walk_at "ra"
  generalize Nat.gcd n (k % (n : Int)).toNat = g at *
  rw [Int.toNat_natCast]
  refine ⟨by omega, by omega, by omega, by omega, (List.replicate g ((n / g : Nat) : Int)).map .int, by rw [Yn, show List.replicate g (AV.d (.int ((n / g : Nat) : Int))) = (List.replicate g ((n / g : Nat) : Int)).map (fun i => AV.d (.int i)) by rw [List.map_replicate], zM], qk _, qk _, ?_⟩
  rw [if_pos (by rw [show ∀ l : List Int, eqD (Dat.lst (l.map .int)) (Dat.lst (l.map .int)) = true from fun l => by rw [show eqD (Dat.lst (l.map .int)) (Dat.lst (l.map .int)) = _ from jq l l]; simp])]
  exact ⟨n, _, rfl, ho, by omega, sb.rt fun M' t' => q M' t'⟩
noncomputable abbrev XZ : Stmt := top 47
theorem K7 : zt ["_law_script", "_law_box_here", "_law_half", "_law_table", "_law_first", "_law_rows", "_law_columns", "_law_woven"] ["_law_script"] (zf XZ) := ⟨rfl, rfl, rfl, by decide +kernel, rfl, by decide +kernel, by decide +kernel⟩
noncomputable def QO (K : PySem.W.Frag) : Sp := fun vs H Q _ => ∃ (a : Addr) (ns : List Int), vs = [.ref a] /\ SqL K H a (ns.map V.int) /\ ns.length <= 63 /\ ∀ H', Q (.bl true) H'
noncomputable def Dx (K : PySem.W.Frag) : ASp := fun xs M Q => ∃ ns : List Int, xs = [.d (.scr K ns)] /\ ns.length <= 63 /\ Q (.d (.bl true)) M
theorem sp_law (vs : List V) (H : Hp) (Q : VK) (E : XK) (h : QO K vs H Q E) : cSp (Dx K) vs H Q E := by
 obtain ⟨a, ns, rfl, ha, hn, q⟩ := h
 refine ⟨[.d (.scr K ns)], fun _ => none, fun _ => False, fun x _ => x = .d (.bl true), ⟨(fun a o e => nomatch e), (fun a h => h rfl), fun a h => h.elim⟩, .cons (Vv (fun _ z => z) ha) .nil, ⟨ns, rfl, hn, rfl⟩, fun x M' v H' O' hx _ _ r => ?_⟩
 subst hx
 rw [kA r]
 exact q H'
theorem BA (a : At K mg "law" XZ) (B : Blt mg) (D_law_boxes : Df P w K mg base "_law_boxes" ["_law_script", "_law_many"] 19 (cSp (XE K))) (D_law_table_sizes : Df P w K mg base "_law_table_sizes" ["_law_box_here", "_law_most"] 19 (cSp Q9)) (D_law_halves : Df P w K mg base "_law_halves" ["_law_box_here"] 19 (cSp Jc)) (D_turn_order : Df P w K mg base "turn_order" ["rows", "columns"] 19 (cSp X4)) (D_turn_rings : Df P w K mg base "turn_rings" ["rows", "columns"] 19 (cSp XD)) (D_law_rings : Df P w K mg base "_law_rings" ["_law_order"] 19 (cSp xE))
  (D_law_order_right : Df P w K mg base "_law_order_right" ["_law_order"] 19 (cSp aOR)) (D_weave_order : Df P w K mg base "weave_order" ["many", "first"] 19 (cSp Yi)) (D_weave_turns : Df P w K mg base "weave_turns" ["many", "first"] 19 (cSp Js)) (D_turns_of : Df P w K mg base "turns_of" ["order"] 19 (cSp ye)) (D_law_rolled_right : Df P w K mg base "_law_rolled_right" ["_law_box_here"] 19 (cSp WV)) :
  Df P w K mg base "law" ["_law_script"] 20 (cSp (Dx K)) := by
 refine dfA (k := 19) a K7 (fun _ _ _ _ _ _ us hl => match us, hl with | [_], _ => rfl) (fun xs M Q h => ?_) (fun f cdv A outer s H E hr => ?_)
 ·obtain ⟨_, rfl, _⟩ := h; rfl
 have sc := K7
 have hsl := hsl
 refine ⟨_, (zc (jG PassesOwn.never rfl (kM (zq D_law_boxes hr rfl (za (pv 0) (za zd zb)))) (zy (i := 1) sc.nd rfl (by first | exact Or.inl rfl | exact Or.inr rfl)) (zc (jP (zq D_law_table_sizes hr rfl (za (pv 1) (za zd zb))) (ja (K := K) 2 rfl rfl (zO (zy (i := 5) sc.nd rfl (by first | exact Or.inl rfl | exact Or.inr rfl)) (zO (zy (i := 6) sc.nd rfl (by first | exact Or.inl rfl | exact Or.inr rfl)) jg))))
  (zc (zx (i := 2) sc.nd rfl (by first | exact Or.inl rfl | exact Or.inr rfl) (zq D_law_halves hr rfl (za (pv 1) zb)))
  (zc (zx (i := 3) sc.nd rfl (by first | exact Or.inl rfl | exact Or.inr rfl) (zq D_turn_order hr rfl (za (pv 5) (za (pv 6) zb))))
  (zc (qx (PW.pt (yg (zE (qV hr.units) (zq D_turn_rings hr rfl (za (pv 5) (za (pv 6) zb))) (zj zk rfl B.len zK (za (zq D_law_rings hr rfl (za (pv 3) zb)) zb)) (zz _)) (kx (ky (qZ (zq D_law_order_right hr rfl (za (pv 3) zb)) (fun _ => rfl)))))) (ze (zu jH)) zN)
  (zc (jG PassesOwn.never rfl (kM (jF (za zd (za zd zb)))) (zy (i := 4) sc.nd rfl (by first | exact Or.inl rfl | exact Or.inr rfl)) (zc (zx (i := 7) sc.nd rfl (by first | exact Or.inl rfl | exact Or.inr rfl) (zq D_weave_order hr rfl (za (pv 2) (za (pv 4) zb))))
  (ze (qx (PW.pt (yg (zE (qV hr.units) (zq D_weave_turns hr rfl (za (pv 2) (za (pv 4) zb))) (zq D_turns_of hr rfl (za (pv 7) zb)) (zz _)) (kx (ky (qZ (zq D_law_order_right hr rfl (za (pv 7) zb)) (fun _ => rfl)))))) (ze (zu jH)) zN))))
  (ze (qx (ky (qZ (zq D_law_rolled_right hr rfl (za (pv 1) zb)) (fun _ => rfl))) (ze (zu jH)) zN))))))))
  (ze (zu jH))), ?_⟩
 refine ex2 (by walk_at "sim") ?_
 rintro xs M Q ⟨ns, rfl, hn, q⟩
 rw [show zI ["_law_script", "_law_box_here", "_law_half", "_law_table", "_law_first", "_law_rows", "_law_columns", "_law_woven"] [.d (.scr K ns)] = [some (.d (.scr K ns)), none, none, none, none, none, none, none] from rfl]
 refine zn fun r hr0 => ?_
 walk_at "ra"
 refine ⟨6, ns, rfl, by omega, by omega, hn, fun p M1 bs f1 hp hp1 nd hb lb => ?_⟩
 refine ⟨_, kL hp1, ?_⟩
 refine ⟨fun i ρ M' => (∃ x1 x2 x3 x4 x5 x6 x7, ρ = [some (.d (.scr K ns)), x1, x2, x3, x4, x5, x6, x7]) /\ Fr M M' /\ M' p = some (.lst (bs.map AV.ref)) /\ ∀ (j : Nat) b, i <= j -> bs[j]? = some b -> BxM M' b 0 /\ b ≠ p /\ M b = none, ⟨⟨_, _, _, _, _, _, _, rfl⟩, f1, hp1, fun j b _ e => hb b (List.mem_of_getElem? e)⟩, ?_, ?_⟩
 ·rintro i y ρ M2 hy ⟨⟨x1, x2, x3, x4, x5, x6, x7, rfl⟩, f2, hp2, hb2⟩
  rw [List.getElem?_map] at hy
  cases e : bs[i]? with
  | none => rw [e] at hy; cases hy
  | some b =>
   rw [e] at hy
   cases hy
   obtain ⟨bx, hbp, b0⟩ := hb2 i b (Nat.le_refl _) e
   refine ⟨kL hp2, ?_⟩
   have sb := SB.refl bx
   have hlast : ∀ M', SB M2 M' b 1000 -> Fr M M' /\ M' p = some (.lst (bs.map AV.ref)) /\ ∀ (j : Nat) b', i + 1 <= j -> bs[j]? = some b' -> BxM M' b' 0 /\ b' ≠ p /\ M b' = none := fun M' s' => by
    refine ⟨SB.frm f2 b0 s', by rw [s'.fr p (jB hp2) (Ne.symm hbp)]; exact hp2, fun j b' hj e' => ?_⟩
    obtain ⟨z1, z2, z3⟩ := hb2 j b' (by omega) e'
    have hbb : b' ≠ b := fun z => by
     obtain ⟨i1, e1⟩ := List.getElem?_eq_some_iff.mp e
     obtain ⟨i2, e2⟩ := List.getElem?_eq_some_iff.mp e'
     have := (List.getElem_inj (h₀ := i1) (h₁ := i2) nd).mp (e1.trans (z.symm.trans e2.symm))
     omega
    refine ⟨?_, z2, z3⟩
    obtain ⟨a1, a2, a3, a4, a5⟩ := z1
    exact ⟨a1, a2, a3, by rw [s'.fr b' (by rw [a4]; exact fun z => nomatch z) hbb]; exact a4, a5⟩
   show kN _ _ _ _ _ _
   refine zn fun r2 hr2 => ?_
   walk_at "ra"
   refine ⟨b, 0, rfl, sb.bx, by omega, fun rw_ cl M3 s3 h1 h2 h3 h4 h5 => ?_⟩
   have sb := sb.go s3
   refine ⟨_, rfl, rfl, ?_⟩
   walk_at "ra"
   subst hr2
   refine zn fun r2 hr2 => ?_
   walk_at "ra"
   refine ⟨b, _, rfl, sb.bx, by omega, fun m M4 s4 hm => ?_⟩
   have sb := sb.go s4
   subst hr2
   refine zn fun r2 hr2 => ?_
   walk_at "ra"
   have to := va (r := rw_) (c := cl) h1 h2
   have sl : ∀ ns : List Int, ∀ M : MH, z0 (.d (ilD ns)) M = some (ns.map fun i => .d (.int i)) := fun ns M => by rw [<- jf]; rfl
   have sq : ∀ ns : List Int, ∀ M : MH, qD (.d (ilD ns)) M = some (ns.map fun i => .d (.int i)) := fun ns M => by rw [<- jf]; rfl
   refine ⟨rw_, cl, rfl, by omega, by omega, by omega, ?_⟩
   subst hr2
   refine zn fun r2 hr2 => ?_
   walk_at "ra"
   refine ⟨rw_, cl, rfl, by omega, by omega, by omega, to, _, _, _, rfl, sl _ _, to, by omega, _, rfl, _, rfl, by rw [qW]; omega, ?_⟩
   rw [if_neg (by rw [xf, List.length_map, List.length_map]; simp)]
   refine ⟨_, _, rfl, to, by omega, _, rfl, ?_⟩
   rw [if_neg (by decide)]
   subst hr2
   refine zn fun r2 hr2 => ?_
   walk_at "ra"
   refine ⟨by omega, fun j ρ M' => M4 = M' /\ ∃ u v, ρ = [some (.d (.scr K ns)), some (.ref b), some (.d (.int m)), some (.d (ilD (qL rw_ cl))), u, some (.d (.int rw_)), some (.d (.int cl)), v], ⟨rfl, _, _, rfl⟩, ?_, ?_⟩
   ·rintro j y ρ M' hy ⟨rfl, u, v, rfl⟩
    obtain ⟨f, hf, rfl⟩ : ∃ f : Nat, f <= 1 /\ y = .d (.int f) := by
     match j, hy with
     | 0, hy => cases hy; exact ⟨0, by omega, rfl⟩
     | 1, hy => cases hy; exact ⟨1, by omega, rfl⟩
    have wo := ju (m := m) hf
    refine ⟨trivial, ?_⟩
    show kN _ _ _ _ _ _
    refine zn fun r3 hr3 => ?_
    walk_at "ra"
    refine ⟨m, f, rfl, by omega, hf, ?_⟩
    subst hr3
    walk_at "ra"
    refine ⟨m, f, rfl, by omega, hf, _, _, _, rfl, sq _ _, wo, by omega, _, rfl, _, rfl, by rw [qW]; omega, by rw [qW]; omega, ?_⟩
    rw [if_neg (by rw [xf]; simp)]
    refine ⟨_, _, rfl, wo, by omega, _, rfl, ?_⟩
    rw [if_neg (by decide)]
    exact ⟨rfl, _, rfl⟩
   rintro ρ M' ⟨rfl, u, v, rfl⟩
   refine ⟨trivial, ?_⟩
   subst hr2
   walk_at "ra"
   refine ⟨b, _, rfl, sb.bx, by omega, fun M5 s5 => ?_⟩
   have sb := sb.go s5
   refine ⟨_, rfl, ?_⟩
   rw [if_neg (by decide)]
   exact ⟨⟨_, rfl⟩, hlast M5 (sb.mono (by omega))⟩
 ·rintro ρ M2 ⟨⟨x1, x2, x3, x4, x5, x6, x7, rfl⟩, f2, hp2, hb2⟩
  refine ⟨kL hp2, ?_⟩
  subst hr0
  walk_at "ra"
  exact jo f2 q
end
theorem all_mk {l : PySem.W.OpenLaw} {w : World} {K : PySem.W.Frag} {h : Heap} {mg : Str -> Option Value} {fa : Addr} (X : K.In h) (G : h.Ns mainGlobals mg) (hfa : mg "law" = some (.ref fa)) (a : At K mg "law" XZ) (B : Blt mg) (Ball : mg "all" = none) (Bsum : mg "sum" = none)
  (a__law_take : At K mg "_law_take" ZX) (a__law_box : At K mg "_law_box" Xb) (a__law_folded : At K mg "_law_folded" yn) (a__law_alike : At K mg "_law_alike" kC) (a__law_boxes : At K mg "_law_boxes" v4) (a__law_table_sizes : At K mg "_law_table_sizes" YB) (a__law_rings : At K mg "_law_rings" xP) (a__law_halves : At K mg "_law_halves" xU) (a__law_shared : At K mg "_law_shared" yq) (a__law_order_right : At K mg "_law_order_right" xZ) (a__law_rolled_right : At K mg "_law_rolled_right" Z5) (a_ring_from : At K mg "ring_from" j3) (a_rings : At K mg "rings" wc) (a_leaders : At K mg "leaders" xi) (a_common_divisor : At K mg "common_divisor" XQ) (a_turns_of : At K mg "turns_of" kU) (a_walk_of : At K mg "walk_of" xc) (a_steps_from : At K mg "steps_from" jC) (a_leads : At K mg "leads" vK) (a_walks : At K mg "walks" v9) (a_leaders_found : At K mg "leaders_found" x8) (a_back_of : At K mg "back_of" Z7) (a_staying : At K mg "staying" kT) (a_after : At K mg "after" vO) (a_times : At K mg "times" vU) (a_off : At K mg "off" XU) (a_fewest_moves : At K mg "fewest_moves" Z3) (a_fewest_swaps : At K mg "fewest_swaps" ZK) (a_stays : At K mg "stays" vG) (a_roll_order : At K mg "roll_order" ZG) (a_roll_rings : At K mg "roll_rings" vM) (a_turn_place : At K mg "turn_place" vN) (a_turn_order : At K mg "turn_order" Qn) (a_turn_rings : At K mg "turn_rings" vF) (a_weave_order : At K mg "weave_order" vB) (a_weave_turns : At K mg "weave_turns" yu)
  : ∃ fd : FuncData, (∀ (s : Shared) (v : Value), BindsTo s fd ⟨[v], []⟩ [("_law_script", v)]) /\ ∀ base : Heap, K.In base -> base.Ns mainGlobals mg -> kf l.prog w K mg base CX0 20 fa fd ["_law_script"] (QO K) := by
 obtain ⟨f, fd, F, m⟩ := id a
 obtain rfl : fa = f := by rw [hfa] at m; cases m; rfl
 obtain ⟨oc, od, kV, doc, pm, an, cdv, ct, osl, e, lk, hcd⟩ := F.ex
 refine ⟨fd, fun s v => ?_, fun base _ _ => ?_⟩
 ·subst e; exact .of_eq rfl
 ·have T := VC (P := l.prog) (w := w) (base := base) a__law_take B
  have tk := T.imp' Wu
  have rg := (K1 (P := l.prog) (w := w) (base := base) a_rings B (v8 a_ring_from B)).imp' KS
  have lrg := (Kn (P := l.prog) (w := w) (base := base) a__law_rings B).imp' Kl
  have ld := ZC (P := l.prog) (w := w) (base := base) a_leaders B rg
  have gc := AH (P := l.prog) (w := w) (base := base) a_common_divisor B
  have tn := Qi (P := l.prog) (w := w) (base := base) a_turns_of B (rg.mono (by decide)) (gc.mono (by decide))
  have wo := ZA (P := l.prog) (w := w) (base := base) a_walk_of B
  have sf := yE (P := l.prog) (w := w) (base := base) a_steps_from B wo
  have lds := Xe (P := l.prog) (w := w) (base := base) a_leads B wo
  have wk := K9 (P := l.prog) (w := w) (base := base) a_walks B sf
  have lf := (JR (P := l.prog) (w := w) (base := base) a_leaders_found B Bsum (lds.mono (by decide)) wk).imp' JM
  have st := (Zm (P := l.prog) (w := w) (base := base) a_staying B).imp' ZW
  have af := X9 (P := l.prog) (w := w) (base := base) a_after B
  have bk := Vn (P := l.prog) (w := w) (base := base) a_back_of B
  have tm := Yj (P := l.prog) (w := w) (base := base) a_times B (st.mono (by decide)) (af.mono (by decide)) (bk.mono (by decide))
  have ofs := W9 (P := l.prog) (w := w) (base := base) a_off B
  have fm := VB (P := l.prog) (w := w) (base := base) a_fewest_moves B (ofs.mono (by decide)) (rg.mono (by decide))
  have fs := VO (P := l.prog) (w := w) (base := base) a_fewest_swaps B (ofs.mono (by decide)) (rg.mono (by decide))
  have ro := Wq (P := l.prog) (w := w) (base := base) a_roll_order B
  have rr := KZ (P := l.prog) (w := w) (base := base) a_roll_rings B (Yu a_stays B) gc
  have tu := Vx (P := l.prog) (w := w) (base := base) a_turn_order B (KJ a_turn_place B)
  have tr := K8 (P := l.prog) (w := w) (base := base) a_turn_rings B (ld.mono (by decide)) (tu.mono (by decide))
  have bx := YM (P := l.prog) (w := w) (base := base) a__law_boxes B ((JW a__law_folded B).imp' JD) ((AZ a__law_box B).imp' WX)
  have orr := Kf (P := l.prog) (w := w) (base := base) a__law_order_right B Bsum (lrg.mono (by decide)) ((vt a__law_alike B Ball 6).mono (by decide)) (rg.mono (by decide)) (ld.mono (by decide)) ((Kk a__law_shared B).mono (by decide)) (tn.mono (by decide)) (tm.mono (by decide)) (bk.mono (by decide)) (lf.mono (by decide)) (ofs.mono (by decide)) (fm.mono (by decide)) (fs.mono (by decide))
  have rd := Wt (P := l.prog) (w := w) (base := base) a__law_rolled_right B (tk.mono (by decide)) (ro.mono (by decide)) (lrg.mono (by decide)) (rr.mono (by decide)) (orr.mono (by decide))
  have L := BA (P := l.prog) (w := w) (base := base) a B (bx.mono (by decide)) ((Dc a__law_table_sizes B tk).mono (by decide)) ((JI a__law_halves B tk).mono (by decide)) (tu.mono (by decide)) (tr.mono (by decide)) (lrg.mono (by decide)) (orr.mono (by decide)) ((XT a_weave_order B).mono (by decide)) ((JG a_weave_turns B).mono (by decide)) (tn.mono (by decide)) (rd.mono (by decide))
  exact (L.imp' (sp_law (K := K))).fn m lk
theorem walk {l : PySem.W.OpenLaw} {q : Program} {loose : List Str} {XP : (Str -> Option Value) -> Heap -> Prop} {YP : World -> Heap -> Prop} {d : DefRec} {K : Params -> PySem.W.Frag} (hn : l.most = some 63) (hdf : d.params.defaults = [])
  (hY : ∀ (w : World) (h : Heap), YP w h -> (K w.params).In h)
  (F : ∀ (w : World) (mg : Str -> Option Value) (fa : Addr) (h : Heap), (K w.params).In h -> h.Ns mainGlobals mg -> mg d.name = some (.ref fa) ->
   ∃ fd : FuncData, (∀ (s : Shared) (u : Value), BindsTo s fd ⟨[u], []⟩ [("_law_script", u)]) /\ ∀ base : Heap, (K w.params).In base -> base.Ns mainGlobals mg -> kf l.prog w (K w.params) mg base CX0 20 fa fd ["_law_script"] (QO (K w.params))) :
  PySem.W.WalkO q loose XP YP l.row.toRowW d [] (fun f vs => PySem.call f vs) :=
 L2.walk_of (n := 63) (k := 20) (x := "_law_script") (CX := fun _ => CX0) (sp := fun w => QO (K w.params)) hn (by decide) hdf ⟨rfl, rfl, by decide, by decide⟩ hY F (fun _ _ a ns hl _ hS => ⟨a, ns, rfl, hS, hl, fun _ => rfl⟩) fun _ _ _ _ _ z => z
end Ot
theorem PySem.W.Fast.te1070803079918712146 : True := trivial
theorem PySem.W.Fast.te15408706362166680585 : True := trivial
theorem PySem.W.Fast.te5985783459567782995 : True := trivial
namespace PySem.W.Fast
def tw4065741971514443956 := ()
def tw8416002175794318715 := ()
def tw15852998982173693067 := ()
def tw12551542372364052634 := ()
def tw14773994438749351488 := ()
def tw1584240550664645156 := ()
def tw1154973786865355830 := ()
def tw3549117097033962964 := ()
def tw12752112289586281412 := ()
def tw7820999715705215944 := ()
def tw15992934885556587149 := ()
def tw4423013447207741840 := ()
def tw1017784255039947884 := ()
def tw5491025020190586933 := ()
def tw7204461837464984924 := ()
def tw13458030456796274452 := ()
def tw12145325731925802439 := ()
def tw10797949618727990260 := ()
def tw6422961577964698146 := ()
def tw1636016243729469340 := ()
def tw14533127535621116120 := ()
def tw16926575804611203424 := ()
def tw757984281812231563 := ()
def tw902704493242433858 := ()
def tw7172275502745751819 := ()
def tw14168573630143873223 := ()
def tw15565733702524883836 := ()
def tw5561987811474533354 := ()
def tw7914452373648539160 := ()
def tw338975388186074654 := ()
def tw7695640411087661268 := ()
def tw12068328247164495175 := ()
def tw9046678883342988203 := ()
def tw6487090426599224422 := ()
def tw10779002756578294611 := ()
def tw13392965833901807587 := ()
def tw210339338834115998 := ()
def tw10950126235364810846 := ()
def tw3664120107405386734 := ()
def tw11855431086172268916 := ()
def tw17497741630209599295 := ()
def tw14219863802037000280 := ()
def tw18320513697077194809 := ()
def tw2226213277008069949 := ()
def tw4435950320657732611 := ()
def tw5485197657695385456 := ()
def tw1892423817753155778 := ()
def tw11655600231563259411 := ()
def tw13090112145741024887 := ()
def tw15713335682971508724 := ()
def tw641967834668267404 := ()
def tw1560833254695493782 := ()
def tw6946546136091766101 := ()
def tw7180819191601744684 := ()
def tw8717104902066510432 := ()
def tw8783138789810682897 := ()
def tw18229977348195791611 := ()
def tw12697452650453871977 := ()
def tw6641956420037758170 := ()
def tw14989765019819124138 := ()
def tw1777829423820951310 := ()
def tw1433529853818879299 := ()
def tw1946019552046344618 := ()
def tw5940115787784962691 := ()
def tw4660989742702182877 := ()
def tw15363850570551780744 := ()
def tw2336634370560018906 := ()
def tw5230431495802181513 := ()
def tw18193975381514563714 := ()
def tw113892451163959937 := ()
def tw12852710688166497093 := ()
def tw13120933961637923398 := ()
def tw11732755049397467679 := ()
def tw11189058178296426678 := ()
def tw3355791195185585765 := ()
def tw8587075831382346562 := ()
def tw8948028525212478605 := ()
def tw6268168787947631278 := ()
def tw7168152575409560045 := ()
def tw16896138074596004895 := ()
def tw1865750895815501453 := ()
def tw18046450317094329620 := ()
def tw10256623326184962975 := ()
def tw8596662851817285878 := ()
def tw8467036795836567726 := ()
def tw10740254668406170740 := ()
def tw5597972376923838042 := ()
def tw1748729728662084570 := ()
def tw5217015757251374540 := ()
def tw4907911617175977484 := ()
def tw6127941903943642318 := ()
def tw6886891270728722874 := ()
def tw10274363809820997396 := ()
def tw15516555769913160378 := ()
def tw17375795809913157079 := ()
def tw6983031503707273099 := ()
def tw15155446064824590473 := ()
def tw3258147185230619755 := ()
def tw11176941457800860077 := ()
def tw11201659336748624456 := ()
def tw3102854150138386240 := ()
def tw9138162820542443126 := ()
def tw10707881140107818611 := ()
def tw11803187853622293018 := ()
def tw8269533388826628898 := ()
def tw12558467925093950672 := ()
def tw2396304340929531983 := ()
def tw9425352036371064265 := ()
def tw15886838469968814038 := ()
def tw6986918601519679361 := ()
def tw10644336155574317097 := ()
def tw13944735329190857458 := ()
def tw13531917422168499693 := ()
def tw12211318179634601005 := ()
def tw1352661715761881251 := ()
def tw4595717909209023852 := ()
def tw17339718328823086498 := ()
def tw4692715675191037317 := ()
def tw11581053086424233692 := ()
def tw14824716316070596736 := ()
def tw14553667297858178201 := ()
def tw3806215729518987909 := ()
def tw18138119192242700602 := ()
def tw16806355163515820207 := ()
def tw856969506911922806 := ()
def tw9914685712739147875 := ()
def tw4112328680174423495 := ()
def tw13499555251578271380 := ()
def tw13451902199343766301 := ()
def tw1369547145501396089 := ()
def tw2710216304527680927 := ()
def tw16041394252439310267 := ()
def tw8519142561058847567 := ()
def tw12942719535174385483 := ()
def tw11726904695548330365 := ()
def tw16057299009885337044 := ()
def tw3130292077856885926 := ()
def tw15193086012239262496 := ()
def tw2509443000573297939 := ()
def tw7032987526860082858 := ()
def tw9647126625676565561 := ()
def tw12836000675068617495 := ()
def tw10924851224735353456 := ()
def tw13482152665685450457 := ()
def tw16101426488539221213 := ()
def tw9432662701502861743 := ()
def tw3898737079524237941 := ()
def tw3631688598600054385 := ()
def tw8369417818522490099 := ()
def tw5173323639570770720 := ()
def tw9712575440858512916 := ()
def tw5420544988635307423 := ()
def tw12928663357875835734 := ()
def tw1441081595401281710 := ()
def tw1604068048365660250 := ()
def tw6336221179678555431 := ()
def tw18098738794690461113 := ()
def tw4500332326115315670 := ()
def tw18390995206506387093 := ()
def tw647220219593246235 := ()
def tw16422214127056825110 := ()
def tw1409425568079997668 := ()
def tw2549882117015383438 := ()
def tw600462187132100464 := ()
def tw5141335792871110976 := ()
def tw5021860536864983746 := ()
def tw2552611017261962160 := ()
def tw15224919648373068393 := ()
def tw8931039967389708404 := ()
def tw11063149635721328391 := ()
def tw14015204783903073877 := ()
def tw6649876035635379766 := ()
def tw5132098417941547645 := ()
def tw971095191802980785 := ()
def tw15265613594623834433 := ()
def tw10795375427540054917 := ()
def tw12482488246501448604 := ()
def tw13987362001561938772 := ()
def tw6151651765930101062 := ()
def tw9142176843835442957 := ()
def tw1322059995511072782 := ()
def tw14518752346228425703 := ()
def tw17382945807933880204 := ()
def tw15359905224486515137 := ()
def tw15467373419210501674 := ()
def tw9460791496203386196 := ()
def tw9751099183651043409 := ()
def tw7107458108958957892 := ()
def tw7662502650316585458 := ()
def tw9584823868448794682 := ()
def tw14827998153381629536 := ()
def tw18111095204051121855 := ()
def tw5227984452699603093 := ()
def tw5209400512568915905 := ()
def tw14280655420611448999 := ()
def tw9428756267664035364 := ()
def tw6328043190732044147 := ()
def tw9945266320849660985 := ()
def tw3219745132594836573 := ()
def tw4857879603004031623 := ()
def tw12464064492896751036 := ()
def tw15511555928742090965 := ()
def tw1101591437663265119 := ()
def tw778479743574746080 := ()
def tw15937716378387476782 := ()
def tw12887245286075779896 := ()
def tw16896946716792670181 := ()
def tw17290107319782592024 := ()
def tw4818020542651294781 := ()
def tw10888046861122200978 := ()
def tw11261567330049238157 := ()
def tw11511926540094272930 := ()
def tw14197312533754939990 := ()
def tw5958848522983182142 := ()
def tw17987577161790075194 := ()
def tw1438420664342143916 := ()
def tw7478071857812284537 := ()
def tw4065561174627202761 := ()
def tw7582739170915001373 := ()
def tw3449778241397730276 := ()
def tw14908888887503438654 := ()
def tw15290060567881673441 := ()
def tw13609948686194498330 := ()
def tw6923379401279492018 := ()
def tw14486209893428870630 := ()
def tw12535055700006381628 := ()
def tw11930320831889928161 := ()
def tw12651917229991433243 := ()
def tw15376265798077490903 := ()
def tw11437979609832972017 := ()
def tw11356534556371686731 := ()
def tw11739320402446176458 := ()
def tw5078137650901266339 := ()
def tw2146853391796582837 := ()
def tw8437013425429847057 := ()
def tw6058163294674213258 := ()
def tw16010365350652235759 := ()
def tw9016502685833336082 := ()
def tw17841867345510491452 := ()
def tw14973260004998578189 := ()
def tw13743814571836669674 := ()
def tw16894111948455947899 := ()
def tw10573176995319955901 := ()
def tw12899970207470797194 := ()
def tw4521581240798930415 := ()
def tw14453229298710351369 := ()
def tw17883559928073264115 := ()
end PySem.W.Fast
open PySem PySem.W PyProof.Rows
set_option maxRecDepth 100000 in
set_option maxHeartbeats 0 in
theorem PySem.Challenge.cw_ownturn_k64_whole_rings_of_known_orders_holds : PySem.Challenge.rw_ownturn_k64_whole_rings_of_known_orders.Holds := by
 w_on; o_law; k_head; (case hw => w_witness2)
 k_fill
 refine Ot.walk (l := PySem.Challenge.rw_ownturn_k64_whole_rings_of_known_orders) rfl rfl (fun w h Y => PySem.W.kIn_of Y) ?F
 case F =>
  intro w mg fa h KX G hmg
  refine' Ot.all_mk KX G hmg (L2.at_mk KX G ?a0 ?l0 ?c0 ?k0) (L2.blt_mk KX G ?z1 ?z2 ?z3 ?z4 ?z5 ?z6 ?z7 ?z8 ?z9 ?z10 ?z11 ?z12 ?z13 ?z14 ?z15 ?z16) (PySem.W.mg_none_of KX G ?zall) (PySem.W.mg_none_of KX G ?zsum) (L2.at_mk KX G ?a1 ?l1 ?c1 ?k1) (L2.at_mk KX G ?a2 ?l2 ?c2 ?k2) (L2.at_mk KX G ?a3 ?l3 ?c3 ?k3) (L2.at_mk KX G ?a4 ?l4 ?c4 ?k4) (L2.at_mk KX G ?a5 ?l5 ?c5 ?k5) (L2.at_mk KX G ?a6 ?l6 ?c6 ?k6) (L2.at_mk KX G ?a7 ?l7 ?c7 ?k7) (L2.at_mk KX G ?a8 ?l8 ?c8 ?k8) (L2.at_mk KX G ?a9 ?l9 ?c9 ?k9) (L2.at_mk KX G ?a10 ?l10 ?c10 ?k10) (L2.at_mk KX G ?a11 ?l11 ?c11 ?k11) (L2.at_mk KX G ?a12 ?l12 ?c12 ?k12) (L2.at_mk KX G ?a13 ?l13 ?c13 ?k13) (L2.at_mk KX G ?a14 ?l14 ?c14 ?k14) (L2.at_mk KX G ?a15 ?l15 ?c15 ?k15) (L2.at_mk KX G ?a16 ?l16 ?c16 ?k16) (L2.at_mk KX G ?a17 ?l17 ?c17 ?k17) (L2.at_mk KX G ?a18 ?l18 ?c18 ?k18) (L2.at_mk KX G ?a19 ?l19 ?c19 ?k19) (L2.at_mk KX G ?a20 ?l20 ?c20 ?k20) (L2.at_mk KX G ?a21 ?l21 ?c21 ?k21) (L2.at_mk KX G ?a22 ?l22 ?c22 ?k22) (L2.at_mk KX G ?a23 ?l23 ?c23 ?k23) (L2.at_mk KX G ?a24 ?l24 ?c24 ?k24) (L2.at_mk KX G ?a25 ?l25 ?c25 ?k25) (L2.at_mk KX G ?a26 ?l26 ?c26 ?k26) (L2.at_mk KX G ?a27 ?l27 ?c27 ?k27) (L2.at_mk KX G ?a28 ?l28 ?c28 ?k28) (L2.at_mk KX G ?a29 ?l29 ?c29 ?k29) (L2.at_mk KX G ?a30 ?l30 ?c30 ?k30) (L2.at_mk KX G ?a31 ?l31 ?c31 ?k31) (L2.at_mk KX G ?a32 ?l32 ?c32 ?k32) (L2.at_mk KX G ?a33 ?l33 ?c33 ?k33) (L2.at_mk KX G ?a34 ?l34 ?c34 ?k34) (L2.at_mk KX G ?a35 ?l35 ?c35 ?k35) (L2.at_mk KX G ?a36 ?l36 ?c36 ?k36)
  (case a0 => k_is); (case l0 => k_is); (case c0 => k_is); (case k0 => k_is)
  (case a1 => k_is); (case l1 => k_is); (case c1 => k_is); (case k1 => k_is)
  (case a2 => k_is); (case l2 => k_is); (case c2 => k_is); (case k2 => k_is)
  (case a3 => k_is); (case l3 => k_is); (case c3 => k_is); (case k3 => k_is)
  (case a4 => k_is); (case l4 => k_is); (case c4 => k_is); (case k4 => k_is)
  (case a5 => k_is); (case l5 => k_is); (case c5 => k_is); (case k5 => k_is)
  (case a6 => k_is); (case l6 => k_is); (case c6 => k_is); (case k6 => k_is)
  (case a7 => k_is); (case l7 => k_is); (case c7 => k_is); (case k7 => k_is)
  (case a8 => k_is); (case l8 => k_is); (case c8 => k_is); (case k8 => k_is)
  (case a9 => k_is); (case l9 => k_is); (case c9 => k_is); (case k9 => k_is)
  (case a10 => k_is); (case l10 => k_is); (case c10 => k_is); (case k10 => k_is)
  (case a11 => k_is); (case l11 => k_is); (case c11 => k_is); (case k11 => k_is)
  (case a12 => k_is); (case l12 => k_is); (case c12 => k_is); (case k12 => k_is)
  (case a13 => k_is); (case l13 => k_is); (case c13 => k_is); (case k13 => k_is)
  (case a14 => k_is); (case l14 => k_is); (case c14 => k_is); (case k14 => k_is)
  (case a15 => k_is); (case l15 => k_is); (case c15 => k_is); (case k15 => k_is)
  (case a16 => k_is); (case l16 => k_is); (case c16 => k_is); (case k16 => k_is)
  (case a17 => k_is); (case l17 => k_is); (case c17 => k_is); (case k17 => k_is)
  (case a18 => k_is); (case l18 => k_is); (case c18 => k_is); (case k18 => k_is)
  (case a19 => k_is); (case l19 => k_is); (case c19 => k_is); (case k19 => k_is)
  (case a20 => k_is); (case l20 => k_is); (case c20 => k_is); (case k20 => k_is)
  (case a21 => k_is); (case l21 => k_is); (case c21 => k_is); (case k21 => k_is)
  (case a22 => k_is); (case l22 => k_is); (case c22 => k_is); (case k22 => k_is)
  (case a23 => k_is); (case l23 => k_is); (case c23 => k_is); (case k23 => k_is)
  (case a24 => k_is); (case l24 => k_is); (case c24 => k_is); (case k24 => k_is)
  (case a25 => k_is); (case l25 => k_is); (case c25 => k_is); (case k25 => k_is)
  (case a26 => k_is); (case l26 => k_is); (case c26 => k_is); (case k26 => k_is)
  (case a27 => k_is); (case l27 => k_is); (case c27 => k_is); (case k27 => k_is)
  (case a28 => k_is); (case l28 => k_is); (case c28 => k_is); (case k28 => k_is)
  (case a29 => k_is); (case l29 => k_is); (case c29 => k_is); (case k29 => k_is)
  (case a30 => k_is); (case l30 => k_is); (case c30 => k_is); (case k30 => k_is)
  (case a31 => k_is); (case l31 => k_is); (case c31 => k_is); (case k31 => k_is)
  (case a32 => k_is); (case l32 => k_is); (case c32 => k_is); (case k32 => k_is)
  (case a33 => k_is); (case l33 => k_is); (case c33 => k_is); (case k33 => k_is)
  (case a34 => k_is); (case l34 => k_is); (case c34 => k_is); (case k34 => k_is)
  (case a35 => k_is); (case l35 => k_is); (case c35 => k_is); (case k35 => k_is)
  (case a36 => k_is); (case l36 => k_is); (case c36 => k_is); (case k36 => k_is)
  (case zall => k_is)
  (case zsum => k_is)
  (case z1 => k_is)
  (case z2 => k_is)
  (case z3 => k_is)
  (case z4 => k_is)
  (case z5 => k_is)
  (case z6 => k_is)
  (case z7 => k_is)
  (case z8 => k_is)
  (case z9 => k_is)
  (case z10 => k_is)
  (case z11 => k_is)
  (case z12 => k_is)
  (case z13 => k_is)
  (case z14 => k_is)
  (case z15 => k_is)
  (case z16 => k_is)
