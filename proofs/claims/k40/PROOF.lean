import PyProof.Rows.All
import Wide.All
import OpenK.AllK
import Wide.FinOn
import Lean
import PyProof.EqAt
import PyProof.EqKinds
import PyProof.TupleCall
import PySem.Challenge.RW_ownturn_k40_woven_till_as_it_stood
set_option compiler.extract_closed false
set_option Elab.async false
set_option linter.all false
set_option maxRecDepth 100000
namespace L2
open PySem PySem.Spec PyProof.Rows
noncomputable abbrev Key := Sum Int Str
noncomputable def X4 : Key -> Value -> Bool
 | .inl k, v => Value.isInt k v
 | .inr x, v => Value.isStrOf x v
noncomputable def Ad (w : World) : Key -> Int
 | .inl k => hashInt k
 | .inr x => hashStr w x
theorem zG : ∀ {k : Key} {v : Value}, X4 k v = true -> (∃ i t, k = Sum.inl i /\ v = Value.int i t) \/ (∃ x t, k = Sum.inr x /\ v = Value.str x t)
 | .inl i, v, h => by
  obtain ⟨t, e⟩ := Value.isInt_shape (k := i) (v := v) h
  exact .inl ⟨i, t, rfl, e⟩
 | .inr x, v, h => by
  obtain ⟨t, e⟩ := Value.isStrOf_shape (x := x) (v := v) h
  exact .inr ⟨x, t, rfl, e⟩
theorem YA (a b : Int) : decide ((Sum.inl a : Key) = Sum.inl b) = (a == b) := by
 by_cases e : a = b
 ·subst e; simp
 ·have h : ¬ (Sum.inl a : Key) = Sum.inl b := fun q => e (Sum.inl.inj q)
  rw [decide_eq_false h]
  exact (beq_eq_false_iff_ne.mpr e).symm
theorem Ys (a b : Str) : decide ((Sum.inr a : Key) = Sum.inr b) = decide (a = b) := by
 by_cases e : a = b
 ·subst e; simp
 ·have h : ¬ (Sum.inr a : Key) = Sum.inr b := fun q => e (Sum.inr.inj q)
  rw [decide_eq_false h, decide_eq_false e]
theorem VU (a : Int) (b : Str) : decide ((Sum.inl a : Key) = Sum.inr b) = false := decide_eq_false (fun q => nomatch q)
theorem Y6 (a : Str) (b : Int) : decide ((Sum.inr a : Key) = Sum.inl b) = false := decide_eq_false (fun q => nomatch q)
noncomputable def ky (prog : Program) (w : World) : PySem.KeyKind prog w Key where
 is := X4
 hash := Ad w
 inj := fun v a b ha hb => by
  rcases zG ha with ⟨i, t, rfl, rfl⟩ | ⟨x, t, rfl, rfl⟩
  ·rcases zG hb with ⟨j, u, rfl, e⟩ | ⟨y, u, rfl, e⟩
   ·injection e with e1 _; rw [e1]
   ·exact nomatch e
  ·rcases zG hb with ⟨j, u, rfl, e⟩ | ⟨y, u, rfl, e⟩
   ·exact nomatch e
   ·injection e with e1 _; rw [e1]
 byValue := fun k v h => by
  rcases zG h with ⟨i, t, rfl, rfl⟩ | ⟨x, t, rfl, rfl⟩ <;> rfl
 pyHash := fun hv h => by
  rcases zG hv with ⟨i, t, rfl, rfl⟩ | ⟨x, t, rfl, rfl⟩
  ·exact wpAny_pyHash_int h
  ·exact wpAny_pyHash_str h
 eqBool := fun hu hv h => by
  rcases zG hu with ⟨i, t, rfl, rfl⟩ | ⟨x, t, rfl, rfl⟩
  ·rcases zG hv with ⟨j, u, rfl, rfl⟩ | ⟨y, u, rfl, rfl⟩
   ·rw [YA] at h; exact wpAny_eqBool_int h
   ·rw [VU] at h; exact SeqAt.EqAt.int_str i t y u _ _ _ _ h
  ·rcases zG hv with ⟨j, u, rfl, rfl⟩ | ⟨y, u, rfl, rfl⟩
   ·rw [Y6] at h; exact SeqAt.EqAt.str_int x t j u _ _ _ _ h
   ·rw [Ys] at h; exact wpAny_eqBool_str h
 «strs» := fun k x t v h => by
  rcases zG h with ⟨i, u, rfl, e⟩ | ⟨y, u, rfl, e⟩
  ·exact nomatch e
  ·injection e with e1 _
   subst e1
   cases v <;> rfl
end L2
namespace L2
open PySem PySem.Spec PyProof.Rows
inductive V where
 | non | bl (b : Bool) | int (i : Int) | str (x : Str) | byt (b : Array UInt8) | flt (b : UInt64) | ref (a : Addr) | ty (n : String)
 deriving DecidableEq
noncomputable def zr : V -> Value -> Prop
 | .non, u => u = Value.none
 | .bl b, u => u = Value.bool b
 | .int i, u => ∃ t, u = Value.int i t
 | .str x, u => ∃ t, u = Value.str x t
 | .byt b, u => ∃ t, u = Value.bytes b t
 | .flt b, u => ∃ t, u = Value.float b t
 | .ref a, u => u = Value.ref a
 | .ty n, u => u = Value.type n
noncomputable abbrev zq : List V -> List Value -> Prop := Paired zr
theorem zq.length {xs : List V} {us : List Value} (r : zq xs us) : xs.length = us.length := Paired.length r
theorem zq.get : ∀ {xs : List V} {us : List Value} {i : Nat} {x : V}, zq xs us -> xs[i]? = some x -> ∃ u, us[i]? = some u /\ zr x u
 | _, _, _, _, .nil, e => by simp at e
 | _, _, 0, _, .cons r _, e => by simp at e; subst e; exact ⟨_, rfl, r⟩
 | _, _, i + 1, x, .cons _ t, e => by
  obtain ⟨u, h1, h2⟩ := zq.get (i := i) (x := x) t (by simpa using e)
  exact ⟨u, by simpa using h1, h2⟩
theorem zq.set {x : V} {u : Value} (r : zr x u) : ∀ {xs : List V} {us : List Value} (i : Nat), zq xs us -> zq (xs.set i x) (us.set i u)
 | _, _, _, .nil => .nil
 | _, _, 0, .cons _ t => .cons r t
 | _, _, i + 1, .cons q t => .cons q (zq.set r i t)
theorem zq.append : ∀ {xs ys : List V} {us ws : List Value}, zq xs us -> zq ys ws -> zq (xs ++ ys) (us ++ ws)
 | _, _, _, _, .nil, s => s
 | _, _, _, _, .cons r t, s => .cons r (zq.append t s)
theorem zq.take : ∀ {xs : List V} {us : List Value} (n : Nat), zq xs us -> zq (xs.take n) (us.take n)
 | _, _, 0, _ => .nil
 | _, _, _ + 1, .nil => .nil
 | _, _, n + 1, .cons r t => .cons r (zq.take n t)
theorem zq.drop : ∀ {xs : List V} {us : List Value} (n : Nat), zq xs us -> zq (xs.drop n) (us.drop n)
 | _, _, 0, r => r
 | _, _, _ + 1, .nil => .nil
 | _, _, n + 1, .cons _ t => zq.drop n t
noncomputable def V6 : Option V -> Option Value -> Prop
 | some v, some u => zr v u
 | none, none => True
 | _, _ => False
noncomputable def KV {κ : Type} : List (κ × V) -> List (κ × Value) -> Prop := Paired fun (p : κ × V) (q : κ × Value) => p.1 = q.1 /\ zr p.2 q.2
noncomputable def kV : Key -> V
 | .inl i => .int i
 | .inr x => .str x
inductive HO where
  | lst (xs : List V)
  | tup (xs : List V)
  | dK (kvs : List (Key × V)) | dT (kvs : List (List Key × V))
  | set (S : Int -> Bool) (n : Nat)
  | ins (C dx : Addr) (fs : List (Str × V))
  | own (x : Addr)
  | xd (fs : List (Str × V))
  | met (f x : Addr)
  | rng (lo hi : Int)
  | frz (o : Obj) (u : HO)
  | tbl (ps : Array Value)
  | ext (φ : Heap -> Prop)
noncomputable abbrev Hp := Addr -> Option HO
noncomputable def upd (H : Hp) (a : Addr) (o : HO) : Hp := fun b => if b = a then some o else H b
theorem zp {H : Hp} {a : Addr} {o : HO} : upd H a o a = some o := by unfold upd; rw [if_pos rfl]
theorem zh {H : Hp} {a b : Addr} {o : HO} (h : b ≠ a) : upd H a o b = H b := by unfold upd; rw [if_neg h]
theorem Js {H : Hp} {a b : Addr} {o u : HO} (h : H a = some o) (h' : H b = some u) (d : o ≠ u) : a ≠ b := by
 intro e; subst e; rw [h] at h'; exact d (Option.some.inj h')
theorem zk {H : Hp} {a b : Addr} {o : HO} (h : H a = some o) (h' : H b = none) : a ≠ b := by
 intro e; subst e; rw [h] at h'; cases h'
noncomputable def JQ (h : Heap) (a : Addr) (items : Array Value) : Prop := ∃ o, h.get? a = some o /\ o.cls = .type "tuple" /\ (∃ n, o.data = .seq items n) /\ o.dict = none
theorem JQ.is {h : Heap} {a : Addr} {items : Array Value} (x : JQ h a items) : IsTup h a items := let ⟨o, e, c, n, _⟩ := x; ⟨o, e, c, n⟩
theorem JQ.lt {h : Heap} {a : Addr} {items : Array Value} (x : JQ h a items) : a < h.objs.size := x.is.lt
section
variable (P : Program) (w : World)
noncomputable def zI (H : Hp) (h : Heap) (a : Addr) : HO -> Prop
  | .lst xs => xs.length <= sizeLine /\ ∃ (its : List Value) (n : Nat), zq xs its /\ h.get? a = some { cls := .type "list", data := .seq its.toArray n }
  | .tup xs => xs.length <= sizeLine /\ ∃ its : List Value, zq xs its /\ JQ h a its.toArray
  | .dK kvs => kvs.length <= sizeLine /\ (a == sysModules) = false /\ ∃ vs, KV kvs vs /\ h.DictOf (ky P w) a vs
  | .dT kvs => kvs.length <= sizeLine /\ (a == sysModules) = false /\ ∃ xs : List (List Key × Addr × Value),
      Paired (fun (p : List Key × V) (q : List Key × Addr × Value) => p.1 = q.1 /\ H q.2.1 = some (.tup (p.1.map kV)) /\ zr p.2 q.2.2) kvs xs /\
      ∃ o es ep, h.get? a = some o /\ o.ExactDict /\ o.data = .dict es ep /\ es.toList = xs.map (entryOfKey (tupleKind (ky P w))) /\ (xs.map (·.1)).Nodup
  | .set S n => h.SetOf (intKind P w) a S n
  | .ins C dx fs => H dx = some (.own a) /\ fs.length <= 1000 /\ dx ≠ a /\ h.get? a = some (PySem.W.instObj C dx) /\
      ∃ mA, h.Ns1 dx mA /\ (∀ f, V6 (fs.lookup f) (mA f)) /\ PySem.Within mA (fs.map (·.1))
  | .own _ => ∃ o, h.get? a = some o
  | .xd fs => ∃ mA, h.Ns1 a mA /\ ∀ f, V6 (fs.lookup f) (mA f)
  | .rng lo hi => ∃ t u v, h.get? a = some { cls := .type "range", data := .fields #[.int lo t, .int hi u, .int 1 v] }
  | .frz o u => h.get? a = some o /\ zI H h a u
  | .tbl ps => h.get? a = some { cls := .none, data := .fields ps }
  | .met f x => h.get? a = some (PySem.W.methodObj (.ref f) (.ref x))
  | .ext φ => φ h /\ (∃ o, h.get? a = some o) /\ ∀ h1 h2 : Heap, φ h1 -> (∀ o, h1.get? a = some o -> h2.get? a = some o) -> φ h2
noncomputable def HOk (H : Hp) (h : Heap) : Prop := ∀ a o, H a = some o -> zI P w H h a o
end
section
variable {P : Program} {w : World} {H H' : Hp} {h h' : Heap} {a : Addr} {o : HO}
theorem zI.lt (x : zI P w H h a o) : a < h.objs.size := by
 cases o with
 | lst xs => obtain ⟨_, _, _, _, e⟩ := x; exact Heap.lt_size e
 | tup xs => obtain ⟨_, _, _, p⟩ := x; exact p.lt
 | dK kvs => obtain ⟨_, _, _, _, o, _, _, e, _⟩ := x; exact Heap.lt_size e
 | dT kvs => obtain ⟨_, _, _, _, o, _, _, e, _⟩ := x; exact Heap.lt_size e
 | set S n => obtain ⟨o, _, _, _, e, _⟩ := x; exact Heap.lt_size e
 | ins C dx fs => obtain ⟨_, _, _, e, _⟩ := x; exact Heap.lt_size e
 | own y => obtain ⟨_, e⟩ := x; exact Heap.lt_size e
 | xd fs => obtain ⟨_, ⟨_, _, _, e, _⟩, _⟩ := x; exact Heap.lt_size e
 | rng lo hi => obtain ⟨_, _, _, e⟩ := x; exact Heap.lt_size e
 | frz ob u => obtain ⟨e, _⟩ := x; exact Heap.lt_size e
 | tbl ps => exact Heap.lt_size (show h.get? a = some _ from x)
 | met f y => exact Heap.lt_size (show h.get? a = some _ from x)
 | ext φ => obtain ⟨_, ⟨_, e⟩, _⟩ := x; exact Heap.lt_size e
theorem Paired.mapP {α β : Type} {F G : α -> β -> Prop} : ∀ {l₁ : List α} {l₂ : List β}, Paired F l₁ l₂ -> (∀ a b, F a b -> G a b) -> Paired G l₁ l₂
 | _, _, .nil, _ => .nil
 | _, _, .cons r t, f => .cons (f _ _ r) (Paired.mapP t f)
theorem zI.stay (x : zI P w H h a o) (k : ∀ b u, (b = a \/ H b = some (.own a)) -> h.get? b = some u -> h'.get? b = some u)
  (ho : ∀ b, H b = some (.own a) -> H' b = some (.own a)) (ht : ∀ b xs, H b = some (.tup xs) -> H' b = some (.tup xs)) : zI P w H' h' a o := by
 induction o with
 | lst xs => obtain ⟨z, its, n, r, e⟩ := x; exact ⟨z, its, n, r, k _ _ (.inl rfl) e⟩
 | tup xs => obtain ⟨z, its, r, ob, e, c⟩ := x; exact ⟨z, its, r, ob, k _ _ (.inl rfl) e, c⟩
 | dK kvs => obtain ⟨z, y, vs, r, ob, es, ep, e, c⟩ := x; exact ⟨z, y, vs, r, ob, es, ep, k _ _ (.inl rfl) e, c⟩
 | dT kvs =>
  obtain ⟨z, y, xs, r, ob, es, ep, e, c⟩ := x
  exact ⟨z, y, xs, Paired.mapP r fun p q z => ⟨z.1, ht _ _ z.2.1, z.2.2⟩, ob, es, ep, k _ _ (.inl rfl) e, c⟩
 | set S n => obtain ⟨ob, es, ep, t, e, c⟩ := x; exact ⟨ob, es, ep, t, k _ _ (.inl rfl) e, c⟩
 | ins C dx fs =>
  obtain ⟨d, z, ne, e, mA, ⟨od, es, ep, e2, c⟩, r⟩ := x
  exact ⟨ho _ d, z, ne, k _ _ (.inl rfl) e, mA, ⟨od, es, ep, k _ _ (.inr d) e2, c⟩, r⟩
 | own y => obtain ⟨ob, e⟩ := x; exact ⟨ob, k _ _ (.inl rfl) e⟩
 | xd fs => obtain ⟨mA, ⟨od, es, ep, e, c⟩, r⟩ := x; exact ⟨mA, ⟨od, es, ep, k _ _ (.inl rfl) e, c⟩, r⟩
 | rng lo hi => obtain ⟨t, u, v, e⟩ := x; exact ⟨t, u, v, k _ _ (.inl rfl) e⟩
 | frz ob u ih => obtain ⟨e, q⟩ := x; exact ⟨k _ _ (.inl rfl) e, ih q⟩
 | tbl ps =>
  have e : h.get? a = some { cls := .none, data := .fields ps } := x
  show h'.get? a = some { cls := .none, data := .fields ps }
  exact k a _ (.inl rfl) e
 | met f y =>
  have e : h.get? a = some (PySem.W.methodObj (.ref f) (.ref y)) := x
  show h'.get? a = some (PySem.W.methodObj (.ref f) (.ref y))
  exact k a _ (.inl rfl) e
 | ext φ => obtain ⟨p, ⟨o, e⟩, st⟩ := x; exact ⟨st _ _ p fun o q => k _ _ (.inl rfl) q, ⟨o, k _ _ (.inl rfl) e⟩, st⟩
theorem HOk.lt (x : HOk P w H h) (e : H a = some o) : a < h.objs.size := (x a o e).lt
theorem HOk.fresh (x : HOk P w H h) (e : h.objs.size <= a) : H a = none := by
 cases q : H a with
 | none => rfl
 | some u => exact absurd (Nat.lt_of_lt_of_le (x.lt q) e) (Nat.lt_irrefl _)
theorem HOk.kept (x : HOk P w H h) (k : ∀ b u, h.get? b = some u -> h'.get? b = some u) : HOk P w H h' := fun a o e =>
 (x a o e).stay (fun b u _ q => k b u q) (fun _ q => q) fun _ _ q => q
theorem HOk.laid (x : HOk P w H h) (k : ∀ b u, h.get? b = some u -> h'.get? b = some u) (hp : h.objs.size <= a) (new : zI P w (upd H a o) h' a o) : HOk P w (upd H a o) h' := fun b u e => by
 have hn := x.fresh hp
 by_cases hb : b = a
 ·subst hb; rw [zp] at e; cases e; exact new
 ·rw [zh hb] at e
  exact (x b u e).stay (fun c v _ q => k c v q) (fun c q => by rw [zh (zk q hn)]; exact q) fun c xs q => by rw [zh (zk q hn)]; exact q
end
noncomputable def Rd (H : Hp) (a : Addr) (u : HO) : Prop := H a = some u \/ ∃ o, H a = some (.frz o u)
theorem Rd.ok {P : Program} {w : World} {H : Hp} {h : Heap} {a : Addr} {u : HO} (r : Rd H a u) (x : HOk P w H h) : zI P w H h a u := by
 rcases r with r | ⟨o, r⟩
 ·exact x a u r
 ·obtain ⟨_, q⟩ := x a _ r
  exact q
noncomputable def Mut : Option HO -> Prop
 | some (.lst _) => True
 | some (.dK _) => True
 | some (.dT _) => True
 | some (.set _ _) => True
 | some (.ins _ _ _) => True
 | some (.ext _) => True
 | _ => False
section
variable {P : Program} {w : World} {H : Hp} {h h' : Heap} {x e : Addr} {o' : HO}
theorem HOk.write (ok : HOk P w H h) (mu : Mut (H x)) (he : e = x \/ H e = some (.own x)) (k : ∀ b u, b ≠ e -> h.get? b = some u -> h'.get? b = some u) (heo : ∃ u, h'.get? e = some u)
    (new : zI P w (upd H x o') h' x o') : HOk P w (upd H x o') h' := fun b u q => by
  have nown : ∀ c y, H c = some (.own y) -> c ≠ x := fun c y r z => by subst z; rw [r] at mu; exact mu
  have ntup : ∀ c xs, H c = some (.tup xs) -> c ≠ x := fun c xs r z => by subst z; rw [r] at mu; exact mu
  by_cases hb : b = x
  · subst hb; rw [zp] at q; cases q; exact new
  · rw [zh hb] at q
    by_cases hbe : b = e
    · have q' : H b = some (.own x) := by
        rcases he with z | z
        · exact absurd (hbe.trans z) hb
        · rw [hbe]; exact z
      rw [q] at q'; cases q'
      obtain ⟨v, hv⟩ := heo
      exact ⟨v, by rw [hbe]; exact hv⟩
    · refine (ok b u q).stay (fun c v hc r => k c v ?_ r) (fun c r => by rw [zh (nown c b r)]; exact r) fun c xs r => by rw [zh (ntup c xs r)]; exact r
      rcases hc with rfl | hc
      · exact hbe
      · rintro rfl
        rcases he with z | z
        · exact nown c b hc z
        · rw [hc] at z; cases z; exact hb rfl
end
structure Un (fs ex : List Addr) (H H' : Hp) (h h' : Heap) : Prop where
 keep : ∀ b o, h.get? b = some o -> H b = none -> b ∉ fs -> b ∉ ex -> h'.get? b = some o
 slot : ∀ b o, h.get? b = some o -> H b = none -> b ∈ fs -> b ∉ ex -> ∃ sl, h'.get? b = some { o with slots := sl }
 free : ∀ b o, h.get? b = some o -> H b = none -> b ∉ ex -> H' b = none
 there : ∀ b o, h.get? b = some o -> b ∉ ex -> ∃ o', h'.get? b = some o'
 tups : ∀ b xs, H b = some (.tup xs) -> H' b = some (.tup xs)
 frzs : ∀ b o u, H b = some (.frz o u) -> H' b = some (.frz o u)
 tbls : ∀ b ps, H b = some (.tbl ps) -> ∃ more, H' b = some (.tbl (ps ++ more))
section
variable {fs fs' ex ex' : List Addr} {H H1 H2 : Hp} {h h1 h2 h' : Heap} {a x e : Addr} {o : HO}
theorem Un.any (u : Un fs ex H H1 h h1) {b : Addr} {ob : Obj} (q : h.get? b = some ob) (n : H b = none) (hx : b ∉ ex) : ∃ sl, h1.get? b = some { ob with slots := sl } := by
 by_cases hb : b ∈ fs
 ·exact u.slot b ob q n hb hx
 ·exact ⟨ob.slots, u.keep b ob q n hb hx⟩
theorem Un.kept (k : ∀ b u, h.get? b = some u -> h'.get? b = some u) : Un fs ex H H h h' :=
 ⟨fun b ob q _ _ _ => k b ob q, fun b ob q _ _ _ => ⟨ob.slots, k b ob q⟩, fun _ _ _ n _ => n, fun b ob q _ => ⟨ob, k b ob q⟩, fun _ _ q => q, fun _ _ _ q => q, fun _ ps q => ⟨#[], by rw [q]; simp⟩⟩
theorem Un.refl : Un fs ex H H h h := Un.kept fun _ _ q => q
theorem Un.laid (k : ∀ b u, h.get? b = some u -> h'.get? b = some u) (hp : h.objs.size <= a) (hn : H a = none) : Un fs ex H (upd H a o) h h' where
 keep := fun b u q _ _ _ => k b u q
 slot := fun b u q _ _ _ => ⟨u.slots, k b u q⟩
 free := fun b u q n _ => by rw [zh (Nat.ne_of_lt (Nat.lt_of_lt_of_le (Heap.lt_size q) hp))]; exact n
 there := fun b u q _ => ⟨u, k b u q⟩
 tups := fun b xs q => by rw [zh (zk q hn)]; exact q
 frzs := fun b u xs q => by rw [zh (zk q hn)]; exact q
 tbls := fun b ps q => ⟨#[], by rw [zh (zk q hn), q]; simp⟩
theorem Un.write (mu : Mut (H x)) (he : e = x \/ H e = some (.own x)) (k : ∀ b u, b ≠ e -> h.get? b = some u -> h'.get? b = some u) (heo : ∃ u, h'.get? e = some u) : Un fs ex H (upd H x o) h h' := by
 have hx : ∀ b, H b = none -> b ≠ x := fun b n z => by subst z; rw [n] at mu; exact mu
 have hb : ∀ b, H b = none -> b ≠ e := fun b n z => by
  subst z
  rcases he with r | r
  ·exact hx b n r
  ·rw [n] at r; cases r
 have hm : ∀ b u, H b = some u -> ¬ Mut (some u) -> b ≠ x := fun b u q nm z => by subst z; rw [q] at mu; exact nm mu
 refine ⟨fun b u q n _ _ => k b u (hb b n) q, fun b u q n _ _ => ⟨u.slots, k b u (hb b n) q⟩, fun b u q n _ => by rw [zh (hx b n)]; exact n, fun b u q _ => ?_,
  fun b xs q => by rw [zh (hm b _ q fun z => z)]; exact q, fun b u xs q => by rw [zh (hm b _ q fun z => z)]; exact q, fun b ps q => ⟨#[], by rw [zh (hm b _ q fun z => z), q]; simp⟩⟩
 by_cases hbe : b = e
 ·subst hbe; exact heo
 ·exact ⟨u, k b u hbe q⟩
end
noncomputable def trk (h : Heap) (H : Hp) : List Addr := (List.range h.objs.size).filter fun a => (H a).isSome
noncomputable def yJ (h : Heap) (H : Hp) : Heap := PySem.W.hideAll h (trk h H)
theorem ZT (h : Heap) (H : Hp) : (yJ h H).objs.size = h.objs.size := PySem.W.hideAll_size _ _
theorem Ko {h : Heap} {H : Hp} {b : Addr} {o : Obj} (e : h.get? b = some o) (n : H b = none) : (yJ h H).get? b = some o :=
 PySem.W.hideAll_get _ e fun hm => by
  have q : (H b).isSome = true := (List.mem_filter.mp hm).2
  rw [n] at q; simp at q
theorem XN {h : Heap} {H : Hp} {b : Addr} {o : Obj} (e : (yJ h H).get? b = some o) : h.get? b = some o /\ H b = none := by
 have e' : h.get? b = some o := PySem.W.of_hideAll (trk h H) e
 refine ⟨e', ?_⟩
 cases q : H b with
 | none => rfl
 | some x =>
  have hm : b ∈ trk h H := List.mem_filter.mpr ⟨List.mem_range.mpr (Heap.lt_size e'), by simp [q]⟩
  have z : (yJ h H).get? b = none := PySem.W.hideAll_none (trk h H) hm
  rw [z] at e; cases e
noncomputable def Xn (g h : Heap) (L : Addr) : List (Addr × Obj) := (List.range h.objs.size).filterMap fun a => if a = L \/ (g.get? a).isSome = true then none else (h.get? a).map fun o => (a, o)
noncomputable def jD (g h : Heap) (L d : Addr) : List (Addr × Obj) := (Xn g h L).filter fun p => decide (p.1 ≠ d)
end L2
namespace L2
open PySem PySem.Spec PyProof.Rows
structure Mod (K : PySem.W.Frag) (mg : Str -> Option Value) (base : Heap) : Prop where
 kin : K.In base
 glob : base.Ns mainGlobals mg
 blt : ∃ mb, base.Ns builtinsNs mb /\ ∀ x : Str, x ≠ "__name__" -> mb x = bootBuiltins x
 nolimit : base.NoLimit
structure Cx where
 prog : Program
 w : World
 K : PySem.W.Frag
 mg : Str -> Option Value
 base : Heap
 A : Around
 N : List Str
 s₀ : Shared
 H₀ : Hp
 env : Env
 outer : List Env
 stack : List Env
 ex : List Addr
 fn : Str -> Bool
 calm : Bool
 pn : List (Addr × Obj)
 xe : Value -> Shared -> Prop
noncomputable def frs (l : List Env) : List Addr := l.filterMap (·.frame)
noncomputable abbrev Cx.fs (X : Cx) : List Addr := frs X.outer
noncomputable def Vis (sc : Scope) (x : Str) : Prop := sc.names.lookup x = some .local \/ sc.names.lookup x = some .cell \/ sc.names.lookup x = some .free
noncomputable def Loc (sc : Scope) (x : Str) : Prop := sc.names.lookup x = some .local \/ sc.names.lookup x = some .cell
noncomputable def Ah (env : Env) (h : Heap) (m : Str -> Option Value) (x : Str) (u : Value) : Prop :=
 (env.kindOf x = some .local /\ m x = some u) \/ ((env.kindOf x = some .cell \/ env.kindOf x = some .free) /\ ∃ c, env.cells.lookup x = some c /\ h.IsCell c (some u))
structure Cx.Ok (X : Cx) : Prop where
 mod : Mod X.K X.mg X.base
 kind : X.env.scope.kind = .function
 glob : X.env.globals = mainGlobals
 blt : X.env.builtins = builtinsNs
 above : X.s₀.heap.objs.size <= X.env.locals
 inj : ∀ x y c, X.env.cells.lookup x = some c -> X.env.cells.lookup y = some c -> x = y
 has : ∀ x, (X.env.kindOf x = some .cell \/ X.env.kindOf x = some .free) -> ∃ c, X.env.cells.lookup x = some c
 cab : ∀ x c, X.fn x = true -> X.env.cells.lookup x = some c -> X.s₀.heap.objs.size <= c
 hd : X.calm = true -> X.A.handled = none
 frames : X.A.frames = some X.stack
 stk : X.stack = X.outer \/ (X.stack = X.env :: X.outer /\ X.env.frame = some X.env.locals)
 exf : ∀ b ∈ X.ex, b ≠ X.env.locals /\ ∀ x c, X.env.cells.lookup x = some c -> c ≠ b
 bs : ∀ b o, X.base.get? b = some o -> X.s₀.heap.get? b = some o /\ X.H₀ b = none
 bsz : X.base.objs.size <= X.s₀.heap.objs.size
 noex : ∀ b o, X.base.get? b = some o -> b ∉ X.ex
 exfs : ∀ b ∈ X.ex, b ∉ X.fs
 funs : X.s₀.heap.FunFrames X.base X.outer
 frf : ∀ b ∈ X.fs, X.H₀ b = none
structure Inv (X : Cx) (pins : List (Addr × Obj)) (σ : List (Option V)) (H : Hp) (s : Shared) : Prop where
 ok : X.Ok
 os : s.os = X.s₀.os
 bare : AllBare s.gens
 base : Un X.fs X.ex X.H₀ H X.s₀.heap s.heap
 loc : ∃ m, s.heap.Ns X.env.locals m /\ ∀ (i : Nat) (x : Str) (v : V), X.N[i]? = some x -> σ[i]? = some (some v) -> Vis X.env.scope x -> ∃ u, zr v u /\ Ah X.env s.heap m x u
 cell : ∀ x c, X.env.cells.lookup x = some c -> ∃ v, s.heap.IsCell c v
 free : H X.env.locals = none
 freeC : ∀ x c, X.env.cells.lookup x = some c -> H c = none
 pin : ∀ p ∈ X.pn ++ pins, s.heap.get? p.1 = some p.2 /\ H p.1 = none /\ p.1 ≠ X.env.locals /\ p.1 ∉ X.fs /\ ∀ v, p.2.data ≠ .cell v
 hok : HOk X.prog X.w H s.heap
 len : σ.length = X.N.length
section
variable {X : Cx} {pins : List (Addr × Obj)} {σ : List (Option V)} {H H' : Hp} {s : Shared} {h' : Heap}
theorem Cx.Ok.nofr (ok : X.Ok) {b : Addr} {o : Obj} (e : X.base.get? b = some o) : b ∉ X.fs := fun hb => by
 have := (ok.funs.mem hb).1
 rw [e] at this; cases this
theorem Inv.bs (I : Inv X pins σ H s) : ∀ b o, X.base.get? b = some o -> s.heap.get? b = some o /\ H b = none := fun b o e =>
 ⟨I.base.keep b o (I.ok.bs b o e).1 (I.ok.bs b o e).2 (I.ok.nofr e) (I.ok.noex b o e), I.base.free b o (I.ok.bs b o e).1 (I.ok.bs b o e).2 (I.ok.noex b o e)⟩
theorem Inv.bk (I : Inv X pins σ H s) : ∀ b o, X.base.get? b = some o -> s.heap.get? b = some o := fun b o e => (I.bs b o e).1
theorem Inv.mod (I : Inv X pins σ H s) : Mod X.K X.mg X.base := I.ok.mod
theorem Inv.kIn (I : Inv X pins σ H s) : X.K.In s.heap := I.ok.mod.kin.keeps I.bk
theorem Inv.lt (I : Inv X pins σ H s) : X.env.locals < s.heap.objs.size := let ⟨_, hn, _⟩ := I.loc; hn.lt
theorem Inv.sz (I : Inv X pins σ H s) : X.s₀.heap.objs.size <= s.heap.objs.size := Nat.le_trans I.ok.above (Nat.le_of_lt I.lt)
theorem Inv.nofs (I : Inv X pins σ H s) {a : Addr} (h : s.heap.objs.size <= a) : a ∉ X.fs := fun hb => by
 obtain ⟨_, o, ho, _⟩ := I.ok.funs.mem hb
 exact absurd (Nat.lt_of_lt_of_le (Heap.lt_size ho) (Nat.le_trans I.sz h)) (Nat.lt_irrefl _)
theorem Inv.cne (I : Inv X pins σ H s) : ∀ x c, X.env.cells.lookup x = some c -> c ≠ X.env.locals := fun x c e z => by
 obtain ⟨v, o, ho, hd⟩ := I.cell x c e
 obtain ⟨m, ⟨o', es, ep, ho', hd', _⟩, _⟩ := I.loc
 rw [z, ho'] at ho; cases ho; rw [hd'] at hd; cases hd
theorem Inv.funs (I : Inv X pins σ H s) : s.heap.FunFrames X.base X.outer := by
 have all : ∀ (l : List Env), (∀ b ∈ frs l, b ∈ X.fs) -> X.s₀.heap.FunFrames X.base l -> s.heap.FunFrames X.base l := by
  intro l
  induction l with
  | nil => intro _ _; trivial
  | cons env r ih =>
   intro hs hl
   obtain ⟨hk, ⟨L, o, hf, hn, ho, hd⟩, hr⟩ := hl
   have hL : L ∈ X.fs := hs L (by unfold frs; rw [List.filterMap_cons, hf]; exact List.mem_cons_self)
   obtain ⟨sl, e⟩ := I.base.slot L o ho (I.ok.frf L hL) hL fun z => I.ok.exfs L z hL
   exact ⟨hk, ⟨L, _, hf, hn, e, hd⟩, ih (fun b hb => hs b (by unfold frs; rw [List.filterMap_cons, hf]; exact List.mem_cons_of_mem _ hb)) hr⟩
 exact all X.outer (fun _ hb => hb) I.ok.funs
theorem Inv.stack (I : Inv X pins σ H s) : s.heap.FunFrames X.base X.stack := by
 rcases I.ok.stk with e | ⟨e, hf⟩
 ·rw [e]; exact I.funs
 ·rw [e]
  obtain ⟨m, hn, _⟩ := I.loc
  refine .cons (by rw [I.ok.kind]; decide) hf hn ?_ I.funs
  exact Heap.get?_none_of_le (Nat.le_trans I.ok.bsz I.ok.above)
theorem Inv.stkSub (I : Inv X pins σ H s) : ∀ b ∈ frs X.stack, b ∈ X.env.locals :: X.fs := fun b hb => by
 rcases I.ok.stk with e | ⟨e, hf⟩
 ·rw [e] at hb; exact List.mem_cons_of_mem _ hb
 ·rw [e] at hb
  unfold frs at hb
  rw [List.filterMap_cons, hf] at hb
  exact hb
theorem Inv.stkFree (I : Inv X pins σ H s) : ∀ b ∈ frs X.stack, H b = none := fun b hb => by
 rcases List.mem_cons.mp (I.stkSub b hb) with e | hb
 ·rw [e]; exact I.free
 ·obtain ⟨_, o, ho, _⟩ := I.ok.funs.mem hb
  exact I.base.free b o ho (I.ok.frf b hb) fun z => I.ok.exfs b z hb
theorem Inv.step {g' : Array GenState} {t' : Nat} {d' : Drawn} {ch : List Addr} (I : Inv X pins σ H s)
  (hch : ∀ b ∈ ch, (b ∈ X.ex \/ X.s₀.heap.objs.size <= b) /\ b ≠ X.env.locals /\ (∀ x c, X.env.cells.lookup x = some c -> c ≠ b) /\ ∀ p ∈ X.pn ++ pins, p.1 ≠ b)
  (keep : ∀ b o, b ≠ X.env.locals -> b ∉ X.fs -> b ∉ ch -> s.heap.get? b = some o -> H b = none -> h'.get? b = some o)
  (slot : ∀ b o, b ≠ X.env.locals -> b ∈ X.fs -> b ∉ ch -> s.heap.get? b = some o -> H b = none -> ∃ sl, h'.get? b = some { o with slots := sl }) (free : ∀ b o, b ∉ ch -> s.heap.get? b = some o -> H b = none -> H' b = none)
  (there : ∀ b o, b ∉ ch -> s.heap.get? b = some o -> ∃ o', h'.get? b = some o')
  (tups : ∀ b xs, H b = some (.tup xs) -> H' b = some (.tup xs)) (frzs : ∀ b o u, H b = some (.frz o u) -> H' b = some (.frz o u)) (tbls : ∀ b ps, H b = some (.tbl ps) -> ∃ more, H' b = some (.tbl (ps ++ more)))
  (ns : ∀ m, s.heap.Ns X.env.locals m -> h'.Ns X.env.locals m) (hok : HOk X.prog X.w H' h') (hg : AllBare g') :
  Inv X pins σ H' { s with heap := h', gens := g', drawn := d', toks := t' } := by
 have neL : ∀ b o, X.s₀.heap.get? b = some o -> b ≠ X.env.locals := fun b o e => Nat.ne_of_lt (Nat.lt_of_lt_of_le (Heap.lt_size e) I.ok.above)
 have neC : ∀ b o, X.s₀.heap.get? b = some o -> b ∉ X.ex -> b ∉ ch := fun b o e hx hb => by
  rcases (hch b hb).1 with z | z
  ·exact hx z
  ·exact absurd (Nat.lt_of_lt_of_le (Heap.lt_size e) z) (Nat.lt_irrefl _)
 have cellK : ∀ x c, X.env.cells.lookup x = some c -> ∀ v, s.heap.IsCell c v -> h'.IsCell c v := fun x c e v ⟨o, ho, hd⟩ => by
  have nch : c ∉ ch := fun z => (hch c z).2.2.1 x c e rfl
  by_cases hc : c ∈ X.fs
  ·obtain ⟨sl, q⟩ := slot c o (I.cne x c e) hc nch ho (I.freeC x c e)
   exact ⟨_, q, hd⟩
  ·exact ⟨o, keep c o (I.cne x c e) hc nch ho (I.freeC x c e), hd⟩
 refine ⟨I.ok, I.os, hg, ⟨fun b o e n hb hx => ?_, fun b o e n hb hx => ?_, fun b o e n hx => ?_, fun b o e hx => ?_, fun b xs e => tups b xs (I.base.tups b xs e), fun b o xs e => frzs b o xs (I.base.frzs b o xs e), fun b ps e => ?_⟩, ?_, fun x c e => ?_, ?_, fun x c e => ?_, fun p hp => ?_, hok, I.len⟩
 ·exact keep b o (neL b o e) hb (neC b o e hx) (I.base.keep b o e n hb hx) (I.base.free b o e n hx)
 ·obtain ⟨sl, e1⟩ := I.base.slot b o e n hb hx
  obtain ⟨sl', e2⟩ := slot b _ (neL b o e) hb (neC b o e hx) e1 (I.base.free b o e n hx)
  exact ⟨sl', e2⟩
 ·obtain ⟨o', e1⟩ := I.base.there b o e hx
  exact free b o' (neC b o e hx) e1 (I.base.free b o e n hx)
 ·obtain ⟨o', e1⟩ := I.base.there b o e hx
  exact there b o' (neC b o e hx) e1
 ·obtain ⟨m1, e1⟩ := I.base.tbls b ps e
  obtain ⟨m2, e2⟩ := tbls b _ e1
  exact ⟨m1 ++ m2, by rw [e2, Array.append_assoc]⟩
 ·obtain ⟨m, hn, hl⟩ := I.loc
  refine ⟨m, ns m hn, fun i x v e1 e2 e3 => ?_⟩
  obtain ⟨u, r, l⟩ := hl i x v e1 e2 e3
  refine ⟨u, r, ?_⟩
  rcases l with l | ⟨k, c, e, z⟩
  ·exact .inl l
  ·exact .inr ⟨k, c, e, cellK x c e _ z⟩
 ·obtain ⟨v, z⟩ := I.cell x c e
  exact ⟨v, cellK x c e v z⟩
 ·obtain ⟨m, ⟨o, _, _, ho, _⟩, _⟩ := I.loc
  exact free _ o (fun z => (hch _ z).2.1 rfl) ho I.free
 ·obtain ⟨v, o, ho, hd⟩ := I.cell x c e
  exact free c o (fun z => (hch c z).2.2.1 x c e rfl) ho (I.freeC x c e)
 ·obtain ⟨e, n, ne, nf, d⟩ := I.pin p hp
  have nch : p.1 ∉ ch := fun z => (hch p.1 z).2.2.2 p hp rfl
  exact ⟨keep p.1 p.2 ne nf nch e n, free p.1 p.2 nch e n, ne, nf, d⟩
theorem Inv.un {t' : Nat} (I : Inv X pins σ H s) (u : Un X.fs [] H H' s.heap h') (hok : HOk X.prog X.w H' h') : Inv X pins σ H' { s with heap := h', toks := t' } := by
 obtain ⟨m, ⟨o, es, ep, ho, r⟩, _⟩ := id I.loc
 obtain ⟨sl, hL⟩ := u.any ho I.free (by simp)
 exact I.step (g' := s.gens) (d' := s.drawn) (ch := []) (fun _ z => nomatch z) (fun b o _ hb _ e n => u.keep b o e n hb (by simp)) (fun b o _ hb _ e n => u.slot b o e n hb (by simp)) (fun b o _ e n => u.free b o e n (by simp)) (fun b o _ e => u.there b o e (by simp)) u.tups u.frzs u.tbls (fun m' hm => by
  obtain ⟨o', es', ep', ho', r'⟩ := hm
  rw [ho] at ho'; cases ho'
  exact ⟨_, es', ep', hL, r'⟩) hok I.bare
theorem Inv.call {g' : Array GenState} {t' : Nat} {d' : Drawn} {ch : List Addr} (I : Inv X pins σ H s) (u : Un (frs X.stack) ch H H' s.heap h') (hok : HOk X.prog X.w H' h') (hg : AllBare g')
  (hch : ∀ b ∈ ch, (b ∈ X.ex \/ X.s₀.heap.objs.size <= b) /\ b ≠ X.env.locals /\ (∀ x c, X.env.cells.lookup x = some c -> c ≠ b) /\ ∀ p ∈ X.pn ++ pins, p.1 ≠ b) :
  Inv X pins σ H' { s with heap := h', gens := g', drawn := d', toks := t' } := by
 obtain ⟨m, ⟨o, es, ep, ho, r⟩, _⟩ := id I.loc
 obtain ⟨sl, hL⟩ := u.any ho I.free fun z => (hch _ z).2.1 rfl
 exact I.step (ch := ch) hch (fun b o hL hb hc e n => u.keep b o e n (fun z => (List.mem_cons.mp (I.stkSub b z)).elim hL hb) hc) (fun b o _ _ hc e n => u.any e n hc) (fun b o hc e n => u.free b o e n hc) (fun b o hc e => u.there b o e hc) u.tups u.frzs u.tbls (fun m' hm => by
  obtain ⟨o', es', ep', ho', r'⟩ := hm
  rw [ho] at ho'; cases ho'
  exact ⟨_, es', ep', hL, r'⟩) hok hg
theorem Inv.turned {t' : Nat} {it : Addr} (I : Inv X pins σ H s) (k : ∀ b o, b ≠ it -> s.heap.get? b = some o -> h'.get? b = some o) (hn : H it = none) (hL : it ≠ X.env.locals)
  (h1 : it ∈ X.ex \/ X.s₀.heap.objs.size <= it) (h2 : ∀ x c, X.env.cells.lookup x = some c -> c ≠ it) (h3 : ∀ p ∈ X.pn ++ pins, p.1 ≠ it) : Inv X pins σ H { s with heap := h', toks := t' } := by
 have nit : ∀ b u, H b = some u -> b ≠ it := fun b u e z => by rw [z, hn] at e; cases e
 refine I.step (g' := s.gens) (d' := s.drawn) (ch := [it]) (fun b hb => ?_) (fun b o _ _ hc e _ => k b o (fun z => hc (by simp [z])) e) (fun b o _ _ hc e _ => ⟨o.slots, k b o (fun z => hc (by simp [z])) e⟩) (fun _ _ _ _ n => n)
  (fun b o hc e => ⟨o, k b o (fun z => hc (by simp [z])) e⟩) (fun _ _ e => e) (fun _ _ _ e => e) (fun b ps e => ⟨#[], by rw [e]; simp⟩) (fun m hm => ?_) (fun b u e => ?_) I.bare
 ·have e : b = it := by simpa using hb
  subst e
  exact ⟨h1, hL, h2, h3⟩
 ·obtain ⟨o, es, ep, ho, r⟩ := hm
  exact ⟨o, es, ep, k _ o (Ne.symm hL) ho, r⟩
 ·refine (I.hok b u e).stay (fun c v hc q => k c v ?_ q) (fun _ q => q) fun _ _ q => q
  rcases hc with z | z
  ·rw [z]; exact nit b u e
  ·exact nit c _ z
theorem Inv.tok (I : Inv X pins σ H s) (t : Nat) : Inv X pins σ H { s with toks := t } := I.un (h' := s.heap) (t' := t) Un.refl I.hok
theorem Inv.kept {t' : Nat} (I : Inv X pins σ H s) (k : ∀ b u, s.heap.get? b = some u -> h'.get? b = some u) : Inv X pins σ H { s with heap := h', toks := t' } := I.un (Un.kept k) (I.hok.kept k)
theorem Inv.laid {a : Addr} {o : HO} {t' : Nat} (I : Inv X pins σ H s) (k : ∀ b u, s.heap.get? b = some u -> h'.get? b = some u) (hp : s.heap.objs.size <= a) (new : zI X.prog X.w (upd H a o) h' a o) :
  Inv X pins σ (upd H a o) { s with heap := h', toks := t' } := I.un (Un.laid k hp (I.hok.fresh hp)) (I.hok.laid k hp new)
theorem Inv.write {x e : Addr} {o : HO} {t' : Nat} (I : Inv X pins σ H s) (mu : Mut (H x)) (he : e = x \/ H e = some (.own x)) (k : ∀ b u, b ≠ e -> s.heap.get? b = some u -> h'.get? b = some u) (heo : ∃ u, h'.get? e = some u)
  (new : zI X.prog X.w (upd H x o) h' x o) : Inv X pins σ (upd H x o) { s with heap := h', toks := t' } := I.un (Un.write mu he k heo) (I.hok.write mu he k heo new)
theorem Inv.pins_of {pins' : List (Addr × Obj)} (I : Inv X pins σ H s) (h : ∀ p ∈ pins', s.heap.get? p.1 = some p.2 /\ H p.1 = none /\ p.1 ≠ X.env.locals /\ p.1 ∉ X.fs /\ ∀ v, p.2.data ≠ .cell v) : Inv X pins' σ H s :=
 ⟨I.ok, I.os, I.bare, I.base, I.loc, I.cell, I.free, I.freeC, fun p hp => (List.mem_append.mp hp).elim (fun z => I.pin p (List.mem_append_left _ z)) (h p), I.hok, I.len⟩
theorem vw {N : List Str} (hN : N.Nodup) {i j : Nat} {x : Str} (a : N[i]? = some x) (b : N[j]? = some x) : i = j := by
 obtain ⟨h1, e1⟩ := List.getElem?_eq_some_iff.mp a
 obtain ⟨h2, e2⟩ := List.getElem?_eq_some_iff.mp b
 exact (List.getElem_inj hN).mp (e1.trans e2.symm)
theorem xF {M : Model} {A : Around} {E : Value -> Shared -> Prop} {i : Nat} {x : Str} {v : V} {u : Value} {Q : Unit -> Shared -> Prop} (I : Inv X pins σ H s) (hN : X.N.Nodup) (hi : X.N[i]? = some x) (hx : Loc X.env.scope x) (r : zr v u)
    (h : ∀ s', Inv X pins (σ.set i (some v)) H s' -> (∃ a, Heap.SameBut a s.heap s'.heap /\ (a = X.env.locals \/ X.env.cells.lookup x = some a)) -> Q () s') (hf : X.fn x = true \/ X.env.scope.names.lookup x = some .local := by first | exact .inl rfl | exact .inr rfl | assumption) : wpAny M A (storeName X.env x u) Q E s := by
  obtain ⟨m, hn, hl⟩ := id I.loc
  have hcls : (X.env.scope.kind == .class || (X.env.scope.kind == .module && X.env.locals != X.env.globals)) = false := by rw [I.ok.kind]; rfl
  have hiσ : i < σ.length := by rw [I.len]; exact (List.getElem?_eq_some_iff.mp hi).1
  have cne := I.cne
  have tracked : ∀ {a : Addr} {h' : Heap}, (∃ o, s.heap.get? a = some o /\ H a = none) -> Heap.SameBut a s.heap h' -> HOk X.prog X.w H h' := fun {a h'} ha hs b ob e => by
    obtain ⟨_, _, hfree⟩ := ha
    refine (I.hok b ob e).stay (fun c w' hc q => (hs.2 c ?_).trans q) (fun _ q => q) fun _ _ q => q
    rintro rfl
    rcases hc with rfl | hc
    · rw [hfree] at e; cases e
    · rw [hfree] at hc; cases hc
  rcases hx with hk | hk
  · refine wpAny_storeName_local hk hn (fun h' hn' hs => ?_) hcls
    obtain ⟨oL, _, _, hoL, _⟩ := id hn
    refine h _ ⟨I.ok, I.os, I.bare, ⟨fun b o e n hb hx => ?_, fun b o e n hb hx => ?_, I.base.free, fun b o e hx => ?_, I.base.tups, I.base.frzs, I.base.tbls⟩, ⟨_, hn', fun j y v' e1 e2 e3 => ?_⟩, fun y c e => ?_, I.free, I.freeC, fun p hp => ?_, tracked ⟨oL, hoL, I.free⟩ hs, by simpa using I.len⟩ ⟨_, hs, .inl rfl⟩
    · exact (hs.2 b (Nat.ne_of_lt (Nat.lt_of_lt_of_le (Heap.lt_size e) I.ok.above))).trans (I.base.keep b o e n hb hx)
    · obtain ⟨sl, e1⟩ := I.base.slot b o e n hb hx
      exact ⟨sl, (hs.2 b (Nat.ne_of_lt (Nat.lt_of_lt_of_le (Heap.lt_size e) I.ok.above))).trans e1⟩
    · obtain ⟨o', e1⟩ := I.base.there b o e hx
      exact ⟨o', (hs.2 b (Nat.ne_of_lt (Nat.lt_of_lt_of_le (Heap.lt_size e) I.ok.above))).trans e1⟩
    · by_cases hj : j = i
      · subst hj
        rw [hi] at e1; cases e1
        rw [List.getElem?_set_self hiσ] at e2
        cases e2
        exact ⟨u, r, .inl ⟨hk, by simp⟩⟩
      · rw [List.getElem?_set_ne (Ne.symm hj)] at e2
        obtain ⟨u', r', q⟩ := hl j y v' e1 e2 e3
        refine ⟨u', r', ?_⟩
        rcases q with ⟨k, e⟩ | ⟨k, c, e, z⟩
        · refine .inl ⟨k, ?_⟩
          have : y ≠ x := fun e => hj (vw hN e1 (e ▸ hi))
          simp [this, e]
        · exact .inr ⟨k, c, e, z.sameBut hs (cne y c e)⟩
    · obtain ⟨w', z⟩ := I.cell y c e
      exact ⟨w', z.sameBut hs (cne y c e)⟩
    · obtain ⟨e, n, ne, nf, d⟩ := I.pin p hp
      exact ⟨(hs.2 p.1 ne).trans e, n, ne, nf, d⟩
  · have hfn : X.fn x = true := by
      rcases hf with z | z
      · exact z
      · rw [z] at hk; cases hk
    obtain ⟨c, hc⟩ := I.ok.has x (.inl hk)
    obtain ⟨w', z⟩ := I.cell x c hc
    refine wpAny_storeName_cell I.ok.kind hk hc z (fun h' hc' hs => ?_)
    obtain ⟨oc, hoc, hocd⟩ := id z
    refine h { s with heap := h' } ⟨I.ok, I.os, I.bare, ⟨fun b o e n hb hx => ?_, fun b o e n hb hx => ?_, I.base.free, fun b o e hx => ?_, I.base.tups, I.base.frzs, I.base.tbls⟩, ⟨m, hn.sameBut hs (Ne.symm (cne x c hc)), fun j y v' e1 e2 e3 => ?_⟩, fun y c' e => ?_, I.free, I.freeC, fun p hp => ?_, tracked ⟨oc, hoc, I.freeC x c hc⟩ hs, by simpa using I.len⟩ ⟨c, hs, .inr hc⟩
    · exact (hs.2 b (Nat.ne_of_lt (Nat.lt_of_lt_of_le (Heap.lt_size e) (I.ok.cab x c hfn hc)))).trans (I.base.keep b o e n hb hx)
    · obtain ⟨sl, e1⟩ := I.base.slot b o e n hb hx
      exact ⟨sl, (hs.2 b (Nat.ne_of_lt (Nat.lt_of_lt_of_le (Heap.lt_size e) (I.ok.cab x c hfn hc)))).trans e1⟩
    · obtain ⟨o', e1⟩ := I.base.there b o e hx
      exact ⟨o', (hs.2 b (Nat.ne_of_lt (Nat.lt_of_lt_of_le (Heap.lt_size e) (I.ok.cab x c hfn hc)))).trans e1⟩
    · by_cases hj : j = i
      · subst hj
        rw [hi] at e1; cases e1
        rw [List.getElem?_set_self hiσ] at e2
        cases e2
        exact ⟨u, r, .inr ⟨.inl hk, c, hc, hc'⟩⟩
      · rw [List.getElem?_set_ne (Ne.symm hj)] at e2
        obtain ⟨u', r', q⟩ := hl j y v' e1 e2 e3
        refine ⟨u', r', ?_⟩
        rcases q with q | ⟨k, c', e, z'⟩
        · exact .inl q
        · refine .inr ⟨k, c', e, z'.sameBut hs ?_⟩
          rintro rfl
          exact hj (vw hN e1 (I.ok.inj _ _ _ e hc ▸ hi))
    · by_cases hcc : c' = c
      · subst hcc; exact ⟨_, hc'⟩
      · obtain ⟨w2, z2⟩ := I.cell y c' e
        exact ⟨w2, z2.sameBut hs hcc⟩
    · obtain ⟨e, n, ne, nf, d⟩ := I.pin p hp
      refine ⟨(hs.2 p.1 ?_).trans e, n, ne, nf, d⟩
      intro q
      rw [q, hoc] at e
      have q' : oc = p.2 := Option.some.inj e
      exact d w' (by rw [<- q']; exact hocd)
theorem qJ {M : Model} {A : Around} {E : Value -> Shared -> Prop} {i : Nat} {x : Str} {v : V} {u : Value} {Q : Unit -> Shared -> Prop} (I : Inv X pins σ H s) (hN : X.N.Nodup) (hi : X.N[i]? = some x) (hx : Loc X.env.scope x) (r : zr v u)
  (h : ∀ s', Inv X pins (σ.set i (some v)) H s' -> Q () s') (hf : X.fn x = true \/ X.env.scope.names.lookup x = some .local := by first | exact .inl rfl | exact .inr rfl | assumption) : wpAny M A (storeName X.env x u) Q E s :=
 xF I hN hi hx r (fun s' I' _ => h s' I') hf
theorem Inv.call' {s' : Shared} {ch : List Addr} (I : Inv X pins σ H s) (ho : s'.os = s.os) (u : Un (frs X.stack) ch H H' s.heap s'.heap) (hok : HOk X.prog X.w H' s'.heap) (hg : AllBare s'.gens)
  (hch : ∀ b ∈ ch, (b ∈ X.ex \/ X.s₀.heap.objs.size <= b) /\ b ≠ X.env.locals /\ (∀ x c, X.env.cells.lookup x = some c -> c ≠ b) /\ ∀ p ∈ X.pn ++ pins, p.1 ≠ b) : Inv X pins σ H' s' := by
 obtain ⟨h', g', d', t', o'⟩ := s'
 have e : o' = s.os := ho
 subst e
 exact I.call (g' := g') (t' := t') (d' := d') u hok hg hch
end
noncomputable abbrev XK := Value -> Option Addr -> Hp -> Prop
noncomputable abbrev St := List (Option V)
noncomputable abbrev VK := V -> Hp -> Prop
noncomputable abbrev TE := St -> Hp -> VK -> Prop
noncomputable abbrev TT := St -> Hp -> (Bool -> Hp -> Prop) -> Prop
noncomputable abbrev TA := St -> Hp -> (List V -> Hp -> Prop) -> Prop
structure ko where
 nx : St -> Hp -> Prop
 rt : VK
 bk : St -> Hp -> Prop := fun _ _ => False
 ct : St -> Hp -> Prop := fun _ _ => False
noncomputable abbrev TS := ko -> St -> Hp -> Prop
noncomputable def EP (X : Cx) (pins : List (Addr × Obj)) (σ : St) (Q : VK) (u : Value) (s' : Shared) : Prop := ∃ v H', Inv X pins σ H' s' /\ zr v u /\ Q v H'
noncomputable def TP (X : Cx) (pins : List (Addr × Obj)) (σ : St) (Q : Bool -> Hp -> Prop) (b : Bool) (s' : Shared) : Prop := ∃ H', Inv X pins σ H' s' /\ Q b H'
noncomputable def AP (X : Cx) (pins : List (Addr × Obj)) (σ : St) (Q : List V -> Hp -> Prop) (us : List Value) (s' : Shared) : Prop := ∃ vs H', Inv X pins σ H' s' /\ zq vs us /\ Q vs H'
noncomputable def SP (X : Cx) (pins : List (Addr × Obj)) (D : ko) (f : Flow) (s' : Shared) : Prop :=
 match f with
 | .next => ∃ σ' H', Inv X pins σ' H' s' /\ D.nx σ' H'
 | .brk => ∃ σ' H', Inv X pins σ' H' s' /\ D.bk σ' H'
 | .cont => ∃ σ' H', Inv X pins σ' H' s' /\ D.ct σ' H'
 | .ret u => ∃ v σ' H', Inv X pins σ' H' s' /\ zr v u /\ D.rt v H'
noncomputable def PE (X : Cx) (e : Expr) (t : TE) : Prop :=
 ∀ (pins : List (Addr × Obj)) (s : Shared) (σ : St) (H : Hp) (Q : VK), Inv X pins σ H s -> t σ H Q -> wpAny (model X.prog X.w) X.A (eval e X.env) (EP X pins σ Q) X.xe s
noncomputable def PT (X : Cx) (e : Expr) (t : TT) : Prop :=
 ∀ (pins : List (Addr × Obj)) (s : Shared) (σ : St) (H : Hp) (Q : Bool -> Hp -> Prop), Inv X pins σ H s -> t σ H Q -> wpAny (model X.prog X.w) X.A (isTrue e X.env (eval e X.env)) (TP X pins σ Q) X.xe s
noncomputable def PW (X : Cx) (e : Expr) (t : TT) : Prop :=
 ∀ (whole : Sem Value) (pins : List (Addr × Obj)) (s : Shared) (σ : St) (H : Hp) (Q : Bool -> Hp -> Prop), Inv X pins σ H s -> t σ H Q -> wpAny (model X.prog X.w) X.A (isTrue e X.env whole) (TP X pins σ Q) X.xe s
theorem PW.pt {X : Cx} {e : Expr} {t : TT} (h : PW X e t) : PT X e t := h _
noncomputable def PA (X : Cx) (es : List Expr) (t : TA) : Prop :=
 ∀ (pos : Pos) (pins : List (Addr × Obj)) (s : Shared) (σ : St) (H : Hp) (Q : List V -> Hp -> Prop), Inv X pins σ H s -> t σ H Q -> wpAny (model X.prog X.w) X.A (spliced (backTo pos (starEach es X.env))) (AP X pins σ Q) X.xe s
noncomputable def PS (X : Cx) (st : Stmt) (t : TS) : Prop :=
 ∀ (pins : List (Addr × Obj)) (s : Shared) (σ : St) (H : Hp) (D : ko), Inv X pins σ H s -> t D σ H -> wpAny (model X.prog X.w) X.A (exec st X.env) (SP X pins D) X.xe s
noncomputable def PSs (X : Cx) (st : List Stmt) (t : TS) : Prop :=
 ∀ (pins : List (Addr × Obj)) (s : Shared) (σ : St) (H : Hp) (D : ko), Inv X pins σ H s -> t D σ H -> wpAny (model X.prog X.w) X.A (execs st X.env) (SP X pins D) X.xe s
theorem thn {α : Type} {t : Sem α} {Q Q' : α -> Shared -> Prop} {M : Model} {A : Around} {E : Value -> Shared -> Prop} {s : Shared} (h : wpAny M A t Q E s) (hQ : ∀ a s, Q a s -> Q' a s) : wpAny M A t Q' E s := wpAny_mono h hQ fun _ _ x => x
end L2
namespace L2
open PySem PySem.Spec PyProof.Rows
section
variable {X : Cx}
theorem bin {a b : Expr} {ta tb : TE} (ha : PE X a ta) (hb : PE X b tb) {pins : List (Addr × Obj)} {s : Shared} {σ : St} {H : Hp} {R : V -> V -> Hp -> Prop} (I : Inv X pins σ H s) (h : ta σ H fun x H1 => tb σ H1 fun y H2 => R x y H2)
  {α : Type} {Q : α -> Shared -> Prop} {f : Value -> Value -> Sem α}
  (hf : ∀ v u s2 x y H2, Inv X pins σ H2 s2 -> zr x v -> zr y u -> R x y H2 -> wpAny (model X.prog X.w) X.A (f v u) Q X.xe s2) :
  wpAny (model X.prog X.w) X.A (eval a X.env) (fun v s₁ => wpAny (model X.prog X.w) X.A (eval b X.env) (fun u s₂ => wpAny (model X.prog X.w) X.A (f v u) Q X.xe s₂) X.xe s₁) X.xe s := by
 refine thn (ha pins s σ H _ I h) fun v s1 ⟨x, H1, I1, r1, q1⟩ => ?_
 refine thn (hb pins s1 σ H1 _ I1 q1) fun u s2 ⟨y, H2, I2, r2, q2⟩ => ?_
 exact hf v u s2 x y H2 I2 r1 r2 q2
noncomputable def XD (i : Nat) : TE := fun σ H Q => ∃ v, σ[i]? = some (some v) /\ Q v H
noncomputable def tC (v : V) : TE := fun _ H Q => Q v H
theorem Yt {i : Nat} {x : Str} {pos : Pos} (hN : X.N[i]? = some x) (hv : Vis X.env.scope x) (hd : (x == ("__debug__" : Str)) = false := by decide) (hcd : (x == ("__classdict__" : Str)) = false := by decide) : PE X (.Name x pos) (XD i) := by
 intro pins s σ H Q I h
 obtain ⟨v, e, h⟩ := h
 obtain ⟨m, hn, hl⟩ := I.loc
 obtain ⟨u, r, l⟩ := hl i x v hN e hv
 have fin : EP X pins σ Q u s := ⟨v, H, I, r, h⟩
 rcases l with ⟨hk, hm⟩ | ⟨hk, c, hc, hcell⟩
 ·exact wpAny_Name (wpAny_loadName_local I.ok.kind hk hn hm fin) hd
 ·rcases hk with hk | hk
  ·exact wpAny_Name (wpAny_loadName_cell I.ok.kind hk hc hcell fin) hd
  ·exact wpAny_Name (wpAny_loadName_free I.ok.kind hk hc hcell fin hcd) hd
theorem zb {i j pos} : PE X (.Constant (.int i) j pos) (tC (.int i)) := fun _ _ _ H _ I h => wpAny_Constant_int ⟨.int i, H, I.tok _, ⟨_, rfl⟩, h⟩
theorem kL {b j pos} : PE X (.Constant (.bool b) j pos) (tC (.bl b)) := fun _ _ _ H _ I h => Constant_bool ⟨.bl b, H, I, rfl, h⟩
theorem YW {j pos} : PE X (.Constant .none j pos) (tC .non) := fun _ _ _ H _ I h => Constant_none ⟨.non, H, I, rfl, h⟩
noncomputable def Gl (X : Cx) (x : Str) : Prop := X.env.kindOf x = some .globalImplicit
theorem K0 {E : Value -> Shared -> Prop} {pins : List (Addr × Obj)} {s : Shared} {σ : St} {H : Hp} {x : Str} {u : Value} {pos : Pos} {Q : Value -> Shared -> Prop} (I : Inv X pins σ H s) (hg : Gl X x) (hm : X.mg x = some u) (h : Q u s)
  (hd : (x == ("__debug__" : Str)) = false := by decide) : wpAny (model X.prog X.w) X.A (eval (.Name x pos) X.env) Q E s :=
 Calls.Name_function_global I.ok.kind hg (Calls.loadGlobal_global (by rw [I.ok.glob]; exact I.mod.glob.keeps I.bk) hm h) hd
theorem jF {E : Value -> Shared -> Prop} {pins : List (Addr × Obj)} {s : Shared} {σ : St} {H : Hp} {x : Str} {u : Value} {pos : Pos} {Q : Value -> Shared -> Prop} (I : Inv X pins σ H s) (hg : Gl X x) (hm : X.mg x = none) (hv : bootBuiltins x = some u) (h : Q u s)
  (hn : x ≠ "__name__" := by decide) (hd : (x == ("__debug__" : Str)) = false := by decide) : wpAny (model X.prog X.w) X.A (eval (.Name x pos) X.env) Q E s := by
 obtain ⟨mb, h1, h2⟩ := I.mod.blt
 exact Calls.Name_function_global I.ok.kind hg (Calls.loadGlobal_builtin (by rw [I.ok.glob]; exact I.mod.glob.keeps I.bk) hm (by rw [I.ok.blt]; exact h1.keeps I.bk) ((h2 x hn).trans hv) h) hd
theorem zY {x : Str} {v : V} {u : Value} {pos : Pos} (hg : Gl X x) (hm : X.mg x = none) (hv : bootBuiltins x = some u) (r : zr v u) (hn : x ≠ "__name__" := by decide) (hd : (x == ("__debug__" : Str)) = false := by decide) : PE X (.Name x pos) (tC v) :=
 fun _ _ _ H _ I h => jF I hg hm hv ⟨v, H, I, r, h⟩ hn hd
variable {a b : Expr} {ta tb : TE} {pos : Pos}
noncomputable def PC (X : Cx) (op : CmpOp) (a b : Expr) (t : TE) : Prop :=
 ∀ (pins : List (Addr × Obj)) (s : Shared) (σ : St) (H : Hp) (Q : VK), Inv X pins σ H s -> t σ H Q ->
  wpAny (model X.prog X.w) X.A (eval a X.env) (fun v s₁ => wpAny (model X.prog X.w) X.A (eval b X.env) (fun u s₂ => wpAny (model X.prog X.w) X.A (compareOp op v u) (EP X pins σ Q) X.xe s₂) X.xe s₁) X.xe s
theorem Kw (b : Expr) {op : CmpOp} (h : op ≠ .In) (h2 : op ≠ .NotIn) : behindInMarks op b = false := by
 have e1 : (op == CmpOp.In) = false := by cases op <;> first | rfl | exact absurd rfl h
 have e2 : (op == CmpOp.NotIn) = false := by cases op <;> first | rfl | exact absurd rfl h2
 cases b <;> simp [behindInMarks, e1, e2]
noncomputable def tB (t : TE) : TT := fun σ H Q => t σ H fun x H1 => ∃ c, x = .bl c /\ Q c H1
theorem Aa {op : CmpOp} {t : TE} (h : PC X op a b t) (h1 : behindInMarks op b = false := by first | exact Kw _ (by decide) (by decide) | rfl) : PT X (.Compare a [op] [b] pos) (tB t) := by
 intro pins s σ H Q I hw
 refine wpAny_isTrue_Compare1 (thn (h pins s σ H _ I hw) fun v s1 h1 => thn h1 fun u s2 h2 => thn h2 fun c s3 ⟨x, H1, I1, r1, q1⟩ => ?_) h1
 obtain ⟨d, rfl, q⟩ := q1
 cases r1
 exact wpAny_truthy_bool ⟨H1, I1, q⟩
theorem kO {e : Expr} {t : TE} (h : PE X e t) (he : ∀ whole, isTrue e X.env whole = (do let v <- whole; standAt e.pos; holding [v] (truthy v)) := by intro _; rfl) : PT X e (tB t) := by
 intro pins s σ H Q I hw
 refine isTrue_plain (thn (h pins s σ H _ I hw) fun v s1 ⟨x, H1, I1, r1, q1⟩ => ?_) (he _)
 obtain ⟨d, rfl, q⟩ := q1
 cases r1
 exact wpAny_truthy_bool ⟨H1, I1, q⟩
variable {tA tB' : TT} {jD : List Expr}
noncomputable def Ve (t u : TT) : TT := fun σ H Q => t σ H fun c H1 => if c = true then u σ H1 Q else Q false H1
noncomputable def tOr (t u : TT) : TT := fun σ H Q => t σ H fun c H1 => if c = true then Q true H1 else u σ H1 Q
noncomputable def Y5 (t : TT) : TT := fun σ H Q => t σ H fun c H1 => Q (!c) H1
theorem Xq (ha : PT X a tA) : PW X (.BoolOp .And [a] pos) tA := by
 intro wh pins s σ H Q I h
 refine isTrue_and (thn (ha pins s σ H Q I h) fun c s1 e => ?_)
 cases c with
 | true => exact isTrue_and_nil e
 | false => exact e
theorem QV (ha : PT X a tA) : PW X (.BoolOp .Or [a] pos) tA := by
 intro wh pins s σ H Q I h
 refine isTrue_or (thn (ha pins s σ H Q I h) fun c s1 e => ?_)
 cases c with
 | false => exact isTrue_or_nil e
 | true => exact e
theorem Vv (ha : PT X a tA) (hb : PW X (.BoolOp .And (b :: jD) pos) tB') : PW X (.BoolOp .And (a :: b :: jD) pos) (Ve tA tB') := by
 intro wh pins s σ H Q I h
 refine isTrue_and (thn (ha pins s σ H _ I h) fun c s1 ⟨H1, I1, q1⟩ => ?_)
 cases c with
 | true => exact hb wh pins s1 σ H1 Q I1 q1
 | false => exact ⟨H1, I1, q1⟩
theorem Yh (ha : PT X a tA) (hb : PW X (.BoolOp .Or (b :: jD) pos) tB') : PW X (.BoolOp .Or (a :: b :: jD) pos) (tOr tA tB') := by
 intro wh pins s σ H Q I h
 refine isTrue_or (thn (ha pins s σ H _ I h) fun c s1 ⟨H1, I1, q1⟩ => ?_)
 cases c with
 | true => exact ⟨H1, I1, q1⟩
 | false => exact hb wh pins s1 σ H1 Q I1 q1
theorem wx (ha : PT X a tA) : PT X (.UnaryOp .Not a pos) (Y5 tA) := by
 intro pins s σ H Q I h
 exact isTrue_not (ha pins s σ H (fun c H1 => Q (!c) H1) I h)
noncomputable def JF (ta tb : TE) : TE := fun σ H Q => ta σ H fun x H1 => ∃ c, x = .bl c /\ if c = true then tb σ H1 Q else Q (.bl false) H1
theorem vQ {op} {t : TE} (h : PE X a t) : PE X (.BoolOp op [a] pos) t := fun pins s σ H Q I hw => BoolOp_one (h pins s σ H Q I hw)
theorem ya (ha : PE X a ta) (hb : PE X (.BoolOp .And (b :: jD) pos) tb) : PE X (.BoolOp .And (a :: b :: jD) pos) (JF ta tb) := by
 intro pins s σ H Q I h
 refine BoolOp_and (thn (ha pins s σ H _ I h) fun v s1 ⟨x, H1, I1, r1, q1⟩ => ?_)
 obtain ⟨c, rfl, q1⟩ := q1
 cases r1
 refine wpAny_truthy_bool ?_
 cases c with
 | true => exact hb pins s1 σ H1 Q I1 q1
 | false => exact ⟨.bl false, H1, I1, rfl, q1⟩
noncomputable def tIf (t : TT) (ta tb : TE) : TE := fun σ H Q => t σ H fun c H1 => if c = true then ta σ H1 Q else tb σ H1 Q
theorem Q6 {c : Expr} (hc : PT X c tA) (ha : PE X a ta) (hb : PE X b tb) : PE X (.IfExp c a b pos) (tIf tA ta tb) := by
 intro pins s σ H Q I h
 refine wpAny_IfExp (thn (hc pins s σ H _ I h) fun d s1 ⟨H1, I1, q1⟩ => ?_)
 cases d with
 | true => exact ha pins s1 σ H1 Q I1 q1
 | false => exact hb pins s1 σ H1 Q I1 q1
end
end L2
namespace L2
open PySem PySem.Spec PyProof.Rows
noncomputable def SqL (K : PySem.W.Frag) (H : Hp) (a : Addr) (xs : List V) : Prop :=
 Rd H a (.lst xs) \/
  ∃ (o : Obj) (its : Array Value) (n : Nat), K.lookup a = some o /\ o.cls = .type "list" /\ o.dict = none /\ o.data = .seq its n /\ its.size <= sizeLine /\ zq xs its.toList
noncomputable def SqT (K : PySem.W.Frag) (H : Hp) (a : Addr) (xs : List V) : Prop :=
 Rd H a (.tup xs) \/
  ∃ (o : Obj) (its : Array Value) (n : Nat), K.lookup a = some o /\ o.cls = .type "tuple" /\ o.data = .seq its n /\ its.size <= sizeLine /\ zq xs its.toList
noncomputable def Ab : Value -> Option V
 | .none => some .non
 | .bool b => some (.bl b)
 | .int i _ => some (.int i)
 | .str x _ => some (.str x)
 | .bytes b _ => some (.byt b)
 | .float b _ => some (.flt b)
 | .ref a => some (.ref a)
 | .type n => some (.ty n)
 | _ => none
theorem zr.abs {x : V} {u : Value} (r : zr x u) : Ab u = some x := by
 cases x with
 | non => cases r; rfl
 | bl _ => cases r; rfl
 | int _ => obtain ⟨t, rfl⟩ := r; rfl
 | str _ => obtain ⟨t, rfl⟩ := r; rfl
 | byt _ => obtain ⟨t, rfl⟩ := r; rfl
 | flt _ => obtain ⟨t, rfl⟩ := r; rfl
 | ref _ => cases r; rfl
 | ty _ => cases r; rfl
theorem zr.inj {x y : V} {u : Value} (r : zr x u) (q : zr y u) : x = y := Option.some.inj (r.abs.symm.trans q.abs)
theorem zq.inj : ∀ {xs ys : List V} {us : List Value}, zq xs us -> zq ys us -> xs = ys
 | _, _, _, .nil, .nil => rfl
 | _, _, _, .cons r t, .cons r' t' => by rw [r.inj r', zq.inj t t']
section
variable {X : Cx} {pins : List (Addr × Obj)} {σ : St} {H : Hp} {s : Shared} {a : Addr} {xs ys : List V}
theorem SqL.of {K : PySem.W.Frag} (h : H a = some (.lst xs)) : SqL K H a xs := .inl (.inl h)
theorem SqT.of {K : PySem.W.Frag} (h : H a = some (.tup xs)) : SqT K H a xs := .inl (.inl h)
theorem Inv.list (I : Inv X pins σ H s) (h : SqL X.K H a xs) : ∃ its : List Value, zq xs its /\ PlainL s.heap a its.toArray /\ xs.length <= sizeLine := by
 rcases h with h | ⟨o, its, n, hk, hc, hd, hs, hz, r⟩
 ·obtain ⟨z, its, n, r, e⟩ := h.ok I.hok
  exact ⟨its, r, ⟨_, n, e, rfl, rfl, rfl⟩, z⟩
 ·refine ⟨its.toList, r, ⟨o, n, I.kIn a o hk, hc, hd, by simpa using hs⟩, ?_⟩
  have e := r.length
  simp only [Array.length_toList] at e
  omega
theorem Inv.tuple (I : Inv X pins σ H s) (h : SqT X.K H a xs) : ∃ its : List Value, zq xs its /\ IsTup s.heap a its.toArray /\ xs.length <= sizeLine := by
 rcases h with h | ⟨o, its, n, hk, hc, hs, hz, r⟩
 ·obtain ⟨z, its, r, p⟩ := h.ok I.hok
  exact ⟨its, r, p.is, z⟩
 ·refine ⟨its.toList, r, ⟨o, I.kIn a o hk, hc, n, by simpa using hs⟩, ?_⟩
  have e := r.length
  simp only [Array.length_toList] at e
  omega
theorem Inv.list_inj (I : Inv X pins σ H s) (h : SqL X.K H a xs) (h' : SqL X.K H a ys) : xs = ys := by
 obtain ⟨its, r, ⟨o, n, e, _, _, d⟩, _⟩ := I.list h
 obtain ⟨its', r', ⟨o', n', e', _, _, d'⟩, _⟩ := I.list h'
 rw [e] at e'; cases e'
 rw [d] at d'
 injection d' with d1 _
 have : its = its' := by simpa using congrArg Array.toList d1
 subst this
 exact r.inj r'
theorem Inv.tuple_inj (I : Inv X pins σ H s) (h : SqT X.K H a xs) (h' : SqT X.K H a ys) : xs = ys := by
 obtain ⟨its, r, ⟨o, e, _, n, d⟩, _⟩ := I.tuple h
 obtain ⟨its', r', ⟨o', e', _, n', d'⟩, _⟩ := I.tuple h'
 rw [e] at e'; cases e'
 rw [d] at d'
 injection d' with d1 _
 have : its = its' := by simpa using congrArg Array.toList d1
 subst this
 exact r.inj r'
end
noncomputable abbrev Cx.wish (X : Cx) (E : Value -> Shared -> Prop) : Cx := { X with xe := E }
noncomputable abbrev Cx.nox (X : Cx) : Cx := X.wish fun _ _ => False
theorem Cx.Ok.wish {X : Cx} (ok : X.Ok) (E : Value -> Shared -> Prop) : (X.wish E).Ok :=
 ⟨ok.mod, ok.kind, ok.glob, ok.blt, ok.above, ok.inj, ok.has, ok.cab, ok.hd, ok.frames, ok.stk, ok.exf, ok.bs, ok.bsz, ok.noex, ok.exfs, ok.funs, ok.frf⟩
theorem Cx.Ok.unwish {X : Cx} {E : Value -> Shared -> Prop} (ok : (X.wish E).Ok) : X.Ok :=
 ⟨ok.mod, ok.kind, ok.glob, ok.blt, ok.above, ok.inj, ok.has, ok.cab, ok.hd, ok.frames, ok.stk, ok.exf, ok.bs, ok.bsz, ok.noex, ok.exfs, ok.funs, ok.frf⟩
section
variable {X : Cx} {pins : List (Addr × Obj)} {σ : St} {H : Hp} {s : Shared} {E : Value -> Shared -> Prop}
theorem Inv.wish (I : Inv X pins σ H s) (E : Value -> Shared -> Prop) : Inv (X.wish E) pins σ H s := ⟨I.ok.wish E, I.os, I.bare, I.base, I.loc, I.cell, I.free, I.freeC, I.pin, I.hok, I.len⟩
theorem Inv.unwish (I : Inv (X.wish E) pins σ H s) : Inv X pins σ H s := ⟨I.ok.unwish, I.os, I.bare, I.base, I.loc, I.cell, I.free, I.freeC, I.pin, I.hok, I.len⟩
theorem SP.unwish {D : ko} {f : Flow} {s' : Shared} (h : SP (X.wish E) pins D f s') : SP X pins D f s' := by
 cases f with
 | next => obtain ⟨σ', H', I, q⟩ := h; exact ⟨σ', H', I.unwish, q⟩
 | brk => obtain ⟨σ', H', I, q⟩ := h; exact ⟨σ', H', I.unwish, q⟩
 | cont => obtain ⟨σ', H', I, q⟩ := h; exact ⟨σ', H', I.unwish, q⟩
 | ret u => obtain ⟨v, σ', H', I, r, q⟩ := h; exact ⟨v, σ', H', I.unwish, r, q⟩
theorem PSs.nox {st : List Stmt} {t : TS} (h : PSs X.nox st t) : PSs X st t := fun pins s σ H D I hw =>
 wpAny_mono (h pins s σ H D (I.wish _) hw) (fun _ _ q => q.unwish) fun _ _ z => False.elim z
end
section
variable {X : Cx} {st : Stmt} {jD : List Stmt} {t u : TS} {e : Expr} {te : TE} {pos : Pos}
noncomputable def Ki : TS := fun D σ H => D.nx σ H
noncomputable def VH (t u : TS) : TS := fun D σ H => t { D with nx := u D } σ H
theorem zR : PSs X [] Ki := fun _ _ σ H _ I h => wpAny_execs_nil ⟨σ, H, I, h⟩
theorem zd (h1 : PS X st t) (h2 : PSs X jD u) : PSs X (st :: jD) (VH t u) := by
 intro pins s σ H D I h
 refine wpAny_execs_cons (thn (h1 pins s σ H { D with nx := u D } I h) fun f s1 q => ?_)
 cases f with
 | next =>
  obtain ⟨σ', H', I', q⟩ := q
  exact h2 pins s1 σ' H' D I' q
 | ret v => exact q
 | brk => exact q
 | cont => exact q
theorem zg (h1 : PS X st t) : PSs X [st] t := by
 intro pins s σ H D I h
 refine wpAny_execs_cons (thn (h1 pins s σ H D I h) fun f s1 q => ?_)
 cases f with
 | next => exact wpAny_execs_nil q
 | ret v => exact q
 | brk => exact q
 | cont => exact q
theorem Inv.quiet {pins : List (Addr × Obj)} {σ : St} {H : Hp} {s : Shared} (I : Inv X pins σ H s) : interactive X.env = false := by simp [interactive, I.ok.kind]
noncomputable def Jb (te : TE) : TS := fun D σ H => te σ H fun _ H1 => D.nx σ H1
theorem wN (he : PE X e te) (hs : swapsWith e none pos.line X.env = pure false := by rfl) : PS X (.Expr e pos) (Jb te) := by
 intro pins s σ H D I h
 exact wpAny_Expr_any (thn (he pins s σ H _ I h) fun v s1 ⟨x, H1, I1, r1, q1⟩ => ⟨σ, H1, I1, q1⟩) I.quiet hs
noncomputable def V5 (te : TE) : TS := fun D σ H => te σ H D.rt
theorem zx (he : PE X e te) : PS X (.Return (some e) pos) (V5 te) := by
 intro pins s σ H D I h
 exact wpAny_Return_some (thn (he pins s σ H _ I h) fun v s1 ⟨x, H1, I1, r1, q1⟩ => ⟨x, σ, H1, I1, r1, q1⟩)
noncomputable def VZ (c : TT) (t u : TS) : TS := fun D σ H => c σ H fun b H1 => if b = true then t D σ H1 else u D σ H1
theorem qC {c : Expr} {a b : List Stmt} {tc : TT} (hc : PT X c tc) (ha : PSs X a t) (hb : PSs X b u) : PS X (.If c a b pos) (VZ tc t u) := by
 intro pins s σ H D I h
 refine wpAny_If (thn (hc pins s σ H _ I h) fun d s1 ⟨H1, I1, q1⟩ => ?_)
 cases d with
 | true => exact ha pins s1 σ H1 D I1 q1
 | false => exact hb pins s1 σ H1 D I1 q1
end
noncomputable abbrev TG := V -> St -> Hp -> (St -> Hp -> Prop) -> Prop
noncomputable abbrev TGs := List V -> St -> Hp -> (St -> Hp -> Prop) -> Prop
noncomputable def PG (X : Cx) (target : Expr) (t : TG) : Prop :=
 ∀ (pins : List (Addr × Obj)) (s : Shared) (σ : St) (H : Hp) (v : V) (u : Value) (Q : St -> Hp -> Prop), Inv X pins σ H s -> zr v u -> t v σ H Q ->
  wpAny (model X.prog X.w) X.A (assign target X.env u) (fun _ s' => ∃ σ' H', Inv X pins σ' H' s' /\ Q σ' H') X.xe s
noncomputable def PGs (X : Cx) (ts : List Expr) (t : TGs) : Prop :=
 ∀ (pins : List (Addr × Obj)) (s : Shared) (σ : St) (H : Hp) (vs : List V) (us : List Value) (Q : St -> Hp -> Prop), Inv X pins σ H s -> zq vs us -> t vs σ H Q ->
  wpAny (model X.prog X.w) X.A (assignInOrder ((assignEach ts X.env).map (·.2)) us) (fun _ s' => ∃ σ' H', Inv X pins σ' H' s' /\ Q σ' H') X.xe s
noncomputable abbrev Jm := V -> V -> V -> Hp -> (Hp -> Prop) -> Prop
noncomputable def VV (X : Cx) (t : Jm) : Prop :=
 ∀ (pins : List (Addr × Obj)) (s : Shared) (σ : St) (H : Hp) (o i v : V) (ov iv u : Value) (Q : Hp -> Prop), Inv X pins σ H s -> zr o ov -> zr i iv -> zr v u -> t o i v H Q ->
  wpAny (model X.prog X.w) X.A (setItem ov iv u) (fun _ s' => ∃ H', Inv X pins σ H' s' /\ Q H') X.xe s
noncomputable abbrev TIp := V -> V -> Hp -> VK -> Prop
noncomputable def PIp (X : Cx) (op : Operator) (t : TIp) : Prop :=
 ∀ (pins : List (Addr × Obj)) (s : Shared) (σ : St) (H : Hp) (x y : V) (v u : Value) (Q : VK), Inv X pins σ H s -> zr x v -> zr y u -> t x y H Q ->
  wpAny (model X.prog X.w) X.A (inplaceOp op v u) (EP X pins σ Q) X.xe s
section
variable {X : Cx} {pos : Pos}
noncomputable def kP (i : Nat) : TG := fun v σ H Q => Q (σ.set i (some v)) H
theorem zE {i : Nat} {x : Str} (hN : X.N.Nodup) (hi : X.N[i]? = some x) (hx : Loc X.env.scope x) (hf : X.fn x = true \/ X.env.scope.names.lookup x = some .local := by first | exact .inl rfl | exact .inr rfl | assumption) : PG X (.Name x pos) (kP i) := by
 intro pins s σ H v u Q I r h
 exact wpAny_assign_Name (qJ I hN hi hx r (fun s' I' => ⟨_, H, I', h⟩) hf)
noncomputable def Xh : TGs := fun vs σ H Q => vs = [] /\ Q σ H
noncomputable def vz (t : TG) (u : TGs) : TGs := fun vs σ H Q => ∃ v r, vs = v :: r /\ t v σ H fun σ' H' => u r σ' H' Q
theorem jQ : PGs X [] Xh := by
 intro pins s σ H vs us Q I r h
 obtain ⟨e, h⟩ := h
 subst e
 cases r
 exact assignInOrder_nil ⟨σ, H, I, h⟩
theorem zW {e : Expr} {es : List Expr} {t : TG} {u : TGs} (h1 : PG X e t) (h2 : PGs X es u)
  (hs : (assignEach (e :: es) X.env).map (·.2) = assign e X.env :: (assignEach es X.env).map (·.2) := by rfl) : PGs X (e :: es) (vz t u) := by
 intro pins s σ H vs us Q I r h
 obtain ⟨v, vr, e1, h⟩ := h
 subst e1
 cases r with
 | cons r rr =>
  rw [hs]
  refine assignInOrder_cons (thn (h1 pins s σ H _ _ _ I r h) fun _ s1 ⟨σ1, H1, I1, q1⟩ => ?_)
  exact h2 pins s1 σ1 H1 _ _ Q I1 rr q1
noncomputable def Jt (K : PySem.W.Frag) (n : Nat) (t : TGs) : TG := fun v σ H Q => ∃ a xs, v = .ref a /\ SqT K H a xs /\ xs.length = n /\ t xs σ H Q
theorem Vq {es : List Expr} {k : Nat} {t : TGs} {n : Nat} (hc : X.calm = true) (h : PGs X es t)
  (hn : (assignEach es X.env).length = n := by rfl) (hst : (assignEach es X.env).findIdx? (·.1) = none := by rfl) : PG X (.Tuple es k pos) (Jt X.K n t) := by
 intro pins s σ H v u Q I r hw
 obtain ⟨a, xs, e1, hq, hl, hw⟩ := hw
 subst e1
 cases r
 obtain ⟨its, rv, ht, hz⟩ := I.tuple hq
 refine assign_Tuple_tuple (I.ok.hd hc) ht (by simp [hn, <- hl, rv.length]) hst fun h' hx => ?_
 have I1 : Inv X pins σ H { s with heap := h' } := I.kept (t' := s.toks) fun b o e => hx b o (Nat.ne_of_lt (Heap.lt_size e)) e
 exact h pins _ σ H xs _ Q I1 (by simpa using rv) hw
noncomputable def V0 (to ti : TE) (t : Jm) : TG := fun v σ H Q => to σ H fun o H1 => ti σ H1 fun i H2 => t o i v H2 fun H3 => Q σ H3
theorem kW {o i : Expr} {to ti : TE} {t : Jm} (ho : PE X o to) (hi : PE X i ti) (hs : VV X t)
  (ha : ∀ v, assign (.Subscript o i pos) X.env v = (do
   let ov <- holding [v] (eval o X.env)
   let iv <- holding [v, ov] (eval i X.env)
   standAt pos
   holding [v, ov, iv] (setItem ov iv v)
   release [v, ov, iv] []) := by intro _; rfl) : PG X (.Subscript o i pos) (V0 to ti t) := by
 intro pins s σ H v u Q I r h
 rw [ha]
 refine wpAny_bind (wpAny_holding (thn (ho pins s σ H _ I h) fun ov s1 ⟨x, H1, I1, r1, q1⟩ => ?_))
 refine wpAny_bind (wpAny_holding (thn (hi pins s1 σ H1 _ I1 q1) fun iv s2 ⟨y, H2, I2, r2, q2⟩ => ?_))
 refine wpAny_bind (wpAny_standAt (wpAny_bind (wpAny_holding (thn (hs pins s2 σ H2 x y v ov iv u _ I2 r1 r2 r q2) fun _ s3 ⟨H3, I3, q3⟩ => ?_))))
 exact wpAny_release ⟨σ, H3, I3, q3⟩
noncomputable def JE (te : TE) (g : TG) : TS := fun D σ H => te σ H fun x H1 => g x σ H1 D.nx
theorem xf {tg e : Expr} {te : TE} {g : TG} (he : PE X e te) (hg : PG X tg g) (hs : swapsWithSole [tg] e pos.line X.env = pure false := by rfl) (hw : swappedStores [tg] e X.env = pure none := by rfl)
  (h1 : (assignEach [tg] X.env).map (·.2) = [assign tg X.env] := by rfl) : PS X (.Assign [tg] e pos) (JE te g) := by
 intro pins s σ H D I h
 refine wpAny_Assign_stores (thn (he pins s σ H _ I h) fun v s1 ⟨x, H1, I1, r1, q1⟩ => ?_) hs hw
 rw [h1]
 exact thn (hg pins s1 σ H1 x v _ I1 r1 q1) fun _ s2 q => q
theorem zw {i : Nat} {x : Str} {e : Expr} {te : TE} {pos' : Pos} (hN : X.N.Nodup) (hi : X.N[i]? = some x) (hx : Loc X.env.scope x) (he : PE X e te) (hs : swapsWith e (some (.Name x pos')) pos.line X.env = pure false := by rfl) (hf : X.fn x = true \/ X.env.scope.names.lookup x = some .local := by first | exact .inl rfl | exact .inr rfl | assumption) :
  PS X (.Assign [.Name x pos'] e pos) (JE te (kP i)) := by
 intro pins s σ H D I h
 refine wpAny_Assign_Name (thn (he pins s σ H _ I h) fun v s1 ⟨y, H1, I1, r1, q1⟩ => ?_) hs
 exact qJ I1 hN hi hx r1 (fun s2 I2 => ⟨_, H1, I2, q1⟩) hf
noncomputable def YF (i : Nat) (te : TE) (ti : TIp) : TS := fun D σ H => ∃ x, σ[i]? = some (some x) /\ te σ H fun y H1 => ti x y H1 fun z H2 => D.nx (σ.set i (some z)) H2
theorem YQ {i : Nat} {x : Str} {e : Expr} {te : TE} {op : Operator} {ti : TIp} {pos' : Pos} (hN : X.N.Nodup) (hi : X.N[i]? = some x) (hx : Loc X.env.scope x) (he : PE X e te) (ho : PIp X op ti) (hf : X.fn x = true \/ X.env.scope.names.lookup x = some .local := by first | exact .inl rfl | exact .inr rfl | assumption) :
  PS X (.AugAssign (.Name x pos') op e pos) (YF i te ti) := by
 intro pins s σ H D I h
 obtain ⟨v, e1, h⟩ := h
 obtain ⟨m, hn, hl⟩ := I.loc
 have vis : Vis X.env.scope x := by rcases hx with k | k; exact .inl k; exact .inr (.inl k)
 obtain ⟨u, r, l⟩ := hl i x v hi e1 vis
 refine wpAny_AugAssign_Name ?_
 have go : wpAny (model X.prog X.w) X.A (eval e X.env) (fun w s₂ => wpAny (model X.prog X.w) X.A (inplaceOp op u w) (fun r s₃ => wpAny (model X.prog X.w) X.A (storeName X.env x r) (fun _ => SP X pins D .next) X.xe s₃) X.xe s₂) X.xe s := by
  refine thn (he pins s σ H _ I h) fun w s1 ⟨y, H1, I1, r1, q1⟩ => ?_
  refine thn (ho pins s1 σ H1 v y u w _ I1 r r1 q1) fun z s2 ⟨zv, H2, I2, r2, q2⟩ => ?_
  exact qJ I2 hN hi hx r2 (fun s3 I3 => ⟨_, H2, I3, q2⟩) hf
 rcases l with ⟨hk, hm⟩ | ⟨hk, c, hc, hcell⟩
 ·exact wpAny_loadName_local I.ok.kind hk hn hm go
 ·rcases hk with hk | hk
  ·exact wpAny_loadName_cell I.ok.kind hk hc hcell go
  ·rcases hx with k | k
   ·have : X.env.scope.names.lookup x = some .free := hk
    rw [k] at this; cases this
   ·have : X.env.scope.names.lookup x = some .free := hk
    rw [k] at this; cases this
noncomputable def ipI (f : Int -> Int -> Int) : TIp := fun x y H Q => ∃ i j, x = .int i /\ y = .int j /\ Q (.int (f i j)) H
theorem Wj : PIp X .Add (ipI fun i j => i + j) := by
 intro pins s σ H x y v u Q I r1 r2 h
 obtain ⟨i, j, e1, e2, q⟩ := h
 subst e1; subst e2
 obtain ⟨t, rfl⟩ := r1
 obtain ⟨t', rfl⟩ := r2
 exact iadd_int ⟨.int _, H, I.tok _, ⟨_, rfl⟩, q⟩
end
section
variable {X : Cx} {pos : Pos}
noncomputable def Q9 (c : TT) (tb : TS) : TS := fun D σ H => ∃ W : Nat -> St -> Hp -> Prop, (∃ m, W m σ H) /\ ∀ m σ H, W m σ H ->
 c σ H fun b H1 => if b = true then ∃ N : St -> Hp -> Prop, (∀ σ' H', N σ' H' -> ∃ m', m' < m /\ W m' σ' H') /\ tb { D with nx := N, ct := N, bk := D.nx } σ H1 else D.nx σ H1
theorem qN {c : Expr} {body : List Stmt} {tc : TT} {tb : TS} (hp : PassesOwn (model X.prog X.w) X.A X.env X.xe) (hc : PT X c tc) (hb : PSs X body tb) : PS X (.While c body [] pos) (Q9 tc tb) := by
 intro pins s σ H D I h
 obtain ⟨W, ⟨m0, w0⟩, turn⟩ := h
 refine wpAny_While (codeAny_whileLoop (fun n s' => ∃ σ' H', Inv X pins σ' H' s' /\ W n σ' H') ?_ m0 ⟨σ, H, I, w0⟩)
 rintro n s1 ⟨σ1, H1, I1, w1⟩
 refine wpAny_passesOwn hp (thn (hc pins s1 σ1 H1 _ I1 (turn n σ1 H1 w1)) fun b s2 ⟨H2, I2, q2⟩ => ?_)
 cases b with
 | true =>
  obtain ⟨N, hN, q2⟩ := q2
  rw [if_pos rfl]
  refine wpAny_passesOwn hp (thn (hb pins s2 σ1 H2 _ I2 q2) fun f s3 q3 => ?_)
  cases f with
  | next =>
   obtain ⟨σ3, H3, I3, n3⟩ := q3
   obtain ⟨m', hm, w3⟩ := hN σ3 H3 n3
   exact ⟨m', hm, σ3, H3, I3, w3⟩
  | cont =>
   obtain ⟨σ3, H3, I3, n3⟩ := q3
   obtain ⟨m', hm, w3⟩ := hN σ3 H3 n3
   exact ⟨m', hm, σ3, H3, I3, w3⟩
  | brk => exact q3
  | ret v => exact q3
 | false =>
  rw [if_neg Bool.false_ne_true]
  exact wpAny_execs_nil ⟨σ1, H2, I2, q2⟩
end
structure It where
 go : Nat -> Hp -> Prop
 yld : Nat -> Hp -> V -> Hp -> Prop
 stop : Nat -> Hp -> Prop
noncomputable def ki (X : Cx) (pins : List (Addr × Obj)) (H : Hp) (b : Addr) : Prop :=
 H b = none /\ b ≠ X.env.locals /\ b ∉ X.fs /\ (b ∈ X.ex \/ X.s₀.heap.objs.size <= b) /\ (∀ x c, X.env.cells.lookup x = some c -> c ≠ b) /\ ∀ p ∈ X.pn ++ pins, p.1 ≠ b
theorem Inv.fpOk {X : Cx} {pins : List (Addr × Obj)} {σ : St} {H H' : Hp} {s : Shared} {b : Addr} (I : Inv X pins σ H s) (hb : s.heap.objs.size <= b) (hn : H' b = none) : ki X pins H' b := by
 refine ⟨hn, Nat.ne_of_gt (Nat.lt_of_lt_of_le I.lt hb), I.nofs hb, .inr (Nat.le_trans I.sz hb), fun x c e z => ?_, fun p hp z => ?_⟩
 ·obtain ⟨v, q⟩ := I.cell x c e
  exact absurd (Nat.lt_of_lt_of_le q.lt (by rw [z]; exact hb)) (Nat.lt_irrefl _)
 ·exact absurd (Nat.lt_of_lt_of_le (Heap.lt_size (I.pin p hp).1) (by rw [z]; exact hb)) (Nat.lt_irrefl _)
structure vk (P : Program) (w : World) (K : PySem.W.Frag) (tg : Expr) (J : It) (fp : List Addr) (it : Addr) (tn : Nat -> Heap -> Prop) : Prop where
 mem : it ∈ fp
 obj : ∀ i h, tn i h -> ∀ b ∈ fp, ∃ o, h.get? b = some o /\ ∀ v, o.data ≠ .cell v
 keep : ∀ i h h', tn i h -> (∀ b ∈ fp, ∀ o, h.get? b = some o -> h'.get? b = some o) -> tn i h'
 item : ∀ (X : Cx), X.prog = P -> X.w = w -> X.K = K -> X.calm = true -> ∀ (i : Nat) (pins : List (Addr × Obj)) (s : Shared) (σ : St) (H : Hp) (E : Value -> Shared -> Prop), Inv X pins σ H s -> (∀ b ∈ fp, ki X pins H b) -> tn i s.heap -> J.go i H ->
  wpAny (model P w) X.A (pyNext (.ref it)) (fun r s1 => ∃ u, r = some u /\
   wpAny (model P w) X.A (letOwnedTupleGo tg (.ref it) u) (fun _ s2 => ∃ x H', Inv X pins σ H' s2 /\ zr x u /\ J.yld i H x H' /\ tn (i + 1) s2.heap /\ ∀ b ∈ fp, H' b = none) E s1) E s
 done : ∀ (X : Cx), X.prog = P -> X.w = w -> X.K = K -> X.calm = true -> ∀ (i : Nat) (pins : List (Addr × Obj)) (s : Shared) (σ : St) (H : Hp) (E : Value -> Shared -> Prop), Inv X pins σ H s -> (∀ b ∈ fp, ki X pins H b) -> tn i s.heap -> J.stop i H ->
  wpAny (model P w) X.A (pyNext (.ref it)) (fun r s1 => r = none /\ Inv X pins σ H s1) E s
 self : ∀ (A : Around) (i : Nat) (s : Shared) (Q : Value -> Shared -> Prop) (E : Value -> Shared -> Prop), tn i s.heap -> Q (.ref it) s -> wpAny (model P w) A (pyIter (.ref it)) Q E s
noncomputable abbrev TI := St -> Hp -> (It -> Hp -> Prop) -> Prop
noncomputable def PIE (X : Cx) (pins : List (Addr × Obj)) (σ : St) (tg : Expr) (R : It -> Hp -> Prop) (itv : Value) (s2 : Shared) : Prop :=
 ∃ (it : Addr) (fp : List Addr) (tn : Nat -> Heap -> Prop) (J : It) (H' : Hp), itv = .ref it /\ Inv X pins σ H' s2 /\ vk X.prog X.w X.K tg J fp it tn /\ tn 0 s2.heap /\ (∀ b ∈ fp, ki X pins H' b) /\ R J H'
noncomputable def PI (X : Cx) (tg iter : Expr) (wi : TI) : Prop :=
 ∀ (pins : List (Addr × Obj)) (s : Shared) (σ : St) (H : Hp) (R : It -> Hp -> Prop), Inv X pins σ H s -> wi σ H R ->
  wpAny (model X.prog X.w) X.A (eval iter X.env) (fun v s1 => wpAny (model X.prog X.w) X.A (pyIter v) (PIE X pins σ tg R) X.xe s1) X.xe s
theorem Kk {M : Model} {A : Around} {E : Value -> Shared -> Prop} {s : Shared} {tg : Expr} {it : Addr} {u : Value} {o : Obj} {n : String} {vs : Array Value} {Q : Unit -> Shared -> Prop} (ho : s.heap.get? it = some o) (hc : o.cls = .type n) (hd : o.data = .fields vs)
    (hn : ["enumerate", "zip", "dict_itemiterator", "dict_reverseitemiterator", "odict_iterator", "itertools.zip_longest", "itertools.pairwise"].contains n = false) (hQ : Q () s) : wpAny M A (letOwnedTupleGo tg (.ref it) u) Q E s := by
  unfold letOwnedTupleGo
  cases tg <;> first
    | exact wpAny_pure hQ
    | (cases u <;> first
        | exact wpAny_pure hQ
        | (refine wpAny_bind (wpAny_load ho ?_)
           rw [hc, hd]
           show wpAny M A (if (["enumerate", "zip", "dict_itemiterator", "dict_reverseitemiterator", "odict_iterator", "itertools.zip_longest", "itertools.pairwise"].contains n && vs[0]? == some (rawInt _)) = true then _ else _) Q E s
           rw [if_neg (by intro h; rw [hn, Bool.false_and] at h; cases h)]
           exact wpAny_pure hQ))
noncomputable def Itl (K : PySem.W.Frag) (a : Addr) : It :=
 ⟨fun i H => ∃ xs x, SqL K H a xs /\ xs[i]? = some x, fun i H x H' => H' = H /\ ∀ xs, SqL K H a xs -> xs[i]? = some x, fun i H => ∃ xs, SqL K H a xs /\ xs.length <= i⟩
noncomputable def Itt (K : PySem.W.Frag) (a : Addr) : It :=
 ⟨fun i H => ∃ xs x, SqT K H a xs /\ xs[i]? = some x, fun i H x H' => H' = H /\ ∀ xs, SqT K H a xs -> xs[i]? = some x, fun i H => ∃ xs, SqT K H a xs /\ xs.length <= i⟩
noncomputable def Itr (lo : Int) (n : Nat) : It := ⟨fun i _ => i < n, fun i H x H' => H' = H /\ x = .int (lo + i), fun i _ => n <= i⟩
theorem Qh {P : Program} {w : World} {K : PySem.W.Frag} {tg : Expr} (a it : Addr) : vk P w K tg (Itl K a) [it] it (fun i h => h.IsListIter it a i) where
 mem := by simp
 obj := fun i h st b hb => by
  have e : b = it := by simpa using hb
  subst e
  obtain ⟨o, e, c, d⟩ := st
  exact ⟨o, e, fun v z => by rw [d] at z; cases z⟩
 keep := fun i h h' st k => st.at fun o e => k it (by simp) o e
 item := by
  intro X hP hw hK hc i pins s σ H E I hf st hg
  subst hP hw hK
  obtain ⟨xs, x, hq, hx⟩ := hg
  obtain ⟨its, rv, p, hz⟩ := I.list hq
  obtain ⟨u, hu, ru⟩ := rv.get hx
  obtain ⟨f0, f1, f2, f3, f4, f5⟩ := hf it (by simp)
  refine wpAny_pyNext_list_item st p.isList (x := u) (by simpa using hu) fun h' st' sb => ?_
  have I1 : Inv X pins σ H { s with heap := h' } := I.turned (t' := s.toks) (fun b o hb e => (sb.2 b hb).trans e) f0 f1 f3 f4 f5
  obtain ⟨o, e, c, d⟩ := id st'
  exact ⟨u, rfl, Kk (s := { s with heap := h' }) e c d (by decide) ⟨x, H, I1, ru, ⟨rfl, fun ys hy => by rw [I.list_inj hy hq]; exact hx⟩, st', fun b hb => (hf b hb).1⟩⟩
 done := by
  intro X hP hw hK hc i pins s σ H E I hf st hg
  subst hP hw hK
  obtain ⟨xs, hq, hx⟩ := hg
  obtain ⟨its, rv, p, hz⟩ := I.list hq
  obtain ⟨f0, f1, f2, f3, f4, f5⟩ := hf it (by simp)
  have hl := rv.length
  exact wpAny_pyNext_list_end (I.ok.hd hc) st p.isList (by simp; omega) fun h' eb => ⟨rfl, I.turned (t' := s.toks) (fun b o hb e => eb b o hb e) f0 f1 f3 f4 f5⟩
 self := fun _ _ _ _ _ st h => wpAny_pyIter_listiter st h
theorem vP {P : Program} {w : World} {K : PySem.W.Frag} {tg : Expr} (a it : Addr) : vk P w K tg (Itt K a) [it] it (fun i h => h.IsTupleIter it a i) where
 mem := by simp
 obj := fun i h st b hb => by
  have e : b = it := by simpa using hb
  subst e
  obtain ⟨o, e, c, d⟩ := st
  exact ⟨o, e, fun v z => by rw [d] at z; cases z⟩
 keep := fun i h h' st k => st.at fun o e => k it (by simp) o e
 item := by
  intro X hP hw hK hc i pins s σ H E I hf st hg
  subst hP hw hK
  obtain ⟨xs, x, hq, hx⟩ := hg
  obtain ⟨its, rv, p, hz⟩ := I.tuple hq
  obtain ⟨u, hu, ru⟩ := rv.get hx
  obtain ⟨f0, f1, f2, f3, f4, f5⟩ := hf it (by simp)
  refine wpAny_pyNext_tuple_item st (show s.heap.IsTuple a its.toArray from p) (x := u) (by simpa using hu) fun h' st' sb => ?_
  have I1 : Inv X pins σ H { s with heap := h' } := I.turned (t' := s.toks) (fun b o hb e => (sb.2 b hb).trans e) f0 f1 f3 f4 f5
  obtain ⟨o, e, c, d⟩ := id st'
  exact ⟨u, rfl, Kk (s := { s with heap := h' }) e c d (by decide) ⟨x, H, I1, ru, ⟨rfl, fun ys hy => by rw [I.tuple_inj hy hq]; exact hx⟩, st', fun b hb => (hf b hb).1⟩⟩
 done := by
  intro X hP hw hK hc i pins s σ H E I hf st hg
  subst hP hw hK
  obtain ⟨xs, hq, hx⟩ := hg
  obtain ⟨its, rv, p, hz⟩ := I.tuple hq
  obtain ⟨f0, f1, f2, f3, f4, f5⟩ := hf it (by simp)
  have hl := rv.length
  exact wpAny_pyNext_tuple_end (I.ok.hd hc) st (show s.heap.IsTuple a its.toArray from p) (by simp; omega) fun h' eb => ⟨rfl, I.turned (t' := s.toks) (fun b o hb e => eb b o hb e) f0 f1 f3 f4 f5⟩
 self := fun _ _ _ _ _ st h => wpAny_pyIter_tupleiter st h
theorem wv {P : Program} {w : World} {K : PySem.W.Frag} {tg : Expr} (it : Addr) (lo : Int) (n : Nat) : vk P w K tg (Itr lo n) [it] it (fun i h => IsRangeIter h it (lo + (i : Nat) * 1) ((n : Int) - (i : Nat)) 1) where
 mem := by simp
 obj := fun i h st b hb => by
  have e : b = it := by simpa using hb
  subst e
  exact ⟨_, st, fun v z => by
   have z' : Data.fields _ = Data.cell v := z
   cases z'⟩
 keep := fun i h h' st k => k it (by simp) _ st
 item := by
  intro X hP hw hK hc i pins s σ H E I hf st hg
  subst hP hw hK
  obtain ⟨f0, f1, f2, f3, f4, f5⟩ := hf it (by simp)
  have W := Walks.range (prog := X.prog) (w := X.w) (I.ok.hd hc) it lo 1 n
  refine W.item i s _ _ hg st fun v h' tk hv st' kk => ?_
  obtain ⟨t, rfl⟩ := hv
  have I1 : Inv X pins σ H { s with heap := h', toks := tk } := I.turned (fun b o hb e => kk b o (by simpa using hb) e) f0 f1 f3 f4 f5
  refine ⟨_, rfl, Kk (s := { s with heap := h', toks := tk }) (n := "range_iterator") st' rfl rfl (by decide) ⟨.int (lo + i), H, I1, ⟨t, ?_⟩, ⟨rfl, rfl⟩, st', fun b hb => (hf b hb).1⟩⟩
  rw [Int.mul_one]
 done := by
  intro X hP hw hK hc i pins s σ H E I hf st hg
  subst hP hw hK
  obtain ⟨f0, f1, f2, f3, f4, f5⟩ := hf it (by simp)
  exact wpAny_pyNext_range_end (I.ok.hd hc) st (by have : n <= i := hg; omega) fun h' eb => ⟨rfl, I.turned (t' := s.toks) (fun b o hb e => eb b o hb e) f0 f1 f3 f4 f5⟩
 self := fun _ _ _ _ _ st h => wpAny_pyIter_rangeiter st h
end L2
namespace L2
open PySem PySem.Spec PyProof.Rows
section
variable {X : Cx} {tg : Expr}
theorem Kq {pins : List (Addr × Obj)} {σ : St} {H : Hp} {s : Shared} {R : It -> Hp -> Prop} {E : Value -> Shared -> Prop} {lo hi : Int} {t u v : Tok} {tk : Nat} (I : Inv X pins σ H s) (h1 : -(2 ^ 62) <= lo) (h2 : lo < 2 ^ 62) (h3 : -(2 ^ 62) <= hi) (h4 : hi < 2 ^ 62)
  (q : R (Itr lo (hi - lo).toNat) H) : wpAny (model X.prog X.w) X.A (pyIter (.ref s.heap.objs.size)) (PIE X pins σ tg R) E { s with heap := s.heap.push { cls := .type "range", data := .fields #[.int lo t, .int hi u, .int 1 v] }, toks := tk } := by
 refine wpAny_pyIter_range (IsRange.new ..) (small_one h1 h2 h3 h4) ?_
 have I1 : Inv X pins σ H { s with heap := s.heap.push { cls := .type "range", data := .fields #[.int lo t, .int hi u, .int 1 v] }, toks := tk } := I.kept fun b o e => Heap.get?_push_of_some _ e
 refine ⟨(s.heap.push { cls := .type "range", data := .fields #[.int lo t, .int hi u, .int 1 v] }).objs.size, [(s.heap.push { cls := .type "range", data := .fields #[.int lo t, .int hi u, .int 1 v] }).objs.size], _, _, H, rfl,
  I1.kept (t' := tk) fun b o e => Heap.get?_push_of_some _ e, wv _ lo (hi - lo).toNat, ?_, fun b hb => ?_, q⟩
 ·have e1 : lo + ((0 : Nat) : Int) * 1 = lo := by simp
  have e2 : (((hi - lo).toNat : Nat) : Int) - ((0 : Nat) : Int) = Builtin.Range.rangeSize lo hi 1 := by rw [rangeSize_one]; split <;> omega
  show IsRangeIter _ _ (lo + ((0 : Nat) : Int) * 1) ((((hi - lo).toNat : Nat) : Int) - ((0 : Nat) : Int)) 1
  rw [e1, e2]
  exact Heap.get?_push_size _ rfl
 ·have e : b = (s.heap.push { cls := .type "range", data := .fields #[.int lo t, .int hi u, .int 1 v] }).objs.size := by simpa using hb
  subst e
  exact I1.fpOk (Nat.le_refl _) (I1.hok.fresh (Nat.le_refl _))
noncomputable def J2 (ta : TA) : TI := fun σ H R => ta σ H fun vs H1 => ∃ j : Int, vs = [.int j] /\ -(2 ^ 62) <= j /\ j < 2 ^ 62 /\ R (Itr 0 j.toNat) H1
theorem xB {a : Expr} {ta : TA} {p pos : Pos} (hg : Gl X "range") (hm : X.mg "range" = none) (ha : PA X [a] ta) (hs : starEach [a] X.env = [(false, eval a X.env)] := by rfl) : PI X tg (.Call (.Name "range" p) [a] [] pos) (J2 ta) := by
 intro pins s σ H R I h
 refine Call_ (jF I hg hm boot_range (PyProof.Rows.callWith_type1 (thn (ha pos pins s σ H _ I h) fun us s1 ⟨vs, H1, I1, r1, q1⟩ => ?_) hs rfl))
 obtain ⟨j, e, q1, q2, q⟩ := q1
 subst e
 cases r1 with
 | cons r rr =>
  cases rr
  obtain ⟨t, rfl⟩ := r
  exact call_range_1 (Kq I1 (by omega) (by omega) q1 q2 (by simpa using q))
noncomputable def Xz (wi : TI) (g : TG) (tb : TS) : TS := fun D σ H => wi σ H fun J H1 => ∃ W : Nat -> Nat -> St -> Hp -> Prop, (∃ m, W 0 m σ H1) /\ ∀ i m σ H, W i m σ H ->
 (J.stop i H /\ D.nx σ H) \/ (J.go i H /\ ∃ N : St -> Hp -> Prop, (∀ σ' H', N σ' H' -> ∃ m', m' < m /\ W (i + 1) m' σ' H') /\ ∀ x H', J.yld i H x H' -> g x σ H' fun σ2 H2 => tb { D with nx := N, ct := N, bk := D.nx } σ2 H2)
noncomputable def kK (fp : List Addr) (h : Heap) : List (Addr × Obj) := fp.filterMap fun b => (h.get? b).map fun o => (b, o)
theorem qR {fp : List Addr} {h : Heap} {b : Addr} {o : Obj} (hb : b ∈ fp) (e : h.get? b = some o) : (b, o) ∈ kK fp h := List.mem_filterMap.mpr ⟨b, hb, by rw [e]; rfl⟩
theorem Qa {fp : List Addr} {h : Heap} {p : Addr × Obj} (hp : p ∈ kK fp h) : p.1 ∈ fp /\ h.get? p.1 = some p.2 := by
 obtain ⟨b, hb, e⟩ := List.mem_filterMap.mp hp
 cases q : h.get? b with
 | none => rw [q] at e; cases e
 | some o =>
  rw [q] at e
  have e' : (b, o) = p := Option.some.inj e
  subst e'
  exact ⟨hb, q⟩
theorem Inv.pinned {pins : List (Addr × Obj)} {σ : St} {H : Hp} {s : Shared} {fp : List Addr} (I : Inv X pins σ H s) (hf : ∀ b ∈ fp, ki X pins H b) (ho : ∀ b ∈ fp, ∃ o, s.heap.get? b = some o /\ ∀ v, o.data ≠ .cell v) : Inv X (pins ++ kK fp s.heap) σ H s :=
 I.pins_of fun p hp => (List.mem_append.mp hp).elim (fun z => I.pin p (List.mem_append_right _ z)) fun z => by
  obtain ⟨hb, e⟩ := Qa z
  obtain ⟨f0, f1, f2, _⟩ := hf p.1 hb
  obtain ⟨o, e', d⟩ := ho p.1 hb
  rw [e] at e'; cases e'
  exact ⟨e, f0, f1, f2, d⟩
theorem Inv.unpinned {pins pl : List (Addr × Obj)} {σ : St} {H : Hp} {s : Shared} (I : Inv X (pins ++ pl) σ H s) : Inv X pins σ H s := I.pins_of fun p hp => I.pin p (List.mem_append_right _ (List.mem_append_left _ hp))
theorem jC {iter : Expr} {body : List Stmt} {wi : TI} {g : TG} {tb : TS} {pos : Pos} (hp : PassesOwn (model X.prog X.w) X.A X.env X.xe) (hc : X.calm = true) (hi : PI X tg iter wi) (hg : PG X tg g) (hb : PSs X body tb)
  (hs : ∀ x, foldedSetIterable iter X.env x = pure x := by intro _; rfl) : PS X (.For tg iter body [] pos) (Xz wi g tb) := by
 intro pins s σ H D I h
 refine wpAny_For (thn (hi pins s σ H _ I h) fun v s1 h1 => thn h1 fun itv s2 h2 => ?_) hs
 obtain ⟨it, fp, tn, J, H2, e, I2, T, st2, f2, W, ⟨m0, w0⟩, turn⟩ := h2
 subst e
 have stat : ∀ {H' : Hp}, (∀ b ∈ fp, H' b = none) -> ∀ b ∈ fp, ki X pins H' b := fun hn b hb => ⟨hn b hb, (f2 b hb).2⟩
 refine codeAny_forLoop_any (fun n s' => ∃ i σ' H', Inv X pins σ' H' s' /\ tn i s'.heap /\ (∀ b ∈ fp, H' b = none) /\ W i n σ' H') ?_ m0 ⟨0, σ, H2, I2, st2, fun b hb => (f2 b hb).1, w0⟩
 rintro n s3 ⟨i, σ3, H3, I3, st3, fr3, w3⟩
 rcases turn i n σ3 H3 w3 with ⟨stop, qn⟩ | ⟨go, N, hN, step⟩
 ·refine wpAny_passesOwn hp (thn (T.done X rfl rfl rfl hc i pins s3 σ3 H3 X.xe I3 (stat fr3) st3 stop) fun r s4 ⟨hr, I4⟩ => ?_)
  subst hr
  exact wpAny_execs_nil ⟨σ3, H3, I4, qn⟩
 ·refine wpAny_passesOwn hp (thn (T.item X rfl rfl rfl hc i pins s3 σ3 H3 X.xe I3 (stat fr3) st3 go) fun r s4 ⟨u, hr, h4⟩ => ?_)
  subst hr
  refine wpAny_passesOwn hp (thn h4 fun _ s5 ⟨x, H5, I5, r5, y5, st5, fr5⟩ => ?_)
  have I5' := I5.pinned (stat fr5) (T.obj _ _ st5)
  refine wpAny_passesOwn hp (thn (hg _ s5 σ3 H5 x u _ I5' r5 (step x H5 y5)) fun _ s6 ⟨σ6, H6, I6, q6⟩ => ?_)
  refine wpAny_passesOwn hp (thn (hb _ s6 σ6 H6 _ I6 q6) fun f s7 q7 => ?_)
  have again : ∀ {σ7 : St} {H7 : Hp}, Inv X (pins ++ kK fp s5.heap) σ7 H7 s7 -> N σ7 H7 -> ∃ m, m < n /\ ∃ i σ' H', Inv X pins σ' H' s7 /\ tn i s7.heap /\ (∀ b ∈ fp, H' b = none) /\ W i m σ' H' := fun {σ7 H7} I7 n7 => by
   obtain ⟨m', hm, w7⟩ := hN σ7 H7 n7
   refine ⟨m', hm, i + 1, σ7, H7, I7.unpinned, T.keep _ _ _ st5 fun b hb o e => (I7.pin (b, o) (List.mem_append_right _ (List.mem_append_right _ (qR hb e)))).1, fun b hb => ?_, w7⟩
   obtain ⟨o, e, d⟩ := T.obj _ _ st5 b hb
   exact (I7.pin (b, o) (List.mem_append_right _ (List.mem_append_right _ (qR hb e)))).2.1
  cases f with
  | next => obtain ⟨σ7, H7, I7, n7⟩ := q7; exact again I7 n7
  | cont => obtain ⟨σ7, H7, I7, n7⟩ := q7; exact again I7 n7
  | brk => obtain ⟨σ7, H7, I7, q7⟩ := q7; exact ⟨σ7, H7, I7.unpinned, q7⟩
  | ret v => obtain ⟨x7, σ7, H7, I7, r7, q7⟩ := q7; exact ⟨x7, σ7, H7, I7.unpinned, r7, q7⟩
end
end L2
namespace L2
open PySem PySem.Spec PyProof.Rows
noncomputable abbrev R2 := V -> V -> Hp -> VK -> Prop
noncomputable def OpR (X : Cx) (f : Value -> Value -> Sem Value) (r : R2) : Prop :=
 ∀ (pins : List (Addr × Obj)) (s : Shared) (σ : St) (H : Hp) (x y : V) (v u : Value) (Q : VK), Inv X pins σ H s -> zr x v -> zr y u -> r x y H Q ->
  wpAny (model X.prog X.w) X.A (f v u) (EP X pins σ Q) X.xe s
noncomputable def qA (X : Cx) (f : Value) (r : List V -> Hp -> VK -> Prop) : Prop :=
 ∀ (pins : List (Addr × Obj)) (s : Shared) (σ : St) (H : Hp) (xs : List V) (us : List Value) (Q : VK), Inv X pins σ H s -> zq xs us -> r xs H Q ->
  wpAny (model X.prog X.w) X.A (call f us) (EP X pins σ Q) X.xe s
noncomputable def tOp (r : R2) (ta tb : TE) : TE := fun σ H Q => ta σ H fun x H1 => tb σ H1 fun y H2 => r x y H2 Q
noncomputable def rI (C : Int -> Int -> Prop) (g : Int -> Int -> V) : R2 := fun x y H Q => ∃ i j, x = .int i /\ y = .int j /\ C i j /\ Q (g i j) H
noncomputable def rI0 (g : Int -> Int -> V) : R2 := fun x y H Q => ∃ i j, x = .int i /\ y = .int j /\ Q (g i j) H
section
variable {X : Cx} {a b c : Expr} {ta tb tc : TE} {pos : Pos}
theorem YN (ha : PE X a ta) (hb : PE X b tb) {pins : List (Addr × Obj)} {s : Shared} {σ : St} {H : Hp} {R : V -> V -> Hp -> Prop} (I : Inv X pins σ H s)
  (h : ta σ H fun x H1 => tb σ H1 fun y H2 => R x y H2) {Q : Value -> Shared -> Prop} {f : Value -> Value -> Sem Value}
  (hf : ∀ v u s2 x y H2, Inv X pins σ H2 s2 -> zr x v -> zr y u -> R x y H2 -> wpAny (model X.prog X.w) X.A (f v u) Q X.xe s2) :
  wpAny (model X.prog X.w) X.A (eval a X.env) (fun v s₁ => wpAny (model X.prog X.w) X.A (eval b X.env) (fun u s₂ => wpAny (model X.prog X.w) X.A (f v u) Q X.xe s₂) X.xe s₁) X.xe s := by
 refine thn (ha pins s σ H _ I h) fun v s1 ⟨x, H1, I1, r1, q1⟩ => ?_
 refine thn (hb pins s1 σ H1 _ I1 q1) fun u s2 ⟨y, H2, I2, r2, q2⟩ => ?_
 exact hf v u s2 x y H2 I2 r1 r2 q2
theorem zf {op : Operator} {r : R2} (ho : OpR X (binaryOp op) r) (ha : PE X a ta) (hb : PE X b tb) : PE X (.BinOp a op b pos) (tOp r ta tb) := by
 intro pins s σ H Q I h
 exact wpAny_BinOp (YN ha hb I h fun v u s2 x y H2 I2 rx ry q => ho pins s2 σ H2 x y v u Q I2 rx ry q)
theorem opI {f : Value -> Value -> Sem Value} {C : Int -> Int -> Prop} {g : Int -> Int -> Int}
  (rule : ∀ (i j : Int) (t u : Tok) (s : Shared) (Q : Value -> Shared -> Prop) (E : Value -> Shared -> Prop), C i j -> Q (.int (g i j) s.toks) { s with toks := s.toks + 1 } -> wpAny (model X.prog X.w) X.A (f (.int i t) (.int j u)) Q E s) :
  OpR X f (rI C fun i j => .int (g i j)) := by
 intro pins s σ H x y v u Q I rx ry h
 obtain ⟨i, j, rfl, rfl, hc, q⟩ := h
 obtain ⟨t, rfl⟩ := rx
 obtain ⟨t', rfl⟩ := ry
 exact rule i j t t' s _ _ hc ⟨.int (g i j), H, I.tok _, ⟨_, rfl⟩, q⟩
theorem WH {f : Value -> Value -> Sem Value} {g : Int -> Int -> Int}
  (rule : ∀ (i j : Int) (t u : Tok) (s : Shared) (Q : Value -> Shared -> Prop) (E : Value -> Shared -> Prop), Q (.int (g i j) s.toks) { s with toks := s.toks + 1 } -> wpAny (model X.prog X.w) X.A (f (.int i t) (.int j u)) Q E s) :
  OpR X f (rI0 fun i j => .int (g i j)) := by
 intro pins s σ H x y v u Q I rx ry h
 obtain ⟨i, j, rfl, rfl, q⟩ := h
 obtain ⟨t, rfl⟩ := rx
 obtain ⟨t', rfl⟩ := ry
 exact rule i j t t' s _ _ ⟨.int (g i j), H, I.tok _, ⟨_, rfl⟩, q⟩
theorem XX {f : Value -> Value -> Sem Value} {g : Int -> Int -> Bool}
  (rule : ∀ (i j : Int) (t u : Tok) (s : Shared) (Q : Value -> Shared -> Prop) (E : Value -> Shared -> Prop), Q (.bool (g i j)) s -> wpAny (model X.prog X.w) X.A (f (.int i t) (.int j u)) Q E s) :
  OpR X f (rI0 fun i j => .bl (g i j)) := by
 intro pins s σ H x y v u Q I rx ry h
 obtain ⟨i, j, rfl, rfl, q⟩ := h
 obtain ⟨t, rfl⟩ := rx
 obtain ⟨t', rfl⟩ := ry
 exact rule i j t t' s _ _ ⟨.bl (g i j), H, I, rfl, q⟩
noncomputable def Va (i j : Int) : Prop := 0 < j /\ j < 1073741824
noncomputable def W7 (i j : Int) : Prop := 0 <= j /\ j <= 1000000 /\ i.natAbs < 2 ^ 64
noncomputable def Q0 (i j : Int) : Prop := (-(2 ^ 64) < i /\ i < 2 ^ 64) \/ (-(2 ^ 64) < j /\ j < 2 ^ 64)
theorem Q0.ok {i j : Int} (h : Q0 i j) : IntMulOk i j := by
 rcases h with ⟨h1, h2⟩ | ⟨h1, h2⟩
 ·exact .of_left (intBits_le_64 h1 h2)
 ·exact .of_right (intBits_le_64 h1 h2)
theorem zO : OpR X (binaryOp .Add) (rI0 fun i j => .int (i + j)) := WH fun _ _ _ _ _ _ _ q => add_int q
theorem yD : OpR X (binaryOp .Sub) (rI0 fun i j => .int (i - j)) := WH fun _ _ _ _ _ _ _ q => sub_int q
theorem zS : OpR X (binaryOp .Mult) (rI Q0 fun i j => .int (i * j)) := opI fun _ _ _ _ _ _ _ hc q => mul_int q hc.ok
theorem jw : OpR X (binaryOp .FloorDiv) (rI Va fun i j => .int (i / j)) := opI fun i j _ _ _ _ _ hc q => by
 have h1 : (0 : Int) < j := hc.1
 have h2 : j < 1073741824 := hc.2
 exact floordiv_int (by omega) (by rw [Int.fdiv_eq_ediv_of_nonneg i (by omega)]; exact q) (.inl (PyProof.noPylong_small (by omega)))
theorem zK : OpR X (binaryOp .Mod) (rI (fun _ j => 0 < j) fun i j => .int (i % j)) := opI fun i j _ _ _ _ _ hc q => by
 have h1 : (0 : Int) < j := hc
 exact mod_int' (by omega) (by rw [Int.fmod_eq_emod_of_nonneg i (by omega)]; exact q)
theorem JV : OpR X (binaryOp .Pow) (rI W7 fun i j => .int (i ^ j.toNat)) := opI fun _ _ _ _ _ _ _ hc q => pow_int_small hc.1 hc.2.1 hc.2.2 q
end
section
variable {X : Cx} {a b c : Expr} {ta tb tc : TE} {pos : Pos}
theorem Wk {pins : List (Addr × Obj)} {σ : St} {H : Hp} {s : Shared} {Q : VK} {k k' : Bool} (I : Inv X pins σ H s) (q : Q (.bl k) H) (e : k = k') : EP X pins σ Q (.bool k') s := by
 subst e
 exact ⟨.bl k, H, I, rfl, q⟩
theorem W1 : OpR X (compareOp .Lt) (rI0 fun i j => .bl (decide (i < j))) := XX fun _ _ _ _ _ _ _ q => lt_int q
theorem X9 : OpR X (compareOp .LtE) (rI0 fun i j => .bl (decide (i <= j))) := XX fun _ _ _ _ _ _ _ q => le_int q
theorem Zc : OpR X (compareOp .Gt) (rI0 fun i j => .bl (decide (j < i))) := XX fun _ _ _ _ _ _ _ q => gt_int q
theorem Wt : OpR X (compareOp .GtE) (rI0 fun i j => .bl (decide (j <= i))) := XX fun _ _ _ _ _ _ _ q => ge_int q
theorem Yu : OpR X (compareOp .Is) (fun x y H Q => y = .non /\ Q (.bl (decide (x = .non))) H) := by
 intro pins s σ H x y v u Q I rx ry h
 obtain ⟨rfl, q⟩ := h
 cases ry
 refine is_none_gen (Wk I q ?_)
 cases x <;> first
  | (cases rx; rfl)
  | (obtain ⟨t, rfl⟩ := rx; rfl)
theorem zy (b : Expr) {op : CmpOp} (h : op ≠ .In := by decide) (h2 : op ≠ .NotIn := by decide) : behindInMarks op b = false := by
 have e1 : (op == CmpOp.In) = false := by cases op <;> first | rfl | exact absurd rfl h
 have e2 : (op == CmpOp.NotIn) = false := by cases op <;> first | rfl | exact absurd rfl h2
 cases b <;> simp [behindInMarks, e1, e2]
theorem qq {op : CmpOp} {r : R2} (ho : OpR X (compareOp op) r) (ha : PE X a ta) (hb : PE X b tb) (hm : behindInMarks op b = false) : PE X (.Compare a [op] [b] pos) (tOp r ta tb) := by
 intro pins s σ H Q I h
 exact wpAny_Compare1 (YN ha hb I h fun v u s2 x y H2 I2 rx ry q => ho pins s2 σ H2 x y v u Q I2 rx ry q) hm
noncomputable def QD (t : TE) : TT := fun σ H Q => t σ H fun x H' => ∃ k, x = .bl k /\ Q k H'
theorem zB {op : CmpOp} {r : R2} (ho : OpR X (compareOp op) r) (ha : PE X a ta) (hb : PE X b tb) (hm : behindInMarks op b = false) : PT X (.Compare a [op] [b] pos) (QD (tOp r ta tb)) := by
 intro pins s σ H Q I h
 refine wpAny_isTrue_Compare1 (thn (ha pins s σ H _ I h) fun v s1 ⟨x, H1, I1, r1, q1⟩ => thn (hb pins s1 σ H1 _ I1 q1) fun u s2 ⟨y, H2, I2, r2, q2⟩ =>
  thn (ho pins s2 σ H2 x y v u _ I2 r1 r2 q2) fun c s3 ⟨z, H3, I3, r3, k, e, q3⟩ => ?_) hm
 subst e
 cases r3
 exact wpAny_truthy_bool ⟨H3, I3, q3⟩
theorem yc : (sizeLine : Nat) < 2 ^ 63 := by rw [sizeLine_eq]; decide
theorem jB {x : V} {us : List Value} (r : zq [x] us) : ∃ u, us = [u] /\ zr x u := by
 cases r with
 | cons r1 r2 => cases r2; exact ⟨_, rfl, r1⟩
theorem y6 {x y : V} {us : List Value} (r : zq [x, y] us) : ∃ u w', us = [u, w'] /\ zr x u /\ zr y w' := by
 cases r with
 | cons r1 r2 =>
  cases r2 with
  | cons r3 r4 => cases r4; exact ⟨_, _, rfl, r1, r3⟩
theorem vH : qA X (.builtin "abs") (fun xs H Q => ∃ i, xs = [.int i] /\ Q (.int (if i < 0 then -i else i)) H) := by
 intro pins s σ H xs us Q I r h
 obtain ⟨i, rfl, q⟩ := h
 obtain ⟨u, rfl, t, rfl⟩ := jB r
 exact call_abs_int fun u tk => ⟨.int (if i < 0 then -i else i), H, I.tok _, ⟨_, rfl⟩, q⟩
theorem ZQ (hc : X.calm = true) : qA X (.builtin "max") (fun xs H Q => ∃ i j, xs = [.int i, .int j] /\ Q (.int (if j > i then j else i)) H) := by
 intro pins s σ H xs us Q I r h
 obtain ⟨i, j, rfl, q⟩ := h
 obtain ⟨u, w', rfl, ⟨t, rfl⟩, ⟨t', rfl⟩⟩ := y6 r
 refine max_two_ints (I.ok.hd hc) fun h' tk k => ⟨_, H, I.kept k, ?_, q⟩
 by_cases hj : j > i
 ·rw [if_pos hj, if_pos hj]; exact ⟨_, rfl⟩
 ·rw [if_neg hj, if_neg hj]; exact ⟨_, rfl⟩
theorem Zx : qA X (.type "int") (fun xs H Q => (∃ i, xs = [.int i] /\ Q (.int i) H) \/ ∃ k, xs = [.bl k] /\ Q (.int (if k then 1 else 0)) H) := by
 intro pins s σ H xs us Q I r h
 rcases h with ⟨i, rfl, q⟩ | ⟨k, rfl, q⟩
 ·obtain ⟨u, rfl, t, rfl⟩ := jB r
  exact call_int_int ⟨.int i, H, I, ⟨_, rfl⟩, q⟩
 ·obtain ⟨u, rfl, r1⟩ := jB r
  cases r1
  exact call_int_bool ⟨.int (if k then 1 else 0), H, I.tok _, ⟨_, rfl⟩, q⟩
theorem vI : qA X (.builtin "divmod") (fun xs H Q => ∃ i j, xs = [.int i, .int j] /\ Va i j /\ ∀ p, H p = none -> Q (.ref p) (upd H p (.tup [.int (i / j), .int (i % j)]))) := by
 intro pins s σ H xs us Q I r h
 obtain ⟨i, j, rfl, ⟨h1, h2⟩, q⟩ := h
 obtain ⟨u, w', rfl, ⟨t, rfl⟩, ⟨t', rfl⟩⟩ := y6 r
 refine divmod_int (by omega) ?_ (.inl (PyProof.noPylong_small (by omega)))
 rw [Int.fdiv_eq_ediv_of_nonneg i (by omega), Int.fmod_eq_emod_of_nonneg i (by omega)]
 have hn : H s.heap.objs.size = none := I.hok.fresh (Nat.le_refl _)
 refine ⟨.ref s.heap.objs.size, _, ?_, rfl, q _ hn⟩
 refine I.laid (fun b o e => Heap.get?_push_of_some _ e) (Nat.le_refl _) ⟨by simp only [List.length_cons, List.length_nil]; rw [sizeLine_eq]; decide, [.int (i / j) s.toks, .int (i % j) (s.toks + 1)], .cons ⟨_, rfl⟩ (.cons ⟨_, rfl⟩ .nil), ?_⟩
 exact ⟨_, Heap.get?_push_size s.heap rfl, rfl, ⟨0, rfl⟩, rfl⟩
end
end L2
namespace L2
open PySem PySem.Spec PyProof.Rows
structure J1 (h : Heap) (x dx C : Addr) (mA : Str -> Option Value) : Prop where
 obj : h.get? x = some (PySem.W.instObj C dx)
 ns : h.Ns1 dx mA
 ne : dx ≠ x
theorem Z4 {h : Heap} {dx : Addr} {mA : Str -> Option Value} (n : h.Ns1 dx mA) : ∃ od, h.get? dx = some od /\ ∀ name, PySem.W.lookIn name od = some (mA name) := by
 obtain ⟨o, es, ep, ho, hd, hk, _, hm⟩ := n
 refine ⟨o, ho, fun name => ?_⟩
 have e := hm name
 unfold nsFind findBy at e
 rw [<- Array.find?_toList] at e
 unfold PySem.W.lookIn
 rw [hd]
 dsimp only
 split
 ·rename_i y q
  rw [q] at e
  exact congrArg some e
 ·rename_i q
  rw [q] at e
  have a : es.toList.any (·.refKey) = false := by
   rw [List.any_eq_false]
   intro y hy
   obtain ⟨z, t, hkey⟩ := hk y (Array.mem_toList_iff.mp hy)
   simp [DictEntry.refKey, hkey]
  have a' : ¬ es.toList.any (·.refKey) = true := by rw [a]; exact Bool.false_ne_true
  rw [if_neg a']
  exact congrArg some e
theorem J1.look {h : Heap} {x dx C : Addr} {mA : Str -> Option Value} (I : J1 h x dx C mA) : ∃ od, PySem.W.InstAt h x (PySem.W.instObj C dx) C (some od) /\ ∀ name, PySem.W.lookIn name od = some (mA name) :=
 let ⟨od, ho, hl⟩ := Z4 I.ns
 ⟨od, ⟨I.obj, rfl, rfl, ho⟩, hl⟩
section
variable {prog : Program} {w : World} {A : Around} {E : Value -> Shared -> Prop} {s : Shared} {K : PySem.W.Frag} {x dx C f : Addr} {mA : Str -> Option Value} {name : Str} {v : Value}
theorem w8 {ns : List Str} {Q : Unit -> Shared -> Prop} (X : K.In s.heap) (I : J1 s.heap x dx C mA)
  (hs : PySem.W.findIn K (.ref C) "__setattr__" = some (some (.builtin "object.__setattr__"))) (hp : PySem.W.plainOver K C = true) (ht : PySem.W.takerIn K C name = some none) (hh : PySem.W.hasDictIn K C = true)
  (hw : PySem.Within mA ns) (hsz : ns.length <= sizeLine)
  (h : ∀ h', J1 h' x dx C (fun y => if y = name then some v else mA y) -> Heap.SameBut dx s.heap h' -> Q () { s with heap := h', toks := s.toks + 2 }) :
  wpAny (model prog w) A (setAttr (.ref x) name v) Q E s := by
 obtain ⟨od, J, hl⟩ := I.look
 refine PySem.W.set_plain X J hs (PySem.W.osa_open (s := { s with toks := s.toks + 1 }) (r := none) X J hp ht fun b => ?_)
 obtain ⟨cd, hc, hd'⟩ := PySem.W.any_some hh
 have hx : s.heap.get? x = some ⟨.ref C, some dx, .plain, #[]⟩ := I.obj
 refine wpAny_bind (wpAny_pure (wpAny_bind (wpAny_bind (wpAny_loadPart hx (wpAny_bind (PySem.W.Looks.here (s := { s with toks := s.toks + 1 }) (PySem.W.looks_clsIn X hc) ?_))))))
 rw [hd']
 refine wpAny_pure (a := some dx) (wpAny_bind (wpAny_pure (wpAny_bind ?_)))
 refine wpAny_nsSet1 (s := { s with toks := s.toks + 1 }) I.ns fun h' hn2 hs2 => ?_
 obtain ⟨oD, esD, epD, hoD, hdD, hcD⟩ := hn2.count (PySem.Within.cons name v hw)
 refine wpAny_bind (wpAny_lookBehind hoD (by rw [hdD]; exact pastItsLine_dict (Nat.le_trans hcD (by rw [List.length_cons]; omega))) ?_)
 exact wpAny_pure (h _ ⟨(hs2.2 _ (Ne.symm I.ne)).trans I.obj, hn2, I.ne⟩ hs2)
end
section
variable {P : Program} {w : World} {H H' : Hp} {h h' : Heap} {a C dx : Addr} {fs fs' : List (Str × V)}
theorem Xs (hok : HOk P w H h) (e : H a = some (.ins C dx fs)) : ∃ mA, J1 h a dx C mA /\ (∀ f, V6 (fs.lookup f) (mA f)) /\ PySem.Within mA (fs.map (·.1)) /\ fs.length <= 1000 /\ H dx = some (.own a) := by
 obtain ⟨d, z, ne, ob, mA, n, r, q⟩ := (show zI P w H h a (.ins C dx fs) from hok a _ e)
 exact ⟨mA, ⟨ob, n, ne⟩, r, q, z, d⟩
end
structure Cls (K : PySem.W.Frag) (C : Addr) : Prop where
 pg : PySem.W.plainGet K C Str.empty = true
 hd : PySem.W.hasDictIn K C = true
 po : PySem.W.plainOver K C = true
 sa : PySem.W.findIn K (.ref C) "__setattr__" = some (some (.builtin "object.__setattr__"))
theorem Cls.get {K : PySem.W.Frag} {C : Addr} (c : Cls K C) (f : Str) : PySem.W.plainGet K C f = true := c.pg
structure Con (K : PySem.W.Frag) (C : Addr) (f : Str) (v : V) (u : Value) : Prop where
 at_ : PySem.W.findIn K (.ref C) f = some (some u)
 rel : zr v u
 get : PySem.W.specialIn K u "__get__" = some none
 cp : PySem.W.copiedNames.contains f = false
structure W9 (K : PySem.W.Frag) (C : Addr) (m : Str) (f : Addr) : Prop where
 at_ : PySem.W.findIn K (.ref C) m = some (some (.ref f))
 fn : PySem.W.isFn K (.ref f) = true
 kp : PySem.W.keepIn K (.ref f) = true
section
variable {X : Cx} {pins : List (Addr × Obj)} {σ : St} {H : Hp} {s : Shared} {a C dx : Addr} {fs : List (Str × V)} {f : Str} {v : V} {A : Around} {E : Value -> Shared -> Prop}
end
section
variable {X : Cx} {o e value : Expr} {f : Str} {pos pos' tpos : Pos} {ta tv : TE}
end
section
variable {X : Cx} {pins : List (Addr × Obj)} {σ : St} {H : Hp} {s : Shared} {A : Around} {E : Value -> Shared -> Prop} {Q : Value -> Shared -> Prop} {c : Value} {b : Bool}
inductive jb (K : PySem.W.Frag) (H : Hp) : V -> Value -> Prop where
  | non : jb K H .non (.type "NoneType")
  | bl (x : Bool) : jb K H (.bl x) (.type "bool")
  | int (i : Int) : jb K H (.int i) (.type "int")
  | str (x : Str) : jb K H (.str x) (.type "str")
  | flt (x : UInt64) : jb K H (.flt x) (.type "float")
  | lst {a : Addr} {xs : List V} (e : H a = some (.lst xs)) : jb K H (.ref a) (.type "list")
  | frz {a : Addr} {o : Obj} {xs : List V} (e : H a = some (.frz o (.lst xs))) : jb K H (.ref a) (.type "list")
  | tup {a : Addr} {xs : List V} (e : H a = some (.tup xs)) : jb K H (.ref a) (.type "tuple")
  | dK {a : Addr} {kvs : List (Key × V)} (e : H a = some (.dK kvs)) : jb K H (.ref a) (.type "dict")
  | dT {a : Addr} {kvs : List (List Key × V)} (e : H a = some (.dT kvs)) : jb K H (.ref a) (.type "dict")
  | ins {a C dx : Addr} {fs : List (Str × V)} (e : H a = some (.ins C dx fs)) (cl : Cls K C) (ha : PySem.W.findIn K (.ref C) "__class__" = some (some (.builtin "object.__class__")))
      (hn : PySem.W.specialIn K (.builtin "object.__class__") "__get__" = some (some (.builtin "getset_descriptor.__get__"))) (htk : PySem.W.takesIn K (.builtin "object.__class__") = some true)
      (hm : PySem.W.mroIn K C (.type "object") = some true) : jb K H (.ref a) (.ref C)
theorem Qc {x : V} {u t : Value} (I : Inv X pins σ H s) (rx : zr x u) (ty : jb X.K H x t) (e : PySem.W.kitOne X.K t c = some b) (h : ∀ tk, Q (.bool b) { s with toks := tk }) :
  wpAny (model X.prog X.w) A (call (.builtin "isinstance") [u, c]) Q E s := by
 cases ty with
 | non => cases (show u = Value.none from rx); exact PySem.W.kia_one PySem.W.kitx_none I.kIn True.intro e (fun z => nomatch z) h
 | bl y => cases (show u = Value.bool y from rx); exact PySem.W.kia_one PySem.W.kitx_bool I.kIn True.intro e (fun z => nomatch z) h
 | int i => obtain ⟨t, q⟩ := (show ∃ t, u = Value.int i t from rx); cases q; exact PySem.W.kia_one PySem.W.kitx_int I.kIn True.intro e (fun z => nomatch z) h
 | str y => obtain ⟨t, q⟩ := (show ∃ t, u = Value.str y t from rx); cases q; exact PySem.W.kia_one PySem.W.kitx_str I.kIn True.intro e (fun z => nomatch z) h
 | flt y => obtain ⟨t, q⟩ := (show ∃ t, u = Value.float y t from rx); cases q; exact PySem.W.kia_one PySem.W.kitx_float I.kIn True.intro e (fun z => nomatch z) h
 | @lst a xs ea =>
  cases (show u = Value.ref a from rx)
  obtain ⟨_, _, n, _, h1⟩ := (show zI X.prog X.w H s.heap a (.lst xs) from I.hok a _ ea)
  exact PySem.W.kia_one PySem.W.kitx_list I.kIn ⟨_, h1, rfl⟩ e (fun z => nomatch z) h
 | @frz a ob xs ea =>
  cases (show u = Value.ref a from rx)
  obtain ⟨_, _, _, n, _, h1⟩ := (show zI X.prog X.w H s.heap a (.frz ob (.lst xs)) from I.hok a _ ea)
  exact PySem.W.kia_one PySem.W.kitx_list I.kIn ⟨_, h1, rfl⟩ e (fun z => nomatch z) h
 | @tup a xs ea =>
  cases (show u = Value.ref a from rx)
  obtain ⟨_, _, _, p⟩ := (show zI X.prog X.w H s.heap a (.tup xs) from I.hok a _ ea)
  obtain ⟨o, h1, h2, _⟩ := p
  exact PySem.W.kia_one PySem.W.kitx_tuple I.kIn ⟨o, h1, h2⟩ e (fun z => nomatch z) h
 | @dK a kvs ea =>
  cases (show u = Value.ref a from rx)
  obtain ⟨_, _, vs, _, p⟩ := (show zI X.prog X.w H s.heap a (.dK kvs) from I.hok a _ ea)
  obtain ⟨o, es, ep, h1, h2, _⟩ := p
  exact PySem.W.kia_one PySem.W.kitx_dict I.kIn ⟨o, h1, h2.1⟩ e (fun z => nomatch z) h
 | @dT a kvs ea =>
  cases (show u = Value.ref a from rx)
  obtain ⟨_, _, xs, _, o, es, ep, h1, h2, _⟩ := (show zI X.prog X.w H s.heap a (.dT kvs) from I.hok a _ ea)
  exact PySem.W.kia_one PySem.W.kitx_dict I.kIn ⟨o, h1, h2.1⟩ e (fun z => nomatch z) h
 | @ins a C dx fs ea cl ha hn htk hm =>
  cases (show u = Value.ref a from rx)
  obtain ⟨mA, O, _⟩ := Xs I.hok ea
  obtain ⟨od, J, _⟩ := O.look
  exact PySem.W.kia_one (PySem.W.kitx_own (cl.get _) cl.hd ha hn htk hm) I.kIn J e (fun z => nomatch z) h
end
end L2
namespace L2
open PySem PySem.Spec PyProof.Rows
structure qK (k : Nat) (A : Around) : Prop where
 hd : A.handled = none
 gd : A.guards = some []
 dp : A.depth + 3 * k + 5 < recursionLimit
 un : A.units + 16 * k + 200 < cLine
theorem qK.mono {j k : Nat} {A : Around} (r : qK k A) (h : j <= k) : qK j A := ⟨r.hd, r.gd, by have := r.dp; omega, by have := r.un; omega⟩
theorem qK.deeper {k : Nat} {A : Around} (r : qK (k + 1) A) (env : Env) : qK k (A.deeper env) :=
 ⟨r.hd, r.gd, by have := r.dp; show A.depth + 1 + 3 * k + 5 < _; omega, by have := r.un; show A.units + 3 + 16 * k + 200 < _; omega⟩
theorem qK.depth {k : Nat} {A : Around} (r : qK k A) : A.depth < recursionLimit := by have := r.dp; omega
theorem qK.units {k : Nat} {A : Around} (r : qK k A) : A.units + 64 < cLine := by have := r.un; omega
noncomputable def Vc : TA := fun _ H Q => Q [] H
noncomputable def JZ (ta : TE) (tr : TA) : TA := fun σ H Q => ta σ H fun x H1 => tr σ H1 fun xs H2 => Q (x :: xs) H2
section
variable {X : Cx} {e : Expr} {es : List Expr} {te : TE} {t : TA} {pos : Pos}
theorem zc : PA X [] Vc := fun _ _ _ _ H Q I h => Calls.spliced_nil ⟨[], H, I, .nil, h⟩
theorem za (ha : PE X e te) (hr : PA X es t) (hs : starEach (e :: es) X.env = (false, eval e X.env) :: starEach es X.env := by rfl) : PA X (e :: es) (JZ te t) := by
 intro pos pins s σ H Q I h
 rw [hs]
 show wpAny _ _ (spliced ((false, eval e X.env) :: backTo pos (starEach es X.env))) _ _ s
 refine Calls.spliced_cons (thn (ha pins s σ H _ I h) fun u s1 ⟨x, H1, I1, r1, q1⟩ => ?_)
 exact thn (hr pos pins s1 σ H1 _ I1 q1) fun us s2 ⟨xs, H2, I2, r2, q2⟩ => ⟨x :: xs, H2, I2, .cons r1 r2, q2⟩
noncomputable def Yj (t : TA) : TE := fun σ H Q => t σ H fun xs H1 => xs.length <= sizeLine /\ ∀ p, H1 p = none -> Q (.ref p) (upd H1 p (.tup xs))
noncomputable def VG (t : TA) : TE := fun σ H Q => t σ H fun xs H1 => xs.length <= sizeLine /\ ∀ p, H1 p = none -> Q (.ref p) (upd H1 p (.lst xs))
theorem kX {x1} (h : PA X es t) : PE X (.Tuple es x1 pos) (Yj t) := by
 intro pins s σ H Q I hq
 refine wpAny_Tuple_spliced (thn (h pos pins s σ H _ I hq) fun us s1 ⟨xs, H1, I1, r, z, q⟩ => ⟨by rw [<- r.length]; exact z, ?_⟩)
 have hf : H1 s1.heap.objs.size = none := I1.hok.fresh (Nat.le_refl _)
 refine ⟨.ref s1.heap.objs.size, upd H1 s1.heap.objs.size (.tup xs), I1.laid (t' := s1.toks) (fun b u e => Heap.get?_push_of_some _ e) (Nat.le_refl _) ?_, rfl, q _ hf⟩
 exact ⟨z, us, r, ⟨_, Heap.get?_push_size _ rfl, rfl, ⟨_, rfl⟩, rfl⟩⟩
theorem qj (h : PA X es t) : PE X (.List es pos) (VG t) := by
 intro pins s σ H Q I hq
 refine wpAny_List_spliced (thn (h pos pins s σ H _ I hq) fun us s1 ⟨xs, H1, I1, r, z, q⟩ => ⟨by rw [<- r.length]; exact z, ?_⟩)
 have hf : H1 s1.heap.objs.size = none := I1.hok.fresh (Nat.le_refl _)
 refine ⟨.ref s1.heap.objs.size, upd H1 s1.heap.objs.size (.lst xs), I1.laid (t' := s1.toks) (fun b u e => Heap.get?_push_of_some _ e) (Nat.le_refl _) ?_, rfl, q _ hf⟩
 exact ⟨z, us, 0, r, Heap.get?_push_size _ rfl⟩
end
noncomputable abbrev Sp := List V -> Hp -> VK -> XK -> Prop
noncomputable abbrev CXT := List Env -> Hp -> Shared -> XK -> Value -> Shared -> Prop
structure KS (P : Program) (w : World) (K : PySem.W.Frag) (mg : Str -> Option Value) (base : Heap) (A : Around) (outer : List Env) (s : Shared) (H : Hp) : Prop where
 frames : A.frames = some outer
 mod : Mod K mg base
 bs : ∀ b o, base.get? b = some o -> s.heap.get? b = some o /\ H b = none
 bsz : base.objs.size <= s.heap.objs.size
 funs : s.heap.FunFrames base outer
 frf : ∀ b ∈ frs outer, H b = none
 hok : HOk P w H s.heap
 bare : AllBare s.gens
noncomputable def CE (outer : List Env) (P : Program) (w : World) (H : Hp) (s : Shared) (Q : VK) (u : Value) (s' : Shared) : Prop :=
 ∃ v H', s'.os = s.os /\ AllBare s'.gens /\ Un (frs outer) [] H H' s.heap s'.heap /\ HOk P w H' s'.heap /\ zr v u /\ Q v H'
noncomputable def CR (CX : CXT) (outer : List Env) (P : Program) (w : World) (H : Hp) (s : Shared) (Q : VK) (E : XK) (r : Result) (s' : Shared) : Prop :=
 match r with
 | .ok (.ret u) => CE outer P w H s Q u s'
 | .ok _ => False
 | .error e => CX outer H s E e s'
structure jy (P : Program) (w : World) (K : PySem.W.Frag) (mg : Str -> Option Value) (base : Heap) (CX : CXT) (k : Nat) (f : Addr) (fd : FuncData) (ps : List Str) (sp : Sp) : Prop where
 len : ∀ vs H Q E, sp vs H Q E -> vs.length = ps.length
 run : ∀ (A : Around) (outer : List Env) (s : Shared) (H : Hp) (args : Args) (us : List Value) (vs : List V) (Q : VK) (E : XK), qK k A -> KS P w K mg base A outer s H -> BindsTo s fd args (ps.zip us) -> zq vs us -> sp vs H Q E ->
  codeAny (model P w) A (.call (.ref f) args) (CR CX outer P w H s Q E) s
theorem jy.mono {P : Program} {w : World} {K : PySem.W.Frag} {mg : Str -> Option Value} {base : Heap} {CX : CXT} {j k : Nat} {f : Addr} {fd : FuncData} {ps : List Str} {sp : Sp} (F : jy P w K mg base CX j f fd ps sp) (h : j <= k) :
  jy P w K mg base CX k f fd ps sp := ⟨F.len, fun A outer s H args us vs Q E hr => F.run A outer s H args us vs Q E (hr.mono h)⟩
theorem jy.imp {P : Program} {w : World} {K : PySem.W.Frag} {mg : Str -> Option Value} {base : Heap} {CX : CXT} {k : Nat} {f : Addr} {fd : FuncData} {ps : List Str} {sp sp' : Sp} (F : jy P w K mg base CX k f fd ps sp)
  (h : ∀ vs H Q E, sp' vs H Q E -> sp vs H Q E) : jy P w K mg base CX k f fd ps sp' :=
 ⟨fun vs H Q E q => F.len vs H Q E (h _ _ _ _ q), fun A outer s H args us vs Q E hr he hb hv hs => F.run A outer s H args us vs Q E hr he hb hv (h _ _ _ _ hs)⟩
section
variable {X : Cx} {pins : List (Addr × Obj)} {σ : St} {H : Hp} {s s' : Shared}
theorem Inv.env0 (I : Inv X pins σ H s) : KS X.prog X.w X.K X.mg X.base X.A X.stack s H :=
 ⟨I.ok.frames, I.ok.mod, I.bs, Nat.le_trans I.ok.bsz I.sz, I.stack, I.stkFree, I.hok, I.bare⟩
theorem Inv.after {Q : VK} {u : Value} (I : Inv X pins σ H s) (h : CE X.stack X.prog X.w H s Q u s') : EP X pins σ Q u s' := by
 obtain ⟨v, H', os, bare, un, hok, r, q⟩ := h
 obtain ⟨hh, g, d, t, os'⟩ := s'
 obtain rfl : os' = s.os := os
 exact ⟨v, H', I.call (h' := hh) (g' := g) (d' := d) (t' := t) (ch := []) un hok bare (fun b z => absurd z (by simp)), r, q⟩
end
noncomputable def Zp (sp : Sp) (dvs : List V) (E : XK) (t : TA) : TE := fun σ H Q => t σ H fun vs H1 => sp (vs ++ dvs) H1 Q E
noncomputable def xV (K : PySem.W.Frag) (fd : FuncData) (ps : List Str) (ds : List Value) : Prop :=
 ∀ (s : Shared) (us : List Value), K.In s.heap -> (us ++ ds).length = ps.length -> BindsTo s fd ⟨us, []⟩ (ps.zip (us ++ ds))
theorem xV.all {K : PySem.W.Frag} {fd : FuncData} {ps : List Str} (h : ∀ us : List Value, us.length = ps.length -> bindArgs fd ⟨us, []⟩ = pure (ps.zip us)) : xV K fd ps [] := fun s us _ hl => by
 rw [List.append_nil] at hl ⊢
 exact .of_eq (h us hl)
noncomputable def vY (CX : CXT) (X : Cx) (E : XK) : Prop := ∀ (pins : List (Addr × Obj)) (σ : St) (H : Hp) (s : Shared) (e : Value) (s' : Shared), Inv X pins σ H s -> CX X.stack H s E e s' -> X.xe e s'
section
variable {X : Cx} {CX : CXT} {k : Nat} {f C : Addr} {fd : FuncData} {ps : List Str} {sp : Sp} {dvs : List V} {ds : List Value} {E : XK} {x m : Str} {p pos apos : Pos} {e o : Expr} {es : List Expr} {ta : TE} {t : TA}
theorem V2 {pins : List (Addr × Obj)} {σ : St} {H : Hp} {s : Shared} {Q : VK} {us : List Value} {vs : List V} (F : jy X.prog X.w X.K X.mg X.base CX k f fd ps sp) (hr : qK k X.A) (hb : xV X.K fd ps ds) (hd : zq dvs ds) (hx : vY CX X E)
  (I : Inv X pins σ H s) (r : zq vs us) (h : sp (vs ++ dvs) H Q E) : wpAny (model X.prog X.w) X.A (call (.ref f) us) (EP X pins σ Q) X.xe s := by
 have r2 : zq (vs ++ dvs) (us ++ ds) := r.append hd
 have hl : (us ++ ds).length = ps.length := by rw [<- r2.length]; exact F.len _ _ _ _ h
 refine wpAny_call (codeAny_mono (F.run X.A X.stack s H ⟨us, []⟩ (us ++ ds) (vs ++ dvs) Q E hr I.env0 (hb s us I.kIn hl) r2 h) fun r s' hq => ?_)
 cases r with
 | error e => exact hx pins σ H s e s' I hq
 | ok fl =>
  cases fl with
  | ret u => exact I.after hq
  | next => exact False.elim hq
  | brk => exact False.elim hq
  | cont => exact False.elim hq
theorem XB (F : jy X.prog X.w X.K X.mg X.base CX k f fd ps sp) (hr : qK k X.A) (hg : Gl X x) (hm : X.mg x = some (.ref f)) (hk : PySem.W.keepIn X.K (.ref f) = true) (hb : xV X.K fd ps ds) (hd : zq dvs ds) (hx : vY CX X E)
  (ha : PA X (e :: es) t) (hdb : (x == ("__debug__" : Str)) = false := by decide) (he : starEach (e :: es) X.env = (false, eval e X.env) :: starEach es X.env := by rfl) (hpl : (backTo pos (starEach es X.env)).any (·.1) = false := by rfl) :
  PE X (.Call (.Name x p) (e :: es) [] pos) (Zp sp dvs E t) := by
 intro pins s σ H Q I h
 refine wpAny_Call_Name_kw (K0 I hg hm ?_ hdb)
 refine PySem.W.callWith_K (h₀ := X.base) I.ok.mod.kin hk (thn (ha pos pins s σ H _ I h) fun us s1 ⟨vs, H1, I1, r, q⟩ => ⟨I1.kIn, ?_⟩) he hpl
 exact V2 F hr hb hd hx I1 r q
structure Mk (K : PySem.W.Frag) (C f : Addr) : Prop where
 makes : PySem.W.makesIn K C = true
 init : PySem.W.findIn K (.ref C) "__init__" = some (some (.ref f))
 fn : PySem.W.isFn K (.ref f) = true
 kp : PySem.W.keepIn K (.ref C) = true
end
section
variable {X : Cx} {CX : CXT} {k : Nat} {f C : Addr} {fd : FuncData} {ps ks : List Str} {sp : Sp} {E : XK} {x m : Str} {p pos apos kpos : Pos} {e o : Expr} {es : List Expr} {kws : List Keyword} {te ta : TE} {t tk : TA} {nm : Option Str}
structure Ac (K : PySem.W.Frag) (fd : FuncData) (ps ks : List Str) (g : List Value -> List Value -> List Value) (gV : List V -> List V -> List V) : Prop where
 to : ∀ (s : Shared) (us ws : List Value), K.In s.heap -> (g us ws).length = ps.length -> BindsTo s fd ⟨us, ks.zip ws⟩ (ps.zip (g us ws))
 rel : ∀ {vs : List V} {us : List Value} {zs : List V} {ws : List Value}, zq vs us -> zq zs ws -> zq (gV vs zs) (g us ws)
variable {g : List Value -> List Value -> List Value} {gV : List V -> List V -> List V}
end
structure zz (N P : List Str) (sc : Scope) : Prop where
 kind : sc.kind = .function
 co : sc.isCoroutine = false
 gen : sc.isGenerator = false
 nd : N.Nodup
 pre : N.take P.length = P
 par : ∀ x ∈ P, sc.names.lookup x = some .local \/ sc.names.lookup x = some .cell
 nofree : ∀ y ∈ sc.names, y.2 ≠ .free
theorem xW {kindOf : Str -> Option NameKind} {x : Str} : ∀ {binds : List (Str × Value)} {m : Str -> Option Value}, (∀ v, (x, v) ∉ binds) -> bindL kindOf binds m x = m x
 | [], _, _ => rfl
 | (n, v) :: r, m, h => by
  unfold bindL
  rw [xW fun w hw => h w (List.mem_cons_of_mem _ hw)]
  split
  ·have : x ≠ n := by rintro rfl; exact h v List.mem_cons_self
   simp [this]
  ·rfl
theorem xO {kindOf : Str -> Option NameKind} {x : Str} : ∀ {binds : List (Str × Value)} {m : Str -> Option Value}, (∀ v, (x, v) ∉ binds) -> bindC kindOf binds m x = m x
 | [], _, _ => rfl
 | (n, v) :: r, m, h => by
  unfold bindC
  rw [xO fun w hw => h w (List.mem_cons_of_mem _ hw)]
  split
  ·rfl
  ·have : x ≠ n := by rintro rfl; exact h v List.mem_cons_self
   simp [this]
theorem xM {kindOf : Str -> Option NameKind} {x : Str} {v : Value} : ∀ {P : List Str} {vs : List Value} {i : Nat} {m : Str -> Option Value}, P.Nodup -> P[i]? = some x -> vs[i]? = some v -> kindOf x = some .local ->
  bindL kindOf (P.zip vs) m x = some v
 | [], _, _, _, _, h, _, _ => by simp at h
 | _ :: _, [], _, _, _, _, h, _ => by simp at h
 | p :: P, w :: vs, 0, m, nd, h1, h2, hk => by
  simp at h1 h2; subst h1; subst h2
  show bindL kindOf ((p, w) :: P.zip vs) m p = _
  unfold bindL
  rw [xW fun v hv => (List.nodup_cons.mp nd).1 (List.of_mem_zip hv).1, if_pos hk]
  simp
 | p :: P, w :: vs, i + 1, m, nd, h1, h2, hk => by
  show bindL kindOf ((p, w) :: P.zip vs) m x = _
  unfold bindL
  exact xM (i := i) (List.nodup_cons.mp nd).2 (by simpa using h1) (by simpa using h2) hk
theorem xK {kindOf : Str -> Option NameKind} {x : Str} {v : Value} : ∀ {P : List Str} {vs : List Value} {i : Nat} {m : Str -> Option Value}, P.Nodup -> P[i]? = some x -> vs[i]? = some v -> kindOf x ≠ some .local ->
  bindC kindOf (P.zip vs) m x = some v
 | [], _, _, _, _, h, _, _ => by simp at h
 | _ :: _, [], _, _, _, _, h, _ => by simp at h
 | p :: P, w :: vs, 0, m, nd, h1, h2, hk => by
  simp at h1 h2; subst h1; subst h2
  show bindC kindOf ((p, w) :: P.zip vs) m p = _
  unfold bindC
  rw [xO fun v hv => (List.nodup_cons.mp nd).1 (List.of_mem_zip hv).1, if_neg hk]
  simp
 | p :: P, w :: vs, i + 1, m, nd, h1, h2, hk => by
  show bindC kindOf ((p, w) :: P.zip vs) m x = _
  unfold bindC
  exact xK (i := i) (List.nodup_cons.mp nd).2 (by simpa using h1) (by simpa using h2) hk
noncomputable def qy (N : List Str) (vs : List V) : St := vs.map some ++ List.replicate (N.length - vs.length) none
noncomputable def yi (CX : CXT) (P : Program) (w : World) (K : PySem.W.Frag) (mg : Str -> Option Value) (base : Heap) (N : List Str) (qual : Str) (scope : Scope) (f : Addr) (cd : Value) (A : Around) (outer : List Env) (s : Shared) (H : Hp) (E : XK) : Cx where
 prog := P
 w := w
 K := K
 mg := mg
 base := base
 A := A.deeper (envOfC qual scope s.heap.objs.size f cd)
 N := N
 s₀ := s
 H₀ := H
 env := envOfC qual scope s.heap.objs.size f cd
 outer := outer
 stack := envOfC qual scope s.heap.objs.size f cd :: outer
 ex := []
 calm := true
 fn := fun _ => true
 pn := []
 xe := fun e s' => wpAny (model P w) (A.deeper (envOfC qual scope s.heap.objs.size f cd)) (leaving (envOfC qual scope s.heap.objs.size f cd) e) (fun _ s'' => CX outer H s E e s'') (fun e' s'' => CX outer H s E e' s'') s'
theorem yL {sc : Scope} {n : Nat} {x : Str} (h : sc.names.lookup x = some .cell) : ∃ c, (cellsFrom n sc.names []).lookup x = some c := by
 have q := PySem.W.cellsFrom_some sc.names n [] (.inl h)
 exact Option.isSome_iff_exists.mp q
theorem ZY {CX : CXT} {P : Program} {w : World} {K : PySem.W.Frag} {mg : Str -> Option Value} {base : Heap} {N ps : List Str} {qual : Str} {scope : Scope} {f : Addr} {cd : Value} {A : Around} {outer : List Env} {s s1 : Shared} {H : Hp} {E : XK} {us : List Value} {vs : List V}
    (S : zz N ps scope) (hd : A.handled = none) (e0 : KS P w K mg base A outer s H) (hl : vs.length = ps.length) (r : zq vs us)
    (x : InCallC s s.heap.objs.size (bindL (envOfC qual scope s.heap.objs.size f cd).kindOf (ps.zip us) fun _ => none) (cellsFrom (s.heap.objs.size + 1) scope.names []) (bindC (envOfC qual scope s.heap.objs.size f cd).kindOf (ps.zip us) fun _ => none) s1) :
    Inv (yi CX P w K mg base N qual scope f cd A outer s H E) [] (qy N vs) H s1 := by
  have hpl : ps.length <= N.length := by have := congrArg List.length S.pre; rw [List.length_take] at this; omega
  obtain ⟨h1, tk, rfl, hk⟩ := x.done
  have noA : ∀ b : Addr, b ∉ (yi CX P w K mg base N qual scope f cd A outer s H E).ex := fun b z => absurd (show b ∈ ([] : List Addr) from z) (by simp)
  refine ⟨⟨e0.mod, S.kind, rfl, rfl, Nat.le_refl _, fun y z c h1 h2 => ?_, fun y hy => ?_, fun y c _ h => ?_, fun _ => hd, Around.frames_deeper e0.frames, .inr ⟨rfl, rfl⟩, fun b z => absurd z (noA b), e0.bs, e0.bsz, fun b _ _ => noA b, fun b z => absurd z (noA b), e0.funs, e0.frf⟩,
    rfl, e0.bare, Un.kept hk, ⟨_, x.toInCall.ns, fun i y v h1 h2 h3 => ?_⟩, fun y c h => ⟨_, x.cell y c h⟩, e0.hok.fresh (Nat.le_refl _), fun y c h => ?_, fun p hp => absurd (show p ∈ ([] : List (Addr × Obj)) from hp) (by simp), e0.hok.kept hk, ?_⟩
  · exact name_of_addr x.apart (PySem.mem_of_lookup h1) (PySem.mem_of_lookup h2)
  · have hy : scope.names.lookup y = some .cell \/ scope.names.lookup y = some .free := hy
    rcases hy with hy | hy
    · exact yL hy
    · exact absurd rfl (S.nofree _ (PySem.mem_of_lookup hy))
  · exact Nat.le_of_lt (x.above y c (PySem.mem_of_lookup h))
  · have hi : i < vs.length := by
      unfold qy at h2
      by_cases hi : i < vs.length
      · exact hi
      · rw [List.getElem?_append_right (by simpa using hi)] at h2
        rw [List.getElem?_replicate] at h2
        split at h2 <;> cases h2
    have ha : vs[i]? = some v := by
      unfold qy at h2
      rw [List.getElem?_append_left (by simpa using hi), List.getElem?_map] at h2
      cases e : vs[i]? with
      | none => rw [e] at h2; cases h2
      | some a => rw [e] at h2; cases h2; rfl
    obtain ⟨u, hu, rv⟩ := r.get ha
    have hp : ps[i]? = some y := by
      rw [<- S.pre, List.getElem?_take_of_lt (by omega)]; exact h1
    have ndP : ps.Nodup := by rw [<- S.pre]; exact S.nd.sublist (List.take_sublist _ _)
    refine ⟨u, rv, ?_⟩
    rcases S.par y (List.mem_of_getElem? hp) with k | k
    · exact .inl ⟨k, xM ndP hp hu k⟩
    · obtain ⟨c, e⟩ := yL (n := s.heap.objs.size + 1) k
      refine .inr ⟨.inl k, c, e, ?_⟩
      have q := x.cell y c e
      rw [xK ndP hp hu (by show scope.names.lookup y ≠ _; rw [k]; decide)] at q
      exact q
  · exact e0.hok.fresh (Nat.le_of_lt (x.above y c (PySem.mem_of_lookup h)))
  · unfold qy
    show _ = N.length
    rw [List.length_append, List.length_map, List.length_replicate]
    omega
theorem WX {CX : CXT} {P : Program} {w : World} {K : PySem.W.Frag} {mg : Str -> Option Value} {base : Heap} {k : Nat} {f : Addr} {name qual : Str} {params : Arguments} {body : List Stmt} {scope : Scope} {dV kV doc pm cdv ct oc : Value} {an od : Option Addr}
  {osl : Array (Option Value)} {N ps : List Str} {sp : Sp} (lk : K.lookup f = some ⟨oc, od, .func (PySem.W.fnOf name qual params body scope dV kV doc pm an cdv ct), osl⟩) (hcd : PySem.W.codeIn K cdv qual = true) (S : zz N ps scope)
  (len : ∀ vs H Q E, sp vs H Q E -> vs.length = ps.length)
  (hbody : ∀ (A : Around) (outer : List Env) (s : Shared) (H : Hp) (vs : List V) (Q : VK) (E : XK), qK k (A.deeper (envOfC qual scope s.heap.objs.size f cdv)) -> sp vs H Q E ->
   ∃ t, PSs (yi CX P w K mg base N qual scope f cdv A outer s H E) body t /\ t { nx := fun _ H' => Q .non H', rt := Q } (qy N vs) H) :
  jy P w K mg base CX (k + 1) f (PySem.W.fnOf name qual params body scope dV kV doc pm an cdv ct) ps sp := by
 refine ⟨len, fun A outer s H args us vs Q E hr e0 hb r hsp => ?_⟩
 have hl := len _ _ _ _ hsp
 have KX : K.In s.heap := e0.mod.kin.keeps fun b o e => (e0.bs b o e).1
 have lim : s.heap.NoLimit := e0.mod.nolimit.keeps fun b o e => (e0.bs b o e).1
 have hkind : ∀ y ∈ ps.zip us, scope.names.lookup y.1 = some .local \/ (scope.names.lookup y.1 = some .cell /\ ((cellsFrom (s.heap.objs.size + 1) scope.names []).lookup y.1).isSome = true) := fun ⟨n, v⟩ hy => by
  rcases S.par n (List.of_mem_zip hy).1 with q | q
  ·exact .inl q
  ·exact .inr ⟨q, PySem.W.cellsFrom_some _ _ _ (.inl q)⟩
 refine codeAny_call_function hr.depth (KX _ _ lk) rfl S.co S.gen rfl (PySem.W.codeRec_of KX hcd) (hb _ _ _ _ ?_)
 refine wpAny_newFunctionEnv_cells S.kind hkind fun env he s1 x => ?_
 subst he
 refine ⟨lim.keeps x.toInCall.keep, codeAny_func ?_⟩
 obtain ⟨t, ht, hq⟩ := hbody A outer s H vs Q E (hr.deeper _) hsp
 have I : Inv (yi CX P w K mg base N qual scope f cdv A outer s H E) [] (qy N vs) H s1 := ZY S hr.hd e0 hl r x
 refine wpAny_mono (ht [] s1 (qy N vs) H _ I hq) (fun fl s' hs => ?_) fun e s' hs => hs
 have fin : ∀ {σ' : St} {H' : Hp} {v : V} {u : Value}, Inv (yi CX P w K mg base N qual scope f cdv A outer s H E) [] σ' H' s' -> zr v u -> Q v H' -> CE outer P w H s Q u s' :=
  fun {σ' H' v u} J rv q => ⟨v, H', J.os, J.bare, J.base, J.hok, rv, q⟩
 cases fl with
 | ret u =>
  obtain ⟨v, σ', H', J, rv, q⟩ := hs
  exact fin J rv q
 | next =>
  obtain ⟨σ', H', J, q⟩ := hs
  exact fin (v := V.non) (u := Value.none) J rfl q
 | brk =>
  obtain ⟨_, _, _, q⟩ := hs
  exact False.elim q
 | cont =>
  obtain ⟨_, _, _, q⟩ := hs
  exact False.elim q
end L2
namespace L2
open PySem PySem.Spec PyProof.Rows
section
variable {X : Cx} {x : Str} {p pos : Pos} {e : Expr} {es : List Expr} {t : TA} {id T : String} {r : List V -> Hp -> VK -> Prop}
noncomputable def tCB (r : List V -> Hp -> VK -> Prop) (t : TA) : TE := fun σ H Q => t σ H fun vs H1 => r vs H1 Q
theorem zt (hc : qA X (.builtin id) r) (hg : Gl X x) (hm : X.mg x = none) (hv : bootBuiltins x = some (.builtin id)) (ha : PA X (e :: es) t) (hn : x ≠ "__name__" := by decide) (hdb : (x == ("__debug__" : Str)) = false := by decide)
  (he : starEach (e :: es) X.env = (false, eval e X.env) :: starEach es X.env := by rfl) (hpl : (backTo pos (starEach es X.env)).any (·.1) = false := by rfl) : PE X (.Call (.Name x p) (e :: es) [] pos) (tCB r t) := by
 intro pins s σ H Q I h
 refine wpAny_Call_Name_kw (jF I hg hm hv ?_ hn hdb)
 exact PyProof.Rows.callWith_builtin1 (thn (ha pos pins s σ H _ I h) fun us s1 ⟨vs, H1, I1, r1, q1⟩ => hc pins s1 σ H1 vs us Q I1 r1 q1) he hpl
theorem z0 (hc : qA X (.type T) r) (hg : Gl X x) (hm : X.mg x = none) (hv : bootBuiltins x = some (.type T)) (ha : PA X (e :: es) t) (hn : x ≠ "__name__" := by decide) (hdb : (x == ("__debug__" : Str)) = false := by decide)
  (he : starEach (e :: es) X.env = (false, eval e X.env) :: starEach es X.env := by rfl) (hpl : (backTo pos (starEach es X.env)).any (·.1) = false := by rfl) : PE X (.Call (.Name x p) (e :: es) [] pos) (tCB r t) := by
 intro pins s σ H Q I h
 refine wpAny_Call_Name_kw (jF I hg hm hv ?_ hn hdb)
 exact PyProof.Rows.callWith_type1 (thn (ha pos pins s σ H _ I h) fun us s1 ⟨vs, H1, I1, r1, q1⟩ => hc pins s1 σ H1 vs us Q I1 r1 q1) he hpl
end
end L2
namespace HT
open PySem PyProof.Rows
section
open PySem.SeqAt
open PySem.AutoSeq1 (wpAny_loadPart')
open PySem.MeetsSeq PySem.MeetsSeq2 PySem.MeetsSeq3
end
section
variable {prog : Program} {w : World} {A : Around} {E : Value -> Shared -> Prop} {s : Shared}
noncomputable def sIx (n d : Nat) : Option Int -> Nat
 | none => d
 | some v => if v < 0 then (v + (n : Int)).toNat else min v.toNat n
theorem sIx_none (n d : Nat) : sIx n d none = d := rfl
theorem sIx_nat (n d k : Nat) : sIx n d (some (k : Int)) = min k n := by
 show (if (k : Int) < 0 then ((k : Int) + (n : Int)).toNat else min (k : Int).toNat n) = min k n
 rw [if_neg (by omega), Int.toNat_natCast]
end
end HT
namespace L2
open PySem PySem.Spec PyProof.Rows
noncomputable abbrev TO := St -> Hp -> (Option Int -> Hp -> Prop) -> Prop
noncomputable def PO (X : Cx) (e : Option Expr) (t : TO) : Prop :=
 ∀ (pins : List (Addr × Obj)) (s : Shared) (σ : St) (H : Hp) (Q : Option Int -> Hp -> Prop), Inv X pins σ H s -> t σ H Q ->
  wpAny (model X.prog X.w) X.A (evalPart e X.env) (fun u s' => ∃ o H', Inv X pins σ H' s' /\ IsPart u o /\ Q o H') X.xe s
noncomputable def Zk : TO := fun _ H Q => Q none H
noncomputable def Yb (t : TE) : TO := fun σ H Q => t σ H fun x H1 => ∃ i, x = .int i /\ Q (some i) H1
section
variable {X : Cx} {e : Expr} {te : TE} {lo hi : Option Expr} {tl th : TO} {pos p2 : Pos}
theorem KM : PO X none Zk := by
 intro pins s σ H Q I h
 rw [evalPart_none]
 exact wpAny_pure ⟨none, H, I, .none, h⟩
theorem yv (h : PE X e te) : PO X (some e) (Yb te) := by
 intro pins s σ H Q I hw
 rw [evalPart_some]
 refine thn (h pins s σ H _ I hw) fun u s1 ⟨x, H1, I1, r1, q1⟩ => ?_
 obtain ⟨i, rfl, q⟩ := q1
 obtain ⟨t, rfl⟩ := r1
 exact ⟨some i, H1, I1, .int i t, q⟩
noncomputable def SlR (X : Cx) (r : V -> Option Int -> Option Int -> Hp -> VK -> Prop) : Prop :=
 ∀ (pins : List (Addr × Obj)) (s : Shared) (σ : St) (H : Hp) (x : V) (v vl vu : Value) (lo hi : Option Int) (sl : Addr) (Q : VK), Inv X pins σ H s -> zr x v -> s.heap.IsSliceOf sl vl vu .none -> IsPart vl lo -> IsPart vu hi -> r x lo hi H Q ->
  ∃ T id, typeLookup (.type T) "__getitem__" = pure (some (.builtin id)) /\ s.TypeIs v T /\ wpAny (model X.prog X.w) X.A (getItem v (.ref sl)) (EP X pins σ Q) X.xe s
noncomputable def tSl (r : V -> Option Int -> Option Int -> Hp -> VK -> Prop) (te : TE) (tl th : TO) : TE := fun σ H Q => te σ H fun x H1 => tl σ H1 fun l H2 => th σ H2 fun u H3 => r x l u H3 Q
theorem yU {r : V -> Option Int -> Option Int -> Hp -> VK -> Prop} (hr : SlR X r) (he : PE X e te) (hl : PO X lo tl) (hu : PO X hi th) : PE X (.Subscript e (.Slice lo hi none p2) pos) (tSl r te tl th) := by
 intro pins s σ H Q I h
 refine Subscript_ (thn (he pins s σ H _ I h) fun v s1 ⟨x, H1, I1, r1, q1⟩ => ?_)
 refine wpAny_Slice (thn (hl pins s1 σ H1 _ I1 q1) fun vl s2 ⟨l, H2, I2, pl, q2⟩ => thn (hu pins s2 σ H2 _ I2 q2) fun vu s3 ⟨u, H3, I3, pu, q3⟩ => ?_)
 rw [evalPart_none]
 refine wpAny_pure ?_
 have I4 : Inv X pins σ H3 { s3 with heap := s3.heap.push { cls := .type "slice", data := .fields #[vl, vu, .none] } } := I3.kept (t' := s3.toks) fun b ob q => Heap.get?_push_of_some _ q
 obtain ⟨T, id, hT, ht, hg⟩ := hr pins { s3 with heap := s3.heap.push { cls := .type "slice", data := .fields #[vl, vu, .none] } } σ H3 x v vl vu l u s3.heap.objs.size Q I4 r1 (Heap.IsSliceOf.new ..) pl pu q3
 show wpAny (model X.prog X.w) X.A (subscriptTail e (.Slice lo hi none p2) v (.ref s3.heap.objs.size)) (EP X pins σ Q) X.xe { s3 with heap := s3.heap.push { cls := .type "slice", data := .fields #[vl, vu, .none] } }
 exact tail_any (ops := [.ref s3.heap.objs.size, v]) ht hT hg (by with_unfolding_all rfl)
noncomputable def ZK (xs : List V) (lo hi : Option Int) : List V := (xs.drop (HT.sIx xs.length 0 lo)).take (HT.sIx xs.length xs.length hi - HT.sIx xs.length 0 lo)
theorem vg (xs : List V) (lo hi : Option Int) : (ZK xs lo hi).length <= xs.length := by
 unfold ZK
 rw [List.length_take, List.length_drop]
 omega
end
end L2
namespace L2
open PySem PySem.Spec PyProof.Rows
noncomputable def ixN (n : Nat) (i : Int) : Option Nat := if 0 <= i then (if i < n then some i.toNat else none) else if -(n : Int) <= i then some (i + n).toNat else none
noncomputable def atI {α : Type} (xs : List α) (i : Int) : Option α := (ixN xs.length i).bind fun j => xs[j]?
theorem wX {n : Nat} {i : Int} {j : Nat} (h : ixN n i = some j) : seqIndex? i n = some j /\ j < n /\ -(n : Int) <= i /\ i < n := by
 unfold ixN at h
 by_cases h0 : 0 <= i
 ·rw [if_pos h0] at h
  by_cases h1 : i < n
  ·rw [if_pos h1] at h
   have e : i.toNat = j := Option.some.inj h
   exact ⟨by rw [seqIndex_of h0 h1, e], by omega, by omega, h1⟩
  ·rw [if_neg h1] at h; cases h
 ·rw [if_neg h0] at h
  by_cases h1 : -(n : Int) <= i
  ·rw [if_pos h1] at h
   have e : (i + n).toNat = j := Option.some.inj h
   exact ⟨by rw [seqIndex_neg (by omega) h1, e], by omega, h1, by omega⟩
  ·rw [if_neg h1] at h; cases h
theorem wI {α : Type} {xs : List α} {i : Int} {v : α} (h : atI xs i = some v) : ∃ j, seqIndex? i xs.length = some j /\ xs[j]? = some v /\ j < xs.length /\ -(xs.length : Int) <= i /\ i < xs.length := by
 unfold atI at h
 cases e : ixN xs.length i with
 | none => rw [e] at h; cases h
 | some j =>
  rw [e] at h
  obtain ⟨h1, h2, h3, h4⟩ := wX e
  exact ⟨j, h1, h, h2, h3, h4⟩
theorem Xv {α : Type} {xs : List α} {j : Nat} {v : α} (h : xs[j]? = some v) : atI xs (j : Int) = some v := by
 have hj : j < xs.length := (List.getElem?_eq_some_iff.mp h).1
 have e : ixN xs.length (j : Int) = some j := by
  unfold ixN
  rw [if_pos (by omega), if_pos (by omega)]; simp
 unfold atI; rw [e]; exact h
noncomputable def Xw (b : Expr) : Prop := ∀ o i, subscripted b false o i = operate [o, i] (getItem o i)
noncomputable def IxR (X : Cx) (r : R2) : Prop :=
 ∀ (value slice : Expr) (pins : List (Addr × Obj)) (s : Shared) (σ : St) (H : Hp) (x y : V) (v u : Value) (Q : VK), Inv X pins σ H s -> zr x v -> zr y u -> r x y H Q ->
  subscripted slice false v u = operate [v, u] (getItem v u) -> wpAny (model X.prog X.w) X.A (subscriptTail value slice v u) (EP X pins σ Q) X.xe s
noncomputable def MtR (X : Cx) (id : String) (r : V -> List V -> Hp -> VK -> Prop) : Prop :=
 ∀ (pins : List (Addr × Obj)) (s : Shared) (σ : St) (H : Hp) (x : V) (xs : List V) (v : Value) (us : List Value) (Q : VK), Inv X pins σ H s -> zr x v -> zq xs us -> r x xs H Q ->
  wpAny (model X.prog X.w) X.A (call (.builtin id) (v :: us)) (EP X pins σ Q) X.xe s
section
variable {X : Cx} {a b : Expr} {ta tb : TE} {pos : Pos}
theorem qs {r : R2} (hr : IxR X r) (ha : PE X a ta) (hb : PE X b tb) (hs : Xw b) : PE X (.Subscript a b pos) (tOp r ta tb) := by
 intro pins s σ H Q I h
 exact Subscript_ (YN ha hb I h fun v u s2 x y H2 I2 rx ry q => hr a b pins s2 σ H2 x y v u Q I2 rx ry q (hs _ _))
noncomputable def Wo (K : PySem.W.Frag) : R2 := fun x y H Q => ∃ p xs i v, x = .ref p /\ y = .int i /\ SqL K H p xs /\ atI xs i = some v /\ Q v H
noncomputable def WS (K : PySem.W.Frag) : R2 := fun x y H Q => ∃ p xs i v, x = .ref p /\ y = .int i /\ SqT K H p xs /\ atI xs i = some v /\ Q v H
theorem zX : IxR X (Wo X.K) := by
  intro value slice pins s σ H x y v u Q I rx ry h hs
  obtain ⟨p, xs, i, z, rfl, rfl, hq, he, q⟩ := h
  cases rx
  obtain ⟨t, rfl⟩ := ry
  obtain ⟨its, r, pl, hz⟩ := I.list hq
  obtain ⟨j, h1, h2, h3, h4, h5⟩ := wI he
  obtain ⟨w, ew, rw'⟩ := r.get h2
  have hl := r.length
  have hn := yc
  have fin : EP X pins σ Q w s := ⟨z, H, I, rw', q⟩
  by_cases h0 : 0 <= i
  · have hj : i.toNat = j := by
      rw [seqIndex_of h0 h5] at h1
      exact Option.some.inj h1
    exact item_listR pl.isList h0 (by omega) (by rw [hj]; simpa using ew) fin hs
  · have hj : (i + (its.toArray.size : Int)).toNat = j := by
      rw [seqIndex_neg (by omega) h4] at h1
      rw [List.size_toArray, <- hl]
      exact Option.some.inj h1
    exact subscriptTail_builtinR (x := w) pl.isList.typeIs slot_list_getitem.lookup
      (wpAny_getItem_list_neg (Q := fun r s' => r = w /\ EP X pins σ Q r s') pl.isList (by omega) (by rw [List.size_toArray] <;> omega) (by omega) (by rw [hj]; simpa using ew) ⟨rfl, fin⟩) hs
theorem Vb : IxR X (WS X.K) := by
 intro value slice pins s σ H x y v u Q I rx ry h hs
 obtain ⟨p, xs, i, z, rfl, rfl, hq, he, q⟩ := h
 cases rx
 obtain ⟨t, rfl⟩ := ry
 obtain ⟨its, r, pl, hz⟩ := I.tuple hq
 obtain ⟨j, h1, h2, h3, h4, h5⟩ := wI he
 obtain ⟨w, ew, rw'⟩ := r.get h2
 have hl := r.length
 have hn := yc
 have fin : EP X pins σ Q w s := ⟨z, H, I, rw', q⟩
 exact subscriptTail_builtinR (x := w) pl.typeIs slot_tuple_getitem.lookup
  (getItem_tuple (j := j) (Q := fun r s' => r = w /\ EP X pins σ Q r s') pl (by omega) (by omega) (by rw [List.size_toArray, <- hl]; exact h1) (by simpa using ew) ⟨rfl, fin⟩) hs
theorem v5 (its : List Value) (n j : Nat) (u : Value) : Obj.mapSeq (·.setIfInBounds j u) { cls := .type "list", data := .seq its.toArray n } = { cls := .type "list", data := .seq (its.set j u).toArray n } := by
 simp [Obj.mapSeq]
theorem Inv.lst {pins : List (Addr × Obj)} {σ : St} {H : Hp} {s : Shared} {p : Addr} {xs : List V} (I : Inv X pins σ H s) (h : H p = some (.lst xs)) :
  ∃ (its : List Value) (n : Nat), zq xs its /\ s.heap.get? p = some { cls := .type "list", data := .seq its.toArray n } /\ xs.length <= sizeLine := by
 obtain ⟨z, its, n, r, e⟩ := I.hok p _ h
 exact ⟨its, n, r, e, z⟩
theorem Inv.lstUpd {pins : List (Addr × Obj)} {σ : St} {H : Hp} {s : Shared} {p : Addr} {xs ys : List V} {its its' : List Value} {n n' : Nat} {f : Obj -> Obj} (I : Inv X pins σ H s) (h : H p = some (.lst xs))
  (ho : s.heap.get? p = some { cls := .type "list", data := .seq its.toArray n }) (hf : f { cls := .type "list", data := .seq its.toArray n } = { cls := .type "list", data := .seq its'.toArray n' }) (r : zq ys its') (hz : ys.length <= sizeLine) (t : Nat) :
  Inv X pins σ (upd H p (.lst ys)) { s with heap := s.heap.update p f, toks := t } := by
 have e : (s.heap.update p f).get? p = some { cls := .type "list", data := .seq its'.toArray n' } := by
  rw [Heap.get?_update_self f ho (by rw [hf] <;> rfl), hf]
 refine I.write (x := p) (e := p) (by rw [h]; trivial) (.inl rfl) (fun b u hb q => (Heap.get?_update_other _ _ (Ne.symm hb)).trans q) ⟨_, e⟩ ?_
 exact ⟨hz, its', n', r, e⟩
noncomputable def X8 : V -> V -> V -> Hp -> (Hp -> Prop) -> Prop := fun o i v H Q => ∃ p xs k j, o = .ref p /\ i = .int k /\ H p = some (.lst xs) /\ ixN xs.length k = some j /\ Q (upd H p (.lst (xs.set j v)))
theorem QP : VV X X8 := by
  intro pins s σ H o i v ov iv u Q I ro ri rv h
  obtain ⟨p, xs, k, j, rfl, rfl, hp, hj, q⟩ := h
  cases ro
  obtain ⟨t, rfl⟩ := ri
  obtain ⟨its, n, r, ho, hz⟩ := I.lst hp
  obtain ⟨h1, h2, h3, h4⟩ := wX hj
  have hl := r.length
  have hn := yc
  have I' : Inv X pins σ (upd H p (.lst (xs.set j v))) { s with heap := s.heap.update p (Obj.mapSeq (·.setIfInBounds j u)) } :=
    I.lstUpd hp ho (v5 its n j u) (r.set rv j) (by rw [List.length_set]; exact hz) s.toks
  by_cases h0 : 0 <= k
  · have hk : k.toNat = j := by
      rw [seqIndex_of h0 h4] at h1
      exact Option.some.inj h1
    exact PySem.W.ki_setAt ho h0 (by omega) (by rw [List.size_toArray, <- hl]; exact h4) (by rw [hk]; exact ⟨_, I', q⟩)
  · have hk : (k + (its.toArray.size : Int)).toNat = j := by
      rw [seqIndex_neg (by omega) h3] at h1
      rw [List.size_toArray, <- hl]
      exact Option.some.inj h1
    exact PySem.W.ki_setBack ho (by omega) (by rw [List.size_toArray, <- hl]; exact h3) (by omega) (by rw [hk]; exact ⟨_, I', q⟩)
theorem ye (lo hi : Option Int) (n : Nat) : (sliceBounds lo hi none n).1 = ((HT.sIx n 0 lo : Nat) : Int) /\ (sliceBounds lo hi none n).2.1 = ((HT.sIx n n hi : Nat) : Int) /\ (sliceBounds lo hi none n).2.2 = 1 := by
 refine ⟨?_, ?_, rfl⟩
 ·cases lo with
  | none => simp [sliceBounds, HT.sIx]
  | some i =>
   simp only [sliceBounds, HT.sIx, Option.getD_none, show (1 : Int) > 0 by decide, if_true]
   by_cases h : i < 0
   ·simp only [h, if_true] <;> omega
   ·simp only [h, if_false] <;> omega
 ·cases hi with
  | none => simp [sliceBounds, HT.sIx]
  | some i =>
   simp only [sliceBounds, HT.sIx, Option.getD_none, show (1 : Int) > 0 by decide, if_true]
   by_cases h : i < 0
   ·simp only [h, if_true] <;> omega
   ·simp only [h, if_false] <;> omega
theorem xx (its : List Value) (lo hi : Option Int) : slicePick its.toArray lo hi none = ((its.drop (HT.sIx its.length 0 lo)).take (HT.sIx its.length its.length hi - HT.sIx its.length 0 lo)).toArray := by
 obtain ⟨h1, h2, h3⟩ := ye lo hi its.toArray.size
 unfold slicePick
 rw [h1, h2, h3]
 simp only [sliceRange_one, pick_run, List.size_toArray] <;> rfl
noncomputable def WM (K : PySem.W.Frag) : V -> Option Int -> Option Int -> Hp -> VK -> Prop := fun x lo hi H Q => ∃ a xs, x = .ref a /\ SqL K H a xs /\ ∀ p, H p = none -> Q (.ref p) (upd H p (.lst (ZK xs lo hi)))
theorem Zg : SlR X (WM X.K) := by
 intro pins s σ H x v vl vu lo hi sl Q I rx hs pl pu h
 obtain ⟨a, xs, rfl, hx, q⟩ := h
 cases rx
 obtain ⟨its, r, ht, hz⟩ := I.list hx
 have hlen := r.length
 refine ⟨"list", _, slot_list_getitem.lookup, ht.isList.typeIs, ?_⟩
 refine wpAny_getItem_list_slice ht.isList hs pl pu .none (by simp) ?_ (by rw [List.size_toArray] <;> omega)
 rw [xx, <- hlen]
 refine ⟨.ref s.heap.objs.size, _, I.laid (t' := s.toks) (o := .lst (ZK xs lo hi)) (fun b ob q => Heap.get?_push_of_some _ q) (Nat.le_refl _) ?_, rfl, q _ (I.hok.fresh (Nat.le_refl _))⟩
 exact ⟨Nat.le_trans (vg xs lo hi) hz, _, 0, (r.drop (HT.sIx xs.length 0 lo)).take (HT.sIx xs.length xs.length hi - HT.sIx xs.length 0 lo), Heap.get?_push_size _ rfl⟩
theorem qf : qA X (.builtin "len") (fun xs H Q => ∃ p ys, xs = [.ref p] /\ (SqL X.K H p ys \/ SqT X.K H p ys) /\ Q (.int ys.length) H) := by
 intro pins s σ H xs us Q I r h
 obtain ⟨p, ys, rfl, hq, q⟩ := h
 obtain ⟨u, rfl, rx⟩ := jB r
 cases rx
 have hn := yc
 rcases hq with hq | hq
 ·obtain ⟨its, r', pl, hz⟩ := I.list hq
  have hlen := r'.length
  exact Calls.call_len_list pl.isList (by simp only [List.size_toArray] <;> omega) ⟨.int ys.length, H, I.tok _, ⟨s.toks + 1, by rw [List.size_toArray, hlen]⟩, q⟩
 ·obtain ⟨its, r', pl, hz⟩ := I.tuple hq
  have hlen := r'.length
  exact len_tuple pl (by simp only [List.size_toArray] <;> omega) ⟨.int ys.length, H, I.tok _, ⟨s.toks + 1, by rw [List.size_toArray, hlen]⟩, q⟩
theorem jJ : qA X (.type "list") (fun xs H Q => ∃ p ys, xs = [.ref p] /\ (SqL X.K H p ys \/ SqT X.K H p ys) /\ ∀ l, H l = none -> Q (.ref l) (upd H l (.lst ys))) := by
 intro pins s σ H xs us Q I r h
 obtain ⟨p, ys, rfl, hq, q⟩ := h
 obtain ⟨u, rfl, rx⟩ := jB r
 cases rx
 have fin : ∀ (its : List Value), zq ys its -> ys.length <= sizeLine -> ∀ (h' : Heap) (c' : Nat), (∀ b o', s.heap.get? b = some o' -> h'.get? b = some o') ->
   h'.get? s.heap.objs.size = some { cls := .type "list", dict := none, data := .seq its.toArray c', slots := #[] } -> EP X pins σ Q (.ref s.heap.objs.size) { s with heap := h' } := fun its r' hz h' c' kp e =>
  ⟨.ref s.heap.objs.size, _, I.laid (t' := s.toks) kp (Nat.le_refl _) (show zI X.prog X.w _ h' _ (.lst ys) from ⟨hz, its, c', r', e⟩), rfl, q _ (I.hok.fresh (Nat.le_refl _))⟩
 rcases hq with hq | hq
 ·obtain ⟨its, r', pl, hz⟩ := I.list hq
  have hlen := r'.length
  obtain ⟨o, ho, hc, n, hd⟩ := pl.isList
  exact call_list_seq p (.inl rfl) ho hc hd (fun h' c' kp e => fin its r' hz h' c' kp e) (by simp only [List.size_toArray] <;> omega)
 ·obtain ⟨its, r', pl, hz⟩ := I.tuple hq
  have hlen := r'.length
  obtain ⟨o, ho, hc, n, hd⟩ := pl
  exact call_list_seq p (.inr rfl) ho hc hd (fun h' c' kp e => fin its r' hz h' c' kp e) (by simp only [List.size_toArray] <;> omega)
noncomputable def tyV (K : PySem.W.Frag) (T : String) (x : V) (H : Hp) : Prop := match x with
  | .str _ => T = "str"
  | .int _ => T = "int"
  | .ref p => (T = "list" /\ ∃ xs, SqL K H p xs) \/ (T = "tuple" /\ ((∃ xs, Rd H p (.tup xs)) \/ ∃ o, K.lookup p = some o /\ o.cls = .type "tuple" /\ o.dict = none)) \/
      (T = "dict" /\ ((∃ kvs, H p = some (.dK kvs)) \/ ∃ kvs, H p = some (.dT kvs))) \/ (T = "set" /\ ∃ S n, H p = some (.set S n))
  | _ => False
theorem Y8 {pins : List (Addr × Obj)} {σ : St} {H : Hp} {s : Shared} {T : String} {x : V} {v : Value} (I : Inv X pins σ H s) (r : zr x v) (ty : tyV X.K T x H) :
    s.TypeIs v T /\ ∀ a, v = .ref a -> ∃ ob, s.heap.get? a = some ob /\ ob.dict = none := by
  cases x with
  | str z =>
    obtain ⟨t, rfl⟩ := r
    cases (show T = "str" from ty)
    exact ⟨typeIs_str s z t, fun _ e => nomatch e⟩
  | int i =>
    obtain ⟨t, rfl⟩ := r
    cases (show T = "int" from ty)
    exact ⟨typeIs_int s i t, fun _ e => nomatch e⟩
  | ref p =>
    cases r
    rcases ty with ⟨rfl, xs, hq⟩ | ⟨rfl, ⟨xs, hx⟩ | ⟨o, hk, hc, hd⟩⟩ | ⟨rfl, hk⟩ | ⟨rfl, S, n, hk⟩
    · obtain ⟨its, _, pl, _⟩ := I.list hq
      refine ⟨pl.isList.typeIs, fun a e => ?_⟩
      cases e
      obtain ⟨o, n, e, c, hd, _⟩ := pl
      exact ⟨o, e, hd⟩
    · obtain ⟨_, its, _, o, e, c, _, hd⟩ := hx.ok I.hok
      refine ⟨⟨o, e, c⟩, fun a e2 => ?_⟩
      cases e2
      exact ⟨o, e, hd⟩
    · refine ⟨⟨o, I.kIn p o hk, hc⟩, fun a e => ?_⟩
      cases e
      exact ⟨o, I.kIn _ o hk, hd⟩
    · have z : ∃ o, s.heap.get? p = some o /\ o.ExactDict := by
        rcases hk with ⟨kvs, hk⟩ | ⟨kvs, hk⟩
        · obtain ⟨_, _, _, _, o, _, _, e, ex, _⟩ := I.hok p _ hk
          exact ⟨o, e, ex⟩
        · obtain ⟨_, _, _, _, o, _, _, e, ex, _⟩ := I.hok p _ hk
          exact ⟨o, e, ex⟩
      obtain ⟨o, e, ex⟩ := z
      refine ⟨⟨o, e, ex.1⟩, fun a e2 => ?_⟩
      cases e2
      exact ⟨o, e, ex.2.1⟩
    · obtain ⟨o, _, _, _, e, ex, _⟩ := I.hok p _ hk
      refine ⟨⟨o, e, ex.1⟩, fun a e2 => ?_⟩
      cases e2
      exact ⟨o, e, ex.2.1⟩
  | _ => exact False.elim ty
noncomputable def tBM (K : PySem.W.Frag) (T : String) (r : V -> List V -> Hp -> VK -> Prop) (to : TE) (t : TA) : TE := fun σ H Q => to σ H fun x H1 => tyV K T x H1 /\ t σ H1 fun xs H2 => r x xs H2 Q
variable {o e : Expr} {es : List Expr} {to : TE} {t : TA} {name : Str} {apos cpos : Pos} {T id : String} {r : V -> List V -> Hp -> VK -> Prop}
theorem Ye (pa : PlainAttrs T) (slot : Slot T name id) (hty : typeOf (.builtin id) = pure (.type "method_descriptor")) (hm : MtR X id r) (ho : PE X o to) (ha : PA X (e :: es) t)
  (hbase : attributeBase o name X.env (eval o X.env) = eval o X.env := by rfl)
  (hfew : ((backTo cpos (starEach (e :: es) X.env)).all (fun x => !x.1) && (backToKw cpos (keywordEach [] X.env)).all (fun x => x.1.isSome)
   && decide ((e :: es).length + ([] : List Keyword).length + (if ([] : List Keyword).isEmpty then 0 else 1) < 30)) = true := by rfl)
  (hline : (apos.endLine == cpos.line) = true := by rfl) (hs : starEach (e :: es) X.env = (false, eval e X.env) :: starEach es X.env := by rfl) (hplain : (backTo cpos (starEach es X.env)).any (·.1) = false := by rfl) :
  PE X (.Call (.Attribute o name apos) (e :: es) [] cpos) (tBM X.K T r to t) := by
 intro pins s σ H Q I h
 refine wpAny_Call_method_late hbase hfew hline rfl (thn (ho pins s σ H _ I h) fun v s1 ⟨x, H1, I1, r1, ty, q1⟩ => ?_)
 obtain ⟨h1, h2⟩ := Y8 I1 r1 ty
 refine ⟨T, id, pa, slot, hty, h1, h2, ?_⟩
 have hA := ha cpos pins s1 σ H1 _ I1 q1
 rw [hs] at hA ⊢
 refine Calls.callWith_builtin (by show (false || (backTo cpos (starEach es X.env)).any (·.1)) = false; rw [hplain] <;> rfl) (Calls.evalArgs_plain ?_)
 exact thn hA fun us s2 ⟨vs, H2, I2, r2, q2⟩ => hm pins s2 σ H2 x vs v us Q I2 r1 r2 q2
/- xs.append(e), list.index on a module's tuple .. are MtR facts of 06m -/
end
end L2
namespace L2
open PySem PySem.Spec PyProof.Rows
noncomputable def MtM (X : Cx) (id : String) (r : V -> List V -> Hp -> VK -> Prop) : Prop :=
 ∀ (pins : List (Addr × Obj)) (s : Shared) (σ : St) (H : Hp) (x : V) (xs : List V) (v : Value) (us : List Value) (Q : VK), Inv X pins σ H s -> zr x v -> zq xs us -> r x xs H Q ->
  wpAny (model X.prog X.w) X.A (call (.builtin id) (v :: us)) (EP X pins σ Q) X.xe s
theorem zq.one : ∀ {x : V} {us : List Value}, zq [x] us -> ∃ u, us = [u] /\ zr x u
 | _, _, .cons r .nil => ⟨_, rfl, r⟩
theorem zq.rep {xs : List V} {us : List Value} (h : zq xs us) : ∀ k : Nat, zq (List.replicate k xs).flatten (List.replicate k us).flatten
 | 0 => .nil
 | k + 1 => by
  rw [List.replicate_succ, List.replicate_succ, List.flatten_cons, List.flatten_cons]
  exact zq.append h (zq.rep h k)
theorem xA (its : List Value) : ∀ (k : Nat) (acc : List Value),
  List.foldl (fun x1 x2 => x1 ++ x2) acc.toArray (List.replicate k its.toArray) = (acc ++ (List.replicate k its).flatten).toArray
 | 0, acc => by simp
 | k + 1, acc => by
  have e : acc.toArray ++ its.toArray = (acc ++ its).toArray := by simp
  have e2 : (acc ++ its) ++ (List.replicate k its).flatten = acc ++ (List.replicate (k + 1) its).flatten := by
   rw [List.replicate_succ, List.flatten_cons, List.append_assoc]
  rw [<- e2, <- xA its k (acc ++ its), <- e, List.replicate_succ, List.foldl_cons]
section
variable {X : Cx} {pins : List (Addr × Obj)} {σ : St} {H : Hp} {s : Shared} {l b : Addr} {xs ys zs : List V}
theorem Inv.lset {its its' : List Value} {n : Nat} {f : Array Value -> Array Value} {t' : Nat} (I : Inv X pins σ H s) (hH : H l = some (.lst xs))
  (e : s.heap.get? l = some { cls := .type "list", data := .seq its.toArray n }) (hf : f its.toArray = its'.toArray) (hv : zq ys its') (hz : ys.length <= sizeLine) :
  Inv X pins σ (upd H l (.lst ys)) { s with heap := s.heap.update l (Obj.mapSeq f), toks := t' } := by
 have q := PySem.IsL.update e f
 rw [hf] at q
 refine I.write (x := l) (e := l) (by rw [hH]; exact trivial) (.inl rfl) (fun b' u hb hu => (Heap.get?_update_other s.heap (Obj.mapSeq f) (Ne.symm hb)).trans hu) ⟨_, q⟩ ?_
 exact ⟨hz, its', _, hv, q⟩
theorem Inv.lnew {its : List Value} {t' : Nat} (I : Inv X pins σ H s) (hv : zq ys its) (hz : ys.length <= sizeLine) :
  Inv X pins σ (upd H s.heap.objs.size (.lst ys)) { s with heap := s.heap.push { cls := .type "list", data := .seq its.toArray }, toks := t' } :=
 I.laid (fun _ _ q => Heap.get?_push_of_some _ q) (Nat.le_refl _) ⟨hz, its, 0, hv, Heap.get?_push_size _ rfl⟩
theorem Inv.fresh (I : Inv X pins σ H s) : H s.heap.objs.size = none := I.hok.fresh (Nat.le_refl _)
theorem Inv.lstM (I : Inv X pins σ H s) (hH : H l = some (.lst xs)) : xs.length <= sizeLine /\ ∃ (its : List Value) (n : Nat), zq xs its /\ xs.length = its.length /\ s.heap.get? l = some { cls := .type "list", data := .seq its.toArray n } := by
 obtain ⟨z, its, n, r, e⟩ := I.hok l _ hH
 exact ⟨z, its, n, r, r.length, e⟩
theorem vb {n : Nat} (h : n <= sizeLine) : Builtin.List.listTooLong n = false := by
 unfold Builtin.List.listTooLong
 exact decide_eq_false (by omega)
end
section
variable {X : Cx}
noncomputable def kA : V -> List V -> Hp -> VK -> Prop := fun x vs H Q => ∃ l xs y, x = .ref l /\ vs = [y] /\ H l = some (.lst xs) /\ xs.length < sizeLine /\ Q .non (upd H l (.lst (xs ++ [y])))
theorem xJ : MtM X "list.append" kA := by
 intro pins s σ H x vs v us Q I rx rv h
 obtain ⟨l, xs, y, rfl, rfl, hH, hz, q⟩ := h
 cases rx
 obtain ⟨u, rfl, ru⟩ := rv.one
 obtain ⟨z, its, n, r, hl, e⟩ := I.lstM hH
 refine call_meets F.slot_list_append ⟨_, e, rfl⟩ F.entry_list_append (F.args_list_append_2 _ _) (PySem.list_append l its.toArray n u (by rw [List.size_toArray]; omega)) ⟨e, ?_⟩
 refine ⟨.non, _, I.lset (its' := its ++ [u]) hH e (by simp) (r.append (.cons ru .nil)) ?_, rfl, q⟩
 rw [List.length_append, List.length_singleton]
 omega
noncomputable def kq : V -> List V -> Hp -> VK -> Prop := fun x vs H Q => ∃ l b xs zs, x = .ref l /\ vs = [.ref b] /\ H l = some (.lst xs) /\ H b = some (.lst zs) /\ xs.length + zs.length <= sizeLine /\ Q .non (upd H l (.lst (xs ++ zs)))
theorem ZE : MtM X "list.extend" kq := by
 intro pins s σ H x vs v us Q I rx rv h
 obtain ⟨l, b, xs, zs, rfl, rfl, hH, hB, hz, q⟩ := h
 cases rx
 obtain ⟨u, rfl, ru⟩ := rv.one
 cases ru
 obtain ⟨z, its, n, r, hl, e⟩ := I.lstM hH
 obtain ⟨z2, its2, n2, r2, hl2, e2⟩ := I.lstM hB
 have hsz : its.toArray.size + its2.toArray.size <= sizeLine := by rw [List.size_toArray, List.size_toArray]; omega
 have hlong : ¬ (!its.toArray.isEmpty && Builtin.List.listTooLong (its.toArray.size + its2.toArray.size)) = true := by
  rw [vb hsz, Bool.and_false]
  exact Bool.false_ne_true
 refine call_meets F.slot_list_extend ⟨_, e, rfl⟩ F.entry_list_extend (F.args_list_extend_2 _ _)
  (AutoSeq1.list_extend_list_list_0 l its.toArray n b its2.toArray n2 hlong (by rw [List.size_toArray]; omega) (by omega)) ⟨e, e2, ?_⟩
 refine ⟨.non, _, I.lset (its' := its ++ its2) hH e (by simp) (r.append r2) ?_, rfl, q⟩
 rw [List.length_append]
 omega
noncomputable def Xg : R2 := fun x y H Q => ∃ l b xs zs, x = .ref l /\ y = .ref b /\ H l = some (.lst xs) /\ H b = some (.lst zs) /\ xs.length + zs.length <= sizeLine /\ ∀ p, H p = none -> Q (.ref p) (upd H p (.lst (xs ++ zs)))
theorem QL : OpR X (binaryOp .Add) Xg := by
 intro pins s σ H x y v u Q I rx ry h
 obtain ⟨l, b, xs, zs, rfl, rfl, hH, hB, hz, q⟩ := h
 cases rx
 cases ry
 obtain ⟨z, its, n, r, hl, e⟩ := I.lstM hH
 obtain ⟨z2, its2, n2, r2, hl2, e2⟩ := I.lstM hB
 refine PySem.P.add_list e e2 ?_ (by rw [List.size_toArray, List.size_toArray]; omega)
 have ea : its.toArray ++ its2.toArray = (its ++ its2).toArray := by simp
 rw [ea]
 exact ⟨.ref _, _, I.lnew (t' := s.toks) (r.append r2) (by rw [List.length_append]; omega), rfl, q _ I.fresh⟩
noncomputable def KH : R2 := fun x y H Q => ∃ l k xs, x = .ref l /\ y = .int k /\ H l = some (.lst xs) /\ -(2 ^ 63) <= k /\ k < 2 ^ 63 /\ xs.length * k.toNat <= sizeLine /\
 ∀ p, H p = none -> Q (.ref p) (upd H p (.lst (List.replicate k.toNat xs).flatten))
theorem XI {α : Type} (xs : List α) (k : Nat) : (List.replicate k xs).flatten.length = k * xs.length := by
 induction k with
 | zero => simp
 | succ k ih => rw [List.replicate_succ, List.flatten_cons, List.length_append, ih, Nat.succ_mul, Nat.add_comm]
theorem vR : OpR X (binaryOp .Mult) KH := by
 intro pins s σ H x y v u Q I rx ry h
 obtain ⟨l, k, xs, rfl, rfl, hH, h1, h2, hz, q⟩ := h
 cases rx
 obtain ⟨t, rfl⟩ := ry
 obtain ⟨z, its, n, r, hl, e⟩ := I.lstM hH
 have hlen : its.toArray.size * k.toNat <= sizeLine := by rw [List.size_toArray, <- hl]; exact hz
 have hcap : ¬ its.toArray.size * k.toNat > (2 ^ 63 - 1) / 8 := by
  have : (sizeLine : Nat) <= (2 ^ 63 - 1) / 8 := by decide
  omega
 have hfit : ¬ (!Builtin.List.listFitsIndex k) = true := by
  rw [fitsIndex_both h1 h2]
  exact Bool.false_ne_true
 have hlong : ¬ Builtin.List.listTooLong (its.toArray.size * k.toNat) = true := by
  rw [vb hlen]
  exact Bool.false_ne_true
 have hnew : List.foldl (fun x1 x2 => x1 ++ x2) #[] (List.replicate (if its.toArray.isEmpty = true then 0 else k.toNat) its.toArray) = (List.replicate k.toNat its).flatten.toArray := by
  have f0 : ∀ m : Nat, List.foldl (fun x1 x2 => x1 ++ x2) #[] (List.replicate m its.toArray) = (List.replicate m its).flatten.toArray := fun m => by
   have := xA its m []
   rw [List.nil_append] at this
   exact this
  rw [f0]
  cases its with
  | nil => simp
  | cons a r' => rw [if_neg (by simp)]
 refine wpAny_binaryOp_repeat_ref (T := "list") (U := "int") (by decide) ⟨_, e, rfl⟩ (fun s' => typeIs_int s' k t) noFill_list_mul F.fills_int_mul F.slot_int_rmul repeat_list F.slot_int_index.lookup
  (call_meets F.slot_int_rmul (typeIs_int s k t) F.entry_int_rmul (F.args_int_rmul_2 _ _) (int___rmul___int_list k t l its.toArray n)
   ⟨e, rfl, ⟨_, e, rfl⟩, call_meets F.slot_list_mul ⟨_, e, rfl⟩ F.entry_list_mul (F.args_list_mul_2 _ _) (AutoListH.list___mul___list_int_3 l its.toArray n k t hfit hcap hlong) ⟨e, ?_⟩⟩)
 rw [hnew]
 exact ⟨.ref _, _, I.lnew (t' := s.toks) (r.rep k.toNat) (by rw [XI, Nat.mul_comm]; exact hz), rfl, q _ I.fresh⟩
end
section
variable {prog : Program} {w : World} {A : Around} {E : Value -> Shared -> Prop} {s : Shared}
end
section
variable {X : Cx}
end
end L2
namespace Att
open PySem PySem.W PySem.Calls PyProof.Rows
theorem kn {P : Params} {h : Heap} : ∀ (ns : List Int) (vs : List Value), WellAll P h vs (ns.map WData.int) -> IntsAre vs ns := by
 intro ns
 induction ns with
 | nil =>
  intro vs w
  rw [List.map_nil] at w
  cases w
  exact .nil
 | cons n ns ih =>
  intro vs w
  rw [List.map_cons] at w
  cases w with
  | cons a b =>
   cases a
   exact .cons _ _ (ih _ b)
theorem ZA {l : OpenLaw} {n : Nat} (hn : l.most = some n) {P : Params} {h : Heap} {args : List WData} {vals : List Value}
  (hpre : l.row.toRowW.claim.pre args = true) (hwl : WellAll P h vals args) :
  ∃ a vs ns, vals = [Value.ref a] /\ args = [WData.list (ns.map WData.int)] /\ h.get? a = some { cls := .type "list", data := .seq vs.toArray } /\ IntsAre vs ns /\ ns.length <= n := by
 have hsh : WShape.hasAll [] args [.list .int] = true := (pre_splitW hpre).1
 have hc : l.pre.holds [] { args := args } = true := (pre_splitW hpre).2
 obtain ⟨d, r, rfl, h1, h2⟩ := hasAllW_cons hsh
 obtain rfl := hasAllW_nil h2
 obtain ⟨xs, rfl, h3⟩ := hasW_list h1
 obtain ⟨ns, rfl⟩ := items_int h3
 have hlen : ns.length <= n := by
  unfold OpenLaw.pre at hc
  have h4 : (WTm.not (.lt (.lit (.int (n : Int))) (.len (.arg 0)))).holds [] { args := [.list (ns.map .int)] } = true := by
   have h4 := (holds_andW hc).1
   rw [hn] at h4
   exact h4
  have h5 := condW_of h4 (w_not (w_lt w_lit (w_len_list (w_arg rfl))))
  rw [List.length_map] at h5
  refine Nat.le_of_not_lt fun q => ?_
  have q' : (n : Int) < ((ns.length : Nat) : Int) := by omega
  first
   | (rw [decide_eq_true q'] at h5; exact absurd h5 (by decide))
   | (simp at h5; omega)
 cases hwl with
 | cons w1 w2 =>
  cases w2
  cases w1 with
  | list ho hall => exact ⟨_, _, ns, rfl, rfl, ho, kn ns _ hall, hlen⟩
theorem Z6 (l : OpenLaw) (args : List WData) : l.row.toRowW.claim.post args (.bool true) args = true :=
 postW_of (r := l.row.toRowW) (X := (true == true))
  (show WShape.has [] (.bool true) .bool = true by first | rfl | decide | simp [WShape.has, WShape.arms, WShape.armsAll])
  (show (WTm.eq .res (.lit (.bool true))).value [] { args := args, res := some (.bool true), after := args } = some (.bool (true == true)) from w_eq_bool (w_res rfl) w_lit) rfl
theorem attach_call {l : OpenLaw} {n : Nat} {q : Program} {loose : List Str} {XP : (Str -> Option Value) -> Heap -> Prop} {YP : World -> Heap -> Prop} {d : DefRec}
  (hn : l.most = some n) (hdf : d.params.defaults = [])
  (call : ∀ (w : World) (s₀ s₁ : Shared) (mg mb : Str -> Option Value) (fa : Addr) (o : Obj) (pm cd doc : Value) (a : Addr) (vs : List Value) (ns : List Int),
   Ground q loose [] XP w s₀ mg mb s₁.heap -> YP w s₁.heap ->
   s₁.heap.get? fa = some o -> o.data = .func (docDef d.name d.params d.body d.scope pm cd doc) -> s₁.heap.CodeRec cd d.name -> mg d.name = some (.ref fa) ->
   s₁.heap.get? a = some { cls := .type "list", data := .seq vs.toArray } -> IntsAre vs ns -> ns.length <= n -> s₁.gens = #[] ->
   codeAny (model l.prog w) callerA (.call (.ref fa) ⟨[.ref a], []⟩) (fun r s' => r = .ok (.ret (.bool true)) /\ OldK s₁.heap s'.heap /\ s'.os = s₁.os /\ AllBare s'.gens) s₁) :
  WalkO q loose XP YP l.row.toRowW d [] (fun f vs => PySem.call f vs) := by
 intro w s₀ s₁ mg mb G Y fa o pm cd doc dV kV ho hd hcd hD hmg hg args vals as hpre hlay hrd hwl hlo
 obtain rfl : dV = .none := Dflts.none hD hdf
 obtain rfl : kV = .none := Dflts.noKw hD
 obtain ⟨a, vs, ns, rfl, rfl, hobj, hints, hlen⟩ := ZA hn hpre hwl
 refine enter_call (codeAny_mono (call w s₀ s₁ mg mb fa o pm cd doc a vs ns G Y ho (fd_plain hd) hcd hmg hobj hints hlen hg) fun r s' hq => ?_)
 obtain ⟨rfl, h2, h3, h4⟩ := hq
 exact ⟨.inl ⟨.bool true, .bool true, [], rfl, fun _ => rfl, .bool true, Z6 l _, fun _ => ⟨List.Pairwise.nil, fun _ hm => (nomatch hm)⟩⟩, h2, h3, h4⟩
section
variable {prog : Program} {w : World} {A : Around} {E : Value -> Shared -> Prop} {s : Shared} {K : Frag}
noncomputable def Ai (h : Heap) (L d : Addr) : List (Addr × Obj) := (List.range h.objs.size).filterMap fun a => if a = L \/ a = d then none else (h.get? a).map fun o => (a, o)
end
end Att
namespace L2
open PySem PySem.Spec PyProof.Rows
theorem xP : ∀ {vs : List Value} {ns : List Int}, IntsAre vs ns -> zq (ns.map V.int) vs
 | _, _, .nil => .nil
 | _, _, .cons n t h => .cons ⟨t, rfl⟩ (xP h)
noncomputable def YC (H : Hp) : Prop := ∀ b, H b = none \/ ∃ o xs, H b = some (.frz o (.lst xs))
theorem QE {P : Program} {w : World} {K : PySem.W.Frag} {mg mb : Str -> Option Value} {CX : CXT} {k : Nat} {fa a : Addr} {fd : FuncData} {x : Str} {sp : Sp} {s₁ : Shared} {vs : List Value} {ns : List Int}
  (KX : K.In s₁.heap) (hns : s₁.heap.Ns mainGlobals mg) (hb : s₁.heap.Ns builtinsNs mb) (hbb : ∀ x : Str, x ≠ "__name__" -> mb x = bootBuiltins x) (hlim : s₁.heap.NoLimit) (hg : s₁.gens = #[])
  (ha : s₁.heap.get? a = some { cls := .type "list", data := .seq vs.toArray }) (hi : IntsAre vs ns) (hl : ns.length <= sizeLine) (hr : qK k callerA)
  (F : ∀ base : Heap, K.In base -> base.Ns mainGlobals mg -> jy P w K mg base CX k fa fd [x] sp) (hbind : ∀ (s : Shared) (u : Value), BindsTo s fd ⟨[u], []⟩ [(x, u)])
  (hsp : ∀ H : Hp, YC H -> SqL K H a (ns.map V.int) -> sp [.ref a] H (fun v _ => v = .bl true) fun _ _ _ => False)
  (hCX : ∀ H e s', CX [] H s₁ (fun _ _ _ => False) e s' -> False) :
  codeAny (model P w) callerA (.call (.ref fa) ⟨[.ref a], []⟩) (fun r s' => r = .ok (.ret (.bool true)) /\ OldK s₁.heap s'.heap /\ s'.os = s₁.os /\ AllBare s'.gens) s₁ := by
 have rv := xP hi
 have lenV := hi.length
 have core : ∀ H : Hp, YC H -> SqL K H a (ns.map V.int) -> HOk P w H s₁.heap -> (∀ b, H b ≠ none -> b = a) -> (H a ≠ none -> K.lookup a = none) ->
   codeAny (model P w) callerA (.call (.ref fa) ⟨[.ref a], []⟩) (fun r s' => r = .ok (.ret (.bool true)) /\ OldK s₁.heap s'.heap /\ s'.os = s₁.os /\ AllBare s'.gens) s₁ := by
  intro H hO hS hok hA hK
  have base_of : ∀ {b : Addr} {o : Obj}, s₁.heap.get? b = some o -> H b = none -> (yJ s₁.heap H).get? b = some o := fun e n => Ko e n
  have noA : ∀ {b : Addr} {o : Obj} {es : Array DictEntry} {ep : Nat}, s₁.heap.get? b = some o -> o.data = .dict es ep -> H b = none := fun {b o es ep} e d => by
   cases q : H b with
   | none => rfl
   | some u =>
    have e' : b = a := hA b (by rw [q]; simp)
    subst e'
    rw [ha] at e; cases e
    have d' : Data.seq vs.toArray _ = Data.dict es ep := d
    cases d'
  have nsK : ∀ {b : Addr} {m : Str -> Option Value}, s₁.heap.Ns b m -> (yJ s₁.heap H).Ns b m := fun {b m} ⟨o, es, ep, e, d, r⟩ => ⟨o, es, ep, base_of e (noA e d), d, r⟩
  have hKb : K.In (yJ s₁.heap H) := fun b o e => base_of (KX b o e) (by
   cases q : H b with
   | none => rfl
   | some u =>
    have e' : b = a := hA b (by rw [q]; simp)
    subst e'
    rw [hK (by rw [q]; simp)] at e; cases e)
  have hM : Mod K mg (yJ s₁.heap H) := ⟨hKb, nsK hns, ⟨mb, nsK hb, hbb⟩, let ⟨mc, h1, h2⟩ := hlim; ⟨mc, nsK h1, h2⟩⟩
  have e0 : KS P w K mg (yJ s₁.heap H) callerA [] s₁ H := ⟨rfl, hM, fun b o e => XN e, Nat.le_of_eq (ZT _ _), trivial, fun b hb => absurd (show b ∈ ([] : List Addr) from hb) (by simp), hok, .of_eq hg⟩
  refine codeAny_mono ((F _ hKb (nsK hns)).run callerA [] s₁ H ⟨[.ref a], []⟩ [.ref a] [.ref a] _ _ hr e0 (hbind s₁ (.ref a)) (.cons rfl .nil) (hsp H hO hS)) fun r s' h => ?_
  cases r with
  | error e => exact (hCX H e s' h).elim
  | ok fl =>
   cases fl with
   | next => exact False.elim h
   | brk => exact False.elim h
   | cont => exact False.elim h
   | ret u =>
    obtain ⟨v, H', os, bare, un, hok', r', q⟩ := h
    have q' : v = .bl true := q
    subst q'
    obtain rfl : u = Value.bool true := r'
    refine ⟨rfl, OldK.of_keep fun b o e => ?_, os, bare⟩
    cases q : H b with
    | none => exact un.keep b o e q (by intro z; exact absurd (show b ∈ ([] : List Addr) from z) (by simp)) (by simp)
    | some u =>
     rcases hO b with z | ⟨ob, xs, z⟩
     ·rw [q] at z; cases z
     ·have z2 := un.frzs b ob _ z
      obtain ⟨e1, _⟩ := hok b _ z
      obtain ⟨e2, _⟩ := hok' b _ z2
      rw [e] at e1; cases e1
      exact e2
 cases hk : K.lookup a with
 | some o =>
  have e := KX a o hk
  rw [ha] at e
  cases e
  refine core (fun _ => none) (fun _ => .inl rfl) (.inr ⟨_, vs.toArray, _, hk, rfl, rfl, rfl, by rw [List.size_toArray, lenV]; exact hl, by simpa using rv⟩) (fun b u z => by have z' : (none : Option HO) = some u := z; cases z') (fun b z => absurd rfl z) fun z => absurd rfl z
 | none =>
  refine core (fun b => if b = a then some (.frz { cls := .type "list", data := .seq vs.toArray } (.lst (ns.map V.int))) else none) (fun b => ?_) (.inl (.inr ⟨{ cls := .type "list", data := .seq vs.toArray }, if_pos rfl⟩)) (fun b u z => ?_) (fun b z => ?_) fun _ => hk
  ·by_cases hb : b = a
   ·exact .inr ⟨_, _, if_pos hb⟩
   ·exact .inl (if_neg hb)
  ·by_cases hb : b = a
   ·have z' := (if_pos hb).symm.trans z
    cases z'
    subst hb
    exact ⟨ha, by rw [List.length_map]; exact hl, vs, _, rv, ha⟩
   ·have z' := (if_neg hb).symm.trans z
    cases z'
  ·by_cases hb : b = a
   ·exact hb
   ·exact absurd (if_neg hb) z
end L2
namespace L2
open PySem PySem.Spec PyProof.Rows
noncomputable abbrev KOf {K : PySem.W.Frag} {h : Heap} (_ : K.In h) : PySem.W.Frag := K
theorem walk_of {l : PySem.W.OpenLaw} {n k : Nat} {q : Program} {loose : List Str} {XP : (Str -> Option Value) -> Heap -> Prop} {YP : World -> Heap -> Prop} {d : DefRec} {K : Params -> PySem.W.Frag} {CX : World -> CXT} {sp : World -> Sp} {x : Str}
  (hn : l.most = some n) (hn2 : n <= sizeLine) (hdf : d.params.defaults = []) (hr : qK k callerA)
  (hY : ∀ (w : World) (h : Heap), YP w h -> (K w.params).In h)
  (F : ∀ (w : World) (mg : Str -> Option Value) (fa : Addr) (h : Heap), (K w.params).In h -> h.Ns mainGlobals mg -> mg d.name = some (.ref fa) ->
   ∃ fd : FuncData, (∀ (s : Shared) (u : Value), BindsTo s fd ⟨[u], []⟩ [(x, u)]) /\
    ∀ base : Heap, (K w.params).In base -> base.Ns mainGlobals mg -> jy l.prog w (K w.params) mg base (CX w) k fa fd [x] (sp w))
  (hsp : ∀ (w : World) (H : Hp) (a : Addr) (ns : List Int), ns.length <= n -> YC H -> SqL (K w.params) H a (ns.map V.int) -> sp w [.ref a] H (fun v _ => v = .bl true) fun _ _ _ => False)
  (hCX : ∀ (w : World) (H : Hp) (s : Shared) (e : Value) (s' : Shared), CX w [] H s (fun _ _ _ => False) e s' -> False) :
  PySem.W.WalkO q loose XP YP l.row.toRowW d [] (fun f vs => PySem.call f vs) := by
 refine Att.attach_call hn hdf fun w s₀ s₁ mg mb fa o pm cd doc a vs ns G Y ho hd hcd hmg hobj hints hlen hg => ?_
 have KX := hY w _ Y
 obtain ⟨fd, hb, hF⟩ := F w mg fa _ KX G.T.g hmg
 exact QE KX G.T.g G.T.b G.T.builtins G.T.nolimit hg hobj hints (Nat.le_trans hlen hn2) hr hF hb (fun H hO hS => hsp w H a ns hlen hO hS) fun H e s' => hCX w H s₁ e s'
end L2
/- THE LAST THEOREM (shape; LID, My.* are yours):
   My.Adr: a structure of the addresses that your layer names (classes, functions); My.Txt K t: a structure (Prop) of the equations over K;
   My.txt_mk : {K} {implicit addresses ..} (e1 : nsIn K mainGlobals "law" = some (some (.ref f))) (e2 : K.lookup f = some ⟨oc, od, .func (fnOf "law" "law" params body scope dV kV doc pm an cdv ct), sl⟩) (e3 : codeIn K cdv "law" = true) .. : ∃ t, My.Txt K t
set_option maxRecDepth 100000 in
set_option maxHeartbeats 0 in
theorem PySem.Challenge.cw_LID_holds : PySem.Challenge.rw_LID.Holds := by
 w_on; o_law; k_head; (case hw => w_witness2)
 k_fill
 refine L2.walk_of (l := PySem.Challenge.rw_LID) (n := 63) (k := 40) (x := "script") (CX := fun w => ..) (sp := fun _ => My.sp_law) rfl (by decide) rfl ⟨rfl, by decide, by decide⟩ (fun w h Y => PySem.W.kIn_of Y) ?F ?S ?C
 case F =>
  intro w mg fa h KX G hmg
  have T : ∃ t, My.Txt (L2.KOf KX) t := by
   dsimp only [L2.KOf]                          -- K must stand as «<heap const> w.params» for k_is
   refine' My.txt_mk ?e1 ?e2 ?e3 ..
   (case e1 => PySem.W.k_is)                    -- in the order: a name -> its address -> its object -> its parts
   (case e2 => PySem.W.k_is)
   ..
  obtain ⟨t, T⟩ := T
  have e0 := hmg.symm.trans (PySem.W.mg_of KX G T.law)
  cases e0                                       -- fa is the law's own address
  exact ⟨_, fun s u => .of_eq rfl, fun base kb nb => My.law_fn T kb nb⟩     -- if «.of_eq rfl» comes too early: refine' ⟨_, ?b, fun base kb nb => My.law_fn T kb nb⟩; exact fun s u => .of_eq rfl
 case S => exact fun w H a ns hl hO hS => ..
 case C => exact ..
(the tactic k_is has no namespace: write k_is) -/
namespace L2
open PySem PySem.Spec PyProof.Rows
noncomputable def qv (s : Stmt) : Arguments := match s with
 | .FunctionDef _ a _ _ _ _ _ _ _ _ => a
 | _ => { posonlyargs := [], args := [], vararg := none, kwonlyargs := [], kw_defaults := [], kwarg := none, defaults := [] }
noncomputable def qc (s : Stmt) : List Stmt := match s with
 | .FunctionDef _ _ b _ _ _ _ _ _ _ => b
 | _ => []
noncomputable def zj (s : Stmt) : Scope := match s with
 | .FunctionDef _ _ _ _ _ _ sc _ _ _ => sc
 | _ => { kind := .function, names := [], isGenerator := false, isCoroutine := false }
noncomputable abbrev CX0 : CXT := fun _ _ _ _ _ _ => False
noncomputable abbrev E0 : XK := fun _ _ _ => False
theorem W0 {X : Cx} : vY CX0 X E0 := fun _ _ _ _ _ _ _ h => h.elim
structure Fun (K : PySem.W.Frag) (x qual : Str) (st : Stmt) (f : Addr) (fd : FuncData) : Prop where
 ex : ∃ (oc : Value) (od : Option Addr) (kV doc pm : Value) (an : Option Addr) (cdv ct : Value) (osl : Array (Option Value)),
  fd = PySem.W.fnOf x qual (qv st) (qc st) (zj st) .none kV doc pm an cdv ct /\ K.lookup f = some ⟨oc, od, .func fd, osl⟩ /\ PySem.W.codeIn K cdv qual = true
 kp : PySem.W.keepIn K (.ref f) = true
section
variable {P : Program} {w : World} {K : PySem.W.Frag} {mg : Str -> Option Value} {base : Heap}
theorem Fun.ok {x qual : Str} {st : Stmt} {f : Addr} {fd : FuncData} {N ps : List Str} {k : Nat} {sp : Sp} (F : Fun K x qual st f fd) (S : zz N ps (zj st)) (len : ∀ vs H Q E, sp vs H Q E -> vs.length = ps.length)
  (hbody : ∀ (cdv : Value) (A : Around) (outer : List Env) (s : Shared) (H : Hp) (vs : List V) (Q : VK) (E : XK), qK k (A.deeper (envOfC qual (zj st) s.heap.objs.size f cdv)) -> sp vs H Q E ->
   ∃ t, PSs (yi CX0 P w K mg base N qual (zj st) f cdv A outer s H E).nox (qc st) t /\ t { nx := fun _ H' => Q .non H', rt := Q } (qy N vs) H) : jy P w K mg base CX0 (k + 1) f fd ps sp := by
 obtain ⟨oc, od, kV, doc, pm, an, cdv, ct, osl, rfl, lk, hcd⟩ := F.ex
 refine WX lk hcd S len fun A outer s H vs Q E hr hsp => ?_
 obtain ⟨t, h, q⟩ := hbody cdv A outer s H vs Q E hr hsp
 exact ⟨t, h.nox, q⟩
theorem Fun.binds {x qual : Str} {st : Stmt} {f : Addr} {fd : FuncData} {ps : List Str} (F : Fun K x qual st f fd)
  (h : ∀ (kV doc pm : Value) (an : Option Addr) (cdv ct : Value) (us : List Value), us.length = ps.length -> bindArgs (PySem.W.fnOf x qual (qv st) (qc st) (zj st) .none kV doc pm an cdv ct) ⟨us, []⟩ = pure (ps.zip us)) : xV K fd ps [] := by
 obtain ⟨oc, od, kV, doc, pm, an, cdv, ct, osl, rfl, lk, hcd⟩ := F.ex
 exact .all (h kV doc pm an cdv ct)
theorem Q3 {x qual : Str} {st : Stmt} {f : Addr} {oc : Value} {od an : Option Addr} {osl : Array (Option Value)} {kV doc pm cdv ct : Value} (l : K.lookup f = some ⟨oc, od, .func (PySem.W.fnOf x qual (qv st) (qc st) (zj st) .none kV doc pm an cdv ct), osl⟩)
  (c : PySem.W.codeIn K cdv qual = true) (k : PySem.W.keepIn K (.ref f) = true) : Fun K x qual st f (PySem.W.fnOf x qual (qv st) (qc st) (zj st) .none kV doc pm an cdv ct) := ⟨⟨oc, od, kV, doc, pm, an, cdv, ct, osl, rfl, l, c⟩, k⟩
end
section
variable {X : Cx}
theorem pv (i : Nat) {x : Str} {pos : Pos} (hN : X.N[i]? = some x := by rfl) (hv : Vis X.env.scope x := by first | exact Or.inl rfl | exact Or.inr (Or.inl rfl) | exact Or.inr (Or.inr rfl)) (hd : (x == ("__debug__" : Str)) = false := by decide)
  (hcd : (x == ("__classdict__" : Str)) = false := by decide) : PE X (.Name x pos) (XD i) := Yt hN hv hd hcd
end
theorem Ag {c A B : Prop} [Decidable c] (h1 : c -> A) (h2 : ¬ c -> B) : if c then A else B := by
 by_cases h : c
 ·rw [if_pos h]
  exact h1 h
 ·rw [if_neg h]
  exact h2 h
end L2
namespace L2
open PySem PySem.Spec PyProof.Rows
section
variable {κ : Type} [DecidableEq κ]
end
section
variable {P : Program} {w : World} {H : Hp} {h : Heap} {a : Addr}
end
section
variable {X : Cx} {pins : List (Addr × Obj)} {σ : St} {H : Hp} {s : Shared} {a : Addr} {y v : V} {u r : Value} {o : Option V} {A : Around} {E : Value -> Shared -> Prop}
end
section
variable {X : Cx} {pins : List (Addr × Obj)} {σ : St} {H : Hp} {s : Shared} {a : Addr} {kvs : List (Key × V)} {k : Key} {u : Value} {A : Around} {E : Value -> Shared -> Prop}
end
section
variable {X : Cx} {o i e value : Expr} {pos pos' tpos : Pos} {td ty tv : TE}
end
section
variable {X : Cx} {pos : Pos}
end
structure M1 (X : Cx) (o : Expr) (m : Str) (apos : Pos) (e : Expr) (cpos : Pos) : Prop where
 base : attributeBase o m X.env (eval o X.env) = eval o X.env
 few : ((backTo cpos (starEach [e] X.env)).all (fun x => !x.1) && (backToKw cpos (keywordEach [] X.env)).all (fun x => x.1.isSome)
  && decide (([e] : List Expr).length + ([] : List Keyword).length + (if ([] : List Keyword).isEmpty then 0 else 1) < 30)) = true
 line : (apos.endLine == cpos.line) = true
 trees : backTo cpos (starEach [e] X.env) = [(false, eval e X.env)]
structure M2 (X : Cx) (o : Expr) (m : Str) (apos : Pos) (e f : Expr) (cpos : Pos) : Prop where
 base : attributeBase o m X.env (eval o X.env) = eval o X.env
 few : ((backTo cpos (starEach [e, f] X.env)).all (fun x => !x.1) && (backToKw cpos (keywordEach [] X.env)).all (fun x => x.1.isSome)
  && decide (([e, f] : List Expr).length + ([] : List Keyword).length + (if ([] : List Keyword).isEmpty then 0 else 1) < 30)) = true
 line : (apos.endLine == cpos.line) = true
 trees : backTo cpos (starEach [e, f] X.env) = [(false, eval e X.env), (false, eval f X.env)]
section
variable {X : Cx} {pins : List (Addr × Obj)} {σ : St} {H : Hp} {s : Shared} {a : Addr} {y d : V} {u r : Value} {o : Option V} {A : Around} {E : Value -> Shared -> Prop}
end
section
variable {X : Cx} {o e f : Expr} {apos cpos : Pos} {td ty tx : TE}
end
section
variable {X : Cx} {pins : List (Addr × Obj)} {σ : St} {H : Hp} {s : Shared} {a : Addr} {kvs : List (Key × V)} {A : Around} {E : Value -> Shared -> Prop}
end
section
variable {X : Cx} {pins : List (Addr × Obj)} {σ : St} {H : Hp} {s : Shared} {a : Addr} {y : V} {u : Value} {A : Around} {E : Value -> Shared -> Prop}
end
end L2
namespace L2
open PySem PySem.Spec PyProof.Rows
section
variable {κ : Type} [DecidableEq κ]
end
end L2
set_option Elab.async false
set_option linter.all false
set_option maxRecDepth 100000
set_option maxHeartbeats 4000000
namespace L2
open PySem PySem.Spec PyProof.Rows
noncomputable def Qr (N : List Str) (ts : List Nat) (sc : Scope) (kind : Str -> Option NameKind) : Bool :=
 sc.kind == .function && sc.names.all (fun y => y.2 != .cell && (y.2 != .local || sc.names.lookup y.1 == some .local) && (y.2 != .free || kind y.1 == some .cell || kind y.1 == some .free)) &&
  N.zipIdx.all (fun p => sc.names.lookup p.1 != some .local || ts.contains p.2)
noncomputable def qd (cells : List (Str × Addr)) : List (Str × NameKind) -> List (Str × Addr) -> List (Str × Addr)
 | [], acc => acc
 | (n, k) :: r, acc => qd cells r (if k = .free then (n, (cells.lookup n).getD 0) :: acc else acc)
theorem yk {env : Env} : ∀ (names : List (Str × NameKind)) (acc : List (Str × Addr)), (∀ y ∈ names, y.2 = .free -> ∃ c, env.cells.lookup y.1 = some c) ->
  (forIn names acc fun (x : Str × NameKind) (cs : List (Str × Addr)) => (match x with | (name, kind) => if (kind == NameKind.free) = true then (do let c <- cellOf env name; pure (ForInStep.yield ((name, c) :: cs))) else pure (ForInStep.yield cs) : Sem (ForInStep (List (Str × Addr))))) = pure (qd env.cells names acc)
 | [], acc, _ => rfl
 | (n, k) :: r, acc, h => by
  rw [List.forIn_cons]
  by_cases hk : k = .free
  ·subst hk
   obtain ⟨c, hc⟩ := h (n, .free) List.mem_cons_self rfl
   have e1 : cellOf env n = pure c := by unfold cellOf; rw [hc]
   simp only [beq_self_eq_true, if_true, e1, pure_bind]
   rw [yk r _ fun y hy => h y (List.mem_cons_of_mem _ hy)]
   show _ = pure (qd env.cells r (if NameKind.free = .free then _ else _))
   rw [if_pos rfl, hc]; rfl
  ·have hb : (k == NameKind.free) = false := by simpa using hk
   simp only [hb, Bool.false_eq_true, if_false, pure_bind]
   rw [yk r _ fun y hy => h y (List.mem_cons_of_mem _ hy)]
   show _ = pure (qd env.cells r (if k = .free then _ else _))
   rw [if_neg hk]
theorem jZ {cells : List (Str × Addr)} : ∀ (names : List (Str × NameKind)) (acc : List (Str × Addr)), (∀ y ∈ names, y.2 = .free -> ∃ c, cells.lookup y.1 = some c) -> (∀ x c, acc.lookup x = some c -> cells.lookup x = some c) ->
    (∀ x c, (qd cells names acc).lookup x = some c -> cells.lookup x = some c) /\ (∀ x c, acc.lookup x = some c -> ∃ c', (qd cells names acc).lookup x = some c') /\ ∀ y ∈ names, y.2 = .free -> ∃ c, (qd cells names acc).lookup y.1 = some c
  | [], acc, _, h2 => ⟨h2, fun x c e => ⟨c, e⟩, fun y hy => nomatch hy⟩
  | (n, k) :: r, acc, h1, h2 => by
    by_cases hk : k = .free
    · subst hk
      obtain ⟨c, hc⟩ := h1 (n, .free) List.mem_cons_self rfl
      have hc : cells.lookup n = some c := hc
      have e : qd cells ((n, .free) :: r) acc = qd cells r ((n, c) :: acc) := by
        show qd cells r (if NameKind.free = .free then _ else _) = _
        rw [if_pos rfl, hc]; rfl
      rw [e]
      obtain ⟨q1, q2, q3⟩ := jZ (cells := cells) r ((n, c) :: acc) (fun y hy => h1 y (List.mem_cons_of_mem _ hy)) (fun x c' e' => by
        rw [List.lookup_cons] at e'
        cases hx : x == n with
        | true => rw [hx] at e'; have : x = n := by simpa using hx
                  subst this; cases e'; exact hc
        | false => rw [hx] at e'; exact h2 x c' e')
      refine ⟨q1, fun x c' e' => ?_, fun y hy hf => ?_⟩
      · cases hx : x == n with
        | true => exact q2 x c (by rw [List.lookup_cons, hx])
        | false => exact q2 x c' (by rw [List.lookup_cons, hx]; exact e')
      · rcases List.mem_cons.mp hy with rfl | hy
        · exact q2 n c (by rw [List.lookup_cons, beq_self_eq_true])
        · exact q3 y hy hf
    · have e : qd cells ((n, k) :: r) acc = qd cells r acc := by
        show qd cells r (if k = .free then _ else _) = _
        rw [if_neg hk]
      rw [e]
      obtain ⟨q1, q2, q3⟩ := jZ (cells := cells) r acc (fun y hy => h1 y (List.mem_cons_of_mem _ hy)) h2
      refine ⟨q1, q2, fun y hy hf => ?_⟩
      rcases List.mem_cons.mp hy with rfl | hy
      · exact absurd hf hk
      · exact q3 y hy hf
theorem vX {scope : Scope} {env : Env} (h : ∀ y ∈ scope.names, y.2 = .free -> ∃ c, env.cells.lookup y.1 = some c) :
  ∃ cl, closureFor scope env = pure cl /\ (∀ x c, cl.lookup x = some c -> env.cells.lookup x = some c) /\ ∀ y ∈ scope.names, y.2 = .free -> ∃ c, cl.lookup y.1 = some c := by
 obtain ⟨q1, _, q3⟩ := jZ (cells := env.cells) scope.names [] h (fun x c e => nomatch e)
 refine ⟨qd env.cells scope.names [], ?_, q1, q3⟩
 unfold closureFor
 have := yk (env := env) scope.names [] h
 first
  | exact this
  | (simp only [bind_pure]; exact this)
  | (refine Eq.trans ?_ this; simp)
theorem jO {env : Env} : ∀ {names : List (Str × NameKind)} {x : Str}, (names.map fun (n, k) => if (k == NameKind.free && env.scope.kind == .function && env.kindOf n == some .cell) then (n, NameKind.cell) else (n, k)).lookup x =
  (names.lookup x).map fun k => if (k == NameKind.free && env.scope.kind == .function && env.kindOf x == some .cell) then NameKind.cell else k
 | [], _ => rfl
 | (n, k) :: r, x => by
  have ih := @jO env r x
  rw [List.map_cons]
  cases hx : x == n with
  | true =>
   have e : x = n := by simpa using hx
   subst e
   rw [List.lookup_cons (as := r), beq_self_eq_true]
   show List.lookup x ((if (k == NameKind.free && env.scope.kind == .function && env.kindOf x == some .cell) = true then (x, NameKind.cell) else (x, k)) :: _) = some _
   by_cases hc : (k == NameKind.free && env.scope.kind == .function && env.kindOf x == some .cell) = true
   ·rw [if_pos hc, List.lookup_cons, beq_self_eq_true]; dsimp only; rw [if_pos hc]
   ·rw [if_neg hc, List.lookup_cons, beq_self_eq_true]; dsimp only; rw [if_neg hc]
  | false =>
   rw [List.lookup_cons (as := r), hx]
   show List.lookup x ((if (k == NameKind.free && env.scope.kind == .function && env.kindOf n == some .cell) = true then (n, NameKind.cell) else (n, k)) :: _) = _
   by_cases hc : (k == NameKind.free && env.scope.kind == .function && env.kindOf n == some .cell) = true
   ·rw [if_pos hc, List.lookup_cons, hx]; exact ih
   ·rw [if_neg hc, List.lookup_cons, hx]; exact ih
noncomputable abbrev cxC (X : Cx) (scope : Scope) (cl : List (Str × Addr)) (s : Shared) (H : Hp) (fp : List Addr) : Cx :=
 { X with s₀ := s, H₀ := H, env := compEnvC scope cl s.heap.objs.size X.env, outer := X.stack, ex := fp, fn := fun _ => false, pn := [], xe := fun _ _ => False }
noncomputable def clr : List Nat -> St -> St
 | [], σ => σ
 | j :: r, σ => clr r (σ.set j none)
theorem wV : ∀ (ts : List Nat) (σ : St), (clr ts σ).length = σ.length
 | [], _ => rfl
 | j :: r, σ => by show (clr r (σ.set j none)).length = _; rw [wV r]; simp
theorem vn : ∀ (ts : List Nat) (σ : St) (i : Nat) (v : V), (clr ts σ)[i]? = some (some v) -> i ∉ ts /\ σ[i]? = some (some v)
 | [], _, _, _, h => ⟨by simp, h⟩
 | j :: r, σ, i, v, h => by
  obtain ⟨h1, h2⟩ := vn r (σ.set j none) i v h
  by_cases e : j = i
  ·subst e
   rw [List.getElem?_set] at h2
   simp at h2
  ·rw [List.getElem?_set_ne e] at h2
   exact ⟨by simp [h1, Ne.symm e], h2⟩
structure ScF (X : Cx) (ts : List Nat) (scope : Scope) : Prop where
 kind : scope.kind = .function
 cell : ∀ y ∈ scope.names, y.2 ≠ .cell
 loc : ∀ y ∈ scope.names, y.2 = .local -> scope.names.lookup y.1 = some .local
 free : ∀ y ∈ scope.names, y.2 = .free -> X.env.kindOf y.1 = some .cell \/ X.env.kindOf y.1 = some .free
 ts : ∀ (i : Nat) x, X.N[i]? = some x -> scope.names.lookup x = some .local -> i ∈ ts
theorem Yi {X : Cx} {ts : List Nat} {scope : Scope} (h : Qr X.N ts scope X.env.kindOf = true) : ScF X ts scope := by
  unfold Qr at h
  simp only [Bool.and_eq_true, List.all_eq_true, bne_iff_ne, ne_eq, Bool.or_eq_true, beq_iff_eq] at h
  obtain ⟨⟨h1, h2⟩, h3⟩ := h
  refine ⟨h1, fun y hy => (h2 y hy).1.1, fun y hy e => ?_, fun y hy e => ?_, fun i x e1 e2 => ?_⟩
  · rcases (h2 y hy).1.2 with z | z
    · exact absurd e z
    · exact z
  · rcases (h2 y hy).2 with (z | z) | z
    · exact absurd e z
    · exact .inl z
    · exact .inr z
  · have hm : (x, i) ∈ X.N.zipIdx := by
      rw [List.mem_zipIdx_iff_getElem?]; exact e1
    rcases h3 _ hm with z | z
    · exact absurd e2 z
    · simpa using z
section
variable {X : Cx} {ts : List Nat} {scope : Scope} {pins : List (Addr × Obj)} {σ : St} {H : Hp} {s : Shared} {fp : List Addr}
theorem wf (I : Inv X pins σ H s) (S : ScF X ts scope) (hf : ∀ b ∈ fp, ki X pins H b) (hfl : ∀ b ∈ fp, b < s.heap.objs.size) {cl : List (Str × Addr)} (c1 : ∀ x c, cl.lookup x = some c -> X.env.cells.lookup x = some c)
  (c2 : ∀ y ∈ scope.names, y.2 = .free -> ∃ c, cl.lookup y.1 = some c) {h1 : Heap} {t1 : Nat} (hns : h1.Ns s.heap.objs.size (fun x => ([] : List (Str × Value)).reverse.lookup x))
  (hk : ∀ b o, s.heap.get? b = some o -> h1.get? b = some o) : Inv (cxC X scope cl s H fp) [] (clr ts σ) H { s with heap := h1, toks := t1 } := by
 have hlk : ∀ x, (relabel scope X.env).names.lookup x = (scope.names.lookup x).map fun k => if (k == NameKind.free && X.env.scope.kind == .function && X.env.kindOf x == some .cell) then NameKind.cell else k := fun x => jO
 have cfree : ∀ x, ((relabel scope X.env).names.lookup x = some .cell \/ (relabel scope X.env).names.lookup x = some .free) -> (x, NameKind.free) ∈ scope.names := fun x hx => by
  rw [hlk] at hx
  cases e : scope.names.lookup x with
  | none => rw [e] at hx; rcases hx with hx | hx <;> cases hx
  | some k =>
   have hm := mem_of_lookup_some e
   cases k with
   | free => exact hm
   | cell => exact absurd rfl (S.cell _ hm)
   | «local» => rw [e] at hx; rcases hx with hx | hx <;> cases hx
   | globalExplicit => rw [e] at hx; rcases hx with hx | hx <;> cases hx
   | globalImplicit => rw [e] at hx; rcases hx with hx | hx <;> cases hx
 have ccell : ∀ x c, cl.lookup x = some c -> ∃ v, s.heap.IsCell c v := fun x c e => I.cell x c (c1 x c e)
 have fpne : ∀ b ∈ fp, b ∉ frs X.stack := fun b hb z => by
  obtain ⟨_, f1, f2, _⟩ := hf b hb
  rcases List.mem_cons.mp (I.stkSub b z) with e | e
  ·exact f1 e
  ·exact f2 e
 refine ⟨⟨I.ok.mod, S.kind, I.ok.glob, I.ok.blt, Nat.le_refl _, fun x y c e1 e2 => I.ok.inj x y c (c1 x c e1) (c1 y c e2), fun x hx => c2 (x, .free) (cfree x hx) rfl, (fun x c hx => nomatch hx), I.ok.hd, I.ok.frames, .inl rfl, fun b hb => ⟨Nat.ne_of_lt (hfl b hb), fun x c e => (hf b hb).2.2.2.2.1 x c (c1 x c e)⟩,
  I.bs, Nat.le_trans I.ok.bsz I.sz, fun b o e hb => ?_, fpne, I.stack, I.stkFree⟩, rfl, I.bare, Un.kept hk, ⟨_, hns, fun i x v e1 e2 e3 => ?_⟩, fun x c e => ?_, I.hok.fresh (Nat.le_refl _), fun x c e => I.freeC x c (c1 x c e), fun p hp => absurd hp (by simp), I.hok.kept hk, by rw [wV]; exact I.len⟩
 ·rcases (hf b hb).2.2.2.1 with z | z
  ·exact I.ok.noex b o e z
  ·exact absurd (Nat.lt_of_lt_of_le (Heap.lt_size e) (Nat.le_trans I.ok.bsz z)) (Nat.lt_irrefl _)
 ·obtain ⟨nt, e2⟩ := vn ts σ i v e2
  have e3' : (relabel scope X.env).names.lookup x = some .local \/ (relabel scope X.env).names.lookup x = some .cell \/ (relabel scope X.env).names.lookup x = some .free := e3
  rcases e3' with z | z
  ·rw [hlk] at z
   cases e : scope.names.lookup x with
   | none => rw [e] at z; cases z
   | some k =>
    rw [e] at z
    have z' : (if (k == NameKind.free && X.env.scope.kind == .function && X.env.kindOf x == some .cell) = true then NameKind.cell else k) = .local := Option.some.inj z
    split at z'
    ·cases z'
    ·subst z'
     exact absurd (S.ts i x e1 e) nt
  ·have hm := cfree x z
   obtain ⟨c, hc⟩ := c2 _ hm rfl
   obtain ⟨m, hn, hl⟩ := I.loc
   have vis : Vis X.env.scope x := by
    rcases S.free _ hm rfl with q | q
    ·exact .inr (.inl q)
    ·exact .inr (.inr q)
   obtain ⟨u, r, l⟩ := hl i x v e1 e2 vis
   refine ⟨u, r, .inr ⟨z, c, hc, ?_⟩⟩
   rcases l with ⟨q, _⟩ | ⟨_, c', hc', hcell⟩
   ·rcases S.free _ hm rfl with q' | q'
    ·rw [q'] at q; cases q
    ·rw [q'] at q; cases q
   ·rw [c1 x c hc] at hc'
    cases hc'
    obtain ⟨o, ho, hd⟩ := hcell
    exact ⟨o, hk _ _ ho, hd⟩
 ·obtain ⟨v, o, ho, hd⟩ := ccell x c e
  exact ⟨v, o, hk _ _ ho, hd⟩
end
section
variable {prog : Program} {w : World} {A : Around} {R : Result -> Shared -> Prop} {s : Shared}
theorem jx {elt target iter : Expr} {ifs : List Expr} {scope : Scope} {pos : Pos} {it acc : Value} {env : Env} (I : Nat -> Shared -> Prop)
    (turn : ∀ n s, I n s -> wpAny (model prog w) A (pyNext it) (fun r s₁ => match r with
      | none => R (.ok .next) s₁
      | some v => wpAny (model prog w) A (letOwnedTupleGo target it v) (fun _ s₀ => wpAny (model prog w) A (assign target env v) (fun _ s₂ =>
          wpAny (model prog w) A (forIn ifs true fun c r => if r = true then do let ok <- isTrue c env (eval c env); pure (ForInStep.yield ok) else pure (ForInStep.yield r)) (fun ok s₃ =>
            if ok = true then wpAny (model prog w) A (eval elt env) (fun x s₄ =>
              wpAny (model prog w) A (call (.builtin "list.append") [acc, x]) (fun _ s₅ => ∃ m, m < n /\ I m s₅) (fun _ _ => False) s₄) (fun _ _ => False) s₃
            else ∃ m, m < n /\ I m s₃) (fun _ _ => False) s₂) (fun _ _ => False) s₀) (fun _ _ => False) s₁) (fun _ _ => False) s)
    (n : Nat) (h : I n s) :
    codeAny (model prog w) A (.compLoop (.ListComp elt [⟨target, iter, ifs, 0⟩] scope pos) 0 it acc env) R s := by
  refine codeAny_loop rfl I (fun n s hI => ?_) n h
  show wpAny _ A ((compTurn (.ListComp elt [⟨target, iter, ifs, 0⟩] scope pos) 0 it acc env).onRaise (fun x => do noteFrame x env; theTreesLotGoes x)) _ _ s
  refine wpAny_noted ?_
  rw [compTurn_list]
  refine wpAny_bind (wpAny_standAt (wpAny_bind (wpAny_mono (turn n s hI) (fun r s₁ h₁ => ?_) fun _ _ h' => h'.elim)))
  cases r with
  | none => exact wpAny_pure h₁
  | some v =>
    refine wpAny_bind (wpAny_mono h₁ (fun _ s₀ h₀ => ?_) fun _ _ h' => h'.elim)
    refine wpAny_bind (wpAny_mono h₀ (fun _ s₂ h₂ => wpAny_bind (wpAny_mono h₂ (fun ok s₃ h₃ => ?_) fun _ _ h' => h'.elim)) fun _ _ h' => h'.elim)
    cases ok with
    | false => exact wpAny_pure ⟨rfl, h₃⟩
    | true =>
      exact wpAny_bind (wpAny_bind (wpAny_mono h₃ (fun x s₄ h₄ => wpAny_bind (wpAny_mono h₄ (fun _ s₅ h₅ => wpAny_pure (wpAny_pure ⟨rfl, h₅⟩)) fun _ _ h' => h'.elim)) fun _ _ h' => h'.elim))
end
noncomputable def JS : TT := fun _ H Q => Q true H
noncomputable def PIf (X : Cx) (ifs : List Expr) (t : TT) : Prop :=
 ∀ (pins : List (Addr × Obj)) (s : Shared) (σ : St) (H : Hp) (Q : Bool -> Hp -> Prop), Inv X pins σ H s -> t σ H Q ->
  wpAny (model X.prog X.w) X.A (forIn ifs true fun c r => if r = true then do let ok <- isTrue c X.env (eval c X.env); pure (ForInStep.yield ok) else pure (ForInStep.yield r)) (TP X pins σ Q) X.xe s
theorem jH {X : Cx} : PIf X [] JS := fun _ _ _ H _ I h => wpAny_tests_nil ⟨H, I, h⟩
noncomputable def yY (ts : List Nat) (wi : TI) (g : TG) (tt : TT) (te : TE) : TE := fun σ H Q => wi σ H fun J H1 => ∀ D, H1 D = none -> ∃ W : Nat -> Nat -> St -> Hp -> Prop, (∃ m, W 0 m (clr ts σ) (upd H1 D (.lst []))) /\ ∀ i m τ H2, W i m τ H2 ->
 (J.stop i H2 /\ Q (.ref D) H2) \/ (J.go i H2 /\ ∃ N : St -> Hp -> Prop, (∀ τ' H', N τ' H' -> ∃ m', m' < m /\ W (i + 1) m' τ' H') /\ ∀ x H', J.yld i H2 x H' -> g x τ H' fun τ2 H3 => tt τ2 H3 fun b H4 =>
  if b = true then te τ2 H4 fun v H5 => ∃ ys, H5 D = some (.lst ys) /\ ys.length < sizeLine /\ N τ2 (upd H5 D (.lst (ys ++ [v]))) else N τ2 H4)
section
variable {X : Cx} {ts : List Nat} {scope : Scope} {tg iter elt : Expr} {ifs : List Expr} {wi : TI} {g : TG} {tt : TT} {te : TE} {pos : Pos}
theorem vE (hc : X.calm = true) (hsc : Qr X.N ts scope X.env.kindOf = true) (hi : PI X tg iter wi) (hg : ∀ cl s H fp, PG (cxC X scope cl s H fp) tg g) (ht : ∀ cl s H fp, PIf (cxC X scope cl s H fp) ifs tt) (he : ∀ cl s H fp, PE (cxC X scope cl s H fp) elt te)
  {pins : List (Addr × Obj)} {s : Shared} {σ : St} {H : Hp} {Q : VK} (I : Inv X pins σ H s) (h : yY ts wi g tt te σ H Q) {use : Option (Value -> Sem Unit)} {Q' : Value -> Shared -> Prop}
  (fin : ∀ (D C : Addr) (H' : Hp) (s' : Shared), Inv X pins σ H' s' -> (∃ m, s'.heap.Ns C m) -> H' C = none -> C ≠ X.env.locals -> (∀ x c, X.env.cells.lookup x = some c -> c ≠ C) -> X.s₀.heap.objs.size <= C -> (∀ p ∈ X.pn ++ pins, p.1 ≠ C) -> C ∉ X.fs -> Q (.ref D) H' ->
   compPost (model X.prog X.w) X.A X.xe use Q' (.ref D) C (.ok .next) s')
  (hs : ∀ x, foldedSetIterable iter X.env x = pure x) :
  wpAny (model X.prog X.w) X.A (comprehension (.ListComp elt [⟨tg, iter, ifs, 0⟩] scope pos) scope X.env (firstIterPos [⟨tg, iter, ifs, 0⟩] pos) (newList []) false (eval iter X.env) use) Q' X.xe s := by
 have S := Yi hsc
 obtain ⟨cl, hcl, c1, c2⟩ := vX (scope := scope) (env := X.env) fun y hy e => I.ok.has y.1 (S.free y hy e)
 refine wpAny_comprehension_free (use := use) rfl hs hcl S.kind S.loc ?_
 refine wpAny_mono (hi pins s σ H _ I h) (fun v s1 h1 => wpAny_mono h1 (fun itv s2 h2 => ?_) fun _ _ e => e) fun _ _ e => e
 obtain ⟨it, fp, tn, J, H2, e, I2, T, st2, f2, q2⟩ := h2
 subst e
 have hD : H2 s2.heap.objs.size = none := I2.hok.fresh (Nat.le_refl _)
 obtain ⟨W, ⟨m0, w0⟩, turn⟩ := q2 _ hD
 refine wpAny_newObj_type (wpAny_newFunctionEnv S.cell (by intro y hy; simp at hy) (fun h₁ hns₁ hsb₁ => ?_) S.kind)
 dsimp only at hns₁ hsb₁ ⊢
 generalize hh3 : s2.heap.push { cls := .type "list", dict := none, data := .seq ([] : List Value).toArray } = g3 at hns₁ hsb₁ ⊢
 have I3 : Inv X pins σ (upd H2 s2.heap.objs.size (.lst [])) { s2 with heap := g3 } := by
  rw [<- hh3]
  exact I2.laid (t' := s2.toks) (fun b u e => Heap.get?_push_of_some _ e) (Nat.le_refl _) ⟨Nat.zero_le _, [], _, .nil, Heap.get?_push_size _ rfl⟩
 have st3 : tn 0 g3 := T.keep _ _ _ st2 fun b _ o e => by rw [<- hh3]; exact Heap.get?_push_of_some _ e
 have lt2 : ∀ b ∈ fp, b < s2.heap.objs.size := fun b hb => by obtain ⟨o, e, _⟩ := T.obj _ _ st2 b hb; exact Heap.lt_size e
 have hsz3 : g3.objs.size = s2.heap.objs.size + 1 := by rw [<- hh3, Heap.size_push]
 have f3 : ∀ b ∈ fp, ki X pins (upd H2 s2.heap.objs.size (.lst [])) b := fun b hb => ⟨by rw [zh (Nat.ne_of_lt (lt2 b hb))]; exact (f2 b hb).1, (f2 b hb).2⟩
 have lt3 : ∀ b ∈ fp, b < g3.objs.size := fun b hb => by rw [hsz3]; exact Nat.lt_succ_of_lt (lt2 b hb)
 have old : ∀ b o, g3.get? b = some o -> h₁.get? b = some o := fun b o e => hsb₁.extBut b o (Nat.ne_of_lt (Heap.lt_size e)) (Heap.get?_push_of_some _ e)
 have hns : h₁.Ns g3.objs.size (fun x => ([] : List (Str × Value)).reverse.lookup x) := hns₁
 have I4 : ∀ t, Inv (cxC X scope cl { s2 with heap := g3 } (upd H2 s2.heap.objs.size (.lst [])) fp) [] (clr ts σ) (upd H2 s2.heap.objs.size (.lst [])) { s2 with heap := h₁, toks := t } := fun t => wf I3 S f3 lt3 c1 c2 hns old
 have fpne : ∀ b ∈ fp, b ∉ frs X.stack := fun b hb z => by
  obtain ⟨_, f1, f2, _⟩ := f3 b hb
  rcases List.mem_cons.mp (I3.stkSub b z) with e | e
  ·exact f1 e
  ·exact f2 e
 have stat : ∀ {H' : Hp}, (∀ b ∈ fp, H' b = none) -> ∀ b ∈ fp, ki (cxC X scope cl { s2 with heap := g3 } (upd H2 s2.heap.objs.size (.lst [])) fp) [] H' b := fun hn b hb =>
  ⟨hn b hb, Nat.ne_of_lt (lt3 b hb), fpne b hb, .inl hb, fun x c e => (f2 b hb).2.2.2.2.1 x c (c1 x c e), fun p hp => absurd hp (by simp)⟩
 have loop : ∀ t, codeAny (model X.prog X.w) X.A (.compLoop (.ListComp elt [⟨tg, iter, ifs, 0⟩] scope pos) 0 (.ref it) (.ref s2.heap.objs.size) (compEnvC scope cl g3.objs.size X.env))
   (compPost (model X.prog X.w) X.A X.xe use Q' (.ref s2.heap.objs.size) g3.objs.size) { s2 with heap := h₁, toks := t } := by
  intro t
  refine jx (fun n s' => ∃ i τ H', Inv (cxC X scope cl { s2 with heap := g3 } (upd H2 s2.heap.objs.size (.lst [])) fp) [] τ H' s' /\ tn i s'.heap /\ (∀ b ∈ fp, H' b = none) /\ W i n τ H') ?_ m0
   ⟨0, clr ts σ, _, I4 t, T.keep _ _ _ st3 fun b _ o e => old b o e, fun b hb => (f3 b hb).1, w0⟩
  rintro n s5 ⟨i, τ, H5, I5, st5, fr5, w5⟩
  rcases turn i n τ H5 w5 with ⟨stop, qn⟩ | ⟨go, N, hN, step⟩
  ·refine thn (T.done (cxC X scope cl { s2 with heap := g3 } (upd H2 s2.heap.objs.size (.lst [])) fp) rfl rfl rfl hc i [] s5 τ H5 _ I5 (stat fr5) st5 stop) fun r s6 ⟨hr, I6⟩ => ?_
   subst hr
   have base : Un (frs X.stack) fp (upd H2 s2.heap.objs.size (.lst [])) H5 g3 s6.heap := I6.base
   have J6 : Inv X pins σ H5 s6 := I3.call' (ch := fp) I6.os base I6.hok I6.bare fun b hb => ⟨(f3 b hb).2.2.2.1, (f3 b hb).2.1, (f3 b hb).2.2.2.2.1, (f3 b hb).2.2.2.2.2⟩
   obtain ⟨m6, n6, _⟩ := I6.loc
   have hC : g3.get? g3.objs.size = none := Heap.get?_none_of_le (Nat.le_refl _)
   refine fin _ g3.objs.size H5 s6 J6 ⟨m6, n6⟩ I6.free (Nat.ne_of_gt I3.lt) (fun x c e z => ?_) I3.sz (fun p hp z => ?_) (I3.nofs (Nat.le_refl _)) qn
   ·obtain ⟨v, q⟩ := I3.cell x c e
    exact absurd q.lt (by rw [z]; exact Nat.lt_irrefl _)
   ·exact absurd (Heap.lt_size (I3.pin p hp).1) (by rw [z]; exact Nat.lt_irrefl _)
  ·refine thn (T.item (cxC X scope cl { s2 with heap := g3 } (upd H2 s2.heap.objs.size (.lst [])) fp) rfl rfl rfl hc i [] s5 τ H5 _ I5 (stat fr5) st5 go) fun r s6 ⟨u, hr, h6⟩ => ?_
   subst hr
   refine thn h6 fun _ s7 ⟨x, H7, I7, r7, y7, st7, fr7⟩ => ?_
   have I7' := I7.pinned (stat fr7) (T.obj _ _ st7)
   refine thn (hg cl { s2 with heap := g3 } _ fp _ s7 τ H7 x u _ I7' r7 (step x H7 y7)) fun _ s8 ⟨τ8, H8, I8, q8⟩ => ?_
   refine thn (ht cl { s2 with heap := g3 } _ fp _ s8 τ8 H8 _ I8 q8) fun b s9 ⟨H9, I9, q9⟩ => ?_
   have again : ∀ {τ9 : St} {H9 : Hp} {s9 : Shared}, Inv (cxC X scope cl { s2 with heap := g3 } (upd H2 s2.heap.objs.size (.lst [])) fp) ([] ++ kK fp s7.heap) τ9 H9 s9 -> N τ9 H9 ->
     ∃ m, m < n /\ ∃ i τ H', Inv (cxC X scope cl { s2 with heap := g3 } (upd H2 s2.heap.objs.size (.lst [])) fp) [] τ H' s9 /\ tn i s9.heap /\ (∀ b ∈ fp, H' b = none) /\ W i m τ H' := fun {τ9 H9 s9} I9 n9 => by
    obtain ⟨m', hm, w9⟩ := hN _ _ n9
    refine ⟨m', hm, i + 1, τ9, H9, I9.unpinned, T.keep _ _ _ st7 fun b hb o e => (I9.pin (b, o) (List.mem_append_right _ (List.mem_append_right _ (qR hb e)))).1, fun b hb => ?_, w9⟩
    obtain ⟨o, e, d⟩ := T.obj _ _ st7 b hb
    exact (I9.pin (b, o) (List.mem_append_right _ (List.mem_append_right _ (qR hb e)))).2.1
   cases b with
   | false =>
    rw [if_neg Bool.false_ne_true] at q9 ⊢
    exact again I9 q9
   | true =>
    rw [if_pos rfl] at q9 ⊢
    refine thn (he cl { s2 with heap := g3 } _ fp _ s9 τ8 H9 _ I9 q9) fun y s10 ⟨v, H10, I10, r10, ys, hys, hlen, n10⟩ => ?_
    exact thn (xJ (X := cxC X scope cl { s2 with heap := g3 } (upd H2 s2.heap.objs.size (.lst [])) fp) _ s10 τ8 H10 (.ref s2.heap.objs.size) [v] (.ref s2.heap.objs.size) [y] (fun _ H11 => N τ8 H11) I10 rfl (.cons r10 .nil) ⟨_, ys, v, rfl, rfl, hys, hlen, n10⟩) fun _ s11 ⟨_, H11, I11, _, n11⟩ => again I11 n11
 have LW := loop (s2.toks + ([] : List (Str × Value)).length)
 exact codeAny_compStart_list LW (T.self _ 0 _ _ _ (T.keep _ _ _ st3 fun b _ o e => old b o e) LW)
end
end L2
set_option Elab.async false
set_option linter.all false
set_option maxRecDepth 100000
set_option maxHeartbeats 4000000
namespace L2
open PySem PySem.Spec PyProof.Rows
section
variable {X : Cx} {ts : List Nat} {scope : Scope} {tg iter elt : Expr} {ifs : List Expr} {wi : TI} {g : TG} {tt : TT} {te : TE} {pos : Pos}
theorem kB (hc : X.calm = true) (hsc : Qr X.N ts scope X.env.kindOf = true) (hi : PI X tg iter wi) (hg : ∀ cl s H fp, PG (cxC X scope cl s H fp) tg g) (ht : ∀ cl s H fp, PIf (cxC X scope cl s H fp) ifs tt) (he : ∀ cl s H fp, PE (cxC X scope cl s H fp) elt te)
  (hs : ∀ x, foldedSetIterable iter X.env x = pure x := by intro _; rfl) : PE X (.ListComp elt [⟨tg, iter, ifs, 0⟩] scope pos) (yY ts wi g tt te) := by
 intro pins s σ H Q I h
 rw [eval_ListComp]
 refine vE hc hsc hi hg ht he I h (use := none) (fun D C H' s' I' ⟨m, hn⟩ hC hL hce hsz hp hfs q => ⟨m, hn, fun h' hs' => ?_⟩) hs
 exact ⟨.ref D, H', I'.turned (t' := s'.toks) (it := C) (fun b o hb e => (hs'.2 b hb).trans e) hC hL (.inr hsz) hce hp, rfl, q⟩
theorem KL {j : Nat} {y : Str} {py spos : Pos} (hc : X.calm = true) (hN : X.N.Nodup) (hj : X.N[j]? = some y) (hy : Loc X.env.scope y) (hsc : Qr X.N ts scope X.env.kindOf = true) (hi : PI X tg iter wi) (hg : ∀ cl s H fp, PG (cxC X scope cl s H fp) tg g) (ht : ∀ cl s H fp, PIf (cxC X scope cl s H fp) ifs tt) (he : ∀ cl s H fp, PE (cxC X scope cl s H fp) elt te)
  (hsw : swapsWith (.ListComp elt [⟨tg, iter, ifs, 0⟩] scope pos) (some (.Name y py)) spos.line X.env = pure true := by rfl)
  (hs : ∀ x, foldedSetIterable iter X.env x = pure x := by intro _; rfl) (hf : X.fn y = true \/ X.env.scope.names.lookup y = some .local := by first | exact .inl rfl | exact .inr rfl | assumption) :
  PS X (.Assign [.Name y py] (.ListComp elt [⟨tg, iter, ifs, 0⟩] scope pos) spos) (JE (yY ts wi g tt te) (kP j)) := by
 intro pins s σ H D I h
 rw [exec_Assign_Name_used _ _ _ _ hsw]
 refine wpAny_bind (wpAny_standAt (wpAny_bind ?_))
 show wpAny _ _ (do let _ <- comprehension (.ListComp elt [⟨tg, iter, ifs, 0⟩] scope pos) scope X.env _ (newList []) false (eval iter X.env) (some (assign (.Name y py) X.env))) _ _ s
 refine wpAny_bind (wpAny_mono (vE hc hsc hi hg ht he I h (use := some (assign (.Name y py) X.env)) (Q' := fun _ s' => SP X pins D .next s') (fun D' C H' s' I' ⟨m, hn⟩ hC hL hce hsz hp hfs q => ?_) hs) (fun _ s' hq => wpAny_pure (wpAny_pure hq)) fun _ _ e => e)
 show wpAny _ _ (assign (.Name y py) X.env (.ref D')) _ _ _
 refine wpAny_assign_Name (xF (v := .ref D') I' hN hj hy rfl (fun s2 I2 ⟨a, hsb, ha⟩ => ?_) hf)
 have hCa : C ≠ a := by
  rcases ha with rfl | ha
  ·exact hL
  ·exact Ne.symm (hce y a ha)
 refine ⟨m, hn.sameBut hsb hCa, fun h' hs' => ?_⟩
 exact ⟨_, H', I2.turned (t' := s2.toks) (it := C) (fun b o hb e => (hs'.2 b hb).trans e) hC hL (.inr hsz) hce hp, q⟩
end
noncomputable def Ite (K : PySem.W.Frag) (a : Addr) : It :=
 ⟨fun i H => ∃ xs x, SqL K H a xs /\ xs[i]? = some x, fun i H y H' => ∃ p x, H p = none /\ y = .ref p /\ (∀ xs, SqL K H a xs -> xs[i]? = some x) /\ H' = upd H p (.tup [.int i, x]), fun i H => ∃ xs, SqL K H a xs /\ xs.length <= i⟩
theorem xG {P : Program} {w : World} {K : PySem.W.Frag} {es : List Expr} {kt : Nat} {tp : Pos} (a e it : Addr) (hei : e ≠ it) : vk P w K (.Tuple es kt tp) (Ite K a) [e, it] e (fun i h => (∃ old, IsEnum h e it (i : Nat) old) /\ h.IsListIter it a i) where
 mem := by simp
 obj := fun i h st b hb => by
  obtain ⟨⟨old, he⟩, ⟨o, e1, c, d⟩⟩ := st
  rcases List.mem_cons.mp hb with rfl | hb
  ·exact ⟨_, he, fun v z => by have z' : Data.fields _ = Data.cell v := z; cases z'⟩
  ·have e2 : b = it := by simpa using hb
   subst e2
   exact ⟨o, e1, fun v z => by rw [d] at z; cases z⟩
 keep := fun i h h' st k => by
  obtain ⟨⟨old, he⟩, st⟩ := st
  exact ⟨⟨old, k e (by simp) _ he⟩, st.at fun o e => k it (by simp) o e⟩
 item := by
  intro X hP hw hK hc i pins s σ H E I hf st hg
  subst hP hw hK
  obtain ⟨⟨old, he⟩, st⟩ := st
  obtain ⟨xs, x, hq, hx⟩ := hg
  obtain ⟨its, rv, p, hz⟩ := I.list hq
  obtain ⟨u, hu, ru⟩ := rv.get hx
  have fe := hf e (by simp)
  have fi := hf it (by simp)
  refine wpAny_pyNext_enum_item he st p.isList (x := u) (by simpa using hu) hei fun h1 heo hit1 ht1 hz1 hk1 => ?_
  refine ⟨.ref s.heap.objs.size, rfl, wpAny_letOwnedTupleGo_enum heo fun h2 he2 hs2 => ?_⟩
  replace hs2 : Heap.SameBut e h1 h2 := hs2
  have elt : e < s.heap.objs.size := Heap.lt_size he
  have hfr : H s.heap.objs.size = none := I.hok.fresh (Nat.le_refl _)
  have ht2 : h2.get? s.heap.objs.size = some { cls := .type "tuple", data := .seq #[.int i s.toks, u] } := (hs2.2 _ (Nat.ne_of_gt elt)).trans ht1
  have kk : ∀ b o, b ∉ [e, it] -> s.heap.get? b = some o -> h2.get? b = some o := fun b o hc q => by
   have n1 : b ≠ e := fun z => hc (by simp [z])
   have n2 : b ≠ it := fun z => hc (by simp [z])
   exact (hs2.2 b n1).trans (hk1 b o n1 n2 q)
  have nb : ∀ c v, H c = some v -> c ∉ [e, it] := fun c v z hm => by
   rcases List.mem_cons.mp hm with z' | z'
   ·rw [z', fe.1] at z; cases z
   ·have e2 : c = it := by simpa using z'
    rw [e2, fi.1] at z; cases z
  have I2 : Inv X pins σ (upd H s.heap.objs.size (.tup [.int i, x])) { s with heap := h2, toks := s.toks + 1 } := by
   refine I.step (g' := s.gens) (d' := s.drawn) (ch := [e, it]) (fun b hb => ?_) (fun b o _ _ hc q _ => kk b o hc q) (fun b o _ _ hc q _ => ⟨o.slots, kk b o hc q⟩) (fun b o _ q n => by rw [zh (Nat.ne_of_lt (Heap.lt_size q))]; exact n) (fun b o hc q => ⟨o, kk b o hc q⟩)
    (fun b xs q => by rw [zh (zk q hfr)]; exact q) (fun b o u q => by rw [zh (zk q hfr)]; exact q) (fun b ps q => ⟨#[], by rw [zh (zk q hfr), q]; simp⟩) (fun m hm => ?_) (fun b v q => ?_) I.bare
   ·rcases List.mem_cons.mp hb with z | hb
    ·rw [z]; exact ⟨fe.2.2.2.1, fe.2.1, fe.2.2.2.2.1, fe.2.2.2.2.2⟩
    ·have e2 : b = it := by simpa using hb
     rw [e2]; exact ⟨fi.2.2.2.1, fi.2.1, fi.2.2.2.2.1, fi.2.2.2.2.2⟩
   ·obtain ⟨o, es, ep, ho, r⟩ := hm
    exact ⟨o, es, ep, kk _ o (by simp [Ne.symm fe.2.1, Ne.symm fi.2.1]) ho, r⟩
   ·by_cases hb : b = s.heap.objs.size
    ·subst hb
     rw [zp] at q
     cases q
     exact ⟨by show 2 <= sizeLine; decide, [.int i s.toks, u], .cons ⟨_, rfl⟩ (.cons ru .nil), _, ht2, rfl, ⟨_, rfl⟩, rfl⟩
    ·rw [zh hb] at q
     refine (I.hok b v q).stay (fun c o hc q' => kk c o ?_ q') (fun c z => by rw [zh (zk z hfr)]; exact z) fun c xs z => by rw [zh (zk z hfr)]; exact z
     rcases hc with z | z
     ·rw [z]; exact nb b v q
     ·exact nb c _ z
  refine ⟨.ref s.heap.objs.size, _, I2, rfl, ⟨s.heap.objs.size, x, hfr, rfl, fun ys hy => by rw [I.list_inj hy hq]; exact hx, rfl⟩, ⟨⟨_, by simpa using he2⟩, hit1.extBut hs2.extBut (Ne.symm hei)⟩, fun b hb => ?_⟩
  have hlt : b < s.heap.objs.size := by
   rcases List.mem_cons.mp hb with rfl | hb
   ·exact elt
   ·have e2 : b = it := by simpa using hb
    subst e2
    obtain ⟨o, e1, _⟩ := st
    exact Heap.lt_size e1
  rw [zh (Nat.ne_of_lt hlt)]
  exact (hf b hb).1
 done := by
  intro X hP hw hK hc i pins s σ H E I hf st hg
  subst hP hw hK
  obtain ⟨⟨old, he⟩, st⟩ := st
  obtain ⟨xs, hq, hx⟩ := hg
  obtain ⟨its, rv, p, hz⟩ := I.list hq
  obtain ⟨f0, f1, f2, f3, f4, f5⟩ := hf it (by simp)
  have hl := rv.length
  exact wpAny_pyNext_enum_end (I.ok.hd hc) he st p.isList (by simp; omega) fun h' eb => ⟨rfl, I.turned (t' := s.toks) (fun b o hb e => eb b o hb e) f0 f1 f3 f4 f5⟩
 self := fun _ _ _ _ _ st h => by
  obtain ⟨⟨old, he⟩, _⟩ := st
  exact wpAny_pyIter_enum he h
end L2
set_option Elab.async false
set_option linter.all false
set_option maxRecDepth 100000
set_option maxHeartbeats 4000000
namespace L2
open PySem PySem.Spec PyProof.Rows
section
variable {X : Cx} {pins : List (Addr × Obj)} {σ : St} {H : Hp} {s : Shared}
theorem Inv.yieldTup {ch : List Addr} {h2 : Heap} {tk : Nat} {T : Addr} {xs : List V} {us : List Value} (I : Inv X pins σ H s) (hf : ∀ b ∈ ch, ki X pins H b) (kk : ∀ b o, b ∉ ch -> s.heap.get? b = some o -> h2.get? b = some o) (hT : s.heap.objs.size <= T)
  (ht2 : h2.get? T = some { cls := .type "tuple", data := .seq us.toArray }) (rv : zq xs us) (hz : xs.length <= sizeLine) : Inv X pins σ (upd H T (.tup xs)) { s with heap := h2, toks := tk } := by
 have hfr : H T = none := I.hok.fresh hT
 have nb : ∀ c v, H c = some v -> c ∉ ch := fun c v z hm => by rw [(hf c hm).1] at z; cases z
 refine I.step (g' := s.gens) (d' := s.drawn) (ch := ch) (fun b hb => ⟨(hf b hb).2.2.2.1, (hf b hb).2.1, (hf b hb).2.2.2.2.1, (hf b hb).2.2.2.2.2⟩) (fun b o _ _ hc q _ => kk b o hc q) (fun b o _ _ hc q _ => ⟨o.slots, kk b o hc q⟩)
  (fun b o _ q n => by rw [zh (Nat.ne_of_lt (Nat.lt_of_lt_of_le (Heap.lt_size q) hT))]; exact n) (fun b o hc q => ⟨o, kk b o hc q⟩)
  (fun b xs q => by rw [zh (zk q hfr)]; exact q) (fun b o u q => by rw [zh (zk q hfr)]; exact q) (fun b ps q => ⟨#[], by rw [zh (zk q hfr), q]; simp⟩) (fun m hm => ?_) (fun b v q => ?_) I.bare
 ·obtain ⟨o, es, ep, ho, r⟩ := hm
  exact ⟨o, es, ep, kk _ o (fun z => (hf _ z).2.1 rfl) ho, r⟩
 ·by_cases hb : b = T
  ·subst hb
   rw [zp] at q
   cases q
   exact ⟨hz, us, rv, _, ht2, rfl, ⟨_, rfl⟩, rfl⟩
  ·rw [zh hb] at q
   refine (I.hok b v q).stay (fun c o hc q' => kk c o ?_ q') (fun c z => by rw [zh (zk z hfr)]; exact z) fun c xs z => by rw [zh (zk z hfr)]; exact z
   rcases hc with z | z
   ·rw [z]; exact nb b v q
   ·exact nb c _ z
theorem Inv.turnedL {ch : List Addr} {h2 : Heap} {tk : Nat} (I : Inv X pins σ H s) (hf : ∀ b ∈ ch, ki X pins H b) (kk : ∀ b o, b ∉ ch -> s.heap.get? b = some o -> h2.get? b = some o) : Inv X pins σ H { s with heap := h2, toks := tk } := by
 have nb : ∀ c v, H c = some v -> c ∉ ch := fun c v z hm => by rw [(hf c hm).1] at z; cases z
 refine I.step (g' := s.gens) (d' := s.drawn) (ch := ch) (fun b hb => ⟨(hf b hb).2.2.2.1, (hf b hb).2.1, (hf b hb).2.2.2.2.1, (hf b hb).2.2.2.2.2⟩) (fun b o _ _ hc q _ => kk b o hc q) (fun b o _ _ hc q _ => ⟨o.slots, kk b o hc q⟩)
  (fun b o _ q n => n) (fun b o hc q => ⟨o, kk b o hc q⟩) (fun b xs q => q) (fun b o u q => q) (fun b ps q => ⟨#[], by rw [q]; simp⟩) (fun m hm => ?_) (fun b v q => ?_) I.bare
 ·obtain ⟨o, es, ep, ho, r⟩ := hm
  exact ⟨o, es, ep, kk _ o (fun z => (hf _ z).2.1 rfl) ho, r⟩
 ·refine (I.hok b v q).stay (fun c o hc q' => kk c o ?_ q') (fun c z => z) fun c xs z => z
  rcases hc with z | z
  ·rw [z]; exact nb b v q
  ·exact nb c _ z
end
noncomputable def Itz (K : PySem.W.Frag) (a b : Addr) : It :=
 ⟨fun i H => ∃ xs ys x y, SqL K H a xs /\ SqL K H b ys /\ xs[i]? = some x /\ ys[i]? = some y, fun i H z H' => ∃ p x y, H p = none /\ z = .ref p /\ (∀ xs, SqL K H a xs -> xs[i]? = some x) /\ (∀ ys, SqL K H b ys -> ys[i]? = some y) /\ H' = upd H p (.tup [x, y]),
  fun i H => ∃ xs ys, SqL K H a xs /\ SqL K H b ys /\ (xs.length <= i \/ ys.length <= i)⟩
theorem Ku {P : Program} {w : World} {K : PySem.W.Frag} {es : List Expr} {kt : Nat} {tp : Pos} (l1 l2 z TI TO i1 i2 : Addr) (D : ZipApart z TI TO i1 i2 l1 l2) :
  vk P w K (.Tuple es kt tp) (Itz K l1 l2) [z, TI, TO, i1, i2] z (fun i h => IsZip h z TI TO .none /\ IsPair h TI (.ref i1) (.ref i2) /\ (∃ a b, IsPair h TO a b) /\ h.IsListIter i1 l1 i /\ h.IsListIter i2 l2 i) where
 mem := by simp
 obj := fun i h st b hb => by
  obtain ⟨hz, hTI, ⟨a, c, hTO⟩, ⟨o1, e1, c1, d1⟩, ⟨o2, e2, c2, d2⟩⟩ := st
  simp only [List.mem_cons, List.not_mem_nil, or_false] at hb
  rcases hb with rfl | rfl | rfl | rfl | rfl
  ·exact ⟨_, hz, fun v q => by have q' : Data.fields _ = Data.cell v := q; cases q'⟩
  ·exact ⟨_, hTI, fun v q => by have q' : Data.seq _ _ = Data.cell v := q; cases q'⟩
  ·exact ⟨_, hTO, fun v q => by have q' : Data.seq _ _ = Data.cell v := q; cases q'⟩
  ·exact ⟨o1, e1, fun v q => by rw [d1] at q; cases q⟩
  ·exact ⟨o2, e2, fun v q => by rw [d2] at q; cases q⟩
 keep := fun i h h' st k => by
  obtain ⟨hz, hTI, ⟨a, c, hTO⟩, h1, h2⟩ := st
  exact ⟨k _ (by simp) _ hz, k _ (by simp) _ hTI, ⟨a, c, k _ (by simp) _ hTO⟩, h1.at fun o e => k _ (by simp) o e, h2.at fun o e => k _ (by simp) o e⟩
 item := by
  intro X hP hw hK hc i pins s σ H E I hf st hg
  subst hP hw hK
  obtain ⟨hz, hTI, ⟨a, c, hTO⟩, h1, h2⟩ := st
  obtain ⟨xs, ys, x, y, hq1, hq2, hx, hy⟩ := hg
  obtain ⟨its1, rv1, p1, hz1⟩ := I.list hq1
  obtain ⟨its2, rv2, p2, hz2⟩ := I.list hq2
  obtain ⟨u, hu, ru⟩ := rv1.get hx
  obtain ⟨v, hv, rvv⟩ := rv2.get hy
  refine wpAny_pyNext_zip_item D hz hTI hTO h1 h2 p1.isList p2.isList (x := u) (y := v) (by simpa using hu) (by simpa using hv) fun g1 b1 b2 b3 b4 b5 b6 hk => ?_
  refine ⟨.ref s.heap.objs.size, rfl, wpAny_letOwnedTupleGo_zip b1 fun g2 hz2' hs2 => ?_⟩
  replace hs2 : Heap.SameBut z g1 g2 := hs2
  have zlt : z < s.heap.objs.size := Heap.lt_size hz
  have I2 : Inv X pins σ (upd H s.heap.objs.size (.tup [x, y])) { s with heap := g2, toks := s.toks } := by
   refine I.yieldTup (us := [u, v]) hf (fun b o hb e => ?_) (Nat.le_refl _) ((hs2.2 _ (Nat.ne_of_gt zlt)).trans b5) (.cons ru (.cons rvv .nil)) (by show 2 <= sizeLine; decide)
   simp only [List.mem_cons, List.not_mem_nil, or_false, not_or] at hb
   exact (hs2.2 b hb.1).trans (hk b o hb.1 hb.2.2.1 hb.2.2.2.1 hb.2.2.2.2 e)
  refine ⟨.ref s.heap.objs.size, _, I2, rfl, ⟨s.heap.objs.size, x, y, I.hok.fresh (Nat.le_refl _), rfl, fun xs' h' => by rw [I.list_inj h' hq1]; exact hx, fun ys' h' => by rw [I.list_inj h' hq2]; exact hy, rfl⟩,
   ⟨hz2', (hs2.2 _ D.TIz).trans (hk _ _ D.TIz D.TITO D.TIi1 D.TIi2 hTI), ⟨_, _, (hs2.2 _ D.TOz).trans b2⟩, b3.extBut hs2.extBut D.i1z, b4.extBut hs2.extBut D.i2z⟩, fun b hb => ?_⟩
  have hlt : b < s.heap.objs.size := by
   simp only [List.mem_cons, List.not_mem_nil, or_false] at hb
   rcases hb with rfl | rfl | rfl | rfl | rfl
   ·exact zlt
   ·exact Heap.lt_size hTI
   ·exact Heap.lt_size hTO
   ·obtain ⟨o, e, _⟩ := h1; exact Heap.lt_size e
   ·obtain ⟨o, e, _⟩ := h2; exact Heap.lt_size e
  rw [zh (Nat.ne_of_lt hlt)]
  exact (hf b hb).1
 done := by
  intro X hP hw hK hc i pins s σ H E I hf st hg
  subst hP hw hK
  obtain ⟨hz, hTI, ⟨a, c, hTO⟩, h1, h2⟩ := st
  obtain ⟨xs, ys, hq1, hq2, hend⟩ := hg
  obtain ⟨its1, rv1, p1, hz1⟩ := I.list hq1
  obtain ⟨its2, rv2, p2, hz2⟩ := I.list hq2
  have l1 := rv1.length
  have l2 := rv2.length
  refine wpAny_pyNext_zip_end (I.ok.hd hc) D hz hTI hTO h1 h2 p1.isList p2.isList (by simp; omega) fun h' hk => ⟨rfl, I.turnedL (tk := s.toks) hf fun b o hb e => ?_⟩
  simp only [List.mem_cons, List.not_mem_nil, or_false, not_or] at hb
  exact hk b o hb.1 hb.2.2.1 hb.2.2.2.1 hb.2.2.2.2 e
 self := fun _ _ _ _ _ st h => wpAny_pyIter_zip st.1 h
theorem kF : bootBuiltins "enumerate" = some (.type "enumerate") := by decide +kernel
theorem ZC : bootBuiltins "zip" = some (.type "zip") := by decide +kernel
section
variable {X : Cx} {es : List Expr} {kt : Nat} {tp : Pos}
noncomputable def X2 (K : PySem.W.Frag) (ta : TA) : TI := fun σ H R => ta σ H fun vs H1 => ∃ a, vs = [.ref a] /\ (∃ xs, SqL K H1 a xs) /\ R (Ite K a) H1
theorem XS {e : Expr} {ta : TA} {p pos : Pos} (hg : Gl X "enumerate") (hm : X.mg "enumerate" = none) (ha : PA X [e] ta) (hs : starEach [e] X.env = [(false, eval e X.env)] := by rfl) :
  PI X (.Tuple es kt tp) (.Call (.Name "enumerate" p) [e] [] pos) (X2 X.K ta) := by
 intro pins s σ H R I h
 refine Call_ (jF I hg hm (kF) (PyProof.Rows.callWith_type1 (thn (ha pos pins s σ H _ I h) fun us s1 ⟨vs, H1, I1, r1, q1⟩ => ?_) hs rfl))
 obtain ⟨a, e, ⟨xs, hq⟩, q⟩ := q1
 subst e
 obtain ⟨u, rfl, ru⟩ := jB r1
 cases ru
 obtain ⟨its, rv, pl, hz⟩ := I1.list hq
 refine call_enumerate_list pl.isList fun h' he hit hsz hk => wpAny_pyIter_enum he ?_
 have I2 : Inv X pins σ H1 { s1 with heap := h' } := I1.kept (t' := s1.toks) hk
 refine ⟨s1.heap.objs.size + 1, [s1.heap.objs.size + 1, s1.heap.objs.size], _, _, H1, rfl, I2, xG a _ _ (Nat.succ_ne_self _), ⟨⟨_, he⟩, hit⟩, fun b hb => ?_, q⟩
 have hb' : s1.heap.objs.size <= b := by
  simp only [List.mem_cons, List.not_mem_nil, or_false] at hb
  rcases hb with rfl | rfl
  ·exact Nat.le_succ _
  ·exact Nat.le_refl _
 exact I1.fpOk hb' (I1.hok.fresh hb')
end
theorem JK {K : PySem.W.Frag} {a : Addr} {xs : List V} {g : TG} {tb : TS} {D : ko} {σ : St} {H : Hp} (Pv : Nat -> St -> Hp -> Prop) (h0 : Pv 0 σ H) (hl : ∀ i σ H, i <= xs.length -> Pv i σ H -> SqL K H a xs)
  (hs : ∀ i x p σ H, xs[i]? = some x -> H p = none -> Pv i σ H -> g (.ref p) σ (upd H p (.tup [.int i, x])) fun σ2 H2 => tb { D with nx := Pv (i + 1), ct := Pv (i + 1), bk := D.nx } σ2 H2) (hd : ∀ σ H, Pv xs.length σ H -> D.nx σ H) :
  ∃ W : Nat -> Nat -> St -> Hp -> Prop, (∃ m, W 0 m σ H) /\ ∀ i m σ H, W i m σ H ->
   ((Ite K a).stop i H /\ D.nx σ H) \/ ((Ite K a).go i H /\ ∃ N : St -> Hp -> Prop, (∀ σ' H', N σ' H' -> ∃ m', m' < m /\ W (i + 1) m' σ' H') /\ ∀ x H', (Ite K a).yld i H x H' -> g x σ H' fun σ2 H2 => tb { D with nx := N, ct := N, bk := D.nx } σ2 H2) := by
 refine ⟨fun i m σ H => m = xs.length - i /\ i <= xs.length /\ Pv i σ H, ⟨xs.length, by simp, Nat.zero_le _, h0⟩, ?_⟩
 rintro i m σ H ⟨rfl, hi, p⟩
 have q := hl i σ H hi p
 by_cases hlt : i < xs.length
 ·refine .inr ⟨⟨xs, xs[i], q, by simp [hlt]⟩, Pv (i + 1), fun σ' H' p' => ⟨xs.length - (i + 1), by omega, rfl, hlt, p'⟩, fun x H' y => ?_⟩
  obtain ⟨pp, x', hp, rfl, y, rfl⟩ := y
  exact hs i x' pp σ _ (y xs q) hp p
 ·have e : i = xs.length := by omega
  subst e
  exact .inl ⟨⟨xs, q, Nat.le_refl _⟩, hd σ H p⟩
end L2
set_option Elab.async false
set_option linter.all false
set_option maxRecDepth 100000
set_option maxHeartbeats 4000000
namespace L2
open PySem PySem.Spec PyProof.Rows
noncomputable def vx (p : Addr) (a b c : Int) : HO := .ext fun h => ∃ t u v, h.get? p = some { cls := .type "range", data := .fields #[.int a t, .int b u, .int c v] }
theorem VW {P : Program} {w : World} {H : Hp} {h : Heap} {p : Addr} {a b c : Int} {t u v : Tok} (e : h.get? p = some { cls := .type "range", data := .fields #[.int a t, .int b u, .int c v] }) : zI P w H h p (vx p a b c) :=
 ⟨⟨t, u, v, e⟩, ⟨_, e⟩, fun h1 h2 ⟨t, u, v, q⟩ k => ⟨t, u, v, k _ q⟩⟩
noncomputable def qt (a c : Int) (n : Nat) : List Int := (List.range n).map fun (i : Nat) => a + (i : Int) * c
theorem zF (a c : Int) (n : Nat) : (qt a c n).length = n := by simp [qt]
theorem v6 {a c : Int} : ∀ {n : Nat} {acc : Array Value}, ItemsOf (fun (i : Nat) (v : Value) => ∃ t, v = Value.int (a + (i : Int) * c) t) acc n -> zq ((qt a c n).map V.int) acc.toList := by
 intro n acc ⟨hs, hi⟩
 have key : ∀ (k : Nat) (l : List Value), l.length = k -> (∀ (j : Nat) v, l[j]? = some v -> ∃ t, v = Value.int (a + (j : Int) * c) t) -> zq ((qt a c k).map V.int) l := by
  intro k
  induction k with
  | zero => intro l hl _; cases l with
   | nil => exact .nil
   | cons => simp at hl
  | succ k ih =>
   intro l hl hv
   obtain ⟨l', x, rfl⟩ : ∃ l' x, l = l' ++ [x] := ⟨l.dropLast, l.getLast (by intro e; rw [e] at hl; simp at hl), (List.dropLast_concat_getLast _).symm⟩
   have hl' : l'.length = k := by simpa using hl
   have e : (qt a c (k + 1)).map V.int = (qt a c k).map V.int ++ [.int (a + (k : Int) * c)] := by simp [qt, List.range_succ]
   rw [e]
   refine (ih l' hl' fun j v hj => hv j v ?_).append (.cons ?_ .nil)
   ·rw [List.getElem?_append_left (List.getElem?_eq_some_iff.mp hj).1]; exact hj
   ·obtain ⟨t, rfl⟩ := hv k x (by rw [List.getElem?_append_right (by omega), hl']; simp)
    exact ⟨t, rfl⟩
 exact key n acc.toList (by simpa using hs) fun j v hj => hi j v (by simpa using hj)
section
variable {X : Cx}
theorem yZ : qA X (.type "range") (fun xs H Q => ∃ b : Int, xs = [.int b] /\ ∀ p, H p = none -> Q (.ref p) (upd H p (vx p 0 b 1))) := by
 intro pins s σ H xs us Q I r h
 obtain ⟨b, rfl, q⟩ := h
 obtain ⟨u, rfl, t, rfl⟩ := jB r
 refine call_range_1 ⟨.ref s.heap.objs.size, _, I.laid (fun b o e => Heap.get?_push_of_some _ e) (Nat.le_refl _) ?_, rfl, q _ (I.hok.fresh (Nat.le_refl _))⟩
 exact VW (Heap.get?_push_size _ rfl)
theorem xu (hc : X.calm = true) : qA X (.type "list") (fun xs H Q => ∃ p a b c n, xs = [.ref p] /\ H p = some (vx p a b c) /\ Builtin.Range.small a b c = true /\ Builtin.Range.rangeSize a b c = ((n : Nat) : Int) /\ n <= 100000 /\ ∀ l, H l = none -> Q (.ref l) (upd H l (.lst ((qt a c n).map V.int)))) := by
 intro pins s σ H xs us Q I r h
 obtain ⟨p, a, b, c, n, rfl, hp, hs, hn, hz, q⟩ := h
 obtain ⟨u, rfl, rx⟩ := jB r
 cases rx
 obtain ⟨⟨t, u, v, e⟩, _⟩ := (show zI X.prog X.w H s.heap p (vx p a b c) from I.hok _ _ hp)
 refine call_list_range (I.ok.hd hc) e hs hn (Nat.le_trans hz (by decide)) fun h' tk acc c' hk he hi => ?_
 refine ⟨.ref s.heap.objs.size, _, I.laid hk (Nat.le_refl _) (show zI X.prog X.w _ h' _ (.lst ((qt a c n).map V.int)) from ⟨?_, acc.toList, c', v6 hi, by simpa using he⟩), rfl, q _ (I.hok.fresh (Nat.le_refl _))⟩
 rw [List.length_map, zF]
 exact Nat.le_trans hz (by decide)
end
end L2
set_option Elab.async false
set_option linter.all false
set_option maxRecDepth 100000
set_option maxHeartbeats 4000000
namespace L2
open PySem PySem.Spec PyProof.Rows
section
variable {X : Cx}
noncomputable def isT (t c : String) : Option Bool := if (Value.type t == Value.type c) = true then some true else if PySem.W.kitMeta c = true then (fastBuiltinMro t).map (·.contains (Value.type c)) else none
theorem wG (K : PySem.W.Frag) (t c : String) : PySem.W.kitOne K (.type t) (.type c) = isT t c := rfl
noncomputable def kE (t : String) : List String -> Option Bool
 | [] => some false
 | c :: r => match isT t c with
  | some true => some true
  | some false => kE t r
  | none => none
theorem ve (K : PySem.W.Frag) (t : String) : ∀ cs : List String, PySem.W.kitAny K (.type t) (cs.map Value.type) = kE t cs
 | [] => rfl
 | c :: r => by
  show (match PySem.W.kitOne K (.type t) (.type c) with | some true => some true | some false => PySem.W.kitAny K (.type t) (r.map Value.type) | none => none) = _
  rw [wG, ve K t r]; rfl
theorem ql : qA X (.builtin "isinstance") (fun xs H Q => ∃ x t c b, xs = [x, .ty c] /\ jb X.K H x (.type t) /\ isT t c = some b /\ Q (.bl b) H) := by
 intro pins s σ H xs us Q I r h
 obtain ⟨x, t, c, b, rfl, ty, e, q⟩ := h
 obtain ⟨u, v, rfl, ru, rv⟩ := y6 r
 cases rv
 exact Qc I ru ty (by rw [wG]; exact e) fun tk => ⟨.bl b, H, I.tok _, rfl, q⟩
theorem vA : ∀ {cs : List String} {us : List Value}, zq (cs.map V.ty) us -> us = cs.map Value.type
 | [], _, .nil => rfl
 | c :: cs, _, .cons r t => by rw [vA t]; cases r; rfl
theorem xX : qA X (.builtin "isinstance") (fun xs H Q => ∃ x t p cs b, xs = [x, .ref p] /\ H p = some (.tup (List.map V.ty cs)) /\ jb X.K H x (.type t) /\ kE t cs = some b /\ Q (.bl b) H) := by
 intro pins s σ H xs us Q I r h
 obtain ⟨x, t, p, cs, b, rfl, hp, ty, e, q⟩ := h
 obtain ⟨u, v, rfl, rx, rv⟩ := y6 r
 cases rv
 obtain ⟨_, its, rt, o, ho, hc, ⟨n, hd⟩, _⟩ := (show zI X.prog X.w H s.heap p (.tup (List.map V.ty cs)) from I.hok _ _ hp)
 obtain ⟨oc, od, odt, osl⟩ := o
 simp only at hc hd
 subst hc hd
 have e' : PySem.W.kitAny X.K (.type t) its = some b := by rw [vA rt, ve]; exact e
 have fin : ∀ tk, EP X pins σ Q (.bool b) { s with toks := tk } := fun tk => ⟨.bl b, H, I.tok _, rfl, q⟩
 cases ty with
 | non => cases (show u = Value.none from rx); exact PySem.W.kia_tup PySem.W.kitx_none I.kIn True.intro ho e' (fun z => nomatch z) fin
 | bl y => cases (show u = Value.bool y from rx); exact PySem.W.kia_tup PySem.W.kitx_bool I.kIn True.intro ho e' (fun z => nomatch z) fin
 | int i => obtain ⟨t, q⟩ := (show ∃ t, u = Value.int i t from rx); cases q; exact PySem.W.kia_tup PySem.W.kitx_int I.kIn True.intro ho e' (fun z => nomatch z) fin
 | str y => obtain ⟨t, q⟩ := (show ∃ t, u = Value.str y t from rx); cases q; exact PySem.W.kia_tup PySem.W.kitx_str I.kIn True.intro ho e' (fun z => nomatch z) fin
 | flt y => obtain ⟨t, q⟩ := (show ∃ t, u = Value.float y t from rx); cases q; exact PySem.W.kia_tup PySem.W.kitx_float I.kIn True.intro ho e' (fun z => nomatch z) fin
 | @lst a xs ea =>
  cases (show u = Value.ref a from rx)
  obtain ⟨_, _, n, _, h1⟩ := (show zI X.prog X.w H s.heap a (.lst xs) from I.hok a _ ea)
  exact PySem.W.kia_tup PySem.W.kitx_list I.kIn ⟨_, h1, rfl⟩ ho e' (fun z => nomatch z) fin
 | @frz a ob xs ea =>
  cases (show u = Value.ref a from rx)
  obtain ⟨_, _, _, n, _, h1⟩ := (show zI X.prog X.w H s.heap a (.frz ob (.lst xs)) from I.hok a _ ea)
  exact PySem.W.kia_tup PySem.W.kitx_list I.kIn ⟨_, h1, rfl⟩ ho e' (fun z => nomatch z) fin
 | @tup a xs ea =>
  cases (show u = Value.ref a from rx)
  obtain ⟨_, _, _, p⟩ := (show zI X.prog X.w H s.heap a (.tup xs) from I.hok a _ ea)
  obtain ⟨o, h1, h2, _⟩ := p
  exact PySem.W.kia_tup PySem.W.kitx_tuple I.kIn ⟨o, h1, h2⟩ ho e' (fun z => nomatch z) fin
 | @dK a kvs ea =>
  cases (show u = Value.ref a from rx)
  obtain ⟨_, _, vs, _, p⟩ := (show zI X.prog X.w H s.heap a (.dK kvs) from I.hok a _ ea)
  obtain ⟨o, es, ep, h1, h2, _⟩ := p
  exact PySem.W.kia_tup PySem.W.kitx_dict I.kIn ⟨o, h1, h2.1⟩ ho e' (fun z => nomatch z) fin
 | @dT a kvs ea =>
  cases (show u = Value.ref a from rx)
  obtain ⟨_, _, xs, _, o, es, ep, h1, h2, _⟩ := (show zI X.prog X.w H s.heap a (.dT kvs) from I.hok a _ ea)
  exact PySem.W.kia_tup PySem.W.kitx_dict I.kIn ⟨o, h1, h2.1⟩ ho e' (fun z => nomatch z) fin
end
end L2
set_option Elab.async false
set_option linter.all false
set_option maxRecDepth 100000
set_option maxHeartbeats 4000000
namespace L2
open PySem PySem.Spec PyProof.Rows
noncomputable def At (K : PySem.W.Frag) (mg : Str -> Option Value) (x : Str) (st : Stmt) : Prop := ∃ f fd, Fun K x x st f fd /\ mg x = some (.ref f)
noncomputable def Df (P : Program) (w : World) (K : PySem.W.Frag) (mg : Str -> Option Value) (base : Heap) (x : Str) (ps : List Str) (k : Nat) (sp : Sp) : Prop :=
 ∃ f fd, jy P w K mg base CX0 k f fd ps sp /\ xV K fd ps [] /\ PySem.W.keepIn K (.ref f) = true /\ mg x = some (.ref f) /\ ∃ oc od osl, K.lookup f = some ⟨oc, od, .func fd, osl⟩
theorem Df.mono {P : Program} {w : World} {K : PySem.W.Frag} {mg : Str -> Option Value} {base : Heap} {x : Str} {ps : List Str} {j k : Nat} {sp : Sp} (D : Df P w K mg base x ps j sp) (h : j <= k) : Df P w K mg base x ps k sp :=
 let ⟨f, fd, F, r⟩ := D
 ⟨f, fd, F.mono h, r⟩
section
variable {X : Cx} {k : Nat} {x : Str} {ps : List Str} {sp : Sp} {p pos : Pos} {e : Expr} {es : List Expr} {t : TA}
theorem zJ (D : Df X.prog X.w X.K X.mg X.base x ps k sp) (hr : qK k X.A) (hg : Gl X x) (ha : PA X (e :: es) t) (hdb : (x == ("__debug__" : Str)) = false := by decide)
  (he : starEach (e :: es) X.env = (false, eval e X.env) :: starEach es X.env := by rfl) (hpl : (backTo pos (starEach es X.env)).any (·.1) = false := by rfl) : PE X (.Call (.Name x p) (e :: es) [] pos) (Zp sp [] E0 t) := by
 obtain ⟨f, fd, F, b, kp, m, _⟩ := D
 exact XB F hr hg m kp b .nil W0 ha hdb he hpl
end
theorem vi {P : Program} {w : World} {K : PySem.W.Frag} {mg : Str -> Option Value} {base : Heap} {x : Str} {st : Stmt} {N ps : List Str} {k : Nat} {sp : Sp} (a : At K mg x st) (S : zz N ps (zj st))
  (hb : ∀ (kV doc pm : Value) (an : Option Addr) (cdv ct : Value) (us : List Value), us.length = ps.length -> bindArgs (PySem.W.fnOf x x (qv st) (qc st) (zj st) .none kV doc pm an cdv ct) ⟨us, []⟩ = pure (ps.zip us))
  (len : ∀ vs H Q E, sp vs H Q E -> vs.length = ps.length)
  (hbody : ∀ (f : Addr) (cdv : Value) (A : Around) (outer : List Env) (s : Shared) (H : Hp) (vs : List V) (Q : VK) (E : XK), qK k (A.deeper (envOfC x (zj st) s.heap.objs.size f cdv)) -> sp vs H Q E ->
   ∃ t, PSs (yi CX0 P w K mg base N x (zj st) f cdv A outer s H E).nox (qc st) t /\ t { nx := fun _ H' => Q .non H', rt := Q } (qy N vs) H) : Df P w K mg base x ps (k + 1) sp := by
 obtain ⟨f, fd, F, m⟩ := a
 obtain ⟨oc, od, kV, doc, pm, an, cdv, ct, osl, _, lk, _⟩ := id F.ex
 exact ⟨f, fd, F.ok S len fun cdv A outer s H vs Q E => hbody f cdv A outer s H vs Q E, F.binds hb, F.kp, m, oc, od, osl, lk⟩
theorem at_mk {K : PySem.W.Frag} {mg : Str -> Option Value} {h : Heap} {x : Str} {st : Stmt} {f : Addr} {oc : Value} {od an : Option Addr} {osl : Array (Option Value)} {kV doc pm cdv ct : Value} (X : K.In h) (G : h.Ns mainGlobals mg) (a : PySem.W.nsIn K mainGlobals x = some (some (.ref f)))
  (l : K.lookup f = some ⟨oc, od, .func (PySem.W.fnOf x x (qv st) (qc st) (zj st) .none kV doc pm an cdv ct), osl⟩) (c : PySem.W.codeIn K cdv x = true) (k : PySem.W.keepIn K (.ref f) = true) : At K mg x st := ⟨f, _, Q3 l c k, PySem.W.mg_of X G a⟩
theorem Df.fn {P : Program} {w : World} {K : PySem.W.Frag} {mg : Str -> Option Value} {base : Heap} {x : Str} {ps : List Str} {k : Nat} {sp : Sp} {f : Addr} {fd : FuncData} {oc : Value} {od : Option Addr} {osl : Array (Option Value)} (D : Df P w K mg base x ps k sp) (m : mg x = some (.ref f)) (l : K.lookup f = some ⟨oc, od, .func fd, osl⟩) : jy P w K mg base CX0 k f fd ps sp := by
 obtain ⟨f', fd', F, _, _, m', oc', od', osl', l'⟩ := D
 rw [m] at m'
 cases m'
 rw [l] at l'
 cases l'
 exact F
structure Blt (mg : Str -> Option Value) : Prop where
 len : mg "len" = none
 range : mg "range" = none
 list : mg "list" = none
 tuple : mg "tuple" = none
 int : mg "int" = none
 bool : mg "bool" = none
 str : mg "str" = none
 abs : mg "abs" = none
 divmod : mg "divmod" = none
 enumerate : mg "enumerate" = none
 zip : mg "zip" = none
 sorted : mg "sorted" = none
 max : mg "max" = none
 min : mg "min" = none
 isinstance : mg "isinstance" = none
 all : mg "all" = none
theorem blt_mk {K : PySem.W.Frag} {mg : Str -> Option Value} {h : Heap} (X : K.In h) (G : h.Ns mainGlobals mg) (z1 : PySem.W.nsIn K mainGlobals "len" = some none) (z2 : PySem.W.nsIn K mainGlobals "range" = some none) (z3 : PySem.W.nsIn K mainGlobals "list" = some none) (z4 : PySem.W.nsIn K mainGlobals "tuple" = some none) (z5 : PySem.W.nsIn K mainGlobals "int" = some none) (z6 : PySem.W.nsIn K mainGlobals "bool" = some none) (z7 : PySem.W.nsIn K mainGlobals "str" = some none) (z8 : PySem.W.nsIn K mainGlobals "abs" = some none)
  (z9 : PySem.W.nsIn K mainGlobals "divmod" = some none) (z10 : PySem.W.nsIn K mainGlobals "enumerate" = some none) (z11 : PySem.W.nsIn K mainGlobals "zip" = some none) (z12 : PySem.W.nsIn K mainGlobals "sorted" = some none) (z13 : PySem.W.nsIn K mainGlobals "max" = some none) (z14 : PySem.W.nsIn K mainGlobals "min" = some none) (z15 : PySem.W.nsIn K mainGlobals "isinstance" = some none) (z16 : PySem.W.nsIn K mainGlobals "all" = some none) : Blt mg :=
 ⟨PySem.W.mg_none_of X G z1, PySem.W.mg_none_of X G z2, PySem.W.mg_none_of X G z3, PySem.W.mg_none_of X G z4, PySem.W.mg_none_of X G z5, PySem.W.mg_none_of X G z6, PySem.W.mg_none_of X G z7, PySem.W.mg_none_of X G z8, PySem.W.mg_none_of X G z9, PySem.W.mg_none_of X G z10, PySem.W.mg_none_of X G z11, PySem.W.mg_none_of X G z12, PySem.W.mg_none_of X G z13, PySem.W.mg_none_of X G z14, PySem.W.mg_none_of X G z15, PySem.W.mg_none_of X G z16⟩
theorem zu : bootBuiltins "isinstance" = some (.builtin "isinstance") := by decide +kernel
theorem QT : bootBuiltins "abs" = some (.builtin "abs") := by decide +kernel
theorem ZZ : bootBuiltins "divmod" = some (.builtin "divmod") := by decide +kernel
theorem YY : bootBuiltins "max" = some (.builtin "max") := by decide +kernel
theorem kG : bootBuiltins "len" = some (.builtin "len") := by decide +kernel
theorem qT : bootBuiltins "list" = some (.type "list") := by decide +kernel
theorem y8 : bootBuiltins "tuple" = some (.type "tuple") := by decide +kernel
theorem kU : bootBuiltins "int" = some (.type "int") := by decide +kernel
theorem wK : bootBuiltins "bool" = some (.type "bool") := by decide +kernel
theorem wz : bootBuiltins "str" = some (.type "str") := by decide +kernel
theorem Ks : bootBuiltins "range" = some (.type "range") := by decide +kernel
noncomputable def Kp (bs : List Addr) (H H' : Hp) : Prop := ∀ c o, c ∉ bs -> H c = some o -> H' c = some o
theorem Kp.refl {bs : List Addr} {H : Hp} : Kp bs H H := fun _ _ _ h => h
theorem Kp.trans {bs : List Addr} {H H1 H2 : Hp} (a : Kp bs H H1) (b : Kp bs H1 H2) : Kp bs H H2 := fun c o n h => b c o n (a c o n h)
theorem Kp.new {bs : List Addr} {H : Hp} {p : Addr} (o : HO) (h : H p = none) : Kp bs H (upd H p o) := fun c u _ q => by rw [zh (zk q h)]; exact q
theorem Kp.set {bs : List Addr} {H : Hp} {p : Addr} (o : HO) (h : p ∈ bs) : Kp bs H (upd H p o) := fun c u n q => by have hne : c ≠ p := (fun e => n (by rw [e]; exact h)); rw [zh hne]; exact q
theorem Kp.free {H H' : Hp} (e : Kp [] H H') {l : Addr} (h : H' l = Option.none) : H l = Option.none := by
 cases q : H l with
 | none => rfl
 | some o => rw [e l o (by simp) q] at h; cases h
noncomputable def Bx (H : Hp) (b : Addr) (N : Nat) : Prop := ∃ x y z : Int, H b = some (.lst [.int x, .int y, .int z]) /\ 0 <= x /\ 0 <= y /\ y < 2147483648 /\ 0 <= z /\ z <= N
noncomputable abbrev il (ns : List Int) : HO := .lst (ns.map V.int)
end L2
set_option Elab.async false
set_option linter.all false
set_option maxRecDepth 100000
set_option maxHeartbeats 4000000
namespace L2
open PySem PySem.Spec PyProof.Rows
theorem cxK {CX : CXT} {P : Program} {w : World} {K : PySem.W.Frag} {mg : Str -> Option Value} {base : Heap} {N : List Str} {qual : Str} {scope : Scope} {f : Addr} {cd : Value} {A : Around} {outer : List Env} {s : Shared} {H : Hp} {E : XK} :
  (yi CX P w K mg base N qual scope f cd A outer s H E).K = K := rfl
noncomputable def W4 (J : It) (g : TG) (tb : TS) (D : ko) (σ : St) (H : Hp) : Prop := ∃ W : Nat -> Nat -> St -> Hp -> Prop, (∃ m, W 0 m σ H) /\ ∀ i m σ H, W i m σ H ->
 (J.stop i H /\ D.nx σ H) \/ (J.go i H /\ ∃ N : St -> Hp -> Prop, (∀ σ' H', N σ' H' -> ∃ m', m' < m /\ W (i + 1) m' σ' H') /\ ∀ x H', J.yld i H x H' -> g x σ H' fun σ2 H2 => tb { D with nx := N, ct := N, bk := D.nx } σ2 H2)
theorem yr {wi : TI} {g : TG} {tb : TS} {D : ko} {σ : St} {H : Hp} : Xz wi g tb D σ H = wi σ H (fun J H1 => W4 J g tb D σ H1) := rfl
noncomputable def WB (J : It) (g : TG) (tt : TT) (te : TE) (D : Addr) (Q : VK) (τ : St) (H : Hp) : Prop := ∃ W : Nat -> Nat -> St -> Hp -> Prop, (∃ m, W 0 m τ H) /\ ∀ i m τ H2, W i m τ H2 ->
 (J.stop i H2 /\ Q (.ref D) H2) \/ (J.go i H2 /\ ∃ N : St -> Hp -> Prop, (∀ τ' H', N τ' H' -> ∃ m', m' < m /\ W (i + 1) m' τ' H') /\ ∀ x H', J.yld i H2 x H' -> g x τ H' fun τ2 H3 => tt τ2 H3 fun b H4 =>
  if b = true then te τ2 H4 fun v H5 => ∃ ys, H5 D = some (.lst ys) /\ ys.length < sizeLine /\ N τ2 (upd H5 D (.lst (ys ++ [v]))) else N τ2 H4)
theorem Ka {ts : List Nat} {wi : TI} {g : TG} {tt : TT} {te : TE} {σ : St} {H : Hp} {Q : VK} :
  yY ts wi g tt te σ H Q = wi σ H (fun J H1 => ∀ D, H1 D = none -> WB J g tt te D Q (clr ts σ) (upd H1 D (.lst []))) := rfl
theorem Xu {K : PySem.W.Frag} {a : Addr} {xs : List V} {g : TG} {tb : TS} {D : ko} {σ : St} {H : Hp} (Pv : Nat -> St -> Hp -> Prop) (h0 : Pv 0 σ H) (hl : ∀ i σ H, i <= xs.length -> Pv i σ H -> SqL K H a xs)
  (hs : ∀ i x p σ H, xs[i]? = some x -> H p = none -> Pv i σ H -> g (.ref p) σ (upd H p (.tup [.int i, x])) fun σ2 H2 => tb { D with nx := Pv (i + 1), ct := Pv (i + 1), bk := D.nx } σ2 H2) (hd : ∀ σ H, Pv xs.length σ H -> D.nx σ H) : W4 (Ite K a) g tb D σ H := JK Pv h0 hl hs hd
noncomputable def QC (i j k : Nat) (ta : TA) : TS := fun D σ H => ta σ H fun vs H1 => ∃ v w x, vs = [v, w, x] /\ D.nx (((σ.set i (some v)).set j (some w)).set k (some x)) H1
theorem Ky {X : Cx} {pos : Pos} {i j k : Nat} {x y z : Str} {a b c : Expr} {ta : TA} {px py pz pt : Pos} {kt k2 pt2} (hc : X.calm = true) (hN : X.N.Nodup) (hi : X.N[i]? = some x) (hj : X.N[j]? = some y) (hk : X.N[k]? = some z) (hij : i ≠ j) (hik : i ≠ k) (hjk : j ≠ k)
  (hx : X.env.scope.names.lookup x = some .local) (hy : X.env.scope.names.lookup y = some .local) (hz : X.env.scope.names.lookup z = some .local) (ha : PA X [a, b, c] ta)
  (hw : swappedStores [.Tuple [.Name x px, .Name y py, .Name z pz] kt pt] (.Tuple [a, b, c] k2 pt2) X.env = pure (some [x, y, z]))
  (hs : swapsWithSole [.Tuple [.Name x px, .Name y py, .Name z pz] kt pt] (.Tuple [a, b, c] k2 pt2) pos.line X.env = pure false := by rfl) :
  PS X (.Assign [.Tuple [.Name x px, .Name y py, .Name z pz] kt pt] (.Tuple [a, b, c] k2 pt2) pos) (QC i j k ta) := by
 intro pins s σ H D I h
 rw [exec_Assign_arm]
 refine wpAny_bind (wpAny_standAt ?_)
 rw [hs]
 refine wpAny_bind (wpAny_pure ?_)
 rw [if_neg (by decide)]
 refine wpAny_bind (Tuple_ (thn (ha _ pins s σ H _ I h) fun us s1 ⟨vs, H1, I1, r1, q1⟩ => ?_))
 obtain ⟨v, w, v3, e1, q1⟩ := q1
 subst e1
 obtain ⟨u1, u2, u3, rfl, rv, rw', r3⟩ : ∃ u1 u2 u3, us = [u1, u2, u3] /\ zr v u1 /\ zr w u2 /\ zr v3 u3 := by
  cases r1 with
  | cons p q =>
   cases q with
   | cons p' q' =>
    cases q' with
    | cons p'' q'' =>
     cases q''
     exact ⟨_, _, _, rfl, p, p', p''⟩
 refine wpAny_newObj_type ?_ (by show 3 <= sizeLine; decide)
 have I2 : Inv X pins σ H1 { s1 with heap := s1.heap.push { cls := .type "tuple", data := .seq [u1, u2, u3].toArray } } := I1.kept (t' := s1.toks) fun b o e => Heap.get?_push_of_some _ e
 rw [hw]
 refine wpAny_bind (wpAny_pure ?_)
 show wpAny (model X.prog X.w) X.A (do rule "assign.swapped-stores"; let items <- unpackItems (.ref s1.heap.objs.size) 3 none; assignInOrder [fun v => bindName X.env z v, fun v => bindName X.env y v, fun v => bindName X.env x v] items.reverse; pure Flow.next) _ _ _
 refine wpAny_bind (wpAny_rule (wpAny_bind (unpackItems_tuple (items := #[u1, u2, u3]) (I.ok.hd hc) (IsTup.new s1.heap _) fun h' hx' => ?_)))
 have I3 := I2.kept (h' := h') (t' := s1.toks) fun b o e => hx' b o (Nat.ne_of_lt (Heap.lt_size e)) e
 show wpAny _ _ (assignInOrder [fun v => bindName X.env z v, fun v => bindName X.env y v, fun v => bindName X.env x v] [u3, u2, u1] >>= fun _ => pure Flow.next) _ _ _
 refine wpAny_bind (assignInOrder_cons (wpAny_bindName (qJ I3 hN hk (.inl hz) r3 (fun s2 I4 => ?_) (.inr hz))))
 refine assignInOrder_cons (wpAny_bindName (qJ I4 hN hj (.inl hy) rw' (fun s3 I5 => ?_) (.inr hy)))
 refine assignInOrder_cons (wpAny_bindName (qJ I5 hN hi (.inl hx) rv (fun s4 I6 => assignInOrder_nil (wpAny_pure ?_)) (.inr hx)))
 rw [List.set_comm _ _ (Ne.symm hij), List.set_comm _ _ (Ne.symm hik), List.set_comm _ _ (Ne.symm hjk)] at I6
 refine ⟨_, H1, ?_, q1⟩
 first | exact I6 | (rw [List.set_comm _ _ hij] at I6; exact I6) | (have e : ∀ τ : St, ((τ.set k (some v3)).set j (some w)).set i (some v) = ((τ.set i (some v)).set j (some w)).set k (some v3) := fun τ => by rw [List.set_comm _ _ (Ne.symm hij), List.set_comm _ _ (Ne.symm hik), List.set_comm _ _ (Ne.symm hjk)]; exact I6)
end L2
set_option Elab.async false
set_option linter.all false
set_option maxRecDepth 100000
set_option maxHeartbeats 4000000
namespace L2
open PySem PySem.Spec PyProof.Rows
noncomputable def wm : List Expr -> Option (List Int)
 | [] => some []
 | .Constant (.int i) _ _ :: r => (wm r).map (i :: ·)
 | _ => none
noncomputable def Jx (is : List Int) : TA := fun _ H Q => Q (is.map V.int) H
theorem jX {X : Cx} : ∀ {es : List Expr} {is : List Int}, wm es = some is -> PA X es (Jx is)
 | [], is, h => by
  cases (show some [] = some is from h)
  exact zc
 | .Constant (.int i) k p :: r, is, h => by
  obtain ⟨js, e, rfl⟩ := Option.map_eq_some_iff.mp (show (wm r).map (i :: ·) = some is from h)
  exact za (te := tC (.int i)) zb (jX e)
theorem jr {X : Cx} : qA X (.type "int") (fun xs H Q => ∃ k, xs = [.bl k] /\ Q (.int (if k then 1 else 0)) H) := by
 intro pins s σ H xs us Q I r h
 exact Zx pins s σ H xs us Q I r (.inr h)
end L2
set_option Elab.async false
set_option linter.all false
set_option maxRecDepth 100000
set_option maxHeartbeats 4000000
namespace L2
open PySem PySem.Spec PyProof.Rows
noncomputable def zo (n : Nat) (ns : List Int) : Prop := ns.length = n /\ ns.Nodup /\ ∀ x ∈ ns, 0 <= x /\ x < (n : Int)
theorem kH : ∀ (n : Nat) (l : List Int), l.Nodup -> (∀ x ∈ l, 0 <= x /\ x < (n : Int)) -> l.length <= n
 | 0, l, _, h => by
  cases l with
  | nil => exact Nat.le_refl _
  | cons x r => have := h x List.mem_cons_self; omega
 | n + 1, l, hn, h => by
  have ih := kH n (l.erase (n : Int)) (hn.erase _) (fun x hx => by
   have h1 := h x (List.mem_of_mem_erase hx)
   have h2 : x ≠ (n : Int) := fun e => by
    subst e
    exact (hn.not_mem_erase) hx
   omega)
  by_cases hm : (n : Int) ∈ l
  ·rw [List.length_erase_of_mem hm] at ih; omega
  ·rw [List.erase_of_not_mem hm] at ih; omega
theorem zo.surj {n : Nat} {ns : List Int} (h : zo n ns) {x : Int} (h0 : 0 <= x) (h1 : x < n) : x ∈ ns := by
 obtain ⟨l, d, b⟩ := h
 refine Classical.byContradiction fun hm => ?_
 have := kH n (x :: ns) (List.nodup_cons.mpr ⟨hm, d⟩) (fun y hy => by
  rcases List.mem_cons.mp hy with rfl | hy
  ·exact ⟨h0, h1⟩
  ·exact b y hy)
 rw [List.length_cons, l] at this
 omega
theorem zo.getD {n : Nat} {ns : List Int} (h : zo n ns) {i : Nat} (hi : i < n) : 0 <= ns.getD i 0 /\ ns.getD i 0 < n := by
 obtain ⟨l, d, b⟩ := h
 have hi' : i < ns.length := by omega
 have e : ns.getD i 0 = ns[i] := by rw [List.getD_eq_getElem?_getD, List.getElem?_eq_getElem hi']; rfl
 rw [e]
 exact b _ (List.getElem_mem hi')
theorem zN {ns : List Int} {i : Nat} (h : i < ns.length) : ns.getD i 0 = ns[i] := by rw [List.getD_eq_getElem?_getD, List.getElem?_eq_getElem h]; rfl
theorem zo.inj {n : Nat} {ns : List Int} (h : zo n ns) {i j : Nat} (hi : i < n) (hj : j < n) (e : ns.getD i 0 = ns.getD j 0) : i = j := by
 obtain ⟨l, d, b⟩ := h
 rw [zN (by omega), zN (by omega)] at e
 exact (List.getElem_inj d).mp e
theorem jp {n : Nat} {ns : List Int} (l : ns.length = n) (b : ∀ i, i < n -> 0 <= ns.getD i 0 /\ ns.getD i 0 < n) (j : ∀ i k, i < n -> k < n -> ns.getD i 0 = ns.getD k 0 -> i = k) : zo n ns := by
 refine ⟨l, ?_, fun x hx => ?_⟩
 ·rw [List.nodup_iff_pairwise_ne, List.pairwise_iff_getElem]
  intro i k hi hk hik e
  have := j i k (by omega) (by omega) (by rw [zN hi, zN hk]; exact e)
  omega
 ·obtain ⟨i, hi, rfl⟩ := List.mem_iff_getElem.mp hx
  have := b i (by omega)
  rwa [zN hi] at this
theorem zo.ex {n : Nat} {ns : List Int} (h : zo n ns) {j : Nat} (hj : j < n) : ∃ i, i < n /\ ns.getD i 0 = (j : Int) := by
 have hm := h.surj (x := (j : Int)) (by omega) (by omega)
 obtain ⟨i, hi, e⟩ := List.mem_iff_getElem.mp hm
 exact ⟨i, by rw [<- h.1]; exact hi, by rw [zN hi]; exact e⟩
theorem zT (n : Nat) {i : Nat} (h : i < n) : (qt 0 1 n).getD i 0 = (i : Int) := by
 rw [zN (by rw [zF]; exact h)]
 simp [qt]
theorem zo.rng (n : Nat) : zo n (qt 0 1 n) := by
 refine jp (zF 0 1 n) (fun i hi => ?_) (fun i k hi hk e => ?_)
 ·rw [zT n hi]; omega
 ·rw [zT n hi, zT n hk] at e; omega
theorem JT {ns : List Int} {i j : Nat} {v : Int} (h : i < ns.length) : (ns.set i v).getD j 0 = if j = i then v else ns.getD j 0 := by
 rw [List.getD_eq_getElem?_getD, List.getElem?_set]
 by_cases e : i = j
 ·subst e; simp [h]
 ·rw [if_neg e, if_neg (Ne.symm e), List.getD_eq_getElem?_getD]
theorem xh {xs ys : List Int} (l : xs.length = ys.length) (h : ∀ i, i < xs.length -> xs.getD i 0 = ys.getD i 0) : xs = ys := by
 refine List.ext_getElem l fun i h1 h2 => ?_
 have := h i h1
 rwa [zN h1, zN h2] at this
theorem xv {α : Type} {g : Int -> α} {ns : List Int} {i : Nat} (h : i < ns.length) : (ns.take (i + 1)).map g = (ns.take i).map g ++ [g (ns.getD i 0)] := by
 rw [List.take_add_one, List.getElem?_eq_getElem h, zN h, List.map_append]; rfl
noncomputable def wq : V -> V -> V -> Hp -> (Hp -> Prop) -> Prop := fun o i v H Q => ∃ k, i = .int k /\ ∃ p, o = .ref p /\ ∃ xs, H p = some (.lst xs) /\ ∃ j, ixN xs.length k = some j /\ Q (upd H p (.lst (xs.set j v)))
section
variable {X : Cx}
theorem Qf : MtR X "list.append" kA := xJ
theorem jT {es : List Expr} {k : Nat} {t : TGs} {pos : Pos} {K : PySem.W.Frag} (n : Nat) (h : X.K = K) (hc : X.calm = true) (hs : PGs X es t) (hn : (assignEach es X.env).length = n := by rfl) (hst : (assignEach es X.env).findIdx? (·.1) = none := by rfl) : PG X (.Tuple es k pos) (Jt K n t) := h ▸ Vq hc hs hn hst
theorem qM : VV X wq := by
 intro pins s σ H o i v ov iv u Q I ro ri rv h
 obtain ⟨k, e1, p, e2, xs, h1, j, h2, q⟩ := h
 exact QP pins s σ H o i v ov iv u Q I ro ri rv ⟨p, xs, k, j, e2, e1, h1, h2, q⟩
end
end L2
set_option Elab.async false
set_option linter.all false
set_option maxRecDepth 100000
set_option maxHeartbeats 4000000
namespace L2
open PySem PySem.Spec PyProof.Rows
noncomputable def aft (one other : List Int) : List Int := one.map fun x => other.getD x.toNat 0
theorem qk (a b : List Int) : (aft a b).length = a.length := List.length_map _
theorem qu {a : List Int} (b : List Int) {i : Nat} (h : i < a.length) : (aft a b).getD i 0 = b.getD (a.getD i 0).toNat 0 := by
 rw [zN (by rw [qk]; exact h), zN h]
 exact List.getElem_map _
theorem zo.aft {n : Nat} {a b : List Int} (ha : zo n a) (hb : zo n b) : zo n (aft a b) := by
 refine jp (by rw [qk, ha.1]) (fun i hi => ?_) (fun i k hi hk e => ?_)
 ·rw [qu b (by rw [ha.1]; exact hi)]
  have := ha.getD hi
  exact hb.getD (by omega)
 ·rw [qu b (by rw [ha.1]; exact hi), qu b (by rw [ha.1]; exact hk)] at e
  have h1 := ha.getD hi
  have h2 := ha.getD hk
  have := hb.inj (by omega) (by omega) e
  exact ha.inj hi hk (by omega)
theorem yK {n : Nat} {b : List Int} (hb : b.length = n) : aft (qt 0 1 n) b = b := by
 refine xh (by rw [qk, zF, hb]) fun i hi => ?_
 rw [qk, zF] at hi
 rw [qu b (by rw [zF]; exact hi), zT n hi, Int.toNat_natCast]
noncomputable def zZ (os bs : List Int) : Prop := bs.length = os.length /\ ∀ i, i < os.length -> bs.getD (os.getD i 0).toNat 0 = (i : Int)
theorem zZ.at {n : Nat} {os bs : List Int} (ho : zo n os) (h : zZ os bs) {j : Nat} (hj : j < n) : ∃ i : Nat, i < n /\ os.getD i 0 = (j : Int) /\ bs.getD j 0 = (i : Int) := by
 obtain ⟨i, hi, e⟩ := ho.ex hj
 refine ⟨i, hi, e, ?_⟩
 have := h.2 i (by rw [ho.1]; exact hi)
 rw [e, Int.toNat_natCast] at this
 exact this
theorem zZ.ord {n : Nat} {os bs : List Int} (ho : zo n os) (h : zZ os bs) : zo n bs := by
 refine jp (by rw [h.1, ho.1]) (fun j hj => ?_) (fun j k hj hk e => ?_)
 ·obtain ⟨i, hi, _, e⟩ := h.at ho hj
  rw [e]; omega
 ·obtain ⟨i, hi, e1, e2⟩ := h.at ho hj
  obtain ⟨i', hi', e1', e2'⟩ := h.at ho hk
  have : i = i' := by omega
  subst this
  omega
theorem zZ.right {n : Nat} {os bs : List Int} (ho : zo n os) (h : zZ os bs) : aft os bs = qt 0 1 n := by
 refine xh (by rw [qk, zF, ho.1]) fun i hi => ?_
 rw [qk] at hi
 rw [qu bs hi, h.2 i hi, zT n (by rw [<- ho.1]; exact hi)]
theorem zZ.unique {n : Nat} {os bs cs : List Int} (ho : zo n os) (h : zZ os bs) (hc : cs.length = n) (e : aft os cs = qt 0 1 n) : cs = bs := by
 refine xh (by rw [hc, h.1, ho.1]) fun j hj => ?_
 obtain ⟨i, hi, e1, e2⟩ := h.at ho (by omega : j < n)
 have := congrArg (fun l => l.getD i 0) e
 rw [qu cs (by rw [ho.1]; exact hi), e1, Int.toNat_natCast, zT n hi] at this
 rw [this, e2]
noncomputable def XM (os : List Int) (k : Nat) : Nat := ((List.range k).filter fun (i : Nat) => !decide (os.getD i 0 = (i : Int))).length
noncomputable def pwl (n : Nat) (b : List Int) : Nat -> List Int
 | 0 => qt 0 1 n
 | k + 1 => aft (pwl n b k) b
theorem jM {n : Nat} {b : List Int} (hb : zo n b) : ∀ k, zo n (pwl n b k)
 | 0 => zo.rng n
 | k + 1 => (jM hb k).aft hb
theorem KU {n : Nat} {b : List Int} (hb : zo n b) : pwl n b 1 = b := yK hb.1
end L2
set_option Elab.async false
set_option linter.all false
set_option maxRecDepth 100000
set_option maxHeartbeats 4000000
namespace L2
open PySem PySem.Spec PyProof.Rows
section
variable {X : Cx}
noncomputable def Zb (K : PySem.W.Frag) : R2 := fun x y H Q => ∃ p xs i v, x = .ref p /\ y = .int i /\ (SqL K H p xs \/ SqT K H p xs) /\ atI xs i = some v /\ Q v H
theorem wM : IxR X (Zb X.K) := by
 intro value slice pins s σ H x y v u Q I rx ry h hs
 obtain ⟨p, xs, i, z, e1, e2, hq | hq, he, q⟩ := h
 ·exact zX value slice pins s σ H x y v u Q I rx ry ⟨p, xs, i, z, e1, e2, hq, he, q⟩ hs
 ·exact Vb value slice pins s σ H x y v u Q I rx ry ⟨p, xs, i, z, e1, e2, hq, he, q⟩ hs
theorem VM {K : PySem.W.Frag} (h : X.K = K) : IxR X (Zb K) := h ▸ wM
theorem Vr : bootBuiltins "all" = some (.builtin "all") := by decide +kernel
theorem kZ : ∀ {bs : List Bool} {us : List Value}, zq (bs.map V.bl) us -> us = bs.map Value.bool
 | [], _, h => by cases h; rfl
 | b :: bs, _, h => by
  cases h with
  | cons r rs => cases r; rw [kZ rs]; rfl
theorem vZ (bs : List Bool) : ((List.range bs.length).all fun i => (bs[i]?).getD true) = bs.all id := by
 rw [Bool.eq_iff_iff, List.all_eq_true, List.all_eq_true]
 constructor
 ·intro h x hx
  obtain ⟨i, hi, rfl⟩ := List.getElem_of_mem hx
  have := h i (by simpa using hi)
  simpa [List.getElem?_eq_getElem hi] using this
 ·intro h i hi
  have hi' : i < bs.length := by simpa using hi
  simpa [List.getElem?_eq_getElem hi'] using h bs[i] (List.getElem_mem hi')
theorem ZO (hc : X.calm = true) : qA X (.builtin "all") (fun xs H Q => ∃ p bs, xs = [.ref p] /\ SqL X.K H p (List.map V.bl bs) /\ Q (.bl (bs.all id)) H) := by
  intro pins s σ H xs us Q I r h
  obtain ⟨p, bs, rfl, hq, q⟩ := h
  obtain ⟨u, rfl, rx⟩ := jB r
  cases rx
  obtain ⟨its, rv, pl, hz⟩ := I.list hq
  have hu := kZ rv
  subst hu
  have hlt : p < s.heap.objs.size := by obtain ⟨_, e, _⟩ := pl.isList; exact Heap.lt_size e
  refine call_all_walk (wpAny_pyIter_list pl.isList ?_)
  refine ⟨s.heap.objs.size, [s.heap.objs.size, p], [s.heap.objs.size], (bs.map Value.bool).toArray.size, _, _, fun i => (bs[i]?).getD true, rfl, Walks.list (A := X.A.in1) (I.ok.hd hc) _ p (Nat.ne_of_lt hlt) (bs.map Value.bool).toArray,
    ⟨⟨_, Heap.get?_push_size _ rfl, rfl, rfl⟩, pl.isList.push _⟩, fun i v s' Q' E' hP hQ => ?_, fun h' tk hk => ?_⟩
  · have hP' : (bs.map Value.bool)[i]? = some v := by simpa using hP
    rw [List.getElem?_map] at hP'
    cases e : bs[i]? with
    | none => rw [e] at hP'; cases hP'
    | some b =>
      rw [e] at hP'
      cases hP'
      simp only [e, Option.getD_some] at hQ
      exact wpAny_truthy_bool hQ
  · have e : ((List.range (bs.map Value.bool).toArray.size).all fun i => (bs[i]?).getD true) = bs.all id := by
      rw [List.size_toArray, List.length_map]; exact vZ bs
    rw [e]
    refine ⟨.bl (bs.all id), H, I.turnedL (ch := []) (tk := tk) (fun b hb => nomatch hb) (fun b o _ eb => ?_), rfl, q⟩
    exact hk b o (fun hm => by rw [List.mem_singleton.mp hm] at eb; exact Nat.lt_irrefl _ (Heap.lt_size eb)) (Heap.get?_push_of_some _ eb)
end
end L2
set_option Elab.async false
set_option linter.all false
set_option maxRecDepth 100000
set_option maxHeartbeats 4000000
namespace L2
open PySem PySem.Spec PyProof.Rows
noncomputable def nxt (os : List Int) (p : Int) : Int := os.getD p.toNat 0
noncomputable def itn (os : List Int) : Nat -> Int -> Int
 | 0, p => p
 | k + 1, p => nxt os (itn os k p)
theorem qG {n : Nat} {os : List Int} (h : zo n os) {p : Int} (p0 : 0 <= p) (p1 : p < n) : ∀ k, 0 <= itn os k p /\ itn os k p < n
 | 0 => ⟨p0, p1⟩
 | k + 1 => by
  have := qG h p0 p1 k
  exact h.getD (by omega)
theorem qP (os : List Int) (p : Int) (b : Nat) : ∀ a, itn os (a + b) p = itn os a (itn os b p)
 | 0 => by rw [Nat.zero_add]; rfl
 | a + 1 => by
  rw [show a + 1 + b = (a + b) + 1 by omega]
  show nxt os (itn os (a + b) p) = nxt os (itn os a (itn os b p))
  rw [qP os p b a]
theorem Xd {n : Nat} {os : List Int} (h : zo n os) {x y : Int} (x0 : 0 <= x) (x1 : x < n) (y0 : 0 <= y) (y1 : y < n) (e : nxt os x = nxt os y) : x = y := by
 have := h.inj (i := x.toNat) (j := y.toNat) (by omega) (by omega) e
 omega
theorem yB {n : Nat} {os : List Int} (h : zo n os) {x y : Int} (x0 : 0 <= x) (x1 : x < n) (y0 : 0 <= y) (y1 : y < n) : ∀ k, itn os k x = itn os k y -> x = y
 | 0, e => e
 | k + 1, e => by
  have bx := qG h x0 x1 k
  have by' := qG h y0 y1 k
  exact yB h x0 x1 y0 y1 k (Xd h bx.1 bx.2 by'.1 by'.2 e)
theorem wY {n : Nat} {os : List Int} (h : zo n os) {p : Int} (p0 : 0 <= p) (p1 : p < n) : ∃ M, 1 <= M /\ M <= n /\ itn os M p = p := by
 apply Classical.byContradiction
 intro hno
 have hp : ((List.range (n + 1)).map fun i => itn os i p).Nodup := by
  rw [List.Nodup, List.pairwise_map]
  refine List.Pairwise.imp_of_mem (R := fun a b => a < b) ?_ List.pairwise_lt_range
  intro a b ha hb hlt e
  have hb' : b < n + 1 := by simpa using hb
  refine hno ⟨b - a, by omega, by omega, ?_⟩
  have bb := qG h p0 p1 (b - a)
  refine (yB h p0 p1 bb.1 bb.2 a ?_).symm
  rw [<- qP, show a + (b - a) = b by omega]
  exact e
 have := kH n _ hp (fun x hx => by
  obtain ⟨i, _, rfl⟩ := List.mem_map.mp hx
  exact qG h p0 p1 i)
 rw [List.length_map, List.length_range] at this
 omega
end L2
set_option Elab.async false
set_option linter.all false
set_option maxRecDepth 100000
set_option maxHeartbeats 4000000
namespace L2
open PySem PySem.Spec PyProof.Rows
end L2
set_option Elab.async false
set_option linter.all false
set_option maxRecDepth 100000
set_option maxHeartbeats 4000000
namespace L2
open PySem PySem.Spec PyProof.Rows
section
variable {P : Program} {w : World} {A : Around} {E : Value -> Shared -> Prop} {s : Shared} {j t : Addr} {i : Nat} {its : Array Value} {Q : Value -> Shared -> Prop}
theorem qS {x : Value} (hj : s.heap.IsTupleIter j t i) (ht : s.heap.IsTuple t its) (hx : its[i]? = some x) (hQ : ∀ h', h'.IsTupleIter j t (i + 1) -> Heap.SameBut j s.heap h' -> Q x { s with heap := h' }) : wpAny (model P w) A (Builtin.SmallTypes.nextOf (.ref j)) Q E s := by
 obtain ⟨o, ho, hc, hd⟩ := id hj
 obtain ⟨ot, hot, _, nt, hdt⟩ := ht
 unfold Builtin.SmallTypes.nextOf
 refine wpAny_bind (wpAny_callSpecial?_slot (name := Str.ofString "__next__") hj.typeIs F.slot_tuple_iterator_next (wpAny_call_entry F.slot_tuple_iterator_next hj.typeIs F.entry_tuple_iterator_next ?_ (F.args_tuple_iterator_next_1 _)))
 refine wpAny_bind (m := field (.ref j) 0) (wpAny_field ho hd (x := .ref t) rfl ?_); show wpAny _ _ (if (Value.ref t == Value.none) = true then _ else _) _ _ s; rw [if_neg (show ¬ ((Value.ref t == Value.none) = true) from Bool.false_ne_true)]
 refine wpAny_bind (m := field (.ref j) 1) (wpAny_field ho hd (x := .int i 0) rfl ?_); refine wpAny_bind (m := seqItems? (.ref t)) (wpAny_seqItems hot hdt ?_); simp only [Int.toNat_natCast, hx]
 refine wpAny_bind (wpAny_setField ho hd (by simp) (wpAny_pure ⟨x, rfl, wpAny_pure (hQ _ ⟨_, Heap.get?_update_self _ ho (Obj.isFreed_of_fields (Obj.data_mapFields hd _)), (Obj.cls_mapFields ..).trans hc, by rw [Obj.data_mapFields hd]; simp [rawInt]⟩ (Heap.SameBut.update ..))⟩))
theorem jg (hh : A.handled = none) (hj : s.heap.IsTupleIter j t i) (ht : s.heap.IsTuple t its) (hx : its[i]? = none) (hE : ∀ h' e, Heap.ExtBut j s.heap h' -> (∃ o, h'.get? e = some o /\ o.cls = .type "StopIteration") -> E (.ref e) { s with heap := h' }) : wpAny (model P w) A (Builtin.SmallTypes.nextOf (.ref j)) Q E s := by
 obtain ⟨o, ho, hc, hd⟩ := id hj
 obtain ⟨ot, hot, _, nt, hdt⟩ := ht
 unfold Builtin.SmallTypes.nextOf
 refine wpAny_bind (wpAny_callSpecial?_slot (name := Str.ofString "__next__") hj.typeIs F.slot_tuple_iterator_next (wpAny_call_entry F.slot_tuple_iterator_next hj.typeIs F.entry_tuple_iterator_next ?_ (F.args_tuple_iterator_next_1 _)))
 refine wpAny_bind (m := field (.ref j) 0) (wpAny_field ho hd (x := .ref t) rfl ?_); show wpAny _ _ (if (Value.ref t == Value.none) = true then _ else _) _ _ s; rw [if_neg (show ¬ ((Value.ref t == Value.none) = true) from Bool.false_ne_true)]
 refine wpAny_bind (m := field (.ref j) 1) (wpAny_field ho hd (x := .int i 0) rfl ?_); refine wpAny_bind (m := seqItems? (.ref t)) (wpAny_seqItems hot hdt ?_); simp only [Int.toNat_natCast, hx]
 refine wpAny_bind (wpAny_rule (wpAny_bind (wpAny_setField ho hd (by simp) ?_))); refine wpAny_bind (m := newExc (.type "StopIteration") []) ?_; simp only [newExc, newTuple]; refine wpAny_bind (wpAny_newObj_type ?_ (by size_fits)); refine wpAny_bind (m := firstArgMember _ _) (wpAny_of_eq (a := Value.none) (by first | rfl | (simp only [firstArgMember]; rfl)) ?_); refine wpAny_newObj_type ?_ (by size_fits); simp only [raiseNew]; refine wpAny_bind (wpAny_handled ?_)
 (first | rw [show A.in1.handled = none from hh] | rw [hh]); refine wpAny_bind (wpAny_pure (wpAny_throw ?_)); exact hE _ _ (((Heap.SameBut.update ..).extBut.push _).push _) ⟨_, Heap.get?_push_size _ rfl, rfl⟩
end
theorem Z3 {P : Program} {w : World} {A : Around} (hh : A.handled = none) (j t : Addr) (hne : t ≠ j) (its : Array Value) :
  Draws P w A j [j, t] its.size (fun i v => its[i]? = some v) (fun i h => h.IsTupleIter j t i /\ h.IsTuple t its) where
 live := fun _ _ st => let ⟨o, ho, _⟩ := st.1; ⟨o, ho⟩
 frame := fun _ _ _ st hk => ⟨st.1.at fun o e => hk j (by simp) o e, let ⟨o, ho, r⟩ := st.2; ⟨o, hk t (by simp) o ho, r⟩⟩
 item := fun i s Q E hi st hQ => by
  refine qS st.1 st.2 (x := its[i]) (by simp [hi]) fun h' hit' hs' => ?_
  exact hQ _ h' s.toks (by simp [hi]) ⟨hit', let ⟨o, ho, r⟩ := st.2; ⟨o, (hs'.2 t hne).trans ho, r⟩⟩ hs'
 done := fun s Q E st hE => jg hh st.1 st.2 (by simp) hE
open AutoSeq1 (wpAny_loadPart') in
theorem Zq (l : Addr) (its : Array Value) (n : Nat) (dct : Option Addr) (sl : Array (Option Value)) :
  Meets (Builtin.«enumerate.__new__» ⟨[.type "enumerate", .ref l], []⟩) (fun _ R s => s.heap.get? l = some { cls := .type "tuple", dict := dct, data := .seq its n, slots := sl } /\ R (.ok (.ret (.ref (s.heap.push { cls := .type "tuple_iterator", data := .fields #[.ref l, .int 0 0] }).objs.size))) { s with heap := (s.heap.push { cls := .type "tuple_iterator", data := .fields #[.ref l, .int 0 0] }).push { cls := .type "enumerate", data := .fields #[.none, .bool false, .ref s.heap.objs.size, rawInt 0, .none, .none] } }) :=
 .of_wp fun prog w A R s h => by
  obtain ⟨hp, g, d, tk, os⟩ := s
  obtain ⟨hl, h⟩ := h
  have hsub := sub_enumerate
  have hT : Heap.IsTuple (Shared.heap ⟨hp, g, d, tk, os⟩) l its := ⟨_, hl, rfl, n, rfl⟩
  wp_walk using wpAny_loadPart' hl
  refine wpAny_stack_any fun st => wpAny_pure ?_
  split
  ·rename_i c _ _ _ _ _
   cases (c == Value.type "enumerate")
   ·wp_walk using wpAny_loadPart' hl, wpAny_pyIter_tuple hT; exact ⟨_, rfl, h⟩
   ·wp_walk using wpAny_loadPart' hl, wpAny_pyIter_tuple hT; exact ⟨_, rfl, h⟩
  ·wp_walk using wpAny_loadPart' hl, wpAny_pyIter_tuple hT; exact ⟨_, rfl, h⟩
theorem v0 {P : Program} {w : World} {A : Around} {E : Value -> Shared -> Prop} {s : Shared} {l : Addr} {its : Array Value} {Q : Value -> Shared -> Prop} (hT : s.heap.IsTuple l its)
  (h : ∀ h', IsEnum h' (s.heap.objs.size + 1) s.heap.objs.size 0 .none -> h'.IsTupleIter s.heap.objs.size l 0 -> (∀ b o, s.heap.get? b = some o -> h'.get? b = some o) -> Q (.ref (s.heap.objs.size + 1)) { s with heap := h' }) :
  wpAny (model P w) A (call (.type "enumerate") [.ref l]) Q E s := by
 obtain ⟨⟨c, dct, dt, sl⟩, hl, hc, n, hd⟩ := hT
 replace hc : c = .type "tuple" := hc
 replace hd : dt = .seq its n := hd
 subst hc hd
 refine callType_new F.called_enumerate (by decide) (F.typeCall_enumerate_1 _) (F.newCall_enumerate_1 _) (fun obj => F.args_object_init_2 obj _) F.entry_enumerate_new (Zq l its n dct sl) ⟨hl, ?_⟩
 have hz : (s.heap.push { cls := .type "tuple_iterator", data := .fields #[.ref l, .int 0 0] }).objs.size = s.heap.objs.size + 1 := Heap.size_push ..
 show _ /\ _
 rw [hz]
 have he : IsEnum ((s.heap.push { cls := .type "tuple_iterator", data := .fields #[.ref l, .int 0 0] }).push { cls := .type "enumerate", data := .fields #[.none, .bool false, .ref s.heap.objs.size, rawInt 0, .none, .none] }) (s.heap.objs.size + 1) s.heap.objs.size 0 .none := by
  have hg := Heap.get?_push_size (s.heap.push { cls := .type "tuple_iterator", data := .fields #[.ref l, .int 0 0] }) (o := { cls := .type "enumerate", data := .fields #[.none, .bool false, .ref s.heap.objs.size, rawInt 0, .none, .none] }) rfl
  rw [hz] at hg; exact hg
 exact ⟨⟨_, he, rfl⟩, h _ he ⟨_, Heap.get?_push_of_some _ (Heap.get?_push_size _ rfl), rfl, rfl⟩ fun b o x => Heap.get?_push_of_some _ (Heap.get?_push_of_some _ x)⟩
theorem ZS {P : Program} {w : World} {A : Around} {E : Value -> Shared -> Prop} {s : Shared} {e j t : Addr} {i : Nat} {its : Array Value} {old : Value} {Q : Option Value -> Shared -> Prop} (hh : A.handled = none)
  (he : IsEnum s.heap e j i old) (hj : s.heap.IsTupleIter j t i) (ht : s.heap.IsTuple t its) (hx : its[i]? = none) (hQ : ∀ h', Heap.ExtBut j s.heap h' -> Q none { s with heap := h' }) : wpAny (model P w) A (pyNext (.ref e)) Q E s := by
 have hT : s.TypeIs (.ref e) "enumerate" := ⟨_, he, rfl⟩
 unfold pyNext
 refine wpAny_bind (wpAny_attempt (wpAny_callSpecial?_slot (name := Str.ofString "__next__") hT F.slot_enumerate_next (wpAny_call_entry F.slot_enumerate_next hT F.entry_enumerate_next ?_ (F.args_enumerate_next_1 _))))
 refine wpAny_bind (m := field (.ref e) 2) (wpAny_field he rfl (x := .ref j) rfl ?_); refine wpAny_bind (jg hh hj ht hx fun h' x he' hx' => ?_)
 obtain ⟨o, ho, hc⟩ := hx'
 refine wpAny_bind (wpAny_isInstance (T := "StopIteration") (b := true) ⟨o, ho, hc⟩ isSubtype_stop ?_); exact wpAny_pure (hQ _ he')
noncomputable def Yv (K : PySem.W.Frag) (a : Addr) : It :=
 ⟨fun i H => ∃ xs x, SqT K H a xs /\ xs[i]? = some x, fun i H y H' => ∃ p x, H p = none /\ y = .ref p /\ (∀ xs, SqT K H a xs -> xs[i]? = some x) /\ H' = upd H p (.tup [.int i, x]), fun i H => ∃ xs, SqT K H a xs /\ xs.length <= i⟩
theorem vU {P : Program} {w : World} {K : PySem.W.Frag} {es : List Expr} {kt : Nat} {tp : Pos} (a e it : Addr) (hei : e ≠ it) (hea : e ≠ a) (hai : a ≠ it) : vk P w K (.Tuple es kt tp) (Yv K a) [e, it] e (fun i h => (∃ old, IsEnum h e it (i : Nat) old) /\ h.IsTupleIter it a i) where
 mem := by simp
 obj := fun i h st b hb => by
  obtain ⟨⟨old, he⟩, ⟨o, e1, c, d⟩⟩ := st
  rcases List.mem_cons.mp hb with rfl | hb
  ·exact ⟨_, he, fun v z => by have z' : Data.fields _ = Data.cell v := z; cases z'⟩
  ·have e2 : b = it := by simpa using hb
   subst e2
   exact ⟨o, e1, fun v z => by rw [d] at z; cases z⟩
 keep := fun i h h' st k => by
  obtain ⟨⟨old, he⟩, st⟩ := st
  exact ⟨⟨old, k e (by simp) _ he⟩, st.at fun o e => k it (by simp) o e⟩
 item := by
  intro X hP hw hK hc i pins s σ H E I hf st hg
  subst hP hw hK
  obtain ⟨⟨old, he⟩, st⟩ := st
  obtain ⟨xs, x, hq, hx⟩ := hg
  obtain ⟨its, rv, p, hz⟩ := I.tuple hq
  obtain ⟨u, hu, ru⟩ := rv.get hx
  have hlt : i < its.toArray.size := by
   have := (List.getElem?_eq_some_iff.mp hu).1
   simpa using this
  refine wpAny_pyNext_enum_itemD (Z3 (A := X.A.in1) (I.ok.hd hc) it a hai its.toArray) he ⟨st, p⟩ hlt hei (by simp [hei, hea]) fun x' h1 tk hP heo hit1 ht1 hz1 hk1 => ?_
  have hxu : x' = u := by
   have h1' : its[i]? = some x' := by simpa using hP
   rw [hu] at h1'; cases h1'; rfl
  subst hxu
  refine ⟨.ref s.heap.objs.size, rfl, wpAny_letOwnedTupleGo_enum heo fun h2 he2 hs2 => ?_⟩
  replace hs2 : Heap.SameBut e h1 h2 := hs2
  have elt : e < s.heap.objs.size := Heap.lt_size he
  have ht2 := (hs2.2 _ (Nat.ne_of_gt elt)).trans ht1
  have I2 : Inv X pins σ (upd H s.heap.objs.size (.tup [.int i, x])) { s with heap := h2, toks := tk + 1 } := by
   refine I.yieldTup (us := [.int i tk, x']) hf (fun b o hb q => ?_) (Nat.le_refl _) ht2 (.cons ⟨_, rfl⟩ (.cons ru .nil)) (by show 2 <= sizeLine; decide)
   have n1 : b ≠ e := fun z => hb (by simp [z])
   have n2 : b ≠ it := fun z => hb (by simp [z])
   exact (hs2.2 b n1).trans (hk1 b o n1 n2 q)
  refine ⟨.ref s.heap.objs.size, _, I2, rfl, ⟨s.heap.objs.size, x, I.hok.fresh (Nat.le_refl _), rfl, fun ys hy => by rw [I.tuple_inj hy hq]; exact hx, rfl⟩, ⟨⟨_, by simpa using he2⟩, hit1.1.extBut hs2.extBut (Ne.symm hei)⟩, fun b hb => ?_⟩
  have hlt : b < s.heap.objs.size := by
   rcases List.mem_cons.mp hb with rfl | hb
   ·exact elt
   ·have e2 : b = it := by simpa using hb
    subst e2
    obtain ⟨o, e1, _⟩ := st
    exact Heap.lt_size e1
  rw [zh (Nat.ne_of_lt hlt)]
  exact (hf b hb).1
 done := by
  intro X hP hw hK hc i pins s σ H E I hf st hg
  subst hP hw hK
  obtain ⟨⟨old, he⟩, st⟩ := st
  obtain ⟨xs, hq, hx⟩ := hg
  obtain ⟨its, rv, p, hz⟩ := I.tuple hq
  obtain ⟨f0, f1, f2, f3, f4, f5⟩ := hf it (by simp)
  have hl := rv.length
  exact ZS (I.ok.hd hc) he st p (by simp; omega) fun h' eb => ⟨rfl, I.turned (t' := s.toks) (fun b o hb e => eb b o hb e) f0 f1 f3 f4 f5⟩
 self := fun _ _ _ _ _ st h => by
  obtain ⟨⟨old, he⟩, _⟩ := st
  exact wpAny_pyIter_enum he h
section
variable {X : Cx} {es : List Expr} {kt : Nat} {tp : Pos}
noncomputable def kx (K : PySem.W.Frag) (ta : TA) : TI := fun σ H R => ta σ H fun vs H1 => ∃ a, vs = [.ref a] /\ (((∃ xs, SqL K H1 a xs) /\ R (Ite K a) H1) \/ ((∃ xs, SqT K H1 a xs) /\ R (Yv K a) H1))
theorem x8 {e : Expr} {ta : TA} {p pos : Pos} (hg : Gl X "enumerate") (hm : X.mg "enumerate" = none) (ha : PA X [e] ta) (hs : starEach [e] X.env = [(false, eval e X.env)] := by rfl) :
  PI X (.Tuple es kt tp) (.Call (.Name "enumerate" p) [e] [] pos) (kx X.K ta) := by
 intro pins s σ H R I h
 refine Call_ (jF I hg hm (kF) (PyProof.Rows.callWith_type1 (thn (ha pos pins s σ H _ I h) fun us s1 ⟨vs, H1, I1, r1, q1⟩ => ?_) hs rfl))
 obtain ⟨a, e, q⟩ := q1
 subst e
 obtain ⟨u, rfl, ru⟩ := jB r1
 cases ru
 have hb' : ∀ b ∈ [s1.heap.objs.size + 1, s1.heap.objs.size], s1.heap.objs.size <= b := by
  intro b hb
  simp only [List.mem_cons, List.not_mem_nil, or_false] at hb
  omega
 rcases q with ⟨⟨xs, hq⟩, q⟩ | ⟨⟨xs, hq⟩, q⟩
 ·obtain ⟨its, rv, pl, hz⟩ := I1.list hq
  refine call_enumerate_list pl.isList fun h' he hit hsz hk => wpAny_pyIter_enum he ?_
  have I2 : Inv X pins σ H1 { s1 with heap := h' } := I1.kept (t' := s1.toks) hk
  exact ⟨s1.heap.objs.size + 1, [s1.heap.objs.size + 1, s1.heap.objs.size], _, _, H1, rfl, I2, xG a _ _ (Nat.succ_ne_self _), ⟨⟨_, he⟩, hit⟩, fun b hb => I1.fpOk (hb' b hb) (I1.hok.fresh (hb' b hb)), q⟩
 ·obtain ⟨its, rv, pl, hz⟩ := I1.tuple hq
  have alt : a < s1.heap.objs.size := by obtain ⟨o, e, _⟩ := pl; exact Heap.lt_size e
  refine v0 pl fun h' he hit hk => wpAny_pyIter_enum he ?_
  have I2 : Inv X pins σ H1 { s1 with heap := h' } := I1.kept (t' := s1.toks) hk
  exact ⟨s1.heap.objs.size + 1, [s1.heap.objs.size + 1, s1.heap.objs.size], _, _, H1, rfl, I2, vU a (s1.heap.objs.size + 1) s1.heap.objs.size (Nat.succ_ne_self _) (Nat.ne_of_gt (Nat.lt_succ_of_lt alt)) (Nat.ne_of_lt alt), ⟨⟨_, he⟩, hit⟩, fun b hb => I1.fpOk (hb' b hb) (I1.hok.fresh (hb' b hb)), q⟩
end
end L2
set_option Elab.async false
set_option linter.all false
set_option maxRecDepth 100000
set_option maxHeartbeats 4000000
namespace L2
open PySem PySem.Spec PyProof.Rows
theorem zZ.same {n : Nat} {os bs cs : List Int} (ho : zo n os) (h : zZ os bs) (h' : zZ os cs) : cs = bs := zZ.unique ho h (h'.ord ho).1 (h'.right ho)
end L2
set_option Elab.async false
set_option linter.all false
set_option maxRecDepth 100000
set_option maxHeartbeats 4000000
namespace L2
open PySem PySem.Spec PyProof.Rows
theorem xa {p : Nat -> Prop} : ∀ n, p n -> ∃ m, p m /\ ∀ j, j < m -> ¬ p j := by
 intro n
 induction n using Nat.strongRecOn with
 | _ n ih =>
  intro h
  by_cases hx : ∃ j, j < n /\ p j
  ·obtain ⟨j, hj, pj⟩ := hx
   exact ih j hj pj
  ·exact ⟨n, h, fun j hj pj => hx ⟨j, hj, pj⟩⟩
noncomputable def jf (os : List Int) (p : Int) (m : Nat) : Prop := 1 <= m /\ itn os m p = p /\ ∀ j, 1 <= j -> j < m -> itn os j p ≠ p
theorem jf.uniq {os : List Int} {p : Int} {m m' : Nat} (h : jf os p m) (h' : jf os p m') : m = m' := by
 obtain ⟨a1, a3, a4⟩ := h
 obtain ⟨b1, b3, b4⟩ := h'
 rcases Nat.lt_trichotomy m m' with z | z | z
 ·exact absurd a3 (b4 m a1 z)
 ·exact z
 ·exact absurd b3 (a4 m' b1 z)
theorem j0 {n : Nat} {os : List Int} (h : zo n os) {p : Int} (p0 : 0 <= p) (p1 : p < n) : ∃ m, jf os p m /\ m <= n := by
 obtain ⟨M, h1, h2, h3⟩ := wY h p0 p1
 obtain ⟨m, ⟨m1, m2⟩, m3⟩ := xa (p := fun k => 1 <= k /\ itn os k p = p) M ⟨h1, h3⟩
 refine ⟨m, ⟨m1, m2, fun j j1 jm e => m3 j jm ⟨j1, e⟩⟩, ?_⟩
 rcases Nat.lt_or_ge M m with z | z
 ·exact absurd ⟨h1, h3⟩ (m3 M z)
 ·omega
open Classical in
noncomputable def per (os : List Int) (p : Int) : Nat := if h : ∃ m, jf os p m then Classical.choose h else 0
theorem jf.per {os : List Int} {p : Int} {m : Nat} (h : jf os p m) : per os p = m := by
 have hx : ∃ m, jf os p m := ⟨m, h⟩
 unfold L2.per
 rw [dif_pos hx]
 exact (Classical.choose_spec hx).uniq h
noncomputable def itl (os : List Int) (p : Int) (k : Nat) : List Int := (List.range k).map fun i => itn os i p
theorem qp (os : List Int) (p : Int) (k : Nat) : (itl os p k).length = k := by simp [itl]
theorem jK {os : List Int} {p : Int} {k : Nat} {x : Int} : x ∈ itl os p k ↔ ∃ i, i < k /\ itn os i p = x := by
 unfold itl
 rw [List.mem_map]
 constructor
 ·rintro ⟨i, hi, e⟩
  exact ⟨i, by simpa using hi, e⟩
 ·rintro ⟨i, hi, e⟩
  exact ⟨i, by simpa using hi, e⟩
noncomputable def qZ (os : List Int) (p : Int) : List Int := itl os p (per os p)
noncomputable def Rch (os : List Int) (q x : Int) : Prop := ∃ k, itn os k q = x
theorem Rch.refl {os : List Int} {p : Int} : Rch os p p := ⟨0, rfl⟩
theorem Rch.trans {os : List Int} {p q r : Int} (a : Rch os p q) (b : Rch os q r) : Rch os p r := by
 obtain ⟨i, rfl⟩ := a
 obtain ⟨j, rfl⟩ := b
 exact ⟨j + i, qP os p i j⟩
theorem kr {os : List Int} {p : Int} {m : Nat} (h : itn os m p = p) : ∀ k, itn os (k * m) p = p
 | 0 => by rw [Nat.zero_mul]; rfl
 | k + 1 => by rw [Nat.succ_mul, Nat.add_comm, qP, kr h k, h]
theorem Zo {os : List Int} {p : Int} {m : Nat} (h : itn os m p = p) (k : Nat) : itn os k p = itn os (k % m) p := by
 have e : k = k % m + (k / m) * m := by rw [Nat.mul_comm]; exact (Nat.mod_add_div k m).symm
 conv => lhs; rw [e]
 rw [qP, kr h]
theorem Rch.symm {n : Nat} {os : List Int} (h : zo n os) {p q : Int} (p0 : 0 <= p) (p1 : p < n) (a : Rch os p q) : Rch os q p := by
 obtain ⟨k, rfl⟩ := a
 obtain ⟨M, h1, _, h3⟩ := wY h p0 p1
 refine ⟨(k + 1) * M - k, ?_⟩
 have hle : k <= (k + 1) * M := Nat.le_trans (Nat.le_succ k) (Nat.le_mul_of_pos_right _ h1)
 rw [<- qP, Nat.sub_add_cancel hle, kr h3]
theorem Rch.mem_ring {os : List Int} {p x : Int} {m : Nat} (h : jf os p m) : Rch os p x ↔ x ∈ itl os p m := by
 rw [jK]
 constructor
 ·rintro ⟨k, rfl⟩
  exact ⟨k % m, Nat.mod_lt _ h.1, (Zo h.2.1 k).symm⟩
 ·rintro ⟨i, _, e⟩
  exact ⟨i, e⟩
noncomputable def vv (os : List Int) (p : Nat) : Prop := ∀ q : Nat, q < p -> ¬ Rch os (q : Int) (p : Int)
open Classical in
noncomputable def zC (os : List Int) : Nat -> List (List Int)
 | 0 => []
 | i + 1 => zC os i ++ if vv os i /\ 1 < per os (i : Int) then [qZ os (i : Int)] else []
noncomputable def qF (os : List Int) (i : Nat) (x : Int) : Prop := ∃ q : Nat, q < i /\ Rch os (q : Int) x
theorem qF.succ {os : List Int} {i : Nat} {x : Int} : qF os (i + 1) x ↔ qF os i x \/ Rch os (i : Int) x := by
 constructor
 ·rintro ⟨q, hq, r⟩
  by_cases e : q = i
  ·subst e; exact .inr r
  ·exact .inl ⟨q, by omega, r⟩
 ·rintro (⟨q, hq, r⟩ | r)
  ·exact ⟨q, by omega, r⟩
  ·exact ⟨i, by omega, r⟩
theorem yX {os : List Int} {i : Nat} : vv os i ↔ ¬ qF os i (i : Int) := by
 constructor
 ·rintro h ⟨q, hq, r⟩; exact h q hq r
 ·intro h q hq r; exact h ⟨q, hq, r⟩
theorem qF.step {n : Nat} {os : List Int} (h : zo n os) {i : Nat} (hi : i < n) (hs : qF os i (i : Int)) {x : Int} : qF os (i + 1) x ↔ qF os i x := by
 rw [qF.succ]
 constructor
 ·rintro (z | z)
  ·exact z
  ·obtain ⟨q, hq, r⟩ := hs
   exact ⟨q, hq, r.trans z⟩
 ·exact .inl
theorem qF.apart {n : Nat} {os : List Int} (h : zo n os) {i : Nat} (hi : i < n) (hs : ¬ qF os i (i : Int)) {x : Int} (r : Rch os (i : Int) x) : ¬ qF os i x := by
 rintro ⟨q, hq, rq⟩
 exact hs ⟨q, hq, rq.trans (r.symm h (by omega) (by omega))⟩
theorem xk {n : Nat} {os : List Int} (h : zo n os) {r : List Int} : ∀ {i : Nat}, i <= n -> r ∈ zC os i -> 1 < r.length /\ r.length <= n
 | 0, _, hr => by simp [zC] at hr
 | i + 1, hi, hr => by
  unfold zC at hr
  rcases List.mem_append.mp hr with z | z
  ·exact xk h (by omega) z
  ·by_cases c : vv os i /\ 1 < per os (i : Int)
   ·rw [if_pos c] at z
    rw [List.mem_singleton.mp z]
    obtain ⟨m, hm, hle⟩ := j0 h (p := (i : Int)) (by omega) (by omega)
    unfold qZ
    rw [qp]
    have := hm.per
    omega
   ·rw [if_neg c] at z; cases z
end L2
set_option Elab.async false
set_option linter.all false
set_option maxRecDepth 100000
set_option maxHeartbeats 4000000
namespace L2
open PySem PySem.Spec PyProof.Rows
end L2
set_option Elab.async false
set_option linter.all false
set_option maxRecDepth 100000
set_option maxHeartbeats 4000000
namespace L2
open PySem PySem.Spec PyProof.Rows
noncomputable def iLT (K : PySem.W.Frag) (tl : TE) : TI := fun σ H R => tl σ H fun x H1 => ∃ a, x = .ref a /\ (((∃ xs, SqL K H1 a xs) /\ R (Itl K a) H1) \/ ((∃ xs, SqT K H1 a xs) /\ R (Itt K a) H1))
theorem xC {X : Cx} {tg : Expr} {l : Expr} {tl : TE} (hl : PE X l tl) : PI X tg l (iLT X.K tl) := by
 intro pins s σ H R I h
 refine thn (hl pins s σ H _ I h) fun v s1 ⟨x, H1, I1, r1, q1⟩ => ?_
 obtain ⟨a, e, q⟩ := q1
 subst e
 cases r1
 have fo : ∀ b ∈ [s1.heap.objs.size], ki X pins H1 b := fun b hb => by
  have e : b = s1.heap.objs.size := by simpa using hb
  subst e
  exact I1.fpOk (Nat.le_refl _) (I1.hok.fresh (Nat.le_refl _))
 rcases q with ⟨⟨xs, hq⟩, q⟩ | ⟨⟨xs, hq⟩, q⟩
 ·obtain ⟨its, rv, p, hz⟩ := I1.list hq
  refine wpAny_pyIter_list p.isList ?_
  exact ⟨s1.heap.objs.size, [s1.heap.objs.size], _, _, H1, rfl, I1.kept (t' := s1.toks) fun b o e => Heap.get?_push_of_some _ e, Qh a _, ⟨_, Heap.get?_push_size _ rfl, rfl, rfl⟩, fo, q⟩
 ·obtain ⟨its, rv, p, hz⟩ := I1.tuple hq
  refine wpAny_pyIter_tuple (show s1.heap.IsTuple a its.toArray from p) ?_
  exact ⟨s1.heap.objs.size, [s1.heap.objs.size], _, _, H1, rfl, I1.kept (t' := s1.toks) fun b o e => Heap.get?_push_of_some _ e, vP a _, ⟨_, Heap.get?_push_size _ rfl, rfl, rfl⟩, fo, q⟩
theorem x9 {n : Nat} {b : List Int} (hb : zo n b) {i : Nat} (hi : i < n) : ∀ k, (pwl n b k).getD i 0 = itn b k (i : Int)
 | 0 => zT n hi
 | k + 1 => by
  show (aft (pwl n b k) b).getD i 0 = nxt b (itn b k (i : Int))
  rw [qu b (by rw [(jM hb k).1]; exact hi), x9 hb hi k]
  rfl
end L2
set_option Elab.async false
set_option linter.all false
set_option maxRecDepth 100000
set_option maxHeartbeats 4000000
namespace L2
open PySem PySem.Spec PyProof.Rows
end L2
set_option Elab.async false
set_option linter.all false
set_option maxRecDepth 100000
set_option maxHeartbeats 4000000
namespace L2
open PySem PySem.Spec PyProof.Rows
section
variable {X : Cx}
end
end L2
set_option Elab.async false
set_option linter.all false
set_option maxRecDepth 100000
set_option maxHeartbeats 4000000
namespace L2
open PySem PySem.Spec PyProof.Rows
section
variable {X : Cx}
end
end L2
set_option Elab.async false
set_option linter.all false
set_option maxRecDepth 100000
set_option maxHeartbeats 4000000
namespace L2
open PySem PySem.Spec PyProof.Rows
theorem Qb {X : Cx} : MtR X "list.extend" kq := ZE
end L2
set_option Elab.async false
set_option linter.all false
set_option maxRecDepth 100000
set_option maxHeartbeats 4000000
namespace L2
open PySem PySem.Spec PyProof.Rows
section
variable {prog : Program} {w : World} {A : Around} {R : Result -> Shared -> Prop} {s : Shared}
end
noncomputable def CL (J : It) (g : TG) (tt : TT) (tr : St -> Hp -> (St -> Hp -> Prop) -> Prop) (N : St -> Hp -> Prop) (σ : St) (H : Hp) : Prop := ∃ W : Nat -> Nat -> St -> Hp -> Prop, (∃ m, W 0 m σ H) /\ ∀ i m τ H2, W i m τ H2 ->
 (J.stop i H2 /\ N τ H2) \/ (J.go i H2 /\ ∃ N1 : St -> Hp -> Prop, (∀ τ' H', N1 τ' H' -> ∃ m', m' < m /\ W (i + 1) m' τ' H') /\ ∀ x H', J.yld i H2 x H' -> g x τ H' fun τ2 H3 => tt τ2 H3 fun b H4 =>
  if b = true then tr τ2 H4 N1 else N1 τ2 H4)
noncomputable abbrev TR := St -> Hp -> (St -> Hp -> Prop) -> Prop
noncomputable def wc (te : TE) (D : Addr) : TR := fun σ H N => te σ H fun v H5 => ∃ ys, H5 D = some (.lst ys) /\ ys.length < sizeLine /\ N σ (upd H5 D (.lst (ys ++ [v])))
noncomputable def Wa (wi : TI) (g : TG) (tt : TT) (tr : Addr -> TR) (D : Addr) : TR := fun σ H N => wi σ H fun J H1 => CL J g tt (tr D) N σ H1
section
variable {C : Cx} {elt tg iter : Expr} {ifs : List Expr} {gens : List Comprehension} {scope : Scope} {pos : Pos} {d : Nat} {D : Addr} {g : TG} {tt : TT} {te : TE} {tr : TR}
end
noncomputable def JI (ts : List Nat) (wi : TI) (g : TG) (tt : TT) (tr : Addr -> TR) : TE := fun σ H Q => wi σ H fun J H1 => ∀ D, H1 D = none -> CL J g tt (tr D) (fun _ H2 => Q (.ref D) H2) (clr ts σ) (upd H1 D (.lst []))
section
variable {X : Cx} {ts : List Nat} {scope : Scope} {tg iter elt : Expr} {ifs : List Expr} {jD : List Comprehension} {wi : TI} {g : TG} {tt : TT} {tr : Addr -> TR} {pos : Pos}
end
theorem Qe {ts : List Nat} {wi : TI} {g : TG} {tt : TT} {tr : Addr -> TR} {σ : St} {H : Hp} {Q : VK} :
  JI ts wi g tt tr σ H Q = wi σ H (fun J H1 => ∀ D, H1 D = none -> CL J g tt (tr D) (fun _ H2 => Q (.ref D) H2) (clr ts σ) (upd H1 D (.lst []))) := rfl
theorem Zt {wi : TI} {g : TG} {tt : TT} {tr : Addr -> TR} {D : Addr} {σ : St} {H : Hp} {N : St -> Hp -> Prop} : Wa wi g tt tr D σ H N = wi σ H (fun J H1 => CL J g tt (tr D) N σ H1) := rfl
theorem ZJ {te : TE} {D : Addr} {σ : St} {H : Hp} {N : St -> Hp -> Prop} : wc te D σ H N = te σ H (fun v H5 => ∃ ys, H5 D = some (.lst ys) /\ ys.length < sizeLine /\ N σ (upd H5 D (.lst (ys ++ [v])))) := rfl
end L2
set_option Elab.async false
set_option linter.all false
set_option maxRecDepth 100000
set_option maxHeartbeats 4000000
namespace L2
open PySem PySem.Spec PyProof.Rows
section
variable {P : Program} {w : World} {A : Around} {E : Value -> Shared -> Prop} {it l : Addr} {items : Array Value}
end
section
variable {X : Cx} {pos : Pos}
end
end L2
set_option Elab.async false
set_option linter.all false
set_option maxRecDepth 100000
set_option maxHeartbeats 4000000
namespace L2
open PySem PySem.Spec PyProof.Rows
noncomputable def rep (o : Nat) (G : List Int) : List Int := (List.range (o * G.length)).map fun (i : Nat) => ((i / G.length * G.length : Nat) : Int) + G.getD (i % G.length) 0
end L2
set_option Elab.async false
set_option linter.all false
set_option maxRecDepth 100000
set_option maxHeartbeats 4000000
namespace L2
open PySem PySem.Spec PyProof.Rows
section
variable {P : Program} {w : World} {A : Around} {E : Value -> Shared -> Prop} {s : Shared} {z TI TO i1 i2 l1 l2 : Addr} {k : Nat} {xs ys : Array Value} {x y a b : Value} {Q : Option Value -> Shared -> Prop}
theorem Z2 (D : ZipApart z TI TO i1 i2 l1 l2) (hz : IsZip s.heap z TI TO .none) (hTI : IsPair s.heap TI (.ref i1) (.ref i2)) (hTO : IsPair s.heap TO a b) (h1 : s.heap.IsTupleIter i1 l1 k) (h2 : s.heap.IsTupleIter i2 l2 k) (p1 : s.heap.IsTuple l1 xs) (p2 : s.heap.IsTuple l2 ys) (hx : xs[k]? = some x) (hy : ys[k]? = some y)
  (hQ : ∀ h', IsZip h' z TI TO (rawInt s.heap.objs.size) -> IsPair h' TO x y -> h'.IsTupleIter i1 l1 (k + 1) -> h'.IsTupleIter i2 l2 (k + 1) -> IsPair h' s.heap.objs.size x y -> h'.objs.size = s.heap.objs.size + 1 -> (∀ c o, c ≠ z -> c ≠ TO -> c ≠ i1 -> c ≠ i2 -> s.heap.get? c = some o -> h'.get? c = some o) -> Q (some (.ref s.heap.objs.size)) { s with heap := h' }) :
  wpAny (model P w) A (pyNext (.ref z)) Q E s := by
 have hT : s.TypeIs (.ref z) "zip" := ⟨_, hz, rfl⟩
 unfold pyNext
 refine wpAny_bind (wpAny_attempt (wpAny_callSpecial?_slot (name := Str.ofString "__next__") hT F.slot_zip_next (wpAny_call_entry F.slot_zip_next hT F.entry_zip_next ?_ (F.args_zip_next_1 _))))
 refine wpAny_bind (m := field (.ref z) 2) (wpAny_field hz rfl (x := .bool false) rfl ?_)
 refine wpAny_bind (m := field (.ref z) 3) (wpAny_field hz rfl (x := .ref TI) rfl ?_)
 refine wpAny_bind (m := seqItems? (.ref TI)) (wpAny_seqItems hTI rfl ?_)
 refine wpAny_bind (m := Builtin.SmallTypes.ownedTupleIsFree (.ref z)) ?_
 unfold Builtin.SmallTypes.ownedTupleIsFree
 refine wpAny_bind (wpAny_field hz rfl (x := .none) rfl (wpAny_pure ?_))
 refine wpAny_bind (m := rule "zip.__next__.owned-tuple-again") (wpAny_rule ?_)
 refine wpAny_bind (m := field (.ref z) 4) (wpAny_field hz rfl (x := .ref TO) rfl ?_)
 refine wpAny_bind (m := setField (.ref z) 0 .ellipsis) (wpAny_setField hz rfl (by simp) ?_)
 have sb1 := Heap.SameBut.update s.heap z (Obj.mapFields fun x_1 => x_1.setIfInBounds 0 Value.ellipsis)
 have g1 : (s.heap.update z (Obj.mapFields fun x_1 => x_1.setIfInBounds 0 Value.ellipsis)).get? z = some { cls := Value.type "zip", data := Data.fields #[.ellipsis, Value.bool false, Value.bool false, Value.ref TI, Value.ref TO] } := Heap.get?_update_self _ hz (Obj.isFreed_of_fields (Obj.data_mapFields rfl _))
 generalize s.heap.update z (Obj.mapFields fun x_1 => x_1.setIfInBounds 0 Value.ellipsis) = h1' at *
 refine wpAny_bind ?_
 rw [show (#[Value.ref i1, Value.ref i2].toList.zipIdx : List (Value × Nat)) = [(.ref i1, 0), (.ref i2, 1)] from rfl, List.forIn_cons]
 dsimp only
 have it1 : h1'.IsTupleIter i1 l1 k := by obtain ⟨o, ho, r⟩ := h1; exact ⟨o, (sb1.2 i1 D.i1z).trans ho, r⟩
 have tp1 : h1'.IsTuple l1 xs := by obtain ⟨o, ho, r⟩ := p1; exact ⟨o, (sb1.2 l1 D.l1z).trans ho, r⟩
 refine wpAny_bind (wpAny_bind (wpAny_onRaise ?_))
 show wpAny _ _ (Builtin.SmallTypes.nextOf (.ref i1) >>= fun v => pure (some v)) _ _ _
 refine wpAny_bind (qS it1 tp1 hx fun h2' it2 sb2 => wpAny_pure ?_)
 dsimp only
 have gTO2 : IsPair h2' TO a b := ((sb2.2 TO D.TOi1).trans (sb1.2 TO D.TOz)).trans hTO
 refine wpAny_bind (wpAny_seqItems gTO2 rfl ?_)
 dsimp only
 refine wpAny_bind (wpAny_updateSeq_pair gTO2 fun h3' g3 sb3 => ?_)
 refine wpAny_bind (wpAny_letGo (wpAny_pure ?_))
 dsimp only
 have g3' : IsPair h3' TO x b := g3
 have it3 : h3'.IsTupleIter i2 l2 k := by obtain ⟨o, ho, r⟩ := h2; exact ⟨o, (((sb3.2 i2 (Ne.symm D.TOi2)).trans (sb2.2 i2 (Ne.symm D.i12))).trans (sb1.2 i2 D.i2z)).trans ho, r⟩
 have tp3 : h3'.IsTuple l2 ys := by obtain ⟨o, ho, r⟩ := p2; exact ⟨o, (((sb3.2 l2 D.l2TO).trans (sb2.2 l2 D.l2i1)).trans (sb1.2 l2 D.l2z)).trans ho, r⟩
 rw [List.forIn_cons]
 refine wpAny_bind (wpAny_bind (wpAny_onRaise ?_))
 show wpAny _ _ (Builtin.SmallTypes.nextOf (.ref i2) >>= fun v => pure (some v)) _ _ _
 refine wpAny_bind (qS it3 tp3 hy fun h4' it4 sb4 => wpAny_pure ?_)
 dsimp only
 have gTO4 : IsPair h4' TO x b := (sb4.2 TO D.TOi2).trans g3'
 refine wpAny_bind (wpAny_seqItems gTO4 rfl ?_)
 dsimp only
 refine wpAny_bind (wpAny_updateSeq_pair gTO4 fun h5' g5 sb5 => ?_)
 refine wpAny_bind (wpAny_letGo (wpAny_pure ?_))
 dsimp only
 have g5' : IsPair h5' TO x y := g5
 rw [List.forIn_nil]
 refine wpAny_pure ?_
 dsimp only
 refine wpAny_bind (wpAny_seqItems g5' rfl ?_)
 dsimp only
 have sz5 : h5'.objs.size = s.heap.objs.size := ((((sb5.1).trans sb4.1).trans sb3.1).trans sb2.1).trans sb1.1
 refine wpAny_bind (wpAny_newTuple ?_ (by show 2 <= sizeLine; decide))
 have gz5 : h5'.get? z = some { cls := Value.type "zip", data := Data.fields #[.ellipsis, Value.bool false, Value.bool false, Value.ref TI, Value.ref TO] } := ((((sb5.2 z (Ne.symm D.TOz)).trans (sb4.2 z (Ne.symm D.i2z))).trans (sb3.2 z (Ne.symm D.TOz))).trans (sb2.2 z (Ne.symm D.i1z))).trans g1
 have zlt : z < h5'.objs.size := Heap.lt_size gz5
 have g6 : (h5'.push { cls := Value.type "tuple", data := Data.seq #[x, y] }).get? z = _ := Heap.get?_push_of_some _ gz5
 have n6 : (h5'.push { cls := Value.type "tuple", data := Data.seq #[x, y] }).get? h5'.objs.size = some { cls := Value.type "tuple", data := Data.seq #[x, y] } := Heap.get?_push_size _ rfl
 have ex6 : ∀ c o, h5'.get? c = some o -> (h5'.push { cls := Value.type "tuple", data := Data.seq #[x, y] }).get? c = some o := fun c o e => Heap.get?_push_of_some _ e
 have sz6 : (h5'.push { cls := Value.type "tuple", data := Data.seq #[x, y] }).objs.size = h5'.objs.size + 1 := Heap.size_push ..
 show wpAny _ _ (Builtin.SmallTypes.ownedTupleHandOut (.ref z) (.ref h5'.objs.size) >>= _) _ _ { s with heap := h5'.push { cls := Value.type "tuple", data := Data.seq #[x, y] } }
 generalize h5'.push { cls := Value.type "tuple", data := Data.seq #[x, y] } = h6' at *
 unfold Builtin.SmallTypes.ownedTupleHandOut
 refine wpAny_bind (wpAny_bind (wpAny_setField g6 rfl (by simp) (wpAny_setField (Heap.get?_update_self _ g6 (Obj.isFreed_of_fields (Obj.data_mapFields rfl _))) rfl (by simp) ?_)))
 have sb7 := Heap.SameBut.update h6' z (Obj.mapFields fun x_1 => x_1.setIfInBounds 0 (rawInt h5'.objs.size))
 have g7 : (h6'.update z (Obj.mapFields fun x_1 => x_1.setIfInBounds 0 (rawInt h5'.objs.size))).get? z = some { cls := Value.type "zip", data := Data.fields #[rawInt h5'.objs.size, Value.bool false, Value.bool false, Value.ref TI, Value.ref TO] } := Heap.get?_update_self _ g6 (Obj.isFreed_of_fields (Obj.data_mapFields rfl _))
 dsimp only
 generalize h6'.update z (Obj.mapFields fun x_1 => x_1.setIfInBounds 0 (rawInt h5'.objs.size)) = h7' at *
 have sb8 := Heap.SameBut.update h7' z (Obj.mapFields fun x_1 => x_1.setIfInBounds 1 (Value.bool false))
 have g8 : (h7'.update z (Obj.mapFields fun x_1 => x_1.setIfInBounds 1 (Value.bool false))).get? z = some { cls := Value.type "zip", data := Data.fields #[rawInt h5'.objs.size, Value.bool false, Value.bool false, Value.ref TI, Value.ref TO] } := Heap.get?_update_self _ g7 (Obj.isFreed_of_fields (Obj.data_mapFields rfl _))
 generalize h7'.update z (Obj.mapFields fun x_1 => x_1.setIfInBounds 1 (Value.bool false)) = h8' at *
 have far : ∀ c o, c ≠ z -> h6'.get? c = some o -> h8'.get? c = some o := fun c o hc e => ((sb8.2 c hc).trans (sb7.2 c hc)).trans e
 refine wpAny_pure ⟨_, rfl, wpAny_pure ?_⟩
 rw [sz5] at g8 n6 sz6 zlt ⊢
 refine hQ h8' g8 (far _ _ D.TOz (ex6 _ _ g5')) ?_ ?_ (far _ _ (Nat.ne_of_gt zlt) n6) (by rw [sb8.1, sb7.1, sz6]) fun c o c1 c2 c3 c4 e => ?_
 ·obtain ⟨o, ho, r⟩ := it2
  exact ⟨o, far _ _ D.i1z (ex6 _ _ (((sb5.2 i1 (Ne.symm D.TOi1)).trans (sb4.2 i1 D.i12)).trans ((sb3.2 i1 (Ne.symm D.TOi1)).trans ho))), r⟩
 ·obtain ⟨o, ho, r⟩ := it4
  exact ⟨o, far _ _ D.i2z (ex6 _ _ ((sb5.2 i2 (Ne.symm D.TOi2)).trans ho)), r⟩
 ·exact far _ _ c1 (ex6 _ _ ((sb5.2 c c2).trans ((sb4.2 c c4).trans ((sb3.2 c c2).trans ((sb2.2 c c3).trans ((sb1.2 c c1).trans e))))))
theorem Kt (hh : A.handled = none) (D : ZipApart z TI TO i1 i2 l1 l2) (hz : IsZip s.heap z TI TO .none) (hTI : IsPair s.heap TI (.ref i1) (.ref i2)) (h1 : s.heap.IsTupleIter i1 l1 k) (p1 : s.heap.IsTuple l1 xs) (hx : xs[k]? = none)
  (hQ : ∀ h', (∀ c o, c ≠ z -> c ≠ TO -> c ≠ i1 -> c ≠ i2 -> s.heap.get? c = some o -> h'.get? c = some o) -> Q none { s with heap := h' }) : wpAny (model P w) A (pyNext (.ref z)) Q E s := by
 have hT : s.TypeIs (.ref z) "zip" := ⟨_, hz, rfl⟩
 unfold pyNext
 refine wpAny_bind (wpAny_attempt (wpAny_callSpecial?_slot (name := Str.ofString "__next__") hT F.slot_zip_next (wpAny_call_entry F.slot_zip_next hT F.entry_zip_next ?_ (F.args_zip_next_1 _))))
 refine wpAny_bind (m := field (.ref z) 2) (wpAny_field hz rfl (x := .bool false) rfl ?_)
 refine wpAny_bind (m := field (.ref z) 3) (wpAny_field hz rfl (x := .ref TI) rfl ?_)
 refine wpAny_bind (m := seqItems? (.ref TI)) (wpAny_seqItems hTI rfl ?_)
 refine wpAny_bind (m := Builtin.SmallTypes.ownedTupleIsFree (.ref z)) ?_
 unfold Builtin.SmallTypes.ownedTupleIsFree
 refine wpAny_bind (wpAny_field hz rfl (x := .none) rfl (wpAny_pure ?_))
 refine wpAny_bind (m := rule "zip.__next__.owned-tuple-again") (wpAny_rule ?_)
 refine wpAny_bind (m := field (.ref z) 4) (wpAny_field hz rfl (x := .ref TO) rfl ?_)
 refine wpAny_bind (m := setField (.ref z) 0 .ellipsis) (wpAny_setField hz rfl (by simp) ?_)
 have sb1 := Heap.SameBut.update s.heap z (Obj.mapFields fun x_1 => x_1.setIfInBounds 0 Value.ellipsis)
 have g1 : (s.heap.update z (Obj.mapFields fun x_1 => x_1.setIfInBounds 0 Value.ellipsis)).get? z = some { cls := Value.type "zip", data := Data.fields #[.ellipsis, Value.bool false, Value.bool false, Value.ref TI, Value.ref TO] } := Heap.get?_update_self _ hz (Obj.isFreed_of_fields (Obj.data_mapFields rfl _))
 generalize s.heap.update z (Obj.mapFields fun x_1 => x_1.setIfInBounds 0 Value.ellipsis) = h1' at *
 refine wpAny_bind ?_
 rw [show (#[Value.ref i1, Value.ref i2].toList.zipIdx : List (Value × Nat)) = [(.ref i1, 0), (.ref i2, 1)] from rfl, List.forIn_cons]
 dsimp only
 have it1 : h1'.IsTupleIter i1 l1 k := by obtain ⟨o, ho, r⟩ := h1; exact ⟨o, (sb1.2 i1 D.i1z).trans ho, r⟩
 have tp1 : h1'.IsTuple l1 xs := by obtain ⟨o, ho, r⟩ := p1; exact ⟨o, (sb1.2 l1 D.l1z).trans ho, r⟩
 refine wpAny_bind (wpAny_bind (wpAny_onRaise ?_))
 show wpAny _ _ (Builtin.SmallTypes.nextOf (.ref i1) >>= fun v => pure (some v)) _ _ _
 refine wpAny_bind (jg (by first | exact hh | (show A.in1.handled = none; exact hh)) it1 tp1 hx fun h2' e ex2 ⟨oe, hoe, hce⟩ => ?_)
 have gz2 : h2'.get? z = some { cls := Value.type "zip", data := Data.fields #[.ellipsis, Value.bool false, Value.bool false, Value.ref TI, Value.ref TO] } := ex2 z _ (Ne.symm D.i1z) g1
 have hez : e ≠ z := by
  intro h
  subst h
  have hoe' : h2'.get? e = some oe := hoe
  rw [gz2] at hoe'
  cases hoe'
  exact absurd (show Value.type "zip" = Value.type "StopIteration" from hce) (by decide)
 refine wpAny_setField gz2 rfl (by simp) ?_
 have sb3 := Heap.SameBut.update h2' z (Obj.mapFields fun x_1 => x_1.setIfInBounds 0 Value.none)
 dsimp only
 generalize h2'.update z (Obj.mapFields fun x_1 => x_1.setIfInBounds 0 Value.none) = h3' at *
 refine wpAny_bind (wpAny_isInstance (T := "StopIteration") (b := true) ⟨oe, (sb3.2 e hez).trans hoe, hce⟩ isSubtype_stop ?_)
 refine wpAny_pure (hQ h3' fun c o c1 c2 c3 c4 ec => ?_)
 exact (sb3.2 c c1).trans (ex2 c o c3 ((sb1.2 c c1).trans ec))
end
open AutoSeq1 (wpAny_loadPart') in
theorem QQ (l1 l2 : Addr) (xs ys : Array Value) (n1 n2 : Nat) (d1 d2 : Option Addr) (s1 s2 : Array (Option Value)) :
  Meets (Builtin.«zip.__new__» ⟨[.type "zip", .ref l1, .ref l2], []⟩) (fun _ R s => s.heap.get? l1 = some { cls := .type "tuple", dict := d1, data := .seq xs n1, slots := s1 } /\ s.heap.get? l2 = some { cls := .type "tuple", dict := d2, data := .seq ys n2, slots := s2 } /\
   ∀ g1 g2 g3 g4 g5, g1 = s.heap.push { cls := .type "tuple_iterator", data := .fields #[.ref l1, .int 0 0] } -> g2 = g1.push { cls := .type "tuple_iterator", data := .fields #[.ref l2, .int 0 0] } -> g3 = g2.push { cls := .type "tuple", data := .seq #[.ref s.heap.objs.size, .ref g1.objs.size] } -> g4 = g3.push { cls := .type "tuple", data := .seq #[.none, .none] } -> g5 = g4.push { cls := .type "zip", data := .fields #[.none, .bool false, .bool false, .ref g2.objs.size, .ref g3.objs.size] } -> R (.ok (.ret (.ref g4.objs.size))) { s with heap := g5 }) :=
 .of_wp fun prog w A R s h => by
  obtain ⟨hp, g, d, tk, os⟩ := s
  obtain ⟨hl1, hl2, h⟩ := h
  have hT1 : Heap.IsTuple (Shared.heap ⟨hp, g, d, tk, os⟩) l1 xs := ⟨_, hl1, rfl, n1, rfl⟩
  have hT2 : Heap.IsTuple (hp.push { cls := .type "tuple_iterator", data := .fields #[.ref l1, .int 0 0] }) l2 ys := ⟨_, Heap.get?_push_of_some _ hl2, rfl, n2, rfl⟩
  have hsub : isSubtype (Value.type "zip") (Value.type "zip") = pure true := by first | exact sub_zip | rfl
  wp_walk using wpAny_loadPart' hl1, wpAny_pyIter_tuple hT1, wpAny_pyIter_tuple hT2
  exact ⟨_, rfl, h _ _ _ _ _ rfl rfl rfl rfl rfl⟩
theorem Zv {P : Program} {w : World} {A : Around} {E : Value -> Shared -> Prop} {s : Shared} {l1 l2 : Addr} {xs ys : Array Value} {Q : Value -> Shared -> Prop} (hT1 : s.heap.IsTuple l1 xs) (hT2 : s.heap.IsTuple l2 ys)
  (h : ∀ h', IsZip h' (s.heap.objs.size + 4) (s.heap.objs.size + 2) (s.heap.objs.size + 3) .none -> IsPair h' (s.heap.objs.size + 2) (.ref s.heap.objs.size) (.ref (s.heap.objs.size + 1)) -> IsPair h' (s.heap.objs.size + 3) .none .none -> h'.IsTupleIter s.heap.objs.size l1 0 -> h'.IsTupleIter (s.heap.objs.size + 1) l2 0 -> (∀ b o, s.heap.get? b = some o -> h'.get? b = some o) -> Q (.ref (s.heap.objs.size + 4)) { s with heap := h' }) :
  wpAny (model P w) A (call (.type "zip") [.ref l1, .ref l2]) Q E s := by
 obtain ⟨⟨c1, d1, dt1, sl1⟩, hl1, hc1, n1, hd1⟩ := hT1
 replace hc1 : c1 = .type "tuple" := hc1
 replace hd1 : dt1 = .seq xs n1 := hd1
 subst hc1 hd1
 obtain ⟨⟨c2, d2, dt2, sl2⟩, hl2, hc2, n2, hd2⟩ := hT2
 replace hc2 : c2 = .type "tuple" := hc2
 replace hd2 : dt2 = .seq ys n2 := hd2
 subst hc2 hd2
 refine callType_new F.called_zip (by decide) (F.typeCall_zip_2 _ _) (F.newCall_zip_2 _ _) (fun obj => F.args_object_init_3 obj _ _) F.entry_zip_new (QQ l1 l2 xs ys n1 n2 d1 d2 sl1 sl2) ⟨hl1, hl2, ?_⟩
 intro g1 g2 g3 g4 g5 e1 e2 e3 e4 e5
 have z1 : g1.objs.size = s.heap.objs.size + 1 := by rw [e1, Heap.size_push]
 have z2 : g2.objs.size = s.heap.objs.size + 2 := by rw [e2, Heap.size_push, z1]
 have z3 : g3.objs.size = s.heap.objs.size + 3 := by rw [e3, Heap.size_push, z2]
 have z4 : g4.objs.size = s.heap.objs.size + 4 := by rw [e4, Heap.size_push, z3]
 have k1 : ∀ b o, s.heap.get? b = some o -> g1.get? b = some o := fun b o x => by rw [e1]; exact Heap.get?_push_of_some _ x
 have k2 : ∀ b o, g1.get? b = some o -> g2.get? b = some o := fun b o x => by rw [e2]; exact Heap.get?_push_of_some _ x
 have k3 : ∀ b o, g2.get? b = some o -> g3.get? b = some o := fun b o x => by rw [e3]; exact Heap.get?_push_of_some _ x
 have k4 : ∀ b o, g3.get? b = some o -> g4.get? b = some o := fun b o x => by rw [e4]; exact Heap.get?_push_of_some _ x
 have k5 : ∀ b o, g4.get? b = some o -> g5.get? b = some o := fun b o x => by rw [e5]; exact Heap.get?_push_of_some _ x
 have p1 : g1.get? s.heap.objs.size = some { cls := .type "tuple_iterator", data := .fields #[.ref l1, .int 0 0] } := by rw [e1]; exact Heap.get?_push_size _ rfl
 have p2 : g2.get? (s.heap.objs.size + 1) = some { cls := .type "tuple_iterator", data := .fields #[.ref l2, .int 0 0] } := by
  have := Heap.get?_push_size g1 (o := { cls := .type "tuple_iterator", data := .fields #[.ref l2, .int 0 0] }) rfl
  rw [z1] at this; rw [e2]; exact this
 have p3 : g3.get? (s.heap.objs.size + 2) = some { cls := .type "tuple", data := .seq #[.ref s.heap.objs.size, .ref (s.heap.objs.size + 1)] } := by
  have := Heap.get?_push_size g2 (o := { cls := .type "tuple", data := .seq #[.ref s.heap.objs.size, .ref g1.objs.size] }) rfl
  rw [z2] at this; rw [e3, this, z1]
 have p4 : g4.get? (s.heap.objs.size + 3) = some { cls := .type "tuple", data := .seq #[.none, .none] } := by
  have := Heap.get?_push_size g3 (o := { cls := .type "tuple", data := .seq #[.none, .none] }) rfl
  rw [z3] at this; rw [e4, this]
 have p5 : g5.get? (s.heap.objs.size + 4) = some { cls := .type "zip", data := .fields #[.none, .bool false, .bool false, .ref (s.heap.objs.size + 2), .ref (s.heap.objs.size + 3)] } := by
  have := Heap.get?_push_size g4 (o := { cls := .type "zip", data := .fields #[.none, .bool false, .bool false, .ref g2.objs.size, .ref g3.objs.size] }) rfl
  rw [z4] at this; rw [e5, this, z2, z3]
 show _ /\ _
 rw [z4]
 exact ⟨⟨_, p5, rfl⟩, h _ p5 (k5 _ _ (k4 _ _ p3)) (k5 _ _ p4) ⟨_, k5 _ _ (k4 _ _ (k3 _ _ (k2 _ _ p1))), rfl, rfl⟩ ⟨_, k5 _ _ (k4 _ _ (k3 _ _ p2)), rfl, rfl⟩ fun b o x => k5 _ _ (k4 _ _ (k3 _ _ (k2 _ _ (k1 _ _ x))))⟩
noncomputable def Vk (K : PySem.W.Frag) (a b : Addr) : It :=
 ⟨fun i H => ∃ xs ys x y, SqT K H a xs /\ SqT K H b ys /\ xs[i]? = some x /\ ys[i]? = some y, fun i H z H' => ∃ p x y, H p = none /\ z = .ref p /\ (∀ xs, SqT K H a xs -> xs[i]? = some x) /\ (∀ ys, SqT K H b ys -> ys[i]? = some y) /\ H' = upd H p (.tup [x, y]),
  fun i H => ∃ xs, SqT K H a xs /\ xs.length <= i⟩
theorem ZR {P : Program} {w : World} {K : PySem.W.Frag} {es : List Expr} {kt : Nat} {tp : Pos} (l1 l2 z TI TO i1 i2 : Addr) (D : ZipApart z TI TO i1 i2 l1 l2) :
  vk P w K (.Tuple es kt tp) (Vk K l1 l2) [z, TI, TO, i1, i2] z (fun i h => IsZip h z TI TO .none /\ IsPair h TI (.ref i1) (.ref i2) /\ (∃ a b, IsPair h TO a b) /\ h.IsTupleIter i1 l1 i /\ h.IsTupleIter i2 l2 i) where
 mem := by simp
 obj := fun i h st b hb => by
  obtain ⟨hz, hTI, ⟨a, c, hTO⟩, ⟨o1, e1, c1, d1⟩, ⟨o2, e2, c2, d2⟩⟩ := st
  simp only [List.mem_cons, List.not_mem_nil, or_false] at hb
  rcases hb with rfl | rfl | rfl | rfl | rfl
  ·exact ⟨_, hz, fun v q => by have q' : Data.fields _ = Data.cell v := q; cases q'⟩
  ·exact ⟨_, hTI, fun v q => by have q' : Data.seq _ _ = Data.cell v := q; cases q'⟩
  ·exact ⟨_, hTO, fun v q => by have q' : Data.seq _ _ = Data.cell v := q; cases q'⟩
  ·exact ⟨o1, e1, fun v q => by rw [d1] at q; cases q⟩
  ·exact ⟨o2, e2, fun v q => by rw [d2] at q; cases q⟩
 keep := fun i h h' st k => by
  obtain ⟨hz, hTI, ⟨a, c, hTO⟩, h1, h2⟩ := st
  exact ⟨k _ (by simp) _ hz, k _ (by simp) _ hTI, ⟨a, c, k _ (by simp) _ hTO⟩, h1.at fun o e => k _ (by simp) o e, h2.at fun o e => k _ (by simp) o e⟩
 item := by
  intro X hP hw hK hc i pins s σ H E I hf st hg
  subst hP hw hK
  obtain ⟨hz, hTI, ⟨a, c, hTO⟩, h1, h2⟩ := st
  obtain ⟨xs, ys, x, y, hq1, hq2, hx, hy⟩ := hg
  obtain ⟨its1, rv1, p1, hz1⟩ := I.tuple hq1
  obtain ⟨its2, rv2, p2, hz2⟩ := I.tuple hq2
  obtain ⟨u, hu, ru⟩ := rv1.get hx
  obtain ⟨v, hv, rvv⟩ := rv2.get hy
  refine Z2 D hz hTI hTO h1 h2 p1 p2 (x := u) (y := v) (by simpa using hu) (by simpa using hv) fun g1 b1 b2 b3 b4 b5 b6 hk => ?_
  refine ⟨.ref s.heap.objs.size, rfl, wpAny_letOwnedTupleGo_zip b1 fun g2 hz2' hs2 => ?_⟩
  replace hs2 : Heap.SameBut z g1 g2 := hs2
  have zlt : z < s.heap.objs.size := Heap.lt_size hz
  have I2 : Inv X pins σ (upd H s.heap.objs.size (.tup [x, y])) { s with heap := g2, toks := s.toks } := by
   refine I.yieldTup (us := [u, v]) hf (fun b o hb e => ?_) (Nat.le_refl _) ((hs2.2 _ (Nat.ne_of_gt zlt)).trans b5) (.cons ru (.cons rvv .nil)) (by show 2 <= sizeLine; decide)
   simp only [List.mem_cons, List.not_mem_nil, or_false, not_or] at hb
   exact (hs2.2 b hb.1).trans (hk b o hb.1 hb.2.2.1 hb.2.2.2.1 hb.2.2.2.2 e)
  refine ⟨.ref s.heap.objs.size, _, I2, rfl, ⟨s.heap.objs.size, x, y, I.hok.fresh (Nat.le_refl _), rfl, fun xs' h' => by rw [I.tuple_inj h' hq1]; exact hx, fun ys' h' => by rw [I.tuple_inj h' hq2]; exact hy, rfl⟩,
   ⟨hz2', (hs2.2 _ D.TIz).trans (hk _ _ D.TIz D.TITO D.TIi1 D.TIi2 hTI), ⟨_, _, (hs2.2 _ D.TOz).trans b2⟩, b3.extBut hs2.extBut D.i1z, b4.extBut hs2.extBut D.i2z⟩, fun b hb => ?_⟩
  have hlt : b < s.heap.objs.size := by
   simp only [List.mem_cons, List.not_mem_nil, or_false] at hb
   rcases hb with rfl | rfl | rfl | rfl | rfl
   ·exact zlt
   ·exact Heap.lt_size hTI
   ·exact Heap.lt_size hTO
   ·obtain ⟨o, e, _⟩ := h1; exact Heap.lt_size e
   ·obtain ⟨o, e, _⟩ := h2; exact Heap.lt_size e
  rw [zh (Nat.ne_of_lt hlt)]
  exact (hf b hb).1
 done := by
  intro X hP hw hK hc i pins s σ H E I hf st hg
  subst hP hw hK
  obtain ⟨hz, hTI, ⟨a, c, hTO⟩, h1, h2⟩ := st
  obtain ⟨xs, hq1, hend⟩ := hg
  obtain ⟨its1, rv1, p1, hz1⟩ := I.tuple hq1
  have l1 := rv1.length
  refine Kt (I.ok.hd hc) D hz hTI h1 p1 (by simp; omega) fun h' hk => ⟨rfl, I.turnedL (tk := s.toks) hf fun b o hb e => ?_⟩
  simp only [List.mem_cons, List.not_mem_nil, or_false, not_or] at hb
  exact hk b o hb.1 hb.2.2.1 hb.2.2.2.1 hb.2.2.2.2 e
 self := fun _ _ _ _ _ st h => wpAny_pyIter_zip st.1 h
section
variable {X : Cx} {es : List Expr} {kt : Nat} {tp : Pos}
noncomputable def wd (K : PySem.W.Frag) (ta : TA) : TI := fun σ H R => ta σ H fun vs H1 => ∃ a b, vs = [.ref a, .ref b] /\ (((∃ xs, SqL K H1 a xs) /\ (∃ ys, SqL K H1 b ys) /\ R (Itz K a b) H1) \/ ((∃ xs, SqT K H1 a xs) /\ (∃ ys, SqT K H1 b ys) /\ R (Vk K a b) H1))
theorem Je {e1 e2 : Expr} {ta : TA} {p pos : Pos} (hg : Gl X "zip") (hm : X.mg "zip" = none) (ha : PA X [e1, e2] ta) (hs : starEach [e1, e2] X.env = [(false, eval e1 X.env), (false, eval e2 X.env)] := by rfl) (hs2 : starEach [e2] X.env = [(false, eval e2 X.env)] := by rfl) :
  PI X (.Tuple es kt tp) (.Call (.Name "zip" p) [e1, e2] [] pos) (wd X.K ta) := by
 intro pins s σ H R I h
 refine Call_ (jF I hg hm ZC (PyProof.Rows.callWith_type1 (thn (ha pos pins s σ H _ I h) fun us s1 ⟨vs, H1, I1, r1, q1⟩ => ?_) (by rw [hs, hs2]) (by rw [hs2]; rfl)))
 obtain ⟨a, b, e, q1⟩ := q1
 subst e
 obtain ⟨u, v, rfl, ru, rv⟩ := y6 r1
 cases ru
 cases rv
 rcases q1 with ⟨⟨xs, hq1⟩, ⟨ys, hq2⟩, q⟩ | ⟨⟨xs, hq1⟩, ⟨ys, hq2⟩, q⟩
 ·obtain ⟨its1, rv1, p1, hz1⟩ := I1.list hq1
  obtain ⟨its2, rv2, p2, hz2⟩ := I1.list hq2
  have la : a < s1.heap.objs.size := by obtain ⟨o, e, _⟩ := p1.isList; exact Heap.lt_size e
  have lb : b < s1.heap.objs.size := by obtain ⟨o, e, _⟩ := p2.isList; exact Heap.lt_size e
  refine call_zip_2 p1.isList p2.isList fun h' b1 b2 b3 b4 b5 hsz hk => wpAny_pyIter_zip b1 ?_
  have I2 : Inv X pins σ H1 { s1 with heap := h' } := I1.kept (t' := s1.toks) hk
  refine ⟨s1.heap.objs.size + 4, [s1.heap.objs.size + 4, s1.heap.objs.size + 2, s1.heap.objs.size + 3, s1.heap.objs.size, s1.heap.objs.size + 1], _, _, H1, rfl, I2, Ku a b _ _ _ _ _ (zipApart_new la lb), ⟨b1, b2, ⟨_, _, b3⟩, b4, b5⟩, fun c hb => ?_, q⟩
  have hb' : s1.heap.objs.size <= c := by
   simp only [List.mem_cons, List.not_mem_nil, or_false] at hb
   rcases hb with rfl | rfl | rfl | rfl | rfl <;> first | exact Nat.le_refl _ | exact Nat.le_add_right _ _
  exact I1.fpOk hb' (I1.hok.fresh hb')
 ·obtain ⟨its1, rv1, p1, hz1⟩ := I1.tuple hq1
  obtain ⟨its2, rv2, p2, hz2⟩ := I1.tuple hq2
  have la : a < s1.heap.objs.size := by obtain ⟨o, e, _⟩ := p1; exact Heap.lt_size e
  have lb : b < s1.heap.objs.size := by obtain ⟨o, e, _⟩ := p2; exact Heap.lt_size e
  refine Zv p1 p2 fun h' b1 b2 b3 b4 b5 hk => wpAny_pyIter_zip b1 ?_
  have I2 : Inv X pins σ H1 { s1 with heap := h' } := I1.kept (t' := s1.toks) hk
  refine ⟨s1.heap.objs.size + 4, [s1.heap.objs.size + 4, s1.heap.objs.size + 2, s1.heap.objs.size + 3, s1.heap.objs.size, s1.heap.objs.size + 1], _, _, H1, rfl, I2, ZR a b _ _ _ _ _ (zipApart_new la lb), ⟨b1, b2, ⟨_, _, b3⟩, b4, b5⟩, fun c hb => ?_, q⟩
  have hb' : s1.heap.objs.size <= c := by
   simp only [List.mem_cons, List.not_mem_nil, or_false] at hb
   rcases hb with rfl | rfl | rfl | rfl | rfl <;> first | exact Nat.le_refl _ | exact Nat.le_add_right _ _
  exact I1.fpOk hb' (I1.hok.fresh hb')
end
end L2
set_option Elab.async false
set_option linter.all false
set_option maxRecDepth 100000
set_option maxHeartbeats 4000000
namespace L2
open PySem PySem.Spec PyProof.Rows
section
variable {X : Cx} {e st : Expr} {te : TE} {lo hi : Option Expr} {tl th ts : TO} {p2 pos : Pos}
end
end L2
set_option Elab.async false
set_option linter.all false
set_option maxRecDepth 100000
set_option maxHeartbeats 4000000
namespace L2
open PySem PySem.Spec PyProof.Rows
theorem jn {α : Type} (p q : α -> Bool) : ∀ (l : List α), (∀ x ∈ l, ¬ (p x = true /\ q x = true)) -> l.countP (fun x => p x || q x) = l.countP p + l.countP q
 | [], _ => rfl
 | x :: l, h => by
  have ih := jn p q l fun y hy => h y (by simp [hy])
  have hx := h x (by simp)
  rw [List.countP_cons, List.countP_cons, List.countP_cons, ih]
  cases hp : p x <;> cases hq : q x
  ·simp
  ·simp; omega
  ·simp; omega
  ·exact absurd ⟨hp, hq⟩ hx
theorem v7 (n y : Nat) (h : y < n) : (List.range n).countP (fun x => decide (x = y)) = 1 := by
 induction n with
 | zero => omega
 | succ n ih =>
  rw [List.range_succ, List.countP_append]
  by_cases e : y = n
  ·subst e
   have : (List.range y).countP (fun x => decide (x = y)) = 0 := by
    rw [List.countP_eq_zero]
    intro x hx
    have : x < y := by simpa using hx
    simp; omega
   rw [this]; simp
  ·rw [ih (by omega)]
   have : ¬ n = y := fun z => e z.symm
   simp [this]
theorem xp (n : Nat) : ∀ (R : List Nat), R.Nodup -> (∀ x ∈ R, x < n) -> (List.range n).countP (fun x => decide (x ∈ R)) = R.length
 | [], _, _ => by simp
 | y :: R, nd, hb => by
  have hy := List.nodup_cons.mp nd
  have e : (fun x => decide (x ∈ y :: R)) = fun x => decide (x = y) || decide (x ∈ R) := by
   funext x
   rw [Bool.eq_iff_iff]
   simp
  rw [e, jn, v7 n y (hb y (by simp)), xp n R hy.2 fun x hx => hb x (by simp [hx]), List.length_cons, Nat.add_comm]
  intro x _ ⟨h1, h2⟩
  have h1' : x = y := by simpa using h1
  subst h1'
  exact hy.1 (by simpa using h2)
theorem wL {n : Nat} {os : List Int} (h : zo n os) {i : Nat} (hi : i < n) : 1 < per os (i : Int) ↔ ¬ os.getD i 0 = (i : Int) := by
 obtain ⟨M, hM, hMn⟩ := j0 h (p := (i : Int)) (by omega) (by omega)
 rw [hM.per]
 have e1 : itn os 1 (i : Int) = os.getD i 0 := by
  show os.getD ((i : Int)).toNat 0 = _
  rw [Int.toNat_natCast]
 constructor
 ·intro z e
  exact hM.2.2 1 (Nat.le_refl _) z (by rw [e1, e])
 ·intro z
  rcases Nat.lt_or_ge 1 M with y | y
  ·exact y
  ·have : M = 1 := by have := hM.1; omega
   rw [this] at hM
   exact absurd (by rw [<- e1, hM.2.1]) z
theorem ZM {n : Nat} {os : List Int} (h : zo n os) {p : Int} (p0 : 0 <= p) (p1 : p < n) {M : Nat} (hM : jf os p M) : (itl os p M).Nodup := by
 rw [List.nodup_iff_pairwise_ne, List.pairwise_iff_getElem]
 intro i j hi hj hij e
 rw [qp] at hi hj
 have e' : itn os i p = itn os j p := by
  have e1 : (itl os p M)[i]'(by rw [qp]; exact hi) = itn os i p := by simp [itl]
  have e2 : (itl os p M)[j]'(by rw [qp]; exact hj) = itn os j p := by simp [itl]
  rw [<- e1, <- e2]; exact e
 have b := qG h p0 p1 (j - i)
 have e2 : itn os (j - i) p = p := by
  refine (yB h p0 p1 b.1 b.2 i ?_).symm
  rw [<- qP, show i + (j - i) = j by omega]
  exact e'
 exact hM.2.2 (j - i) (by omega) (by omega) e2
theorem wj {n : Nat} {os : List Int} (h : zo n os) {i x : Nat} (hi : i < n) (hx : x < n) (hp : 1 < per os (i : Int)) (r : Rch os (i : Int) (x : Int)) : ¬ os.getD x 0 = (x : Int) := by
 intro e
 have r2 := r.symm h (by omega) (by omega)
 obtain ⟨k, hk⟩ := r2
 have hfix : ∀ k, itn os k (x : Int) = (x : Int) := by
  intro k
  induction k with
  | zero => rfl
  | succ k ih =>
   show nxt os (itn os k (x : Int)) = _
   rw [ih]
   show os.getD ((x : Int)).toNat 0 = _
   rw [Int.toNat_natCast, e]
 rw [hfix k] at hk
 have : x = i := by omega
 subst this
 exact (wL h hi).mp hp e
open Classical in
noncomputable def xt (os : List Int) (n i : Nat) : Nat := (List.range n).countP fun (x : Nat) => decide (qF os i (x : Int) /\ ¬ os.getD x 0 = (x : Int))
noncomputable def kS (rs : List (List Int)) : Nat := (rs.map List.length).sum
theorem JB (a b : List (List Int)) : kS (a ++ b) = kS a + kS b := by unfold kS; rw [List.map_append, List.sum_append]
open Classical in
theorem kN {n : Nat} {os : List Int} (h : zo n os) : ∀ i, i <= n -> kS (zC os i) = xt os n i
 | 0, _ => by
  unfold xt
  have : (List.range n).countP (fun (x : Nat) => decide (qF os 0 (x : Int) /\ ¬ os.getD x 0 = (x : Int))) = 0 := by
   rw [List.countP_eq_zero]
   intro x _ hx
   have := (of_decide_eq_true hx).1
   obtain ⟨q, hq, _⟩ := this
   omega
  rw [this]; rfl
 | i + 1, hi => by
  have ih := kN h i (by omega)
  show kS (zC os i ++ _) = _
  rw [JB, ih]
  obtain ⟨M, hM, hMn⟩ := j0 h (p := (i : Int)) (by omega) (by omega)
  by_cases hL : vv os i
  ·have hns := yX.mp hL
   by_cases hp : 1 < per os (i : Int)
   ·rw [if_pos ⟨hL, hp⟩]
    have e : (fun x : Nat => decide (qF os (i + 1) (x : Int) /\ ¬ os.getD x 0 = (x : Int))) = fun x : Nat => decide (qF os i (x : Int) /\ ¬ os.getD x 0 = (x : Int)) || decide (Rch os (i : Int) (x : Int) /\ ¬ os.getD x 0 = (x : Int)) := by
     funext x
     rw [Bool.eq_iff_iff, Bool.or_eq_true, decide_eq_true_eq, decide_eq_true_eq, decide_eq_true_eq, qF.succ]
     constructor
     ·rintro ⟨a | a, b⟩
      ·exact .inl ⟨a, b⟩
      ·exact .inr ⟨a, b⟩
     ·rintro (⟨a, b⟩ | ⟨a, b⟩)
      ·exact ⟨.inl a, b⟩
      ·exact ⟨.inr a, b⟩
    unfold xt
    rw [e, jn]
    ·congr 1
     have e2 : (List.range n).countP (fun x : Nat => decide (Rch os (i : Int) (x : Int) /\ ¬ os.getD x 0 = (x : Int))) = (List.range n).countP (fun x : Nat => decide (x ∈ (itl os (i : Int) M).map Int.toNat)) := by
      refine List.countP_congr fun x hx => ?_
      have hx' : x < n := by simpa using hx
      rw [decide_eq_true_eq, decide_eq_true_eq, List.mem_map]
      constructor
      ·rintro ⟨r, _⟩
       exact ⟨(x : Int), (Rch.mem_ring hM).mp r, by simp⟩
      ·rintro ⟨y, hy, e⟩
       obtain ⟨k, hk, ek⟩ := jK.mp hy
       have b := qG h (p := (i : Int)) (by omega) (by omega) k
       have hyx : y = (x : Int) := by omega
       rw [hyx] at hy
       have r := (Rch.mem_ring hM).mpr hy
       exact ⟨r, wj h (by omega) hx' hp r⟩
     have hnd := ZM h (p := (i : Int)) (by omega) (by omega) hM
     rw [e2, xp]
     ·rw [List.length_map, qp]
      unfold kS qZ
      rw [hM.per]
      simp [qp]
     ·rw [List.nodup_iff_pairwise_ne, List.pairwise_map]
      refine List.Pairwise.imp_of_mem (fun {a b} ha hb hab e => ?_) (List.nodup_iff_pairwise_ne.mp hnd)
      obtain ⟨k1, _, e1⟩ := jK.mp ha
      obtain ⟨k2, _, e2⟩ := jK.mp hb
      have b1 := qG h (p := (i : Int)) (by omega) (by omega) k1
      have b2 := qG h (p := (i : Int)) (by omega) (by omega) k2
      exact hab (by omega)
     ·intro x hx
      obtain ⟨y, hy, e⟩ := List.mem_map.mp hx
      obtain ⟨k, hk, ek⟩ := jK.mp hy
      have b := qG h (p := (i : Int)) (by omega) (by omega) k
      omega
    ·intro x _ ⟨h1, h2⟩
     exact qF.apart h (by omega) hns (of_decide_eq_true h2).1 (of_decide_eq_true h1).1
   ·rw [if_neg (fun z => hp z.2)]
    have e : xt os n (i + 1) = xt os n i := by
     unfold xt
     refine List.countP_congr fun x hx => ?_
     have hx' : x < n := by simpa using hx
     rw [decide_eq_true_eq, decide_eq_true_eq, qF.succ]
     have hfix : os.getD i 0 = (i : Int) := Classical.byContradiction fun z => hp ((wL h (by omega)).mpr z)
     constructor
     ·rintro ⟨a | a, b⟩
      ·exact ⟨a, b⟩
      ·exfalso
       obtain ⟨k, hk⟩ := a
       have hstay : ∀ k, itn os k (i : Int) = (i : Int) := by
        intro k
        induction k with
        | zero => rfl
        | succ k ih =>
         show nxt os (itn os k (i : Int)) = _
         rw [ih]
         show os.getD ((i : Int)).toNat 0 = _
         rw [Int.toNat_natCast, hfix]
       rw [hstay k] at hk
       have : i = x := by omega
       subst this
       exact b hfix
     ·rintro ⟨a, b⟩
      exact ⟨.inl a, b⟩
    rw [e]
    rfl
  ·rw [if_neg (fun z => hL z.1)]
   have hs : qF os i (i : Int) := Classical.byContradiction fun z => hL (yX.mpr z)
   have e : xt os n (i + 1) = xt os n i := by
    unfold xt
    refine List.countP_congr fun x hx => ?_
    rw [decide_eq_true_eq, decide_eq_true_eq, qF.step h (by omega) hs]
   rw [e]
   rfl
open Classical in
theorem QW {n : Nat} {os : List Int} (h : zo n os) : kS (zC os n) = XM os n := by
 rw [kN h n (Nat.le_refl n)]
 unfold xt XM
 rw [List.countP_eq_length_filter]
 congr 1
 refine List.filter_congr fun x hx => ?_
 have hx' : x < n := by simpa using hx
 rw [Bool.eq_iff_iff]
 constructor
 ·intro z
  have := (of_decide_eq_true z).2
  simpa using this
 ·intro z
  have z' : ¬ os.getD x 0 = (x : Int) := by simpa using z
  exact decide_eq_true ⟨⟨x, hx', Rch.refl⟩, z'⟩
end L2
set_option Elab.async false
set_option linter.all false
set_option maxRecDepth 100000
set_option maxHeartbeats 4000000
namespace L2
open PySem PySem.Spec PyProof.Rows
end L2
set_option Elab.async false
set_option linter.all false
set_option maxRecDepth 100000
set_option maxHeartbeats 4000000
namespace L2
open PySem PySem.Spec PyProof.Rows
end L2
set_option Elab.async false
set_option linter.all false
set_option maxRecDepth 100000
set_option maxHeartbeats 4000000
namespace L2
open PySem PySem.Spec PyProof.Rows
section
variable {X : Cx}
variable {o e : Expr} {es : List Expr} {to : TE} {t : TA} {name : Str} {apos cpos : Pos} {T id : String} {r : V -> List V -> Hp -> VK -> Prop} {K : PySem.W.Frag}
end
end L2
set_option Elab.async false
set_option linter.all false
set_option maxRecDepth 100000
set_option maxHeartbeats 4000000
namespace L2
open PySem PySem.Spec PyProof.Rows
section
variable {X : Cx} {tg : Expr}
end
inductive Dd where
 | take (p : Nat) | move (p g : Nat) | lay (g : Nat)
noncomputable abbrev RS := List (Option Int) × Option Int × List Int
noncomputable def inc (mv : List Int) (x : Int) : List Int := mv.set x.toNat (mv.getD x.toNat 0 + 1)
inductive Do : Dd -> RS -> RS -> Prop
 | take {p : Nat} {row : List (Option Int)} {mv : List Int} {x : Int} : row[p]? = some (some x) -> Do (.take p) (row, none, mv) (row.set p none, some x, inc mv x)
 | move {p g : Nat} {row : List (Option Int)} {h : Option Int} {mv : List Int} {x : Int} : row[p]? = some (some x) -> row[g]? = some none -> Do (.move p g) (row, h, mv) ((row.set p none).set g (some x), h, inc mv x)
 | lay {g : Nat} {row : List (Option Int)} {mv : List Int} {x : Int} : row[g]? = some none -> Do (.lay g) (row, some x, mv) (row.set g (some x), none, inc mv x)
inductive Dos : List Dd -> RS -> RS -> Prop
 | nil {s : RS} : Dos [] s s
 | cons {d : Dd} {l : List Dd} {s t u : RS} : Do d s t -> Dos l t u -> Dos (d :: l) s u
end L2
set_option Elab.async false
set_option linter.all false
set_option maxRecDepth 100000
set_option maxHeartbeats 4000000
namespace L2
open PySem PySem.Spec PyProof.Rows
section
variable {X : Cx} {K : PySem.W.Frag}
end
end L2
set_option Elab.async false
set_option linter.all false
set_option maxRecDepth 100000
set_option maxHeartbeats 4000000
namespace L2
open PySem PySem.Spec PyProof.Rows
section
variable {X : Cx}
end
end L2
set_option Elab.async false
set_option linter.all false
set_option maxRecDepth 100000
set_option maxHeartbeats 4000000
namespace L2
open PySem PySem.Spec PyProof.Rows
section
variable {X : Cx}
end
section
variable {X : Cx} {e st : Expr} {te : TE} {ts : TO} {p2 pos : Pos}
end
end L2
set_option Elab.async false
set_option linter.all false
set_option maxRecDepth 100000
set_option maxHeartbeats 4000000
namespace L2
open PySem PySem.Spec PyProof.Rows
section
variable {X : Cx}
end
end L2
set_option Elab.async false
set_option linter.all false
set_option maxRecDepth 100000
set_option maxHeartbeats 4000000
namespace L2
open PySem PySem.Spec PyProof.Rows
noncomputable def AtM (K : PySem.W.Frag) (C : Addr) (m qual : Str) (st : Stmt) : Prop := ∃ f fd, Fun K m qual st f fd /\ W9 K C m f
section
variable {X : Cx} {k : Nat} {C : Addr} {m x : Str} {ps : List Str} {sp : Sp} {p pos apos : Pos} {o e : Expr} {es : List Expr} {t : TA} {to : TE}
end
structure KD (K : PySem.W.Frag) (w : World) (a : Addr) (kvs : List (Key × V)) : Prop where
 ex : ∃ es ep, K.lookup a = some ⟨.type "dict", none, .dict es ep, #[]⟩ /\ ∀ P : Program, PySem.KeysOf (ky P w) es /\ ∃ vs, KV kvs vs /\ Pairs (ky P w) es.toList vs /\ (vs.map (·.1)).Nodup
 ns : (a == sysModules) = false
section
variable {X : Cx} {e : Expr} {ty : TE} {p apos cpos : Pos} {x : Str} {a : Addr} {kvs : List (Key × V)}
end
end L2
set_option Elab.async false
set_option linter.all false
set_option maxRecDepth 100000
set_option maxHeartbeats 4000000
namespace L2
open PySem PySem.Spec PyProof.Rows
section
variable {X : Cx}
end
theorem Aj {K : PySem.W.Frag} {C f : Addr} {m qual : Str} {st : Stmt} {oc kV dc pm cd ct : Value} {od an : Option Addr} {sl : Array (Option Value)} (a1 : PySem.W.findIn K (.ref C) m = some (some (.ref f))) (i1 : PySem.W.isFn K (.ref f) = true)
  (l1 : K.lookup f = some ⟨oc, od, .func (PySem.W.fnOf m qual (qv st) (qc st) (zj st) .none kV dc pm an cd ct), sl⟩) (c1 : PySem.W.codeIn K cd qual = true) (k1 : PySem.W.keepIn K (.ref f) = true) : AtM K C m qual st := ⟨f, _, Q3 l1 c1 k1, ⟨a1, i1, k1⟩⟩
end L2
set_option Elab.async false
set_option linter.all false
set_option maxRecDepth 100000
set_option maxHeartbeats 4000000
namespace L2
open PySem PySem.Spec PyProof.Rows
section
variable {X : Cx}
end
end L2
set_option Elab.async false
set_option linter.all false
set_option maxRecDepth 100000
set_option maxHeartbeats 4000000
namespace L2
open PySem PySem.Spec PyProof.Rows
structure ScG (X : Cx) (ts : List Nat) (scope : Scope) : Prop where
 kind : scope.kind = .function
 cell : ∀ y ∈ scope.names, y.2 = .cell -> scope.names.lookup y.1 = some .cell
 loc : ∀ y ∈ scope.names, y.2 = .local -> scope.names.lookup y.1 = some .local
 free : ∀ y ∈ scope.names, y.2 = .free -> X.env.kindOf y.1 = some .cell \/ X.env.kindOf y.1 = some .free
 ts : ∀ (i : Nat) x, X.N[i]? = some x -> scope.names.lookup x = some .local \/ scope.names.lookup x = some .cell -> i ∈ ts
section
variable {X : Cx} {ts : List Nat} {scope : Scope} {pins : List (Addr × Obj)} {σ : St} {H : Hp} {s : Shared} {fp : List Addr}
end
section
variable {X : Cx} {ts : List Nat} {scope : Scope} {tg iter elt : Expr} {ifs : List Expr} {wi : TI} {g : TG} {tt : TT} {te : TE} {pos : Pos}
end
end L2
set_option Elab.async false
set_option linter.all false
set_option maxRecDepth 100000
set_option maxHeartbeats 4000000
namespace L2
open PySem PySem.Spec PyProof.Rows
section
variable {X : Cx}
end
end L2
set_option Elab.async false
set_option linter.all false
set_option maxRecDepth 100000
set_option maxHeartbeats 4000000
namespace L2
open PySem PySem.Spec PyProof.Rows
inductive Dat where
 | non | bl (b : Bool) | int (i : Int) | str (x : Str) | ty (n : String) | lst (l : List Dat) | tup (l : List Dat) | rng (lo hi c : Int) | scr (K : PySem.W.Frag) (l : List Int)
inductive AV where
 | d (x : Dat) | ref (a : Addr)
inductive MO where
 | lst (l : List AV) | dK (kvs : List (Key × AV)) | ins (C : Addr) (fs : List (Str × AV))
noncomputable abbrev MH := Addr -> Option MO
noncomputable abbrev ASt := List (Option AV)
noncomputable def mup (M : MH) (a : Addr) (o : MO) : MH := fun b => if b = a then some o else M b
theorem zm {M : MH} {a : Addr} {o : MO} : mup M a o a = some o := if_pos rfl
theorem zD {M : MH} {a b : Addr} {o : MO} (h : b ≠ a) : mup M a o b = M b := if_neg h
theorem K4 {M : MH} {a : Addr} {o u : MO} : mup (mup M a o) a u = mup M a u := by
 funext b; unfold mup; split <;> rfl
noncomputable abbrev Own := Addr -> Prop
inductive Rep (H : Hp) (O : Own) : V -> Dat -> Prop
 | non : Rep H O .non .non
 | bl {b : Bool} : Rep H O (.bl b) (.bl b)
 | int {i : Int} : Rep H O (.int i) (.int i)
 | str {x : Str} : Rep H O (.str x) (.str x)
 | ty {n : String} : Rep H O (.ty n) (.ty n)
 | lst {a : Addr} {xs : List V} {l : List Dat} : ¬ O a -> H a = some (.lst xs) -> xs.length = l.length -> (∀ (i : Nat) x d, xs[i]? = some x -> l[i]? = some d -> Rep H O x d) -> Rep H O (.ref a) (.lst l)
 | tup {a : Addr} {xs : List V} {l : List Dat} : ¬ O a -> H a = some (.tup xs) -> xs.length = l.length -> (∀ (i : Nat) x d, xs[i]? = some x -> l[i]? = some d -> Rep H O x d) -> Rep H O (.ref a) (.tup l)
 | rng {a : Addr} {lo hi c : Int} : ¬ O a -> H a = some (vx a lo hi c) -> Rep H O (.ref a) (.rng lo hi c)
 | scr {a : Addr} {K : PySem.W.Frag} {l : List Int} : ¬ O a -> Rd H a (.lst (l.map V.int)) -> Rep H O (.ref a) (.scr K l)
 | scrK {a : Addr} {K : PySem.W.Frag} {l : List Int} : SqL K (fun _ => none) a (l.map V.int) -> Rep H O (.ref a) (.scr K l)
noncomputable def Z8 (H : Hp) (O : Own) (xs : List V) (l : List Dat) : Prop := xs.length = l.length /\ ∀ (i : Nat) x d, xs[i]? = some x -> l[i]? = some d -> Rep H O x d
noncomputable def zl (H : Hp) (O : Own) (M : MH) (v : V) : AV -> Prop
 | .d x => Rep H O v x
 | .ref a => v = .ref a /\ M a ≠ none
noncomputable def ze (H : Hp) (O : Own) (M : MH) (xs : List V) (l : List AV) : Prop := xs.length = l.length /\ ∀ (i : Nat) x d, xs[i]? = some x -> l[i]? = some d -> zl H O M x d
noncomputable def vC {κ : Type} (H : Hp) (O : Own) (M : MH) (xs : List (κ × V)) (l : List (κ × AV)) : Prop := xs.map (·.1) = l.map (·.1) /\ ze H O M (xs.map (·.2)) (l.map (·.2))
noncomputable def qo (H : Hp) (O : Own) (M : MH) (a : Addr) : MO -> Prop
 | .lst l => ∃ xs, H a = some (.lst xs) /\ ze H O M xs l
 | .dK kvs => ∃ xs, H a = some (.dK xs) /\ vC H O M xs kvs
 | .ins C fs => ∃ dx xs, H a = some (.ins C dx xs) /\ vC H O M xs fs /\ O dx /\ M dx = none /\ H dx = some (.own a)
structure Wf (H : Hp) (O : Own) (M : MH) : Prop where
 mo : ∀ a o, M a = some o -> qo H O M a o
 own : ∀ a, M a ≠ none -> O a
 al : ∀ a, O a -> ∃ o, H a = some o /\ ∀ xs, o ≠ .tup xs
theorem Wf.ne {H : Hp} {O : Own} {M : MH} (w : Wf H O M) (a : Addr) (h : O a) : H a ≠ none := by obtain ⟨o, e, _⟩ := w.al a h; rw [e]; exact fun z => nomatch z
structure Ext (H : Hp) (O : Own) (M : MH) (H' : Hp) (O' : Own) (M' : MH) : Prop where
 fix : ∀ a o, ¬ O a -> H a = some o -> H' a = some o /\ ¬ O' a
 prv : ∀ a, O a -> M a = none -> H' a = H a /\ O' a /\ M' a = none
 mst : ∀ a, M a ≠ none -> M' a ≠ none
theorem Ext.refl {H : Hp} {O : Own} {M : MH} : Ext H O M H O M := ⟨fun _ _ h e => ⟨e, h⟩, fun _ h e => ⟨rfl, h, e⟩, fun _ h => h⟩
theorem Ext.trans {H H1 H2 : Hp} {O O1 O2 : Own} {M M1 M2 : MH} (a : Ext H O M H1 O1 M1) (b : Ext H1 O1 M1 H2 O2 M2) : Ext H O M H2 O2 M2 :=
 ⟨fun x o h e => let ⟨e1, h1⟩ := a.fix x o h e; b.fix x o h1 e1, fun x h e => by
  obtain ⟨e1, h1, n1⟩ := a.prv x h e
  obtain ⟨e2, h2, n2⟩ := b.prv x h1 n1
  exact ⟨e2.trans e1, h2, n2⟩, fun x h => b.mst x (a.mst x h)⟩
theorem Rep.imp {H H' : Hp} {O O' : Own} (k : ∀ a o, ¬ O a -> H a = some o -> H' a = some o /\ ¬ O' a) {v : V} {d : Dat} (r : Rep H O v d) : Rep H' O' v d := by
 induction r with
 | non => exact .non
 | bl => exact .bl
 | int => exact .int
 | str => exact .str
 | ty => exact .ty
 | lst h e l _ ih => exact .lst (k _ _ h e).2 (k _ _ h e).1 l ih
 | tup h e l _ ih => exact .tup (k _ _ h e).2 (k _ _ h e).1 l ih
 | rng h e => exact .rng (k _ _ h e).2 (k _ _ h e).1
 | scr h e =>
  rcases e with e | ⟨o, e⟩
  ·exact .scr (k _ _ h e).2 (.inl (k _ _ h e).1)
  ·exact .scr (k _ _ h e).2 (.inr ⟨o, (k _ _ h e).1⟩)
 | scrK h => exact .scrK h
theorem Xo {H : Hp} {O : Own} {K : PySem.W.Frag} {v : V} {l : List Int} (r : Rep H O v (.scr K l)) : ∃ a, v = .ref a /\ SqL K H a (l.map V.int) := by
 cases r with
 | @scr a _ _ _ h => exact ⟨a, rfl, .inl h⟩
 | @scrK a _ _ h =>
  rcases h with (h | ⟨o, h⟩) | h
  ·cases h
  ·cases h
  ·exact ⟨a, rfl, .inr h⟩
theorem K3 {H : Hp} {O : Own} {K : PySem.W.Frag} {a : Addr} {l : List Int} (ho : ∀ a, ¬ O a) (h : SqL K H a (l.map V.int)) : Rep H O (.ref a) (.scr K l) := by
 rcases h with h | h
 ·exact .scr (ho a) h
 ·exact .scrK (.inr h)
theorem Rep.ext {H H' : Hp} {O O' : Own} {M M' : MH} (k : Ext H O M H' O' M') {v : V} {d : Dat} (r : Rep H O v d) : Rep H' O' v d := r.imp k.fix
theorem zl.ext {H H' : Hp} {O O' : Own} {M M' : MH} (k : Ext H O M H' O' M') {v : V} {x : AV} (r : zl H O M v x) : zl H' O' M' v x := by
 cases x with
 | d x => exact Rep.ext k r
 | ref a => exact ⟨r.1, k.mst a r.2⟩
theorem ze.ext {H H' : Hp} {O O' : Own} {M M' : MH} (k : Ext H O M H' O' M') {xs : List V} {l : List AV} (r : ze H O M xs l) : ze H' O' M' xs l := ⟨r.1, fun i x d e1 e2 => (r.2 i x d e1 e2).ext k⟩
theorem vC.ext {κ : Type} {H H' : Hp} {O O' : Own} {M M' : MH} (k : Ext H O M H' O' M') {xs : List (κ × V)} {l : List (κ × AV)} (r : vC H O M xs l) : vC H' O' M' xs l := ⟨r.1, r.2.ext k⟩
theorem ze.nil {H : Hp} {O : Own} {M : MH} : ze H O M [] [] := ⟨rfl, fun i x d e => by simp at e⟩
theorem ze.cons {H : Hp} {O : Own} {M : MH} {x : V} {d : AV} {xs : List V} {l : List AV} (h : zl H O M x d) (r : ze H O M xs l) : ze H O M (x :: xs) (d :: l) :=
 ⟨by simp [r.1], fun i y e h1 h2 => by
  cases i with
  | zero => simp at h1 h2; subst h1 h2; exact h
  | succ i => simp at h1 h2; exact r.2 i y e h1 h2⟩
theorem ze.head {H : Hp} {O : Own} {M : MH} {x : V} {d : AV} {xs : List V} {l : List AV} (r : ze H O M (x :: xs) (d :: l)) : zl H O M x d /\ ze H O M xs l :=
 ⟨r.2 0 x d rfl rfl, by have := r.1; simpa using this, fun i y e h1 h2 => r.2 (i + 1) y e (by simpa using h1) (by simpa using h2)⟩
theorem ze.nil_inv {H : Hp} {O : Own} {M : MH} {xs : List V} (r : ze H O M xs []) : xs = [] := List.length_eq_zero_iff.mp r.1
theorem ze.cons_inv {H : Hp} {O : Own} {M : MH} {xs : List V} {d : AV} {l : List AV} (r : ze H O M xs (d :: l)) : ∃ x r', xs = x :: r' /\ zl H O M x d /\ ze H O M r' l := by
 cases xs with
 | nil => have := r.1; simp at this
 | cons x r' => exact ⟨x, r', rfl, r.head⟩
theorem ze.append {H : Hp} {O : Own} {M : MH} {xs ys : List V} {l m : List AV} (a : ze H O M xs l) (b : ze H O M ys m) : ze H O M (xs ++ ys) (l ++ m) :=
 ⟨by rw [List.length_append, List.length_append, a.1, b.1], fun i x d h1 h2 => by
  by_cases c : i < xs.length
  ·rw [List.getElem?_append_left c] at h1
   rw [List.getElem?_append_left (by rw [<- a.1]; exact c)] at h2
   exact a.2 i x d h1 h2
  ·rw [List.getElem?_append_right (by omega)] at h1
   rw [List.getElem?_append_right (by rw [<- a.1]; omega), <- a.1] at h2
   exact b.2 _ x d h1 h2⟩
theorem ze.snoc {H : Hp} {O : Own} {M : MH} {xs : List V} {l : List AV} {x : V} {d : AV} (a : ze H O M xs l) (b : zl H O M x d) : ze H O M (xs ++ [x]) (l ++ [d]) := a.append (.cons b .nil)
theorem ze.set {H : Hp} {O : Own} {M : MH} {xs : List V} {l : List AV} {x : V} {d : AV} (a : ze H O M xs l) (b : zl H O M x d) (j : Nat) : ze H O M (xs.set j x) (l.set j d) :=
 ⟨by rw [List.length_set, List.length_set, a.1], fun i y e h1 h2 => by
  rw [List.getElem?_set] at h1 h2
  by_cases c : j = i
  ·rw [if_pos c] at h1 h2
   split at h1
   ·split at h2
    ·cases h1; cases h2; exact b
    ·cases h2
   ·cases h1
  ·rw [if_neg c] at h1 h2
   exact a.2 i y e h1 h2⟩
theorem ze.get {H : Hp} {O : Own} {M : MH} {xs : List V} {l : List AV} (a : ze H O M xs l) {i : Nat} {d : AV} (h : l[i]? = some d) : ∃ x, xs[i]? = some x /\ zl H O M x d := by
 have hi := (List.getElem?_eq_some_iff.mp h).1
 have hx : i < xs.length := by rw [a.1]; exact hi
 exact ⟨xs[i], by simp [hx], a.2 i _ _ (by simp [hx]) h⟩
theorem Z8.av {H : Hp} {O : Own} {M : MH} {xs : List V} {l : List Dat} (r : Z8 H O xs l) : ze H O M xs (l.map .d) :=
 ⟨by rw [List.length_map]; exact r.1, fun i x d h1 h2 => by
  rw [List.getElem?_map] at h2
  cases e : l[i]? with
  | none => rw [e] at h2; cases h2
  | some y => rw [e] at h2; cases h2; exact r.2 i x y h1 e⟩
theorem ze.pure {H : Hp} {O : Own} {M : MH} {xs : List V} {l : List Dat} (r : ze H O M xs (l.map .d)) : Z8 H O xs l :=
 ⟨by have := r.1; rwa [List.length_map] at this, fun i x d h1 h2 => r.2 i x (.d d) h1 (by rw [List.getElem?_map, h2]; rfl)⟩
theorem Wf.fresh {H : Hp} {O : Own} {M : MH} (w : Wf H O M) {p : Addr} (h : H p = none) : ¬ O p /\ M p = none := by
 have : ¬ O p := fun z => w.ne p z h
 exact ⟨this, by
  cases e : M p with
  | none => rfl
  | some o => exact absurd (w.own p (by rw [e]; exact fun z => nomatch z)) this⟩
theorem qo.ext {H H' : Hp} {O O' : Own} {M M' : MH} (k : Ext H O M H' O' M') {a : Addr} {o : MO} (e : H' a = H a) (r : qo H O M a o) : qo H' O' M' a o := by
 cases o with
 | lst l => obtain ⟨xs, h, r⟩ := r; exact ⟨xs, e.trans h, r.ext k⟩
 | dK l => obtain ⟨xs, h, r⟩ := r; exact ⟨xs, e.trans h, r.ext k⟩
 | ins C fs => obtain ⟨dx, xs, h, r, q1, q2, q3⟩ := r; obtain ⟨x1, x2, x3⟩ := k.prv dx q1 q2; exact ⟨dx, xs, e.trans h, r.ext k, x2, x3, x1.trans q3⟩
theorem qx {H : Hp} {O : Own} {M : MH} (w : Wf H O M) {p : Addr} (h : H p = none) (o : HO) : Ext H O M (upd H p o) O M :=
 ⟨fun a u ha e => ⟨by rw [zh (zk e h)]; exact e, ha⟩, fun a ha e => ⟨zh (fun z => w.ne a ha (by rw [z]; exact h)), ha, e⟩, fun _ h => h⟩
theorem yC {H : Hp} {O : Own} {M : MH} (w : Wf H O M) {p : Addr} (h : H p = none) (o : HO) : Wf (upd H p o) O M :=
 ⟨fun a mo e => qo.ext (qx w h o) (zh (fun z => by rw [z, (w.fresh h).2] at e; cases e)) (w.mo a mo e), w.own, fun a ha => by
  have : a ≠ p := fun z => w.ne a ha (by rw [z]; exact h)
  rw [zh this]; exact w.al a ha⟩
noncomputable def ZD (O : Own) (p : Addr) : Own := fun a => a = p \/ O a
noncomputable def KF (O : Own) (p : Addr) : Own := fun a => a ≠ p /\ O a
theorem jP {H : Hp} {O : Own} {M : MH} (w : Wf H O M) {p : Addr} (h : M p ≠ none) (o : HO) (mo : MO) : Ext H O M (upd H p o) O (mup M p mo) :=
 ⟨fun a u ha e => ⟨by rw [zh (fun z => ha (by rw [z]; exact w.own p h))]; exact e, ha⟩, fun a ha e => by
  have hne : a ≠ p := fun z => h (by rw [<- z]; exact e)
  exact ⟨zh hne, ha, by rw [zD hne]; exact e⟩, fun a ha => by
  by_cases e : a = p
  ·rw [e, zm]; exact fun z => nomatch z
  ·rw [zD e]; exact ha⟩
theorem Kj {H : Hp} {O : Own} {M : MH} (w : Wf H O M) {p : Addr} (h : M p ≠ none) {o : HO} {mo : MO} (ho : ∀ xs, o ≠ .tup xs) (r : qo (upd H p o) O (mup M p mo) p mo) : Wf (upd H p o) O (mup M p mo) := by
 refine ⟨fun a u e => ?_, fun a ha => ?_, fun a ha => ?_⟩
 ·by_cases c : a = p
  ·subst c; rw [zm] at e; cases e; exact r
  ·rw [zD c] at e
   exact qo.ext (jP w h o mo) (zh c) (w.mo a u e)
 ·by_cases c : a = p
  ·subst c; exact w.own a h
  ·rw [zD c] at ha; exact w.own a ha
 ·by_cases c : a = p
  ·rw [c, zp]; exact ⟨o, rfl, ho⟩
  ·rw [zh c]; exact w.al a ha
theorem qB {H : Hp} {O : Own} {M : MH} (w : Wf H O M) {p : Addr} (h : H p = none) (o : HO) : Ext H O M (upd H p o) (ZD O p) M :=
 ⟨fun a u ha e => ⟨by rw [zh (zk e h)]; exact e, fun z => z.elim (zk e h) ha⟩, fun a ha e => by
  have hne : a ≠ p := fun z => w.ne a ha (by rw [z]; exact h)
  exact ⟨zh hne, .inr ha, e⟩, fun _ h => h⟩
theorem yA {H : Hp} {O : Own} {M : MH} (w : Wf H O M) {p : Addr} (h : H p = none) (o : HO) (ho : ∀ xs, o ≠ .tup xs) : Wf (upd H p o) (ZD O p) M :=
 ⟨fun a mo e => qo.ext (qB w h o) (zh (fun z => by rw [z, (w.fresh h).2] at e; cases e)) (w.mo a mo e), fun a ha => .inr (w.own a ha), fun a ha => by
  by_cases c : a = p
  ·rw [c, zp]; exact ⟨o, rfl, ho⟩
  ·rw [zh c]; exact w.al a (ha.resolve_left c)⟩
theorem kz {H : Hp} {O : Own} {p : Addr} (hO : O p) (o : HO) : ∀ a u, ¬ O a -> H a = some u -> upd H p o a = some u /\ ¬ O a := fun a u ha e => ⟨by rw [zh (fun z => ha (by rw [z]; exact hO))]; exact e, ha⟩
theorem zl.imp {H H' : Hp} {O O' : Own} {M M' : MH} (k : ∀ a o, ¬ O a -> H a = some o -> H' a = some o /\ ¬ O' a) (hm : ∀ a, M a ≠ none -> M' a ≠ none) {v : V} {x : AV} (r : zl H O M v x) : zl H' O' M' v x := by
 cases x with
 | d x => exact Rep.imp k r
 | ref a => exact ⟨r.1, hm a r.2⟩
theorem ze.imp {H H' : Hp} {O O' : Own} {M M' : MH} (k : ∀ a o, ¬ O a -> H a = some o -> H' a = some o /\ ¬ O' a) (hm : ∀ a, M a ≠ none -> M' a ≠ none) {xs : List V} {l : List AV} (r : ze H O M xs l) : ze H' O' M' xs l := ⟨r.1, fun i x d e1 e2 => (r.2 i x d e1 e2).imp k hm⟩
theorem qo.imp {H H' : Hp} {O O' : Own} {M : MH} (k : ∀ a o, ¬ O a -> H a = some o -> H' a = some o /\ ¬ O' a) {a : Addr} {o : MO} (e : H' a = H a) (hd : ∀ dx x, O dx -> M dx = none -> H dx = some (.own x) -> H' dx = some (.own x) /\ O' dx) (r : qo H O M a o) : qo H' O' M a o := by
 cases o with
 | lst l => obtain ⟨xs, h, r⟩ := r; exact ⟨xs, e.trans h, r.imp k fun _ z => z⟩
 | dK l => obtain ⟨xs, h, r⟩ := r; exact ⟨xs, e.trans h, r.1, r.2.imp k fun _ z => z⟩
 | ins C fs => obtain ⟨dx, xs, h, r, q1, q2, q3⟩ := r; exact ⟨dx, xs, e.trans h, ⟨r.1, r.2.imp k fun _ z => z⟩, (hd dx a q1 q2 q3).2, q2, (hd dx a q1 q2 q3).1⟩
theorem wa {H : Hp} {O : Own} {M : MH} (w : Wf H O M) {p : Addr} (hO : O p) (hM : M p = none) {xs : List V} (hp : H p = some (.lst xs)) (o : HO) (ho : ∀ xs, o ≠ .tup xs) : Wf (upd H p o) O M :=
 ⟨fun a mo e => qo.imp (kz hO o) (zh (fun z => by rw [z, hM] at e; cases e)) (fun dx x h1 _ h3 => ⟨by rw [zh (Js h3 hp (fun z => nomatch z))]; exact h3, h1⟩) (w.mo a mo e), w.own, fun a ha => by
  by_cases c : a = p
  ·rw [c, zp]; exact ⟨o, rfl, ho⟩
  ·rw [zh c]; exact w.al a ha⟩
theorem kd {H : Hp} {O : Own} (p : Addr) : ∀ a u, ¬ O a -> H a = some u -> H a = some u /\ ¬ KF O p a := fun a u ha e => ⟨e, fun z => ha z.2⟩
theorem Km {H : Hp} {O : Own} {M : MH} (w : Wf H O M) {p : Addr} (hM : M p = none) {xs : List V} (hp : H p = some (.lst xs)) : Wf H (KF O p) M :=
 ⟨fun a mo e => qo.imp (kd p) rfl (fun dx x h1 _ h3 => ⟨h3, ⟨Js h3 hp (fun z => nomatch z), h1⟩⟩) (w.mo a mo e), fun a ha => ⟨fun z => ha (by rw [z]; exact hM), w.own a ha⟩, fun a ha => w.al a ha.2⟩
end L2
set_option Elab.async false
set_option linter.all false
set_option maxRecDepth 100000
set_option maxHeartbeats 4000000
namespace L2
open PySem PySem.Spec PyProof.Rows
noncomputable abbrev AK := AV -> MH -> Prop
noncomputable abbrev AE := ASt -> MH -> AK -> Prop
noncomputable abbrev AT := ASt -> MH -> (Bool -> MH -> Prop) -> Prop
noncomputable abbrev AA := ASt -> MH -> (List AV -> MH -> Prop) -> Prop
structure kI where
 nx : ASt -> MH -> Prop
 rt : AK
 bk : ASt -> MH -> Prop := fun _ _ => False
 ct : ASt -> MH -> Prop := fun _ _ => False
noncomputable abbrev AS := MH -> kI -> ASt -> MH -> Prop
noncomputable abbrev AG := AV -> ASt -> MH -> (ASt -> MH -> Prop) -> Prop
noncomputable abbrev AGs := List AV -> ASt -> MH -> (ASt -> MH -> Prop) -> Prop
noncomputable abbrev AI := ASt -> MH -> (List AV -> (MH -> Prop) -> MH -> Prop) -> Prop
structure Er (H : Hp) (O : Own) (M : MH) (σ : St) (ρ : ASt) : Prop where
 len : σ.length = ρ.length
 get : ∀ (i : Nat) x, ρ[i]? = some (some x) -> ∃ v, σ[i]? = some (some v) /\ zl H O M v x
theorem Er.ext {H H' : Hp} {O O' : Own} {M M' : MH} {σ : St} {ρ : ASt} (e : Er H O M σ ρ) (k : Ext H O M H' O' M') : Er H' O' M' σ ρ := ⟨e.len, fun i x h => let ⟨v, h1, h2⟩ := e.get i x h; ⟨v, h1, h2.ext k⟩⟩
theorem Er.set {H : Hp} {O : Own} {M : MH} {σ : St} {ρ : ASt} (e : Er H O M σ ρ) {v : V} {x : AV} (r : zl H O M v x) (j : Nat) : Er H O M (σ.set j (some v)) (ρ.set j (some x)) :=
 ⟨by rw [List.length_set, List.length_set, e.len], fun i y h => by
  rw [List.getElem?_set] at h ⊢
  by_cases c : j = i
  ·rw [if_pos c] at h ⊢
   by_cases c2 : j < ρ.length
   ·rw [if_pos c2] at h; rw [if_pos (by rw [e.len]; exact c2)]; cases h; exact ⟨v, rfl, r⟩
   ·rw [if_neg c2] at h; cases h
  ·rw [if_neg c] at h ⊢; exact e.get i y h⟩
noncomputable def XW : List Nat -> ASt -> ASt
 | [], σ => σ
 | j :: r, σ => XW r (σ.set j none)
theorem Er.clr {H : Hp} {O : Own} {M : MH} : ∀ (ts : List Nat) {σ : St} {ρ : ASt}, Er H O M σ ρ -> Er H O M (clr ts σ) (XW ts ρ)
  | [], _, _, e => e
  | j :: r, σ, ρ, e => Er.clr r ⟨by rw [List.length_set, List.length_set, e.len], fun i y h => by
      rw [List.getElem?_set] at h ⊢
      by_cases c : j = i
      · rw [if_pos c] at h
        split at h <;> cases h
      · rw [if_neg c] at h ⊢; exact e.get i y h⟩
structure zH (t : TE) (a : AE) : Prop where
 go : ∀ {σ : St} {H : Hp} {O : Own} {ρ : ASt} {M : MH} {Q : VK} {Q' : AK}, Wf H O M -> Er H O M σ ρ -> a ρ M Q' -> (∀ x M' v H' O', Q' x M' -> Ext H O M H' O' M' -> Wf H' O' M' -> zl H' O' M' v x -> Q v H') -> t σ H Q
structure jh (t : TT) (a : AT) : Prop where
 go : ∀ {σ : St} {H : Hp} {O : Own} {ρ : ASt} {M : MH} {Q : Bool -> Hp -> Prop} {Q' : Bool -> MH -> Prop}, Wf H O M -> Er H O M σ ρ -> a ρ M Q' -> (∀ b M' H' O', Q' b M' -> Ext H O M H' O' M' -> Wf H' O' M' -> Q b H') -> t σ H Q
structure ja (t : TA) (a : AA) : Prop where
 go : ∀ {σ : St} {H : Hp} {O : Own} {ρ : ASt} {M : MH} {Q : List V -> Hp -> Prop} {Q' : List AV -> MH -> Prop}, Wf H O M -> Er H O M σ ρ -> a ρ M Q' -> (∀ x M' v H' O', Q' x M' -> Ext H O M H' O' M' -> Wf H' O' M' -> ze H' O' M' v x -> Q v H') -> t σ H Q
structure wr (t : TE) (a : ASt -> MH -> (List AV -> MH -> Prop) -> Prop) : Prop where
 go : ∀ {σ : St} {H : Hp} {O : Own} {ρ : ASt} {M : MH} {Q : VK} {Q' : List AV -> MH -> Prop}, Wf H O M -> Er H O M σ ρ -> a ρ M Q' ->
  (∀ l M' p xs H' O', Q' l M' -> Ext H O M H' O' M' -> Wf H' O' M' -> O' p -> M' p = none -> H p = none -> H' p = some (.lst xs) -> ze H' O' M' xs l -> Q (.ref p) H') -> t σ H Q
noncomputable abbrev AR2 := AV -> AV -> MH -> AK -> Prop
structure v8 (r : R2) (a : AR2) : Prop where
 go : ∀ {x y : V} {dx dy : AV} {H : Hp} {O : Own} {M : MH} {Q : VK} {Q' : AK}, Wf H O M -> zl H O M x dx -> zl H O M y dy -> a dx dy M Q' -> (∀ x M' v H' O', Q' x M' -> Ext H O M H' O' M' -> Wf H' O' M' -> zl H' O' M' v x -> Q v H') -> r x y H Q
structure Al (r : V -> Hp -> VK -> Prop) (a : AV -> MH -> AK -> Prop) : Prop where
 go : ∀ {x : V} {dx : AV} {H : Hp} {O : Own} {M : MH} {Q : VK} {Q' : AK}, Wf H O M -> zl H O M x dx -> a dx M Q' -> (∀ x M' v H' O', Q' x M' -> Ext H O M H' O' M' -> Wf H' O' M' -> zl H' O' M' v x -> Q v H') -> r x H Q
structure vO (r : List V -> Hp -> VK -> Prop) (a : List AV -> MH -> AK -> Prop) : Prop where
 go : ∀ {vs : List V} {xs : List AV} {H : Hp} {O : Own} {M : MH} {Q : VK} {Q' : AK}, Wf H O M -> ze H O M vs xs -> a xs M Q' -> (∀ x M' v H' O', Q' x M' -> Ext H O M H' O' M' -> Wf H' O' M' -> zl H' O' M' v x -> Q v H') -> r vs H Q
noncomputable def XF (i : Nat) : AE := fun ρ M Q => ∃ x, ρ[i]? = some (some x) /\ Q x M
noncomputable def aC (d : Dat) : AE := fun _ M Q => Q (.d d) M
theorem XQ {i : Nat} : zH (XD i) (XF i) := ⟨fun w e ⟨x, h, q⟩ k => let ⟨v, h1, h2⟩ := e.get i x h; ⟨v, h1, k _ _ _ _ _ q .refl w h2⟩⟩
theorem V3 {i : Int} : zH (tC (.int i)) (aC (.int i)) := ⟨fun w _ q k => k _ _ _ _ _ q .refl w .int⟩
theorem V4 {i : Bool} : zH (tC (.bl i)) (aC (.bl i)) := ⟨fun w _ q k => k _ _ _ _ _ q .refl w .bl⟩
theorem Vn : zH (tC .non) (aC .non) := ⟨fun w _ q k => k _ _ _ _ _ q .refl w .non⟩
theorem VQ {i : String} : zH (tC (.ty i)) (aC (.ty i)) := ⟨fun w _ q k => k _ _ _ _ _ q .refl w .ty⟩
noncomputable def aOp (r : AR2) (a b : AE) : AE := fun ρ M Q => a ρ M fun x M1 => b ρ M1 fun y M2 => r x y M2 Q
theorem YZ {r : R2} {ra : AR2} {t u : TE} {a b : AE} (hr : v8 r ra) (h1 : zH t a) (h2 : zH u b) : zH (tOp r t u) (aOp ra a b) :=
 ⟨fun w e q k => h1.go w e q fun x M1 v H1 O1 q1 k1 w1 r1 => h2.go w1 (e.ext k1) q1 fun y M2 u H2 O2 q2 k2 w2 r2 => hr.go w2 (r1.ext k2) r2 q2 fun z M3 v3 H3 O3 q3 k3 w3 r3 => k z M3 v3 H3 O3 q3 ((k1.trans k2).trans k3) w3 r3⟩
noncomputable def YG : AA := fun _ M Q => Q [] M
noncomputable def Zn (a : AE) (b : AA) : AA := fun ρ M Q => a ρ M fun x M1 => b ρ M1 fun xs M2 => Q (x :: xs) M2
theorem XJ : ja Vc YG := ⟨fun w _ q k => k _ _ _ _ _ q .refl w .nil⟩
theorem JJ {t : TE} {u : TA} {a : AE} {b : AA} (h1 : zH t a) (h2 : ja u b) : ja (JZ t u) (Zn a b) :=
 ⟨fun w e q k => h1.go w e q fun x M1 v H1 O1 q1 k1 w1 r1 => h2.go w1 (e.ext k1) q1 fun y M2 u H2 O2 q2 k2 w2 r2 => k _ _ _ _ _ q2 (k1.trans k2) w2 (.cons (r1.ext k2) r2)⟩
noncomputable def X7 (is : List Int) : AA := fun _ M Q => Q (is.map fun i => .d (.int i)) M
theorem yd {H : Hp} {O : Own} {M : MH} (is : List Int) : ze H O M (is.map V.int) (is.map fun i => .d (.int i)) := by
 induction is with
 | nil => exact .nil
 | cons i r ih => exact .cons .int ih
theorem JL {is : List Int} : ja (Jx is) (X7 is) := ⟨fun w _ q k => k _ _ _ _ _ q .refl w (yd is)⟩
noncomputable def aCB (r : List AV -> MH -> AK -> Prop) (b : AA) : AE := fun ρ M Q => b ρ M fun xs M1 => r xs M1 Q
theorem YK {r : List V -> Hp -> VK -> Prop} {ra : List AV -> MH -> AK -> Prop} {u : TA} {b : AA} (hr : vO r ra) (h2 : ja u b) : zH (tCB r u) (aCB ra b) :=
 ⟨fun w e q k => h2.go w e q fun x M1 v H1 O1 q1 k1 w1 r1 => hr.go w1 r1 q1 fun z M3 v3 H3 O3 q3 k3 w3 r3 => k z M3 v3 H3 O3 q3 (k1.trans k3) w3 r3⟩
noncomputable abbrev ASp := List AV -> MH -> AK -> Prop
noncomputable def cSp (a : ASp) : Sp := fun vs H Q _ => ∃ xs M O Q', Wf H O M /\ ze H O M vs xs /\ a xs M Q' /\ ∀ x M' v H' O', Q' x M' -> Ext H O M H' O' M' -> Wf H' O' M' -> zl H' O' M' v x -> Q v H'
noncomputable def Ql (sp : ASp) (b : AA) : AE := fun ρ M Q => b ρ M fun xs M1 => sp xs M1 Q
theorem Qu {sp : ASp} {u : TA} {b : AA} (h : ja u b) : zH (Zp (cSp sp) [] E0 u) (Ql sp b) :=
 ⟨fun w e q k => h.go w e q fun x M1 v H1 O1 q1 k1 w1 r1 => ⟨x, M1, O1, _, w1, by rw [List.append_nil]; exact r1, q1, fun z M3 v3 H3 O3 q3 k3 w3 r3 => k z M3 v3 H3 O3 q3 (k1.trans k3) w3 r3⟩⟩
noncomputable def pur : List AV -> Option (List Dat)
 | [] => some []
 | .d x :: r => match pur r with | some l => some (x :: l) | none => none
 | .ref _ :: _ => none
theorem XO : pur [] = some [] := rfl
theorem Qz {x : Dat} {r : List AV} {l : List Dat} (h : pur r = some l) : pur (.d x :: r) = some (x :: l) := by unfold pur; rw [h]
theorem qW (l : List Dat) : pur (l.map .d) = some l := by
 induction l with
 | nil => rfl
 | cons x r ih => exact Qz ih
theorem jo : ∀ {xs : List AV} {l : List Dat}, pur xs = some l -> xs = l.map .d
 | [], l, h => by cases h; rfl
 | .d x :: r, l, h => by
  unfold pur at h
  cases e : pur r with
  | none => rw [e] at h; cases h
  | some m => rw [e] at h; cases h; rw [jo e]; rfl
 | .ref _ :: _, _, h => by cases h
theorem Ext.shown {H H' : Hp} {O O' : Own} {M M' : MH} {p : Addr} (w : Wf H O M) (k : Ext H O M H' O' M') (h : H p = none) : Ext H O M H' (KF O' p) M' :=
 ⟨fun a o ha e => ⟨(k.fix a o ha e).1, fun z => (k.fix a o ha e).2 z.2⟩, fun a ha e => ⟨(k.prv a ha e).1, ⟨fun z => w.ne a ha (by rw [z]; exact h), (k.prv a ha e).2.1⟩, (k.prv a ha e).2.2⟩, k.mst⟩
theorem Ext.owned {H H' : Hp} {O O' : Own} {M M' : MH} {p : Addr} (w : Wf H O M) (k : Ext H O M H' O' M') (h : H p = none) (mo : MO) : Ext H O M H' O' (mup M' p mo) :=
 ⟨k.fix, fun a ha e => ⟨(k.prv a ha e).1, (k.prv a ha e).2.1, by rw [zD (fun z => w.ne a ha (by rw [z]; exact h))]; exact (k.prv a ha e).2.2⟩, fun a ha => by
  by_cases e : a = p
  ·rw [e, zm]; exact fun z => nomatch z
  ·rw [zD e]; exact k.mst a ha⟩
theorem vo {H : Hp} {O : Own} {M : MH} {p : Addr} (w : Wf H O M) (hO : O p) (hM : M p = none) {xs : List V} {l : List AV} (hp : H p = some (.lst xs)) (r : ze H O M xs l) : Wf H O (mup M p (.lst l)) := by
 have km : ∀ a, M a ≠ none -> mup M p (.lst l) a ≠ none := fun a ha => by
  by_cases e : a = p
  ·rw [e, zm]; exact fun z => nomatch z
  ·rw [zD e]; exact ha
 refine ⟨fun a u e => ?_, fun a ha => ?_, w.al⟩
 ·by_cases c : a = p
  ·subst c; rw [zm] at e; cases e; exact ⟨xs, hp, r.imp (fun _ _ z h => ⟨h, z⟩) km⟩
  ·rw [zD c] at e
   have := w.mo a u e
   cases u with
   | lst m => obtain ⟨ys, h1, h2⟩ := this; exact ⟨ys, h1, h2.imp (fun _ _ z h => ⟨h, z⟩) km⟩
   | dK m => obtain ⟨ys, h1, h2⟩ := this; exact ⟨ys, h1, h2.1, h2.2.imp (fun _ _ z h => ⟨h, z⟩) km⟩
   | ins C fs =>
    obtain ⟨dx, ys, h1, h2, h3, h4, h5⟩ := this
    exact ⟨dx, ys, h1, ⟨h2.1, h2.2.imp (fun _ _ z h => ⟨h, z⟩) km⟩, h3, by rw [zD (Js h5 hp (fun z => nomatch z))]; exact h4, h5⟩
 ·by_cases c : a = p
  ·rw [c]; exact hO
  ·rw [zD c] at ha; exact w.own a ha
noncomputable abbrev AF := ASt -> MH -> (List AV -> MH -> Prop) -> Prop
noncomputable def aFz (a : AF) : AE := fun ρ M Q => a ρ M fun l M' => ∃ ds, pur l = some ds /\ Q (.d (.lst ds)) M'
noncomputable def aOw (a : AF) : AE := fun ρ M Q => a ρ M fun l M' => ∀ p, M p = none -> M' p = none -> Q (.ref p) (mup M' p (.lst l))
noncomputable def Ww (t : TE) : TE := t
theorem yE {X : Cx} {e : Expr} {t : TE} (h : PE X e t) : PE X e (Ww t) := h
theorem jS {t : TE} {a : AF} (h : wr t a) : zH t (aFz a) :=
 ⟨fun w e q k => h.go w e q fun l M' p xs H' O' q1 k1 w1 o1 m1 hp hx r1 => by
  obtain ⟨ds, e1, q2⟩ := q1
  rw [jo e1] at r1
  have r2 := r1.pure
  exact k _ _ _ _ _ q2 (k1.shown w hp) (Km w1 m1 hx) (Rep.lst (fun z => z.1 rfl) hx r2.1 fun i x d e1 e2 => (r2.2 i x d e1 e2).imp (kd p))⟩
theorem XE {t : TE} {a : AF} (h : wr t a) : zH (Ww t) (aOw a) :=
 ⟨fun w e q k => h.go w e q fun l M' p xs H' O' q1 k1 w1 o1 m1 hp hx r1 => k _ _ _ _ _ (q1 p (w.fresh hp).2 m1) (k1.owned w hp _) (vo w1 o1 m1 hx r1) ⟨rfl, by rw [zm]; exact fun z => nomatch z⟩⟩
noncomputable def WD (b : AA) : AF := fun ρ M Q => b ρ M fun xs M1 => xs.length <= sizeLine /\ Q xs M1
theorem Jp {u : TA} {b : AA} (h : ja u b) : wr (VG u) (WD b) :=
 ⟨fun w e q k => h.go w e q fun x M1 v H1 O1 q1 k1 w1 r1 => ⟨by rw [r1.1]; exact q1.1, fun p hp =>
  k x M1 p v _ _ q1.2 (k1.trans (qB w1 hp _)) (yA w1 hp _ (fun _ z => nomatch z)) (.inl rfl) (w1.fresh hp).2 (by
   cases e0 : (_ : Hp) p with
   | none => exact e0
   | some o =>
    exfalso
    rename_i H0 O0 _ M0 _ _
    by_cases c : O0 p
    ·by_cases c2 : M0 p = none
     ·exact w1.ne p (k1.prv p c c2).2.1 hp
     ·exact w1.ne p (w1.own p (k1.mst p c2)) hp
    ·rw [(k1.fix p o c e0).1] at hp; cases hp) zp (r1.ext (qB w1 hp _))⟩⟩
noncomputable def WN (b : AA) : AE := fun ρ M Q => b ρ M fun xs M1 => xs.length <= sizeLine /\ ∃ ds, pur xs = some ds /\ Q (.d (.tup ds)) M1
theorem KR {u : TA} {b : AA} (h : ja u b) : zH (Yj u) (WN b) :=
 ⟨fun w e q k => h.go w e q fun x M1 v H1 O1 q1 k1 w1 r1 => ⟨by rw [r1.1]; exact q1.1, fun p hp => by
  obtain ⟨_, ds, e1, q2⟩ := q1
  rw [jo e1] at r1
  have r2 := r1.pure
  exact k _ _ _ _ _ q2 (k1.trans (qx w1 hp _)) (yC w1 hp _) (Rep.tup (w1.fresh hp).1 zp r2.1 fun i x d e1 e2 => (r2.2 i x d e1 e2).ext (qx w1 hp _))⟩⟩
noncomputable def aB (a : AE) : AT := fun ρ M Q => a ρ M fun x M1 => ∃ b, x = .d (.bl b) /\ Q b M1
theorem kc {H : Hp} {O : Own} {v : V} {b : Bool} (r : Rep H O v (.bl b)) : v = .bl b := by cases r; rfl
theorem zA {H : Hp} {O : Own} {v : V} {b : Int} (r : Rep H O v (.int b)) : v = .int b := by cases r; rfl
theorem QY {H : Hp} {O : Own} {v : V} {b : String} (r : Rep H O v (.ty b)) : v = .ty b := by cases r; rfl
theorem Kz {H : Hp} {O : Own} {v : V} (r : Rep H O v .non) : v = .non := by cases r; rfl
theorem WU {t : TE} {a : AE} (h : zH t a) : jh (tB t) (aB a) := ⟨fun w e q k => h.go w e q fun x M1 v H1 O1 ⟨b, e1, q1⟩ k1 w1 r1 => by
 subst e1; exact ⟨b, kc r1, k _ _ _ _ q1 k1 w1⟩⟩
theorem Kx {t : TE} {a : AE} (h : zH t a) : jh (QD t) (aB a) := ⟨fun w e q k => h.go w e q fun x M1 v H1 O1 ⟨b, e1, q1⟩ k1 w1 r1 => by
 subst e1; exact ⟨b, kc r1, k _ _ _ _ q1 k1 w1⟩⟩
noncomputable def wB : AT := fun _ M Q => Q true M
theorem Jk : jh JS wB := ⟨fun w _ q k => k _ _ _ _ q .refl w⟩
noncomputable def W3 (a b : AT) : AT := fun ρ M Q => a ρ M fun c M1 => if c = true then b ρ M1 Q else Q false M1
noncomputable def aOr (a b : AT) : AT := fun ρ M Q => a ρ M fun c M1 => if c = true then Q true M1 else b ρ M1 Q
noncomputable def Wx (a : AT) : AT := fun ρ M Q => a ρ M fun c M1 => Q (!c) M1
theorem K9 {t u : TT} {a b : AT} (h1 : jh t a) (h2 : jh u b) : jh (Ve t u) (W3 a b) := ⟨fun w e q k => h1.go w e q fun c M1 H1 O1 q1 k1 w1 => by
 cases c with
 | true => exact h2.go w1 (e.ext k1) q1 fun c M2 H2 O2 q2 k2 w2 => k _ _ _ _ q2 (k1.trans k2) w2
 | false => exact k _ _ _ _ q1 k1 w1⟩
theorem YT {t u : TT} {a b : AT} (h1 : jh t a) (h2 : jh u b) : jh (tOr t u) (aOr a b) := ⟨fun w e q k => h1.go w e q fun c M1 H1 O1 q1 k1 w1 => by
 cases c with
 | false => exact h2.go w1 (e.ext k1) q1 fun c M2 H2 O2 q2 k2 w2 => k _ _ _ _ q2 (k1.trans k2) w2
 | true => exact k _ _ _ _ q1 k1 w1⟩
theorem Xt {t : TT} {a : AT} (h1 : jh t a) : jh (Y5 t) (Wx a) := ⟨fun w e q k => h1.go w e q fun c M1 H1 O1 q1 k1 w1 => k _ _ _ _ q1 k1 w1⟩
noncomputable def X5 (a b : AE) : AE := fun ρ M Q => a ρ M fun x M1 => ∃ c, x = .d (.bl c) /\ if c = true then b ρ M1 Q else Q (.d (.bl false)) M1
theorem Q8 {t u : TE} {a b : AE} (h1 : zH t a) (h2 : zH u b) : zH (JF t u) (X5 a b) := ⟨fun w e q k => h1.go w e q fun x M1 v H1 O1 ⟨c, e1, q1⟩ k1 w1 r1 => by
 subst e1
 refine ⟨c, kc r1, ?_⟩
 cases c with
 | true => exact h2.go w1 (e.ext k1) q1 fun c M2 v2 H2 O2 q2 k2 w2 r2 => k _ _ _ _ _ q2 (k1.trans k2) w2 r2
 | false => exact k _ _ _ _ _ q1 k1 w1 .bl⟩
noncomputable def aIf (c : AT) (a b : AE) : AE := fun ρ M Q => c ρ M fun c M1 => if c = true then a ρ M1 Q else b ρ M1 Q
theorem VA {c : TT} {t u : TE} {ac : AT} {a b : AE} (hc : jh c ac) (h1 : zH t a) (h2 : zH u b) : zH (tIf c t u) (aIf ac a b) := ⟨fun w e q k => hc.go w e q fun c M1 H1 O1 q1 k1 w1 => by
 cases c with
 | true => exact h1.go w1 (e.ext k1) q1 fun c M2 v2 H2 O2 q2 k2 w2 r2 => k _ _ _ _ _ q2 (k1.trans k2) w2 r2
 | false => exact h2.go w1 (e.ext k1) q1 fun c M2 v2 H2 O2 q2 k2 w2 r2 => k _ _ _ _ _ q2 (k1.trans k2) w2 r2⟩
end L2
set_option Elab.async false
set_option linter.all false
set_option maxRecDepth 100000
set_option maxHeartbeats 4000000
namespace L2
open PySem PySem.Spec PyProof.Rows
structure ED (H0 : Hp) (O0 : Own) (M0 : MH) (D : ko) (D' : kI) : Prop where
 nx : ∀ σ H O ρ M, Wf H O M -> Er H O M σ ρ -> Ext H0 O0 M0 H O M -> D'.nx ρ M -> D.nx σ H
 rt : ∀ v x H O M, Wf H O M -> Ext H0 O0 M0 H O M -> zl H O M v x -> D'.rt x M -> D.rt v H
 bk : ∀ σ H O ρ M, Wf H O M -> Er H O M σ ρ -> Ext H0 O0 M0 H O M -> D'.bk ρ M -> D.bk σ H
 ct : ∀ σ H O ρ M, Wf H O M -> Er H O M σ ρ -> Ext H0 O0 M0 H O M -> D'.ct ρ M -> D.ct σ H
theorem ED.tr {H0 H1 : Hp} {O0 O1 : Own} {M0 M1 : MH} {D : ko} {D' : kI} (E : ED H0 O0 M0 D D') (k : Ext H0 O0 M0 H1 O1 M1) : ED H1 O1 M1 D D' :=
 ⟨fun σ H O ρ M w e x q => E.nx σ H O ρ M w e (k.trans x) q, fun v y H O M w x r q => E.rt v y H O M w (k.trans x) r q, fun σ H O ρ M w e x q => E.bk σ H O ρ M w e (k.trans x) q, fun σ H O ρ M w e x q => E.ct σ H O ρ M w e (k.trans x) q⟩
structure qE (t : TS) (a : AS) : Prop where
 go : ∀ {H0 : Hp} {O0 : Own} {M0 : MH} {D : ko} {D' : kI} {σ : St} {H : Hp} {O : Own} {ρ : ASt} {M : MH}, Wf H0 O0 M0 -> Wf H O M -> Er H O M σ ρ -> Ext H0 O0 M0 H O M -> a M0 D' ρ M -> ED H0 O0 M0 D D' -> t D σ H
noncomputable def J5 : AS := fun _ D ρ M => D.nx ρ M
theorem QG : qE Ki J5 := ⟨fun _ w e x q E => E.nx _ _ _ _ _ w e x q⟩
noncomputable def jG (a b : AS) : AS := fun B D ρ M => a B { D with nx := b B D } ρ M
theorem wC {t u : TS} {a b : AS} (h1 : qE t a) (h2 : qE u b) : qE (VH t u) (jG a b) :=
 ⟨fun w0 w e x q E => h1.go w0 w e x q ⟨fun σ H O ρ M w e x q => h2.go w0 w e x q E, E.rt, E.bk, E.ct⟩⟩
noncomputable def XY (a : AE) : AS := fun _ D ρ M => a ρ M fun _ M1 => D.nx ρ M1
theorem QA {t : TE} {a : AE} (h : zH t a) : qE (Jb t) (XY a) := ⟨fun _ w e x q E => h.go w e q fun y M1 v H1 O1 q1 k1 w1 r1 => E.nx _ _ _ _ _ w1 (e.ext k1) (x.trans k1) q1⟩
noncomputable def WI (a : AE) : AS := fun _ D ρ M => a ρ M D.rt
theorem Xc {t : TE} {a : AE} (h : zH t a) : qE (V5 t) (WI a) := ⟨fun _ w e x q E => h.go w e q fun y M1 v H1 O1 q1 k1 w1 r1 => E.rt _ _ _ _ _ w1 (x.trans k1) r1 q1⟩
noncomputable def WZ (c : AT) (a b : AS) : AS := fun B D ρ M => c ρ M fun k M1 => if k = true then a B D ρ M1 else b B D ρ M1
theorem Xj {c : TT} {t u : TS} {ac : AT} {a b : AS} (hc : jh c ac) (h1 : qE t a) (h2 : qE u b) : qE (VZ c t u) (WZ ac a b) :=
 ⟨fun w0 w e x q E => hc.go w e q fun k M1 H1 O1 q1 k1 w1 => by
  cases k with
  | true => exact h1.go w0 w1 (e.ext k1) (x.trans k1) q1 E
  | false => exact h2.go w0 w1 (e.ext k1) (x.trans k1) q1 E⟩
structure yH (g : TG) (a : AG) : Prop where
 go : ∀ {v : V} {x : AV} {σ : St} {H : Hp} {O : Own} {ρ : ASt} {M : MH} {Q : St -> Hp -> Prop} {Q' : ASt -> MH -> Prop}, Wf H O M -> Er H O M σ ρ -> zl H O M v x -> a x ρ M Q' ->
  (∀ σ' H' O' ρ' M', Q' ρ' M' -> Ext H O M H' O' M' -> Wf H' O' M' -> Er H' O' M' σ' ρ' -> Q σ' H') -> g v σ H Q
structure Zh (g : TGs) (a : AGs) : Prop where
 go : ∀ {v : List V} {x : List AV} {σ : St} {H : Hp} {O : Own} {ρ : ASt} {M : MH} {Q : St -> Hp -> Prop} {Q' : ASt -> MH -> Prop}, Wf H O M -> Er H O M σ ρ -> ze H O M v x -> a x ρ M Q' ->
  (∀ σ' H' O' ρ' M', Q' ρ' M' -> Ext H O M H' O' M' -> Wf H' O' M' -> Er H' O' M' σ' ρ' -> Q σ' H') -> g v σ H Q
noncomputable def ka (i : Nat) : AG := fun x ρ M Q => Q (ρ.set i (some x)) M
theorem Qi {i : Nat} : yH (kP i) (ka i) := ⟨fun w e r q k => k _ _ _ _ _ q .refl w (e.set r i)⟩
noncomputable def JM : AGs := fun xs ρ M Q => xs = [] /\ Q ρ M
noncomputable def yI (a : AG) (b : AGs) : AGs := fun xs ρ M Q => ∃ x r, xs = x :: r /\ a x ρ M fun ρ' M' => b r ρ' M' Q
theorem Kn : Zh Xh JM := ⟨fun w e r q k => by obtain ⟨e1, q⟩ := q; subst e1; exact ⟨r.nil_inv, k _ _ _ _ _ q .refl w e⟩⟩
theorem Qj {g : TG} {u : TGs} {a : AG} {b : AGs} (h1 : yH g a) (h2 : Zh u b) : Zh (vz g u) (yI a b) := ⟨fun w e r q k => by
 obtain ⟨x, r', e1, q⟩ := q; subst e1
 obtain ⟨v, vr, e2, rv, rr⟩ := r.cons_inv
 subst e2
 exact ⟨v, vr, rfl, h1.go w e rv q fun σ' H' O' ρ' M' q1 k1 w1 e1 => h2.go w1 e1 (rr.ext k1) q1 fun σ2 H2 O2 ρ2 M2 q2 k2 w2 e2 => k _ _ _ _ _ q2 (k1.trans k2) w2 e2⟩⟩
noncomputable def QH (n : Nat) (b : AGs) : AG := fun x ρ M Q => ∃ l, x = .d (.tup l) /\ l.length = n /\ b (l.map .d) ρ M Q
theorem JR {K : PySem.W.Frag} {n : Nat} {u : TGs} {b : AGs} (h : Zh u b) : yH (Jt K n u) (QH n b) := ⟨fun {v x σ H O ρ M Q Q'} w e r q k => by
 obtain ⟨l, e1, ln, q⟩ := q; subst e1
 cases (show Rep H O v (.tup l) from r) with
 | @tup a xs _ o1 h1 l1 r1 => exact ⟨a, xs, rfl, SqT.of h1, l1.trans ln, h.go w e (Z8.av ⟨l1, r1⟩) q k⟩⟩
noncomputable def zL (x : AV) (M : MH) : Option (List AV) := match x with
 | .d (.lst l) => some (l.map .d)
 | .ref a => match M a with
  | some (.lst l) => some l
  | _ => none
 | _ => none
noncomputable def Vx (x : AV) : Option (List AV) := match x with
 | .d (.tup l) => some (l.map .d)
 | _ => none
noncomputable def jk (x : AV) (M : MH) : Option (List AV) := match x with
 | .d (.lst l) => some (l.map .d)
 | .d (.tup l) => some (l.map .d)
 | .ref a => match M a with
  | some (.lst l) => some l
  | _ => none
 | _ => none
theorem Kd (l : List Dat) (M : MH) : zL (.d (.lst l)) M = some (l.map .d) := rfl
theorem VR (l : List Dat) : Vx (.d (.tup l)) = some (l.map .d) := rfl
theorem VN (l : List Dat) (M : MH) : jk (.d (.lst l)) M = some (l.map .d) := rfl
theorem Vu (l : List Dat) (M : MH) : jk (.d (.tup l)) M = some (l.map .d) := rfl
theorem qm {a : Addr} {M : MH} {l : List AV} (h : M a = some (.lst l)) : zL (.ref a) M = some l := by unfold zL; dsimp only; rw [h]
theorem Kl {a : Addr} {M : MH} {l : List AV} (h : M a = some (.lst l)) : jk (.ref a) M = some l := by unfold jk; dsimp only; rw [h]
theorem Q4 {x : AV} {M : MH} {l : List AV} (h : zL x M = some l) : (∃ m, x = .d (.lst m) /\ l = m.map .d) \/ ∃ a, x = .ref a /\ M a = some (.lst l) := by
 cases x with
 | d x =>
  cases x with
  | lst m => cases h; exact .inl ⟨m, rfl, rfl⟩
  | _ => cases h
 | ref a =>
  unfold zL at h
  dsimp only at h
  cases e : M a with
  | none => rw [e] at h; cases h
  | some o =>
   rw [e] at h
   cases o with
   | lst m => cases h; exact .inr ⟨a, rfl, e⟩
   | _ => cases h
theorem jj {x : AV} {M : MH} {l : List AV} (h : jk x M = some l) : zL x M = some l \/ ∃ m, x = .d (.tup m) /\ l = m.map .d := by
 cases x with
 | d x =>
  cases x with
  | lst m => cases h; exact .inl rfl
  | tup m => cases h; exact .inr ⟨m, rfl, rfl⟩
  | _ => cases h
 | ref a => exact .inl h
theorem zM {H : Hp} {O : Own} {M : MH} {v : V} {x : AV} {l : List AV} (w : Wf H O M) (r : zl H O M v x) (h : zL x M = some l) : ∃ a xs, v = .ref a /\ H a = some (.lst xs) /\ ze H O M xs l := by
 rcases Q4 h with ⟨m, rfl, rfl⟩ | ⟨a, rfl, e⟩
 ·cases (show Rep H O v (.lst m) from r) with
  | @lst a xs _ o1 h1 l1 r1 => exact ⟨a, xs, rfl, h1, Z8.av ⟨l1, r1⟩⟩
 ·obtain ⟨xs, h1, r1⟩ := w.mo a _ e
  exact ⟨a, xs, r.1, h1, r1⟩
theorem qH {H : Hp} {O : Own} {M : MH} {v : V} {x : AV} {l : List AV} (r : zl H O M v x) (h : Vx x = some l) : ∃ a xs, v = .ref a /\ H a = some (.tup xs) /\ ze H O M xs l := by
 cases x with
 | ref a => cases h
 | d x =>
  cases x with
  | tup m =>
   cases h
   cases (show Rep H O v (.tup m) from r) with
   | @tup a xs _ o1 h1 l1 r1 => exact ⟨a, xs, rfl, h1, Z8.av ⟨l1, r1⟩⟩
  | _ => cases h
theorem wb {H : Hp} {O : Own} {M : MH} {v : V} {x : AV} {l : List AV} (w : Wf H O M) (r : zl H O M v x) (h : jk x M = some l) : ∃ a xs, v = .ref a /\ (H a = some (.lst xs) \/ H a = some (.tup xs)) /\ ze H O M xs l := by
 rcases jj h with e | ⟨m, rfl, rfl⟩
 ·obtain ⟨a, xs, h1, h2, h3⟩ := zM w r e; exact ⟨a, xs, h1, .inl h2, h3⟩
 ·obtain ⟨a, xs, h1, h2, h3⟩ := qH (l := m.map .d) r rfl; exact ⟨a, xs, h1, .inr h2, h3⟩
structure JN (t : Jm) (a : AV -> AV -> AV -> MH -> (MH -> Prop) -> Prop) : Prop where
 go : ∀ {o i v : V} {ao ai av : AV} {H : Hp} {O : Own} {M : MH} {Q : Hp -> Prop} {Q' : MH -> Prop}, Wf H O M -> zl H O M o ao -> zl H O M i ai -> zl H O M v av -> a ao ai av M Q' -> (∀ M' H' O', Q' M' -> Ext H O M H' O' M' -> Wf H' O' M' -> Q H') -> t o i v H Q
noncomputable def Yf (a b : AE) (s : AV -> AV -> AV -> MH -> (MH -> Prop) -> Prop) : AG := fun x ρ M Q => a ρ M fun o M1 => b ρ M1 fun i M2 => s o i x M2 fun M3 => Q ρ M3
theorem Ke {to ti : TE} {t : Jm} {a b : AE} {s : AV -> AV -> AV -> MH -> (MH -> Prop) -> Prop} (h1 : zH to a) (h2 : zH ti b) (h3 : JN t s) : yH (V0 to ti t) (Yf a b s) := ⟨fun w e r q k =>
 h1.go w e q fun x M1 v H1 O1 q1 k1 w1 r1 => h2.go w1 (e.ext k1) q1 fun y M2 u H2 O2 q2 k2 w2 r2 => h3.go w2 (r1.ext k2) r2 (r.ext (k1.trans k2)) q2 fun M3 H3 O3 q3 k3 w3 => k _ _ _ _ _ q3 ((k1.trans k2).trans k3) w3 (e.ext ((k1.trans k2).trans k3))⟩
theorem qD {M : MH} {p : Addr} {o : MO} (h : M p = some o) : M p ≠ none := by rw [h]; exact fun z => nomatch z
noncomputable def asL : AV -> AV -> AV -> MH -> (MH -> Prop) -> Prop := fun o i v M Q => ∃ p l k j, o = .ref p /\ i = .d (.int k) /\ M p = some (.lst l) /\ ixN l.length k = some j /\ Q (mup M p (.lst (l.set j v)))
theorem QB : JN wq asL := ⟨fun w ro ri rv q k => by
 obtain ⟨p, l, n, j, rfl, rfl, hm, hj, q⟩ := q
 obtain ⟨xs, hx, rx⟩ := w.mo p _ hm
 have np := qD hm
 refine ⟨n, zA ri, p, ro.1, xs, hx, j, by rw [rx.1]; exact hj, k _ _ _ q (jP w np _ _) (Kj w np (fun _ z => nomatch z) ⟨_, zp, (rx.set rv j).ext (jP w np _ _)⟩)⟩⟩
noncomputable def WA (a : AE) (g : AG) : AS := fun _ D ρ M => a ρ M fun x M1 => g x ρ M1 D.nx
theorem K7 {t : TE} {g : TG} {a : AE} {ag : AG} (h : zH t a) (hg : yH g ag) : qE (JE t g) (WA a ag) := ⟨fun _ w e x q E => h.go w e q fun y M1 v H1 O1 q1 k1 w1 r1 => hg.go w1 (e.ext k1) r1 q1 fun σ2 H2 O2 ρ2 M2 q2 k2 w2 e2 => E.nx _ _ _ _ _ w2 e2 ((x.trans k1).trans k2) q2⟩
noncomputable def X0 (i j m : Nat) (a : AA) : AS := fun _ D ρ M => a ρ M fun xs M1 => ∃ x y z, xs = [x, y, z] /\ D.nx (((ρ.set i (some x)).set j (some y)).set m (some z)) M1
theorem Qx {i j m : Nat} {t : TA} {a : AA} (h : ja t a) : qE (QC i j m t) (X0 i j m a) := ⟨fun _ w e x q E => h.go w e q fun ys M1 vs H1 O1 q1 k1 w1 r1 => by
 obtain ⟨y, z, u, rfl, q2⟩ := q1
 obtain ⟨v1, r', rfl, a1, r2⟩ := r1.cons_inv
 obtain ⟨v2, r', rfl, a2, r3⟩ := r2.cons_inv
 obtain ⟨v3, r', rfl, a3, r4⟩ := r3.cons_inv
 rw [r4.nil_inv]
 exact ⟨v1, v2, v3, rfl, E.nx _ _ _ _ _ w1 ((((e.ext k1).set a1 i).set a2 j).set a3 m) (x.trans k1) q2⟩⟩
structure X3 (t : TIp) (a : AR2) : Prop where
 go : ∀ {x y : V} {dx dy : AV} {H : Hp} {O : Own} {M : MH} {Q : VK} {Q' : AK}, Wf H O M -> zl H O M x dx -> zl H O M y dy -> a dx dy M Q' -> (∀ x M' v H' O', Q' x M' -> Ext H O M H' O' M' -> Wf H' O' M' -> zl H' O' M' v x -> Q v H') -> t x y H Q
noncomputable def WF (i : Nat) (a : AE) (r : AR2) : AS := fun _ D ρ M => ∃ x, ρ[i]? = some (some x) /\ a ρ M fun y M1 => r x y M1 fun z M2 => D.nx (ρ.set i (some z)) M2
theorem KA {i : Nat} {t : TE} {ti : TIp} {a : AE} {r : AR2} (h : zH t a) (hi : X3 ti r) : qE (YF i t ti) (WF i a r) := ⟨fun _ w e x q E => by
 obtain ⟨y, hy, q⟩ := q
 obtain ⟨v, hv, rv⟩ := e.get i y hy
 exact ⟨v, hv, h.go w e q fun z M1 u H1 O1 q1 k1 w1 r1 => hi.go w1 (rv.ext k1) r1 q1 fun z2 M2 v2 H2 O2 q2 k2 w2 r2 => E.nx _ _ _ _ _ w2 ((e.ext (k1.trans k2)).set r2 i) (x.trans (k1.trans k2)) q2⟩⟩
noncomputable def yw (c : AT) (b : AS) : AS := fun B D ρ M => ∃ W : Nat -> ASt -> MH -> Prop, (∃ m, W m ρ M) /\ ∀ m ρ M, W m ρ M -> c ρ M fun k M1 => if k = true then b B { D with nx := fun ρ' M' => ∃ m', m' < m /\ W m' ρ' M', ct := fun ρ' M' => ∃ m', m' < m /\ W m' ρ' M', bk := D.nx } ρ M1 else D.nx ρ M1
theorem ZG {c : TT} {t : TS} {ac : AT} {a : AS} (hc : jh c ac) (h : qE t a) : qE (Q9 c t) (yw ac a) := ⟨fun {H0 O0 M0 D D' σ H O ρ M} w0 w e x q E => by
 obtain ⟨W, ⟨m, h0⟩, st⟩ := q
 refine ⟨fun m σ H => ∃ O ρ M, Wf H O M /\ Er H O M σ ρ /\ Ext H0 O0 M0 H O M /\ W m ρ M, ⟨m, O, ρ, M, w, e, x, h0⟩, ?_⟩
 rintro m σ H ⟨O, ρ, M, w, e, x, hw⟩
 refine hc.go w e (st m ρ M hw) fun k M1 H1 O1 q1 k1 w1 => ?_
 cases k with
 | false => exact E.nx _ _ _ _ _ w1 (e.ext k1) (x.trans k1) q1
 | true => exact ⟨fun σ' H' => ∃ m', m' < m /\ ∃ O ρ M, Wf H' O M /\ Er H' O M σ' ρ /\ Ext H0 O0 M0 H' O M /\ W m' ρ M, fun σ' H' z => z, h.go w0 w1 (e.ext k1) (x.trans k1) q1 ⟨fun σ H O ρ M w e x ⟨m', hm, hw⟩ => ⟨m', hm, O, ρ, M, w, e, x, hw⟩, E.rt, E.nx, fun σ H O ρ M w e x ⟨m', hm, hw⟩ => ⟨m', hm, O, ρ, M, w, e, x, hw⟩⟩⟩⟩
noncomputable def j7 (J : It) (H : Hp) (O : Own) (M : MH) (l : List AV) (G : MH -> Prop) : Prop :=
 ∀ (H' : Hp) (O' : Own) (M' : MH), (∀ a o, ¬ O a -> H a = some o -> H' a = some o /\ ¬ O' a) -> (∀ a, M a ≠ none -> M' a ≠ none) -> Wf H' O' M' -> G M' -> ∀ i : Nat, (i = l.length -> J.stop i H') /\
  ∀ y, l[i]? = some y -> J.go i H' /\ ∀ x H'', J.yld i H' x H'' -> Ext H' O' M' H'' O' M' /\ Wf H'' O' M' /\ zl H'' O' M' x y
structure v4 (wi : TI) (ai : AI) : Prop where
 go : ∀ {σ : St} {H : Hp} {O : Own} {ρ : ASt} {M : MH} {R : It -> Hp -> Prop} {R' : List AV -> (MH -> Prop) -> MH -> Prop}, Wf H O M -> Er H O M σ ρ -> ai ρ M R' -> (∀ l G M' J H' O', R' l G M' -> Ext H O M H' O' M' -> Wf H' O' M' -> j7 J H' O' M' l G -> R J H') -> wi σ H R
noncomputable def WJ (ag : AG) (ab : AS) (B : MH) (D : kI) (G : MH -> Prop) (l : List AV) (ρ : ASt) (M : MH) : Prop :=
 ∃ Pv : Nat -> ASt -> MH -> Prop, Pv 0 ρ M /\ (∀ i x ρ M, l[i]? = some x -> Pv i ρ M -> G M /\ ag x ρ M fun ρ' M' => ab B { D with nx := Pv (i + 1), ct := Pv (i + 1), bk := D.nx } ρ' M') /\ ∀ ρ M, Pv l.length ρ M -> G M /\ D.nx ρ M
noncomputable def Wn (ai : AI) (ag : AG) (ab : AS) : AS := fun _ D ρ M => ai ρ M fun l G M1 => WJ ag ab M1 D G l ρ M1
theorem Xa {wi : TI} {g : TG} {t : TS} {ai : AI} {ag : AG} {ab : AS} (hi : v4 wi ai) (hg : yH g ag) (hb : qE t ab) : qE (Xz wi g t) (Wn ai ag ab) := ⟨fun {H0 O0 M0 D D' σ H O ρ M} w0 w e x q E => by
 rw [yr]
 refine hi.go w e q fun l G M1 J H1 O1 q1 k1 w1 hj => ?_
 have E1 := E.tr (x.trans k1)
 obtain ⟨Pv, p0, ps, pd⟩ := q1
 refine ⟨fun i m σ H => m = l.length - i /\ i <= l.length /\ ∃ O ρ M, Wf H O M /\ Er H O M σ ρ /\ Ext H1 O1 M1 H O M /\ Pv i ρ M, ⟨l.length, by simp, Nat.zero_le _, O1, ρ, M1, w1, e.ext k1, .refl, p0⟩, ?_⟩
 rintro i m σ H ⟨rfl, hi, O, ρ, M, w, e, x, hf⟩
 by_cases hil : i < l.length
 ·have hy : l[i]? = some l[i] := List.getElem?_eq_getElem hil
  obtain ⟨hG, q2⟩ := ps i l[i] ρ M hy hf
  obtain ⟨j1, j2⟩ := (hj H O M x.fix x.mst w hG i).2 l[i] hy
  refine .inr ⟨j1, fun σ' H' => ∃ O ρ M, Wf H' O M /\ Er H' O M σ' ρ /\ Ext H1 O1 M1 H' O M /\ Pv (i + 1) ρ M, fun σ' H' z => ⟨l.length - (i + 1), by omega, rfl, hil, z⟩, fun v H' hv => ?_⟩
  obtain ⟨k2, w2, r2⟩ := j2 v H' hv
  refine hg.go w2 (e.ext k2) r2 q2 fun σ3 H3 O3 ρ3 M3 q3 k3 w3 e3 => ?_
  exact hb.go w1 w3 e3 ((x.trans k2).trans k3) q3 ⟨fun σ H O ρ M w e x q => ⟨O, ρ, M, w, e, x, q⟩, E1.rt, E1.nx, fun σ H O ρ M w e x q => ⟨O, ρ, M, w, e, x, q⟩⟩
 ·have e0 : i = l.length := by omega
  subst e0
  obtain ⟨hG, q2⟩ := pd ρ M hf
  exact .inl ⟨(hj H O M x.fix x.mst w hG l.length).1 rfl, E1.nx _ _ _ _ _ w e x q2⟩⟩
end L2
set_option Elab.async false
set_option linter.all false
set_option maxRecDepth 100000
set_option maxHeartbeats 4000000
namespace L2
open PySem PySem.Spec PyProof.Rows
theorem xi {H H1 : Hp} {O O1 : Own} {M M1 : MH} (w1 : Wf H1 O1 M1) (k1 : Ext H O M H1 O1 M1) {p : Addr} (hp : H1 p = none) : H p = none := by
 cases e0 : H p with
 | none => rfl
 | some o =>
  exfalso
  by_cases c : O p
  ·by_cases c2 : M p = none
   ·exact w1.ne p (k1.prv p c c2).2.1 hp
   ·exact w1.ne p (w1.own p (k1.mst p c2)) hp
  ·rw [(k1.fix p o c e0).1] at hp; cases hp
theorem ZN {K : PySem.W.Frag} {H : Hp} {O : Own} {M : MH} {a : Addr} {x : AV} {l : List AV} (r : zl H O M (.ref a) x) (h : zL x M = some l) : j7 (Itl K a) H O M l (fun M' => zL x M' = some l) := by
 intro H' O' M' fix mst w' hG i
 obtain ⟨a', xs, e, h1, r1⟩ := zM w' (r.imp fix mst) hG
 cases e
 refine ⟨fun e => ⟨xs, SqL.of h1, by rw [r1.1]; omega⟩, fun y hy => ?_⟩
 obtain ⟨v, hv, rv⟩ := r1.get hy
 refine ⟨⟨xs, v, SqL.of h1, hv⟩, fun z H'' hz => ?_⟩
 obtain ⟨e1, e2⟩ := hz
 subst e1
 have := e2 xs (SqL.of h1)
 rw [hv] at this; cases this
 exact ⟨.refl, w', rv⟩
theorem JU {K : PySem.W.Frag} {H : Hp} {O : Own} {M : MH} {a : Addr} {x : AV} {l : List AV} (r : zl H O M (.ref a) x) (h : Vx x = some l) : j7 (Itt K a) H O M l (fun _ => True) := by
 intro H' O' M' fix mst w' hG i
 obtain ⟨a', xs, e, h1, r1⟩ := qH (r.imp fix mst) h
 cases e
 refine ⟨fun e => ⟨xs, SqT.of h1, by rw [r1.1]; omega⟩, fun y hy => ?_⟩
 obtain ⟨v, hv, rv⟩ := r1.get hy
 refine ⟨⟨xs, v, SqT.of h1, hv⟩, fun z H'' hz => ?_⟩
 obtain ⟨e1, e2⟩ := hz
 subst e1
 have := e2 xs (SqT.of h1)
 rw [hv] at this; cases this
 exact ⟨.refl, w', rv⟩
noncomputable def aiS (a : AE) : AI := fun ρ M R => a ρ M fun x M1 => ∃ l, jk x M1 = some l /\ R l (fun M' => jk x M' = some l) M1
theorem j7.mono {J : It} {H : Hp} {O : Own} {M : MH} {l : List AV} {G G' : MH -> Prop} (h : j7 J H O M l G) (k : ∀ M, G' M -> G M) : j7 J H O M l G' := fun H' O' M' fix mst w' hG => h H' O' M' fix mst w' (k _ hG)
theorem Yq {K : PySem.W.Frag} {t : TE} {a : AE} (h : zH t a) : v4 (iLT K t) (aiS a) := ⟨fun w e q k => h.go w e q fun x M1 v H1 O1 ⟨l, hl, q1⟩ k1 w1 r1 => by
 rcases jj hl with hl' | ⟨m, rfl, rfl⟩
 ·obtain ⟨a, xs, rfl, h1, _⟩ := zM w1 r1 hl'
  refine ⟨a, rfl, .inl ⟨⟨xs, SqL.of h1⟩, k _ _ _ _ _ _ q1 k1 w1 ((ZN r1 hl').mono fun M hM => ?_)⟩⟩
  rcases jj hM with z | ⟨m, rfl, rfl⟩
  ·exact z
  ·cases hl'
 ·obtain ⟨a, xs, rfl, h1, _⟩ := qH (l := m.map .d) r1 rfl
  exact ⟨a, rfl, .inr ⟨⟨xs, SqT.of h1⟩, k _ _ _ _ _ _ q1 k1 w1 ((JU r1 rfl).mono fun _ _ => trivial)⟩⟩⟩
noncomputable def ZP (lo c : Int) (n : Nat) : List AV := (List.range n).map fun (k : Nat) => .d (.int (lo + (k : Int) * c))
theorem jN (lo c : Int) (n : Nat) : (ZP lo c n).length = n := by simp [ZP]
theorem kY {lo c : Int} {n i : Nat} {y : AV} (h : (ZP lo c n)[i]? = some y) : i < n /\ y = .d (.int (lo + (i : Int) * c)) := by
 have hi := (List.getElem?_eq_some_iff.mp h).1
 rw [jN] at hi
 unfold ZP at h
 rw [List.getElem?_map, List.getElem?_range hi] at h
 cases h
 exact ⟨hi, rfl⟩
theorem Kc {H : Hp} {O : Own} {M : MH} (lo : Int) (n : Nat) : j7 (Itr lo n) H O M (ZP lo 1 n) (fun _ => True) := by
 intro H' O' M' fix mst w' hG i
 refine ⟨fun e => by rw [jN] at e; exact Nat.le_of_eq e.symm, fun y hy => ?_⟩
 obtain ⟨hi, rfl⟩ := kY hy
 refine ⟨hi, fun z H'' hz => ?_⟩
 obtain ⟨rfl, rfl⟩ := hz
 rw [Int.mul_one]
 exact ⟨.refl, w', .int⟩
noncomputable def WK (a : AA) : AI := fun ρ M R => a ρ M fun xs M1 => ∃ j : Int, xs = [.d (.int j)] /\ -(2 ^ 62) <= j /\ j < 2 ^ 62 /\ R (ZP 0 1 j.toNat) (fun _ => True) M1
theorem K1 {t : TA} {a : AA} (h : ja t a) : v4 (J2 t) (WK a) := ⟨fun w e q k => h.go w e q fun x M1 v H1 O1 ⟨j, e1, j1, j2, q1⟩ k1 w1 r1 => by
 subst e1
 obtain ⟨v1, r', rfl, a1, r2⟩ := r1.cons_inv
 rw [r2.nil_inv, zA a1]
 exact ⟨j, rfl, j1, j2, k _ _ _ _ _ _ q1 k1 w1 (Kc _ _)⟩⟩
noncomputable def kJ (m : List Dat) : List AV := (List.range m.length).map fun (i : Nat) => .d (.tup [.int (i : Int), m.getD i .non])
theorem jv (m : List Dat) : (kJ m).length = m.length := by simp [kJ]
theorem j6 {m : List Dat} {i : Nat} {y : AV} (h : (kJ m)[i]? = some y) : ∃ d, m[i]? = some d /\ y = .d (.tup [.int (i : Int), d]) := by
 have hi := (List.getElem?_eq_some_iff.mp h).1
 rw [jv] at hi
 unfold kJ at h
 rw [List.getElem?_map, List.getElem?_range hi] at h
 cases h
 exact ⟨m[i], List.getElem?_eq_getElem hi, by dsimp only; rw [List.getD_eq_getElem?_getD, List.getElem?_eq_getElem hi]; rfl⟩
theorem jW {H : Hp} {O : Own} {M : MH} (w : Wf H O M) {p : Addr} (hp : H p = none) {x y : V} {d e : Dat} (r1 : Rep H O x d) (r2 : Rep H O y e) : Ext H O M (upd H p (.tup [x, y])) O M /\ Wf (upd H p (.tup [x, y])) O M /\ zl (upd H p (.tup [x, y])) O M (.ref p) (.d (.tup [d, e])) :=
 ⟨qx w hp _, yC w hp _, Rep.tup (w.fresh hp).1 zp rfl fun i z f h1 h2 => by
  match i, h1, h2 with
  | 0, h1, h2 => cases h1; cases h2; exact r1.ext (qx w hp _)
  | 1, h1, h2 => cases h1; cases h2; exact r2.ext (qx w hp _)
  | (i + 2), h1, _ => cases h1⟩
theorem ZX {K : PySem.W.Frag} {H : Hp} {O : Own} {M : MH} {a : Addr} {x : AV} {m : List Dat} (r : zl H O M (.ref a) x) (h : zL x M = some (m.map .d)) : j7 (Ite K a) H O M (kJ m) (fun M' => zL x M' = some (m.map .d)) := by
 intro H' O' M' fix mst w' hG i
 obtain ⟨a', xs, e, h1, r1⟩ := zM w' (r.imp fix mst) hG
 cases e
 have l1 := r1.1
 rw [List.length_map] at l1
 refine ⟨fun e => ⟨xs, SqL.of h1, by rw [jv] at e; omega⟩, fun y hy => ?_⟩
 obtain ⟨d, hd, rfl⟩ := j6 hy
 obtain ⟨v, hv, rv⟩ := r1.get (i := i) (d := .d d) (by rw [List.getElem?_map, hd]; rfl)
 refine ⟨⟨xs, v, SqL.of h1, hv⟩, fun z H'' hz => ?_⟩
 obtain ⟨p, x', hp, rfl, e2, rfl⟩ := hz
 have := e2 xs (SqL.of h1)
 rw [hv] at this; cases this
 exact jW w' hp .int rv
theorem we {K : PySem.W.Frag} {H : Hp} {O : Own} {M : MH} {a : Addr} {m : List Dat} (r : zl H O M (.ref a) (.d (.tup m))) : j7 (Yv K a) H O M (kJ m) (fun _ => True) := by
 intro H' O' M' fix mst w' hG i
 obtain ⟨a', xs, e, h1, r1⟩ := qH (l := m.map .d) (r.imp fix mst) rfl
 cases e
 have l1 := r1.1
 rw [List.length_map] at l1
 refine ⟨fun e => ⟨xs, SqT.of h1, by rw [jv] at e; omega⟩, fun y hy => ?_⟩
 obtain ⟨d, hd, rfl⟩ := j6 hy
 obtain ⟨v, hv, rv⟩ := r1.get (i := i) (d := .d d) (by rw [List.getElem?_map, hd]; rfl)
 refine ⟨⟨xs, v, SqT.of h1, hv⟩, fun z H'' hz => ?_⟩
 obtain ⟨p, x', hp, rfl, e2, rfl⟩ := hz
 have := e2 xs (SqT.of h1)
 rw [hv] at this; cases this
 exact jW w' hp .int rv
noncomputable def aiE (a : AA) : AI := fun ρ M R => a ρ M fun xs M1 => ∃ x l m, xs = [x] /\ jk x M1 = some l /\ pur l = some m /\ R (kJ m) (fun M' => jk x M' = some l) M1
theorem ww {x : AV} {M M' : MH} {l l' : List AV} (h : zL x M = some l) (h' : jk x M' = some l') : zL x M' = some l' := by
 rcases jj h' with z | ⟨m, rfl, rfl⟩
 ·exact z
 ·cases h
theorem Yy {K : PySem.W.Frag} {t : TA} {a : AA} (h : ja t a) : v4 (kx K t) (aiE a) := ⟨fun w e q k => h.go w e q fun xs M1 v H1 O1 ⟨x, l, m, e1, hl, hm, q1⟩ k1 w1 r1 => by
 subst e1
 obtain ⟨v1, r', rfl, a1, r2⟩ := r1.cons_inv
 rw [r2.nil_inv]
 rw [jo hm] at hl q1
 rcases jj hl with hl' | ⟨m', rfl, e2⟩
 ·obtain ⟨a, xs, rfl, h1, _⟩ := zM w1 a1 hl'
  exact ⟨a, rfl, .inl ⟨⟨xs, SqL.of h1⟩, k _ _ _ _ _ _ q1 k1 w1 ((ZX a1 hl').mono fun M hM => ww hl' hM)⟩⟩
 ·obtain rfl : m = m' := by have := congrArg pur e2; rw [qW, qW] at this; cases this; rfl
  obtain ⟨a, xs, rfl, h1, _⟩ := qH (l := m.map .d) a1 rfl
  exact ⟨a, rfl, .inr ⟨⟨xs, SqT.of h1⟩, k _ _ _ _ _ _ q1 k1 w1 ((we a1).mono fun _ _ => trivial)⟩⟩⟩
noncomputable def yf (m n : List Dat) : List AV := (List.range (min m.length n.length)).map fun (i : Nat) => .d (.tup [m.getD i .non, n.getD i .non])
theorem jd (m n : List Dat) : (yf m n).length = min m.length n.length := by simp [yf]
theorem xc {m n : List Dat} {i : Nat} {y : AV} (h : (yf m n)[i]? = some y) : ∃ d e, m[i]? = some d /\ n[i]? = some e /\ y = .d (.tup [d, e]) := by
 have hi := (List.getElem?_eq_some_iff.mp h).1
 rw [jd] at hi
 unfold yf at h
 rw [List.getElem?_map, List.getElem?_range hi] at h
 cases h
 have h1 : i < m.length := by omega
 have h2 : i < n.length := by omega
 exact ⟨m[i], n[i], List.getElem?_eq_getElem h1, List.getElem?_eq_getElem h2, by dsimp only; rw [List.getD_eq_getElem?_getD, List.getElem?_eq_getElem h1, List.getD_eq_getElem?_getD, List.getElem?_eq_getElem h2]; rfl⟩
theorem Qv {K : PySem.W.Frag} {H : Hp} {O : Own} {M : MH} {a b : Addr} {x y : AV} {m n : List Dat} (r : zl H O M (.ref a) x) (h : zL x M = some (m.map .d)) (r' : zl H O M (.ref b) y) (h' : zL y M = some (n.map .d)) : j7 (Itz K a b) H O M (yf m n) (fun M' => zL x M' = some (m.map .d) /\ zL y M' = some (n.map .d)) := by
 intro H' O' M' fix mst w' hG i
 obtain ⟨a', xs, e, h1, r1⟩ := zM w' (r.imp fix mst) hG.1
 cases e
 obtain ⟨b', ys, e, h2, r2⟩ := zM w' (r'.imp fix mst) hG.2
 cases e
 have l1 := r1.1
 have l2 := r2.1
 rw [List.length_map] at l1 l2
 refine ⟨fun e => ⟨xs, ys, SqL.of h1, SqL.of h2, by rw [jd] at e; omega⟩, fun z hz => ?_⟩
 obtain ⟨d, f, hd, hf, rfl⟩ := xc hz
 obtain ⟨v, hv, rv⟩ := r1.get (i := i) (d := .d d) (by rw [List.getElem?_map, hd]; rfl)
 obtain ⟨u, hu, ru⟩ := r2.get (i := i) (d := .d f) (by rw [List.getElem?_map, hf]; rfl)
 refine ⟨⟨xs, ys, v, u, SqL.of h1, SqL.of h2, hv, hu⟩, fun z H'' hz => ?_⟩
 obtain ⟨p, x', y', hp, rfl, e2, e3, rfl⟩ := hz
 have := e2 xs (SqL.of h1)
 rw [hv] at this; cases this
 have := e3 ys (SqL.of h2)
 rw [hu] at this; cases this
 exact jW w' hp rv ru
theorem Z9 {K : PySem.W.Frag} {H : Hp} {O : Own} {M : MH} {a b : Addr} {m n : List Dat} (hmn : m.length <= n.length) (r : zl H O M (.ref a) (.d (.tup m))) (r' : zl H O M (.ref b) (.d (.tup n))) : j7 (Vk K a b) H O M (yf m n) (fun _ => True) := by
 intro H' O' M' fix mst w' hG i
 obtain ⟨a', xs, e, h1, r1⟩ := qH (l := m.map .d) (r.imp fix mst) rfl
 cases e
 obtain ⟨b', ys, e, h2, r2⟩ := qH (l := n.map .d) (r'.imp fix mst) rfl
 cases e
 have l1 := r1.1
 have l2 := r2.1
 rw [List.length_map] at l1 l2
 refine ⟨fun e => ⟨xs, SqT.of h1, by rw [jd] at e; omega⟩, fun z hz => ?_⟩
 obtain ⟨d, f, hd, hf, rfl⟩ := xc hz
 obtain ⟨v, hv, rv⟩ := r1.get (i := i) (d := .d d) (by rw [List.getElem?_map, hd]; rfl)
 obtain ⟨u, hu, ru⟩ := r2.get (i := i) (d := .d f) (by rw [List.getElem?_map, hf]; rfl)
 refine ⟨⟨xs, ys, v, u, SqT.of h1, SqT.of h2, hv, hu⟩, fun z H'' hz => ?_⟩
 obtain ⟨p, x', y', hp, rfl, e2, e3, rfl⟩ := hz
 have := e2 xs (SqT.of h1)
 rw [hv] at this; cases this
 have := e3 ys (SqT.of h2)
 rw [hu] at this; cases this
 exact jW w' hp rv ru
noncomputable def WL (a : AA) : AI := fun ρ M R => a ρ M fun xs M1 => ∃ x y m n, xs = [x, y] /\ ((zL x M1 = some (List.map AV.d m) /\ zL y M1 = some (List.map AV.d n)) \/ (x = .d (.tup m) /\ y = .d (.tup n) /\ m.length <= n.length)) /\ R (yf m n) (fun M' => zL x M' = zL x M1 /\ zL y M' = zL y M1) M1
theorem KO {K : PySem.W.Frag} {t : TA} {a : AA} (h : ja t a) : v4 (wd K t) (WL a) := ⟨fun w e q k => h.go w e q fun xs M1 v H1 O1 ⟨x, y, m, n, e1, hxy, q1⟩ k1 w1 r1 => by
 subst e1
 obtain ⟨v1, r', rfl, a1, r2⟩ := r1.cons_inv
 obtain ⟨v2, r', rfl, a2, r3⟩ := r2.cons_inv
 rw [r3.nil_inv]
 rcases hxy with ⟨hx, hy⟩ | ⟨rfl, rfl, hmn⟩
 ·obtain ⟨a, xs, rfl, h1, _⟩ := zM w1 a1 hx
  obtain ⟨b, ys, rfl, h2, _⟩ := zM w1 a2 hy
  exact ⟨a, b, rfl, .inl ⟨⟨xs, SqL.of h1⟩, ⟨ys, SqL.of h2⟩, k _ _ _ _ _ _ q1 k1 w1 ((Qv a1 hx a2 hy).mono fun _ z => ⟨z.1.trans hx, z.2.trans hy⟩)⟩⟩
 ·obtain ⟨a, xs, rfl, h1, _⟩ := qH (l := m.map .d) a1 rfl
  obtain ⟨b, ys, rfl, h2, _⟩ := qH (l := n.map .d) a2 rfl
  exact ⟨a, b, rfl, .inr ⟨⟨xs, SqT.of h1⟩, ⟨ys, SqT.of h2⟩, k _ _ _ _ _ _ q1 k1 w1 ((Z9 hmn a1 a2).mono fun _ _ => trivial)⟩⟩⟩
structure kj (D : Addr) (H : Hp) (O : Own) (M : MH) (H' : Hp) (O' : Own) (M' : MH) : Prop where
 fix : ∀ a o, ¬ O a -> H a = some o -> H' a = some o /\ ¬ O' a
 prv : ∀ a, a ≠ D -> O a -> M a = none -> H' a = H a /\ O' a /\ M' a = none
 mst : ∀ a, M a ≠ none -> M' a ≠ none
theorem Ext.x {D : Addr} {H H' : Hp} {O O' : Own} {M M' : MH} (k : Ext H O M H' O' M') : kj D H O M H' O' M' := ⟨k.fix, fun a _ => k.prv a, k.mst⟩
theorem kj.trans {D : Addr} {H H1 H2 : Hp} {O O1 O2 : Own} {M M1 M2 : MH} (a : kj D H O M H1 O1 M1) (b : kj D H1 O1 M1 H2 O2 M2) : kj D H O M H2 O2 M2 :=
 ⟨fun x o h e => let ⟨e1, h1⟩ := a.fix x o h e; b.fix x o h1 e1, fun x hx h e => by
  obtain ⟨e1, h1, n1⟩ := a.prv x hx h e
  obtain ⟨e2, h2, n2⟩ := b.prv x hx h1 n1
  exact ⟨e2.trans e1, h2, n2⟩, fun x h => b.mst x (a.mst x h)⟩
theorem kj.set {D : Addr} {H : Hp} {O : Own} {M : MH} (hO : O D) (o : HO) : kj D H O M (upd H D o) O M := ⟨kz hO o, fun a ha h e => ⟨zh ha, h, e⟩, fun _ h => h⟩
theorem Er.imp {H H' : Hp} {O O' : Own} {M M' : MH} {σ : St} {ρ : ASt} (e : Er H O M σ ρ) (k : ∀ a o, ¬ O a -> H a = some o -> H' a = some o /\ ¬ O' a) (hm : ∀ a, M a ≠ none -> M' a ≠ none) : Er H' O' M' σ ρ := ⟨e.len, fun i x h => let ⟨v, h1, h2⟩ := e.get i x h; ⟨v, h1, h2.imp k hm⟩⟩
noncomputable abbrev ATR := List AV -> ASt -> MH -> (List AV -> ASt -> MH -> Prop) -> Prop
structure wD (D : Addr) (tr : TR) (a : ATR) : Prop where
 go : ∀ {σ : St} {H : Hp} {O : Own} {ρ : ASt} {M : MH} {acc : List AV} {ys : List V} {N : St -> Hp -> Prop} {N' : List AV -> ASt -> MH -> Prop}, Wf H O M -> Er H O M σ ρ -> O D -> M D = none -> H D = some (.lst ys) -> ze H O M ys acc -> a acc ρ M N' ->
  (∀ acc' ρ' M' σ' H' O' ys', N' acc' ρ' M' -> kj D H O M H' O' M' -> Wf H' O' M' -> Er H' O' M' σ' ρ' -> O' D -> M' D = none -> H' D = some (.lst ys') -> ze H' O' M' ys' acc' -> N σ' H') -> tr σ H N
noncomputable def vG (a : AE) : ATR := fun acc ρ M N => a ρ M fun x M1 => acc.length < sizeLine /\ N (acc ++ [x]) ρ M1
theorem vm {D : Addr} {t : TE} {a : AE} (h : zH t a) : wD D (wc t D) (vG a) := ⟨fun {σ H O ρ M acc ys N N'} w e o m hd r q k => h.go w e q fun x M1 v H1 O1 ⟨q0, q1⟩ k1 w1 r1 => by
 obtain ⟨e1, o1, m1⟩ := k1.prv D o m
 have r' := r.ext k1
 refine ⟨ys, e1.trans hd, by rw [r.1]; exact q0, k _ _ _ _ _ _ (ys ++ [v]) q1 (k1.x.trans (kj.set o1 _)) (wa w1 o1 m1 (e1.trans hd) _ (fun _ z => nomatch z)) ((e.ext k1).imp (kz o1 _) (fun _ z => z)) o1 m1 zp ((r'.snoc r1).imp (kz o1 _) (fun _ z => z))⟩⟩
noncomputable def K6 (ag : AG) (at_ : AT) (tr : ATR) (G : MH -> Prop) (N : List AV -> ASt -> MH -> Prop) (l acc : List AV) (ρ : ASt) (M : MH) : Prop :=
 ∃ Pv : Nat -> List AV -> ASt -> MH -> Prop, Pv 0 acc ρ M /\ (∀ i x acc ρ M, l[i]? = some x -> Pv i acc ρ M -> G M /\ ag x ρ M fun ρ2 M2 => at_ ρ2 M2 fun b M3 => if b = true then tr acc ρ2 M3 (Pv (i + 1)) else Pv (i + 1) acc ρ2 M3) /\ ∀ acc ρ M, Pv l.length acc ρ M -> G M /\ N acc ρ M
theorem Yr {D : Addr} {g : TG} {tt : TT} {tr : TR} {ag : AG} {at_ : AT} {atr : ATR} (hg : yH g ag) (ht : jh tt at_) (hr : wD D tr atr) {J : It} {H1 : Hp} {O1 : Own} {M1 : MH} {l : List AV} {G : MH -> Prop} (hj : j7 J H1 O1 M1 l G) {N' : List AV -> ASt -> MH -> Prop} {N : St -> Hp -> Prop}
  {σ : St} {ρ : ASt} {acc : List AV} {ys : List V} (w : Wf H1 O1 M1) (e : Er H1 O1 M1 σ ρ) (o : O1 D) (m : M1 D = none) (hd : H1 D = some (.lst ys)) (r : ze H1 O1 M1 ys acc) (q : K6 ag at_ atr G N' l acc ρ M1)
  (k : ∀ acc' ρ' M' σ' H' O' ys', N' acc' ρ' M' -> kj D H1 O1 M1 H' O' M' -> Wf H' O' M' -> Er H' O' M' σ' ρ' -> O' D -> M' D = none -> H' D = some (.lst ys') -> ze H' O' M' ys' acc' -> N σ' H') : CL J g tt tr N σ H1 := by
 obtain ⟨Pv, p0, ps, pd⟩ := q
 refine ⟨fun i n σ H => n = l.length - i /\ i <= l.length /\ ∃ O ρ M acc ys, Wf H O M /\ Er H O M σ ρ /\ kj D H1 O1 M1 H O M /\ O D /\ M D = none /\ H D = some (.lst ys) /\ ze H O M ys acc /\ Pv i acc ρ M,
  ⟨l.length, by simp, Nat.zero_le _, O1, ρ, M1, acc, ys, w, e, Ext.refl.x, o, m, hd, r, p0⟩, ?_⟩
 rintro i n σ H ⟨rfl, hi, O, ρ, M, acc, ys, w, e, x, o, m, hd, r, hf⟩
 by_cases hil : i < l.length
 ·have hy : l[i]? = some l[i] := List.getElem?_eq_getElem hil
  obtain ⟨hG, q2⟩ := ps i l[i] acc ρ M hy hf
  obtain ⟨j1, j2⟩ := (hj H O M x.fix x.mst w hG i).2 l[i] hy
  refine .inr ⟨j1, fun σ' H' => ∃ O ρ M acc ys, Wf H' O M /\ Er H' O M σ' ρ /\ kj D H1 O1 M1 H' O M /\ O D /\ M D = none /\ H' D = some (.lst ys) /\ ze H' O M ys acc /\ Pv (i + 1) acc ρ M, fun σ' H' z => ⟨l.length - (i + 1), by omega, rfl, hil, z⟩, fun v H' hv => ?_⟩
  obtain ⟨k2, w2, r2⟩ := j2 v H' hv
  refine hg.go w2 (e.ext k2) r2 q2 fun σ3 H3 O3 ρ3 M3 q3 k3 w3 e3 => ?_
  refine ht.go w3 e3 q3 fun b M4 H4 O4 q4 k4 w4 => ?_
  have k24 := (k2.trans k3).trans k4
  obtain ⟨d4, o4, m4⟩ := k24.prv D o m
  have r4 := r.ext k24
  cases b with
  | true =>
   exact hr.go w4 (e3.ext k4) o4 m4 (d4.trans hd) r4 q4 fun acc' ρ' M' σ' H' O' ys' q5 k5 w5 e5 o5 m5 d5 r5 => ⟨O', ρ', M', acc', ys', w5, e5, (x.trans k24.x).trans k5, o5, m5, d5, r5, q5⟩
  | false =>
   exact ⟨O4, ρ3, M4, acc, ys, w4, e3.ext k4, x.trans k24.x, o4, m4, d4.trans hd, r4, q4⟩
 ·have e0 : i = l.length := by omega
  subst e0
  obtain ⟨hG, q2⟩ := pd acc ρ M hf
  exact .inl ⟨(hj H O M x.fix x.mst w hG l.length).1 rfl, k _ _ _ _ _ _ _ q2 x w e o m hd r⟩
noncomputable def QM (ts : List Nat) (ai : AI) (ag : AG) (at_ : AT) (atr : ATR) : AF := fun ρ M Q => ai ρ M fun l G M1 => K6 ag at_ atr G (fun acc _ M' => Q acc M') l [] (XW ts ρ) M1
theorem wk {ts : List Nat} {wi : TI} {g : TG} {tt : TT} {tr : Addr -> TR} {ai : AI} {ag : AG} {at_ : AT} {atr : ATR} (hi : v4 wi ai) (hg : yH g ag) (ht : jh tt at_) (hr : ∀ D, wD D (tr D) atr) : wr (JI ts wi g tt tr) (QM ts ai ag at_ atr) := ⟨fun {σ H O ρ M Q Q'} w e q k => by
 refine hi.go w e q fun l G M1 J H1 O1 q1 k1 w1 hj D hD => ?_
 have kp := qB w1 hD (.lst [])
 have hj' : j7 J (upd H1 D (.lst [])) (ZD O1 D) M1 l G := fun H' O' M' fix mst w' hG => hj H' O' M' (fun a o ha ho => fix a o (kp.fix a o ha ho).2 (kp.fix a o ha ho).1) mst w' hG
 refine Yr hg ht (hr D) hj' (yA w1 hD _ (fun _ z => nomatch z)) (((e.ext k1).clr ts).ext kp) (.inl rfl) (w1.fresh hD).2 zp .nil q1 fun acc' ρ' M' σ' H' O' ys' q5 k5 w5 e5 o5 m5 d5 r5 => ?_
 have hH := xi w1 k1 hD
 refine k _ _ _ _ _ _ q5 ⟨fun a o ha ho => ?_, fun a ha hm => ?_, fun a hm => k5.mst a (k1.mst a hm)⟩ w5 o5 m5 hH d5 r5
 ·obtain ⟨x1, x2⟩ := (k1.trans kp).fix a o ha ho
  exact k5.fix a o x2 x1
 ·obtain ⟨x1, x2, x3⟩ := (k1.trans kp).prv a ha hm
  obtain ⟨y1, y2, y3⟩ := k5.prv a (fun z => w.ne a ha (by rw [z]; exact hH)) x2 x3
  exact ⟨y1.trans x1, y2, y3⟩⟩
theorem ZF {ts : List Nat} {wi : TI} {g : TG} {tt : TT} {te : TE} {ai : AI} {ag : AG} {at_ : AT} {ae : AE} (hi : v4 wi ai) (hg : yH g ag) (ht : jh tt at_) (he : zH te ae) : wr (yY ts wi g tt te) (QM ts ai ag at_ (vG ae)) :=
 ⟨fun w e q k => (wk (ts := ts) (tr := wc te) hi hg ht fun D => vm he).go w e q k⟩
end L2
set_option Elab.async false
set_option linter.all false
set_option maxRecDepth 100000
set_option maxHeartbeats 4000000
namespace L2
open PySem PySem.Spec PyProof.Rows
noncomputable def aI (C : Int -> Int -> Prop) (g : Int -> Int -> Dat) : AR2 := fun x y M Q => ∃ i j, x = .d (.int i) /\ y = .d (.int j) /\ C i j /\ Q (.d (g i j)) M
noncomputable def aI0 (g : Int -> Int -> Dat) : AR2 := fun x y M Q => ∃ i j, x = .d (.int i) /\ y = .d (.int j) /\ Q (.d (g i j)) M
theorem VL {C : Int -> Int -> Prop} {f : Int -> Int -> Int} : v8 (rI C fun i j => .int (f i j)) (aI C fun i j => .int (f i j)) := ⟨fun w r1 r2 ⟨i, j, e1, e2, c, q⟩ k => by
 subst e1 e2; exact ⟨i, j, zA r1, zA r2, c, k _ _ _ _ _ q .refl w .int⟩⟩
theorem XH {f : Int -> Int -> Int} : v8 (rI0 fun i j => .int (f i j)) (aI0 fun i j => .int (f i j)) := ⟨fun w r1 r2 ⟨i, j, e1, e2, q⟩ k => by
 subst e1 e2; exact ⟨i, j, zA r1, zA r2, k _ _ _ _ _ q .refl w .int⟩⟩
theorem JY {f : Int -> Int -> Bool} : v8 (rI0 fun i j => .bl (f i j)) (aI0 fun i j => .bl (f i j)) := ⟨fun w r1 r2 ⟨i, j, e1, e2, q⟩ k => by
 subst e1 e2; exact ⟨i, j, zA r1, zA r2, k _ _ _ _ _ q .refl w .bl⟩⟩
theorem KE {f : Int -> Int -> Int} : X3 (ipI f) (aI0 fun i j => .int (f i j)) := ⟨fun w r1 r2 ⟨i, j, e1, e2, q⟩ k => by
 subst e1 e2; exact ⟨i, j, zA r1, zA r2, k _ _ _ _ _ q .refl w .int⟩⟩
noncomputable def eqS : Dat -> Dat -> Option Bool
 | .non, .non => some true | .non, .int _ => some false | .int _, .non => some false | .non, .bl _ => some false | .bl _, .non => some false | .non, .str _ => some false | .str _, .non => some false
 | .int i, .int j => some (decide (i = j)) | .bl a, .bl b => some (decide (a = b)) | .str a, .str b => some (decide (a = b))
 | .int _, .str _ => some false | .str _, .int _ => some false | .bl _, .str _ => some false | .str _, .bl _ => some false
 | _, _ => none
noncomputable def jA : AV -> Bool
 | .d .non => true
 | _ => false
theorem J8 {H : Hp} {O : Own} {M : MH} {v : V} {x : AV} (r : zl H O M v x) : decide (v = V.non) = jA x := by
 cases x with
 | ref a => rw [r.1]; rfl
 | d x => cases (show Rep H O v x from r) <;> rfl
noncomputable def Wz (f : Bool -> Bool) : AR2 := fun x y M Q => y = .d .non /\ Q (.d (.bl (f (jA x)))) M
theorem Xx : v8 (fun x y H Q => y = V.non /\ Q (V.bl (decide (x = V.non))) H) (Wz id) := ⟨fun w r1 r2 ⟨e, q⟩ k => by
 subst e; exact ⟨Kz r2, by rw [J8 r1]; exact k _ _ _ _ _ q .refl w .bl⟩⟩
theorem XA {H : Hp} {O : Own} {M : MH} {xs : List V} {l : List AV} (r : ze H O M xs l) {i : Int} {x : AV} (h : atI l i = some x) : ∃ v, atI xs i = some v /\ zl H O M v x := by
 unfold atI at h ⊢
 rw [r.1]
 cases e : ixN l.length i with
 | none => rw [e] at h; cases h
 | some j => rw [e] at h; exact r.get h
noncomputable def aIx (s : AV -> MH -> Option (List AV)) : AR2 := fun x y M Q => ∃ l i z, s x M = some l /\ y = .d (.int i) /\ atI l i = some z /\ Q z M
theorem Qs {K : PySem.W.Frag} : v8 (Zb K) (aIx jk) := ⟨fun w r1 r2 ⟨l, i, z, h, e, hz, q⟩ k => by
 subst e
 obtain ⟨a, xs, rfl, h1, r⟩ := wb w r1 h
 obtain ⟨v, hv, rv⟩ := XA r hz
 exact ⟨a, xs, i, v, rfl, zA r2, h1.elim (fun h => .inl (SqL.of h)) (fun h => .inr (SqT.of h)), hv, k _ _ _ _ _ q .refl w rv⟩⟩
structure JG (r : R2) (a : AV -> AV -> MH -> (List AV -> Prop) -> Prop) : Prop where
 go : ∀ {x y : V} {dx dy : AV} {H : Hp} {O : Own} {M : MH} {Q : VK} {Q' : List AV -> Prop}, Wf H O M -> zl H O M x dx -> zl H O M y dy -> a dx dy M Q' -> (∀ l ys, Q' l -> ze H O M ys l -> ∀ p, H p = none -> Q (.ref p) (upd H p (.lst ys))) -> r x y H Q
noncomputable def fOp (r : AV -> AV -> MH -> (List AV -> Prop) -> Prop) (a b : AE) : AF := fun ρ M Q => a ρ M fun x M1 => b ρ M1 fun y M2 => r x y M2 fun l => Q l M2
theorem yt {r : R2} {ra : AV -> AV -> MH -> (List AV -> Prop) -> Prop} {t u : TE} {a b : AE} (hr : JG r ra) (h1 : zH t a) (h2 : zH u b) : wr (tOp r t u) (fOp ra a b) :=
 ⟨fun w e q k => h1.go w e q fun x M1 v H1 O1 q1 k1 w1 r1 => h2.go w1 (e.ext k1) q1 fun y M2 u H2 O2 q2 k2 w2 r2 => hr.go w2 (r1.ext k2) r2 q2 fun l ys q3 r3 p hp =>
  k l M2 p ys _ _ q3 ((k1.trans k2).trans (qB w2 hp _)) (yA w2 hp _ (fun _ z => nomatch z)) (.inl rfl) (w2.fresh hp).2 (xi w2 (k1.trans k2) hp) zp (r3.ext (qB w2 hp _))⟩
noncomputable def VD : AV -> AV -> MH -> (List AV -> Prop) -> Prop := fun x y M Q => ∃ l m, zL x M = some l /\ zL y M = some m /\ l.length + m.length <= sizeLine /\ Q (l ++ m)
theorem yW : JG Xg VD := ⟨fun w r1 r2 ⟨l, m, h1, h2, hs, q⟩ k => by
 obtain ⟨a, xs, rfl, e1, p1⟩ := zM w r1 h1
 obtain ⟨b, ys, rfl, e2, p2⟩ := zM w r2 h2
 exact ⟨a, b, xs, ys, rfl, rfl, e1, e2, by rw [p1.1, p2.1]; exact hs, k _ _ q (p1.append p2)⟩⟩
theorem ze.rep {H : Hp} {O : Own} {M : MH} {xs : List V} {l : List AV} (a : ze H O M xs l) : ∀ k : Nat, ze H O M (List.replicate k xs).flatten (List.replicate k l).flatten
 | 0 => .nil
 | k + 1 => by rw [List.replicate_succ, List.replicate_succ, List.flatten_cons, List.flatten_cons]; exact a.append (ze.rep a k)
noncomputable def Vl : AV -> AV -> MH -> (List AV -> Prop) -> Prop := fun x y M Q => ∃ l k, zL x M = some l /\ y = .d (.int k) /\ -(2 ^ 63) <= k /\ k < 2 ^ 63 /\ l.length * k.toNat <= sizeLine /\ Q (List.replicate k.toNat l).flatten
theorem vL : JG KH Vl := ⟨fun w r1 r2 ⟨l, n, h1, e, b1, b2, hs, q⟩ k => by
 subst e
 obtain ⟨a, xs, rfl, e1, p1⟩ := zM w r1 h1
 exact ⟨a, n, xs, rfl, zA r2, e1, b1, b2, by rw [p1.1]; exact hs, k _ _ q (p1.rep _)⟩⟩
noncomputable abbrev AO := ASt -> MH -> (Option Int -> MH -> Prop) -> Prop
structure Ak (t : TO) (a : AO) : Prop where
 go : ∀ {σ : St} {H : Hp} {O : Own} {ρ : ASt} {M : MH} {Q : Option Int -> Hp -> Prop} {Q' : Option Int -> MH -> Prop}, Wf H O M -> Er H O M σ ρ -> a ρ M Q' -> (∀ x M' H' O', Q' x M' -> Ext H O M H' O' M' -> Wf H' O' M' -> Q x H') -> t σ H Q
end L2
set_option Elab.async false
set_option linter.all false
set_option maxRecDepth 100000
set_option maxHeartbeats 4000000
namespace L2
open PySem PySem.Spec PyProof.Rows
mutual
noncomputable def eqD : Dat -> Dat -> Bool
 | .non, .non => true
 | .bl a, .bl b => a == b
 | .bl a, .int b => (if a then 1 else 0) == b
 | .int a, .bl b => a == (if b then 1 else 0)
 | .int a, .int b => a == b
 | .str a, .str b => a == b
 | .lst a, .lst b => jz a b
 | .tup a, .tup b => jz a b
 | _, _ => false
noncomputable def jz : List Dat -> List Dat -> Bool
 | [], [] => true
 | a :: r, b :: r' => eqD a b && jz r r'
 | _, _ => false
end
mutual
noncomputable def dp : Dat -> Nat
 | .lst l => dps l + 1
 | .tup l => dps l + 1
 | .rng _ _ _ => 1000
 | .scr _ _ => 1000
 | .ty _ => 1000
 | _ => 0
noncomputable def dps : List Dat -> Nat
 | [] => 0
 | a :: r => max (dp a) (dps r)
end
theorem QF {l : List Dat} {n : Nat} (h : ∀ d ∈ l, dp d <= n) : dps l <= n := by
 induction l with
 | nil => exact Nat.zero_le _
 | cons a r ih => rw [dps]; exact Nat.max_le.mpr ⟨h a (by simp), ih fun d hd => h d (by simp [hd])⟩
theorem zQ {l : List Dat} {d : Dat} (h : d ∈ l) : dp d <= dps l := by
 induction l with
 | nil => cases h
 | cons a r ih =>
  rw [dps]
  rcases List.mem_cons.mp h with rfl | h
  ·exact Nat.le_max_left _ _
  ·exact Nat.le_trans (ih h) (Nat.le_max_right _ _)
theorem je : ∀ (l m : List Dat), l.length = m.length -> jz l m = (List.range l.length).all fun j => eqD (l.getD j .non) (m.getD j .non)
 | [], [], _ => rfl
 | a :: r, b :: r', h => by
  rw [jz, je r r' (by simpa using h), List.length_cons, List.range_succ_eq_map, List.all_cons, List.all_map]; rfl
 | [], _ :: _, h => by simp at h
 | _ :: _, [], h => by simp at h
theorem jl : ∀ (l m : List Dat), l.length ≠ m.length -> jz l m = false
 | [], [], h => absurd rfl h
 | a :: r, b :: r', h => by rw [jz, jl r r' (fun z => h (by simp [z])), Bool.and_false]
 | [], _ :: _, h => by simp [jz]
 | _ :: _, [], h => by simp [jz]
theorem QU (l m : List Dat) : eqD (.lst l) (.tup m) = false := by simp [eqD]
theorem JO (l m : List Dat) : eqD (.tup l) (.lst m) = false := by simp [eqD]
theorem KP {p : Dat -> Prop} (h : ∀ a, (∀ b, dp b < dp a -> p b) -> p a) (a : Dat) : p a := by
 have : ∀ n a, dp a <= n -> p a := fun n => by
  induction n with
  | zero => intro a ha; exact h a fun b hb => absurd hb (by omega)
  | succ n ih => intro a ha; exact h a fun b hb => ih b (by omega)
 exact this (dp a) a (Nat.le_refl _)
theorem xN {l : List Dat} (h : ∀ d ∈ l, eqD d d = true) : jz l l = true := by
 induction l with
 | nil => rfl
 | cons a r ih => rw [jz, h a (by simp), ih fun d hd => h d (by simp [hd])]; rfl
theorem Jz {a : Dat} : dp a < 1000 -> eqD a a = true := by
 refine KP (p := fun a => dp a < 1000 -> eqD a a = true) (fun a ih ha => ?_) a
 cases a with
 | non => rfl
 | bl b => rw [eqD]; simp
 | int i => rw [eqD]; simp
 | str x => rw [eqD]; simp
 | lst l =>
  rw [eqD]
  rw [dp] at ha ih
  exact xN fun d hd => ih d (by have := zQ hd; omega) (by have := zQ hd; omega)
 | tup l =>
  rw [eqD]
  rw [dp] at ha ih
  exact xN fun d hd => ih d (by have := zQ hd; omega) (by have := zQ hd; omega)
 | rng a b c => rw [dp] at ha; omega
 | scr _ l => rw [dp] at ha; omega
 | ty l => rw [dp] at ha; omega
theorem Rep.fn {H : Hp} {O O' : Own} {v : V} {a b : Dat} (r : Rep H O v a) : Rep H O' v b -> dp a < 1000 -> dp b < 1000 -> a = b := by
 induction r generalizing b with
 | non => intro r' _ _; cases r'; rfl
 | bl => intro r' _ _; cases r'; rfl
 | int => intro r' _ _; cases r'; rfl
 | str => intro r' _ _; cases r'; rfl
 | ty => intro r' h _; rw [dp] at h; omega
 | rng _ _ => intro r' h _; rw [dp] at h; omega
 | scr _ _ => intro r' h _; rw [dp] at h; omega
 | scrK _ => intro r' h _; rw [dp] at h; omega
 | @lst a xs l o1 h1 l1 r1 ih =>
  intro r' ha hb
  cases r' with
  | @lst _ ys m o2 h2 l2 r2 =>
   rw [h1] at h2; cases h2
   congr 1
   refine List.ext_getElem (l1.symm.trans l2) fun i i1 i2 => ?_
   have i0 : i < xs.length := by omega
   rw [dp] at ha hb
   refine ih i xs[i] l[i] (by simp [i0]) (by simp [i1]) (r2 i xs[i] m[i] (by simp [i0]) (by simp [i2])) ?_ ?_
   ·have := zQ (List.getElem_mem i1); omega
   ·have := zQ (List.getElem_mem i2); omega
  | @tup _ ys m o2 h2 => rw [h1] at h2; cases h2
  | rng o2 h2 => rw [dp] at hb; omega
  | scr o2 h2 => rw [dp] at hb; omega
  | scrK _ => rw [dp] at hb; omega
 | @tup a xs l o1 h1 l1 r1 ih =>
  intro r' ha hb
  cases r' with
  | @tup _ ys m o2 h2 l2 r2 =>
   rw [h1] at h2; cases h2
   congr 1
   refine List.ext_getElem (l1.symm.trans l2) fun i i1 i2 => ?_
   have i0 : i < xs.length := by omega
   rw [dp] at ha hb
   refine ih i xs[i] l[i] (by simp [i0]) (by simp [i1]) (r2 i xs[i] m[i] (by simp [i0]) (by simp [i2])) ?_ ?_
   ·have := zQ (List.getElem_mem i1); omega
   ·have := zQ (List.getElem_mem i2); omega
  | @lst _ ys m o2 h2 => rw [h1] at h2; cases h2
  | rng o2 h2 => rw [dp] at hb; omega
  | scr o2 h2 => rw [dp] at hb; omega
  | scrK _ => rw [dp] at hb; omega
section
variable {X : Cx} {pins : List (Addr × Obj)} {s : Shared} {σ : St} {H : Hp}
theorem qY {xs : List V} {us : List Value} (r : zq xs us) {j : Nat} (h : j < us.toArray.size) : ∃ x, xs[j]? = some x /\ zr x us.toArray[j] := by
 have h' : j < us.length := by simpa using h
 have hx : j < xs.length := by rw [r.length]; exact h'
 obtain ⟨u, hu, ru⟩ := r.get (i := j) (List.getElem?_eq_getElem hx)
 have e : us.toArray[j] = u := by
  have := (List.getElem?_eq_some_iff.mp hu).2
  simpa using this
 exact ⟨xs[j], List.getElem?_eq_getElem hx, by rw [e]; exact ru⟩
theorem Jy (I : Inv X pins σ H s) {A : Around} {p q : Addr} {O O' : Own} {a b : Dat} (ih : ∀ (c d : Dat) (v u : V) (v' u' : Value), dp c < dp a -> Rep H O v c -> Rep H O' u d -> dp d < 1000 -> zr v v' -> zr u u' -> SeqAt.EqAt A.in1 s v' u' (eqD c d))
    (ra : Rep H O (.ref p) a) (rb : Rep H O' (.ref q) b) (ha : dp a < 1000) (hb : dp b < 1000) (hu : A.units < cLine) : SeqAt.RcAt A s (.ref p) (.ref q) (eqD a b) := by
  cases ra with
  | @lst _ xs l o1 h1 l1 r1 =>
    obtain ⟨us, u1, p1, z1⟩ := I.list (SqL.of h1)
    cases rb with
    | @lst _ ys m o2 h2 l2 r2 =>
      obtain ⟨ws, u2, p2, z2⟩ := I.list (SqL.of h2)
      have s1 : us.toArray.size = l.length := by rw [List.size_toArray, <- u1.length, l1]
      have s2 : ws.toArray.size = m.length := by rw [List.size_toArray, <- u2.length, l2]
      by_cases e : l.length = m.length
      · have h := SeqAt.RcAt.lists (A := A) (e := fun j => eqD (l.getD j .non) (m.getD j .non)) p1.isList p2.isList (by rw [s1, s2, e]) hu (fun j j1 j2 => by
          obtain ⟨x, hx, rx⟩ := qY u1 j1
          obtain ⟨y, hy, ry⟩ := qY u2 j2
          have k1 : j < l.length := by rw [<- s1]; exact j1
          have k2 : j < m.length := by rw [<- s2]; exact j2
          rw [dp] at ha hb ih
          refine ih _ _ x y _ _ ?_ (r1 j x _ hx ?_) (r2 j y _ hy ?_) ?_ rx ry
          · rw [List.getD_eq_getElem?_getD, List.getElem?_eq_getElem k1]
            have := zQ (List.getElem_mem k1); show dp l[j] < _; omega
          · rw [List.getD_eq_getElem?_getD, List.getElem?_eq_getElem k1]; rfl
          · rw [List.getD_eq_getElem?_getD, List.getElem?_eq_getElem k2]; rfl
          · rw [List.getD_eq_getElem?_getD, List.getElem?_eq_getElem k2]
            have := zQ (List.getElem_mem k2); show dp m[j] < _; omega)
        rw [s1, <- je l m e] at h
        rw [eqD]; exact h
      · rw [eqD, jl l m e]
        exact SeqAt.RcAt.lists_lengths p1.isList p2.isList (by rw [s1, s2]; simpa using e) hu
    | @tup _ ys m o2 h2 l2 r2 =>
      obtain ⟨ws, u2, p2, z2⟩ := I.tuple (SqT.of h2)
      rw [QU]
      exact SeqAt.RcAt.list_tuple p1.isList p2 hu
    | rng o2 h2 => rw [dp] at hb; omega
    | scr o2 h2 => rw [dp] at hb; omega
    | scrK _ => rw [dp] at hb; omega
  | @tup _ xs l o1 h1 l1 r1 =>
    obtain ⟨us, u1, p1, z1⟩ := I.tuple (SqT.of h1)
    cases rb with
    | @tup _ ys m o2 h2 l2 r2 =>
      obtain ⟨ws, u2, p2, z2⟩ := I.tuple (SqT.of h2)
      have s1 : us.toArray.size = l.length := by rw [List.size_toArray, <- u1.length, l1]
      have s2 : ws.toArray.size = m.length := by rw [List.size_toArray, <- u2.length, l2]
      have h := SeqAt.RcAt.tuples (A := A) (e := fun j => eqD (l.getD j .non) (m.getD j .non)) (show s.heap.IsTuple p us.toArray from p1) (show s.heap.IsTuple q ws.toArray from p2) hu (fun j j1 j2 => by
          obtain ⟨x, hx, rx⟩ := qY u1 j1
          obtain ⟨y, hy, ry⟩ := qY u2 j2
          have k1 : j < l.length := by rw [<- s1]; exact j1
          have k2 : j < m.length := by rw [<- s2]; exact j2
          rw [dp] at ha hb ih
          refine ih _ _ x y _ _ ?_ (r1 j x _ hx ?_) (r2 j y _ hy ?_) ?_ rx ry
          · rw [List.getD_eq_getElem?_getD, List.getElem?_eq_getElem k1]
            have := zQ (List.getElem_mem k1); show dp l[j] < _; omega
          · rw [List.getD_eq_getElem?_getD, List.getElem?_eq_getElem k1]; rfl
          · rw [List.getD_eq_getElem?_getD, List.getElem?_eq_getElem k2]; rfl
          · rw [List.getD_eq_getElem?_getD, List.getElem?_eq_getElem k2]
            have := zQ (List.getElem_mem k2); show dp m[j] < _; omega)
      rw [s1, s2] at h
      rw [eqD]
      by_cases e : l.length = m.length
      · rw [<- e, Nat.min_self, beq_self_eq_true, Bool.and_true, <- je l m e] at h
        exact h
      · rw [jl l m e]
        rw [show (l.length == m.length) = false by simpa using e, Bool.and_false] at h
        exact h
    | @lst _ ys m o2 h2 l2 r2 =>
      obtain ⟨ws, u2, p2, z2⟩ := I.list (SqL.of h2)
      rw [JO]
      exact SeqAt.RcAt.tuple_list p1 p2.isList hu
    | rng o2 h2 => rw [dp] at hb; omega
    | scr o2 h2 => rw [dp] at hb; omega
    | scrK _ => rw [dp] at hb; omega
  | rng o2 h2 => rw [dp] at ha; omega
  | scr o2 h2 => rw [dp] at ha; omega
  | scrK _ => rw [dp] at ha; omega
theorem W8 (I : Inv X pins σ H s) {a : Addr} {xs : List V} (h : H a = some (.lst xs)) : ∃ us, s.heap.IsList a us := let ⟨_, _, p, _⟩ := I.list (SqL.of h); ⟨_, p.isList⟩
theorem W6 (I : Inv X pins σ H s) {a : Addr} {xs : List V} (h : H a = some (.tup xs)) : ∃ us, s.heap.IsTuple a us := let ⟨_, _, p, _⟩ := I.tuple (SqT.of h); ⟨_, p⟩
local macro_rules | `(tactic| walk_at "sc") => `(tactic| first
 | with_reducible exact .same _ | with_reducible exact .none_none | with_reducible exact .none_bool _ | with_reducible exact .none_int _ _ | with_reducible exact .none_str _ _ | with_reducible exact .bool_none _ | with_reducible exact .bool_bool _ _ | with_reducible exact .bool_int _ _ _ | with_reducible exact .bool_str _ _ _ | with_reducible exact .int_none _ _ | with_reducible exact .int_bool _ _ _ | with_reducible exact .int_int _ _ _ _ | with_reducible exact .int_str _ _ _ _ | with_reducible exact .str_none _ _ | with_reducible exact .str_bool _ _ _ | with_reducible exact .str_int _ _ _ _ | with_reducible exact .str_str _ _ _ _)
theorem ls_ (I : Inv X pins σ H s) {a : Addr} {xs : List V} (h : H a = some (.lst xs)) : s.heap.IsList a (Classical.choose (W8 I h)) := Classical.choose_spec _
theorem ts_ (I : Inv X pins σ H s) {a : Addr} {xs : List V} (h : H a = some (.tup xs)) : s.heap.IsTuple a (Classical.choose (W6 I h)) := Classical.choose_spec _
local macro_rules | `(tactic| walk_at "sq") => `(tactic| first
 | with_reducible exact .none_list (ls_ (by assumption) (by assumption)) (by assumption) | with_reducible exact .bool_list _ (ls_ (by assumption) (by assumption)) (by assumption) | with_reducible exact .int_list _ _ (ls_ (by assumption) (by assumption)) (by assumption) | with_reducible exact .str_list _ _ (ls_ (by assumption) (by assumption)) (by assumption) | with_reducible exact .list_none (ls_ (by assumption) (by assumption)) (by assumption) | with_reducible exact .list_bool _ (ls_ (by assumption) (by assumption)) (by assumption) | with_reducible exact .list_int _ _ (ls_ (by assumption) (by assumption)) (by assumption) | with_reducible exact .list_str _ _ (ls_ (by assumption) (by assumption)) (by assumption)
 | with_reducible exact .none_tuple (ts_ (by assumption) (by assumption)) (by assumption) | with_reducible exact .bool_tuple _ (ts_ (by assumption) (by assumption)) (by assumption) | with_reducible exact .int_tuple _ _ (ts_ (by assumption) (by assumption)) (by assumption) | with_reducible exact .str_tuple _ _ (ts_ (by assumption) (by assumption)) (by assumption) | with_reducible exact .tuple_none (ts_ (by assumption) (by assumption)) (by assumption) | with_reducible exact .tuple_bool _ (ts_ (by assumption) (by assumption)) (by assumption) | with_reducible exact .tuple_int _ _ (ts_ (by assumption) (by assumption)) (by assumption) | with_reducible exact .tuple_str _ _ (ts_ (by assumption) (by assumption)) (by assumption))
theorem wQ (I : Inv X pins σ H s) {O O' : Own} (A : Around) (hu : A.units < cLine) (a b : Dat) (v u : V) (v' u' : Value) (ha : dp a < 1000) (ra : Rep H O v a) (rb : Rep H O' u b) (hb : dp b < 1000) (rv : zr v v') (ru : zr u u')
    (ih : ∀ (c d : Dat) (v u : V) (v' u' : Value), dp c < dp a -> Rep H O v c -> Rep H O' u d -> dp d < 1000 -> zr v v' -> zr u u' -> SeqAt.EqAt A.in1 s v' u' (eqD c d)) : SeqAt.EqAt A s v' u' (eqD a b) := by
  by_cases hr : ∃ p q, v = .ref p /\ u = .ref q
  · obtain ⟨p, q, rfl, rfl⟩ := hr
    cases rv
    cases ru
    by_cases e : p = q
    · subst e
      rw [<- ra.fn rb ha hb, Jz ha]
      exact .same _
    · exact .of_refs e (Jy I ih ra rb ha hb hu)
  · cases ra <;> cases rb <;> first
      | with_reducible exact absurd ⟨_, _, rfl, rfl⟩ hr
      | (rw [dp] at ha; omega)
      | (rw [dp] at hb; omega)
      | ((first | (obtain ⟨t0, rfl⟩ := rv) | cases rv); (first | (obtain ⟨t1, rfl⟩ := ru) | cases ru); simp only [eqD, Bool.not_false, Bool.not_true]; first | walk_at "sc" | walk_at "sq")
theorem QI (I : Inv X pins σ H s) {O O' : Own} : ∀ (n : Nat) (A : Around), A.units + n < cLine -> ∀ (a b : Dat) (v u : V) (v' u' : Value), dp a <= n -> n < 1000 -> Rep H O v a -> Rep H O' u b -> dp b < 1000 -> zr v v' -> zr u u' -> SeqAt.EqAt A s v' u' (eqD a b) := by
 intro n
 induction n with
 | zero =>
  intro A hu a b v u v' u' ha _ ra rb hb rv ru
  exact wQ I A (by omega) a b v u v' u' (by omega) ra rb hb rv ru fun _ _ _ _ _ _ h => absurd h (by omega)
 | succ n ih =>
  intro A hu a b v u v' u' ha hn ra rb hb rv ru
  exact wQ I A (by omega) a b v u v' u' (by omega) ra rb hb rv ru fun c d x y x' y' hc rc rd hd rx ry => ih A.in1 (by show A.units + 1 + n < _; omega) c d x y x' y' (by omega) (by omega) rc rd hd rx ry
noncomputable def Wd (f : Bool -> Bool) : R2 := fun x y H Q => ∃ O O' a b, Rep H O x a /\ Rep H O' y b /\ dp a <= 40 /\ dp b <= 40 /\ Q (.bl (f (eqD a b))) H
theorem VE (I : Inv X pins σ H s) {O O' : Own} (A : Around) (hu : A.units + 41 < cLine) (a b : Dat) (v u : V) (v' u' : Value) (ha : dp a <= 40) (ra : Rep H O v a) (rb : Rep H O' u b) (hb : dp b <= 40) (rv : zr v v') (ru : zr u u') : SeqAt.RcAt A s v' u' (eqD a b) := by
  have ih : ∀ (c d : Dat) (v u : V) (v' u' : Value), dp c < dp a -> Rep H O v c -> Rep H O' u d -> dp d < 1000 -> zr v v' -> zr u u' -> SeqAt.EqAt A.in1 s v' u' (eqD c d) := fun c d v u v' u' hc rc rd hd rv ru => QI I 40 A.in1 (by show A.units + 1 + 40 < _; omega) c d v u v' u' (by omega) (by omega) rc rd hd rv ru
  replace hu : A.units < cLine := by omega
  by_cases hr : ∃ p q, v = .ref p /\ u = .ref q
  · obtain ⟨p, q, rfl, rfl⟩ := hr
    cases rv
    cases ru
    exact Jy I ih ra rb (by omega) (by omega) hu
  · cases ra <;> cases rb <;> first
      | with_reducible exact absurd ⟨_, _, rfl, rfl⟩ hr
      | (rw [dp] at ha; omega)
      | (rw [dp] at hb; omega)
      | ((first | (obtain ⟨t0, rfl⟩ := rv) | cases rv); (first | (obtain ⟨t1, rfl⟩ := ru) | cases ru); simp only [eqD, Bool.not_false, Bool.not_true]; first | walk_at "sc" | walk_at "sq")
theorem Jl (I : Inv X pins σ H s) {A : Around} {p q : Addr} {O O' : Own} {a b : Dat} (ih : ∀ (c d : Dat) (v u : V) (v' u' : Value), dp c < dp a -> Rep H O v c -> Rep H O' u d -> dp d < 1000 -> zr v v' -> zr u u' -> SeqAt.EqAt A.in1 s v' u' (eqD c d))
    (ra : Rep H O (.ref p) a) (rb : Rep H O' (.ref q) b) (ha : dp a < 1000) (hb : dp b < 1000) (hu : A.units < cLine) : SeqAt.RcNeAt A s (.ref p) (.ref q) (!(eqD a b)) := by
  cases ra with
  | @lst _ xs l o1 h1 l1 r1 =>
    obtain ⟨us, u1, p1, z1⟩ := I.list (SqL.of h1)
    cases rb with
    | @lst _ ys m o2 h2 l2 r2 =>
      obtain ⟨ws, u2, p2, z2⟩ := I.list (SqL.of h2)
      have s1 : us.toArray.size = l.length := by rw [List.size_toArray, <- u1.length, l1]
      have s2 : ws.toArray.size = m.length := by rw [List.size_toArray, <- u2.length, l2]
      by_cases e : l.length = m.length
      · have h := SeqAt.RcNeAt.lists (A := A) (e := fun j => eqD (l.getD j .non) (m.getD j .non)) p1.isList p2.isList (by rw [s1, s2, e]) hu (fun j j1 j2 => by
          obtain ⟨x, hx, rx⟩ := qY u1 j1
          obtain ⟨y, hy, ry⟩ := qY u2 j2
          have k1 : j < l.length := by rw [<- s1]; exact j1
          have k2 : j < m.length := by rw [<- s2]; exact j2
          rw [dp] at ha hb ih
          refine ih _ _ x y _ _ ?_ (r1 j x _ hx ?_) (r2 j y _ hy ?_) ?_ rx ry
          · rw [List.getD_eq_getElem?_getD, List.getElem?_eq_getElem k1]
            have := zQ (List.getElem_mem k1); show dp l[j] < _; omega
          · rw [List.getD_eq_getElem?_getD, List.getElem?_eq_getElem k1]; rfl
          · rw [List.getD_eq_getElem?_getD, List.getElem?_eq_getElem k2]; rfl
          · rw [List.getD_eq_getElem?_getD, List.getElem?_eq_getElem k2]
            have := zQ (List.getElem_mem k2); show dp m[j] < _; omega)
        rw [s1, <- je l m e] at h
        rw [eqD]; exact h
      · rw [eqD, jl l m e]
        exact SeqAt.RcNeAt.lists_lengths p1.isList p2.isList (by rw [s1, s2]; simpa using e) hu
    | @tup _ ys m o2 h2 l2 r2 =>
      obtain ⟨ws, u2, p2, z2⟩ := I.tuple (SqT.of h2)
      rw [QU]
      exact SeqAt.RcNeAt.list_tuple p1.isList p2 hu
    | rng o2 h2 => rw [dp] at hb; omega
    | scr o2 h2 => rw [dp] at hb; omega
    | scrK _ => rw [dp] at hb; omega
  | @tup _ xs l o1 h1 l1 r1 =>
    obtain ⟨us, u1, p1, z1⟩ := I.tuple (SqT.of h1)
    cases rb with
    | @tup _ ys m o2 h2 l2 r2 =>
      obtain ⟨ws, u2, p2, z2⟩ := I.tuple (SqT.of h2)
      have s1 : us.toArray.size = l.length := by rw [List.size_toArray, <- u1.length, l1]
      have s2 : ws.toArray.size = m.length := by rw [List.size_toArray, <- u2.length, l2]
      have h := SeqAt.RcNeAt.tuples (A := A) (e := fun j => eqD (l.getD j .non) (m.getD j .non)) (show s.heap.IsTuple p us.toArray from p1) (show s.heap.IsTuple q ws.toArray from p2) hu (fun j j1 j2 => by
          obtain ⟨x, hx, rx⟩ := qY u1 j1
          obtain ⟨y, hy, ry⟩ := qY u2 j2
          have k1 : j < l.length := by rw [<- s1]; exact j1
          have k2 : j < m.length := by rw [<- s2]; exact j2
          rw [dp] at ha hb ih
          refine ih _ _ x y _ _ ?_ (r1 j x _ hx ?_) (r2 j y _ hy ?_) ?_ rx ry
          · rw [List.getD_eq_getElem?_getD, List.getElem?_eq_getElem k1]
            have := zQ (List.getElem_mem k1); show dp l[j] < _; omega
          · rw [List.getD_eq_getElem?_getD, List.getElem?_eq_getElem k1]; rfl
          · rw [List.getD_eq_getElem?_getD, List.getElem?_eq_getElem k2]; rfl
          · rw [List.getD_eq_getElem?_getD, List.getElem?_eq_getElem k2]
            have := zQ (List.getElem_mem k2); show dp m[j] < _; omega)
      rw [s1, s2] at h
      rw [eqD]
      by_cases e : l.length = m.length
      · rw [<- e, Nat.min_self, beq_self_eq_true, Bool.and_true, <- je l m e] at h
        exact h
      · rw [jl l m e]
        rw [show (l.length == m.length) = false by simpa using e, Bool.and_false] at h
        exact h
    | @lst _ ys m o2 h2 l2 r2 =>
      obtain ⟨ws, u2, p2, z2⟩ := I.list (SqL.of h2)
      rw [JO]
      exact SeqAt.RcNeAt.tuple_list p1 p2.isList hu
    | rng o2 h2 => rw [dp] at hb; omega
    | scr o2 h2 => rw [dp] at hb; omega
    | scrK _ => rw [dp] at hb; omega
  | rng o2 h2 => rw [dp] at ha; omega
  | scr o2 h2 => rw [dp] at ha; omega
  | scrK _ => rw [dp] at ha; omega
theorem JA (I : Inv X pins σ H s) {O O' : Own} (A : Around) (hu : A.units + 41 < cLine) (a b : Dat) (v u : V) (v' u' : Value) (ha : dp a <= 40) (ra : Rep H O v a) (rb : Rep H O' u b) (hb : dp b <= 40) (rv : zr v v') (ru : zr u u') : SeqAt.RcNeAt A s v' u' (!(eqD a b)) := by
  have ih : ∀ (c d : Dat) (v u : V) (v' u' : Value), dp c < dp a -> Rep H O v c -> Rep H O' u d -> dp d < 1000 -> zr v v' -> zr u u' -> SeqAt.EqAt A.in1 s v' u' (eqD c d) := fun c d v u v' u' hc rc rd hd rv ru => QI I 40 A.in1 (by show A.units + 1 + 40 < _; omega) c d v u v' u' (by omega) (by omega) rc rd hd rv ru
  replace hu : A.units < cLine := by omega
  by_cases hr : ∃ p q, v = .ref p /\ u = .ref q
  · obtain ⟨p, q, rfl, rfl⟩ := hr
    cases rv
    cases ru
    exact Jl I ih ra rb (by omega) (by omega) hu
  · cases ra <;> cases rb <;> first
      | with_reducible exact absurd ⟨_, _, rfl, rfl⟩ hr
      | (rw [dp] at ha; omega)
      | (rw [dp] at hb; omega)
      | ((first | (obtain ⟨t0, rfl⟩ := rv) | cases rv); (first | (obtain ⟨t1, rfl⟩ := ru) | cases ru); simp only [eqD, Bool.not_false, Bool.not_true]; first | walk_at "sc" | walk_at "sq")
theorem qh (hu : X.A.units + 64 < cLine) : OpR X (compareOp .Eq) (Wd id) := by
 intro pins s σ H x y v u Q I rx ry h
 obtain ⟨O, O', a, b, ra, rb, ha, hb, k⟩ := h
 exact VE I X.A (by omega) a b x y v u ha ra rb hb rx ry _ _ _ _ ⟨.bl _, H, I, rfl, k⟩
theorem ke (hu : X.A.units + 64 < cLine) : OpR X (compareOp .NotEq) (Wd not) := by
 intro pins s σ H x y v u Q I rx ry h
 obtain ⟨O, O', a, b, ra, rb, ha, hb, k⟩ := h
 exact JA I X.A (by omega) a b x y v u ha ra rb hb rx ry _ _ _ _ ⟨.bl _, H, I, rfl, k⟩
end
noncomputable def xm (x : AV) (M : MH) : Option Dat := match x with
 | .d x => some x
 | .ref a => match M a with
  | some (.lst l) => (pur l).map .lst
  | _ => none
theorem V9 (x : Dat) (M : MH) : xm (.d x) M = some x := rfl
theorem vf {H : Hp} {O : Own} {M : MH} {v : V} {x : AV} {d : Dat} (w : Wf H O M) (r : zl H O M v x) (h : xm x M = some d) : ∃ O', Rep H O' v d := by
 cases x with
 | d x => cases h; exact ⟨O, r⟩
 | ref a =>
  unfold xm at h
  dsimp only at h
  cases e : M a with
  | none => rw [e] at h; cases h
  | some o =>
   rw [e] at h
   cases o with
   | lst l =>
    dsimp only at h
    cases ep : pur l with
    | none => rw [ep] at h; cases h
    | some ds =>
     rw [ep] at h
     cases h
     obtain ⟨xs, hx, rx⟩ := w.mo a _ e
     rw [jo ep] at rx
     have rp := rx.pure
     refine ⟨KF O a, ?_⟩
     rw [r.1]
     exact Rep.lst (fun z => z.1 rfl) hx rp.1 fun i x d e1 e2 => (rp.2 i x d e1 e2).imp (kd a)
   | _ => cases h
noncomputable def WP (f : Bool -> Bool) : AR2 := fun x y M Q => ∃ a b, xm x M = some a /\ xm y M = some b /\ dp a <= 40 /\ dp b <= 40 /\ Q (.d (.bl (f (eqD a b)))) M
theorem KQ {f : Bool -> Bool} : v8 (Wd f) (WP f) := ⟨fun w r1 r2 ⟨a, b, e1, e2, h1, h2, q⟩ k => by
 obtain ⟨O1, p1⟩ := vf w r1 e1
 obtain ⟨O2, p2⟩ := vf w r2 e2
 exact ⟨O1, O2, a, b, p1, p2, h1, h2, k _ _ _ _ _ q .refl w .bl⟩⟩
theorem j9 (i : Int) : dp (.int i) = 0 := by simp [dp]
theorem qV (ns : List Int) : dp (.lst (ns.map .int)) <= 1 := by
 rw [dp]
 have : dps (ns.map Dat.int) <= 0 := QF fun d hd => by
  obtain ⟨i, _, rfl⟩ := List.mem_map.mp hd
  rw [j9]; exact Nat.le_refl _
 omega
theorem xD : ∀ (ns ms : List Int), jz (ns.map .int) (ms.map .int) = decide (ns = ms)
 | [], [] => by simp [jz]
 | [], _ :: _ => by simp [jz]
 | _ :: _, [] => by simp [jz]
 | a :: r, b :: r' => by
  rw [List.map_cons, List.map_cons, jz, xD r r', show eqD (.int a) (.int b) = (a == b) by simp [eqD]]
  by_cases h : a = b <;> simp [h]
theorem va (ns ms : List Int) : eqD (.lst (ns.map .int)) (.lst (ms.map .int)) = decide (ns = ms) := by rw [eqD, xD]
end L2
set_option Elab.async false
set_option linter.all false
set_option maxRecDepth 100000
set_option maxHeartbeats 4000000
namespace L2
open PySem PySem.Spec PyProof.Rows
theorem qQ {H : Hp} {O : Own} {M : MH} {vs : List V} {x : AV} (r : ze H O M vs [x]) : ∃ v, vs = [v] /\ zl H O M v x := by
 obtain ⟨v1, r', rfl, a1, r2⟩ := r.cons_inv
 rw [r2.nil_inv]; exact ⟨v1, rfl, a1⟩
theorem jY {H : Hp} {O : Own} {M : MH} {vs : List V} {x y : AV} (r : ze H O M vs [x, y]) : ∃ v u, vs = [v, u] /\ zl H O M v x /\ zl H O M u y := by
 obtain ⟨v1, r', rfl, a1, r2⟩ := r.cons_inv
 obtain ⟨v2, rfl, a2⟩ := qQ r2
 exact ⟨v1, v2, rfl, a1, a2⟩
noncomputable def Ws : List AV -> MH -> AK -> Prop := fun xs M Q => ∃ x l, xs = [x] /\ jk x M = some l /\ Q (.d (.int (l.length : Nat))) M
theorem KY {K : PySem.W.Frag} : vO (fun xs H Q => ∃ p ys, xs = [V.ref p] /\ (SqL K H p ys \/ SqT K H p ys) /\ Q (V.int ys.length) H) Ws := ⟨fun w r ⟨x, l, e, h, q⟩ k => by
 subst e
 obtain ⟨v, rfl, rv⟩ := qQ r
 obtain ⟨a, xs, rfl, h1, r1⟩ := wb w rv h
 exact ⟨a, xs, rfl, h1.elim (fun h => .inl (SqL.of h)) (fun h => .inr (SqT.of h)), by rw [r1.1]; exact k _ _ _ _ _ q .refl w .int⟩⟩
noncomputable def bI2 (f : Int -> Int -> Int) : List AV -> MH -> AK -> Prop := fun xs M Q => ∃ i j, xs = [.d (.int i), .d (.int j)] /\ Q (.d (.int (f i j))) M
theorem VP {f : Int -> Int -> Int} : vO (fun xs H Q => ∃ i j, xs = [V.int i, V.int j] /\ Q (V.int (f i j)) H) (bI2 f) := ⟨fun w r ⟨i, j, e, q⟩ k => by
 subst e
 obtain ⟨v, u, rfl, rv, ru⟩ := jY r
 exact ⟨i, j, by rw [zA rv, zA ru], k _ _ _ _ _ q .refl w .int⟩⟩
noncomputable def Yc : List AV -> MH -> AK -> Prop := fun xs M Q => ∃ c, xs = [.d (.bl c)] /\ Q (.d (.int (if c = true then 1 else 0))) M
theorem Kv : vO (fun xs H Q => ∃ k, xs = [V.bl k] /\ Q (V.int (if k = true then 1 else 0)) H) Yc := ⟨fun w r ⟨c, e, q⟩ k => by
 subst e
 obtain ⟨v, rfl, rv⟩ := qQ r
 exact ⟨c, by rw [kc rv], k _ _ _ _ _ q .refl w .int⟩⟩
structure Qw (r : List V -> Hp -> VK -> Prop) (a : List AV -> MH -> (List AV -> Prop) -> Prop) : Prop where
 go : ∀ {vs : List V} {xs : List AV} {H : Hp} {O : Own} {M : MH} {Q : VK} {Q' : List AV -> Prop}, Wf H O M -> ze H O M vs xs -> a xs M Q' -> (∀ l ys, Q' l -> ze H O M ys l -> ∀ p, H p = none -> Q (.ref p) (upd H p (.lst ys))) -> r vs H Q
noncomputable def fCB (r : List AV -> MH -> (List AV -> Prop) -> Prop) (b : AA) : AF := fun ρ M Q => b ρ M fun xs M1 => r xs M1 fun l => Q l M1
theorem yo {r : List V -> Hp -> VK -> Prop} {ra : List AV -> MH -> (List AV -> Prop) -> Prop} {u : TA} {b : AA} (hr : Qw r ra) (h : ja u b) : wr (tCB r u) (fCB ra b) :=
 ⟨fun w e q k => h.go w e q fun x M1 v H1 O1 q1 k1 w1 r1 => hr.go w1 r1 q1 fun l ys q3 r3 p hp =>
  k l M1 p ys _ _ q3 (k1.trans (qB w1 hp _)) (yA w1 hp _ (fun _ z => nomatch z)) (.inl rfl) (w1.fresh hp).2 (xi w1 k1 hp) zp (r3.ext (qB w1 hp _))⟩
noncomputable def Ja : List AV -> MH -> (List AV -> Prop) -> Prop := fun xs M Q => ∃ x l, xs = [x] /\ jk x M = some l /\ Q l
theorem xZ {K : PySem.W.Frag} : Qw (fun xs H Q => ∃ p ys, xs = [V.ref p] /\ (SqL K H p ys \/ SqT K H p ys) /\ ∀ l, H l = none -> Q (V.ref l) (upd H l (HO.lst ys))) Ja := ⟨fun w r ⟨x, l, e, h, q⟩ k => by
 subst e
 obtain ⟨v, rfl, rv⟩ := qQ r
 obtain ⟨a, xs, rfl, h1, r1⟩ := wb w rv h
 exact ⟨a, xs, rfl, h1.elim (fun h => .inl (SqL.of h)) (fun h => .inr (SqT.of h)), k _ _ q r1⟩⟩
theorem xn {H : Hp} {O : Own} {M : MH} : ∀ {ns : List Int} {xs : List V}, ze H O M xs (ns.map fun i => AV.d (.int i)) -> xs = ns.map V.int
 | [], xs, r => r.nil_inv
 | i :: ns, xs, r => by
  obtain ⟨v, r', rfl, a1, r2⟩ := r.cons_inv
  rw [zA a1, xn r2]; rfl
noncomputable def tyA (x : AV) (M : MH) : Option String := match x with
 | .d .non => some "NoneType"
 | .d (.bl _) => some "bool"
 | .d (.int _) => some "int"
 | .d (.str _) => some "str"
 | .d (.lst _) => some "list"
 | .d (.tup _) => some "tuple"
 | .ref a => match M a with
  | some (.lst _) => some "list"
  | some (.dK _) => some "dict"
  | _ => none
 | _ => none
theorem Jo {K : PySem.W.Frag} {H : Hp} {O : Own} {M : MH} {v : V} {x : AV} {t : String} (w : Wf H O M) (r : zl H O M v x) (h : tyA x M = some t) : jb K H v (.type t) := by
 cases x with
 | d x =>
  cases (show Rep H O v x from r) with
  | non => cases h; exact .non
  | bl => cases h; exact .bl _
  | int => cases h; exact .int _
  | str => cases h; exact .str _
  | lst o e => cases h; exact .lst e
  | tup o e => cases h; exact .tup e
  | ty => cases h
  | rng _ _ => cases h
  | scr _ _ => cases h
  | scrK _ => cases h
 | ref a =>
  unfold tyA at h
  dsimp only at h
  rw [r.1]
  cases e : M a with
  | none => rw [e] at h; cases h
  | some o =>
   rw [e] at h
   have := w.mo a o e
   cases o with
   | lst l => cases h; obtain ⟨xs, hx, _⟩ := this; exact .lst hx
   | dK l => cases h; obtain ⟨xs, hx, _⟩ := this; exact .dK hx
   | ins C fs => cases h
noncomputable def Wu : List AV -> MH -> AK -> Prop := fun xs M Q => ∃ x t c b, xs = [x, .d (.ty c)] /\ tyA x M = some t /\ isT t c = some b /\ Q (.d (.bl b)) M
theorem XT {K : PySem.W.Frag} : vO (fun xs H Q => ∃ x t c b, xs = [x, V.ty c] /\ jb K H x (Value.type t) /\ isT t c = some b /\ Q (V.bl b) H) Wu := ⟨fun w r ⟨x, t, c, b, e, h, hb, q⟩ k => by
 subst e
 obtain ⟨v, u, rfl, rv, ru⟩ := jY r
 exact ⟨v, t, c, b, by rw [QY ru], Jo w rv h, hb, k _ _ _ _ _ q .refl w .bl⟩⟩
theorem Zl {H : Hp} {O : Own} {M : MH} : ∀ {ns : List String} {xs : List V}, ze H O M xs ((ns.map Dat.ty).map .d) -> xs = ns.map V.ty
 | [], xs, r => r.nil_inv
 | i :: ns, xs, r => by
  obtain ⟨v, r', rfl, a1, r2⟩ := r.cons_inv
  rw [QY a1, Zl r2]; rfl
noncomputable def vq : List Dat -> Option (List String)
 | [] => some []
 | .ty n :: r => (vq r).map (n :: ·)
 | _ => none
theorem wH : ∀ {l : List Dat} {cs : List String}, vq l = some cs -> l = cs.map Dat.ty
 | [], cs, h => by cases h; rfl
 | .ty n :: r, cs, h => by
  unfold vq at h
  cases e : vq r with
  | none => rw [e] at h; cases h
  | some m => rw [e] at h; cases h; rw [wH e]; rfl
 | .non :: _, _, h => by cases h
 | .bl _ :: _, _, h => by cases h
 | .int _ :: _, _, h => by cases h
 | .str _ :: _, _, h => by cases h
 | .lst _ :: _, _, h => by cases h
 | .tup _ :: _, _, h => by cases h
 | .rng _ _ _ :: _, _, h => by cases h
 | .scr _ _ :: _, _, h => by cases h
noncomputable def XZ : List AV -> MH -> AK -> Prop := fun xs M Q => ∃ x t l cs b, xs = [x, .d (.tup l)] /\ vq l = some cs /\ tyA x M = some t /\ kE t cs = some b /\ Q (.d (.bl b)) M
theorem JW {K : PySem.W.Frag} : vO (fun xs H Q => ∃ x t p cs b, xs = [x, V.ref p] /\ H p = some (HO.tup (List.map V.ty cs)) /\ jb K H x (Value.type t) /\ kE t cs = some b /\ Q (V.bl b) H) XZ := ⟨fun w r ⟨x, t, l, cs, b, e, hc, h, hb, q⟩ k => by
 subst e
 obtain ⟨v, u, rfl, rv, ru⟩ := jY r
 rw [wH hc] at ru
 obtain ⟨a, xs, rfl, h1, r1⟩ := qH (l := (cs.map Dat.ty).map .d) ru rfl
 rw [Zl r1] at h1
 exact ⟨v, t, a, cs, b, rfl, h1, Jo w rv h, hb, k _ _ _ _ _ q .refl w .bl⟩⟩
theorem wJ {H : Hp} {O : Own} {M : MH} : ∀ {ns : List Bool} {xs : List V}, ze H O M xs (ns.map fun i => AV.d (.bl i)) -> xs = ns.map V.bl
 | [], xs, r => r.nil_inv
 | i :: ns, xs, r => by
  obtain ⟨v, r', rfl, a1, r2⟩ := r.cons_inv
  rw [kc a1, wJ r2]; rfl
noncomputable def Wr (f : List Bool -> Bool) : List AV -> MH -> AK -> Prop := fun xs M Q => ∃ x bs, xs = [x] /\ zL x M = some (List.map (fun b => AV.d (.bl b)) bs) /\ Q (.d (.bl (f bs))) M
theorem Xm {K : PySem.W.Frag} {f : List Bool -> Bool} : vO (fun xs H Q => ∃ p bs, xs = [V.ref p] /\ SqL K H p (List.map V.bl bs) /\ Q (V.bl (f bs)) H) (Wr f) := ⟨fun w r ⟨x, bs, e, h, q⟩ k => by
 subst e
 obtain ⟨v, rfl, rv⟩ := qQ r
 obtain ⟨a, xs, rfl, h1, r1⟩ := zM w rv h
 rw [wJ r1] at h1
 exact ⟨a, bs, rfl, SqL.of h1, k _ _ _ _ _ q .refl w .bl⟩⟩
noncomputable def X1 : List AV -> MH -> AK -> Prop := fun xs M Q => ∃ b, xs = [.d (.int b)] /\ Q (.d (.rng 0 b 1)) M
theorem QN : vO (fun xs H Q => ∃ b, xs = [V.int b] /\ ∀ (p : Addr), H p = none -> Q (V.ref p) (upd H p (vx p 0 b 1))) X1 := ⟨fun w r ⟨b, e, q⟩ k => by
 subst e
 obtain ⟨v, rfl, rv⟩ := qQ r
 exact ⟨b, by rw [zA rv], fun p hp => k _ _ _ _ _ q (qx w hp _) (yC w hp _) (Rep.rng (w.fresh hp).1 zp)⟩⟩
noncomputable def QZ : List AV -> MH -> (List AV -> Prop) -> Prop := fun xs M Q => ∃ a b c n, xs = [.d (.rng a b c)] /\ Builtin.Range.small a b c = true /\ Builtin.Range.rangeSize a b c = ((n : Nat) : Int) /\ n <= 100000 /\ Q ((qt a c n).map fun i => AV.d (.int i))
theorem xI : Qw (fun xs H Q => ∃ p a b c n, xs = [.ref p] /\ H p = some (vx p a b c) /\ Builtin.Range.small a b c = true /\ Builtin.Range.rangeSize a b c = ((n : Nat) : Int) /\ n <= 100000 /\ ∀ l, H l = none -> Q (.ref l) (upd H l (.lst ((qt a c n).map V.int)))) QZ := ⟨fun {vs xs H O M Q Q'} w r ⟨a, b, c, n, e, h1, h2, h3, q⟩ k => by
 subst e
 obtain ⟨v, rfl, rv⟩ := qQ r
 cases (show Rep H O v (.rng a b c) from rv) with
 | rng o h => exact ⟨_, a, b, c, n, rfl, h, h1, h2, h3, k _ _ q (yd _)⟩⟩
structure YX (r : V -> List V -> Hp -> VK -> Prop) (a : AV -> List AV -> MH -> AK -> Prop) : Prop where
 go : ∀ {x : V} {dx : AV} {vs : List V} {xs : List AV} {H : Hp} {O : Own} {M : MH} {Q : VK} {Q' : AK}, Wf H O M -> zl H O M x dx -> ze H O M vs xs -> a dx xs M Q' -> (∀ x M' v H' O', Q' x M' -> Ext H O M H' O' M' -> Wf H' O' M' -> zl H' O' M' v x -> Q v H') -> r x vs H Q
noncomputable def aBM (r : AV -> List AV -> MH -> AK -> Prop) (a : AE) (b : AA) : AE := fun ρ M Q => a ρ M fun x M1 => (∃ l, zL x M1 = some l) /\ b ρ M1 fun xs M2 => r x xs M2 Q
theorem Yo {K : PySem.W.Frag} {r : V -> List V -> Hp -> VK -> Prop} {ra : AV -> List AV -> MH -> AK -> Prop} {t : TE} {u : TA} {a : AE} {b : AA} (hr : YX r ra) (h1 : zH t a) (h2 : ja u b) : zH (tBM K "list" r t u) (aBM ra a b) :=
 ⟨fun w e q k => h1.go w e q fun x M1 v H1 O1 ⟨⟨l, hl⟩, q1⟩ k1 w1 r1 => ⟨by
  obtain ⟨a, xs, rfl, hx, _⟩ := zM w1 r1 hl
  exact .inl ⟨rfl, xs, SqL.of hx⟩, h2.go w1 (e.ext k1) q1 fun y M2 u H2 O2 q2 k2 w2 r2 => hr.go w2 (r1.ext k2) r2 q2 fun z M3 v3 H3 O3 q3 k3 w3 r3 => k z M3 v3 H3 O3 q3 ((k1.trans k2).trans k3) w3 r3⟩⟩
theorem yQ {H : Hp} {O : Own} {M : MH} {p : Addr} {l l' : List AV} {xs' : List V} (w : Wf H O M) (hm : M p = some (.lst l)) (r : ze H O M xs' l') : Ext H O M (upd H p (.lst xs')) O (mup M p (.lst l')) /\ Wf (upd H p (.lst xs')) O (mup M p (.lst l')) :=
 have np := qD hm
 ⟨jP w np _ _, Kj w np (fun _ z => nomatch z) ⟨_, zp, r.ext (jP w np _ _)⟩⟩
noncomputable def Zi : AV -> List AV -> MH -> AK -> Prop := fun x xs M Q => ∃ p l y, x = .ref p /\ xs = [y] /\ M p = some (.lst l) /\ l.length < sizeLine /\ Q (.d .non) (mup M p (.lst (l ++ [y])))
theorem vV : YX kA Zi := ⟨fun w r1 r2 ⟨p, l, y, e1, e2, hm, hs, q⟩ k => by
 subst e1 e2
 obtain ⟨v, rfl, rv⟩ := qQ r2
 obtain ⟨xs, hx, rx⟩ := w.mo p _ hm
 obtain ⟨k1, w1⟩ := yQ w hm (rx.snoc rv)
 exact ⟨p, xs, v, r1.1, rfl, hx, by rw [rx.1]; exact hs, k _ _ _ _ _ q k1 w1 .non⟩⟩
noncomputable def wF : AV -> List AV -> MH -> AK -> Prop := fun x xs M Q => ∃ p l y m, x = .ref p /\ xs = [y] /\ M p = some (.lst l) /\ zL y M = some m /\ l.length + m.length <= sizeLine /\ Q (.d .non) (mup M p (.lst (l ++ m)))
theorem wn : YX kq wF := ⟨fun w r1 r2 ⟨p, l, y, m, e1, e2, hm, hy, hs, q⟩ k => by
 subst e1 e2
 obtain ⟨v, rfl, rv⟩ := qQ r2
 obtain ⟨xs, hx, rx⟩ := w.mo p _ hm
 obtain ⟨b, ys, rfl, hb, rb⟩ := zM w rv hy
 obtain ⟨k1, w1⟩ := yQ w hm (rx.append rb)
 exact ⟨p, b, xs, ys, r1.1, rfl, hx, hb, by rw [rx.1, rb.1]; exact hs, k _ _ _ _ _ q k1 w1 .non⟩⟩
noncomputable def Zj (r : Addr) : MO -> Prop
 | .lst l => AV.ref r ∈ l
 | .dK kvs => AV.ref r ∈ kvs.map (·.2)
 | .ins _ fs => AV.ref r ∈ fs.map (·.2)
structure Jv (M0 M' : MH) (x x' : AV) (M'' : MH) : Prop where
 sub : ∀ q, M'' q = M' q \/ (M0 q = none /\ M'' q = none)
 cl : ∀ q o, M'' q = some o -> M0 q = some o \/ ∀ r, Zj r o -> M'' r ≠ none
 res : (x' = x /\ ∀ p, x = .ref p -> M'' p ≠ none) \/ ∃ p l ds, x = .ref p /\ M' p = some (.lst l) /\ pur l = some ds /\ M'' p = none /\ x' = .d (.lst ds)
theorem QO {H0 H : Hp} {O0 O : Own} {M0 M' M'' : MH} {x x' : AV} {v : V} (w0 : Wf H0 O0 M0) (w : Wf H O M') (k : Ext H0 O0 M0 H O M') (r : zl H O M' v x) (f : Jv M0 M' x x' M'') :
    ∃ O'', Wf H O'' M'' /\ Ext H0 O0 M0 H O'' M'' /\ zl H O'' M'' v x' := by
  have ks : ∀ a u, ¬ O a -> H a = some u -> H a = some u /\ ¬ (O a /\ ¬ (M' a ≠ none /\ M'' a = none)) := fun a u h e => ⟨e, fun z => h z.1⟩
  have k0 : ∀ a, M0 a ≠ none -> M'' a = M' a := fun a h => (f.sub a).elim (fun z => z) (fun z => absurd z.1 h)
  have m0 : ∀ a, M0 a ≠ none -> M'' a ≠ none := fun a h => by rw [k0 a h]; exact k.mst a h
  have avs : ∀ {xs : List V} {l : List AV}, ze H O M' xs l -> (∀ r, AV.ref r ∈ l -> M'' r ≠ none) -> ze H (fun a => O a /\ ¬ (M' a ≠ none /\ M'' a = none)) M'' xs l := fun {xs l} rr hr => ⟨rr.1, fun i y d e1 e2 => by
    have := rr.2 i y d e1 e2
    cases d with
    | d d => exact Rep.imp ks this
    | ref a => exact ⟨this.1, hr a (List.mem_of_getElem? e2)⟩⟩
  have refs0 : ∀ q o, M0 q = some o -> ∀ r, Zj r o -> M0 r ≠ none := fun q o e r hr => by
    have := w0.mo q o e
    cases o with
    | lst l =>
      obtain ⟨xs, _, rr⟩ := this
      obtain ⟨i, hi⟩ := List.getElem?_of_mem hr
      obtain ⟨y, _, ry⟩ := rr.get hi
      exact ry.2
    | dK l =>
      obtain ⟨xs, _, rr⟩ := this
      obtain ⟨i, hi⟩ := List.getElem?_of_mem hr
      obtain ⟨y, _, ry⟩ := rr.2.get hi
      exact ry.2
    | ins C l =>
      obtain ⟨dx, xs, _, rr, _⟩ := this
      obtain ⟨i, hi⟩ := List.getElem?_of_mem hr
      obtain ⟨y, _, ry⟩ := rr.2.get hi
      exact ry.2
  refine ⟨fun a => O a /\ ¬ (M' a ≠ none /\ M'' a = none), ⟨fun q o e => ?_, fun a h => ?_, fun a h => w.al a h.1⟩, ⟨fun a u h e => ?_, fun a h e => ?_, m0⟩, ?_⟩
  · have e' : M' q = some o := by
      rcases f.sub q with z | z
      · rw [<- z]; exact e
      · rw [z.2] at e; cases e
    have hr : ∀ r, Zj r o -> M'' r ≠ none := by
      rcases f.cl q o e with z | z
      · exact fun r hr => m0 r (refs0 q o z r hr)
      · exact z
    have := w.mo q o e'
    cases o with
    | lst l => obtain ⟨xs, h1, rr⟩ := this; exact ⟨xs, h1, avs rr hr⟩
    | dK l => obtain ⟨xs, h1, rr⟩ := this; exact ⟨xs, h1, rr.1, avs rr.2 hr⟩
    | ins C l =>
      obtain ⟨dx, xs, h1, rr, h2, h3, h4⟩ := this
      refine ⟨dx, xs, h1, ⟨rr.1, avs rr.2 hr⟩, ⟨h2, fun z => z.1 h3⟩, ?_, h4⟩
      rcases f.sub dx with z | z
      · rw [z]; exact h3
      · exact z.2
  · refine ⟨w.own a ?_, fun z => h z.2⟩
    rcases f.sub a with z | z
    · rw [<- z]; exact h
    · exact absurd z.2 h
  · obtain ⟨x1, x2⟩ := k.fix a u h e
    exact ⟨x1, fun z => x2 z.1⟩
  · obtain ⟨x1, x2, x3⟩ := k.prv a h e
    refine ⟨x1, ⟨x2, fun z => z.1 x3⟩, ?_⟩
    rcases f.sub a with z | z
    · rw [z]; exact x3
    · exact z.2
  · rcases f.res with ⟨rfl, hp⟩ | ⟨p, l, ds, rfl, hm, hp, hn, rfl⟩
    · cases x' with
      | d d => exact Rep.imp ks r
      | ref a => exact ⟨r.1, hp a rfl⟩
    · obtain ⟨xs, hx, rx⟩ := w.mo p _ hm
      rw [jo hp] at rx
      have rp := rx.pure
      rw [r.1]
      exact Rep.lst (fun z => z.2 ⟨qD hm, hn⟩) hx rp.1 fun i x d e1 e2 => (rp.2 i x d e1 e2).imp ks
noncomputable def Fr (M0 M : MH) : Prop := ∀ q, M0 q ≠ none -> M q = M0 q
theorem Fr.refl {M : MH} : Fr M M := fun _ _ => rfl
theorem Fr.mup {M0 M : MH} (f : Fr M0 M) {p : Addr} (h : M0 p = none) (o : MO) : Fr M0 (mup M p o) := fun q hq => by rw [zD (fun z => hq (by rw [z]; exact h))]; exact f q hq
theorem Fr.sub {M0 M : MH} (f : Fr M0 M) (q : Addr) : M0 q = M q \/ (M0 q = none /\ M0 q = none) := by
 cases e : M0 q with
 | none => exact .inr ⟨rfl, rfl⟩
 | some o => exact .inl (by rw [f q (by rw [e]; exact fun z => nomatch z), e])
theorem Yd {M0 M : MH} (f : Fr M0 M) (d : Dat) : Jv M0 M (.d d) (.d d) M0 := ⟨f.sub, fun q o e => .inl e, .inl ⟨rfl, fun p z => nomatch z⟩⟩
theorem Ze {M0 M : MH} (f : Fr M0 M) {p : Addr} {l : List AV} {ds : List Dat} (h0 : M0 p = none) (h : M p = some (.lst l)) (hp : pur l = some ds) : Jv M0 M (.ref p) (.d (.lst ds)) M0 := ⟨f.sub, fun q o e => .inl e, .inr ⟨p, l, ds, rfl, h, hp, h0, rfl⟩⟩
theorem Zf {l : List AV} {ds : List Dat} (h : pur l = some ds) (r : Addr) : AV.ref r ∉ l := by
 rw [jo h]; intro z
 obtain ⟨d, _, e⟩ := List.mem_map.mp z
 cases e
noncomputable def zV (N : List Str) (xs : List AV) : ASt := xs.map some ++ List.replicate (N.length - xs.length) none
theorem J4 {H : Hp} {O : Own} {M : MH} {vs : List V} {xs : List AV} (r : ze H O M vs xs) (N : List Str) : Er H O M (qy N vs) (zV N xs) := by
 unfold qy zV
 refine ⟨by simp [r.1], fun i x h => ?_⟩
 by_cases c : i < xs.length
 ·rw [List.getElem?_append_left (by simpa using c), List.getElem?_map] at h
  cases e : xs[i]? with
  | none => rw [e] at h; cases h
  | some y =>
   rw [e] at h
   cases h
   obtain ⟨v, hv, rv⟩ := r.get e
   exact ⟨v, by rw [List.getElem?_append_left (by rw [List.length_map, r.1]; exact c), List.getElem?_map, hv]; rfl, rv⟩
 ·rw [List.getElem?_append_right (by simp; omega), List.getElem?_replicate] at h
  split at h <;> cases h
noncomputable def rtA (M0 : MH) (Q : AK) : AK := fun x M' => ∃ x' M'', Jv M0 M' x x' M'' /\ Q x' M''
theorem dfA {P : Program} {w : World} {K : PySem.W.Frag} {mg : Str -> Option Value} {base : Heap} {x : Str} {st : Stmt} {N ps : List Str} {k : Nat} {a : ASp} (at_ : At K mg x st) (S : zz N ps (zj st))
  (hb : ∀ (kV doc pm : Value) (an : Option Addr) (cdv ct : Value) (us : List Value), us.length = ps.length -> bindArgs (PySem.W.fnOf x x (qv st) (qc st) (zj st) .none kV doc pm an cdv ct) ⟨us, []⟩ = pure (ps.zip us))
  (len : ∀ xs M Q, a xs M Q -> xs.length = ps.length)
  (hbody : ∀ (f : Addr) (cdv : Value) (A : Around) (outer : List Env) (s : Shared) (H : Hp) (E : XK), qK k (A.deeper (envOfC x (zj st) s.heap.objs.size f cdv)) ->
   ∃ t, PSs (yi CX0 P w K mg base N x (zj st) f cdv A outer s H E).nox (qc st) t /\ ∃ b, qE t b /\ ∀ xs M Q, a xs M Q -> b M { nx := fun _ M' => rtA M Q (.d .non) M', rt := rtA M Q } (zV N xs) M) : Df P w K mg base x ps (k + 1) (cSp a) := by
 refine vi at_ S hb (fun vs H Q E h => ?_) (fun f cdv A outer s H vs Q E hr h => ?_)
 ·obtain ⟨xs, M, O, Q', w, r, q, _⟩ := h
  rw [r.1]; exact len xs M Q' q
 ·obtain ⟨t, ht, b, hb, hq⟩ := hbody f cdv A outer s H E hr
  refine ⟨t, ht, ?_⟩
  obtain ⟨xs, M, O, Q', w, r, q, kk⟩ := h
  refine hb.go w w (J4 r N) .refl (hq xs M Q' q) ⟨fun σ H' O' ρ M' w' e' x' q' => ?_, fun v y H' O' M' w' x' r' q' => ?_, fun _ _ _ _ _ _ _ _ z => z.elim, fun _ _ _ _ _ _ _ _ z => z.elim⟩
  ·obtain ⟨y', M'', f, q2⟩ := q'
   obtain ⟨O'', w2, k2, r2⟩ := QO w w' x' (show zl H' O' M' .non (.d .non) from .non) f
   exact kk _ _ _ _ _ q2 k2 w2 r2
  ·obtain ⟨y', M'', f, q2⟩ := q'
   obtain ⟨O'', w2, k2, r2⟩ := QO w w' x' r' f
   exact kk _ _ _ _ _ q2 k2 w2 r2
end L2
set_option Elab.async false
set_option linter.all false
set_option maxRecDepth 100000
set_option maxHeartbeats 4000000
namespace L2
open PySem PySem.Spec PyProof.Rows
structure Ae (tr : Addr -> TR) (a : ATR) : Prop where
 go : ∀ D, wD D (tr D) a
theorem Qn {t u : TE} {a b : AE} (h1 : zH t a) (h2 : zH u b) : zH (tOp Xg t u) (aFz (fOp VD a b)) := jS (yt yW h1 h2)
theorem Jq {t u : TE} {a b : AE} (h1 : zH t a) (h2 : zH u b) : zH (tOp KH t u) (aFz (fOp Vl a b)) := jS (yt vL h1 h2)
theorem ZI {K : PySem.W.Frag} {u : TA} {b : AA} (h : ja u b) : zH (tCB (fun xs H Q => ∃ p ys, xs = [V.ref p] /\ (SqL K H p ys \/ SqT K H p ys) /\ ∀ l, H l = none -> Q (V.ref l) (upd H l (HO.lst ys))) u) (aFz (fCB Ja b)) := jS (yo xZ h)
theorem Zy {u : TA} {b : AA} (h : ja u b) : zH (tCB (fun xs H Q => ∃ p a b c n, xs = [.ref p] /\ H p = some (vx p a b c) /\ Builtin.Range.small a b c = true /\ Builtin.Range.rangeSize a b c = ((n : Nat) : Int) /\ n <= 100000 /\ ∀ l, H l = none -> Q (.ref l) (upd H l (.lst ((qt a c n).map V.int)))) u) (aFz (fCB QZ b)) := jS (yo xI h)
theorem ex2 {t : TS} {q : AS -> Prop} {b : AS} (h : qE t b) (k : q b) : ∃ b, qE t b /\ q b := ⟨b, h, k⟩
section
variable {X : Cx} {K : PySem.W.Frag}
end
theorem yl {τ : Type} (R : τ -> ASt) (f : AV -> AV) {ag : AG} {ae : AE} {G : MH -> Prop} {N : List AV -> ASt -> MH -> Prop} {l : List AV} {ρ : ASt} {M : MH} (h0 : ∃ o, ρ = R o) (hG : G M) (hl : l.length <= 100000)
  (hs : ∀ (o : τ) (x : AV) (Q : AV -> ASt -> MH -> Prop), x ∈ l -> (∀ o', Q (f x) (R o') M) -> ag x (R o) M fun ρ2 M2 => ae ρ2 M2 fun y M3 => Q y ρ2 M3) (hN : ∀ o, N (l.map f) (R o) M) : K6 ag wB (vG ae) G N l [] ρ M := by
 have hsl : 100000 < sizeLine := by rw [sizeLine_eq]; decide
 refine ⟨fun i acc ρ' M' => i <= l.length /\ acc = (l.take i).map f /\ M' = M /\ ∃ o, ρ' = R o, ⟨Nat.zero_le _, rfl, rfl, h0⟩, ?_, ?_⟩
 ·rintro i x acc ρ' M' hx ⟨hi, rfl, rfl, o, rfl⟩
  have hil := (List.getElem?_eq_some_iff.mp hx).1
  refine ⟨hG, ?_⟩
  refine hs o x (fun y ρ2 M3 => ((l.take i).map f).length < sizeLine /\ (i + 1 <= l.length /\ (l.take i).map f ++ [y] = (l.take (i + 1)).map f /\ M3 = M' /\ ∃ o, ρ2 = R o)) (List.mem_of_getElem? hx) fun o' => ⟨by rw [List.length_map, List.length_take]; omega, hil, ?_, rfl, o', rfl⟩
  rw [List.take_add_one, hx, List.map_append]; rfl
 ·rintro acc ρ' M' ⟨_, rfl, rfl, o, rfl⟩
  rw [List.take_length]
  exact ⟨hG, hN o⟩
theorem VX : isT "int" "int" = some true := by decide +kernel
theorem Vz : isT "int" "bool" = some false := by decide +kernel
theorem Wm : isT "int" "str" = some false := by decide +kernel
theorem Vo : isT "int" "list" = some false := by decide +kernel
theorem VS : isT "int" "tuple" = some false := by decide +kernel
theorem YD : isT "bool" "int" = some true := by decide +kernel
theorem Wc : isT "bool" "bool" = some true := by decide +kernel
theorem Yl : isT "bool" "str" = some false := by decide +kernel
theorem Y9 : isT "bool" "list" = some false := by decide +kernel
theorem Y0 : isT "bool" "tuple" = some false := by decide +kernel
theorem Wg : isT "str" "int" = some false := by decide +kernel
theorem YH : isT "str" "bool" = some false := by decide +kernel
theorem YI : isT "str" "str" = some true := by decide +kernel
theorem Vf : isT "str" "list" = some false := by decide +kernel
theorem We : isT "str" "tuple" = some false := by decide +kernel
theorem Wh : isT "NoneType" "int" = some false := by decide +kernel
theorem Vg : isT "NoneType" "bool" = some false := by decide +kernel
theorem Vi : isT "NoneType" "str" = some false := by decide +kernel
theorem Wb : isT "NoneType" "list" = some false := by decide +kernel
theorem Wl : isT "NoneType" "tuple" = some false := by decide +kernel
theorem Vt : isT "list" "int" = some false := by decide +kernel
theorem YS : isT "list" "bool" = some false := by decide +kernel
theorem Vy : isT "list" "str" = some false := by decide +kernel
theorem Vh : isT "list" "list" = some true := by decide +kernel
theorem VO : isT "list" "tuple" = some false := by decide +kernel
theorem Vw : isT "tuple" "int" = some false := by decide +kernel
theorem Y2 : isT "tuple" "bool" = some false := by decide +kernel
theorem VJ : isT "tuple" "str" = some false := by decide +kernel
theorem VC : isT "tuple" "list" = some false := by decide +kernel
theorem VY : isT "tuple" "tuple" = some true := by decide +kernel
theorem Vj : kE "int" ["list", "tuple"] = some false := by decide +kernel
theorem Yx : kE "bool" ["list", "tuple"] = some false := by decide +kernel
theorem YV : kE "str" ["list", "tuple"] = some false := by decide +kernel
theorem YJ : kE "NoneType" ["list", "tuple"] = some false := by decide +kernel
theorem Vd : kE "list" ["list", "tuple"] = some true := by decide +kernel
theorem YB : kE "tuple" ["list", "tuple"] = some true := by decide +kernel
theorem Kh : vq [] = some [] := rfl
theorem Z5 {n : String} {r : List Dat} : vq (.ty n :: r) = (vq r).map (n :: ·) := rfl
theorem WV (M : MH) : tyA (.d .non) M = some "NoneType" := rfl
theorem WC (b : Bool) (M : MH) : tyA (.d (.bl b)) M = some "bool" := rfl
theorem W5 (i : Int) (M : MH) : tyA (.d (.int i)) M = some "int" := rfl
theorem WY (s : Str) (M : MH) : tyA (.d (.str s)) M = some "str" := rfl
theorem Wv (l : List Dat) (M : MH) : tyA (.d (.lst l)) M = some "list" := rfl
theorem WG (l : List Dat) (M : MH) : tyA (.d (.tup l)) M = some "tuple" := rfl
theorem Zs (x : Dat) (r : List AV) : pur (.d x :: r) = match pur r with | some l => some (x :: l) | none => none := rfl
theorem YE (i j : Int) : eqS (.int i) (.int j) = some (decide (i = j)) := rfl
theorem V8 (i j : Bool) : eqS (.bl i) (.bl j) = some (decide (i = j)) := rfl
theorem Wi (i j : Str) : eqS (.str i) (.str j) = some (decide (i = j)) := rfl
theorem KB : jA (.d .non) = true := rfl
theorem Xp (i : Int) : jA (.d (.int i)) = false := rfl
theorem Xk (i : List Dat) : jA (.d (.lst i)) = false := rfl
theorem Xy (i : List Dat) : jA (.d (.tup i)) = false := rfl
theorem Xb (i : Addr) : jA (.ref i) = false := rfl
theorem K8 (i : Str) : jA (.d (.str i)) = false := rfl
theorem Xi (i : Bool) : jA (.d (.bl i)) = false := rfl
end L2
set_option Elab.async false
set_option linter.all false
set_option maxRecDepth 100000
set_option maxHeartbeats 4000000
namespace L2
open PySem PySem.Spec PyProof.Rows
theorem Qm {H H' : Hp} {O : Own} {M : MH} (w : Wf H O M) (k : Kp [] H H') : Ext H O M H' O M /\ Wf H' O M := by
 have e : Ext H O M H' O M := ⟨fun a o h e => ⟨k a o (by simp) e, h⟩, fun a h e => ⟨by
  obtain ⟨o, ho, _⟩ := w.al a h
  rw [ho]; exact k a o (by simp) ho, h, e⟩, fun _ h => h⟩
 refine ⟨e, ⟨fun a o h => qo.ext e ?_ (w.mo a o h), w.own, fun a h => ?_⟩⟩
 ·obtain ⟨u, hu, _⟩ := w.al a (w.own a (by rw [h]; exact fun z => nomatch z))
  rw [hu]; exact k a u (by simp) hu
 ·obtain ⟨o, ho, hn⟩ := w.al a h
  exact ⟨o, k a o (by simp) ho, hn⟩
theorem Yp {H H' : Hp} {O : Own} {M : MH} (w : Wf H O M) {b : Addr} {l : List AV} (hb : M b = some (.lst l)) (k : Kp [b] H H') {ns : List Int} (h : H' b = some (.lst (ns.map V.int))) :
  Ext H O M H' O (mup M b (.lst (ns.map fun i => .d (.int i)))) /\ Wf H' O (mup M b (.lst (ns.map fun i => .d (.int i)))) := by
 have hOb := w.own b (qD hb)
 have kk : ∀ a o, a ≠ b -> H a = some o -> H' a = some o := fun a o ha e => k a o (by simpa using ha) e
 have e : Ext H O M H' O (mup M b (.lst (ns.map fun i => .d (.int i)))) := ⟨fun a o h e => ⟨kk a o (fun z => h (by rw [z]; exact hOb)) e, h⟩, fun a ha e => by
  have hne : a ≠ b := fun z => by rw [z, hb] at e; cases e
  obtain ⟨o, ho, _⟩ := w.al a ha
  exact ⟨by rw [ho]; exact kk a o hne ho, ha, by rw [zD hne]; exact e⟩, fun a ha => by
  by_cases c : a = b
  ·rw [c, zm]; exact fun z => nomatch z
  ·rw [zD c]; exact ha⟩
 refine ⟨e, ⟨fun a o ho => ?_, fun a ha => ?_, fun a ha => ?_⟩⟩
 ·by_cases c : a = b
  ·subst c; rw [zm] at ho; cases ho; exact ⟨_, h, yd ns⟩
  ·rw [zD c] at ho
   refine qo.ext e ?_ (w.mo a o ho)
   obtain ⟨u, hu, _⟩ := w.al a (w.own a (qD ho))
   rw [hu]; exact kk a u c hu
 ·by_cases c : a = b
  ·rw [c]; exact hOb
  ·rw [zD c] at ha; exact w.own a ha
 ·by_cases c : a = b
  ·rw [c]; exact ⟨_, h, fun xs z => nomatch z⟩
  ·obtain ⟨o, ho, hn⟩ := w.al a ha
   exact ⟨o, kk a o c ho, hn⟩
theorem QX {H : Hp} {O : Own} {p : Addr} {ns : List Int} (ho : ¬ O p) (h : H p = some (.lst (ns.map V.int))) : Rep H O (.ref p) (.lst (ns.map .int)) :=
 Rep.lst ho h (by simp) fun i x d e1 e2 => by
  rw [List.getElem?_map] at e1 e2
  cases e : ns[i]? with
  | none => rw [e] at e1; cases e1
  | some n => rw [e] at e1 e2; cases e1; cases e2; exact .int
theorem Q1 {H : Hp} {O : Own} {M : MH} {v : V} {x : AV} {ns : List Int} (w : Wf H O M) (r : zl H O M v x) (h : zL x M = some (ns.map fun i => .d (.int i))) : ∃ a, v = .ref a /\ H a = some (.lst (ns.map V.int)) := by
 obtain ⟨a, xs, rfl, h1, r1⟩ := zM w r h
 rw [xn r1] at h1
 exact ⟨a, rfl, h1⟩
theorem Df.imp' {P : Program} {w : World} {K : PySem.W.Frag} {mg : Str -> Option Value} {base : Heap} {x : Str} {ps : List Str} {sp sp' : Sp} {k : Nat} (D : Df P w K mg base x ps k sp) (h : ∀ vs H Q E, sp' vs H Q E -> sp vs H Q E) : Df P w K mg base x ps k sp' :=
 let ⟨f, fd, F, r⟩ := D
 ⟨f, fd, F.imp h, r⟩
mutual
noncomputable def wdt : Dat -> Nat
 | .lst l => max l.length (Qy l)
 | .tup l => max l.length (Qy l)
 | _ => 0
noncomputable def Qy : List Dat -> Nat
 | [] => 0
 | a :: r => max (wdt a) (Qy r)
end
theorem wU {l : List Dat} {d : Dat} (h : d ∈ l) : wdt d <= Qy l := by
 induction l with
 | nil => cases h
 | cons a r ih =>
  rw [Qy]
  rcases List.mem_cons.mp h with rfl | h
  ·exact Nat.le_max_left _ _
  ·exact Nat.le_trans (ih h) (Nat.le_max_right _ _)
noncomputable def j5 (n : Nat) (d : Dat) : Prop := dp d <= n /\ wdt d <= 100000
theorem yO (n : Nat) (i : Int) : j5 n (.int i) := ⟨by simp [dp], by simp [wdt]⟩
theorem j5.lst {n : Nat} {l : List Dat} (h : j5 (n + 1) (.lst l)) : l.length <= 100000 /\ ∀ d ∈ l, j5 n d := by
 obtain ⟨h1, h2⟩ := h
 rw [dp] at h1
 rw [wdt] at h2
 exact ⟨(Nat.max_le.mp h2).1, fun d hd => ⟨by have := zQ hd; omega, Nat.le_trans (wU hd) (Nat.max_le.mp h2).2⟩⟩
theorem j5.tup {n : Nat} {l : List Dat} (h : j5 (n + 1) (.tup l)) : l.length <= 100000 /\ ∀ d ∈ l, j5 n d := by
 obtain ⟨h1, h2⟩ := h
 rw [dp] at h1
 rw [wdt] at h2
 exact ⟨(Nat.max_le.mp h2).1, fun d hd => ⟨by have := zQ hd; omega, Nat.le_trans (wU hd) (Nat.max_le.mp h2).2⟩⟩
theorem j5.no_l {l : List Dat} (h : j5 0 (.lst l)) : False := by have := h.1; rw [dp] at this; omega
theorem j5.no_t {l : List Dat} (h : j5 0 (.tup l)) : False := by have := h.1; rw [dp] at this; omega
theorem vp {x : AV} {M : MH} {l : List Dat} (h : xm x M = some (.lst l)) : zL x M = some (l.map .d) /\ jk x M = some (l.map .d) /\ tyA x M = some "list" /\ jA x = false := by
 cases x with
 | d x => cases h; exact ⟨rfl, rfl, rfl, rfl⟩
 | ref a =>
  unfold xm at h
  dsimp only at h
  cases e : M a with
  | none => rw [e] at h; cases h
  | some o =>
   rw [e] at h
   cases o with
   | lst m =>
    dsimp only at h
    cases ep : pur m with
    | none => rw [ep] at h; cases h
    | some ds =>
     rw [ep] at h
     cases h
     rw [jo ep] at e
     exact ⟨qm e, Kl e, by unfold tyA; dsimp only; rw [e], rfl⟩
   | _ => cases h
theorem zP {x : AV} {M : MH} {d : Dat} (h : xm x M = some d) (hd : ∀ l, d ≠ .lst l) : x = .d d := by
 cases x with
 | d x => cases h; rfl
 | ref a =>
  unfold xm at h
  dsimp only at h
  cases e : M a with
  | none => rw [e] at h; cases h
  | some o =>
   rw [e] at h
   cases o with
   | lst m =>
    dsimp only at h
    cases ep : pur m with
    | none => rw [ep] at h; cases h
    | some ds => rw [ep] at h; cases h; exact absurd rfl (hd ds)
   | _ => cases h
theorem WT (b : Bool) : dp (.bl b) = 0 := by simp [dp]
theorem Y1 (b : Str) : dp (.str b) = 0 := by simp [dp]
theorem VT : dp .non = 0 := by simp [dp]
theorem V7 (a b : Bool) : eqD (.bl a) (.bl b) = decide (a = b) := by rw [eqD]; cases a <;> cases b <;> rfl
theorem v9 (a b : Int) : eqD (.int a) (.int b) = decide (a = b) := by rw [eqD]; by_cases h : a = b <;> simp [h]
theorem Ym (a b : Str) : eqD (.str a) (.str b) = decide (a = b) := by rw [eqD]; by_cases h : a = b <;> simp [h]
theorem YU : eqD .non .non = true := by simp [eqD]
theorem VF (i : Int) : eqD .non (.int i) = false := by simp [eqD]
theorem Y4 (i : Int) : eqD (.int i) .non = false := by simp [eqD]
theorem Yn (i : Int) (s : Str) : eqD (.int i) (.str s) = false := by simp [eqD]
theorem VB (i : Int) (s : Str) : eqD (.str s) (.int i) = false := by simp [eqD]
theorem Vs (s : Str) : eqD (.str s) .non = false := by simp [eqD]
theorem VI (s : Str) : eqD .non (.str s) = false := by simp [eqD]
theorem xS (ns : List Int) : List.map AV.d (List.map Dat.int ns) = List.map (fun i => AV.d (.int i)) ns := by rw [List.map_map]; rfl
theorem Yg (ns : List Bool) : List.map AV.d (List.map Dat.bl ns) = List.map (fun i => AV.d (.bl i)) ns := by rw [List.map_map]; rfl
theorem qe (ns : List Int) : pur (List.map (fun i => AV.d (.int i)) ns) = some (ns.map Dat.int) := by rw [<- xS, qW]
theorem KN (ns : List Bool) : pur (List.map (fun i => AV.d (.bl i)) ns) = some (ns.map Dat.bl) := by rw [<- Yg, qW]
theorem KI {α β : Type} (f : α -> β) (l : List α) (i : Int) : atI (l.map f) i = (atI l i).map f := by
 unfold atI
 rw [List.length_map]
 cases ixN l.length i with
 | none => rfl
 | some j => exact List.getElem?_map ..
theorem J0 {n : Nat} {i : Int} (h0 : 0 <= i) (h1 : i < n) : ixN n i = some i.toNat := by unfold ixN; rw [if_pos h0, if_pos h1]
theorem Vm {α : Type} {l : List α} {i : Int} (h0 : 0 <= i) (h1 : i < l.length) (d : α) : atI l i = some (l.getD i.toNat d) := by
 unfold atI
 rw [J0 h0 h1]
 show l[i.toNat]? = _
 rw [List.getD_eq_getElem?_getD, List.getElem?_eq_getElem (by omega)]; rfl
theorem JP {ns : List Int} {i : Int} (h0 : 0 <= i) (h1 : i < ns.length) : atI (ns.map fun i => AV.d (.int i)) i = some (.d (.int (ns.getD i.toNat 0))) := by rw [KI, Vm h0 h1 0]; rfl
theorem zi {a jD : AS} {B : MH} {D : kI} {ρ : ASt} {M : MH} (h : ∀ r, r = jD -> jG a r B D ρ M) : jG a jD B D ρ M := h jD rfl
theorem Fr.non {M M' : MH} (f : Fr M M') {p : Addr} (h : M' p = none) : M p = none := by
 cases e : M p with
 | none => rfl
 | some o => rw [f p (by rw [e]; exact fun z => nomatch z), e] at h; cases h
noncomputable abbrev ilD (os : List Int) : Dat := .lst (os.map .int)
theorem KZ (ns : List Int) (M : MH) : zL (.d (ilD ns)) M = some (ns.map fun i => .d (.int i)) := by rw [Kd, xS]
noncomputable def BxM (M : MH) (b : Addr) (N : Nat) : Prop := ∃ x y z : Int, M b = some (.lst [.d (.int x), .d (.int y), .d (.int z)]) /\ 0 <= x /\ 0 <= y /\ y < 2147483648 /\ 0 <= z /\ z <= N
theorem BxM.mono {M : MH} {b : Addr} {N N' : Nat} (h : BxM M b N) (hn : N <= N') : BxM M b N' := by
 obtain ⟨x, y, z, h1, h2, h3, h4, h5, h6⟩ := h
 exact ⟨x, y, z, h1, h2, h3, h4, h5, by omega⟩
theorem BxM.ne {M : MH} {b : Addr} {N : Nat} (h : BxM M b N) : M b ≠ none := by obtain ⟨x, y, z, h1, _⟩ := h; exact qD h1
theorem BxM.bx {H : Hp} {O : Own} {M : MH} {b : Addr} {N : Nat} (w : Wf H O M) (h : BxM M b N) : Bx H b N := by
 obtain ⟨x, y, z, h1, h2⟩ := h
 obtain ⟨xs, hx, rx⟩ := w.mo b _ h1
 rw [xn (ns := [x, y, z]) rx] at hx
 exact ⟨x, y, z, hx, h2⟩
noncomputable def BxS (M M' : MH) (b : Addr) (N : Nat) : Prop := BxM M' b N /\ ∃ o, M' = mup M b o
theorem BxS.at {M M' : MH} {b : Addr} {N : Nat} (h : BxS M M' b N) {q : Addr} (hq : q ≠ b) : M' q = M q := by
 obtain ⟨_, o, rfl⟩ := h
 exact zD hq
theorem YL {H H' : Hp} {O : Own} {M : MH} (w : Wf H O M) {b : Addr} {N N' : Nat} (hb : BxM M b N) (k : Kp [b] H H') (h : Bx H' b N') : ∃ M', BxS M M' b N' /\ Ext H O M H' O M' /\ Wf H' O M' := by
 obtain ⟨x, y, z, h1, _⟩ := hb
 obtain ⟨x', y', z', g1, g2⟩ := h
 obtain ⟨e1, e2⟩ := Yp w h1 k (ns := [x', y', z']) g1
 exact ⟨_, ⟨⟨x', y', z', zm, g2⟩, _, rfl⟩, e1, e2⟩
end L2
set_option Elab.async false
set_option linter.all false
set_option maxRecDepth 100000
set_option maxHeartbeats 4000000
namespace L2
open PySem PySem.Spec PyProof.Rows
mutual
noncomputable def pdD : Dat -> PyData
 | .bl b => .bool b
 | .int i => .int i
 | .str x => .str x
 | .lst l => .list (yy l)
 | .tup l => .tuple (yy l)
 | _ => .none
noncomputable def yy : List Dat -> List PyData
 | [] => []
 | a :: r => pdD a :: yy r
end
section
variable {X : Cx} {pins : List (Addr × Obj)} {s : Shared} {σ : St} {H : Hp} {O : Own}
mutual
theorem Y3 : ∀ d : Dat, (pdD d).hasDict = false
 | .non => by simp [pdD, PyData.hasDict]
 | .bl _ => by simp [pdD, PyData.hasDict]
 | .int _ => by simp [pdD, PyData.hasDict]
 | .str _ => by simp [pdD, PyData.hasDict]
 | .ty _ => by simp [pdD, PyData.hasDict]
 | .rng _ _ _ => by simp [pdD, PyData.hasDict]
 | .scr _ _ => by simp [pdD, PyData.hasDict]
 | .lst l => by rw [pdD, PyData.hasDict]; exact ym l
 | .tup l => by rw [pdD, PyData.hasDict]; exact ym l
theorem ym : ∀ l : List Dat, PyData.hasDictAll (yy l) = false
 | [] => by simp [yy, PyData.hasDictAll]
 | a :: r => by rw [yy, PyData.hasDictAll, Y3 a, ym r]; rfl
end
mutual
theorem Jd : ∀ d : Dat, (pdD d).depth <= dp d
 | .non => by simp [pdD, PyData.depth]
 | .bl _ => by simp [pdD, PyData.depth]
 | .int _ => by simp [pdD, PyData.depth]
 | .str _ => by simp [pdD, PyData.depth]
 | .ty _ => by simp [pdD, PyData.depth]
 | .rng _ _ _ => by simp [pdD, PyData.depth]
 | .scr _ _ => by simp [pdD, PyData.depth]
 | .lst l => by rw [pdD, PyData.depth, dp]; exact Nat.succ_le_succ (j4 l)
 | .tup l => by rw [pdD, PyData.depth, dp]; exact Nat.succ_le_succ (j4 l)
theorem j4 : ∀ l : List Dat, PyData.depthAll (yy l) <= dps l
 | [] => by simp [yy, PyData.depthAll]
 | a :: r => by rw [yy, PyData.depthAll, dps]; exact Nat.max_le.mpr ⟨Nat.le_trans (Jd a) (Nat.le_max_left _ _), Nat.le_trans (j4 r) (Nat.le_max_right _ _)⟩
end
end
section
variable {X : Cx}
end
structure Sh (b : Nat) (d : Dat) : Prop where
 s : (pdD d).showable = true
 l : (pdD d).shown.length <= b
end L2
set_option Elab.async false
set_option linter.all false
set_option maxRecDepth 100000
set_option maxHeartbeats 4000000
namespace L2
open PySem PySem.Spec PyProof.Rows
theorem BxM.refs {M : MH} {b : Addr} {N : Nat} (h : BxM M b N) {o : MO} (e : M b = some o) (r : Addr) : ¬ Zj r o := by
 obtain ⟨x, y, z, h1, _⟩ := h
 rw [h1] at e
 cases e
 exact Zf (l := [AV.d (.int x), AV.d (.int y), AV.d (.int z)]) (ds := [.int x, .int y, .int z]) rfl r
structure SB (M0 M : MH) (b : Addr) (N : Nat) : Prop where
 bx : BxM M b N
 fr : ∀ q, M0 q ≠ none -> q ≠ b -> M q = M0 q
 b0 : M0 b ≠ none
theorem SB.refl {M : MH} {b : Addr} {N : Nat} (h : BxM M b N) : SB M M b N := ⟨h, fun _ _ _ => rfl, h.ne⟩
theorem SB.go {M0 M M' : MH} {b : Addr} {N N' : Nat} (s : SB M0 M b N) (t : BxS M M' b N') : SB M0 M' b N' := ⟨t.1, fun q hq hb => (t.at hb).trans (s.fr q hq hb), s.b0⟩
theorem SB.mono {M0 M : MH} {b : Addr} {N N' : Nat} (s : SB M0 M b N) (h : N <= N') : SB M0 M b N' := ⟨s.bx.mono h, s.fr, s.b0⟩
theorem BxM.put {M : MH} {b p : Addr} {N : Nat} (h : BxM M b N) (n : b ≠ p) (o : MO) : BxM (mup M p o) b N := by
 obtain ⟨x, y, z, h1, h2⟩ := h
 exact ⟨x, y, z, by rw [zD n]; exact h1, h2⟩
theorem SB.new {M0 M : MH} {b p : Addr} {N : Nat} (s : SB M0 M b N) (hp : M p = none) : M0 p = none /\ p ≠ b := by
 have hb : p ≠ b := fun z => s.bx.ne (by rw [<- z]; exact hp)
 refine ⟨?_, hb⟩
 cases e : M0 p with
 | none => rfl
 | some o => rw [s.fr p (by rw [e]; exact fun z => nomatch z) hb, e] at hp; cases hp
theorem SB.fin {M0 M : MH} {b : Addr} {N : Nat} (s : SB M0 M b N) (d : Dat) : ∃ M'', Jv M0 M (.d d) (.d d) M'' /\ BxS M0 M'' b N := by
 obtain ⟨x, y, z, h1, h2⟩ := s.bx
 refine ⟨mup M0 b (.lst [.d (.int x), .d (.int y), .d (.int z)]), ⟨fun q => ?_, fun q o e => ?_, .inl ⟨rfl, fun p z => nomatch z⟩⟩, ⟨x, y, z, zm, h2⟩, _, rfl⟩
 ·by_cases c : q = b
  ·rw [c, zm, h1]; exact .inl rfl
  ·rw [zD c]
   cases e : M0 q with
   | none => exact .inr ⟨rfl, rfl⟩
   | some o => exact .inl (by rw [s.fr q (by rw [e]; exact fun z => nomatch z) c, e])
 ·by_cases c : q = b
  ·rw [c, zm] at e
   cases e
   exact .inr fun r hr => absurd hr (Zf (ds := [.int x, .int y, .int z]) rfl r)
  ·rw [zD c] at e; exact .inl e
theorem SB.rt {M0 M : MH} {b : Addr} {N : Nat} {Q : AK} {d : Dat} (s : SB M0 M b N) (q : ∀ M', BxS M0 M' b N -> Q (.d d) M') : rtA M0 Q (.d d) M := by
 obtain ⟨M'', f, t⟩ := s.fin d
 exact ⟨_, _, f, q M'' t⟩
theorem kM {M0 M : MH} {Q : AK} {d : Dat} (f : Fr M0 M) (q : Q (.d d) M0) : rtA M0 Q (.d d) M := ⟨_, _, Yd f d, q⟩
theorem SB.frm {M M2 M' : MH} {b : Addr} {N : Nat} (f : Fr M M2) (hb : M b = none) (s : SB M2 M' b N) : Fr M M' := fun q hq => by
 have h1 : q ≠ b := fun z => hq (by rw [z]; exact hb)
 rw [s.fr q (by rw [f q hq]; exact hq) h1, f q hq]
section
variable {X : Cx}
end
section
open PySem.SeqAt
open PySem.AutoSeq1 (wpAny_loadPart')
open PySem.MeetsSeq PySem.MeetsSeq2 PySem.MeetsSeq3 PySem.SeqRoads2
end
section
variable {X : Cx}
end
end L2
set_option Elab.async false
set_option linter.all false
set_option maxRecDepth 100000
set_option maxHeartbeats 4000000
namespace L2
open PySem PySem.Spec PyProof.Rows
section
variable {X : Cx} {pins : List (Addr × Obj)} {σ : St} {H : Hp} {s : Shared} {a b : Addr} {kvs : List (List Key × V)} {k : List Key} {v : V} {r : Value} {A : Around} {E : Value -> Shared -> Prop}
end
end L2
set_option Elab.async false
set_option linter.all false
set_option maxRecDepth 100000
set_option maxHeartbeats 4000000
namespace L2
open PySem PySem.Spec PyProof.Rows
section
variable {prog : Program} {w : World} {A : Around} {E : Value -> Shared -> Prop} {s : Shared}
end
section
variable {X : Cx}
end
end L2
set_option Elab.async false
set_option linter.all false
set_option maxRecDepth 100000
set_option maxHeartbeats 4000000
namespace Ot
open PySem PySem.Spec PyProof.Rows L2
noncomputable def top (i : Nat) : Stmt := PySem.Challenge.pw_ownturn_k40_woven_till_as_it_stood.main.body.getD i (.Pass ⟨0, 0, 0, 0⟩)
section
variable {P : Program} {w : World} {K : PySem.W.Frag} {mg : Str -> Option Value} {base : Heap} {k : Nat}
local macro_rules | `(tactic| walk_at "rd") => `(tactic| try simp only [JS, VH, VZ, QD, tOp, XD, tC, tB, Wo, WS, Zb, rI0, rI, JE, kP, V5, Jb, Ki, Jt, vz, Xh, V0, tCB, JZ, Vc, Jx, Zp, X8, wq, Xg, KH, VG, Yj, tBM, kA, kq, Qe, wd, ipI, Zt, ZJ, tIf, tOr, Ve, Y5, JF, QC, YF, yr, Ka, cxK, J2, iLT, X2, kx, tSl, Yb, Zk, WM, List.append_nil,
 List.getElem?_cons_zero, List.getElem?_cons_succ, Option.some.injEq, exists_eq_left', exists_eq_left, V.int.injEq, V.ref.injEq, V.bl.injEq, List.cons.injEq, and_true, true_and, and_assoc, decide_eq_true_eq, Bool.not_eq_true', decide_eq_false_iff_not, Bool.false_eq_true, if_false, if_true, reduceIte, exists_and_left, exists_and_right, List.set_cons_zero, List.set_cons_succ, List.nil_append, List.cons_append])
theorem jc {H : Hp} {a b : Addr} {o : HO} (h' : H b = none) (h : H a = some o) : a ≠ b := zk h h'
theorem vM {H H' : Hp} {l : Addr} (h : H' l = none) (e : Kp [] H H') : H l = none := e.free h
theorem wy {K : PySem.W.Frag} {H H' : Hp} {a : Addr} {xs : List V} (h : SqL K H a xs) (e : Kp [] H H') : SqL K H' a xs := by
 rcases h with (h | ⟨o, h⟩) | h
 ·exact .inl (.inl (e _ _ (by simp) h))
 ·exact .inl (.inr ⟨o, e _ _ (by simp) h⟩)
 ·exact .inr h
theorem hsl : 100000 < sizeLine := by rw [sizeLine_eq]; decide
theorem Yk {α : Type} (k : Nat) (v : α) : (List.replicate k [v]).flatten = List.replicate k v := by simp
theorem qO (i : Int) {j : Int} (h : 0 < j) : 0 <= i % j /\ i % j < j := ⟨Int.emod_nonneg _ (by omega), Int.emod_lt_of_pos _ h⟩
theorem qU {i j : Int} (h1 : 0 <= i) (h2 : i < 18446744073709551616) : Q0 i j := .inl ⟨by omega, by omega⟩
theorem yz {i j : Int} (h1 : 0 <= j) (h2 : j < 18446744073709551616) : Q0 i j := .inr ⟨by omega, by omega⟩
theorem b01 (c : Prop) [Decidable c] : 0 <= (if c then (1 : Int) else 0) := by split <;> decide
theorem qz {i j : Int} (h1 : 0 < j) (h2 : j < 1073741824) : Va i j := ⟨h1, h2⟩
local macro_rules | `(tactic| walk_at "ne") => `(tactic| first | (with_reducible assumption) | exact Ne.symm (by with_reducible assumption) | exact jc (by with_reducible assumption) (by walk_at "hp") | exact Ne.symm (jc (by with_reducible assumption) (by walk_at "hp")))
local macro_rules | `(tactic| walk_at "hp") => `(tactic| first | (with_reducible assumption) | (with_reducible exact zp) | ((with_reducible refine Eq.trans (zh ?ne) ?_); (case ne => walk_at "ne"); walk_at "hp"))
local macro_rules | `(tactic| walk_at "kp") => `(tactic| first | (with_reducible assumption) | (with_reducible exact Kp.refl) | ((with_reducible refine Kp.trans ?_ (Kp.new _ ?h)); (case h => with_reducible assumption); walk_at "kp") | ((with_reducible refine Kp.trans ?_ (Kp.set _ ?h)); (case h => (simp; done)); walk_at "kp"))
local macro_rules | `(tactic| walk_at "fr") => `(tactic| first | (with_reducible assumption) | exact vM (by with_reducible assumption) (by walk_at "kp"))
local macro_rules | `(tactic| walk_at "sz") => `(tactic| (simp only [List.length_cons, List.length_nil, List.length_map, List.length_append, List.length_replicate, List.length_take, List.length_drop, zF, Yk, Nat.zero_add, Nat.one_mul]; omega))
local macro_rules | `(tactic| walk_at "fact") => `(tactic| first | (with_reducible assumption) | exact rfl | exact SqL.of (by walk_at "hp") | exact SqT.of (by walk_at "hp") | exact Or.inl (SqL.of (by walk_at "hp")) | exact Or.inr (SqT.of (by walk_at "hp")) | exact Or.inl (by with_reducible assumption) | exact wy (by with_reducible assumption) (by walk_at "kp") | exact Or.inl (wy (by with_reducible assumption) (by walk_at "kp")) | exact Exists.intro _ (SqL.of (by walk_at "hp")) | exact Exists.intro _ (wy (by with_reducible assumption) (by walk_at "kp")) | (walk_at "hp") | decide | omega | exact qU (by omega) (by omega) | exact yz (by omega) (by omega) | exact qz (by omega) (by omega) | exact ⟨by omega, by omega⟩ | (walk_at "sz") | exact ⟨by decide, by decide, by decide⟩ | exact yz (b01 _) (b01' _) | (walk_at "fr"))
local macro_rules | `(tactic| walk_at "x1") => `(tactic| first
 | ((with_reducible refine Exists.intro ?w (And.intro ?h ?_)); (case h => walk_at "fact"))
 | ((with_reducible refine And.intro ?h ?_); (case h => walk_at "fact"))
 | ((with_reducible refine Exists.intro ?w (Exists.intro ?w2 (And.intro ?h ?_))); (case h => walk_at "fact")))
local macro_rules | `(tactic| walk_at "xs") => `(tactic| repeat walk_at "x1")
local macro_rules | `(tactic| walk_at "sim1") => `(tactic| first
 | (with_reducible apply JJ) | with_reducible exact XQ | with_reducible exact V3 | with_reducible exact Vn | with_reducible exact V4 | with_reducible exact VQ | with_reducible exact XJ | with_reducible exact JL | with_reducible exact Jk | with_reducible exact Qi | with_reducible exact Kn
 | with_reducible exact QG | with_reducible exact KQ | with_reducible exact VL | with_reducible exact XH | with_reducible exact JY | with_reducible exact Qs
 | with_reducible exact Xx | with_reducible exact KE | with_reducible exact QB | with_reducible exact KY
 | with_reducible exact VP | with_reducible exact Kv | with_reducible exact XT | with_reducible exact JW | with_reducible exact Xm | with_reducible exact QN
 | with_reducible exact vV | with_reducible exact wn | with_reducible exact yW | with_reducible exact vL | with_reducible exact xZ
 | with_reducible exact xI
 | (with_reducible apply wC) | (with_reducible apply Xj) | (with_reducible apply K7) | (with_reducible apply Xc) | (with_reducible apply QA) | (with_reducible apply Xa) | (with_reducible apply ZG) | (with_reducible apply Qx) | (with_reducible apply KA) | (with_reducible apply JR)
 | (with_reducible apply Qj) | (with_reducible apply Ke) | (with_reducible apply Kx) | (with_reducible apply WU) | (with_reducible apply K9) | (with_reducible apply YT) | (with_reducible apply Xt) | (with_reducible apply Yq) | (with_reducible apply K1)
 | (with_reducible apply Yy) | (with_reducible apply KO) | (with_reducible apply Qu) | (with_reducible apply KR) | (with_reducible apply VA) | (with_reducible apply Q8)
 | (with_reducible apply Yo) | (with_reducible apply vm) | (with_reducible apply Jp) | (with_reducible apply yt)
 | (with_reducible apply yo) | (with_reducible apply ZF) | (with_reducible apply XE) | (with_reducible apply Qn) | (with_reducible apply Jq) | (with_reducible apply YZ) | (with_reducible apply ZI) | (with_reducible apply Zy) | (with_reducible apply YK)
 | (with_reducible apply jS))
local macro_rules | `(tactic| walk_at "sim") => `(tactic| repeat' walk_at "sim1")
local macro_rules | `(tactic| walk_at "ra") => `(tactic| try simp only [ XF, aC, aOp, YG, Zn, X7, aCB, Ql, aFz, aOw, WD, WN, aB, wB, W3, aOr, Wx, X5, aIf, J5, jG, XY, WI, WZ, ka, JM, yI, QH, Yf, asL, WA, X0, WF, Wn, aiS, WK, aiE, WL, vG, QM, aI, aI0, Wz, aIx, fOp, VD, Vl, WP, Ws, bI2, Yc, fCB, Ja, Wu, XZ, Wr, X1, QZ, aBM, Zi, wF, XW, V9, Kd, VR, VN, Vu, WV, WC, W5, WY, Wv, WG, Kh, Z5, Option.map_some, Vj, Yx, YV, YJ, Vd, YB, VX, Vz, Wm, Vo, VS, YD, Wc, Yl, Y9, Y0, Wg, YH, YI, Vf, We, Wh, Vg, Vi, Wb, Wl, Vt, YS, Vy, Vh, VO, Vw, Y2, VJ, VC, VY, XO, Zs, qW, qe, KN, xS, Yg, YE, V8, Wi, KB, Xp, Xk, Xy, Xb, K8, Xi, j9, WT, Y1, VT, V7, v9, Ym, YU, VF, Y4, Yn, VB, Vs, VI, id, decide_true, decide_false, Bool.decide_eq_true, not_true_eq_false, not_false_eq_true, K4,
 List.getElem?_cons_zero, List.getElem?_cons_succ, Option.some.injEq, exists_eq_left', exists_eq_left, AV.d.injEq, AV.ref.injEq, Dat.int.injEq, Dat.bl.injEq, Dat.str.injEq, Dat.lst.injEq, Dat.tup.injEq, Dat.ty.injEq, List.cons.injEq, and_true, true_and, and_assoc, decide_eq_true_eq, Bool.not_eq_true', decide_eq_false_iff_not, Bool.false_eq_true, if_false, if_true, reduceIte, exists_and_left, exists_and_right, List.set_cons_zero, List.set_cons_succ, List.nil_append, List.cons_append, List.length_map, List.map_cons, List.map_nil, Nat.zero_le, Bool.not_true, Bool.not_false, Bool.true_eq_false, eq_self, List.length_cons, List.length_nil])
theorem vy (ns : List Int) (lo hi : Option Int) : ZK (ns.map V.int) lo hi = List.map V.int ((ns.drop (HT.sIx ns.length 0 lo)).take (HT.sIx ns.length ns.length hi - HT.sIx ns.length 0 lo)) := by
 unfold ZK
 rw [List.length_map, <- List.map_drop, <- List.map_take]
theorem w8 (cs : List Int) (j : Nat) (v : Int) : (cs.map V.int).set j (.int v) = (cs.set j v).map V.int := by rw [List.map_set]
theorem yT {cs : List Int} {k : Int} (h0 : 0 <= k) (h1 : k < cs.length) : ixN (cs.map V.int).length k = some k.toNat /\ atI (cs.map V.int) k = some (.int (cs.getD k.toNat 0)) := by
 have hk : k.toNat < cs.length := by omega
 have e1 : ixN (cs.map V.int).length k = some k.toNat := by unfold ixN; rw [List.length_map, if_pos h0, if_pos h1]
 refine ⟨e1, ?_⟩
 unfold atI
 rw [e1]
 show (cs.map V.int)[k.toNat]? = _
 rw [List.getElem?_map, List.getD_eq_getElem?_getD, List.getElem?_eq_getElem hk]; rfl
theorem yn {ns : List Int} {i : Nat} {x : V} (h : (ns.map V.int)[i]? = some x) : x = .int (ns.getD i 0) /\ i < ns.length := by
 rw [List.getElem?_map] at h
 cases e : ns[i]? with
 | none => rw [e] at h; cases h
 | some v =>
  rw [e] at h
  cases h
  exact ⟨by rw [List.getD_eq_getElem?_getD, e]; rfl, (List.getElem?_eq_some_iff.mp e).1⟩
noncomputable abbrev wg : Stmt := top 4
theorem wR : zz ["_law_box_here", "_law_many", "_law_once", "_law_found"] ["_law_box_here", "_law_many"] (zj wg) := ⟨rfl, rfl, rfl, by decide +kernel, rfl, by decide +kernel, by decide +kernel⟩
noncomputable def Qp : Sp := fun vs H Q _ => ∃ (b : Addr) (many : Int) (N : Nat), vs = [.ref b, .int many] /\ Bx H b N /\ N < 1000000000 /\ 0 < many /\ many < 1073741824 /\ ∀ r H', Kp [b] H H' -> Bx H' b (N + 1) -> 0 <= r -> r < many -> Q (.int r) H'
theorem KC (a : At K mg "_law_take" wg) (B : Blt mg) : Df P w K mg base "_law_take" ["_law_box_here", "_law_many"] 1 Qp := by
 refine vi (k := 0) a wR (fun _ _ _ _ _ _ us hl => match us, hl with | [_, _], _ => rfl) (fun vs H Q E h => ?_) (fun f cdv A outer s H vs Q E hr h => ?_)
 ·obtain ⟨b, m, N, rfl, _⟩ := h; rfl
 obtain ⟨b, m, N, rfl, ⟨x, y, z, hb, hx, hy, hy', hz, hz'⟩, hN, hm, hm', q⟩ := h
 have sc := wR
 refine ⟨_, (zd (qC (zB Zc (qs zX (pv 0) zb (fun _ _ => rfl)) zb (zy _)) (zd (xf (zt vI rfl B.divmod ZZ (za (qs zX (pv 0) zb (fun _ _ => rfl)) (za (pv 1) zc))) (jT (K := K) 2 rfl rfl (zW (kW (pv 0) zb qM) (zW (zE (i := 3) sc.nd rfl (by first | exact Or.inl rfl | exact Or.inr rfl)) jQ))))
  (zg (zx (pv 3)))) zR)
  (zd (xf (zf zO (qs zX (pv 0) zb (fun _ _ => rfl)) zb) (kW (pv 0) zb qM))
  (zd (zw (i := 2) sc.nd rfl (by first | exact Or.inl rfl | exact Or.inr rfl) (zf zK (zf zS (zf zO (qs zX (pv 0) zb (fun _ _ => rfl)) (zf zS zb (qs zX (pv 0) zb (fun _ _ => rfl)))) (zf zO zb (qs zX (pv 0) zb (fun _ _ => rfl)))) zb))
  (zd (xf (zf zK (zf zO (zf zS (pv 2) (zf zO (zf zK (pv 2) zb) zb)) (qs zX (pv 0) zb (fun _ _ => rfl))) zb) (kW (pv 0) zb qM))
  (zg (zx (zf zK (zf jw (zf zK (zf zS (qs zX (pv 0) zb (fun _ _ => rfl)) (zf zO (zf zK (qs zX (pv 0) zb (fun _ _ => rfl)) zb) zb)) zb) zb) (pv 1)))))))), ?_⟩
 rw [show qy ["_law_box_here", "_law_many", "_law_once", "_law_found"] [V.ref b, V.int m] = [some (.ref b), some (.int m), none, none] from rfl]
 walk_at "rd"
 walk_at "xs"
 refine Ag (fun c => ?_) (fun c => ?_)
 ·walk_at "xs"
  refine fun p hp => ?_
  walk_at "xs"
  refine q _ _ ((Kp.new _ hp).trans (Kp.set _ (by simp))) ⟨_, _, _, zp, Int.ediv_nonneg hx (by omega), hy, hy', hz, by omega⟩ (qO x hm).1 (qO x hm).2
 ·walk_at "xs"
  refine q _ _ ((Kp.set _ (by simp)).trans (Kp.set _ (by simp))) ⟨_, _, _, zp, hx, ?_, ?_, ?_, ?_⟩ (qO _ hm).1 (qO _ hm).2
  ·exact (qO _ (by decide)).1
  ·exact Int.lt_trans (qO _ (by decide)).2 (by decide)
  ·omega
  ·omega
noncomputable abbrev Q7 : Stmt := top 3
theorem Kb : zz ["_law_script", "_law_k", "_law_cell"] ["_law_script", "_law_k"] (zj Q7) := ⟨rfl, rfl, rfl, by decide +kernel, rfl, by decide +kernel, by decide +kernel⟩
noncomputable def X6 : Sp := fun vs H Q _ => ∃ (a : Addr) (k : Int) (cs : List Int), vs = [.ref a, .int k] /\ H a = some (il cs) /\ 0 <= k /\ k <= 1000 /\ cs.length <= 1000 /\ ∀ p H', Kp [] H H' -> H p = none -> Bx H' p 0 -> Q (.ref p) H'
theorem KW {cs : List Int} {k : Int} (h0 : 0 <= k) : ∃ c : Int, atI (cs.map V.int ++ List.replicate (k + 1).toNat (V.int 0)) k = some (.int c) := by
 have e : cs.map V.int ++ List.replicate (k + 1).toNat (V.int 0) = (cs ++ List.replicate (k + 1).toNat 0).map V.int := by simp
 have ek : k = ((k.toNat : Nat) : Int) := by omega
 have hk : k.toNat < (cs ++ List.replicate (k + 1).toNat (0 : Int)).length := by rw [List.length_append, List.length_replicate]; omega
 refine ⟨(cs ++ List.replicate (k + 1).toNat 0)[k.toNat], ?_⟩
 rw [e]
 have q : atI ((cs ++ List.replicate (k + 1).toNat (0 : Int)).map V.int) ((k.toNat : Nat) : Int) = some (.int (cs ++ List.replicate (k + 1).toNat 0)[k.toNat]) := Xv (by rw [List.getElem?_map, List.getElem?_eq_getElem hk] <;> rfl)
 rw [<- ek] at q
 exact q
theorem Yz (a : At K mg "_law_box" Q7) (B : Blt mg) : Df P w K mg base "_law_box" ["_law_script", "_law_k"] 1 X6 := by
 refine vi (k := 0) a Kb (fun _ _ _ _ _ _ us hl => match us, hl with | [_, _], _ => rfl) (fun vs H Q E h => ?_) (fun f cdv A outer s H vs Q E hr h => ?_)
 ·obtain ⟨a, k, cs, rfl, _⟩ := h; rfl
 obtain ⟨a, k, cs, rfl, ha, hk, hk', hcs, q⟩ := h
 have sc := Kb
 have hsl := hsl
 refine ⟨_, (zd (zw (i := 2) sc.nd rfl (by first | exact Or.inl rfl | exact Or.inr rfl) (qs zX (zf QL (pv 0) (zf vR (qj (za zb zc)) (zf zO (pv 1) zb))) (pv 1) (fun _ _ => rfl)))
  (zg (zx (qj (za (zf zS (zt vH rfl B.abs QT (za (pv 2) zc)) (z0 jr rfl B.int kU (za (qq Wt (zt vH rfl B.abs QT (za (pv 2) zc)) (zf JV zb zb) (zy _)) zc))) (za (zf zK (zf zS (zf zO (zf zO (zf zK (pv 2) zb) (zf zS zb (pv 1))) zb) zb) zb) (za zb zc))))))), ?_⟩
 rw [show qy ["_law_script", "_law_k", "_law_cell"] [V.ref a, V.int k] = [some (.ref a), some (.int k), none] from rfl]
 walk_at "rd"
 walk_at "xs"
 intro p1 hp1
 walk_at "xs"
 intro p2 hp2
 walk_at "xs"
 intro p3 hp3
 simp only [Yk] at hp3 ⊢
 obtain ⟨c, hc⟩ := KW (cs := cs) hk
 walk_at "xs"
 intro p4 hp4
 refine q _ _ (by walk_at "kp") (by walk_at "fr") ⟨_, _, _, zp, ?_, ?_, ?_, ?_, ?_⟩
 ·exact Int.mul_nonneg (by split <;> omega) (b01 _)
 ·exact (qO _ (by decide)).1
 ·exact Int.lt_trans (qO _ (by decide)).2 (by decide)
 ·decide
 ·decide
noncomputable abbrev kC : Stmt := top 5
theorem xL : zz ["_law_script", "_law_many", "_law_cells", "_law_k", "_law_cell"] ["_law_script", "_law_many"] (zj kC) := ⟨rfl, rfl, rfl, by decide +kernel, rfl, by decide +kernel, by decide +kernel⟩
noncomputable def vt (K : PySem.W.Frag) : Sp := fun vs H Q _ => ∃ (a : Addr) (m : Int) (ns : List Int), vs = [.ref a, .int m] /\ SqL K H a (ns.map V.int) /\ 0 < m /\ m <= 60 /\ ns.length <= 63 /\ ∀ p H' cs, Kp [] H H' -> H p = none -> H' p = some (il cs) -> cs.length <= 1000 -> Q (.ref p) H'
theorem Zu (a : At K mg "_law_folded" kC) (B : Blt mg) : Df P w K mg base "_law_folded" ["_law_script", "_law_many"] 1 (vt K) := by
 refine vi (k := 0) a xL (fun _ _ _ _ _ _ us hl => match us, hl with | [_, _], _ => rfl) (fun vs H Q E h => ?_) (fun f cdv A outer s H vs Q E hr h => ?_)
 ·obtain ⟨a, k, cs, rfl, _⟩ := h; rfl
 obtain ⟨a, m, ns, rfl, ha, hm, hm', hns, q⟩ := h
 obtain ⟨M, rfl⟩ : ∃ M : Nat, m = M := ⟨m.toNat, by omega⟩
 have sc := xL
 have hsl := hsl
 refine ⟨_, (zd (zw (i := 2) sc.nd rfl (by first | exact Or.inl rfl | exact Or.inr rfl) (z0 jJ rfl B.list qT (za (yU Zg (pv 0) KM (yv (pv 1))) zc)))
  (zd (jC PassesOwn.never rfl (XS rfl B.enumerate (za (yU Zg (pv 0) (yv (pv 1)) (yv zb)) zc)) (jT (K := K) 2 rfl rfl (zW (zE (i := 3) sc.nd rfl (by first | exact Or.inl rfl | exact Or.inr rfl)) (zW (zE (i := 4) sc.nd rfl (by first | exact Or.inl rfl | exact Or.inr rfl)) jQ))) (zg (xf (zf zO (qs zX (pv 2) (zf zK (pv 3) (pv 1)) (fun _ _ => rfl)) (zf zS (pv 4) (zf zO (pv 3) zb))) (kW (pv 2) (zf zK (pv 3) (pv 1)) qM))))
  (zg (zx (pv 2))))), ?_⟩
 rw [show qy ["_law_script", "_law_many", "_law_cells", "_law_k", "_law_cell"] [V.ref a, V.int M] = [some (.ref a), some (.int M), none, none, none] from rfl]
 walk_at "rd"
 walk_at "xs"
 intro p1 hp1
 rw [vy]
 walk_at "xs"
 intro p2 hp2
 walk_at "xs"
 intro p3 hp3
 rw [vy]
 have e63 : (63 : Int) = ((63 : Nat) : Int) := rfl
 simp only [HT.sIx_none, HT.sIx_nat, e63, List.drop_zero, Nat.sub_zero] at hp2 hp3 ⊢
 walk_at "xs"
 generalize hc0 : ns.take (min M ns.length) = c0 at hp2 hp3 ⊢
 generalize hd0 : (ns.drop (min M ns.length)).take (min 63 ns.length - min M ns.length) = d0 at hp2 hp3 ⊢
 have lc : c0.length = min M ns.length := by rw [<- hc0, List.length_take]; omega
 have ld : d0.length <= ns.length - M := by rw [<- hd0, List.length_take, List.length_drop]; omega
 have n23 : p2 ≠ p3 := by walk_at "ne"
 refine Xu (xs := d0.map V.int) (fun i τ H' => ∃ u v cs, τ = [some (.ref a), some (.int M), some (.ref p2), u, v] /\ Kp [p2] (upd (upd (upd H p1 (HO.lst (List.map V.int c0))) p2 (HO.lst (List.map V.int c0))) p3 (HO.lst (List.map V.int d0))) H' /\ H' p2 = some (il cs) /\ cs.length = c0.length) ?_ ?_ ?_ ?_
 ·exact ⟨none, none, c0, rfl, Kp.refl, by walk_at "hp", rfl⟩
 ·rintro i τ H' _ ⟨u, v, cs, rfl, kp, _⟩
  exact SqL.of (kp _ _ (by simp [Ne.symm n23]) (by walk_at "hp"))
 ·rintro i x pp τ H' hx hpp ⟨u, v, cs, rfl, kp, hcs, hl⟩
  obtain ⟨rfl, hi⟩ := yn hx
  have b1 := qO (i : Int) hm
  obtain ⟨g1, g2⟩ := yT (cs := cs) (k := (i : Int) % (M : Int)) b1.1 (by omega)
  have hcs' : upd H' pp (HO.tup [V.int i, V.int (d0.getD i 0)]) p2 = some (il cs) := by walk_at "hp"
  walk_at "rd"
  walk_at "xs"
  refine ⟨(kp.trans (Kp.new _ hpp)).trans (Kp.set _ (by simp)), _, zp.trans (congrArg some (congrArg HO.lst (w8 _ _ _))), by rw [List.length_set]; exact hl⟩
 ·rintro τ H' ⟨u, v, cs, rfl, kp, hcs, hl⟩
  walk_at "rd"
  refine q _ _ cs (fun c o hc hh => kp c o ?_ ((((Kp.new _ hp1).trans (Kp.new _ hp2)).trans (Kp.new _ hp3)) c o hc hh)) (by walk_at "fr") hcs (by omega)
  have : c ≠ p2 := jc (vM hp2 (Kp.new _ hp1)) hh
  simpa using this
noncomputable def Jc : ASp := fun xs M Q => ∃ (b : Addr) (many : Int) (N : Nat), xs = [.ref b, .d (.int many)] /\ BxM M b N /\ N < 1000000000 /\ 0 < many /\ many < 1073741824 /\ ∀ r M', BxS M M' b (N + 1) -> 0 <= r -> r < many -> Q (.d (.int r)) M'
theorem Xe (vs : List V) (H : Hp) (Q : VK) (E : XK) (h : cSp Jc vs H Q E) : Qp vs H Q E := by
 obtain ⟨xs, M, O, Q', w, r, ⟨b, many, N, rfl, hb, h1, h2, h3, q⟩, k⟩ := h
 obtain ⟨v, u, rfl, rv, ru⟩ := jY r
 rw [zA ru, rv.1]
 refine ⟨b, many, N, rfl, hb.bx w, h1, h2, h3, fun r H' kp hb' r0 r1 => ?_⟩
 obtain ⟨M', s, e, w'⟩ := YL w hb kp hb'
 exact k _ _ _ _ _ (q r M' s r0 r1) e w' .int
noncomputable def WQ : ASp := fun xs M Q => ∃ (x : AV) (k : Int) (cs : List Int), xs = [x, .d (.int k)] /\ zL x M = some (cs.map fun i => .d (.int i)) /\ 0 <= k /\ k <= 1000 /\ cs.length <= 1000 /\ ∀ p o, M p = none -> BxM (mup M p o) p 0 -> Q (.ref p) (mup M p o)
theorem YM (vs : List V) (H : Hp) (Q : VK) (E : XK) (h : cSp WQ vs H Q E) : X6 vs H Q E := by
 obtain ⟨xs, M, O, Q', w, r, ⟨x, n, cs, rfl, hx, h1, h2, h3, q⟩, k⟩ := h
 obtain ⟨v, u, rfl, rv, ru⟩ := jY r
 rw [zA ru]
 obtain ⟨a, rfl, ha⟩ := Q1 w rv hx
 refine ⟨a, n, cs, rfl, ha, h1, h2, h3, fun p H' kp hp hb' => ?_⟩
 obtain ⟨x', y', z', g1, g2⟩ := hb'
 obtain ⟨e1, w1⟩ := Qm w kp
 have fr := w.fresh hp
 have e2 := Ext.owned (O' := ZD O p) (p := p) w ⟨fun a o h e => ⟨(e1.fix a o h e).1, fun z => z.elim (zk e hp) h⟩, fun a h e => ⟨(e1.prv a h e).1, .inr h, e⟩, fun _ h => h⟩ hp (.lst ([x', y', z'].map fun i => .d (.int i)))
 refine k _ _ _ _ _ (q p _ fr.2 ⟨x', y', z', zm, g2⟩) e2 (vo (O := ZD O p) (xs := [V.int x', V.int y', V.int z']) ⟨fun a o h => ?_, fun a h => .inr (w1.own a h), fun a h => ?_⟩ (.inl rfl) fr.2 g1 (yd [x', y', z'])) ⟨rfl, by rw [zm]; exact fun z => nomatch z⟩
 ·have e3 : Ext H O M H' (ZD O p) M := ⟨fun a o h e => ⟨(e1.fix a o h e).1, fun z => z.elim (zk e hp) h⟩, fun a h e => ⟨(e1.prv a h e).1, .inr h, e⟩, fun _ h => h⟩
  refine qo.ext e3 ?_ (w.mo a o h)
  obtain ⟨u, hu, _⟩ := w.al a (w.own a (qD h))
  rw [hu]; exact kp a u (by simp) hu
 ·rcases h with rfl | h
  ·exact ⟨_, g1, fun xs z => nomatch z⟩
  ·exact w1.al a h
noncomputable def Za (K : PySem.W.Frag) : ASp := fun xs M Q => ∃ (m : Int) (ns : List Int), xs = [.d (.scr K ns), .d (.int m)] /\ 0 < m /\ m <= 60 /\ ns.length <= 63 /\ ∀ cs : List Int, cs.length <= 1000 -> Q (.d (.lst (cs.map .int))) M
theorem Z0 (vs : List V) (H : Hp) (Q : VK) (E : XK) (h : cSp (Za K) vs H Q E) : vt K vs H Q E := by
 obtain ⟨xs, M, O, Q', w, r, ⟨m, ns, rfl, h1, h2, h3, q⟩, k⟩ := h
 obtain ⟨v, u, rfl, rv, ru⟩ := jY r
 rw [zA ru]
 obtain ⟨a, rfl, ha⟩ := Xo rv
 refine ⟨a, m, ns, rfl, ha, h1, h2, h3, fun p H' cs kp hp hc lc => ?_⟩
 obtain ⟨e1, w1⟩ := Qm w kp
 exact k _ _ _ _ _ (q cs lc) e1 w1 (QX (w.fresh hp).1 hc)
theorem xQ {a b : List Int} (h : a.length = b.length) (g : ∀ x, x < a.length -> a.getD x 0 = b.getD x 0) : a = b := by
 refine List.ext_getElem h fun i h1 h2 => ?_
 have := g i h1
 rwa [List.getD_eq_getElem?_getD, List.getElem?_eq_getElem h1, List.getD_eq_getElem?_getD, List.getElem?_eq_getElem h2] at this
theorem XU {n : Nat} {os : List Int} {i : Nat} : ∃ k : Nat, k <= i /\ vv os k /\ Rch os (k : Int) (i : Int) := by
 obtain ⟨m, hm, hl⟩ := xa (p := fun q => Rch os ((q : Nat) : Int) (i : Int)) i Rch.refl
 refine ⟨m, ?_, fun q hq hr => hl q hq (hr.trans hm), hm⟩
 rcases Nat.lt_or_ge i m with h | h
 ·exact absurd Rch.refl (hl i h)
 ·exact h
theorem yP (os : List Int) (a b : Nat) (p : Int) : itn os (a + b) p = itn os a (itn os b p) := by
 induction a with
 | zero => rw [Nat.zero_add]; rfl
 | succ a ih => rw [show a + 1 + b = (a + b) + 1 by omega]; show nxt os (itn os (a + b) p) = nxt os (itn os a (itn os b p)); rw [ih]
theorem Ju {os : List Int} {t : Nat} {p q : Int} (h : itn os t p = p) (r : Rch os p q) : itn os t q = q := by
 obtain ⟨j, rfl⟩ := r
 rw [<- yP, Nat.add_comm, yP, h]
theorem wA {n : Nat} {os : List Int} {k : Nat} (hL : vv os k) (hp : 1 < per os (k : Int)) : ∀ {i : Nat}, k < i -> qZ os (k : Int) ∈ zC os i
 | 0, h => absurd h (Nat.not_lt_zero _)
 | i + 1, h => by
  unfold zC
  by_cases c : k = i
  ·subst c; rw [if_pos ⟨hL, hp⟩]; simp
  ·exact List.mem_append_left _ (wA (n := n) hL hp (by omega))
theorem yh {os : List Int} {r : List Int} : ∀ {i : Nat}, r ∈ zC os i -> ∃ k : Nat, k < i /\ vv os k /\ 1 < per os (k : Int) /\ r = qZ os (k : Int)
 | 0, hr => by simp [zC] at hr
 | i + 1, hr => by
  unfold zC at hr
  rcases List.mem_append.mp hr with z | z
  ·obtain ⟨k, hk, e⟩ := yh z
   exact ⟨k, by omega, e⟩
  ·by_cases c : vv os i /\ 1 < per os (i : Int)
   ·rw [if_pos c] at z
    exact ⟨i, by omega, c.1, c.2, List.mem_singleton.mp z⟩
   ·rw [if_neg c] at z; cases z
noncomputable def ji (os : List Int) (n t : Nat) : Prop := ∀ i : Nat, i < n -> itn os t (i : Int) = (i : Int)
theorem KJ {os : List Int} {p : Int} {m t : Nat} (h : jf os p m) (e : itn os t p = p) : m ∣ t := by
 rw [Zo h.2.1] at e
 rcases Nat.eq_zero_or_pos (t % m) with z | z
 ·exact Nat.dvd_of_mod_eq_zero z
 ·exact absurd e (h.2.2 _ z (Nat.mod_lt _ h.1))
theorem qL {n : Nat} {os : List Int} (h : zo n os) (t : Nat) : ji os n t ↔ ∀ r ∈ zC os n, r.length ∣ t := by
 constructor
 ·intro hs r hr
  obtain ⟨k, hk, hL, hp, rfl⟩ := yh hr
  obtain ⟨m, hm, _⟩ := j0 h (p := (k : Int)) (by omega) (by omega)
  unfold qZ
  rw [qp, hm.per]
  exact KJ hm (hs k hk)
 ·intro hr i hi
  obtain ⟨k, hk, hL, hrc⟩ := XU (n := n) (os := os) (i := i)
  obtain ⟨m, hm, _⟩ := j0 h (p := (k : Int)) (by omega) (by omega)
  refine Ju ?_ hrc
  have hd : m ∣ t := by
   by_cases c : 1 < per os (k : Int)
   ·have := hr _ (wA (n := n) hL c (by omega))
    unfold qZ at this
    rwa [qp, hm.per] at this
   ·rw [hm.per] at c
    have : m = 1 := by have := hm.1; omega
    rw [this]; exact Nat.one_dvd t
  obtain ⟨z, rfl⟩ := hd
  rw [Nat.mul_comm]
  exact kr hm.2.1 z
noncomputable def xy (t l : Nat) : Nat := t / Nat.gcd t l * l
theorem ku (t l : Nat) : xy t l = Nat.lcm t l := by
 unfold xy Nat.lcm
 rw [Nat.mul_comm t l, Nat.mul_div_assoc _ (Nat.gcd_dvd_left t l), Nat.mul_comm]
noncomputable def xw (rs : List (List Int)) : Nat := rs.foldl (fun t r => xy t r.length) 1
theorem xq : ∀ (rs : List (List Int)) (t : Nat), (t ∣ rs.foldl (fun t r => xy t r.length) t /\ ∀ r ∈ rs, r.length ∣ rs.foldl (fun t r => xy t r.length) t) /\ ∀ z, t ∣ z -> (∀ r ∈ rs, r.length ∣ z) -> rs.foldl (fun t r => xy t r.length) t ∣ z
 | [], t => ⟨⟨Nat.dvd_refl t, fun r hr => nomatch hr⟩, fun z hz _ => hz⟩
 | r :: rs, t => by
  obtain ⟨⟨h1, h2⟩, h3⟩ := xq rs (xy t r.length)
  rw [List.foldl_cons]
  have a1 : t ∣ xy t r.length := by rw [ku]; exact Nat.dvd_lcm_left _ _
  have a2 : r.length ∣ xy t r.length := by rw [ku]; exact Nat.dvd_lcm_right _ _
  refine ⟨⟨Nat.dvd_trans a1 h1, fun x hx => ?_⟩, fun z hz hr => h3 z ?_ fun x hx => hr x (by simp [hx])⟩
  ·rcases List.mem_cons.mp hx with rfl | hx
   ·exact Nat.dvd_trans a2 h1
   ·exact h2 x hx
  ·rw [ku]; exact Nat.lcm_dvd hz (hr r (by simp))
theorem yS {rs : List (List Int)} {r : List Int} (h : r ∈ rs) : r.length ∣ xw rs := (xq rs 1).1.2 r h
theorem jE {rs : List (List Int)} {z : Nat} (h : ∀ r ∈ rs, r.length ∣ z) : xw rs ∣ z := (xq rs 1).2 z (Nat.one_dvd z) h
theorem jU {n : Nat} {os : List Int} (h : zo n os) : 0 < xw (zC os n) := by
 have : ∀ (rs : List (List Int)) (t : Nat), 0 < t -> (∀ r ∈ rs, 0 < r.length) -> 0 < rs.foldl (fun t r => xy t r.length) t := by
  intro rs
  induction rs with
  | nil => intro t ht _; exact ht
  | cons r rs ih =>
   intro t ht hr
   rw [List.foldl_cons]
   refine ih _ ?_ fun x hx => hr x (by simp [hx])
   rw [ku]
   exact Nat.lcm_pos ht (hr r (by simp))
 exact this _ 1 (by omega) fun r hr => by have := xk h (Nat.le_refl n) hr; omega
theorem qI {n : Nat} {os : List Int} (h : zo n os) : ji os n (xw (zC os n)) := (qL h _).mpr fun _ hr => yS hr
theorem Zw {n : Nat} {os : List Int} (h : zo n os) {t : Nat} (hs : ji os n t) : pwl n os t = qt 0 1 n := by
 refine xQ (by rw [(jM h t).1, zF]) fun x hx => ?_
 rw [(jM h t).1] at hx
 rw [x9 h hx, hs x hx, zT n hx]
theorem vW {n : Nat} {os : List Int} (h : zo n os) {t : Nat} (t1 : 1 <= t) (hs : ji os n t) (hl : ∀ j, 1 <= j -> ji os n j -> t <= j) : t = xw (zC os n) := by
 have a := hl _ (jU h) (qI h)
 have b := Nat.le_of_dvd t1 (jE ((qL h t).mp hs))
 omega
noncomputable def Yw : Dat -> Option (List Dat)
 | .lst l => some l
 | .tup l => some l
 | _ => none
theorem Vp {d : Dat} {l : List Dat} (h : Yw d = some l) (M : MH) : jk (.d d) M = some (l.map .d) := by
 cases d with
 | lst m => cases h; rfl
 | tup m => cases h; rfl
 | _ => cases h
theorem yx {d : Dat} {os : List Int} (h : Yw d = some (os.map .int)) (M : MH) : jk (.d d) M = some (os.map fun i => .d (.int i)) := by rw [Vp h, xS]
theorem qV (ns : List Int) : dp (ilD ns) <= 40 := by
 have : ∀ ns : List Int, dps (ns.map .int) <= 0 := fun ns => QF fun d hd => by obtain ⟨i, _, rfl⟩ := List.mem_map.mp hd; simp [dp]
 rw [dp]; have := this ns; omega
noncomputable def xg (n : Nat) (k : Int) : List Int := (List.range n).map fun (i : Nat) => ((i : Int) + k) % (n : Int)
noncomputable def zn (m f : Nat) : List Int := ((List.range m).map fun (i : Nat) => ((2 * i + f : Nat) : Int)) ++ (List.range m).map fun (i : Nat) => ((2 * i + 1 - f : Nat) : Int)
theorem Z1 (n : Nat) (k : Int) : (xg n k).length = n := by simp [xg]
theorem Zz {n : Nat} {k : Int} {i : Nat} (h : i < n) : (xg n k).getD i 0 = ((i : Int) + k) % (n : Int) := by
 rw [zN (by rw [Z1]; exact h)]; simp [xg]
theorem Xl {n : Nat} {k : Int} (hn : 0 < n) {p : Int} (p0 : 0 <= p) (p1 : p < n) : ∀ j, itn (xg n k) j p = (p + (j : Int) * k) % (n : Int)
 | 0 => by
  show p = _
  simp
  exact (Int.emod_eq_of_lt p0 p1).symm
 | j + 1 => by
  have b0 := Int.emod_nonneg (p + (j : Int) * k) (show (n : Int) ≠ 0 by omega)
  have b1 := Int.emod_lt_of_pos (p + (j : Int) * k) (show (0 : Int) < n by omega)
  show (xg n k).getD (itn (xg n k) j p).toNat 0 = _
  rw [Xl hn p0 p1 j, Zz (by omega), Int.toNat_of_nonneg b0, Int.emod_add_emod]
  congr 1
  push_cast
  rw [Int.add_mul]
  omega
theorem yR {M : Nat} : ∀ (rs : List (List Int)), (∀ r ∈ rs, r.length = M) -> kS rs = rs.length * M
 | [], _ => by simp [kS]
 | r :: rs, h => by
  have h1 := yR rs fun x hx => h x (by simp [hx])
  have h2 := h r (by simp)
  unfold kS at *
  simp only [List.map_cons, List.sum_cons, List.length_cons] at *
  rw [h1, h2, Nat.add_mul]
  omega
theorem Qk {os : List Int} : ∀ (n : Nat), (∀ i, i < n -> os.getD i 0 ≠ (i : Int)) -> XM os n = n := by
 intro n h
 unfold XM
 rw [List.filter_eq_self.mpr, List.length_range]
 intro i hi
 simpa using h i (List.mem_range.mp hi)
theorem qa {m f p : Nat} (hp : p < 2 * m) : (zn m f).getD p 0 = if p < m then ((2 * p + f : Nat) : Int) else ((2 * (p - m) + 1 - f : Nat) : Int) := by
 unfold zn
 by_cases c : p < m
 ·rw [if_pos c, List.getD_eq_getElem?_getD, List.getElem?_append_left (by simpa using c), List.getElem?_map, List.getElem?_range c]; rfl
 ·rw [if_neg c, List.getD_eq_getElem?_getD, List.getElem?_append_right (by simpa using c), List.getElem?_map, List.length_map, List.length_range, List.getElem?_range (by omega)]; rfl
theorem jq (m f : Nat) : (zn m f).length = 2 * m := by unfold zn; rw [List.length_append, List.length_map, List.length_map, List.length_range]; omega
theorem qg {m f : Nat} (hf : f <= 1) : zo (2 * m) (zn m f) := by
 refine jp (jq m f) (fun i hi => ?_) (fun i j hi hj e => ?_)
 ·rw [qa hi]; split <;> omega
 ·rw [qa hi, qa hj] at e
  split at e <;> split at e <;> omega
theorem jI (os : List Int) (p : Nat) : nxt os (p : Int) = os.getD p 0 := by unfold nxt; rw [Int.toNat_natCast]
theorem ju {m : Nat} : ∀ (t : Nat) {p : Nat}, p < 2 * m -> ∃ q : Nat, q < 2 * m /\ itn (zn m 1) t (p : Int) = (q : Int) /\ q + 1 = 2 ^ t * (p + 1) % (2 * m + 1)
 | 0, p, hp => ⟨p, hp, rfl, by rw [Nat.pow_zero, Nat.one_mul, Nat.mod_eq_of_lt (by omega)]⟩
 | t + 1, p, hp => by
  obtain ⟨q, hq, e1, e2⟩ := ju t hp
  have e3 : itn (zn m 1) (t + 1) (p : Int) = nxt (zn m 1) (q : Int) := by show nxt _ (itn _ t _) = _; rw [e1]
  rw [e3, jI, qa hq]
  have e4 : 2 ^ (t + 1) * (p + 1) % (2 * m + 1) = 2 * (q + 1) % (2 * m + 1) := by
   rw [e2, Nat.mul_mod_mod, Nat.pow_succ, Nat.mul_comm (2 ^ t) 2, Nat.mul_assoc]
  rw [e4]
  by_cases c : q < m
  ·exact ⟨2 * q + 1, by omega, by rw [if_pos c], by rw [Nat.mod_eq_of_lt (by omega)]; omega⟩
  ·refine ⟨2 * (q - m) + 1 - 1, by omega, by rw [if_neg c], ?_⟩
   rw [show 2 * (q + 1) = (2 * (q - m) + 1) + (2 * m + 1) by omega, Nat.add_mod_right, Nat.mod_eq_of_lt (by omega)]
   omega
theorem j3 {m : Nat} : ∀ (t : Nat) {p : Nat}, p < 2 * m - 1 -> ∃ q : Nat, q < 2 * m - 1 /\ itn (zn m 0) t (p : Int) = (q : Int) /\ q = 2 ^ t * p % (2 * m - 1)
 | 0, p, hp => ⟨p, hp, rfl, by rw [Nat.pow_zero, Nat.one_mul, Nat.mod_eq_of_lt hp]⟩
 | t + 1, p, hp => by
  obtain ⟨q, hq, e1, e2⟩ := j3 t hp
  have e3 : itn (zn m 0) (t + 1) (p : Int) = nxt (zn m 0) (q : Int) := by show nxt _ (itn _ t _) = _; rw [e1]
  rw [e3, jI, qa (by omega)]
  have e4 : 2 ^ (t + 1) * p % (2 * m - 1) = 2 * q % (2 * m - 1) := by
   rw [e2, Nat.mul_mod_mod, Nat.pow_succ, Nat.mul_comm (2 ^ t) 2, Nat.mul_assoc]
  rw [e4]
  by_cases c : q < m
  ·exact ⟨2 * q, by omega, by rw [if_pos c]; rfl, by rw [Nat.mod_eq_of_lt (by omega)]⟩
  ·refine ⟨2 * (q - m) + 1, by omega, by rw [if_neg c]; rfl, ?_⟩
   rw [show 2 * q = (2 * (q - m) + 1) + (2 * m - 1) by omega, Nat.add_mod_right, Nat.mod_eq_of_lt (by omega)]
theorem kg {m : Nat} (hm : 1 <= m) : ∀ t, itn (zn m 0) t ((2 * m - 1 : Nat) : Int) = ((2 * m - 1 : Nat) : Int)
 | 0 => rfl
 | t + 1 => by
  show nxt _ (itn _ t _) = _
  rw [kg hm t, jI, qa (by omega), if_neg (by omega)]
  congr 1; omega
noncomputable def byW (m f : Nat) : Nat := if f = 1 then 2 * m + 1 else 2 * m - 1
theorem pow_one {k t x : Nat} (hk : 1 < k) (hx : x < k) (h : 2 ^ t % k = 1) : 2 ^ t * x % k = x := by
 rw [<- Nat.mod_mul_mod, h, Nat.one_mul, Nat.mod_eq_of_lt hx]
theorem qw {m f : Nat} (hf : f <= 1) (hb : 1 < byW m f) (t : Nat) : ji (zn m f) (2 * m) t ↔ 2 ^ t % byW m f = 1 := by
 unfold byW at *
 by_cases c : f = 1
 ·subst c
  rw [if_pos rfl] at *
  constructor
  ·intro h
   have h0 := h 0 (by omega)
   obtain ⟨q, hq, e1, e2⟩ := ju (m := m) t (p := 0) (by omega)
   rw [h0] at e1
   have : q = 0 := by omega
   rw [this, Nat.zero_add, Nat.mul_one] at e2
   exact e2.symm
  ·intro h i hi
   obtain ⟨q, hq, e1, e2⟩ := ju (m := m) t hi
   rw [pow_one hb (by omega) h] at e2
   rw [e1]; congr 1; omega
 ·have f0 : f = 0 := by omega
  subst f0
  rw [if_neg (by omega)] at *
  constructor
  ·intro h
   have h0 := h 1 (by omega)
   obtain ⟨q, hq, e1, e2⟩ := j3 (m := m) t (p := 1) (by omega)
   rw [h0] at e1
   have : q = 1 := by omega
   rw [this, Nat.mul_one] at e2
   exact e2.symm
  ·intro h i hi
   by_cases c2 : i < 2 * m - 1
   ·obtain ⟨q, hq, e1, e2⟩ := j3 (m := m) t c2
    rw [pow_one hb c2 h] at e2
    rw [e1, e2]
   ·rw [show i = 2 * m - 1 by omega]
    exact kg (by omega) t
theorem kh {m f : Nat} (hf : f <= 1) (hb : byW m f <= 1) : xw (zC (zn m f) (2 * m)) = 1 := by
 refine (vW (qg hf) (Nat.le_refl 1) (fun i hi => ?_) fun j hj _ => hj).symm
 unfold byW at hb
 by_cases c : f = 1
 ·rw [if_pos c] at hb; omega
 ·rw [if_neg c] at hb
  have f0 : f = 0 := by omega
  have m1 : m = 1 := by omega
  subst f0 m1
  show nxt _ (i : Int) = _
  rw [jI, qa hi]
  split <;> omega
noncomputable def Pr (p : Nat) : Prop := 2 <= p /\ ∀ d, d ∣ p -> d = 1 \/ d = p
theorem Jw {p a : Nat} (h : Pr p) (n : ¬ p ∣ a) : Nat.Coprime p a := by
 rcases h.2 _ (Nat.gcd_dvd_left p a) with z | z
 ·exact z
 ·exact absurd (z ▸ Nat.gcd_dvd_right p a) n
theorem wu {p a b : Nat} (h : Pr p) (d : p ∣ a * b) : p ∣ a \/ p ∣ b := by
 by_cases c : p ∣ a
 ·exact .inl c
 ·exact .inr ((Jw h c).dvd_of_dvd_mul_left d)
theorem qX (t : Nat) : 0 < 2 ^ t := Nat.pow_pos (by omega)
theorem vS {N t : Nat} (hN : 1 < N) : 2 ^ t % N = 1 ↔ N ∣ 2 ^ t - 1 := by
 have := qX t
 constructor
 ·intro h
  exact ⟨2 ^ t / N, by have := Nat.div_add_mod (2 ^ t) N; omega⟩
 ·rintro ⟨k, hk⟩
  rw [show 2 ^ t = N * k + 1 by omega, Nat.mul_add_mod, Nat.mod_eq_of_lt hN]
noncomputable def geo (b : Nat) : Nat -> Nat
 | 0 => 0
 | n + 1 => geo b n * (b + 1) + 1
theorem vT (b : Nat) : ∀ n, (b + 1) ^ n = b * geo b n + 1
 | 0 => by rw [Nat.pow_zero, geo, Nat.mul_zero]
 | n + 1 => by
  rw [Nat.pow_succ, vT b n, geo, Nat.add_mul, Nat.one_mul, Nat.mul_add b (geo b n * (b + 1)) 1, Nat.mul_one, Nat.mul_assoc]
  omega
theorem Zm {b p : Nat} (h : p ∣ b) : ∀ n, geo b n % p = n % p
 | 0 => rfl
 | n + 1 => by
  obtain ⟨k, rfl⟩ := h
  rw [geo, Nat.mul_add, Nat.mul_one, show geo (p * k) n * (p * k) + geo (p * k) n + 1 = p * (k * geo (p * k) n) + (geo (p * k) n + 1) by rw [show geo (p * k) n * (p * k) = p * (k * geo (p * k) n) by rw [Nat.mul_comm, Nat.mul_assoc]]; omega, Nat.mul_add_mod, Nat.add_mod, Zm ⟨k, rfl⟩ n, <- Nat.add_mod]
theorem Xf {a n : Nat} (h : 1 <= a) : a - 1 ∣ a ^ n - 1 := by
 obtain ⟨b, rfl⟩ : ∃ b, a = b + 1 := ⟨a - 1, by omega⟩
 exact ⟨geo b n, by rw [vT]; simp⟩
theorem jV {c c' : Nat} (h : c ∣ c') : 2 ^ c - 1 ∣ 2 ^ c' - 1 := by
 obtain ⟨k, rfl⟩ := h
 rw [Nat.pow_mul]
 exact Xf (qX c)
theorem Af {a p k : Nat} (h : 1 <= a) (hk : p ^ (k + 1) ∣ a - 1) : p ^ (k + 2) ∣ a ^ p - 1 := by
 obtain ⟨b, rfl⟩ : ∃ b, a = b + 1 := ⟨a - 1, by omega⟩
 rw [vT, Nat.add_sub_cancel] at *
 have pb : p ∣ b := Nat.dvd_trans ⟨p ^ k, by rw [Nat.pow_succ, Nat.mul_comm]⟩ hk
 have ps : p ∣ geo b p := Nat.dvd_of_mod_eq_zero (by rw [Zm pb, Nat.mod_self])
 rw [show k + 2 = (k + 1) + 1 from rfl, Nat.pow_succ]
 exact Nat.mul_dvd_mul hk ps
theorem yM {m t i : Nat} (h : Pr (2 * m + 1)) (hi : i < 2 * m) (e : itn (zn m 1) t (i : Int) = (i : Int)) : 2 ^ t % (2 * m + 1) = 1 := by
 obtain ⟨q, hq, e1, e2⟩ := ju (m := m) t hi
 rw [e] at e1
 have qi : q = i := by omega
 rw [qi] at e2
 have tp := qX t
 rw [vS h.1]
 have dv : 2 * m + 1 ∣ (2 ^ t - 1) * (i + 1) := by
  refine ⟨2 ^ t * (i + 1) / (2 * m + 1), ?_⟩
  have := Nat.div_add_mod (2 ^ t * (i + 1)) (2 * m + 1)
  rw [Nat.sub_mul, Nat.one_mul]
  omega
 rcases wu h dv with z | z
 ·exact z
 ·have := Nat.le_of_dvd (by omega) z
  omega
theorem KG {p : Nat} (h : Pr p) (h2 : p % 2 = 1) : p ∣ 2 ^ (p - 1) - 1 := by
 obtain ⟨m, rfl⟩ : ∃ m, p = 2 * m + 1 := ⟨p / 2, by omega⟩
 have m1 : 1 <= m := by have := h.1; omega
 have ho := qg (m := m) (f := 1) (by omega)
 have hb : 1 < byW m 1 := by unfold byW; rw [if_pos rfl]; omega
 have ws := fun t => qw (m := m) (f := 1) (by omega) hb t
 rw [show byW m 1 = 2 * m + 1 from rfl] at ws
 have al : ∀ r ∈ zC (zn m 1) (2 * m), r.length = xw (zC (zn m 1) (2 * m)) := fun r hr => by
  refine Nat.dvd_antisymm (yS hr) (jE ((qL ho _).mp ((ws _).mpr ?_)))
  obtain ⟨k, hk, hL, hp, rfl⟩ := yh hr
  obtain ⟨n, hn, _⟩ := j0 ho (p := (k : Int)) (by omega) (by omega)
  unfold qZ
  rw [qp, hn.per]
  exact yM h hk hn.2.1
 have l1 := yR _ al
 have l2 := QW ho
 rw [Qk (os := zn m 1) (2 * m) (fun i hi e => ?_)] at l2
 ·have ts := (vS (by omega)).mp ((ws _).mp (qI ho))
  exact Nat.dvd_trans ts (jV ⟨(zC (zn m 1) (2 * m)).length, (Nat.add_sub_cancel (n := 2 * m) (m := 1)).trans ((l1.symm.trans l2).symm.trans (Nat.mul_comm _ _))⟩)
 ·have := yM h hi (t := 1) (by show nxt _ (i : Int) = _; rw [jI]; exact e)
  rw [Nat.pow_one, Nat.mod_eq_of_lt (by omega)] at this
  omega
theorem vJ {p : Nat} (h : Pr p) (h2 : p % 2 = 1) : ∀ e, p ^ (e + 1) ∣ 2 ^ (p ^ e * (p - 1)) - 1
 | 0 => by rw [Nat.pow_zero, Nat.one_mul, Nat.zero_add, Nat.pow_one]; exact KG h h2
 | e + 1 => by
  have := Af (qX _) (vJ h h2 e)
  rw [<- Nat.pow_mul, Nat.mul_right_comm, <- Nat.pow_succ] at this
  exact this
noncomputable def alo (N : Nat) (ps : List Nat) : Nat := ps.foldl (fun m p => m / p * (p - 1)) N
noncomputable def Fc (N : Nat) (ps : List Nat) (R : Nat) : Prop := ∃ K c, N = K * R /\ Nat.Coprime K R /\ alo N ps = c * R /\ (N % 2 = 1 -> K ∣ 2 ^ c - 1) /\ (∀ q, Pr q -> q ∣ K -> q ∈ ps) /\ (∀ q ∈ ps, Pr q /\ q ∣ N) /\ 0 < c /\ c <= K
theorem YR (N : Nat) : Fc N [] N := ⟨1, 1, (Nat.one_mul N).symm, Nat.coprime_one_left N, (Nat.one_mul N).symm, fun _ => Nat.one_dvd _, fun q hq d => absurd (Nat.le_of_dvd (by omega) d) (by have := hq.1; omega), (fun q hq => nomatch hq), by omega, by omega⟩
theorem K5 {a b : Nat} (h : a ∣ b) (o : b % 2 = 1) : a % 2 = 1 := by
 obtain ⟨k, rfl⟩ := h
 rcases Nat.mod_two_eq_zero_or_one a with z | z
 ·rw [Nat.mul_mod, z, Nat.zero_mul, Nat.zero_mod] at o; omega
 ·exact z
theorem Jr {p q : Nat} (hp : Pr p) (hq : Pr q) : ∀ {e : Nat}, q ∣ p ^ e -> q = p
 | 0, h => by
  rw [Nat.pow_zero] at h
  have := Nat.le_of_dvd (by omega) h
  have := hq.1
  omega
 | e + 1, h => by
  rw [Nat.pow_succ] at h
  rcases wu hq h with z | z
  ·exact Jr hp hq z
  ·rcases hp.2 q z with c | c
   ·have := hq.1; omega
   ·exact c
theorem wO {N p e R : Nat} {ps : List Nat} (h : Fc N ps (p ^ (e + 1) * R)) (hp : Pr p) (hR : ¬ p ∣ R) : Fc N (ps ++ [p]) R := by
 obtain ⟨K, c, h1, h2, h3, h4, h5, h6, h7, h8⟩ := h
 have p0 : 0 < p := by have := hp.1; omega
 have cp : Nat.Coprime (p ^ (e + 1)) R := Nat.Coprime.pow_left _ (Jw hp hR)
 refine ⟨K * p ^ (e + 1), c * (p ^ e * (p - 1)), by rw [h1, Nat.mul_assoc], ?_, ?_, fun o => ?_, fun q hq d => ?_, fun q hq => ?_, Nat.mul_pos h7 (Nat.mul_pos (Nat.pow_pos p0) (by have := hp.1; omega)), ?_⟩
 ·exact Nat.Coprime.mul_left (h2.coprime_mul_left_right) cp
 ·unfold alo at *
  rw [List.foldl_append, h3]
  show c * (p ^ (e + 1) * R) / p * (p - 1) = _
  rw [show c * (p ^ (e + 1) * R) = p * (c * p ^ e * R) by rw [Nat.pow_succ]; ac_rfl, Nat.mul_div_cancel_left _ p0]
  ac_rfl
 ·have op : p % 2 = 1 := K5 (Nat.dvd_trans ⟨K * p ^ e * R, by rw [h1, Nat.pow_succ]; ac_rfl⟩ (Nat.dvd_refl N)) o
  exact Nat.Coprime.mul_dvd_of_dvd_of_dvd (h2.coprime_mul_right_right) (Nat.dvd_trans (h4 o) (jV ⟨_, rfl⟩)) (Nat.dvd_trans (vJ hp op e) (jV ⟨c, Nat.mul_comm _ _⟩))
 ·rcases wu hq d with z | z
  ·exact List.mem_append_left _ (h5 q hq z)
  ·rw [Jr hp hq z]; simp
 ·rcases List.mem_append.mp hq with z | z
  ·exact h6 q z
  ·rw [List.mem_singleton.mp z]; exact ⟨hp, K * p ^ e * R, by rw [h1, Nat.pow_succ]; ac_rfl⟩
 ·rw [Nat.pow_succ]
  exact Nat.mul_le_mul h8 (Nat.mul_le_mul_left _ (by omega))
theorem Jg {N : Nat} {ps : List Nat} (h : Fc N ps 1) : (∀ q, Pr q -> q ∣ N -> q ∈ ps) /\ (∀ q ∈ ps, Pr q /\ q ∣ N) /\ 0 < alo N ps /\ alo N ps <= N /\ (N % 2 = 1 -> N ∣ 2 ^ alo N ps - 1) := by
 obtain ⟨K, c, h1, h2, h3, h4, h5, h6, h7, h8⟩ := h
 rw [Nat.mul_one] at h1 h3
 subst h1
 rw [h3]
 exact ⟨h5, h6, h7, h8, h4⟩
theorem XC {N R : Nat} {ps : List Nat} (h : Fc N ps R) (hR : Pr R) : Fc N (ps ++ [R]) 1 := by
 refine wO (e := 0) (by rw [Nat.zero_add, Nat.pow_one, Nat.mul_one]; exact h) hR fun z => ?_
 have := Nat.le_of_dvd (by omega) z
 have := hR.1
 omega
theorem Kf {N one R R' e : Nat} {ps : List Nat} (h : Fc N ps R) (hR : R = one ^ e * R') (hp : one ∣ R -> Pr one) (hn : ¬ one ∣ R') : (one ∣ R -> Fc N (ps ++ [one]) R') /\ (¬ one ∣ R -> R' = R) := by
 subst hR
 cases e with
 | zero =>
  rw [Nat.pow_zero, Nat.one_mul] at *
  exact ⟨fun z => absurd z hn, fun _ => rfl⟩
 | succ e =>
  have d : one ∣ one ^ (e + 1) * R' := ⟨one ^ e * R', by rw [Nat.pow_succ]; ac_rfl⟩
  exact ⟨fun _ => wO h (hp d) hn, fun z => absurd d z⟩
theorem Xr {R one : Nat} (h1 : 1 < R) (hd : ∀ d, 2 <= d -> d ∣ R -> one <= d) (h : R < one * one) : Pr R := by
 refine ⟨h1, fun d hdv => ?_⟩
 obtain ⟨k, e⟩ := hdv
 have d0 : d ≠ 0 := fun z => by rw [z, Nat.zero_mul] at e; omega
 have k0 : k ≠ 0 := fun z => by rw [z, Nat.mul_zero] at e; omega
 by_cases c1 : d = 1
 ·exact .inl c1
 ·by_cases c2 : k = 1
  ·exact .inr (by rw [e, c2, Nat.mul_one])
  ·exfalso
   have a := hd d (by omega) ⟨k, e⟩
   have b := hd k (by omega) ⟨d, by rw [e, Nat.mul_comm]⟩
   have := Nat.mul_le_mul a b
   omega
theorem wo {R one : Nat} (h1 : 2 <= one) (hd : ∀ d, 2 <= d -> d ∣ R -> one <= d) (h : one ∣ R) (R0 : 0 < R) : Pr one := by
 refine ⟨h1, fun d hdv => ?_⟩
 by_cases c1 : d = 1
 ·exact .inl c1
 ·have d0 : d ≠ 0 := fun z => by rw [z] at hdv; have := Nat.eq_zero_of_zero_dvd hdv; omega
  have a := hd d (by omega) (Nat.dvd_trans hdv h)
  have b := Nat.le_of_dvd (by omega) hdv
  exact .inr (by omega)
theorem WW : ∀ {n : Nat}, 2 <= n -> ∃ p, Pr p /\ p ∣ n := by
 intro n hn
 obtain ⟨p, ⟨h1, h2⟩, h3⟩ := xa (p := fun d => 2 <= d /\ d ∣ n) n ⟨hn, Nat.dvd_refl n⟩
 refine ⟨p, wo h1 (fun d hd hdv => ?_) h2 (by omega), h2⟩
 rcases Nat.lt_or_ge d p with c | c
 ·exact absurd ⟨hd, hdv⟩ (h3 d c)
 ·exact c
noncomputable def IsT (N t : Nat) : Prop := 1 <= t /\ N ∣ 2 ^ t - 1 /\ ∀ j, 1 <= j -> N ∣ 2 ^ j - 1 -> t <= j
theorem ZU {N a b : Nat} (h1 : N ∣ 2 ^ (a + b) - 1) (h2 : N ∣ 2 ^ a - 1) : N ∣ 2 ^ b - 1 := by
 have p1 := qX a
 have p2 := qX b
 have p3 := qX (a + b)
 have e : 2 ^ (a + b) - 1 = 2 ^ b * (2 ^ a - 1) + (2 ^ b - 1) := by
  rw [Nat.mul_sub, Nat.mul_one, Nat.pow_add, Nat.mul_comm (2 ^ a)]
  have : 2 ^ b * 1 <= 2 ^ b * 2 ^ a := Nat.mul_le_mul_left _ p1
  omega
 rw [e] at h1
 exact (Nat.dvd_add_right (Nat.dvd_trans h2 ⟨2 ^ b, Nat.mul_comm _ _⟩)).mp h1
theorem IsT.dvd {N t j : Nat} (h : IsT N t) (hj : N ∣ 2 ^ j - 1) : t ∣ j := by
 have e : j = t * (j / t) + j % t := (Nat.div_add_mod j t).symm
 have a : N ∣ 2 ^ (j % t) - 1 := by
  refine ZU (a := t * (j / t)) (by rw [<- e]; exact hj) (Nat.dvd_trans h.2.1 (jV ⟨_, rfl⟩))
 rcases Nat.eq_zero_or_pos (j % t) with z | z
 ·exact Nat.dvd_of_mod_eq_zero z
 ·have := h.2.2 _ z a
  have := Nat.mod_lt j h.1
  omega
theorem IsT.iff {N t j : Nat} (h : IsT N t) : N ∣ 2 ^ j - 1 ↔ t ∣ j := ⟨h.dvd, fun d => Nat.dvd_trans h.2.1 (jV d)⟩
theorem IsT.uniq {N t u : Nat} (h : IsT N t) (g : IsT N u) : t = u := Nat.le_antisymm (h.2.2 _ g.1 g.2.1) (g.2.2 _ h.1 h.2.1)
theorem ZL {N t G F : Nat} {ps : List Nat} (h : IsT N t) (hF : t ∣ F) (F0 : 0 < F) (hG : F ∣ G) (hps : ∀ q, Pr q -> q ∣ G -> q ∈ ps) (hq : ∀ q ∈ ps, ¬ (q ∣ F /\ t ∣ F / q)) : F = t := by
 obtain ⟨k, rfl⟩ := hF
 have k0 : k ≠ 0 := fun z => by rw [z, Nat.mul_zero] at F0; omega
 by_cases c : k = 1
 ·rw [c, Nat.mul_one]
 ·exfalso
  obtain ⟨q, pq, z, rfl⟩ := WW (n := k) (by omega)
  have dF : q ∣ t * (q * z) := ⟨t * z, by ac_rfl⟩
  refine hq q (hps q pq (Nat.dvd_trans dF hG)) ⟨dF, z, ?_⟩
  rw [show t * (q * z) = q * (t * z) by ac_rfl, Nat.mul_div_cancel_left _ (by have := pq.1; omega)]
theorem Jh {t q F F' : Nat} (q0 : 0 < q) (h : ¬ (q ∣ F /\ t ∣ F / q)) (d : F' ∣ F) : ¬ (q ∣ F' /\ t ∣ F' / q) := by
 rintro ⟨⟨a, rfl⟩, h2⟩
 obtain ⟨b, rfl⟩ := d
 rw [Nat.mul_div_cancel_left _ q0] at h2
 exact h ⟨⟨a * b, by ac_rfl⟩, by rw [Nat.mul_assoc, Nat.mul_div_cancel_left _ q0]; exact Nat.dvd_trans h2 ⟨b, rfl⟩⟩
noncomputable def wT (m f : Nat) : Nat := xw (zC (zn m f) (2 * m))
theorem JX {m f : Nat} (hf : f <= 1) (hb : 1 < byW m f) : IsT (byW m f) (wT m f) := by
 have ho := qg (m := m) hf
 refine ⟨jU ho, (vS hb).mp ((qw hf hb _).mp (qI ho)), fun j j1 hj => ?_⟩
 exact Nat.le_of_dvd j1 (jE ((qL ho j).mp ((qw hf hb j).mpr ((vS hb).mpr hj))))
theorem V1 {m f t : Nat} (hf : f <= 1) (hb : 1 < byW m f) (t1 : 1 <= t) (ht : 2 ^ t % byW m f = 1) (hl : ∀ j, 1 <= j -> j < t -> 2 ^ j % byW m f ≠ 1) : wT m f = t := by
 refine (JX hf hb).uniq ⟨t1, (vS hb).mp ht, fun j j1 hj => ?_⟩
 rcases Nat.lt_or_ge j t with c | c
 ·exact absurd ((vS hb).mpr hj) (hl j j1 c)
 ·exact c
noncomputable def Wp (m f t : Nat) : Bool := decide (1 < byW m f) && decide (1 <= t) && decide (2 ^ t % byW m f = 1) && (List.range t).all fun j => decide (j = 0) || decide (2 ^ j % byW m f ≠ 1)
theorem qr {m f t : Nat} (hf : f <= 1) (h : Wp m f t = true) : wT m f = t := by
 unfold Wp at h
 simp only [Bool.and_eq_true, decide_eq_true_eq, List.all_eq_true, List.mem_range, Bool.or_eq_true] at h
 obtain ⟨⟨⟨h1, h2⟩, h3⟩, h4⟩ := h
 refine V1 hf h1 h2 h3 fun j j1 jt => ?_
 rcases h4 j jt with z | z
 ·omega
 ·exact z
theorem wZ {m f : Nat} (hf : f <= 1) (hb : byW m f <= 1) : wT m f = 1 := kh hf hb
noncomputable abbrev jL : Stmt := top 6
theorem kQ : zz ["_law_found", "_law_due", "_law_one", "_law_other"] ["_law_found", "_law_due"] (zj jL) := ⟨rfl, rfl, rfl, by decide +kernel, rfl, by decide +kernel, by decide +kernel⟩
noncomputable def xY (n : Nat) : ASp := fun xs M Q => ∃ (x y : AV) (d : Dat), xs = [x, y] /\ xm x M = some d /\ xm y M = some d /\ j5 n d /\ n <= 30 /\ Q (.d (.bl true)) M
noncomputable def aNo : ASp := fun _ _ _ => False
theorem vj {x y : AV} {M : MH} {l : List Dat} {n : Nat} {sp : ASp} (hsp : ∀ xs M Q, xY n xs M Q -> sp xs M Q) {N : List AV -> ASt -> MH -> Prop} (hl : l.length <= 100000) (hd : ∀ d ∈ l, j5 n d) (hn : n <= 30) {u v : Option AV} (hN : N (l.map fun _ => AV.d (.bl true)) [] M) (hN' : ∀ acc ρ ρ' M, N acc ρ M -> N acc ρ' M) :
  K6 (QH 2 (yI (ka 2) (yI (ka 3) JM))) wB (vG (Ql sp (Zn (XF 2) (Zn (XF 3) YG)))) (fun M' => zL x M' = zL x M /\ zL y M' = zL y M) N (yf l l) [] [some x, some y, u, v] M := by
 have e : (yf l l).map (fun _ => AV.d (.bl true)) = l.map fun _ => AV.d (.bl true) := by
  rw [List.map_const', List.map_const', jd, Nat.min_self]
 refine yl (fun (o : Option AV × Option AV) => [some x, some y, o.1, o.2]) (fun _ => .d (.bl true)) ⟨(u, v), rfl⟩ ⟨rfl, rfl⟩ (by rw [jd, Nat.min_self]; exact hl) (fun o z Q hz q => ?_) fun o => by rw [e]; exact hN' _ _ _ _ hN
 obtain ⟨i, hi⟩ := List.getElem?_of_mem hz
 obtain ⟨d, d', h1, h2, rfl⟩ := xc hi
 rw [h1] at h2; cases h2
 walk_at "ra"
 exact hsp _ _ _ ⟨_, _, d, rfl, rfl, rfl, hd d (List.mem_of_getElem? h1), hn, q (some (.d d), some (.d d))⟩
theorem vc {l : List Dat} : ∃ bs : List Bool, (l.map fun _ => Dat.bl true) = bs.map Dat.bl /\ (l.map fun _ => AV.d (Dat.bl true)) = bs.map (fun b => AV.d (.bl b)) /\ bs.all id = true := ⟨l.map fun _ => true, by rw [List.map_map]; rfl, by rw [List.map_map]; rfl, by simp⟩
theorem Wy (a : At K mg "_law_alike" jL) : Df P w K mg base "_law_alike" ["_law_found", "_law_due"] 1 (cSp aNo) :=
 vi (k := 0) a kQ (fun _ _ _ _ _ _ us hl => match us, hl with | [_, _], _ => rfl) (fun vs H Q E h => by obtain ⟨_, _, _, _, _, _, h, _⟩ := h; exact h.elim) (fun f cdv A outer s H vs Q E hr h => by obtain ⟨_, _, _, _, _, _, h, _⟩ := h; exact h.elim)
theorem y9 (a : At K mg "_law_alike" jL) (B : Blt mg) (Ball : mg "all" = none) {kk : Nat} (n : Nat) {sp : ASp} (hsp : ∀ xs M Q, 1 <= n -> xY (n - 1) xs M Q -> sp xs M Q) (D_law_alike : Df P w K mg base "_law_alike" ["_law_found", "_law_due"] kk (cSp sp)) : Df P w K mg base "_law_alike" ["_law_found", "_law_due"] (kk + 1) (cSp (xY n)) := by
 refine dfA (k := kk) a kQ (fun _ _ _ _ _ _ us hl => match us, hl with | [_, _], _ => rfl) (fun xs M Q h => ?_) (fun f cdv A outer s H E hr => ?_)
 ·obtain ⟨_, _, _, rfl, _⟩ := h; rfl
 have sc := kQ
 have hsl := hsl
 have hs2 : 0 + 1 + 1 <= sizeLine := by omega
 refine ⟨_, (zd (qC (kO (zt xX rfl B.isinstance zu (za (pv 1) (za (kX (za (zY (v := .ty "list") rfl B.list qT rfl) (za (zY (v := .ty "tuple") rfl B.tuple y8 rfl) zc))) zc))) (fun _ => rfl)) (zd (qC (PW.pt (Yh (wx (kO (zt xX rfl B.isinstance zu (za (pv 0) (za (kX (za (zY (v := .ty "list") rfl B.list qT rfl) (za (zY (v := .ty "tuple") rfl B.tuple y8 rfl) zc))) zc))) (fun _ => rfl))) (QV (zB (ke hr.units) (zt ql rfl B.isinstance zu (za (pv 0) (za (zY (v := .ty "list") rfl B.list qT rfl) zc))) (zt ql rfl B.isinstance zu (za (pv 1) (za (zY (v := .ty "list") rfl B.list qT rfl) zc))) (zy _))))) (zg (zx kL)) zR)
  (zg (zx (ya (qq (qh hr.units) (zt qf rfl B.len kG (za (pv 0) zc)) (zt qf rfl B.len kG (za (pv 1) zc)) (zy _)) (vQ (zt (ZO rfl) rfl Ball Vr (za (kB (ts := [2, 3]) rfl rfl (Je rfl B.zip (za (pv 0) (za (pv 1) zc))) (fun _ _ _ _ => (jT (K := K) 2 rfl rfl (zW (zE (i := 2) sc.nd rfl (by first | exact Or.inl rfl | exact Or.inr rfl)) (zW (zE (i := 3) sc.nd rfl (by first | exact Or.inl rfl | exact Or.inr rfl)) jQ)))) (fun _ _ _ _ => jH) (fun _ _ _ _ => (zJ D_law_alike hr rfl (za (pv 2) (za (pv 3) zc))))) zc))))))) zR)
  (zd (qC (PW.pt (Yh (zB Yu (pv 1) YW (zy _)) (QV (kO (zt ql rfl B.isinstance zu (za (pv 1) (za (zY (v := .ty "str") rfl B.str wz rfl) zc))) (fun _ => rfl))))) (zg (zx (ya (qq (qh hr.units) (pv 0) (pv 1) (zy _)) (vQ (qq (qh hr.units) (zt ql rfl B.isinstance zu (za (pv 0) (za (zY (v := .ty "str") rfl B.str wz rfl) zc))) (zt ql rfl B.isinstance zu (za (pv 1) (za (zY (v := .ty "str") rfl B.str wz rfl) zc))) (zy _)))))) zR)
  (zg (zx (ya (zt ql rfl B.isinstance zu (za (pv 0) (za (zY (v := .ty "int") rfl B.int kU rfl) zc))) (ya (qq (qh hr.units) (zt ql rfl B.isinstance zu (za (pv 0) (za (zY (v := .ty "bool") rfl B.bool wK rfl) zc))) (zt ql rfl B.isinstance zu (za (pv 1) (za (zY (v := .ty "bool") rfl B.bool wK rfl) zc))) (zy _)) (vQ (qq (qh hr.units) (pv 0) (pv 1) (zy _))))))))), ?_⟩
 refine ex2 (by walk_at "sim") ?_
 rintro xs M Q ⟨x, y, d, rfl, hx, hy, hd, hn, q⟩
 rw [show zV ["_law_found", "_law_due", "_law_one", "_law_other"] [x, y] = [some x, some y, none, none] from rfl]
 have fin := Yd (M0 := M) Fr.refl (.bl true)
 cases d with
 | non => obtain rfl := zP hx (fun _ z => nomatch z); obtain rfl := zP hy (fun _ z => nomatch z); walk_at "ra"; exact ⟨hs2, _, _, fin, q⟩
 | bl b => obtain rfl := zP hx (fun _ z => nomatch z); obtain rfl := zP hy (fun _ z => nomatch z); walk_at "ra"; exact ⟨hs2, _, _, fin, q⟩
 | int i => obtain rfl := zP hx (fun _ z => nomatch z); obtain rfl := zP hy (fun _ z => nomatch z); walk_at "ra"; exact ⟨hs2, _, _, fin, q⟩
 | str i => obtain rfl := zP hx (fun _ z => nomatch z); obtain rfl := zP hy (fun _ z => nomatch z); walk_at "ra"; exact ⟨hs2, _, _, fin, q⟩
 | tup l =>
  obtain rfl := zP hx (fun _ z => nomatch z)
  obtain rfl := zP hy (fun _ z => nomatch z)
  cases n with
  | zero => exact hd.no_t.elim
  | succ n =>
   obtain ⟨hl, hd'⟩ := hd.tup
   walk_at "ra"
   refine ⟨hs2, hs2, l, l, .inr ⟨rfl, rfl, Nat.le_refl _⟩, vj (n := n) (sp := sp) (fun xs M Q h => hsp xs M Q (by omega) h) hl hd' (by omega) ?_ (fun _ _ _ _ z => z)⟩
   obtain ⟨bs, b1, b2, b3⟩ := vc (l := l)
   refine ⟨l.map fun _ => .bl true, ?_, bs, by rw [List.map_map]; exact b2, ?_⟩
   ·rw [<- qW (l.map fun _ => Dat.bl true), List.map_map]; rfl
   ·rw [b3]; exact ⟨_, _, fin, q⟩
 | lst l =>
  obtain ⟨x1, x2, x3, x4⟩ := vp hx
  obtain ⟨y1, y2, y3, y4⟩ := vp hy
  cases n with
  | zero => exact hd.no_l.elim
  | succ n =>
   obtain ⟨hl, hd'⟩ := hd.lst
   walk_at "ra"
   simp only [x2, x3, x4, y2, y3, y4]
   walk_at "ra"
   refine ⟨hs2, hs2, l, l, .inl ⟨x1, y1⟩, vj (n := n) (sp := sp) (fun xs M Q h => hsp xs M Q (by omega) h) hl hd' (by omega) ?_ (fun _ _ _ _ z => z)⟩
   obtain ⟨bs, b1, b2, b3⟩ := vc (l := l)
   refine ⟨l.map fun _ => .bl true, ?_, bs, by rw [List.map_map]; exact b2, ?_⟩
   ·rw [<- qW (l.map fun _ => Dat.bl true), List.map_map]; rfl
   ·rw [b3]; exact ⟨_, _, fin, q⟩
 | ty t => have := hd.1; rw [dp] at this; omega
 | rng _ _ _ => have := hd.1; rw [dp] at this; omega
 | scr _ _ => have := hd.1; rw [dp] at this; omega
theorem xU (a : At K mg "_law_alike" jL) (B : Blt mg) (Ball : mg "all" = none) : ∀ n, Df P w K mg base "_law_alike" ["_law_found", "_law_due"] (n + 2) (cSp (xY n))
 | 0 => y9 a B Ball 0 (sp := aNo) (fun _ _ _ h => absurd h (by omega)) (Wy a)
 | n + 1 => y9 a B Ball (n + 1) (sp := xY n) (fun _ _ _ _ h => h) (xU a B Ball n)
noncomputable def J3 (K : PySem.W.Frag) : ASp := fun xs M Q => ∃ (m : Int) (ns : List Int), xs = [.d (.scr K ns), .d (.int m)] /\ 0 < m /\ m <= 60 /\ ns.length <= 63 /\ ∀ p M' (bs : List Addr), Fr M M' -> M p = none -> M' p = some (.lst (bs.map AV.ref)) -> bs.Nodup -> (∀ b ∈ bs, BxM M' b 0 /\ b ≠ p /\ M b = none) -> bs.length <= 1000 -> Q (.ref p) M'
noncomputable abbrev yu : Stmt := top 7
theorem vF : zz ["_law_script", "_law_many", "_law_cells", "_law_k"] ["_law_script", "_law_many"] (zj yu) := ⟨rfl, rfl, rfl, by decide +kernel, rfl, by decide +kernel, by decide +kernel⟩
theorem Jn (a : At K mg "_law_boxes" yu) (B : Blt mg) (D_law_folded : Df P w K mg base "_law_folded" ["_law_script", "_law_many"] 1 (cSp (Za K))) (D_law_box : Df P w K mg base "_law_box" ["_law_script", "_law_k"] 1 (cSp WQ)) : Df P w K mg base "_law_boxes" ["_law_script", "_law_many"] 2 (cSp (J3 K)) := by
 refine dfA (k := 1) a vF (fun _ _ _ _ _ _ us hl => match us, hl with | [_, _], _ => rfl) (fun xs M Q h => ?_) (fun f cdv A outer s H E hr => ?_)
 ·obtain ⟨_, _, rfl, _⟩ := h; rfl
 have sc := vF
 have hsl := hsl
 refine ⟨_, (zd (zw (i := 2) sc.nd rfl (by first | exact Or.inl rfl | exact Or.inr rfl) (zJ D_law_folded hr rfl (za (pv 0) (za (pv 1) zc))))
  (zg (zx (yE (kB (ts := [3]) rfl rfl (xB rfl B.range (za (zt (ZQ rfl) rfl B.max YY (za zb (za (zt qf rfl B.len kG (za (pv 2) zc)) zc))) zc)) (fun _ _ _ _ => (zE (i := 3) sc.nd rfl (by first | exact Or.inl rfl | exact Or.inr rfl))) (fun _ _ _ _ => jH) (fun _ _ _ _ => (zJ D_law_box hr rfl (za (pv 2) (za (pv 3) zc))))))))), ?_⟩
 refine ex2 (by walk_at "sim") ?_
 rintro xs M Q ⟨m, ns, rfl, h1, h2, hn, q⟩
 rw [show zV ["_law_script", "_law_many", "_law_cells", "_law_k"] [.d (.scr K ns), .d (.int m)] = [some (.d (.scr K ns)), some (.d (.int m)), none, none] from rfl]
 refine zi fun r hr0 => ?_
 walk_at "ra"
 refine ⟨m, ns, rfl, h1, h2, hn, fun cs lc => ?_⟩
 subst hr0
 walk_at "ra"
 obtain ⟨z, hz, hz'⟩ : ∃ z : Nat, (if (cs.length : Int) > 1 then (cs.length : Int) else 1) = (z : Int) /\ z <= 1000 := by
  split
  ·exact ⟨cs.length, rfl, by omega⟩
  ·exact ⟨1, rfl, by omega⟩
 rw [hz, Int.toNat_natCast]
 refine ⟨by omega, by omega, ?_⟩
 refine ⟨fun i acc ρ M' => ∃ u bs, ρ = [some (.d (.scr K ns)), some (.d (.int m)), some (.d (ilD cs)), u] /\ acc = bs.map AV.ref /\ bs.length = i /\ bs.Nodup /\ Fr M M' /\ (∀ q o, M' q = some o -> M q = some o \/ q ∈ bs) /\ ∀ b ∈ bs, BxM M' b 0 /\ M b = none, ⟨none, [], rfl, rfl, rfl, List.nodup_nil, Fr.refl, (fun q o e => .inl e), fun b hb => nomatch hb⟩, ?_, ?_⟩
 ·rintro i y acc ρ M' hy ⟨u, bs, rfl, rfl, lb, nd, f, ho, hb⟩
  obtain ⟨hi, rfl⟩ := kY hy
  refine ⟨trivial, ?_⟩
  walk_at "ra"
  refine ⟨_, _, cs, rfl, KZ _ _, by omega, by omega, by omega, fun b o hbn bx => ⟨by omega, bs ++ [b], by rw [List.map_append]; rfl, by rw [List.length_append, lb]; rfl, ?_, f.mup (f.non hbn) o, (fun q o' e => ?_), fun x hx => ?_⟩⟩
  ·refine List.nodup_append.mpr ⟨nd, by simp, fun x hx y hy e => ?_⟩
   rw [List.mem_singleton.mp hy] at e
   exact (hb x hx).1.ne (by rw [e]; exact hbn)
  ·by_cases c : q = b
   ·exact .inr (by simp [c])
   ·rw [zD c] at e
    exact (ho q o' e).imp (fun z => z) (fun z => by simp [z])
  ·rcases List.mem_append.mp hx with hx | hx
   ·exact ⟨(hb x hx).1.put (fun z => (hb x hx).1.ne (by rw [z]; exact hbn)) o, (hb x hx).2⟩
   ·rw [List.mem_singleton.mp hx]; exact ⟨bx, f.non hbn⟩
 ·rintro acc ρ M' ⟨u, bs, rfl, rfl, lb, nd, f, ho, hb⟩
  rw [jN] at lb
  refine ⟨trivial, fun p hp hp' => ?_⟩
  have hbp : ∀ b ∈ bs, b ≠ p := fun b h z => (hb b h).1.ne (by rw [z]; exact hp')
  refine ⟨.ref p, mup M' p (.lst (bs.map AV.ref)), ⟨fun _ => .inl rfl, fun q' o e => ?_, .inl ⟨rfl, fun p' z => by cases z; rw [zm]; exact fun z => nomatch z⟩⟩, q p _ bs (f.mup hp _) hp zm nd (fun b h => ⟨(hb b h).1.put (hbp b h) _, hbp b h, (hb b h).2⟩) (by omega)⟩
  by_cases c : q' = p
  ·rw [c, zm] at e
   cases e
   refine .inr fun r hr => ?_
   obtain ⟨b, hb', e2⟩ := List.mem_map.mp (show AV.ref r ∈ bs.map AV.ref from hr)
   cases e2
   rw [zD (hbp r hb')]
   exact (hb r hb').1.ne
  ·rw [zD c] at e
   rcases ho q' o e with z | z
   ·exact .inl z
   ·exact .inr fun r hr => absurd hr ((hb q' z).1.refs e r)
noncomputable def wW : ASp := fun xs M Q => ∃ (b : Addr) (N : Nat), xs = [.ref b] /\ BxM M b N /\ N < 100000 /\ ∀ (m : Nat) M', BxS M M' b (N + 4) -> m <= 100 -> Q (.d (.int m)) M'
noncomputable abbrev xo : Stmt := top 14
theorem xT : zz ["_law_box_here"] ["_law_box_here"] (zj xo) := ⟨rfl, rfl, rfl, by decide +kernel, rfl, by decide +kernel, by decide +kernel⟩
theorem ZV (a : At K mg "_law_halves" xo) (B : Blt mg) (D_law_take : Df P w K mg base "_law_take" ["_law_box_here", "_law_many"] 1 (cSp Jc)) : Df P w K mg base "_law_halves" ["_law_box_here"] 2 (cSp wW) := by
 refine dfA (k := 1) a xT (fun _ _ _ _ _ _ us hl => match us, hl with | [_], _ => rfl) (fun xs M Q h => ?_) (fun f cdv A outer s H E hr => ?_)
 ·obtain ⟨_, _, rfl, _⟩ := h; rfl
 have sc := xT
 have hsl := hsl
 refine ⟨_, (zd (qC (zB (qh hr.units) (zJ D_law_take hr rfl (za (pv 0) (za zb zc))) zb (zy _)) (zg (zx (zf yD zb (zJ D_law_take hr rfl (za (pv 0) (za zb zc)))))) zR)
  (zg (zx (qs wM (qj (za (zJ D_law_take hr rfl (za (pv 0) (za zb zc))) (za (zf zO zb (zJ D_law_take hr rfl (za (pv 0) (za zb zc)))) zc))) (z0 jr rfl B.int kU (za (qq (qh hr.units) (zJ D_law_take hr rfl (za (pv 0) (za zb zc))) zb (zy _)) zc)) (fun _ _ => rfl))))), ?_⟩
 refine ex2 (by walk_at "sim") ?_
 rintro xs M Q ⟨b, N, rfl, hb, hN, q⟩
 rw [show zV ["_law_box_here"] [.ref b] = [some (.ref b)] from rfl]
 refine zi fun r hr0 => ?_
 walk_at "ra"
 have sb := SB.refl hb
 refine ⟨b, 12, N, rfl, hb, by omega, by omega, by omega, fun c1 M1 s1 c10 c11 => ⟨_, rfl, by rw [j9]; omega, ?_⟩⟩
 have sb := sb.go s1
 rw [v9]
 by_cases c : c1 = 0
 ·rw [if_pos (decide_eq_true c)]
  refine ⟨b, 60, _, rfl, sb.bx, by omega, by omega, by omega, fun c2 M2 s2 c20 c21 => ?_⟩
  have sb := sb.go s2
  refine ⟨_, rfl, (sb.mono (show N + 1 + 1 <= N + 4 by omega)).rt fun M' t' => ?_⟩
  rw [show (100 : Int) - c2 = ((100 - c2.toNat : Nat) : Int) by omega]
  exact q _ M' t' (by omega)
 ·rw [if_neg (by simp [c])]
  subst hr0
  walk_at "ra"
  refine ⟨b, 8, _, rfl, sb.bx, by omega, by omega, by omega, fun c2 M2 s2 c20 c21 => ⟨b, 33, _, rfl, s2.1, by omega, by omega, by omega, fun c3 M3 s3 c30 c31 => ⟨_, rfl, by omega, _, rfl, b, 5, _, rfl, s3.1, by omega, by omega, by omega, fun c4 M4 s4 c40 c41 => ?_⟩⟩⟩
  have sb := ((sb.go s2).go s3).go s4
  refine ⟨_, rfl, by rw [j9]; omega, ?_⟩
  obtain ⟨t, ht, ht1⟩ : ∃ t : Nat, atI (List.map AV.d [Dat.int c2, Dat.int (8 + c3)]) (if eqD (Dat.int c4) (Dat.int 0) = true then 1 else 0) = some (.d (.int t)) /\ t <= 100 := by
   split
   ·exact ⟨(8 + c3).toNat, by rw [show (((8 + c3).toNat : Nat) : Int) = 8 + c3 by omega]; rfl, by omega⟩
   ·exact ⟨c2.toNat, by rw [show ((c2.toNat : Nat) : Int) = c2 by omega]; rfl, by omega⟩
  exact ⟨_, ht, sb.rt fun M' t' => q t M' t' ht1⟩
noncomputable def w6 : ASp := fun xs M Q => ∃ (m f : Nat), xs = [.d (.int m), .d (.int f)] /\ m <= 200000 /\ f <= 1 /\ Q (.d (.int (wT m f : Nat))) M
noncomputable abbrev kD : Stmt := top 1
theorem xH : zz ["many", "first", "by", "turns", "rest"] ["many", "first"] (zj kD) := ⟨rfl, rfl, rfl, by decide +kernel, rfl, by decide +kernel, by decide +kernel⟩
theorem Z7 (a : At K mg "weave_turns" kD) (B : Blt mg) : Df P w K mg base "weave_turns" ["many", "first"] 1 (cSp w6) := by
 refine dfA (k := 0) a xH (fun _ _ _ _ _ _ us hl => match us, hl with | [_, _], _ => rfl) (fun xs M Q h => ?_) (fun f cdv A outer s H E hr => ?_)
 ·obtain ⟨_, _, rfl, _⟩ := h; rfl
 have sc := xH
 have hsl := hsl
 refine ⟨_, (zd (zw (i := 2) sc.nd rfl (by first | exact Or.inl rfl | exact Or.inr rfl) (Q6 (zB (qh hr.units) (pv 1) zb (zy _)) (zf zO (zf zS zb (pv 0)) zb) (zf yD (zf zS zb (pv 0)) zb)))
  (zd (qC (zB X9 (pv 2) zb (zy _)) (zg (zx zb)) zR)
  (zd (zw (i := 3) sc.nd rfl (by first | exact Or.inl rfl | exact Or.inr rfl) zb)
  (zd (zw (i := 4) sc.nd rfl (by first | exact Or.inl rfl | exact Or.inr rfl) zb)
  (zd (qN PassesOwn.never (zB (ke hr.units) (pv 4) zb (zy _)) (zd (zw (i := 4) sc.nd rfl (by first | exact Or.inl rfl | exact Or.inr rfl) (zf zK (zf zS (pv 4) zb) (pv 2)))
  (zg (YQ (i := 3) sc.nd rfl (by first | exact Or.inl rfl | exact Or.inr rfl) zb Wj))))
  (zg (zx (pv 3)))))))), ?_⟩
 refine ex2 (by walk_at "sim") ?_
 rintro xs M Q ⟨m, f, rfl, hm, hf, q⟩
 rw [show zV ["many", "first", "by", "turns", "rest"] [.d (.int m), .d (.int f)] = [some (.d (.int m)), some (.d (.int f)), none, none, none] from rfl]
 unfold wT at q
 refine zi fun r hr0 => ?_
 walk_at "ra"
 have key : ∀ b : Int, b = (byW m f : Nat) \/ (b <= 1 /\ byW m f <= 1) -> r M { nx := fun x M' => rtA M Q (AV.d Dat.non) M', rt := rtA M Q } [some (AV.d (Dat.int m)), some (AV.d (Dat.int f)), some (AV.d (Dat.int b)), none, none] M := by
  intro b hb
  subst hr0
  refine zi fun r hr0 => ?_
  walk_at "ra"
  by_cases c : b <= 1
  ·rw [if_pos c]
   rw [kh hf (by omega)] at q
   exact kM Fr.refl q
  ·rw [if_neg c]
   have e : b = (byW m f : Nat) := by omega
   subst e
   have hB : 1 < byW m f := by omega
   have h3 : 3 <= byW m f := by unfold byW at *; split <;> split at hB <;> omega
   have hs := qw hf hB
   have hL := (hs _).mp (qI (qg hf))
   have L1 := jU (qg (m := m) hf)
   have li := fun t => vW (qg (m := m) hf) (t := t)
   generalize xw (zC (zn m f) (2 * m)) = L at *
   generalize byW m f = B at *
   subst hr0
   refine zi fun r hr0 => ?_
   walk_at "ra"
   subst hr0
   refine zi fun r hr0 => ?_
   walk_at "ra"
   subst hr0
   refine zi fun r hr0 => ?_
   show jG _ _ _ _ _ _
   unfold jG
   refine ⟨fun k ρ M' => M = M' /\ ∃ t : Nat, ρ = [some (.d (.int m)), some (.d (.int f)), some (.d (.int B)), some (.d (.int t)), some (.d (.int (2 ^ t % B : Nat)))] /\ 1 <= t /\ t + k = L /\ ∀ j, 1 <= j -> 2 ^ j % B = 1 -> t <= j, ⟨L - 1, rfl, 1, by rw [show 2 ^ 1 % B = 2 from Nat.mod_eq_of_lt (by omega)]; rfl, by omega, by omega, fun j hj _ => hj⟩, ?_⟩
   rintro k ρ M' ⟨rfl, t, rfl, t1, tk, tj⟩
   walk_at "ra"
   by_cases c1 : 2 ^ t % B = 1
   ·rw [if_neg (not_not_intro (by omega))]
    subst hr0
    walk_at "ra"
    rw [<- li t t1 ((hs t).mpr c1) fun j j1 js => tj j j1 ((hs j).mp js)] at q
    exact kM Fr.refl q
   ·rw [if_pos (by omega)]
    have k0 : k ≠ 0 := fun z => c1 (by rw [show t = L by omega]; exact hL)
    refine ⟨yz (by omega) (by omega), by omega, k - 1, by omega, t + 1, by omega, ?_, by omega, by omega, fun j j1 js => ?_⟩
    ·have : 2 ^ (t + 1) % B = 2 ^ t % B * 2 % B := by rw [Nat.pow_succ, Nat.mod_mul_mod]
     rw [this]; push_cast; rfl
    ·have := tj j j1 js
     rcases Nat.lt_or_eq_of_le this with h | h
     ·exact h
     ·subst h; exact absurd js c1
 by_cases c : f = 1
 ·rw [if_pos (by omega)]
  exact ⟨qU (by omega) (by omega), key _ (.inl (by unfold byW; rw [if_pos c]; omega))⟩
 ·rw [if_neg (by omega)]
  refine ⟨qU (by omega) (by omega), key _ ?_⟩
  unfold byW; rw [if_neg c]; omega
theorem XR (b o p : Nat) : (1 % p) * (b % p) ^ o % p = b ^ o % p := by rw [Nat.mod_mul_mod, Nat.one_mul, <- Nat.pow_mod]
theorem Q5 (x p k : Nat) : (x * x % p) ^ k % p = x ^ (2 * k) % p := by rw [<- Nat.pow_mod, <- Nat.pow_two, <- Nat.pow_mul]
theorem XG {F x p l : Nat} (h : l % 2 = 0) : F * (x * x % p) ^ (l / 2) % p = F * x ^ l % p := by
 rw [Nat.mul_mod, Q5, <- Nat.mul_mod, show 2 * (l / 2) = l by omega]
theorem Y7 {F x p l : Nat} (h : l % 2 = 1) : (F * x % p) * (x * x % p) ^ (l / 2) % p = F * x ^ l % p := by
 rw [Nat.mod_mul_mod, Nat.mul_mod, Q5, <- Nat.mul_mod, Nat.mul_assoc, Nat.mul_comm x, <- Nat.pow_succ, show (2 * (l / 2)).succ = l by omega]
noncomputable def Qq : ASp := fun xs M Q => ∃ (b o p : Nat), xs = [.d (.int b), .d (.int o), .d (.int p)] /\ 0 < p /\ p <= 1000000 /\ Q (.d (.int (b ^ o % p : Nat))) M
noncomputable abbrev yp : Stmt := top 9
theorem vN : zz ["_law_base", "_law_often", "_law_part", "_law_found", "_law_more", "_law_left"] ["_law_base", "_law_often", "_law_part"] (zj yp) := ⟨rfl, rfl, rfl, by decide +kernel, rfl, by decide +kernel, by decide +kernel⟩
theorem Q2 (a : At K mg "_law_power_left" yp) (B : Blt mg) : Df P w K mg base "_law_power_left" ["_law_base", "_law_often", "_law_part"] 1 (cSp Qq) := by
 refine dfA (k := 0) a vN (fun _ _ _ _ _ _ us hl => match us, hl with | [_, _, _], _ => rfl) (fun xs M Q h => ?_) (fun f cdv A outer s H E hr => ?_)
 ·obtain ⟨_, _, _, rfl, _⟩ := h; rfl
 have sc := vN
 have hsl := hsl
 refine ⟨_, (zd (Ky (i := 3) (j := 4) (k := 5) rfl sc.nd rfl rfl rfl (by decide) (by decide) (by decide) rfl rfl rfl (za (zf zK zb (pv 2)) (za (zf zK (pv 0) (pv 2)) (za (pv 1) zc))) rfl)
  (zd (qN PassesOwn.never (zB Zc (pv 5) zb (zy _)) (zd (qC (zB (qh hr.units) (zf zK (pv 5) zb) zb (zy _)) (zg (zw (i := 3) sc.nd rfl (by first | exact Or.inl rfl | exact Or.inr rfl) (zf zK (zf zS (pv 3) (pv 4)) (pv 2)))) zR)
  (zd (zw (i := 4) sc.nd rfl (by first | exact Or.inl rfl | exact Or.inr rfl) (zf zK (zf zS (pv 4) (pv 4)) (pv 2)))
  (zg (zw (i := 5) sc.nd rfl (by first | exact Or.inl rfl | exact Or.inr rfl) (zf jw (pv 5) zb))))))
  (zg (zx (pv 3))))), ?_⟩
 refine ex2 (by walk_at "sim") ?_
 rintro xs M Q ⟨b, o, p, rfl, hp, hp1, q⟩
 rw [show zV ["_law_base", "_law_often", "_law_part", "_law_found", "_law_more", "_law_left"] [.d (.int b), .d (.int o), .d (.int p)] = [some (.d (.int b)), some (.d (.int o)), some (.d (.int p)), none, none, none] from rfl]
 refine zi fun r hr0 => ?_
 walk_at "ra"
 refine ⟨by omega, by omega, ?_⟩
 subst hr0
 refine zi fun r hr0 => ?_
 show jG _ _ _ _ _ _
 unfold jG
 refine ⟨fun l ρ M' => M = M' /\ ∃ F Mo : Nat, ρ = [some (.d (.int b)), some (.d (.int o)), some (.d (.int p)), some (.d (.int F)), some (.d (.int Mo)), some (.d (.int l))] /\ F < p /\ Mo < p /\ F * Mo ^ l % p = b ^ o % p, ⟨o, rfl, 1 % p, b % p, by push_cast; rfl, Nat.mod_lt _ hp, Nat.mod_lt _ hp, XR b o p⟩, ?_⟩
 rintro l ρ M' ⟨rfl, F, Mo, rfl, hF, hM, e⟩
 walk_at "ra"
 by_cases c : (0 : Int) < l
 ·rw [if_pos c]
  refine ⟨by omega, ?_⟩
  by_cases c2 : (l : Int) % 2 = 1
  ·rw [if_pos c2]
   exact ⟨qU (by omega) (by omega), by omega, qU (by omega) (by omega), by omega, qz (by omega) (by omega), l / 2, by omega, F * Mo % p, by push_cast; rfl, Mo * Mo % p, by push_cast; rfl, by push_cast; rfl, Nat.mod_lt _ hp, Nat.mod_lt _ hp, by rw [Y7 (by omega)]; exact e⟩
  ·rw [if_neg c2]
   exact ⟨qU (by omega) (by omega), by omega, qz (by omega) (by omega), l / 2, by omega, F, rfl, Mo * Mo % p, by push_cast; rfl, by push_cast; rfl, hF, Nat.mod_lt _ hp, by rw [XG (by omega)]; exact e⟩
 ·rw [if_neg c]
  have l0 : l = 0 := by omega
  subst l0
  subst hr0
  walk_at "ra"
  rw [<- e, Nat.pow_zero, Nat.mul_one, Nat.mod_eq_of_lt hF] at q
  exact kM Fr.refl q
noncomputable def nl (ps : List Nat) : List Int := ps.map fun (p : Nat) => (p : Int)
noncomputable def yj : ASp := fun xs M Q => ∃ N : Nat, xs = [.d (.int N)] /\ 0 < N /\ N <= 1000000 /\ ∀ ps, Fc N ps 1 -> ps.length <= 100000 -> Q (.d (ilD (nl ps))) M
noncomputable abbrev xr : Stmt := top 10
theorem xR : zz ["_law_number", "_law_found", "_law_rest", "_law_one"] ["_law_number"] (zj xr) := ⟨rfl, rfl, rfl, by decide +kernel, rfl, by decide +kernel, by decide +kernel⟩
theorem Qd (a : At K mg "_law_parted" xr) (B : Blt mg) : Df P w K mg base "_law_parted" ["_law_number"] 1 (cSp yj) := by
 refine dfA (k := 0) a xR (fun _ _ _ _ _ _ us hl => match us, hl with | [_], _ => rfl) (fun xs M Q h => ?_) (fun f cdv A outer s H E hr => ?_)
 ·obtain ⟨_, rfl, _⟩ := h; rfl
 have sc := xR
 have hsl := hsl
 refine ⟨_, (zd (zw (i := 1) sc.nd rfl (by first | exact Or.inl rfl | exact Or.inr rfl) (yE (qj zc)))
  (zd (zw (i := 2) sc.nd rfl (by first | exact Or.inl rfl | exact Or.inr rfl) (pv 0))
  (zd (zw (i := 3) sc.nd rfl (by first | exact Or.inl rfl | exact Or.inr rfl) zb)
  (zd (qN PassesOwn.never (zB X9 (zf zS (pv 3) (pv 3)) (pv 2) (zy _)) (zd (qC (zB (qh hr.units) (zf zK (pv 2) (pv 3)) zb (zy _)) (zg (wN (Ye PySem.F.plainAttrs_list PySem.F.slot_list_append PySem.F.type_list_append Qf (pv 1) (za (pv 3) zc)))) zR)
  (zd (qN PassesOwn.never (zB (qh hr.units) (zf zK (pv 2) (pv 3)) zb (zy _)) (zg (zw (i := 2) sc.nd rfl (by first | exact Or.inl rfl | exact Or.inr rfl) (zf jw (pv 2) (pv 3)))))
  (zg (zw (i := 3) sc.nd rfl (by first | exact Or.inl rfl | exact Or.inr rfl) (zf zO (pv 3) zb))))))
  (zg (zx (zf QL (pv 1) (zf vR (qj (za (pv 2) zc)) (z0 jr rfl B.int kU (za (qq Zc (pv 2) zb (zy _)) zc)))))))))), ?_⟩
 refine ex2 (by walk_at "sim") ?_
 rintro xs M Q ⟨N, rfl, hN, hN1, q⟩
 rw [show zV ["_law_number", "_law_found", "_law_rest", "_law_one"] [.d (.int N)] = [some (.d (.int N)), none, none, none] from rfl]
 refine zi fun r hr0 => ?_
 walk_at "ra"
 refine fun p hp _ => ?_
 subst hr0
 refine zi fun r hr0 => ?_
 walk_at "ra"
 subst hr0
 refine zi fun r hr0 => ?_
 walk_at "ra"
 subst hr0
 refine zi fun r hr0 => ?_
 show jG _ _ _ _ _ _
 unfold jG
 refine ⟨fun k ρ M' => ∃ (ps : List Nat) (R one : Nat), ρ = [some (.d (.int N)), some (.ref p), some (.d (.int R)), some (.d (.int one))] /\ M' = mup M p (.lst ((nl ps).map fun i => AV.d (.int i))) /\ Fc N ps R /\ 0 < R /\ R <= N /\ 2 <= one /\ one + k = N + 3 /\ ps.length + 2 <= one /\ (∀ d, 2 <= d -> d ∣ R -> one <= d) /\ (one - 1) * (one - 1) <= N, ⟨N + 1, [], N, 2, rfl, rfl, YR N, hN, Nat.le_refl _, by omega, by omega, by simp, (fun d hd _ => hd), by show 1 <= N; omega⟩, ?_⟩
 rintro k ρ M' ⟨ps, R, one, rfl, rfl, hF, R0, R1, o2, ok, lp, hd, osq⟩
 walk_at "ra"
 have os : one <= 1000003 := by omega
 refine ⟨qU (by omega) (by omega), ?_⟩
 by_cases c : (one : Int) * (one : Int) <= R
 ·rw [if_pos c]
  have cn : one * one <= R := by exact_mod_cast c
  have oR : one <= R := by
   have : one * 1 <= one * one := Nat.mul_le_mul_left _ (by omega)
   omega
  refine ⟨by omega, ?_⟩
  by_cases c2 : (R : Int) % one = 0
  ·rw [if_pos c2]
   have dR : one ∣ R := Nat.dvd_of_mod_eq_zero (by omega)
   refine ⟨⟨_, qm zm⟩, _, zm, Nat.lt_of_le_of_lt (show _ <= 1000003 by rw [List.length_map]; unfold nl; rw [List.length_map]; omega) (by rw [sizeLine_eq]; decide), ?_⟩
   rw [show ((nl ps).map fun i => AV.d (.int i)) ++ [AV.d (.int (one : Int))] = (nl (ps ++ [one])).map fun i => AV.d (.int i) by unfold nl; rw [List.map_append, List.map_append]; rfl]
   unfold yw
   refine ⟨fun k2 ρ M' => M' = mup M p (.lst ((nl (ps ++ [one])).map fun i => AV.d (.int i))) /\ ∃ e : Nat, ρ = [some (.d (.int N)), some (.ref p), some (.d (.int k2)), some (.d (.int one))] /\ R = one ^ e * k2 /\ 0 < k2, ⟨R, rfl, 0, rfl, by rw [Nat.pow_zero, Nat.one_mul], R0⟩, ?_⟩
   rintro k2 ρ M' ⟨rfl, e, rfl, eR, k0⟩
   walk_at "ra"
   refine ⟨by omega, ?_⟩
   by_cases c3 : (k2 : Int) % one = 0
   ·rw [if_pos c3]
    have dk : one ∣ k2 := Nat.dvd_of_mod_eq_zero (by omega)
    refine ⟨qz (by omega) (by omega), k2 / one, Nat.div_lt_self k0 (by omega), by push_cast; rfl, ⟨e + 1, ?_⟩, Nat.div_pos (Nat.le_of_dvd k0 dk) (by omega)⟩
    rw [Nat.pow_succ, Nat.mul_assoc, Nat.mul_div_cancel' dk]
    exact eR
   ·rw [if_neg c3]
    have nk : ¬ one ∣ k2 := fun z => c3 (by have := Nat.mod_eq_zero_of_dvd z; omega)
    obtain ⟨z1, z2⟩ := Kf hF eR (fun z => wo o2 hd z R0) nk
    have kR : k2 ∣ R := ⟨one ^ e, by rw [eR, Nat.mul_comm]⟩
    have kl := Nat.le_of_dvd R0 kR
    have hd2 : ∀ d, 2 <= d -> d ∣ k2 -> one + 1 <= d := fun d d2 dd => by
     have := hd d d2 (Nat.dvd_trans dd kR)
     rcases Nat.lt_or_eq_of_le this with h | h
     ·exact h
     ·exact absurd (h ▸ dd) nk
    refine ⟨k - 1, by omega, ps ++ [one], k2, rfl, one + 1, by push_cast; rfl, rfl, z1 dR, k0, by omega, by omega, by omega, by rw [List.length_append]; show _ + 1 + 2 <= _; omega, hd2, by show one * one <= N; omega⟩
  ·rw [if_neg c2]
   have dR : ¬ one ∣ R := fun z => c2 (by have := Nat.mod_eq_zero_of_dvd z; omega)
   unfold yw
   refine ⟨fun k2 ρ M' => M' = mup M p (.lst ((nl (ps)).map fun i => AV.d (.int i))) /\ ∃ e : Nat, ρ = [some (.d (.int N)), some (.ref p), some (.d (.int k2)), some (.d (.int one))] /\ R = one ^ e * k2 /\ 0 < k2, ⟨R, rfl, 0, rfl, by rw [Nat.pow_zero, Nat.one_mul], R0⟩, ?_⟩
   rintro k2 ρ M' ⟨rfl, e, rfl, eR, k0⟩
   walk_at "ra"
   refine ⟨by omega, ?_⟩
   by_cases c3 : (k2 : Int) % one = 0
   ·rw [if_pos c3]
    have dk : one ∣ k2 := Nat.dvd_of_mod_eq_zero (by omega)
    refine ⟨qz (by omega) (by omega), k2 / one, Nat.div_lt_self k0 (by omega), by push_cast; rfl, ⟨e + 1, ?_⟩, Nat.div_pos (Nat.le_of_dvd k0 dk) (by omega)⟩
    rw [Nat.pow_succ, Nat.mul_assoc, Nat.mul_div_cancel' dk]
    exact eR
   ·rw [if_neg c3]
    have nk : ¬ one ∣ k2 := fun z => c3 (by have := Nat.mod_eq_zero_of_dvd z; omega)
    obtain ⟨z1, z2⟩ := Kf hF eR (fun z => wo o2 hd z R0) nk
    have kR : k2 ∣ R := ⟨one ^ e, by rw [eR, Nat.mul_comm]⟩
    have kl := Nat.le_of_dvd R0 kR
    have hd2 : ∀ d, 2 <= d -> d ∣ k2 -> one + 1 <= d := fun d d2 dd => by
     have := hd d d2 (Nat.dvd_trans dd kR)
     rcases Nat.lt_or_eq_of_le this with h | h
     ·exact h
     ·exact absurd (h ▸ dd) nk
    refine ⟨k - 1, by omega, ps, k2, rfl, one + 1, by push_cast; rfl, rfl, by rw [z2 dR]; exact hF, k0, by omega, by omega, by omega, by omega, hd2, by show one * one <= N; omega⟩
 ·rw [if_neg c]
  have c' : R < one * one := by
   rcases Nat.lt_or_ge R (one * one) with h | h
   ·exact h
   ·exact absurd (by exact_mod_cast h) c
  subst hr0
  walk_at "ra"
  have ol : ps.length <= 1001 := by
   rcases Nat.lt_or_ge 1000 (one - 1) with h | h
   ·have : 1001 * 1001 <= (one - 1) * (one - 1) := Nat.mul_le_mul h h
    omega
   ·omega
  have sz : 100000 <= sizeLine := by omega
  by_cases c1 : (1 : Int) < R
  ·rw [if_pos c1]
   have := q (ps ++ [R]) (XC hF (Xr (by omega) hd c')) (by rw [List.length_append]; show _ + 1 <= _; omega)
   refine ⟨by omega, by omega, by omega, by rw [show (1 : Int).toNat = 1 from rfl]; omega, [.int R], rfl, _, qm zm, Nat.le_trans (show _ <= 100000 by rw [List.length_map]; unfold nl; rw [List.length_map]; show _ + 1 <= _; omega) sz, (nl (ps ++ [R])).map .int, ?_, kM (Fr.refl.mup hp _) this⟩
   rw [show (nl ps).map (fun i => AV.d (.int i)) ++ List.map AV.d [Dat.int (R : Int)] = (nl (ps ++ [R])).map (fun i => AV.d (.int i)) by unfold nl; rw [List.map_append, List.map_append]; rfl, qe]
  ·rw [if_neg c1]
   have R1' : R = 1 := by omega
   subst R1'
   have := q ps hF (by omega)
   refine ⟨by omega, by omega, by omega, by rw [show (0 : Int).toNat = 0 from rfl]; omega, [], rfl, _, qm zm, Nat.le_trans (show _ <= 100000 by rw [List.length_map]; unfold nl; rw [List.length_map]; show _ + 0 <= _; omega) sz, (nl ps).map .int, ?_, kM (Fr.refl.mup hp _) this⟩
   rw [List.map_nil, List.append_nil, qe]
theorem JC {N i : Nat} {ps : List Nat} {p : Nat} (e : ps[i]? = some p) : alo N (ps.take (i + 1)) = alo N (ps.take i) / p * (p - 1) := by
 unfold alo
 rw [List.take_succ, e]
 show List.foldl _ _ (_ ++ [p]) = _
 rw [List.foldl_append]; rfl
theorem Qo {ps : List Nat} {i : Nat} {y : AV} (h : ((nl ps).map fun i => AV.d (.int i))[i]? = some y) : ∃ p, ps[i]? = some p /\ y = .d (.int (p : Nat)) := by
 unfold nl at h
 rw [List.map_map, List.getElem?_map] at h
 cases e : ps[i]? with
 | none => rw [e] at h; cases h
 | some p => rw [e] at h; cases h; exact ⟨p, rfl, rfl⟩
noncomputable def Jj : ASp := fun xs M Q => ∃ N : Nat, xs = [.d (.int N)] /\ 0 < N /\ N <= 1000000 /\ ∀ c : Nat, 0 < c -> c <= N -> (N % 2 = 1 -> N ∣ 2 ^ c - 1) -> Q (.d (.int c)) M
noncomputable abbrev yb : Stmt := top 12
theorem vh : zz ["_law_number", "_law_many", "_law_prime"] ["_law_number"] (zj yb) := ⟨rfl, rfl, rfl, by decide +kernel, rfl, by decide +kernel, by decide +kernel⟩
theorem QK (a : At K mg "_law_alone" yb) (B : Blt mg) (D_law_parted : Df P w K mg base "_law_parted" ["_law_number"] 1 (cSp yj)) : Df P w K mg base "_law_alone" ["_law_number"] 2 (cSp Jj) := by
 refine dfA (k := 1) a vh (fun _ _ _ _ _ _ us hl => match us, hl with | [_], _ => rfl) (fun xs M Q h => ?_) (fun f cdv A outer s H E hr => ?_)
 ·obtain ⟨_, rfl, _⟩ := h; rfl
 have sc := vh
 have hsl := hsl
 refine ⟨_, (zd (zw (i := 1) sc.nd rfl (by first | exact Or.inl rfl | exact Or.inr rfl) (pv 0))
  (zd (jC PassesOwn.never rfl (xC (zJ D_law_parted hr rfl (za (pv 0) zc))) (zE (i := 2) sc.nd rfl (by first | exact Or.inl rfl | exact Or.inr rfl)) (zg (zw (i := 1) sc.nd rfl (by first | exact Or.inl rfl | exact Or.inr rfl) (zf zS (zf jw (pv 1) (pv 2)) (zf yD (pv 2) zb)))))
  (zg (zx (pv 1))))), ?_⟩
 refine ex2 (by walk_at "sim") ?_
 rintro xs M Q ⟨N, rfl, hN, hN1, q⟩
 rw [show zV ["_law_number", "_law_many", "_law_prime"] [.d (.int N)] = [some (.d (.int N)), none, none] from rfl]
 refine zi fun r hr0 => ?_
 walk_at "ra"
 subst hr0
 refine zi fun r hr0 => ?_
 walk_at "ra"
 refine ⟨N, rfl, hN, hN1, fun ps hps lp => ?_⟩
 obtain ⟨f1, f2, f3, f4, f5⟩ := Jg hps
 refine ⟨_, rfl, fun i ρ M' => M = M' /\ ∃ u, ρ = [some (.d (.int N)), some (.d (.int (alo N (ps.take i) : Nat))), u], ⟨rfl, _, rfl⟩, ?_, ?_⟩
 ·rintro i y ρ M' hy ⟨rfl, u, rfl⟩
  rw [xS] at hy
  obtain ⟨p, e, rfl⟩ := Qo hy
  obtain ⟨⟨p2, _⟩, pd⟩ := f2 p (List.mem_of_getElem? e)
  have pl := Nat.le_of_dvd hN pd
  refine ⟨rfl, ?_⟩
  walk_at "ra"
  refine ⟨qz (by omega) (by omega), yz (by omega) (by omega), ?_⟩
  rw [JC e]
  push_cast
  rw [Int.natCast_sub (by omega)]
  exact ⟨rfl, _, rfl⟩
 ·rintro ρ M' ⟨rfl, u, rfl⟩
  refine ⟨rfl, ?_⟩
  subst hr0
  walk_at "ra"
  rw [show (nl ps).length = ps.length from List.length_map _, List.take_length]
  exact kM Fr.refl (q _ f3 f4 f5)
noncomputable def Kr : ASp := fun xs M Q => ∃ P G t : Nat, xs = [.d (.int 2), .d (.int P), .d (.int G)] /\ 1 < P /\ P <= 1000000 /\ 0 < G /\ G <= 1000000 /\ IsT P t /\ t ∣ G /\ Q (.d (.int t)) M
noncomputable abbrev yG : Stmt := top 11
theorem yN : zz ["_law_base", "_law_part", "_law_group", "_law_found", "_law_prime"] ["_law_base", "_law_part", "_law_group"] (zj yG) := ⟨rfl, rfl, rfl, by decide +kernel, rfl, by decide +kernel, by decide +kernel⟩
theorem QJ (a : At K mg "_law_least_times" yG) (B : Blt mg) (D_law_parted : Df P w K mg base "_law_parted" ["_law_number"] 1 (cSp yj)) (D_law_power_left : Df P w K mg base "_law_power_left" ["_law_base", "_law_often", "_law_part"] 1 (cSp Qq)) : Df P w K mg base "_law_least_times" ["_law_base", "_law_part", "_law_group"] 2 (cSp Kr) := by
 refine dfA (k := 1) a yN (fun _ _ _ _ _ _ us hl => match us, hl with | [_, _, _], _ => rfl) (fun xs M Q h => ?_) (fun f cdv A outer s H E hr => ?_)
 ·obtain ⟨_, _, _, rfl, _⟩ := h; rfl
 have sc := yN
 have hsl := hsl
 refine ⟨_, (zd (zw (i := 3) sc.nd rfl (by first | exact Or.inl rfl | exact Or.inr rfl) (pv 2))
  (zd (jC PassesOwn.never rfl (xC (zJ D_law_parted hr rfl (za (pv 2) zc))) (zE (i := 4) sc.nd rfl (by first | exact Or.inl rfl | exact Or.inr rfl)) (zg (qN PassesOwn.never (PW.pt (Vv (zB (qh hr.units) (zf zK (pv 3) (pv 4)) zb (zy _)) (Xq (zB (qh hr.units) (zJ D_law_power_left hr rfl (za (pv 0) (za (zf jw (pv 3) (pv 4)) (za (pv 1) zc)))) (zf zK zb (pv 1)) (zy _))))) (zg (zw (i := 3) sc.nd rfl (by first | exact Or.inl rfl | exact Or.inr rfl) (zf jw (pv 3) (pv 4)))))))
  (zg (zx (pv 3))))), ?_⟩
 refine ex2 (by walk_at "sim") ?_
 rintro xs M Q ⟨P, G, t, rfl, hP, hP1, hG, hG1, ht, hd, q⟩
 rw [show zV ["_law_base", "_law_part", "_law_group", "_law_found", "_law_prime"] [.d (.int 2), .d (.int P), .d (.int G)] = [some (.d (.int 2)), some (.d (.int P)), some (.d (.int G)), none, none] from rfl]
 refine zi fun r hr0 => ?_
 walk_at "ra"
 subst hr0
 refine zi fun r hr0 => ?_
 walk_at "ra"
 refine ⟨G, rfl, hG, hG1, fun ps hps lp => ?_⟩
 obtain ⟨f1, f2, f3, f4, f5⟩ := Jg hps
 refine ⟨_, rfl, fun i ρ M' => M = M' /\ ∃ (F : Nat) (u : Option AV), ρ = [some (.d (.int 2)), some (.d (.int P)), some (.d (.int G)), some (.d (.int F)), u] /\ 0 < F /\ t ∣ F /\ F ∣ G /\ ∀ q ∈ ps.take i, ¬ (q ∣ F /\ t ∣ F / q), ⟨rfl, G, _, rfl, hG, hd, Nat.dvd_refl G, fun q hq => nomatch hq⟩, ?_, ?_⟩
 ·rintro i y ρ M' hy ⟨rfl, F, u, rfl, F0, tF, FG, hF⟩
  rw [xS] at hy
  obtain ⟨p, e, rfl⟩ := Qo hy
  obtain ⟨⟨p2, _⟩, pd⟩ := f2 p (List.mem_of_getElem? e)
  have pl := Nat.le_of_dvd hG pd
  refine ⟨rfl, ?_⟩
  walk_at "ra"
  unfold yw
  refine ⟨fun F' ρ M' => M = M' /\ ρ = [some (.d (.int 2)), some (.d (.int P)), some (.d (.int G)), some (.d (.int F')), some (.d (.int p))] /\ 0 < F' /\ t ∣ F' /\ F' ∣ F, ⟨F, rfl, rfl, F0, tF, Nat.dvd_refl F⟩, ?_⟩
  rintro F' ρ M' ⟨rfl, rfl, F0', tF', FF⟩
  walk_at "ra"
  have e1 : (1 : Int) % (P : Int) = ((1 : Nat) : Int) := Int.emod_eq_of_lt (by omega) (by omega)
  have fin : ¬ (p ∣ F' /\ t ∣ F' / p) -> ∀ q, q ∈ ps.take (i + 1) -> ¬ (q ∣ F' /\ t ∣ F' / q) := fun h q hq => by
   rw [List.take_succ, e] at hq
   rcases List.mem_append.mp hq with z | z
   ·have := (f2 q (List.mem_of_mem_take z)).1.1
    exact Jh (by omega) (hF q z) FF
   ·have z : q ∈ [p] := z
    rw [List.mem_singleton.mp z]; exact h
  refine ⟨by omega, ?_⟩
  by_cases c : (F' : Int) % p = 0
  ·rw [if_pos c]
   have dp_ : p ∣ F' := Nat.dvd_of_mod_eq_zero (by omega)
   refine ⟨qz (by omega) (by omega), 2, F' / p, P, by push_cast; rfl, by omega, hP1, by omega, _, rfl, by rw [j9]; omega, ?_⟩
   rw [e1, v9]
   have key := ht.iff (j := F' / p)
   rw [<- vS hP] at key
   by_cases c2 : 2 ^ (F' / p) % P = 1
   ·rw [if_pos (by rw [c2]; simp)]
    exact ⟨qz (by omega) (by omega), F' / p, Nat.div_lt_self F0' (by omega), rfl, by push_cast; rfl, Nat.div_pos (Nat.le_of_dvd F0' dp_) (by omega), key.mp c2, Nat.dvd_trans (Nat.div_dvd_of_dvd dp_) FF⟩
   ·rw [if_neg (by rw [decide_eq_true_eq]; omega)]
    exact ⟨rfl, F', rfl, ⟨_, rfl⟩, F0', tF', Nat.dvd_trans FF FG, fin fun z => c2 (key.mpr z.2)⟩
  ·rw [if_neg c]
   exact ⟨F', rfl, ⟨_, rfl⟩, F0', tF', Nat.dvd_trans FF FG, fin fun z => c (by have := Nat.mod_eq_zero_of_dvd z.1; omega)⟩
 ·rintro ρ M' ⟨rfl, F, u, rfl, F0, tF, FG, hF⟩
  refine ⟨rfl, ?_⟩
  subst hr0
  walk_at "ra"
  rw [List.length_map, List.length_map, show (nl ps).length = ps.length from List.length_map _, List.take_length] at hF
  rw [ZL ht tF F0 FG f1 hF]
  exact kM Fr.refl q
noncomputable def J9 : ASp := fun xs M Q => ∃ m f : Nat, xs = [.d (.int m), .d (.int f)] /\ m <= 100001 /\ f <= 1 /\ Q (.d (.int (wT m f : Nat))) M
noncomputable abbrev yF : Stmt := top 16
theorem vB : zz ["_law_many", "_law_first", "_law_wide"] ["_law_many", "_law_first"] (zj yF) := ⟨rfl, rfl, rfl, by decide +kernel, rfl, by decide +kernel, by decide +kernel⟩
theorem Kg (a : At K mg "_law_great_due" yF) (B : Blt mg) (D_law_least_times : Df P w K mg base "_law_least_times" ["_law_base", "_law_part", "_law_group"] 4 (cSp Kr)) (D_law_alone : Df P w K mg base "_law_alone" ["_law_number"] 4 (cSp Jj)) : Df P w K mg base "_law_great_due" ["_law_many", "_law_first"] 5 (cSp J9) := by
 refine dfA (k := 4) a vB (fun _ _ _ _ _ _ us hl => match us, hl with | [_, _], _ => rfl) (fun xs M Q h => ?_) (fun f cdv A outer s H E hr => ?_)
 ·obtain ⟨_, _, rfl, _⟩ := h; rfl
 have sc := vB
 have hsl := hsl
 refine ⟨_, (zd (zw (i := 2) sc.nd rfl (by first | exact Or.inl rfl | exact Or.inr rfl) (zf zO (zf yD (zf zS zb (pv 0)) zb) (zf zS zb (pv 1))))
  (zd (qC (zB W1 (pv 2) zb (zy _)) (zg (zx zb)) zR)
  (zg (zx (zJ D_law_least_times hr rfl (za zb (za (pv 2) (za (zJ D_law_alone hr rfl (za (pv 2) zc)) zc)))))))), ?_⟩
 refine ex2 (by walk_at "sim") ?_
 rintro xs M Q ⟨m, f, rfl, hm, hf, q⟩
 rw [show zV ["_law_many", "_law_first", "_law_wide"] [.d (.int m), .d (.int f)] = [some (.d (.int m)), some (.d (.int f)), none] from rfl]
 refine zi fun r hr0 => ?_
 walk_at "ra"
 refine ⟨qU (by omega) (by omega), qU (by omega) (by omega), ?_⟩
 subst hr0
 refine zi fun r hr0 => ?_
 walk_at "ra"
 by_cases c : 2 * (m : Int) - 1 + 2 * (f : Int) < 2
 ·rw [if_pos c]
  rw [wZ hf (by unfold byW; split <;> omega)] at q
  exact kM Fr.refl q
 ·rw [if_neg c]
  have e : 2 * (m : Int) - 1 + 2 * (f : Int) = (byW m f : Nat) := by unfold byW; split <;> omega
  have b1 : 1 < byW m f := by omega
  have b2 : byW m f <= 1000000 := by omega
  have b3 : byW m f % 2 = 1 := by omega
  rw [e]
  subst hr0
  walk_at "ra"
  refine ⟨_, rfl, by omega, b2, fun g g0 g1 g2 => ?_⟩
  exact ⟨_, g, _, rfl, b1, b2, g0, by omega, JX hf b1, (JX hf b1).dvd (g2 b3), kM Fr.refl q⟩
noncomputable def xb (m f : Nat) : List Int := (List.range (2 * m)).map fun (j : Nat) => if j % 2 = f then ((j / 2 : Nat) : Int) else ((m + j / 2 : Nat) : Int)
noncomputable def ZW (m f : Nat) : List Int := (List.range (2 * m)).map fun (i : Nat) => if i < m then ((2 * i + f : Nat) : Int) else ((2 * (i - m) + 1 - f : Nat) : Int)
theorem qb (m f : Nat) : (xb m f).length = 2 * m := by simp [xb]
theorem xl (m f : Nat) : (ZW m f).length = 2 * m := by simp [ZW]
theorem jR {m f j : Nat} (h : j < 2 * m) : (xb m f).getD j 0 = if j % 2 = f then ((j / 2 : Nat) : Int) else ((m + j / 2 : Nat) : Int) := by
 rw [zN (by rw [qb]; exact h)]; simp [xb]
theorem kT {m f i : Nat} (h : i < 2 * m) : (ZW m f).getD i 0 = if i < m then ((2 * i + f : Nat) : Int) else ((2 * (i - m) + 1 - f : Nat) : Int) := by
 rw [zN (by rw [xl]; exact h)]; simp [ZW]
theorem j8 {m f : Nat} (hf : f < 2) : zZ (xb m f) (ZW m f) := by
 refine ⟨by rw [qb, xl], fun j hj => ?_⟩
 rw [qb] at hj
 rw [jR hj]
 by_cases e : j % 2 = f
 ·rw [if_pos e, Int.toNat_natCast, kT (by omega), if_pos (by omega)]
  omega
 ·rw [if_neg e, Int.toNat_natCast, kT (by omega), if_neg (by omega)]
  omega
theorem vD {m f : Nat} (hf : f < 2) : zo (2 * m) (xb m f) := by
 refine jp (qb m f) (fun i hi => ?_) (fun i k hi hk e => ?_)
 ·rw [jR hi]; split <;> omega
 ·have h1 := (j8 (m := m) hf).2 i (by rw [qb]; exact hi)
  have h2 := (j8 (m := m) hf).2 k (by rw [qb]; exact hk)
  rw [e, h2] at h1
  omega
theorem kf {ns : List Int} {i : Nat} (h : i < ns.length) : ns.take (i + 1) = ns.take i ++ [ns.getD i 0] := by
 have := xv (g := id) h
 simpa using this
theorem Qg {m f : Nat} (hf : f < 2) : zn m f = ZW m f := by
 refine xQ (by rw [jq, xl]) fun x hx => ?_
 rw [jq] at hx
 rw [qa hx, kT hx]
theorem QS {m f i : Nat} (hf : f <= 1) (hi : i < m) : (xb m f).take (2 * (i + 1)) = (xb m f).take (2 * i) ++ (if f = 1 then [((m + i : Nat) : Int), (i : Int)] else [(i : Int), ((m + i : Nat) : Int)]) := by
 have l := qb m f
 rw [show 2 * (i + 1) = 2 * i + 1 + 1 by omega, kf (by omega), kf (by omega), jR (by omega), jR (by omega), List.append_assoc]
 congr 1
 by_cases c : f = 1
 ·rw [if_pos c, if_neg (by omega), if_pos (by omega), show 2 * i / 2 = i by omega, show (2 * i + 1) / 2 = i by omega]; rfl
 ·rw [if_neg c, if_pos (by omega), if_neg (by omega), show 2 * i / 2 = i by omega, show (2 * i + 1) / 2 = i by omega]; rfl
noncomputable def Qt : ASp := fun xs M Q => ∃ (dx : Dat) (n : Nat) (os : List Int), xs = [.d dx] /\ Yw dx = some (os.map .int) /\ zo n os /\ n <= 2000 /\ ∀ bs, zZ os bs -> Q (.d (ilD bs)) M
noncomputable abbrev yg : Stmt := top 8
theorem yV : zz ["_law_row", "_law_order", "_law_place", "_law_thing"] ["_law_row"] (zj yg) := ⟨rfl, rfl, rfl, by decide +kernel, rfl, by decide +kernel, by decide +kernel⟩
theorem JD (a : At K mg "_law_order_of" yg) (B : Blt mg) : Df P w K mg base "_law_order_of" ["_law_row"] 1 (cSp Qt) := by
 refine dfA (k := 0) a yV (fun _ _ _ _ _ _ us hl => match us, hl with | [_], _ => rfl) (fun xs M Q h => ?_) (fun f cdv A outer s H E hr => ?_)
 ·obtain ⟨_, _, _, rfl, _⟩ := h; rfl
 have sc := yV
 have hsl := hsl
 refine ⟨_, (zd (zw (i := 1) sc.nd rfl (by first | exact Or.inl rfl | exact Or.inr rfl) (yE (zf vR (qj (za zb zc)) (zt qf rfl B.len kG (za (pv 0) zc)))))
  (zd (jC PassesOwn.never rfl (x8 rfl B.enumerate (za (pv 0) zc)) (jT (K := K) 2 rfl rfl (zW (zE (i := 2) sc.nd rfl (by first | exact Or.inl rfl | exact Or.inr rfl)) (zW (zE (i := 3) sc.nd rfl (by first | exact Or.inl rfl | exact Or.inr rfl)) jQ))) (zg (xf (pv 2) (kW (pv 1) (pv 3) qM))))
  (zg (zx (pv 1))))), ?_⟩
 refine ex2 (by walk_at "sim") ?_
 rintro xs M Q ⟨dx, n, os, rfl, hx, ho, hn, q⟩
 rw [show zV ["_law_row", "_law_order", "_law_place", "_law_thing"] [.d dx] = [some (.d dx), none, none, none] from rfl]
 have h1 := ho.1
 refine zi fun r hr0 => ?_
 walk_at "ra"
 refine ⟨by omega, _, yx hx M, by rw [List.length_map]; omega, by rw [List.length_map]; omega, by rw [List.length_map]; omega, fun p hp _ => ?_⟩
 rw [List.length_map, h1, Int.toNat_natCast, Yk]
 have hp1 := zm (M := M) (a := p) (o := .lst (List.replicate n (AV.d (.int 0))))
 have f1 := (Fr.refl (M := M)).mup hp (.lst (List.replicate n (AV.d (.int 0))))
 subst hr0
 refine zi fun r hr0 => ?_
 walk_at "ra"
 refine ⟨_, yx hx _, _, qe _, ?_⟩
 refine ⟨fun i ρ M' => ∃ u v bs, ρ = [some (.d dx), some (.ref p), u, v] /\ M' = mup M p (.lst (bs.map fun i => AV.d (.int i))) /\ bs.length = n /\ ∀ j, j < i -> bs.getD (os.getD j 0).toNat 0 = (j : Int), ⟨none, none, List.replicate n 0, rfl, by rw [List.map_replicate], by simp, fun j hj => nomatch hj⟩, ?_, ?_⟩
 ·rintro i y ρ M' hy ⟨u, v, bs, rfl, rfl, lb, hj⟩
  refine ⟨yx hx _, ?_⟩
  obtain ⟨d, hd, rfl⟩ := j6 hy
  rw [List.getElem?_map] at hd
  cases e : os[i]? with
  | none => rw [e] at hd; cases hd
  | some k =>
   rw [e] at hd
   cases hd
   have hi := (List.getElem?_eq_some_iff.mp e).1
   have hk : os.getD i 0 = k := by rw [List.getD_eq_getElem?_getD, e]; rfl
   have kb := ho.2.2 k (List.mem_of_getElem? e)
   walk_at "ra"
   refine ⟨_, zm, k.toNat, by rw [List.length_map, J0 kb.1 (by omega)], bs.set k.toNat (i : Int), ?_, by rw [List.length_set]; exact lb, fun j hj' => ?_⟩
   ·rw [List.map_set]
   ·rw [JT (by omega)]
    by_cases c : j = i
    ·subst c; rw [hk, if_pos rfl]
    ·rw [if_neg, hj j (by omega)]
     intro z
     have gj := ho.getD (i := j) (by omega)
     exact c (ho.inj (by omega) (by omega) (by rw [hk]; omega))
 ·rintro ρ M' ⟨u, v, bs, rfl, rfl, lb, hj⟩
  refine ⟨yx hx _, ?_⟩
  subst hr0
  walk_at "ra"
  refine ⟨_, _, Ze (Fr.refl.mup hp _) hp zm (qe _), q bs ⟨by omega, fun i hi => hj i ?_⟩⟩
  simp only [jv, List.length_map]
  exact hi
noncomputable def Ya : ASp := fun xs M Q => ∃ m f : Nat, xs = [.d (.int m), .d (.int f)] /\ m <= 1000 /\ f <= 1 /\ Q (.d (ilD (xb m f))) M
noncomputable abbrev xj : Stmt := top 13
theorem xE : zz ["_law_many", "_law_first", "_law_found", "_law_k"] ["_law_many", "_law_first"] (zj xj) := ⟨rfl, rfl, rfl, by decide +kernel, rfl, by decide +kernel, by decide +kernel⟩
theorem Zr (a : At K mg "_law_woven_row" xj) (B : Blt mg) : Df P w K mg base "_law_woven_row" ["_law_many", "_law_first"] 1 (cSp Ya) := by
 refine dfA (k := 0) a xE (fun _ _ _ _ _ _ us hl => match us, hl with | [_, _], _ => rfl) (fun xs M Q h => ?_) (fun f cdv A outer s H E hr => ?_)
 ·obtain ⟨_, _, rfl, _⟩ := h; rfl
 have sc := xE
 have hsl := hsl
 refine ⟨_, (zd (zw (i := 2) sc.nd rfl (by first | exact Or.inl rfl | exact Or.inr rfl) (yE (qj zc)))
  (zd (jC PassesOwn.never rfl (xB rfl B.range (za (pv 0) zc)) (zE (i := 3) sc.nd rfl (by first | exact Or.inl rfl | exact Or.inr rfl)) (zg (wN (Ye PySem.F.plainAttrs_list PySem.F.slot_list_extend PySem.F.type_list_extend Qb (pv 2) (za (qs wM (qj (za (qj (za (pv 3) (za (zf zO (pv 0) (pv 3)) zc))) (za (qj (za (zf zO (pv 0) (pv 3)) (za (pv 3) zc))) zc))) (pv 1) (fun _ _ => rfl)) zc)))))
  (zg (zx (pv 2))))), ?_⟩
 refine ex2 (by walk_at "sim") ?_
 rintro xs M Q ⟨m, f, rfl, hm, hf, q⟩
 rw [show zV ["_law_many", "_law_first", "_law_found", "_law_k"] [.d (.int m), .d (.int f)] = [some (.d (.int m)), some (.d (.int f)), none, none] from rfl]
 refine zi fun r hr0 => ?_
 walk_at "ra"
 refine fun p hp _ => ?_
 subst hr0
 refine zi fun r hr0 => ?_
 walk_at "ra"
 refine ⟨by omega, by omega, ?_⟩
 refine ⟨fun i ρ M' => M' = mup M p (.lst (((xb m f).take (2 * i)).map fun i => AV.d (.int i))) /\ ∃ u, ρ = [some (.d (.int m)), some (.d (.int f)), some (.ref p), u], ⟨rfl, _, rfl⟩, ?_, ?_⟩
 ·rintro i y ρ M' hy ⟨rfl, u, rfl⟩
  obtain ⟨hi, rfl⟩ := kY hy
  refine ⟨trivial, ?_⟩
  rw [Int.zero_add, Int.mul_one]
  walk_at "ra"
  have tl : ((xb m f).take (2 * i)).length <= 2000 := by rw [List.length_take, qb]; omega
  have wt := QS (m := m) (i := i) hf (by omega)
  refine ⟨⟨_, qm zm⟩, by omega, by omega, by omega, ?_⟩
  by_cases c : f = 1
  ·subst c
   rw [if_pos rfl] at wt
   refine ⟨_, rfl, _, zm, _, rfl, by rw [List.length_map]; show _ + 2 <= _; omega, ?_, _, rfl⟩
   rw [wt, List.map_append]
   push_cast; rfl
  ·have f0 : f = 0 := by omega
   subst f0
   rw [if_neg (by omega)] at wt
   refine ⟨_, rfl, _, zm, _, rfl, by rw [List.length_map]; show _ + 2 <= _; omega, ?_, _, rfl⟩
   rw [wt, List.map_append]
   push_cast; rfl
 ·rintro ρ M' ⟨rfl, u, rfl⟩
  refine ⟨trivial, ?_⟩
  subst hr0
  walk_at "ra"
  rw [jN, Int.toNat_natCast, List.take_of_length_le (by rw [qb]; omega)]
  exact ⟨_, _, Ze (Fr.refl.mup hp _) hp zm (qe _), q⟩
noncomputable def ixA (b : List Int) : AV -> AV
 | .d (.int p) => .d (.int (b.getD p.toNat 0))
 | x => x
noncomputable def JH : ASp := fun xs M Q => ∃ m f : Nat, xs = [.d (.int m), .d (.int f)] /\ m <= 500 /\ f <= 1 /\ Q (.d (.int (wT m f : Nat))) M
noncomputable abbrev yq : Stmt := top 15
theorem vK : zz ["_law_many", "_law_first", "_law_order", "_law_row", "_law_found", "_law_place"] ["_law_many", "_law_first"] (zj yq) := ⟨rfl, rfl, rfl, by decide +kernel, rfl, by decide +kernel, by decide +kernel⟩
theorem Ji (a : At K mg "_law_done_till" yq) (B : Blt mg) (D_law_order_of : Df P w K mg base "_law_order_of" ["_law_row"] 1 (cSp Qt)) (D_law_woven_row : Df P w K mg base "_law_woven_row" ["_law_many", "_law_first"] 1 (cSp Ya)) : Df P w K mg base "_law_done_till" ["_law_many", "_law_first"] 2 (cSp JH) := by
 refine dfA (k := 1) a vK (fun _ _ _ _ _ _ us hl => match us, hl with | [_, _], _ => rfl) (fun xs M Q h => ?_) (fun f cdv A outer s H E hr => ?_)
 ·obtain ⟨_, _, rfl, _⟩ := h; rfl
 have sc := vK
 have hsl := hsl
 refine ⟨_, (zd (zw (i := 2) sc.nd rfl (by first | exact Or.inl rfl | exact Or.inr rfl) (zJ D_law_order_of hr rfl (za (zJ D_law_woven_row hr rfl (za (pv 0) (za (pv 1) zc))) zc)))
  (zd (zw (i := 3) sc.nd rfl (by first | exact Or.inl rfl | exact Or.inr rfl) (z0 jJ rfl B.list qT (za (pv 2) zc)))
  (zd (zw (i := 4) sc.nd rfl (by first | exact Or.inl rfl | exact Or.inr rfl) zb)
  (zd (qN PassesOwn.never (zB (ke hr.units) (pv 3) (z0 (xu rfl) rfl B.list qT (za (z0 yZ rfl B.range Ks (za (zt qf rfl B.len kG (za (pv 2) zc)) zc)) zc)) (zy _)) (zd (KL (j := 3) rfl sc.nd rfl (by first | exact Or.inl rfl | exact Or.inr rfl) (ts := [5]) rfl (xC (pv 3)) (fun _ _ _ _ => (zE (i := 5) sc.nd rfl (by first | exact Or.inl rfl | exact Or.inr rfl))) (fun _ _ _ _ => jH) (fun _ _ _ _ => (qs (VM (K := K) rfl) (pv 2) (pv 5) (fun _ _ => rfl))))
  (zg (zw (i := 4) sc.nd rfl (by first | exact Or.inl rfl | exact Or.inr rfl) (zf zO (pv 4) zb)))))
  (zg (zx (pv 4))))))), ?_⟩
 refine ex2 (by walk_at "sim") ?_
 rintro xs M Q ⟨m, f, rfl, hm, hf, q⟩
 rw [show zV ["_law_many", "_law_first", "_law_order", "_law_row", "_law_found", "_law_place"] [.d (.int m), .d (.int f)] = [some (.d (.int m)), some (.d (.int f)), none, none, none, none] from rfl]
 have ho := qg (m := m) hf
 refine zi fun r hr0 => ?_
 walk_at "ra"
 refine ⟨m, f, rfl, by omega, hf, _, 2 * m, _, rfl, rfl, vD (by omega), by omega, fun bs hb => ?_⟩
 obtain rfl : bs = zn m f := by rw [Qg (by omega)]; exact zZ.same (vD (by omega)) (j8 (by omega)) hb
 subst hr0
 refine zi fun r hr0 => ?_
 walk_at "ra"
 have st := fun t => (qL ho t)
 have pi := fun (t i : Nat) (hi : i < 2 * m) => x9 ho hi t
 have sp : ∀ t, pwl (2 * m) (zn m f) t = qt 0 1 (2 * m) ↔ ji (zn m f) (2 * m) t := fun t => by
  refine ⟨fun e i hi => ?_, Zw ho⟩
  rw [<- pi t i hi, e, zT _ hi]
 have L1 := jU ho
 have sL := qI ho
 have li := fun t => vW (t := t) ho
 have po := fun t => jM ho t
 have wl := jq m f
 have p1 := KU ho
 have pS : ∀ t, pwl (2 * m) (zn m f) (t + 1) = aft (pwl (2 * m) (zn m f) t) (zn m f) := fun t => rfl
 unfold wT at q
 generalize xw (zC (zn m f) (2 * m)) = L at *
 subst hr0
 refine zi fun r hr0 => ?_
 walk_at "ra"
 subst hr0
 refine zi fun r hr0 => ?_
 show jG _ _ _ _ _ _
 unfold jG
 refine ⟨fun k ρ M' => M = M' /\ ∃ (t : Nat) (u : Option AV), ρ = [some (.d (.int m)), some (.d (.int f)), some (.d (ilD (zn m f))), some (.d (ilD (pwl (2 * m) (zn m f) t))), some (.d (.int t)), u] /\ 1 <= t /\ t + k = L /\ ∀ j, 1 <= j -> ji (zn m f) (2 * m) j -> t <= j, ⟨L - 1, rfl, 1, _, by rw [p1]; rfl, by omega, by omega, fun j hj _ => hj⟩, ?_⟩
 rintro k ρ M' ⟨rfl, t, u, rfl, t1, tk, tj⟩
 walk_at "ra"
 refine ⟨_, _, _, rfl, small_one (by omega) (by omega) (by omega) (by omega), 2 * m, by rw [rangeSize_one]; split <;> omega, by omega, qV _, qV _, ?_⟩
 rw [show eqD (ilD (pwl (2 * m) (zn m f) t)) (Dat.lst ((qt 0 1 (2 * m)).map .int)) = _ from va _ _]
 by_cases c : pwl (2 * m) (zn m f) t = qt 0 1 (2 * m)
 ·rw [if_neg (by rw [c]; simp)]
  subst hr0
  walk_at "ra"
  rw [<- li t t1 ((sp t).mp c) tj] at q
  exact kM Fr.refl q
 ·rw [if_pos (by simp [c])]
  have k0 : k ≠ 0 := fun z => c ((sp t).mpr (by rw [show t = L by omega]; exact sL))
  have pt := po t
  refine yl (fun o => [some (.d (.int m)), some (.d (.int f)), some (.d (ilD (zn m f))), some (.d (ilD (pwl (2 * m) (zn m f) t))), some (.d (.int t)), o]) (ixA (zn m f)) ⟨_, rfl⟩ trivial (by rw [List.length_map, pt.1]; omega) (fun o y Q hy q => ?_) fun o => ?_
  ·obtain ⟨p, hp, rfl⟩ := List.mem_map.mp hy
   have hb := pt.2.2 p hp
   walk_at "ra"
   exact ⟨_, JP hb.1 (by omega), q _⟩
  rw [show ((pwl (2 * m) (zn m f) t).map fun i => AV.d (.int i)).map (ixA (zn m f)) = (pwl (2 * m) (zn m f) (t + 1)).map fun i => AV.d (.int i) by rw [pS]; unfold aft; rw [List.map_map, List.map_map]; rfl]
  refine ⟨_, qe _, k - 1, by omega, rfl, t + 1, rfl, by push_cast; rfl, by omega, by omega, fun j j1 js => ?_⟩
  have := tj j j1 js
  rcases Nat.lt_or_eq_of_le this with h | h
  ·exact h
  ·subst h; exact absurd ((sp _).mpr js) c
noncomputable def Wq (i j : Nat) (ab : AS) (B : MH) (D : kI) (x : AV) (l : List AV) (ρ : ASt) (M1 : MH) : Prop :=
 ∃ Pv : Nat -> ASt -> MH -> Prop, Pv 0 ρ M1 /\ (∀ (n : Nat) y ρ M, l[n]? = some y -> Pv n ρ M -> zL x M = some l /\ ab B { D with nx := Pv (n + 1), ct := Pv (n + 1), bk := D.nx } ((ρ.set i (some (.d (.int (n : Int))))).set j (some y)) M) /\ ∀ ρ M, Pv l.length ρ M -> zL x M = some l /\ D.nx ρ M
noncomputable def J7 (a : AA) (i j : Nat) (ab : AS) : AS := fun _ D ρ M => a ρ M fun xs M1 => ∃ x l, xs = [x] /\ zL x M1 = some l /\ Wq i j ab M1 D x l ρ M1
theorem ZH {K K2 : PySem.W.Frag} {t : TA} {a : AA} {i j : Nat} {tb : TS} {ab : AS} (h : ja t a) (hb : qE tb ab) : qE (Xz (kx K t) (Jt K2 2 (vz (kP i) (vz (kP j) Xh))) tb) (J7 a i j ab) := ⟨fun {H0 O0 M0 D D' σ H O ρ M} w0 w e x q E => by
 rw [yr]
 refine h.go w e q fun xs M1 v H1 O1 ⟨z, l, e1, hl, Pv, p0, ps, pd⟩ k1 w1 r1 => ?_
 subst e1
 obtain ⟨v1, r', rfl, a1, r2⟩ := r1.cons_inv
 rw [r2.nil_inv]
 have E1 := E.tr (x.trans k1)
 obtain ⟨a, xs, rfl, h1, _⟩ := zM w1 a1 hl
 refine ⟨a, rfl, .inl ⟨⟨xs, SqL.of h1⟩, ?_⟩⟩
 refine ⟨fun n m σ H => m = l.length - n /\ n <= l.length /\ ∃ O ρ M, Wf H O M /\ Er H O M σ ρ /\ Ext H1 O1 M1 H O M /\ Pv n ρ M, ⟨l.length, by simp, Nat.zero_le _, O1, ρ, M1, w1, e.ext k1, .refl, p0⟩, ?_⟩
 rintro n m σ H ⟨rfl, hn, O, ρ, M, w, e, x, hf⟩
 by_cases hil : n < l.length
 ·have hy : l[n]? = some l[n] := List.getElem?_eq_getElem hil
  obtain ⟨hG, q2⟩ := ps n l[n] ρ M hy hf
  obtain ⟨a', xs', e', h1', r1'⟩ := zM w (a1.imp x.fix x.mst) hG
  cases e'
  obtain ⟨u, hu, ru⟩ := r1'.get hy
  refine .inr ⟨⟨xs', u, SqL.of h1', hu⟩, fun σ' H' => ∃ O ρ M, Wf H' O M /\ Er H' O M σ' ρ /\ Ext H1 O1 M1 H' O M /\ Pv (n + 1) ρ M, fun σ' H' z => ⟨l.length - (n + 1), by omega, rfl, hil, z⟩, fun v H' hv => ?_⟩
  obtain ⟨p, x', hp, rfl, e2, rfl⟩ := hv
  have := e2 xs' (SqL.of h1')
  rw [hu] at this; cases this
  have k2 := qx w hp (HO.tup [V.int n, u])
  have w2 := yC w hp (HO.tup [V.int n, u])
  refine ⟨p, _, rfl, SqT.of zp, rfl, _, _, rfl, _, _, rfl, rfl, ?_⟩
  exact hb.go w1 w2 (((e.ext k2).set (x := .d (.int (n : Int))) .int i).set (ru.ext k2) j) (x.trans k2) q2 ⟨fun σ H O ρ M w e x q => ⟨O, ρ, M, w, e, x, q⟩, E1.rt, E1.nx, fun σ H O ρ M w e x q => ⟨O, ρ, M, w, e, x, q⟩⟩
 ·have e0 : n = l.length := by omega
  subst e0
  obtain ⟨hG, q2⟩ := pd ρ M hf
  obtain ⟨a', xs', e', h1', r1'⟩ := zM w (a1.imp x.fix x.mst) hG
  cases e'
  exact .inl ⟨⟨xs', SqL.of h1', by have := r1'.1; omega⟩, E1.nx _ _ _ _ _ w e x q2⟩⟩
noncomputable abbrev QR : Stmt := top 17
theorem Jf : zz ["_law_script", "_law_k", "_law_box_here", "_law_many", "_law_great", "_law_first", "_law_half"] ["_law_script"] (zj QR) := ⟨rfl, rfl, rfl, by decide +kernel, rfl, by decide +kernel, by decide +kernel⟩
noncomputable def Zd (K : PySem.W.Frag) : Sp := fun vs H Q _ => ∃ (a : Addr) (ns : List Int), vs = [.ref a] /\ SqL K H a (ns.map V.int) /\ ns.length <= 63 /\ ∀ H', Q (.bl true) H'
noncomputable def WE (K : PySem.W.Frag) : ASp := fun xs M Q => ∃ ns : List Int, xs = [.d (.scr K ns)] /\ ns.length <= 63 /\ Q (.d (.bl true)) M
theorem sp_law (vs : List V) (H : Hp) (Q : VK) (E : XK) (h : Zd K vs H Q E) : cSp (WE K) vs H Q E := by
 obtain ⟨a, ns, rfl, ha, hn, q⟩ := h
 refine ⟨[.d (.scr K ns)], fun _ => none, fun _ => False, fun x _ => x = .d (.bl true), ⟨(fun a o e => nomatch e), (fun a h => h rfl), fun a h => h.elim⟩, .cons (K3 (fun _ z => z) ha) .nil, ⟨ns, rfl, hn, rfl⟩, fun x M' v H' O' hx _ _ r => ?_⟩
 subst hx
 rw [kc r]
 exact q H'
theorem vd (ns : List Int) : eqD (.lst (ns.map .int)) (.lst (ns.map .int)) = true := by rw [va]; simp
theorem WO : wT 0 1 = 1 := wZ (by omega) (by decide)
noncomputable def wtA (f : Nat) : AV -> AV
 | .d (.int i) => .d (.int (wT i.toNat f : Nat))
 | x => x
theorem zU (f h t : Nat) (e : wT h f = t) : wtA f (.d (.int (h : Int))) = .d (.int (t : Int)) := by show AV.d (.int (wT h f : Nat)) = _; rw [e]
theorem W2 : List.map (wtA 1) [AV.d (Dat.int 1), AV.d (Dat.int 4), AV.d (Dat.int 13), AV.d (Dat.int 40), AV.d (Dat.int 121), AV.d (Dat.int 364)] = ([2, 6, 18, 54, 162, 486] : List Int).map fun i => AV.d (.int i) := by
 simp only [List.map_cons, List.map_nil]
 rw [show wtA 1 (.d (.int 1)) = .d (.int 2) from zU 1 1 2 (qr (by omega) (by decide +kernel)), show wtA 1 (.d (.int 4)) = .d (.int 6) from zU 1 4 6 (qr (by omega) (by decide +kernel)), show wtA 1 (.d (.int 13)) = .d (.int 18) from zU 1 13 18 (qr (by omega) (by decide +kernel)), show wtA 1 (.d (.int 40)) = .d (.int 54) from zU 1 40 54 (qr (by omega) (by decide +kernel)), show wtA 1 (.d (.int 121)) = .d (.int 162) from zU 1 121 162 (qr (by omega) (by decide +kernel)), show wtA 1 (.d (.int 364)) = .d (.int 486) from zU 1 364 486 (qr (by omega) (by decide +kernel))]
theorem WR : List.map (wtA 0) [AV.d (Dat.int 0), AV.d (Dat.int 1), AV.d (Dat.int 2), AV.d (Dat.int 4), AV.d (Dat.int 8), AV.d (Dat.int 16), AV.d (Dat.int 32768)] = ([1, 1, 2, 3, 4, 5, 16] : List Int).map fun i => AV.d (.int i) := by
 simp only [List.map_cons, List.map_nil]
 rw [show wtA 0 (.d (.int 0)) = .d (.int 1) from zU 0 0 1 (wZ (by omega) (by decide)), show wtA 0 (.d (.int 1)) = .d (.int 1) from zU 0 1 1 (wZ (by omega) (by decide)), show wtA 0 (.d (.int 2)) = .d (.int 2) from zU 0 2 2 (qr (by omega) (by decide +kernel)), show wtA 0 (.d (.int 4)) = .d (.int 3) from zU 0 4 3 (qr (by omega) (by decide +kernel)), show wtA 0 (.d (.int 8)) = .d (.int 4) from zU 0 8 4 (qr (by omega) (by decide +kernel)), show wtA 0 (.d (.int 16)) = .d (.int 5) from zU 0 16 5 (qr (by omega) (by decide +kernel)), show wtA 0 (.d (.int 32768)) = .d (.int 16) from zU 0 32768 16 (qr (by omega) (by decide +kernel))]
theorem YO (a : At K mg "law" QR) (B : Blt mg) (D_law_boxes : Df P w K mg base "_law_boxes" ["_law_script", "_law_many"] 19 (cSp (J3 K))) (D_law_halves : Df P w K mg base "_law_halves" ["_law_box_here"] 19 (cSp wW)) (D_law_take : Df P w K mg base "_law_take" ["_law_box_here", "_law_many"] 19 (cSp Jc)) (D_law_alike : Df P w K mg base "_law_alike" ["_law_found", "_law_due"] 19 (cSp (xY 6)))
    (D_weave_turns : Df P w K mg base "weave_turns" ["many", "first"] 19 (cSp w6)) (D_law_done_till : Df P w K mg base "_law_done_till" ["_law_many", "_law_first"] 19 (cSp JH)) (D_law_great_due : Df P w K mg base "_law_great_due" ["_law_many", "_law_first"] 19 (cSp J9)) :
    Df P w K mg base "law" ["_law_script"] 20 (cSp (WE K)) := by
  refine dfA (k := 19) a Jf (fun _ _ _ _ _ _ us hl => match us, hl with | [_], _ => rfl) (fun xs M Q h => ?_) (fun f cdv A outer s H E hr => ?_)
  · obtain ⟨_, rfl, _⟩ := h; rfl
  have sc := Jf
  have hsl := hsl
  refine ⟨_, (zd (jC PassesOwn.never rfl (x8 rfl B.enumerate (za (zJ D_law_boxes hr rfl (za (pv 0) (za zb zc))) zc)) (jT (K := K) 2 rfl rfl (zW (zE (i := 1) sc.nd rfl (by first | exact Or.inl rfl | exact Or.inr rfl)) (zW (zE (i := 2) sc.nd rfl (by first | exact Or.inl rfl | exact Or.inr rfl)) jQ))) (zd (zw (i := 3) sc.nd rfl (by first | exact Or.inl rfl | exact Or.inr rfl) (zJ D_law_halves hr rfl (za (pv 2) zc)))
    (zd (zw (i := 4) sc.nd rfl (by first | exact Or.inl rfl | exact Or.inr rfl) (zJ D_law_take hr rfl (za (pv 2) (za (zf zO (qs wM (qj (za (zf JV zb zb) (za zb zc))) (z0 jr rfl B.int kU (za (qq Zc (pv 1) zb (zy _)) zc)) (fun _ _ => rfl)) zb) zc))))
    (zd (jC PassesOwn.never rfl (xC (kX (za zb (za zb zc)))) (zE (i := 5) sc.nd rfl (by first | exact Or.inl rfl | exact Or.inr rfl)) (zd (qC (wx (kO (zJ D_law_alike hr rfl (za (zJ D_weave_turns hr rfl (za (pv 3) (za (pv 5) zc))) (za (zJ D_law_done_till hr rfl (za (pv 3) (za (pv 5) zc))) zc))) (fun _ => rfl))) (zg (zx kL)) zR)
    (zg (qC (wx (kO (zJ D_law_alike hr rfl (za (zJ D_weave_turns hr rfl (za (pv 4) (za (pv 5) zc))) (za (zJ D_law_great_due hr rfl (za (pv 4) (za (pv 5) zc))) zc))) (fun _ => rfl))) (zg (zx kL)) zR))))
    (zd (qC (zB (ke hr.units) (kB (ts := [6]) rfl rfl (xC (kX (jX (is := [1, 4, 13, 40, 121, 364]) rfl))) (fun _ _ _ _ => (zE (i := 6) sc.nd rfl (by first | exact Or.inl rfl | exact Or.inr rfl))) (fun _ _ _ _ => jH) (fun _ _ _ _ => (zJ D_weave_turns hr rfl (za (pv 6) (za zb zc))))) (qj (jX (is := [2, 6, 18, 54, 162, 486]) rfl)) (zy _)) (zg (zx kL)) zR)
    (zd (qC (zB (ke hr.units) (kB (ts := [6]) rfl rfl (xC (kX (jX (is := [0, 1, 2, 4, 8, 16, 32768]) rfl))) (fun _ _ _ _ => (zE (i := 6) sc.nd rfl (by first | exact Or.inl rfl | exact Or.inr rfl))) (fun _ _ _ _ => jH) (fun _ _ _ _ => (zJ D_weave_turns hr rfl (za (pv 6) (za zb zc))))) (qj (jX (is := [1, 1, 2, 3, 4, 5, 16]) rfl)) (zy _)) (zg (zx kL)) zR)
    (zg (qC (zB (ke hr.units) (zJ D_weave_turns hr rfl (za zb (za zb zc))) zb (zy _)) (zg (zx kL)) zR))))))))
    (zg (zx kL))), ?_⟩
  refine ex2 (by
    with_reducible apply wC
    · (with_reducible apply ZH) <;> walk_at "sim"
    · walk_at "sim") ?_
  rintro xs M Q ⟨ns, rfl, hn, q⟩
  rw [show zV ["_law_script", "_law_k", "_law_box_here", "_law_many", "_law_great", "_law_first", "_law_half"] [.d (.scr K ns)] = [some (.d (.scr K ns)), none, none, none, none, none, none] from rfl]
  refine zi fun r hr0 => ?_
  unfold J7
  walk_at "ra"
  refine ⟨6, ns, rfl, by omega, by omega, hn, fun p M1 bs f1 hp hp1 nd hb lb => ?_⟩
  refine ⟨_, qm hp1, ?_⟩
  refine ⟨fun i ρ M' => (∃ x1 x2 x3 x4 x5 x6, ρ = [some (.d (.scr K ns)), x1, x2, x3, x4, x5, x6]) /\ Fr M M' /\ M' p = some (.lst (bs.map AV.ref)) /\ ∀ (j : Nat) b, i <= j -> bs[j]? = some b -> BxM M' b 0 /\ b ≠ p /\ M b = none, ⟨⟨_, _, _, _, _, _, rfl⟩, f1, hp1, fun j b _ e => hb b (List.mem_of_getElem? e)⟩, ?_, ?_⟩
  · rintro i y ρ M2 hy ⟨⟨x1, x2, x3, x4, x5, x6, rfl⟩, f2, hp2, hb2⟩
    rw [List.getElem?_map] at hy
    cases e : bs[i]? with
    | none => rw [e] at hy; cases hy
    | some b =>
      rw [e] at hy
      cases hy
      obtain ⟨bx, hbp, b0⟩ := hb2 i b (Nat.le_refl _) e
      refine ⟨qm hp2, ?_⟩
      have sb := SB.refl bx
      have hlast : ∀ M', SB M2 M' b 1000 -> Fr M M' /\ M' p = some (.lst (bs.map AV.ref)) /\ ∀ (j : Nat) b', i + 1 <= j -> bs[j]? = some b' -> BxM M' b' 0 /\ b' ≠ p /\ M b' = none := fun M' s' => by
        refine ⟨SB.frm f2 b0 s', by rw [s'.fr p (qD hp2) (Ne.symm hbp)]; exact hp2, fun j b' hj e' => ?_⟩
        obtain ⟨z1, z2, z3⟩ := hb2 j b' (by omega) e'
        have hbb : b' ≠ b := fun z => by
          obtain ⟨i1, e1⟩ := List.getElem?_eq_some_iff.mp e
          obtain ⟨i2, e2⟩ := List.getElem?_eq_some_iff.mp e'
          have := (List.getElem_inj (h₀ := i1) (h₁ := i2) nd).mp (e1.trans (z.symm.trans e2.symm))
          omega
        refine ⟨?_, z2, z3⟩
        obtain ⟨a1, a2, a3, a4, a5⟩ := z1
        exact ⟨a1, a2, a3, by rw [s'.fr b' (by rw [a4]; exact fun z => nomatch z) hbb]; exact a4, a5⟩
      show jG _ _ _ _ _ _
      refine zi fun r2 hr2 => ?_
      walk_at "ra"
      refine ⟨b, 0, rfl, sb.bx, by omega, fun m M3 s3 hm => ?_⟩
      have sb := sb.go s3
      subst hr2
      refine zi fun r2 hr2 => ?_
      walk_at "ra"
      obtain ⟨g, hg, g0, g1⟩ : ∃ g : Int, atI [AV.d (.int (10 ^ Int.toNat 5)), AV.d (.int 1000)] (if (0 : Int) < (i : Int) then 1 else 0) = some (.d (.int g)) /\ 0 <= g /\ g <= 100000 := by
        split
        · exact ⟨1000, rfl, by omega, by omega⟩
        · exact ⟨100000, rfl, by omega, by omega⟩
      refine ⟨⟨by omega, by omega, by decide⟩, by omega, _, hg, _, rfl, b, g + 1, _, rfl, sb.bx, by omega, by omega, by omega, fun gr M4 s4 gr0 gr1 => ?_⟩
      have sb := sb.go s4
      obtain ⟨gr, rfl⟩ : ∃ k : Nat, gr = k := ⟨gr.toNat, by omega⟩
      subst hr2
      refine zi fun r2 hr2 => ?_
      walk_at "ra"
      refine ⟨by omega, fun j ρ M' => M4 = M' /\ ∃ u, ρ = [some (.d (.scr K ns)), some (.d (.int i)), some (.ref b), some (.d (.int m)), some (.d (.int gr)), u, x6], ⟨rfl, _, rfl⟩, ?_, ?_⟩
      · rintro j y ρ M' hy ⟨rfl, u, rfl⟩
        obtain ⟨f, hf, rfl⟩ : ∃ f : Nat, f <= 1 /\ y = .d (.int f) := by
          match j, hy with
          | 0, hy => cases hy; exact ⟨0, by omega, rfl⟩
          | 1, hy => cases hy; exact ⟨1, by omega, rfl⟩
        refine ⟨trivial, ?_⟩
        show jG _ _ _ _ _ _
        refine zi fun r3 hr3 => ?_
        walk_at "ra"
        refine ⟨m, f, rfl, by omega, hf, m, f, rfl, by omega, hf, _, _, _, rfl, rfl, rfl, yO 6 _, by omega, _, rfl, ?_⟩
        rw [if_neg (by decide)]
        subst hr3
        walk_at "ra"
        refine ⟨gr, f, rfl, by omega, hf, gr, f, rfl, by omega, hf, _, _, _, rfl, rfl, rfl, yO 6 _, by omega, _, rfl, ?_⟩
        rw [if_neg (by decide)]
        exact ⟨rfl, _, rfl⟩
      rintro ρ M' ⟨rfl, u, rfl⟩
      refine ⟨trivial, ?_⟩
      subst hr2
      dsimp only
      refine zi fun r2 hr2 => ?_
      walk_at "ra"
      refine ⟨by omega, ?_⟩
      refine yl (fun o => [some (.d (.scr K ns)), some (.d (.int i)), some (.ref b), some (.d (.int m)), some (.d (.int gr)), u, o]) (wtA 1) ⟨_, rfl⟩ trivial (by decide) (fun o y Q hy q => ?_) fun o => ?_
      · obtain ⟨h, hh, rfl⟩ : ∃ h : Nat, h <= 40000 /\ y = .d (.int h) := by
          simp only [List.mem_cons, List.not_mem_nil, or_false] at hy
          rcases hy with rfl | rfl | rfl | rfl | rfl | rfl
          · exact ⟨1, by omega, rfl⟩
          · exact ⟨4, by omega, rfl⟩
          · exact ⟨13, by omega, rfl⟩
          · exact ⟨40, by omega, rfl⟩
          · exact ⟨121, by omega, rfl⟩
          · exact ⟨364, by omega, rfl⟩
        show ka 6 (AV.d (.int (h : Int))) _ _ _
        walk_at "ra"
        exact ⟨h, 1, rfl, by omega, by omega, q _⟩
      rw [W2]
      have eq1 : eqD (Dat.lst (([2, 6, 18, 54, 162, 486] : List Int).map .int)) (Dat.lst [Dat.int 2, Dat.int 6, Dat.int 18, Dat.int 54, Dat.int 162, Dat.int 486]) = true := vd [2, 6, 18, 54, 162, 486]
      refine ⟨_, qe [2, 6, 18, 54, 162, 486], by omega, qV [2, 6, 18, 54, 162, 486], qV [2, 6, 18, 54, 162, 486], ?_⟩
      rw [eq1, if_neg (by decide)]
      subst hr2
      refine zi fun r2 hr2 => ?_
      walk_at "ra"
      refine ⟨by omega, ?_⟩
      refine yl (fun o => [some (.d (.scr K ns)), some (.d (.int i)), some (.ref b), some (.d (.int m)), some (.d (.int gr)), u, o]) (wtA 0) ⟨_, rfl⟩ trivial (by decide) (fun o y Q hy q => ?_) fun o => ?_
      · obtain ⟨h, hh, rfl⟩ : ∃ h : Nat, h <= 40000 /\ y = .d (.int h) := by
          simp only [List.mem_cons, List.not_mem_nil, or_false] at hy
          rcases hy with rfl | rfl | rfl | rfl | rfl | rfl | rfl
          · exact ⟨0, by omega, rfl⟩
          · exact ⟨1, by omega, rfl⟩
          · exact ⟨2, by omega, rfl⟩
          · exact ⟨4, by omega, rfl⟩
          · exact ⟨8, by omega, rfl⟩
          · exact ⟨16, by omega, rfl⟩
          · exact ⟨32768, by omega, rfl⟩
        show ka 6 (AV.d (.int (h : Int))) _ _ _
        walk_at "ra"
        exact ⟨h, 0, rfl, by omega, by omega, q _⟩
      rw [WR]
      have eq0 : eqD (Dat.lst (([1, 1, 2, 3, 4, 5, 16] : List Int).map .int)) (Dat.lst [Dat.int 1, Dat.int 1, Dat.int 2, Dat.int 3, Dat.int 4, Dat.int 5, Dat.int 16]) = true := vd [1, 1, 2, 3, 4, 5, 16]
      refine ⟨_, qe [1, 1, 2, 3, 4, 5, 16], by omega, qV [1, 1, 2, 3, 4, 5, 16], qV [1, 1, 2, 3, 4, 5, 16], ?_⟩
      rw [eq0, if_neg (by decide)]
      subst hr2
      walk_at "ra"
      refine ⟨0, 1, rfl, by omega, by omega, _, rfl, by rw [j9]; omega, ?_⟩
      rw [WO, if_neg (by decide)]
      have hl := hlast M4 (sb.mono (by omega))
      first | exact ⟨⟨_, _, _, _, _, _, rfl⟩, hl⟩ | exact ⟨⟨_, rfl⟩, hl⟩ | exact hl
  · rintro ρ M2 ⟨⟨x1, x2, x3, x4, x5, x6, rfl⟩, f2, hp2, hb2⟩
    refine ⟨qm hp2, ?_⟩
    subst hr0
    walk_at "ra"
    exact kM f2 q
end
theorem all_mk {l : PySem.W.OpenLaw} {w : World} {K : PySem.W.Frag} {h : Heap} {mg : Str -> Option Value} {fa : Addr} (X : K.In h) (G : h.Ns mainGlobals mg) (hfa : mg "law" = some (.ref fa)) (a : At K mg "law" QR) (B : Blt mg) (Ball : mg "all" = none)
  (a__law_take : At K mg "_law_take" wg) (a__law_box : At K mg "_law_box" Q7) (a__law_folded : At K mg "_law_folded" kC) (a__law_alike : At K mg "_law_alike" jL) (a__law_boxes : At K mg "_law_boxes" yu) (a__law_order_of : At K mg "_law_order_of" yg) (a__law_power_left : At K mg "_law_power_left" yp) (a__law_parted : At K mg "_law_parted" xr) (a__law_least_times : At K mg "_law_least_times" yG) (a__law_alone : At K mg "_law_alone" yb) (a__law_woven_row : At K mg "_law_woven_row" xj) (a__law_halves : At K mg "_law_halves" xo) (a__law_done_till : At K mg "_law_done_till" yq) (a__law_great_due : At K mg "_law_great_due" yF) (a_weave_turns : At K mg "weave_turns" kD)
  : ∃ fd : FuncData, (∀ (s : Shared) (v : Value), BindsTo s fd ⟨[v], []⟩ [("_law_script", v)]) /\ ∀ base : Heap, K.In base -> base.Ns mainGlobals mg -> jy l.prog w K mg base CX0 20 fa fd ["_law_script"] (Zd K) := by
 obtain ⟨f, fd, F, m⟩ := id a
 obtain rfl : fa = f := by rw [hfa] at m; cases m; rfl
 obtain ⟨oc, od, kV, doc, pm, an, cdv, ct, osl, e, lk, hcd⟩ := F.ex
 refine ⟨fd, fun s v => ?_, fun base _ _ => ?_⟩
 ·subst e; exact .of_eq rfl
 ·have T := KC (P := l.prog) (w := w) (base := base) a__law_take B
  have tk := T.imp' Xe
  have pa := Qd (P := l.prog) (w := w) (base := base) a__law_parted B
  have pw := Q2 (P := l.prog) (w := w) (base := base) a__law_power_left B
  have le := QJ (P := l.prog) (w := w) (base := base) a__law_least_times B pa pw
  have al := QK (P := l.prog) (w := w) (base := base) a__law_alone B pa
  have gd := Kg (P := l.prog) (w := w) (base := base) a__law_great_due B (le.mono (by decide)) (al.mono (by decide))
  have dt := Ji (P := l.prog) (w := w) (base := base) a__law_done_till B (JD a__law_order_of B) (Zr a__law_woven_row B)
  have wt := Z7 (P := l.prog) (w := w) (base := base) a_weave_turns B
  have bx := Jn (P := l.prog) (w := w) (base := base) a__law_boxes B ((Zu a__law_folded B).imp' Z0) ((Yz a__law_box B).imp' YM)
  have L := YO (P := l.prog) (w := w) (base := base) a B (bx.mono (by decide)) ((ZV a__law_halves B tk).mono (by decide)) (tk.mono (by decide)) ((xU a__law_alike B Ball 6).mono (by decide)) (wt.mono (by decide)) (dt.mono (by decide)) (gd.mono (by decide))
  exact (L.imp' (sp_law (K := K))).fn m lk
theorem walk {l : PySem.W.OpenLaw} {q : Program} {loose : List Str} {XP : (Str -> Option Value) -> Heap -> Prop} {YP : World -> Heap -> Prop} {d : DefRec} {K : Params -> PySem.W.Frag} (hn : l.most = some 63) (hdf : d.params.defaults = [])
  (hY : ∀ (w : World) (h : Heap), YP w h -> (K w.params).In h)
  (F : ∀ (w : World) (mg : Str -> Option Value) (fa : Addr) (h : Heap), (K w.params).In h -> h.Ns mainGlobals mg -> mg d.name = some (.ref fa) ->
   ∃ fd : FuncData, (∀ (s : Shared) (u : Value), BindsTo s fd ⟨[u], []⟩ [("_law_script", u)]) /\ ∀ base : Heap, (K w.params).In base -> base.Ns mainGlobals mg -> jy l.prog w (K w.params) mg base CX0 20 fa fd ["_law_script"] (Zd (K w.params))) :
  PySem.W.WalkO q loose XP YP l.row.toRowW d [] (fun f vs => PySem.call f vs) :=
 L2.walk_of (n := 63) (k := 20) (x := "_law_script") (CX := fun _ => CX0) (sp := fun w => Zd (K w.params)) hn (by decide) hdf ⟨rfl, rfl, by decide, by decide⟩ hY F (fun _ _ a ns hl _ hS => ⟨a, ns, rfl, hS, hl, fun _ => rfl⟩) fun _ _ _ _ _ z => z
end Ot
theorem PySem.W.Fast.te12427411127245008756 : True := trivial
theorem PySem.W.Fast.te17869992136943576039 : True := trivial
theorem PySem.W.Fast.te5001568156805435677 : True := trivial
namespace PySem.W.Fast
def tw12372242032658247739 := ()
def tw2044516569798418659 := ()
def tw7083377758647497770 := ()
def tw2188234646623122459 := ()
def tw15845727683049579156 := ()
def tw12685695020742075218 := ()
def tw12407953402753155447 := ()
def tw10161066091310091349 := ()
def tw6921384485852271207 := ()
def tw2889927526873934289 := ()
def tw10794373178719567546 := ()
def tw15963919990572255575 := ()
def tw12269637018302608420 := ()
def tw10972753517928067334 := ()
def tw1524588973013365259 := ()
def tw3898462005022945997 := ()
def tw3102778041476779201 := ()
def tw11050737757099318261 := ()
def tw1933656247373305767 := ()
def tw5526979813415829914 := ()
def tw2849161380917406048 := ()
def tw9143213682810099010 := ()
def tw12270096423845684081 := ()
def tw14894140656267637158 := ()
def tw3917195700910337138 := ()
def tw6411091924043463607 := ()
def tw13583099765510735292 := ()
def tw5449819846413743118 := ()
def tw13558676222189604607 := ()
def tw3213470101275842819 := ()
def tw17724936557949286412 := ()
def tw1600569662905407472 := ()
def tw1963616878492163875 := ()
def tw14636971097933205834 := ()
def tw12738320858388128249 := ()
def tw12713793888126045267 := ()
def tw6493422492381966842 := ()
def tw5202599772406517852 := ()
def tw16070114039643539276 := ()
def tw3626668758251093147 := ()
def tw8255831356353176859 := ()
def tw1061934263699461335 := ()
def tw5117358830857566609 := ()
def tw8577981014477298934 := ()
def tw1791641670094545842 := ()
def tw6790279893907947617 := ()
def tw9642432360450807538 := ()
def tw12811662742452304905 := ()
def tw14142149537866323660 := ()
def tw10266663749426829655 := ()
def tw4365121032966119474 := ()
def tw11405316956385790651 := ()
def tw7082075984889371632 := ()
def tw14525798434873658107 := ()
def tw6246306593101526362 := ()
def tw3974635405571189223 := ()
def tw6561773435334567991 := ()
def tw770302004869467402 := ()
def tw2587237128192007692 := ()
def tw3362313186364614737 := ()
def tw1180850963950935404 := ()
def tw5638167578430595148 := ()
def tw5892534014920604805 := ()
def tw12714086765352461694 := ()
def tw3291780715501042639 := ()
def tw2767584721045272513 := ()
def tw12476103085263782429 := ()
def tw8114975279967915440 := ()
def tw7597289482347736716 := ()
def tw3890680765929028570 := ()
def tw9544650859671233971 := ()
def tw16107375538709681292 := ()
def tw5945845597104707032 := ()
def tw7687343404999537865 := ()
def tw11912375020600501516 := ()
def tw4004326484269807388 := ()
def tw11603652411299992239 := ()
def tw7118754489359317314 := ()
def tw9856450261645048250 := ()
def tw5520354135951793200 := ()
def tw8405824401757910554 := ()
def tw3773340338962033235 := ()
def tw3738892833788936547 := ()
def tw18060385585731301911 := ()
def tw13540469486306006591 := ()
def tw5625289642603322357 := ()
def tw2830475228451222375 := ()
def tw17907787677998239378 := ()
def tw10701026150282745193 := ()
def tw13011030708327360937 := ()
def tw1191303223306234923 := ()
def tw8460409488918164960 := ()
def tw1519239449962230762 := ()
def tw7339334892107833796 := ()
def tw8758982502657231849 := ()
def tw15497709602320966901 := ()
def tw15979366890409924991 := ()
def tw15746996781227795423 := ()
def tw4940981114471112271 := ()
def tw7693127412437585999 := ()
def tw117642341975091506 := ()
def tw7741861901581002448 := ()
def tw7195266463496108639 := ()
def tw13877453312828150158 := ()
end PySem.W.Fast
open PySem PySem.W PyProof.Rows
set_option maxRecDepth 100000 in
set_option maxHeartbeats 0 in
theorem PySem.Challenge.cw_ownturn_k40_woven_till_as_it_stood_holds : PySem.Challenge.rw_ownturn_k40_woven_till_as_it_stood.Holds := by
 w_on; o_law; k_head; (case hw => w_witness2)
 k_fill
 refine Ot.walk (l := PySem.Challenge.rw_ownturn_k40_woven_till_as_it_stood) rfl rfl (fun w h Y => PySem.W.kIn_of Y) ?F
 case F =>
  intro w mg fa h KX G hmg
  refine' Ot.all_mk KX G hmg (L2.at_mk KX G ?a0 ?l0 ?c0 ?k0) (L2.blt_mk KX G ?z1 ?z2 ?z3 ?z4 ?z5 ?z6 ?z7 ?z8 ?z9 ?z10 ?z11 ?z12 ?z13 ?z14 ?z15 ?z16) (PySem.W.mg_none_of KX G ?zall) (L2.at_mk KX G ?a1 ?l1 ?c1 ?k1) (L2.at_mk KX G ?a2 ?l2 ?c2 ?k2) (L2.at_mk KX G ?a3 ?l3 ?c3 ?k3) (L2.at_mk KX G ?a4 ?l4 ?c4 ?k4) (L2.at_mk KX G ?a5 ?l5 ?c5 ?k5) (L2.at_mk KX G ?a6 ?l6 ?c6 ?k6) (L2.at_mk KX G ?a7 ?l7 ?c7 ?k7) (L2.at_mk KX G ?a8 ?l8 ?c8 ?k8) (L2.at_mk KX G ?a9 ?l9 ?c9 ?k9) (L2.at_mk KX G ?a10 ?l10 ?c10 ?k10) (L2.at_mk KX G ?a11 ?l11 ?c11 ?k11) (L2.at_mk KX G ?a12 ?l12 ?c12 ?k12) (L2.at_mk KX G ?a13 ?l13 ?c13 ?k13) (L2.at_mk KX G ?a14 ?l14 ?c14 ?k14) (L2.at_mk KX G ?a15 ?l15 ?c15 ?k15)
  (case a0 => k_is); (case l0 => k_is); (case c0 => k_is); (case k0 => k_is)
  (case a1 => k_is); (case l1 => k_is); (case c1 => k_is); (case k1 => k_is)
  (case a2 => k_is); (case l2 => k_is); (case c2 => k_is); (case k2 => k_is)
  (case a3 => k_is); (case l3 => k_is); (case c3 => k_is); (case k3 => k_is)
  (case a4 => k_is); (case l4 => k_is); (case c4 => k_is); (case k4 => k_is)
  (case a5 => k_is); (case l5 => k_is); (case c5 => k_is); (case k5 => k_is)
  (case a6 => k_is); (case l6 => k_is); (case c6 => k_is); (case k6 => k_is)
  (case a7 => k_is); (case l7 => k_is); (case c7 => k_is); (case k7 => k_is)
  (case a8 => k_is); (case l8 => k_is); (case c8 => k_is); (case k8 => k_is)
  (case a9 => k_is); (case l9 => k_is); (case c9 => k_is); (case k9 => k_is)
  (case a10 => k_is); (case l10 => k_is); (case c10 => k_is); (case k10 => k_is)
  (case a11 => k_is); (case l11 => k_is); (case c11 => k_is); (case k11 => k_is)
  (case a12 => k_is); (case l12 => k_is); (case c12 => k_is); (case k12 => k_is)
  (case a13 => k_is); (case l13 => k_is); (case c13 => k_is); (case k13 => k_is)
  (case a14 => k_is); (case l14 => k_is); (case c14 => k_is); (case k14 => k_is)
  (case a15 => k_is); (case l15 => k_is); (case c15 => k_is); (case k15 => k_is)
  (case zall => k_is)
  (case z1 => k_is)
  (case z2 => k_is)
  (case z3 => k_is)
  (case z4 => k_is)
  (case z5 => k_is)
  (case z6 => k_is)
  (case z7 => k_is)
  (case z8 => k_is)
  (case z9 => k_is)
  (case z10 => k_is)
  (case z11 => k_is)
  (case z12 => k_is)
  (case z13 => k_is)
  (case z14 => k_is)
  (case z15 => k_is)
  (case z16 => k_is)
