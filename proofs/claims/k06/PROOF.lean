import PyProof.Rows.All
import Wide.All
import OpenK.AllK
import Wide.FinOn
import Lean
import PyProof.EqAt
import PyProof.EqKinds
import PyProof.TupleCall
import KE.KIsAll
import KE.KTryMore
import PyProof.ExcBaseAll.ValueError
import PyProof.ExcArgsOwn
import KE.RegKIsAll
import KE.RegKTryMore
import PySem.Challenge.RW_ownturn_k06_orders_by_rings
set_option compiler.extract_closed false
set_option Elab.async false
set_option linter.all false
set_option maxRecDepth 100000
namespace L2
open PySem PySem.Spec PyProof.Rows
noncomputable abbrev Key := Sum Int Str
noncomputable def yP : Key -> Value -> Bool
 | .inl k, v => Value.isInt k v
 | .inr x, v => Value.isStrOf x v
noncomputable def EI (w : World) : Key -> Int
 | .inl k => hashInt k
 | .inr x => hashStr w x
theorem zS : ∀ {k : Key} {v : Value}, yP k v = true -> (∃ i t, k = Sum.inl i /\ v = Value.int i t) \/ (∃ x t, k = Sum.inr x /\ v = Value.str x t)
 | .inl i, v, h => by
  obtain ⟨t, e⟩ := Value.isInt_shape (k := i) (v := v) h
  exact .inl ⟨i, t, rfl, e⟩
 | .inr x, v, h => by
  obtain ⟨t, e⟩ := Value.isStrOf_shape (x := x) (v := v) h
  exact .inr ⟨x, t, rfl, e⟩
theorem Ka (i : Int) (t : Tok) : yP (.inl i) (.int i t) = true := by simp [yP, Value.isInt]
theorem Jw (x : Str) (t : Tok) : yP (.inr x) (.str x t) = true := by simp [yP, Value.isStrOf]
theorem Dw (a b : Int) : decide ((Sum.inl a : Key) = Sum.inl b) = (a == b) := by
 by_cases e : a = b
 ·subst e; simp
 ·have h : ¬ (Sum.inl a : Key) = Sum.inl b := fun q => e (Sum.inl.inj q)
  rw [decide_eq_false h]
  exact (beq_eq_false_iff_ne.mpr e).symm
theorem Bn (a b : Str) : decide ((Sum.inr a : Key) = Sum.inr b) = decide (a = b) := by
 by_cases e : a = b
 ·subst e; simp
 ·have h : ¬ (Sum.inr a : Key) = Sum.inr b := fun q => e (Sum.inr.inj q)
  rw [decide_eq_false h, decide_eq_false e]
theorem Bg (a : Int) (b : Str) : decide ((Sum.inl a : Key) = Sum.inr b) = false := decide_eq_false (fun q => nomatch q)
theorem BX (a : Str) (b : Int) : decide ((Sum.inr a : Key) = Sum.inl b) = false := decide_eq_false (fun q => nomatch q)
noncomputable def zW (prog : Program) (w : World) : PySem.KeyKind prog w Key where
 is := yP
 hash := EI w
 inj := fun v a b ha hb => by
  rcases zS ha with ⟨i, t, rfl, rfl⟩ | ⟨x, t, rfl, rfl⟩
  ·rcases zS hb with ⟨j, u, rfl, e⟩ | ⟨y, u, rfl, e⟩
   ·injection e with e1 _; rw [e1]
   ·exact nomatch e
  ·rcases zS hb with ⟨j, u, rfl, e⟩ | ⟨y, u, rfl, e⟩
   ·exact nomatch e
   ·injection e with e1 _; rw [e1]
 byValue := fun k v h => by
  rcases zS h with ⟨i, t, rfl, rfl⟩ | ⟨x, t, rfl, rfl⟩ <;> rfl
 pyHash := fun hv h => by
  rcases zS hv with ⟨i, t, rfl, rfl⟩ | ⟨x, t, rfl, rfl⟩
  ·exact wpAny_pyHash_int h
  ·exact wpAny_pyHash_str h
 eqBool := fun hu hv h => by
  rcases zS hu with ⟨i, t, rfl, rfl⟩ | ⟨x, t, rfl, rfl⟩
  ·rcases zS hv with ⟨j, u, rfl, rfl⟩ | ⟨y, u, rfl, rfl⟩
   ·rw [Dw] at h; exact wpAny_eqBool_int h
   ·rw [Bg] at h; exact SeqAt.EqAt.int_str i t y u _ _ _ _ h
  ·rcases zS hv with ⟨j, u, rfl, rfl⟩ | ⟨y, u, rfl, rfl⟩
   ·rw [BX] at h; exact SeqAt.EqAt.str_int x t j u _ _ _ _ h
   ·rw [Bn] at h; exact wpAny_eqBool_str h
 «strs» := fun k x t v h => by
  rcases zS h with ⟨i, u, rfl, e⟩ | ⟨y, u, rfl, e⟩
  ·exact nomatch e
  ·injection e with e1 _
   subst e1
   cases v <;> rfl
theorem wf (prog : Program) (w : World) (i : Int) (t : Tok) : (zW prog w).is (.inl i) (.int i t) = true := Ka i t
theorem wO (prog : Program) (w : World) (x : Str) (t : Tok) : (zW prog w).is (.inr x) (.str x t) = true := Jw x t
end L2
namespace L2
open PySem PySem.Spec PyProof.Rows
inductive V where
 | non | bl (b : Bool) | int (i : Int) | str (x : Str) | byt (b : Array UInt8) | flt (b : UInt64) | ref (a : Addr) | ty (n : String)
 deriving DecidableEq
noncomputable def zt : V -> Value -> Prop
 | .non, u => u = Value.none
 | .bl b, u => u = Value.bool b
 | .int i, u => ∃ t, u = Value.int i t
 | .str x, u => ∃ t, u = Value.str x t
 | .byt b, u => ∃ t, u = Value.bytes b t
 | .flt b, u => ∃ t, u = Value.float b t
 | .ref a, u => u = Value.ref a
 | .ty n, u => u = Value.type n
noncomputable abbrev zr : List V -> List Value -> Prop := Paired zt
theorem zr.length {xs : List V} {us : List Value} (r : zr xs us) : xs.length = us.length := Paired.length r
theorem zr.get : ∀ {xs : List V} {us : List Value} {i : Nat} {x : V}, zr xs us -> xs[i]? = some x -> ∃ u, us[i]? = some u /\ zt x u
 | _, _, _, _, .nil, e => by simp at e
 | _, _, 0, _, .cons r _, e => by simp at e; subst e; exact ⟨_, rfl, r⟩
 | _, _, i + 1, x, .cons _ t, e => by
  obtain ⟨u, h1, h2⟩ := zr.get (i := i) (x := x) t (by simpa using e)
  exact ⟨u, by simpa using h1, h2⟩
theorem zr.set {x : V} {u : Value} (r : zt x u) : ∀ {xs : List V} {us : List Value} (i : Nat), zr xs us -> zr (xs.set i x) (us.set i u)
 | _, _, _, .nil => .nil
 | _, _, 0, .cons _ t => .cons r t
 | _, _, i + 1, .cons q t => .cons q (zr.set r i t)
theorem zr.append : ∀ {xs ys : List V} {us ws : List Value}, zr xs us -> zr ys ws -> zr (xs ++ ys) (us ++ ws)
 | _, _, _, _, .nil, s => s
 | _, _, _, _, .cons r t, s => .cons r (zr.append t s)
theorem zr.take : ∀ {xs : List V} {us : List Value} (n : Nat), zr xs us -> zr (xs.take n) (us.take n)
 | _, _, 0, _ => .nil
 | _, _, _ + 1, .nil => .nil
 | _, _, n + 1, .cons r t => .cons r (zr.take n t)
theorem zr.drop : ∀ {xs : List V} {us : List Value} (n : Nat), zr xs us -> zr (xs.drop n) (us.drop n)
 | _, _, 0, r => r
 | _, _, _ + 1, .nil => .nil
 | _, _, n + 1, .cons _ t => zr.drop n t
noncomputable def ZX : Option V -> Option Value -> Prop
 | some v, some u => zt v u
 | none, none => True
 | _, _ => False
noncomputable def KV {κ : Type} : List (κ × V) -> List (κ × Value) -> Prop := Paired fun (p : κ × V) (q : κ × Value) => p.1 = q.1 /\ zt p.2 q.2
noncomputable def kV : Key -> V
 | .inl i => .int i
 | .inr x => .str x
inductive HO where
  | lst (xs : List V)
  | tup (xs : List V)
  | dK (kvs : List (Key × V)) | dT (kvs : List (List Key × V))
  | set (S : Int -> Bool) (n : Nat)
  | ins (C dx : Addr) (fs : List (Str × V))
  | own (x : Addr)
  | xd (fs : List (Str × V))
  | met (f x : Addr)
  | rng (lo hi : Int)
  | frz (o : Obj) (u : HO)
  | tbl (ps : Array Value)
  | ext (φ : Heap -> Prop)
noncomputable abbrev Hp := Addr -> Option HO
noncomputable def upd (H : Hp) (a : Addr) (o : HO) : Hp := fun b => if b = a then some o else H b
theorem zf {H : Hp} {a : Addr} {o : HO} : upd H a o a = some o := by unfold upd; rw [if_pos rfl]
theorem zh {H : Hp} {a b : Addr} {o : HO} (h : b ≠ a) : upd H a o b = H b := by unfold upd; rw [if_neg h]
theorem w8 {H : Hp} {a b : Addr} {o u : HO} (h : H a = some o) (h' : H b = some u) (d : o ≠ u) : a ≠ b := by
 intro e; subst e; rw [h] at h'; exact d (Option.some.inj h')
theorem ze {H : Hp} {a b : Addr} {o : HO} (h : H a = some o) (h' : H b = none) : a ≠ b := by
 intro e; subst e; rw [h] at h'; cases h'
noncomputable def Zw (h : Heap) (a : Addr) (items : Array Value) : Prop := ∃ o, h.get? a = some o /\ o.cls = .type "tuple" /\ (∃ n, o.data = .seq items n) /\ o.dict = none
theorem Zw.is {h : Heap} {a : Addr} {items : Array Value} (x : Zw h a items) : IsTup h a items := let ⟨o, e, c, n, _⟩ := x; ⟨o, e, c, n⟩
theorem Zw.lt {h : Heap} {a : Addr} {items : Array Value} (x : Zw h a items) : a < h.objs.size := x.is.lt
theorem Zw.new (h : Heap) (items : Array Value) : Zw (h.push { cls := .type "tuple", data := .seq items }) h.objs.size items := ⟨_, Heap.get?_push_size _ rfl, rfl, ⟨_, rfl⟩, rfl⟩
section
variable (P : Program) (w : World)
noncomputable def zC (H : Hp) (h : Heap) (a : Addr) : HO -> Prop
  | .lst xs => xs.length <= sizeLine /\ ∃ (its : List Value) (n : Nat), zr xs its /\ h.get? a = some { cls := .type "list", data := .seq its.toArray n }
  | .tup xs => xs.length <= sizeLine /\ ∃ its : List Value, zr xs its /\ Zw h a its.toArray
  | .dK kvs => kvs.length <= sizeLine /\ (a == sysModules) = false /\ ∃ vs, KV kvs vs /\ h.DictOf (zW P w) a vs
  | .dT kvs => kvs.length <= sizeLine /\ (a == sysModules) = false /\ ∃ xs : List (List Key × Addr × Value),
      Paired (fun (p : List Key × V) (q : List Key × Addr × Value) => p.1 = q.1 /\ H q.2.1 = some (.tup (p.1.map kV)) /\ zt p.2 q.2.2) kvs xs /\
      ∃ o es ep, h.get? a = some o /\ o.ExactDict /\ o.data = .dict es ep /\ es.toList = xs.map (entryOfKey (tupleKind (zW P w))) /\ (xs.map (·.1)).Nodup
  | .set S n => h.SetOf (intKind P w) a S n
  | .ins C dx fs => H dx = some (.own a) /\ fs.length <= 1000 /\ dx ≠ a /\ h.get? a = some (PySem.W.instObj C dx) /\
      ∃ mA, h.Ns1 dx mA /\ (∀ f, ZX (fs.lookup f) (mA f)) /\ PySem.Within mA (fs.map (·.1))
  | .own _ => ∃ o, h.get? a = some o
  | .xd fs => ∃ mA, h.Ns1 a mA /\ ∀ f, ZX (fs.lookup f) (mA f)
  | .rng lo hi => ∃ t u v, h.get? a = some { cls := .type "range", data := .fields #[.int lo t, .int hi u, .int 1 v] }
  | .frz o u => h.get? a = some o /\ zC H h a u
  | .tbl ps => h.get? a = some { cls := .none, data := .fields ps }
  | .met f x => h.get? a = some (PySem.W.methodObj (.ref f) (.ref x))
  | .ext φ => φ h /\ (∃ o, h.get? a = some o) /\ ∀ h1 h2 : Heap, φ h1 -> (∀ o, h1.get? a = some o -> h2.get? a = some o) -> φ h2
noncomputable def HOk (H : Hp) (h : Heap) : Prop := ∀ a o, H a = some o -> zC P w H h a o
end
section
variable {P : Program} {w : World} {H H' : Hp} {h h' : Heap} {a : Addr} {o : HO}
theorem zC.lt (x : zC P w H h a o) : a < h.objs.size := by
 cases o with
 | lst xs => obtain ⟨_, _, _, _, e⟩ := x; exact Heap.lt_size e
 | tup xs => obtain ⟨_, _, _, p⟩ := x; exact p.lt
 | dK kvs => obtain ⟨_, _, _, _, o, _, _, e, _⟩ := x; exact Heap.lt_size e
 | dT kvs => obtain ⟨_, _, _, _, o, _, _, e, _⟩ := x; exact Heap.lt_size e
 | set S n => obtain ⟨o, _, _, _, e, _⟩ := x; exact Heap.lt_size e
 | ins C dx fs => obtain ⟨_, _, _, e, _⟩ := x; exact Heap.lt_size e
 | own y => obtain ⟨_, e⟩ := x; exact Heap.lt_size e
 | xd fs => obtain ⟨_, ⟨_, _, _, e, _⟩, _⟩ := x; exact Heap.lt_size e
 | rng lo hi => obtain ⟨_, _, _, e⟩ := x; exact Heap.lt_size e
 | frz ob u => obtain ⟨e, _⟩ := x; exact Heap.lt_size e
 | tbl ps => exact Heap.lt_size (show h.get? a = some _ from x)
 | met f y => exact Heap.lt_size (show h.get? a = some _ from x)
 | ext φ => obtain ⟨_, ⟨_, e⟩, _⟩ := x; exact Heap.lt_size e
theorem Paired.mapP {α β : Type} {F G : α -> β -> Prop} : ∀ {l₁ : List α} {l₂ : List β}, Paired F l₁ l₂ -> (∀ a b, F a b -> G a b) -> Paired G l₁ l₂
 | _, _, .nil, _ => .nil
 | _, _, .cons r t, f => .cons (f _ _ r) (Paired.mapP t f)
theorem zC.stay (x : zC P w H h a o) (k : ∀ b u, (b = a \/ H b = some (.own a)) -> h.get? b = some u -> h'.get? b = some u)
  (ho : ∀ b, H b = some (.own a) -> H' b = some (.own a)) (ht : ∀ b xs, H b = some (.tup xs) -> H' b = some (.tup xs)) : zC P w H' h' a o := by
 induction o with
 | lst xs => obtain ⟨z, its, n, r, e⟩ := x; exact ⟨z, its, n, r, k _ _ (.inl rfl) e⟩
 | tup xs => obtain ⟨z, its, r, ob, e, c⟩ := x; exact ⟨z, its, r, ob, k _ _ (.inl rfl) e, c⟩
 | dK kvs => obtain ⟨z, y, vs, r, ob, es, ep, e, c⟩ := x; exact ⟨z, y, vs, r, ob, es, ep, k _ _ (.inl rfl) e, c⟩
 | dT kvs =>
  obtain ⟨z, y, xs, r, ob, es, ep, e, c⟩ := x
  exact ⟨z, y, xs, Paired.mapP r fun p q z => ⟨z.1, ht _ _ z.2.1, z.2.2⟩, ob, es, ep, k _ _ (.inl rfl) e, c⟩
 | set S n => obtain ⟨ob, es, ep, t, e, c⟩ := x; exact ⟨ob, es, ep, t, k _ _ (.inl rfl) e, c⟩
 | ins C dx fs =>
  obtain ⟨d, z, ne, e, mA, ⟨od, es, ep, e2, c⟩, r⟩ := x
  exact ⟨ho _ d, z, ne, k _ _ (.inl rfl) e, mA, ⟨od, es, ep, k _ _ (.inr d) e2, c⟩, r⟩
 | own y => obtain ⟨ob, e⟩ := x; exact ⟨ob, k _ _ (.inl rfl) e⟩
 | xd fs => obtain ⟨mA, ⟨od, es, ep, e, c⟩, r⟩ := x; exact ⟨mA, ⟨od, es, ep, k _ _ (.inl rfl) e, c⟩, r⟩
 | rng lo hi => obtain ⟨t, u, v, e⟩ := x; exact ⟨t, u, v, k _ _ (.inl rfl) e⟩
 | frz ob u ih => obtain ⟨e, q⟩ := x; exact ⟨k _ _ (.inl rfl) e, ih q⟩
 | tbl ps =>
  have e : h.get? a = some { cls := .none, data := .fields ps } := x
  show h'.get? a = some { cls := .none, data := .fields ps }
  exact k a _ (.inl rfl) e
 | met f y =>
  have e : h.get? a = some (PySem.W.methodObj (.ref f) (.ref y)) := x
  show h'.get? a = some (PySem.W.methodObj (.ref f) (.ref y))
  exact k a _ (.inl rfl) e
 | ext φ => obtain ⟨p, ⟨o, e⟩, st⟩ := x; exact ⟨st _ _ p fun o q => k _ _ (.inl rfl) q, ⟨o, k _ _ (.inl rfl) e⟩, st⟩
theorem HOk.lt (x : HOk P w H h) (e : H a = some o) : a < h.objs.size := (x a o e).lt
theorem HOk.fresh (x : HOk P w H h) (e : h.objs.size <= a) : H a = none := by
 cases q : H a with
 | none => rfl
 | some u => exact absurd (Nat.lt_of_lt_of_le (x.lt q) e) (Nat.lt_irrefl _)
theorem HOk.kept (x : HOk P w H h) (k : ∀ b u, h.get? b = some u -> h'.get? b = some u) : HOk P w H h' := fun a o e =>
 (x a o e).stay (fun b u _ q => k b u q) (fun _ q => q) fun _ _ q => q
theorem HOk.laid (x : HOk P w H h) (k : ∀ b u, h.get? b = some u -> h'.get? b = some u) (hp : h.objs.size <= a) (new : zC P w (upd H a o) h' a o) : HOk P w (upd H a o) h' := fun b u e => by
 have hn := x.fresh hp
 by_cases hb : b = a
 ·subst hb; rw [zf] at e; cases e; exact new
 ·rw [zh hb] at e
  exact (x b u e).stay (fun c v _ q => k c v q) (fun c q => by rw [zh (ze q hn)]; exact q) fun c xs q => by rw [zh (ze q hn)]; exact q
end
noncomputable def Rd (H : Hp) (a : Addr) (u : HO) : Prop := H a = some u \/ ∃ o, H a = some (.frz o u)
theorem Rd.ok {P : Program} {w : World} {H : Hp} {h : Heap} {a : Addr} {u : HO} (r : Rd H a u) (x : HOk P w H h) : zC P w H h a u := by
 rcases r with r | ⟨o, r⟩
 ·exact x a u r
 ·obtain ⟨_, q⟩ := x a _ r
  exact q
noncomputable def Mut : Option HO -> Prop
 | some (.lst _) => True
 | some (.dK _) => True
 | some (.dT _) => True
 | some (.set _ _) => True
 | some (.ins _ _ _) => True
 | some (.ext _) => True
 | _ => False
section
variable {P : Program} {w : World} {H : Hp} {h h' : Heap} {x e : Addr} {o' : HO}
theorem HOk.write (ok : HOk P w H h) (mu : Mut (H x)) (he : e = x \/ H e = some (.own x)) (k : ∀ b u, b ≠ e -> h.get? b = some u -> h'.get? b = some u) (heo : ∃ u, h'.get? e = some u)
    (new : zC P w (upd H x o') h' x o') : HOk P w (upd H x o') h' := fun b u q => by
  have nown : ∀ c y, H c = some (.own y) -> c ≠ x := fun c y r z => by subst z; rw [r] at mu; exact mu
  have ntup : ∀ c xs, H c = some (.tup xs) -> c ≠ x := fun c xs r z => by subst z; rw [r] at mu; exact mu
  by_cases hb : b = x
  · subst hb; rw [zf] at q; cases q; exact new
  · rw [zh hb] at q
    by_cases hbe : b = e
    · have q' : H b = some (.own x) := by
        rcases he with z | z
        · exact absurd (hbe.trans z) hb
        · rw [hbe]; exact z
      rw [q] at q'; cases q'
      obtain ⟨v, hv⟩ := heo
      exact ⟨v, by rw [hbe]; exact hv⟩
    · refine (ok b u q).stay (fun c v hc r => k c v ?_ r) (fun c r => by rw [zh (nown c b r)]; exact r) fun c xs r => by rw [zh (ntup c xs r)]; exact r
      rcases hc with rfl | hc
      · exact hbe
      · rintro rfl
        rcases he with z | z
        · exact nown c b hc z
        · rw [hc] at z; cases z; exact hb rfl
end
structure Un (fs ex : List Addr) (H H' : Hp) (h h' : Heap) : Prop where
 keep : ∀ b o, h.get? b = some o -> H b = none -> b ∉ fs -> b ∉ ex -> h'.get? b = some o
 slot : ∀ b o, h.get? b = some o -> H b = none -> b ∈ fs -> b ∉ ex -> ∃ sl, h'.get? b = some { o with slots := sl }
 free : ∀ b o, h.get? b = some o -> H b = none -> b ∉ ex -> H' b = none
 there : ∀ b o, h.get? b = some o -> b ∉ ex -> ∃ o', h'.get? b = some o'
 tups : ∀ b xs, H b = some (.tup xs) -> H' b = some (.tup xs)
 frzs : ∀ b o u, H b = some (.frz o u) -> H' b = some (.frz o u)
 tbls : ∀ b ps, H b = some (.tbl ps) -> ∃ more, H' b = some (.tbl (ps ++ more))
section
variable {fs fs' ex ex' : List Addr} {H H1 H2 : Hp} {h h1 h2 h' : Heap} {a x e : Addr} {o : HO}
theorem Un.any (u : Un fs ex H H1 h h1) {b : Addr} {ob : Obj} (q : h.get? b = some ob) (n : H b = none) (hx : b ∉ ex) : ∃ sl, h1.get? b = some { ob with slots := sl } := by
 by_cases hb : b ∈ fs
 ·exact u.slot b ob q n hb hx
 ·exact ⟨ob.slots, u.keep b ob q n hb hx⟩
theorem Un.kept (k : ∀ b u, h.get? b = some u -> h'.get? b = some u) : Un fs ex H H h h' :=
 ⟨fun b ob q _ _ _ => k b ob q, fun b ob q _ _ _ => ⟨ob.slots, k b ob q⟩, fun _ _ _ n _ => n, fun b ob q _ => ⟨ob, k b ob q⟩, fun _ _ q => q, fun _ _ _ q => q, fun _ ps q => ⟨#[], by rw [q]; simp⟩⟩
theorem Un.refl : Un fs ex H H h h := Un.kept fun _ _ q => q
theorem Un.laid (k : ∀ b u, h.get? b = some u -> h'.get? b = some u) (hp : h.objs.size <= a) (hn : H a = none) : Un fs ex H (upd H a o) h h' where
 keep := fun b u q _ _ _ => k b u q
 slot := fun b u q _ _ _ => ⟨u.slots, k b u q⟩
 free := fun b u q n _ => by rw [zh (Nat.ne_of_lt (Nat.lt_of_lt_of_le (Heap.lt_size q) hp))]; exact n
 there := fun b u q _ => ⟨u, k b u q⟩
 tups := fun b xs q => by rw [zh (ze q hn)]; exact q
 frzs := fun b u xs q => by rw [zh (ze q hn)]; exact q
 tbls := fun b ps q => ⟨#[], by rw [zh (ze q hn), q]; simp⟩
theorem Un.write (mu : Mut (H x)) (he : e = x \/ H e = some (.own x)) (k : ∀ b u, b ≠ e -> h.get? b = some u -> h'.get? b = some u) (heo : ∃ u, h'.get? e = some u) : Un fs ex H (upd H x o) h h' := by
 have hx : ∀ b, H b = none -> b ≠ x := fun b n z => by subst z; rw [n] at mu; exact mu
 have hb : ∀ b, H b = none -> b ≠ e := fun b n z => by
  subst z
  rcases he with r | r
  ·exact hx b n r
  ·rw [n] at r; cases r
 have hm : ∀ b u, H b = some u -> ¬ Mut (some u) -> b ≠ x := fun b u q nm z => by subst z; rw [q] at mu; exact nm mu
 refine ⟨fun b u q n _ _ => k b u (hb b n) q, fun b u q n _ _ => ⟨u.slots, k b u (hb b n) q⟩, fun b u q n _ => by rw [zh (hx b n)]; exact n, fun b u q _ => ?_,
  fun b xs q => by rw [zh (hm b _ q fun z => z)]; exact q, fun b u xs q => by rw [zh (hm b _ q fun z => z)]; exact q, fun b ps q => ⟨#[], by rw [zh (hm b _ q fun z => z), q]; simp⟩⟩
 by_cases hbe : b = e
 ·subst hbe; exact heo
 ·exact ⟨u, k b u hbe q⟩
end
noncomputable def trk (h : Heap) (H : Hp) : List Addr := (List.range h.objs.size).filter fun a => (H a).isSome
noncomputable def vo (h : Heap) (H : Hp) : Heap := PySem.W.hideAll h (trk h H)
theorem Kj (h : Heap) (H : Hp) : (vo h H).objs.size = h.objs.size := PySem.W.hideAll_size _ _
theorem Yf {h : Heap} {H : Hp} {b : Addr} {o : Obj} (e : h.get? b = some o) (n : H b = none) : (vo h H).get? b = some o :=
 PySem.W.hideAll_get _ e fun hm => by
  have q : (H b).isSome = true := (List.mem_filter.mp hm).2
  rw [n] at q; simp at q
theorem Ve {h : Heap} {H : Hp} {b : Addr} {o : Obj} (e : (vo h H).get? b = some o) : h.get? b = some o /\ H b = none := by
 have e' : h.get? b = some o := PySem.W.of_hideAll (trk h H) e
 refine ⟨e', ?_⟩
 cases q : H b with
 | none => rfl
 | some x =>
  have hm : b ∈ trk h H := List.mem_filter.mpr ⟨List.mem_range.mpr (Heap.lt_size e'), by simp [q]⟩
  have z : (vo h H).get? b = none := PySem.W.hideAll_none (trk h H) hm
  rw [z] at e; cases e
noncomputable def VB (g h : Heap) (L : Addr) : List (Addr × Obj) := (List.range h.objs.size).filterMap fun a => if a = L \/ (g.get? a).isSome = true then none else (h.get? a).map fun o => (a, o)
noncomputable def kO (g h : Heap) (L d : Addr) : List (Addr × Obj) := (VB g h L).filter fun p => decide (p.1 ≠ d)
end L2
namespace L2
open PySem PySem.Spec PyProof.Rows
structure Mod (K : PySem.W.Frag) (mg : Str -> Option Value) (base : Heap) : Prop where
 kin : K.In base
 glob : base.Ns mainGlobals mg
 blt : ∃ mb, base.Ns builtinsNs mb /\ ∀ x : Str, x ≠ "__name__" -> mb x = bootBuiltins x
 nolimit : base.NoLimit
structure Cx where
 prog : Program
 w : World
 K : PySem.W.Frag
 mg : Str -> Option Value
 base : Heap
 A : Around
 N : List Str
 s₀ : Shared
 H₀ : Hp
 env : Env
 outer : List Env
 stack : List Env
 ex : List Addr
 fn : Str -> Bool
 calm : Bool
 pn : List (Addr × Obj)
 xe : Value -> Shared -> Prop
noncomputable def frs (l : List Env) : List Addr := l.filterMap (·.frame)
noncomputable abbrev Cx.fs (X : Cx) : List Addr := frs X.outer
noncomputable def Vis (sc : Scope) (x : Str) : Prop := sc.names.lookup x = some .local \/ sc.names.lookup x = some .cell \/ sc.names.lookup x = some .free
noncomputable def Loc (sc : Scope) (x : Str) : Prop := sc.names.lookup x = some .local \/ sc.names.lookup x = some .cell
noncomputable def EF (env : Env) (h : Heap) (m : Str -> Option Value) (x : Str) (u : Value) : Prop :=
 (env.kindOf x = some .local /\ m x = some u) \/ ((env.kindOf x = some .cell \/ env.kindOf x = some .free) /\ ∃ c, env.cells.lookup x = some c /\ h.IsCell c (some u))
structure Cx.Ok (X : Cx) : Prop where
 mod : Mod X.K X.mg X.base
 kind : X.env.scope.kind = .function
 glob : X.env.globals = mainGlobals
 blt : X.env.builtins = builtinsNs
 above : X.s₀.heap.objs.size <= X.env.locals
 inj : ∀ x y c, X.env.cells.lookup x = some c -> X.env.cells.lookup y = some c -> x = y
 has : ∀ x, (X.env.kindOf x = some .cell \/ X.env.kindOf x = some .free) -> ∃ c, X.env.cells.lookup x = some c
 cab : ∀ x c, X.fn x = true -> X.env.cells.lookup x = some c -> X.s₀.heap.objs.size <= c
 hd : X.calm = true -> X.A.handled = none
 frames : X.A.frames = some X.stack
 stk : X.stack = X.outer \/ (X.stack = X.env :: X.outer /\ X.env.frame = some X.env.locals)
 exf : ∀ b ∈ X.ex, b ≠ X.env.locals /\ ∀ x c, X.env.cells.lookup x = some c -> c ≠ b
 bs : ∀ b o, X.base.get? b = some o -> X.s₀.heap.get? b = some o /\ X.H₀ b = none
 bsz : X.base.objs.size <= X.s₀.heap.objs.size
 noex : ∀ b o, X.base.get? b = some o -> b ∉ X.ex
 exfs : ∀ b ∈ X.ex, b ∉ X.fs
 funs : X.s₀.heap.FunFrames X.base X.outer
 frf : ∀ b ∈ X.fs, X.H₀ b = none
structure Inv (X : Cx) (pins : List (Addr × Obj)) (σ : List (Option V)) (H : Hp) (s : Shared) : Prop where
 ok : X.Ok
 os : s.os = X.s₀.os
 bare : AllBare s.gens
 base : Un X.fs X.ex X.H₀ H X.s₀.heap s.heap
 loc : ∃ m, s.heap.Ns X.env.locals m /\ ∀ (i : Nat) (x : Str) (v : V), X.N[i]? = some x -> σ[i]? = some (some v) -> Vis X.env.scope x -> ∃ u, zt v u /\ EF X.env s.heap m x u
 cell : ∀ x c, X.env.cells.lookup x = some c -> ∃ v, s.heap.IsCell c v
 free : H X.env.locals = none
 freeC : ∀ x c, X.env.cells.lookup x = some c -> H c = none
 pin : ∀ p ∈ X.pn ++ pins, s.heap.get? p.1 = some p.2 /\ H p.1 = none /\ p.1 ≠ X.env.locals /\ p.1 ∉ X.fs /\ ∀ v, p.2.data ≠ .cell v
 hok : HOk X.prog X.w H s.heap
 len : σ.length = X.N.length
section
variable {X : Cx} {pins : List (Addr × Obj)} {σ : List (Option V)} {H H' : Hp} {s : Shared} {h' : Heap}
theorem Cx.Ok.nofr (ok : X.Ok) {b : Addr} {o : Obj} (e : X.base.get? b = some o) : b ∉ X.fs := fun hb => by
 have := (ok.funs.mem hb).1
 rw [e] at this; cases this
theorem Inv.bs (I : Inv X pins σ H s) : ∀ b o, X.base.get? b = some o -> s.heap.get? b = some o /\ H b = none := fun b o e =>
 ⟨I.base.keep b o (I.ok.bs b o e).1 (I.ok.bs b o e).2 (I.ok.nofr e) (I.ok.noex b o e), I.base.free b o (I.ok.bs b o e).1 (I.ok.bs b o e).2 (I.ok.noex b o e)⟩
theorem Inv.bk (I : Inv X pins σ H s) : ∀ b o, X.base.get? b = some o -> s.heap.get? b = some o := fun b o e => (I.bs b o e).1
theorem Inv.mod (I : Inv X pins σ H s) : Mod X.K X.mg X.base := I.ok.mod
theorem Inv.kIn (I : Inv X pins σ H s) : X.K.In s.heap := I.ok.mod.kin.keeps I.bk
theorem Inv.lt (I : Inv X pins σ H s) : X.env.locals < s.heap.objs.size := let ⟨_, hn, _⟩ := I.loc; hn.lt
theorem Inv.sz (I : Inv X pins σ H s) : X.s₀.heap.objs.size <= s.heap.objs.size := Nat.le_trans I.ok.above (Nat.le_of_lt I.lt)
theorem Inv.nofs (I : Inv X pins σ H s) {a : Addr} (h : s.heap.objs.size <= a) : a ∉ X.fs := fun hb => by
 obtain ⟨_, o, ho, _⟩ := I.ok.funs.mem hb
 exact absurd (Nat.lt_of_lt_of_le (Heap.lt_size ho) (Nat.le_trans I.sz h)) (Nat.lt_irrefl _)
theorem Inv.cne (I : Inv X pins σ H s) : ∀ x c, X.env.cells.lookup x = some c -> c ≠ X.env.locals := fun x c e z => by
 obtain ⟨v, o, ho, hd⟩ := I.cell x c e
 obtain ⟨m, ⟨o', es, ep, ho', hd', _⟩, _⟩ := I.loc
 rw [z, ho'] at ho; cases ho; rw [hd'] at hd; cases hd
theorem Inv.funs (I : Inv X pins σ H s) : s.heap.FunFrames X.base X.outer := by
 have all : ∀ (l : List Env), (∀ b ∈ frs l, b ∈ X.fs) -> X.s₀.heap.FunFrames X.base l -> s.heap.FunFrames X.base l := by
  intro l
  induction l with
  | nil => intro _ _; trivial
  | cons env r ih =>
   intro hs hl
   obtain ⟨hk, ⟨L, o, hf, hn, ho, hd⟩, hr⟩ := hl
   have hL : L ∈ X.fs := hs L (by unfold frs; rw [List.filterMap_cons, hf]; exact List.mem_cons_self)
   obtain ⟨sl, e⟩ := I.base.slot L o ho (I.ok.frf L hL) hL fun z => I.ok.exfs L z hL
   exact ⟨hk, ⟨L, _, hf, hn, e, hd⟩, ih (fun b hb => hs b (by unfold frs; rw [List.filterMap_cons, hf]; exact List.mem_cons_of_mem _ hb)) hr⟩
 exact all X.outer (fun _ hb => hb) I.ok.funs
theorem Inv.stack (I : Inv X pins σ H s) : s.heap.FunFrames X.base X.stack := by
 rcases I.ok.stk with e | ⟨e, hf⟩
 ·rw [e]; exact I.funs
 ·rw [e]
  obtain ⟨m, hn, _⟩ := I.loc
  refine .cons (by rw [I.ok.kind]; decide) hf hn ?_ I.funs
  exact Heap.get?_none_of_le (Nat.le_trans I.ok.bsz I.ok.above)
theorem Inv.stkSub (I : Inv X pins σ H s) : ∀ b ∈ frs X.stack, b ∈ X.env.locals :: X.fs := fun b hb => by
 rcases I.ok.stk with e | ⟨e, hf⟩
 ·rw [e] at hb; exact List.mem_cons_of_mem _ hb
 ·rw [e] at hb
  unfold frs at hb
  rw [List.filterMap_cons, hf] at hb
  exact hb
theorem Inv.stkFree (I : Inv X pins σ H s) : ∀ b ∈ frs X.stack, H b = none := fun b hb => by
 rcases List.mem_cons.mp (I.stkSub b hb) with e | hb
 ·rw [e]; exact I.free
 ·obtain ⟨_, o, ho, _⟩ := I.ok.funs.mem hb
  exact I.base.free b o ho (I.ok.frf b hb) fun z => I.ok.exfs b z hb
theorem Inv.step {g' : Array GenState} {t' : Nat} {d' : Drawn} {ch : List Addr} (I : Inv X pins σ H s)
  (hch : ∀ b ∈ ch, (b ∈ X.ex \/ X.s₀.heap.objs.size <= b) /\ b ≠ X.env.locals /\ (∀ x c, X.env.cells.lookup x = some c -> c ≠ b) /\ ∀ p ∈ X.pn ++ pins, p.1 ≠ b)
  (keep : ∀ b o, b ≠ X.env.locals -> b ∉ X.fs -> b ∉ ch -> s.heap.get? b = some o -> H b = none -> h'.get? b = some o)
  (slot : ∀ b o, b ≠ X.env.locals -> b ∈ X.fs -> b ∉ ch -> s.heap.get? b = some o -> H b = none -> ∃ sl, h'.get? b = some { o with slots := sl }) (free : ∀ b o, b ∉ ch -> s.heap.get? b = some o -> H b = none -> H' b = none)
  (there : ∀ b o, b ∉ ch -> s.heap.get? b = some o -> ∃ o', h'.get? b = some o')
  (tups : ∀ b xs, H b = some (.tup xs) -> H' b = some (.tup xs)) (frzs : ∀ b o u, H b = some (.frz o u) -> H' b = some (.frz o u)) (tbls : ∀ b ps, H b = some (.tbl ps) -> ∃ more, H' b = some (.tbl (ps ++ more)))
  (ns : ∀ m, s.heap.Ns X.env.locals m -> h'.Ns X.env.locals m) (hok : HOk X.prog X.w H' h') (hg : AllBare g') :
  Inv X pins σ H' { s with heap := h', gens := g', drawn := d', toks := t' } := by
 have neL : ∀ b o, X.s₀.heap.get? b = some o -> b ≠ X.env.locals := fun b o e => Nat.ne_of_lt (Nat.lt_of_lt_of_le (Heap.lt_size e) I.ok.above)
 have neC : ∀ b o, X.s₀.heap.get? b = some o -> b ∉ X.ex -> b ∉ ch := fun b o e hx hb => by
  rcases (hch b hb).1 with z | z
  ·exact hx z
  ·exact absurd (Nat.lt_of_lt_of_le (Heap.lt_size e) z) (Nat.lt_irrefl _)
 have cellK : ∀ x c, X.env.cells.lookup x = some c -> ∀ v, s.heap.IsCell c v -> h'.IsCell c v := fun x c e v ⟨o, ho, hd⟩ => by
  have nch : c ∉ ch := fun z => (hch c z).2.2.1 x c e rfl
  by_cases hc : c ∈ X.fs
  ·obtain ⟨sl, q⟩ := slot c o (I.cne x c e) hc nch ho (I.freeC x c e)
   exact ⟨_, q, hd⟩
  ·exact ⟨o, keep c o (I.cne x c e) hc nch ho (I.freeC x c e), hd⟩
 refine ⟨I.ok, I.os, hg, ⟨fun b o e n hb hx => ?_, fun b o e n hb hx => ?_, fun b o e n hx => ?_, fun b o e hx => ?_, fun b xs e => tups b xs (I.base.tups b xs e), fun b o xs e => frzs b o xs (I.base.frzs b o xs e), fun b ps e => ?_⟩, ?_, fun x c e => ?_, ?_, fun x c e => ?_, fun p hp => ?_, hok, I.len⟩
 ·exact keep b o (neL b o e) hb (neC b o e hx) (I.base.keep b o e n hb hx) (I.base.free b o e n hx)
 ·obtain ⟨sl, e1⟩ := I.base.slot b o e n hb hx
  obtain ⟨sl', e2⟩ := slot b _ (neL b o e) hb (neC b o e hx) e1 (I.base.free b o e n hx)
  exact ⟨sl', e2⟩
 ·obtain ⟨o', e1⟩ := I.base.there b o e hx
  exact free b o' (neC b o e hx) e1 (I.base.free b o e n hx)
 ·obtain ⟨o', e1⟩ := I.base.there b o e hx
  exact there b o' (neC b o e hx) e1
 ·obtain ⟨m1, e1⟩ := I.base.tbls b ps e
  obtain ⟨m2, e2⟩ := tbls b _ e1
  exact ⟨m1 ++ m2, by rw [e2, Array.append_assoc]⟩
 ·obtain ⟨m, hn, hl⟩ := I.loc
  refine ⟨m, ns m hn, fun i x v e1 e2 e3 => ?_⟩
  obtain ⟨u, r, l⟩ := hl i x v e1 e2 e3
  refine ⟨u, r, ?_⟩
  rcases l with l | ⟨k, c, e, z⟩
  ·exact .inl l
  ·exact .inr ⟨k, c, e, cellK x c e _ z⟩
 ·obtain ⟨v, z⟩ := I.cell x c e
  exact ⟨v, cellK x c e v z⟩
 ·obtain ⟨m, ⟨o, _, _, ho, _⟩, _⟩ := I.loc
  exact free _ o (fun z => (hch _ z).2.1 rfl) ho I.free
 ·obtain ⟨v, o, ho, hd⟩ := I.cell x c e
  exact free c o (fun z => (hch c z).2.2.1 x c e rfl) ho (I.freeC x c e)
 ·obtain ⟨e, n, ne, nf, d⟩ := I.pin p hp
  have nch : p.1 ∉ ch := fun z => (hch p.1 z).2.2.2 p hp rfl
  exact ⟨keep p.1 p.2 ne nf nch e n, free p.1 p.2 nch e n, ne, nf, d⟩
theorem Inv.un {t' : Nat} (I : Inv X pins σ H s) (u : Un X.fs [] H H' s.heap h') (hok : HOk X.prog X.w H' h') : Inv X pins σ H' { s with heap := h', toks := t' } := by
 obtain ⟨m, ⟨o, es, ep, ho, r⟩, _⟩ := id I.loc
 obtain ⟨sl, hL⟩ := u.any ho I.free (by simp)
 exact I.step (g' := s.gens) (d' := s.drawn) (ch := []) (fun _ z => nomatch z) (fun b o _ hb _ e n => u.keep b o e n hb (by simp)) (fun b o _ hb _ e n => u.slot b o e n hb (by simp)) (fun b o _ e n => u.free b o e n (by simp)) (fun b o _ e => u.there b o e (by simp)) u.tups u.frzs u.tbls (fun m' hm => by
  obtain ⟨o', es', ep', ho', r'⟩ := hm
  rw [ho] at ho'; cases ho'
  exact ⟨_, es', ep', hL, r'⟩) hok I.bare
theorem Inv.call {g' : Array GenState} {t' : Nat} {d' : Drawn} {ch : List Addr} (I : Inv X pins σ H s) (u : Un (frs X.stack) ch H H' s.heap h') (hok : HOk X.prog X.w H' h') (hg : AllBare g')
  (hch : ∀ b ∈ ch, (b ∈ X.ex \/ X.s₀.heap.objs.size <= b) /\ b ≠ X.env.locals /\ (∀ x c, X.env.cells.lookup x = some c -> c ≠ b) /\ ∀ p ∈ X.pn ++ pins, p.1 ≠ b) :
  Inv X pins σ H' { s with heap := h', gens := g', drawn := d', toks := t' } := by
 obtain ⟨m, ⟨o, es, ep, ho, r⟩, _⟩ := id I.loc
 obtain ⟨sl, hL⟩ := u.any ho I.free fun z => (hch _ z).2.1 rfl
 exact I.step (ch := ch) hch (fun b o hL hb hc e n => u.keep b o e n (fun z => (List.mem_cons.mp (I.stkSub b z)).elim hL hb) hc) (fun b o _ _ hc e n => u.any e n hc) (fun b o hc e n => u.free b o e n hc) (fun b o hc e => u.there b o e hc) u.tups u.frzs u.tbls (fun m' hm => by
  obtain ⟨o', es', ep', ho', r'⟩ := hm
  rw [ho] at ho'; cases ho'
  exact ⟨_, es', ep', hL, r'⟩) hok hg
theorem Inv.turned {t' : Nat} {it : Addr} (I : Inv X pins σ H s) (k : ∀ b o, b ≠ it -> s.heap.get? b = some o -> h'.get? b = some o) (hn : H it = none) (hL : it ≠ X.env.locals)
  (h1 : it ∈ X.ex \/ X.s₀.heap.objs.size <= it) (h2 : ∀ x c, X.env.cells.lookup x = some c -> c ≠ it) (h3 : ∀ p ∈ X.pn ++ pins, p.1 ≠ it) : Inv X pins σ H { s with heap := h', toks := t' } := by
 have nit : ∀ b u, H b = some u -> b ≠ it := fun b u e z => by rw [z, hn] at e; cases e
 refine I.step (g' := s.gens) (d' := s.drawn) (ch := [it]) (fun b hb => ?_) (fun b o _ _ hc e _ => k b o (fun z => hc (by simp [z])) e) (fun b o _ _ hc e _ => ⟨o.slots, k b o (fun z => hc (by simp [z])) e⟩) (fun _ _ _ _ n => n)
  (fun b o hc e => ⟨o, k b o (fun z => hc (by simp [z])) e⟩) (fun _ _ e => e) (fun _ _ _ e => e) (fun b ps e => ⟨#[], by rw [e]; simp⟩) (fun m hm => ?_) (fun b u e => ?_) I.bare
 ·have e : b = it := by simpa using hb
  subst e
  exact ⟨h1, hL, h2, h3⟩
 ·obtain ⟨o, es, ep, ho, r⟩ := hm
  exact ⟨o, es, ep, k _ o (Ne.symm hL) ho, r⟩
 ·refine (I.hok b u e).stay (fun c v hc q => k c v ?_ q) (fun _ q => q) fun _ _ q => q
  rcases hc with z | z
  ·rw [z]; exact nit b u e
  ·exact nit c _ z
theorem Inv.tok (I : Inv X pins σ H s) (t : Nat) : Inv X pins σ H { s with toks := t } := I.un (h' := s.heap) (t' := t) Un.refl I.hok
theorem Inv.kept {t' : Nat} (I : Inv X pins σ H s) (k : ∀ b u, s.heap.get? b = some u -> h'.get? b = some u) : Inv X pins σ H { s with heap := h', toks := t' } := I.un (Un.kept k) (I.hok.kept k)
theorem Inv.laid {a : Addr} {o : HO} {t' : Nat} (I : Inv X pins σ H s) (k : ∀ b u, s.heap.get? b = some u -> h'.get? b = some u) (hp : s.heap.objs.size <= a) (new : zC X.prog X.w (upd H a o) h' a o) :
  Inv X pins σ (upd H a o) { s with heap := h', toks := t' } := I.un (Un.laid k hp (I.hok.fresh hp)) (I.hok.laid k hp new)
theorem Inv.write {x e : Addr} {o : HO} {t' : Nat} (I : Inv X pins σ H s) (mu : Mut (H x)) (he : e = x \/ H e = some (.own x)) (k : ∀ b u, b ≠ e -> s.heap.get? b = some u -> h'.get? b = some u) (heo : ∃ u, h'.get? e = some u)
  (new : zC X.prog X.w (upd H x o) h' x o) : Inv X pins σ (upd H x o) { s with heap := h', toks := t' } := I.un (Un.write mu he k heo) (I.hok.write mu he k heo new)
theorem Inv.pins_of {pins' : List (Addr × Obj)} (I : Inv X pins σ H s) (h : ∀ p ∈ pins', s.heap.get? p.1 = some p.2 /\ H p.1 = none /\ p.1 ≠ X.env.locals /\ p.1 ∉ X.fs /\ ∀ v, p.2.data ≠ .cell v) : Inv X pins' σ H s :=
 ⟨I.ok, I.os, I.bare, I.base, I.loc, I.cell, I.free, I.freeC, fun p hp => (List.mem_append.mp hp).elim (fun z => I.pin p (List.mem_append_left _ z)) (h p), I.hok, I.len⟩
theorem yj {N : List Str} (hN : N.Nodup) {i j : Nat} {x : Str} (a : N[i]? = some x) (b : N[j]? = some x) : i = j := by
 obtain ⟨h1, e1⟩ := List.getElem?_eq_some_iff.mp a
 obtain ⟨h2, e2⟩ := List.getElem?_eq_some_iff.mp b
 exact (List.getElem_inj hN).mp (e1.trans e2.symm)
theorem yT {M : Model} {A : Around} {E : Value -> Shared -> Prop} {i : Nat} {x : Str} {v : V} {u : Value} {Q : Unit -> Shared -> Prop} (I : Inv X pins σ H s) (hN : X.N.Nodup) (hi : X.N[i]? = some x) (hx : Loc X.env.scope x) (r : zt v u)
    (h : ∀ s', Inv X pins (σ.set i (some v)) H s' -> (∃ a, Heap.SameBut a s.heap s'.heap /\ (a = X.env.locals \/ X.env.cells.lookup x = some a)) -> Q () s') (hf : X.fn x = true \/ X.env.scope.names.lookup x = some .local := by first | exact .inl rfl | exact .inr rfl | assumption) : wpAny M A (storeName X.env x u) Q E s := by
  obtain ⟨m, hn, hl⟩ := id I.loc
  have hcls : (X.env.scope.kind == .class || (X.env.scope.kind == .module && X.env.locals != X.env.globals)) = false := by rw [I.ok.kind]; rfl
  have hiσ : i < σ.length := by rw [I.len]; exact (List.getElem?_eq_some_iff.mp hi).1
  have cne := I.cne
  have tracked : ∀ {a : Addr} {h' : Heap}, (∃ o, s.heap.get? a = some o /\ H a = none) -> Heap.SameBut a s.heap h' -> HOk X.prog X.w H h' := fun {a h'} ha hs b ob e => by
    obtain ⟨_, _, hfree⟩ := ha
    refine (I.hok b ob e).stay (fun c w' hc q => (hs.2 c ?_).trans q) (fun _ q => q) fun _ _ q => q
    rintro rfl
    rcases hc with rfl | hc
    · rw [hfree] at e; cases e
    · rw [hfree] at hc; cases hc
  rcases hx with hk | hk
  · refine wpAny_storeName_local hk hn (fun h' hn' hs => ?_) hcls
    obtain ⟨oL, _, _, hoL, _⟩ := id hn
    refine h _ ⟨I.ok, I.os, I.bare, ⟨fun b o e n hb hx => ?_, fun b o e n hb hx => ?_, I.base.free, fun b o e hx => ?_, I.base.tups, I.base.frzs, I.base.tbls⟩, ⟨_, hn', fun j y v' e1 e2 e3 => ?_⟩, fun y c e => ?_, I.free, I.freeC, fun p hp => ?_, tracked ⟨oL, hoL, I.free⟩ hs, by simpa using I.len⟩ ⟨_, hs, .inl rfl⟩
    · exact (hs.2 b (Nat.ne_of_lt (Nat.lt_of_lt_of_le (Heap.lt_size e) I.ok.above))).trans (I.base.keep b o e n hb hx)
    · obtain ⟨sl, e1⟩ := I.base.slot b o e n hb hx
      exact ⟨sl, (hs.2 b (Nat.ne_of_lt (Nat.lt_of_lt_of_le (Heap.lt_size e) I.ok.above))).trans e1⟩
    · obtain ⟨o', e1⟩ := I.base.there b o e hx
      exact ⟨o', (hs.2 b (Nat.ne_of_lt (Nat.lt_of_lt_of_le (Heap.lt_size e) I.ok.above))).trans e1⟩
    · by_cases hj : j = i
      · subst hj
        rw [hi] at e1; cases e1
        rw [List.getElem?_set_self hiσ] at e2
        cases e2
        exact ⟨u, r, .inl ⟨hk, by simp⟩⟩
      · rw [List.getElem?_set_ne (Ne.symm hj)] at e2
        obtain ⟨u', r', q⟩ := hl j y v' e1 e2 e3
        refine ⟨u', r', ?_⟩
        rcases q with ⟨k, e⟩ | ⟨k, c, e, z⟩
        · refine .inl ⟨k, ?_⟩
          have : y ≠ x := fun e => hj (yj hN e1 (e ▸ hi))
          simp [this, e]
        · exact .inr ⟨k, c, e, z.sameBut hs (cne y c e)⟩
    · obtain ⟨w', z⟩ := I.cell y c e
      exact ⟨w', z.sameBut hs (cne y c e)⟩
    · obtain ⟨e, n, ne, nf, d⟩ := I.pin p hp
      exact ⟨(hs.2 p.1 ne).trans e, n, ne, nf, d⟩
  · have hfn : X.fn x = true := by
      rcases hf with z | z
      · exact z
      · rw [z] at hk; cases hk
    obtain ⟨c, hc⟩ := I.ok.has x (.inl hk)
    obtain ⟨w', z⟩ := I.cell x c hc
    refine wpAny_storeName_cell I.ok.kind hk hc z (fun h' hc' hs => ?_)
    obtain ⟨oc, hoc, hocd⟩ := id z
    refine h { s with heap := h' } ⟨I.ok, I.os, I.bare, ⟨fun b o e n hb hx => ?_, fun b o e n hb hx => ?_, I.base.free, fun b o e hx => ?_, I.base.tups, I.base.frzs, I.base.tbls⟩, ⟨m, hn.sameBut hs (Ne.symm (cne x c hc)), fun j y v' e1 e2 e3 => ?_⟩, fun y c' e => ?_, I.free, I.freeC, fun p hp => ?_, tracked ⟨oc, hoc, I.freeC x c hc⟩ hs, by simpa using I.len⟩ ⟨c, hs, .inr hc⟩
    · exact (hs.2 b (Nat.ne_of_lt (Nat.lt_of_lt_of_le (Heap.lt_size e) (I.ok.cab x c hfn hc)))).trans (I.base.keep b o e n hb hx)
    · obtain ⟨sl, e1⟩ := I.base.slot b o e n hb hx
      exact ⟨sl, (hs.2 b (Nat.ne_of_lt (Nat.lt_of_lt_of_le (Heap.lt_size e) (I.ok.cab x c hfn hc)))).trans e1⟩
    · obtain ⟨o', e1⟩ := I.base.there b o e hx
      exact ⟨o', (hs.2 b (Nat.ne_of_lt (Nat.lt_of_lt_of_le (Heap.lt_size e) (I.ok.cab x c hfn hc)))).trans e1⟩
    · by_cases hj : j = i
      · subst hj
        rw [hi] at e1; cases e1
        rw [List.getElem?_set_self hiσ] at e2
        cases e2
        exact ⟨u, r, .inr ⟨.inl hk, c, hc, hc'⟩⟩
      · rw [List.getElem?_set_ne (Ne.symm hj)] at e2
        obtain ⟨u', r', q⟩ := hl j y v' e1 e2 e3
        refine ⟨u', r', ?_⟩
        rcases q with q | ⟨k, c', e, z'⟩
        · exact .inl q
        · refine .inr ⟨k, c', e, z'.sameBut hs ?_⟩
          rintro rfl
          exact hj (yj hN e1 (I.ok.inj _ _ _ e hc ▸ hi))
    · by_cases hcc : c' = c
      · subst hcc; exact ⟨_, hc'⟩
      · obtain ⟨w2, z2⟩ := I.cell y c' e
        exact ⟨w2, z2.sameBut hs hcc⟩
    · obtain ⟨e, n, ne, nf, d⟩ := I.pin p hp
      refine ⟨(hs.2 p.1 ?_).trans e, n, ne, nf, d⟩
      intro q
      rw [q, hoc] at e
      have q' : oc = p.2 := Option.some.inj e
      exact d w' (by rw [<- q']; exact hocd)
theorem jE {M : Model} {A : Around} {E : Value -> Shared -> Prop} {i : Nat} {x : Str} {v : V} {u : Value} {Q : Unit -> Shared -> Prop} (I : Inv X pins σ H s) (hN : X.N.Nodup) (hi : X.N[i]? = some x) (hx : Loc X.env.scope x) (r : zt v u)
  (h : ∀ s', Inv X pins (σ.set i (some v)) H s' -> Q () s') (hf : X.fn x = true \/ X.env.scope.names.lookup x = some .local := by first | exact .inl rfl | exact .inr rfl | assumption) : wpAny M A (storeName X.env x u) Q E s :=
 yT I hN hi hx r (fun s' I' _ => h s' I') hf
theorem Inv.call' {s' : Shared} {ch : List Addr} (I : Inv X pins σ H s) (ho : s'.os = s.os) (u : Un (frs X.stack) ch H H' s.heap s'.heap) (hok : HOk X.prog X.w H' s'.heap) (hg : AllBare s'.gens)
  (hch : ∀ b ∈ ch, (b ∈ X.ex \/ X.s₀.heap.objs.size <= b) /\ b ≠ X.env.locals /\ (∀ x c, X.env.cells.lookup x = some c -> c ≠ b) /\ ∀ p ∈ X.pn ++ pins, p.1 ≠ b) : Inv X pins σ H' s' := by
 obtain ⟨h', g', d', t', o'⟩ := s'
 have e : o' = s.os := ho
 subst e
 exact I.call (g' := g') (t' := t') (d' := d') u hok hg hch
end
noncomputable abbrev XK := Value -> Option Addr -> Hp -> Prop
noncomputable abbrev St := List (Option V)
noncomputable abbrev VK := V -> Hp -> Prop
noncomputable abbrev TE := St -> Hp -> VK -> Prop
noncomputable abbrev TT := St -> Hp -> (Bool -> Hp -> Prop) -> Prop
noncomputable abbrev TA := St -> Hp -> (List V -> Hp -> Prop) -> Prop
structure qR where
 nx : St -> Hp -> Prop
 rt : VK
 bk : St -> Hp -> Prop := fun _ _ => False
 ct : St -> Hp -> Prop := fun _ _ => False
noncomputable abbrev TS := qR -> St -> Hp -> Prop
noncomputable def EP (X : Cx) (pins : List (Addr × Obj)) (σ : St) (Q : VK) (u : Value) (s' : Shared) : Prop := ∃ v H', Inv X pins σ H' s' /\ zt v u /\ Q v H'
noncomputable def TP (X : Cx) (pins : List (Addr × Obj)) (σ : St) (Q : Bool -> Hp -> Prop) (b : Bool) (s' : Shared) : Prop := ∃ H', Inv X pins σ H' s' /\ Q b H'
noncomputable def AP (X : Cx) (pins : List (Addr × Obj)) (σ : St) (Q : List V -> Hp -> Prop) (us : List Value) (s' : Shared) : Prop := ∃ vs H', Inv X pins σ H' s' /\ zr vs us /\ Q vs H'
noncomputable def SP (X : Cx) (pins : List (Addr × Obj)) (D : qR) (f : Flow) (s' : Shared) : Prop :=
 match f with
 | .next => ∃ σ' H', Inv X pins σ' H' s' /\ D.nx σ' H'
 | .brk => ∃ σ' H', Inv X pins σ' H' s' /\ D.bk σ' H'
 | .cont => ∃ σ' H', Inv X pins σ' H' s' /\ D.ct σ' H'
 | .ret u => ∃ v σ' H', Inv X pins σ' H' s' /\ zt v u /\ D.rt v H'
noncomputable def PE (X : Cx) (e : Expr) (t : TE) : Prop :=
 ∀ (pins : List (Addr × Obj)) (s : Shared) (σ : St) (H : Hp) (Q : VK), Inv X pins σ H s -> t σ H Q -> wpAny (model X.prog X.w) X.A (eval e X.env) (EP X pins σ Q) X.xe s
noncomputable def PT (X : Cx) (e : Expr) (t : TT) : Prop :=
 ∀ (pins : List (Addr × Obj)) (s : Shared) (σ : St) (H : Hp) (Q : Bool -> Hp -> Prop), Inv X pins σ H s -> t σ H Q -> wpAny (model X.prog X.w) X.A (isTrue e X.env (eval e X.env)) (TP X pins σ Q) X.xe s
noncomputable def PW (X : Cx) (e : Expr) (t : TT) : Prop :=
 ∀ (whole : Sem Value) (pins : List (Addr × Obj)) (s : Shared) (σ : St) (H : Hp) (Q : Bool -> Hp -> Prop), Inv X pins σ H s -> t σ H Q -> wpAny (model X.prog X.w) X.A (isTrue e X.env whole) (TP X pins σ Q) X.xe s
theorem PW.pt {X : Cx} {e : Expr} {t : TT} (h : PW X e t) : PT X e t := h _
noncomputable def PA (X : Cx) (es : List Expr) (t : TA) : Prop :=
 ∀ (pos : Pos) (pins : List (Addr × Obj)) (s : Shared) (σ : St) (H : Hp) (Q : List V -> Hp -> Prop), Inv X pins σ H s -> t σ H Q -> wpAny (model X.prog X.w) X.A (spliced (backTo pos (starEach es X.env))) (AP X pins σ Q) X.xe s
noncomputable def PS (X : Cx) (st : Stmt) (t : TS) : Prop :=
 ∀ (pins : List (Addr × Obj)) (s : Shared) (σ : St) (H : Hp) (D : qR), Inv X pins σ H s -> t D σ H -> wpAny (model X.prog X.w) X.A (exec st X.env) (SP X pins D) X.xe s
noncomputable def PSs (X : Cx) (st : List Stmt) (t : TS) : Prop :=
 ∀ (pins : List (Addr × Obj)) (s : Shared) (σ : St) (H : Hp) (D : qR), Inv X pins σ H s -> t D σ H -> wpAny (model X.prog X.w) X.A (execs st X.env) (SP X pins D) X.xe s
theorem thn {α : Type} {t : Sem α} {Q Q' : α -> Shared -> Prop} {M : Model} {A : Around} {E : Value -> Shared -> Prop} {s : Shared} (h : wpAny M A t Q E s) (hQ : ∀ a s, Q a s -> Q' a s) : wpAny M A t Q' E s := wpAny_mono h hQ fun _ _ x => x
end L2
namespace L2
open PySem PySem.Spec PyProof.Rows
section
variable {X : Cx}
theorem bin {a b : Expr} {ta tb : TE} (ha : PE X a ta) (hb : PE X b tb) {pins : List (Addr × Obj)} {s : Shared} {σ : St} {H : Hp} {R : V -> V -> Hp -> Prop} (I : Inv X pins σ H s) (h : ta σ H fun x H1 => tb σ H1 fun y H2 => R x y H2)
  {α : Type} {Q : α -> Shared -> Prop} {f : Value -> Value -> Sem α}
  (hf : ∀ v u s2 x y H2, Inv X pins σ H2 s2 -> zt x v -> zt y u -> R x y H2 -> wpAny (model X.prog X.w) X.A (f v u) Q X.xe s2) :
  wpAny (model X.prog X.w) X.A (eval a X.env) (fun v s₁ => wpAny (model X.prog X.w) X.A (eval b X.env) (fun u s₂ => wpAny (model X.prog X.w) X.A (f v u) Q X.xe s₂) X.xe s₁) X.xe s := by
 refine thn (ha pins s σ H _ I h) fun v s1 ⟨x, H1, I1, r1, q1⟩ => ?_
 refine thn (hb pins s1 σ H1 _ I1 q1) fun u s2 ⟨y, H2, I2, r2, q2⟩ => ?_
 exact hf v u s2 x y H2 I2 r1 r2 q2
noncomputable def Yb (i : Nat) : TE := fun σ H Q => ∃ v, σ[i]? = some (some v) /\ Q v H
noncomputable def tC (v : V) : TE := fun _ H Q => Q v H
theorem B3 {i : Nat} {x : Str} {pos : Pos} (hN : X.N[i]? = some x) (hv : Vis X.env.scope x) (hd : (x == ("__debug__" : Str)) = false := by decide) (hcd : (x == ("__classdict__" : Str)) = false := by decide) : PE X (.Name x pos) (Yb i) := by
 intro pins s σ H Q I h
 obtain ⟨v, e, h⟩ := h
 obtain ⟨m, hn, hl⟩ := I.loc
 obtain ⟨u, r, l⟩ := hl i x v hN e hv
 have fin : EP X pins σ Q u s := ⟨v, H, I, r, h⟩
 rcases l with ⟨hk, hm⟩ | ⟨hk, c, hc, hcell⟩
 ·exact wpAny_Name (wpAny_loadName_local I.ok.kind hk hn hm fin) hd
 ·rcases hk with hk | hk
  ·exact wpAny_Name (wpAny_loadName_cell I.ok.kind hk hc hcell fin) hd
  ·exact wpAny_Name (wpAny_loadName_free I.ok.kind hk hc hcell fin hcd) hd
theorem zd {i j pos} : PE X (.Constant (.int i) j pos) (tC (.int i)) := fun _ _ _ H _ I h => wpAny_Constant_int ⟨.int i, H, I.tok _, ⟨_, rfl⟩, h⟩
theorem jr {b j pos} : PE X (.Constant (.bool b) j pos) (tC (.bl b)) := fun _ _ _ H _ I h => Constant_bool ⟨.bl b, H, I, rfl, h⟩
theorem Qh {j pos} : PE X (.Constant .none j pos) (tC .non) := fun _ _ _ H _ I h => Constant_none ⟨.non, H, I, rfl, h⟩
theorem vU {x j pos} : PE X (.Constant (.str x) j pos) (tC (.str x)) := fun _ _ _ H _ I h => Calls.Constant_str ⟨.str x, H, I.tok _, ⟨_, rfl⟩, h⟩
noncomputable def Gl (X : Cx) (x : Str) : Prop := X.env.kindOf x = some .globalImplicit
theorem jO {E : Value -> Shared -> Prop} {pins : List (Addr × Obj)} {s : Shared} {σ : St} {H : Hp} {x : Str} {u : Value} {pos : Pos} {Q : Value -> Shared -> Prop} (I : Inv X pins σ H s) (hg : Gl X x) (hm : X.mg x = some u) (h : Q u s)
  (hd : (x == ("__debug__" : Str)) = false := by decide) : wpAny (model X.prog X.w) X.A (eval (.Name x pos) X.env) Q E s :=
 Calls.Name_function_global I.ok.kind hg (Calls.loadGlobal_global (by rw [I.ok.glob]; exact I.mod.glob.keeps I.bk) hm h) hd
theorem qK {E : Value -> Shared -> Prop} {pins : List (Addr × Obj)} {s : Shared} {σ : St} {H : Hp} {x : Str} {u : Value} {pos : Pos} {Q : Value -> Shared -> Prop} (I : Inv X pins σ H s) (hg : Gl X x) (hm : X.mg x = none) (hv : bootBuiltins x = some u) (h : Q u s)
  (hn : x ≠ "__name__" := by decide) (hd : (x == ("__debug__" : Str)) = false := by decide) : wpAny (model X.prog X.w) X.A (eval (.Name x pos) X.env) Q E s := by
 obtain ⟨mb, h1, h2⟩ := I.mod.blt
 exact Calls.Name_function_global I.ok.kind hg (Calls.loadGlobal_builtin (by rw [I.ok.glob]; exact I.mod.glob.keeps I.bk) hm (by rw [I.ok.blt]; exact h1.keeps I.bk) ((h2 x hn).trans hv) h) hd
theorem qE {x : Str} {v : V} {u : Value} {pos : Pos} (hg : Gl X x) (hm : X.mg x = none) (hv : bootBuiltins x = some u) (r : zt v u) (hn : x ≠ "__name__" := by decide) (hd : (x == ("__debug__" : Str)) = false := by decide) : PE X (.Name x pos) (tC v) :=
 fun _ _ _ H _ I h => qK I hg hm hv ⟨v, H, I, r, h⟩ hn hd
variable {a b : Expr} {ta tb : TE} {pos : Pos}
noncomputable def PC (X : Cx) (op : CmpOp) (a b : Expr) (t : TE) : Prop :=
 ∀ (pins : List (Addr × Obj)) (s : Shared) (σ : St) (H : Hp) (Q : VK), Inv X pins σ H s -> t σ H Q ->
  wpAny (model X.prog X.w) X.A (eval a X.env) (fun v s₁ => wpAny (model X.prog X.w) X.A (eval b X.env) (fun u s₂ => wpAny (model X.prog X.w) X.A (compareOp op v u) (EP X pins σ Q) X.xe s₂) X.xe s₁) X.xe s
theorem KR (b : Expr) {op : CmpOp} (h : op ≠ .In) (h2 : op ≠ .NotIn) : behindInMarks op b = false := by
 have e1 : (op == CmpOp.In) = false := by cases op <;> first | rfl | exact absurd rfl h
 have e2 : (op == CmpOp.NotIn) = false := by cases op <;> first | rfl | exact absurd rfl h2
 cases b <;> simp [behindInMarks, e1, e2]
noncomputable def tB (t : TE) : TT := fun σ H Q => t σ H fun x H1 => ∃ c, x = .bl c /\ Q c H1
theorem Al {op : CmpOp} {t : TE} (h : PC X op a b t) (h1 : behindInMarks op b = false := by first | exact KR _ (by decide) (by decide) | rfl) : PT X (.Compare a [op] [b] pos) (tB t) := by
 intro pins s σ H Q I hw
 refine wpAny_isTrue_Compare1 (thn (h pins s σ H _ I hw) fun v s1 h1 => thn h1 fun u s2 h2 => thn h2 fun c s3 ⟨x, H1, I1, r1, q1⟩ => ?_) h1
 obtain ⟨d, rfl, q⟩ := q1
 cases r1
 exact wpAny_truthy_bool ⟨H1, I1, q⟩
theorem jf {e : Expr} {t : TE} (h : PE X e t) (he : ∀ whole, isTrue e X.env whole = (do let v <- whole; standAt e.pos; holding [v] (truthy v)) := by intro _; rfl) : PT X e (tB t) := by
 intro pins s σ H Q I hw
 refine isTrue_plain (thn (h pins s σ H _ I hw) fun v s1 ⟨x, H1, I1, r1, q1⟩ => ?_) (he _)
 obtain ⟨d, rfl, q⟩ := q1
 cases r1
 exact wpAny_truthy_bool ⟨H1, I1, q⟩
variable {tA tB' : TT} {kO : List Expr}
noncomputable def tOr (t u : TT) : TT := fun σ H Q => t σ H fun c H1 => if c = true then Q true H1 else u σ H1 Q
noncomputable def Dy (t : TT) : TT := fun σ H Q => t σ H fun c H1 => Q (!c) H1
theorem kK (ha : PT X a tA) : PW X (.BoolOp .Or [a] pos) tA := by
 intro wh pins s σ H Q I h
 refine isTrue_or (thn (ha pins s σ H Q I h) fun c s1 e => ?_)
 cases c with
 | false => exact isTrue_or_nil e
 | true => exact e
theorem yG (ha : PT X a tA) (hb : PW X (.BoolOp .Or (b :: kO) pos) tB') : PW X (.BoolOp .Or (a :: b :: kO) pos) (tOr tA tB') := by
 intro wh pins s σ H Q I h
 refine isTrue_or (thn (ha pins s σ H _ I h) fun c s1 ⟨H1, I1, q1⟩ => ?_)
 cases c with
 | true => exact ⟨H1, I1, q1⟩
 | false => exact hb wh pins s1 σ H1 Q I1 q1
theorem xM (ha : PT X a tA) : PT X (.UnaryOp .Not a pos) (Dy tA) := by
 intro pins s σ H Q I h
 exact isTrue_not (ha pins s σ H (fun c H1 => Q (!c) H1) I h)
noncomputable def XM (ta tb : TE) : TE := fun σ H Q => ta σ H fun x H1 => ∃ c, x = .bl c /\ if c = true then tb σ H1 Q else Q (.bl false) H1
noncomputable def Xt (ta : TE) : TE := fun σ H Q => ta σ H fun x H1 => ∃ c, x = .bl c /\ Q (.bl (!c)) H1
theorem Zz {op} {t : TE} (h : PE X a t) : PE X (.BoolOp op [a] pos) t := fun pins s σ H Q I hw => BoolOp_one (h pins s σ H Q I hw)
theorem vD (ha : PE X a ta) (hb : PE X (.BoolOp .And (b :: kO) pos) tb) : PE X (.BoolOp .And (a :: b :: kO) pos) (XM ta tb) := by
 intro pins s σ H Q I h
 refine BoolOp_and (thn (ha pins s σ H _ I h) fun v s1 ⟨x, H1, I1, r1, q1⟩ => ?_)
 obtain ⟨c, rfl, q1⟩ := q1
 cases r1
 refine wpAny_truthy_bool ?_
 cases c with
 | true => exact hb pins s1 σ H1 Q I1 q1
 | false => exact ⟨.bl false, H1, I1, rfl, q1⟩
theorem BL (ha : PE X a ta) : PE X (.UnaryOp .Not a pos) (Xt ta) := by
 intro pins s σ H Q I h
 refine UnaryOp_ (thn (ha pins s σ H _ I h) fun v s1 ⟨x, H1, I1, r1, q1⟩ => ?_)
 obtain ⟨c, rfl, q1⟩ := q1
 cases r1
 exact not_of (wpAny_truthy_bool ⟨.bl (!c), H1, I1, rfl, q1⟩)
end
end L2
namespace L2
open PySem PySem.Spec PyProof.Rows
noncomputable def SqL (K : PySem.W.Frag) (H : Hp) (a : Addr) (xs : List V) : Prop :=
 Rd H a (.lst xs) \/
  ∃ (o : Obj) (its : Array Value) (n : Nat), K.lookup a = some o /\ o.cls = .type "list" /\ o.dict = none /\ o.data = .seq its n /\ its.size <= sizeLine /\ zr xs its.toList
noncomputable def SqT (K : PySem.W.Frag) (H : Hp) (a : Addr) (xs : List V) : Prop :=
 Rd H a (.tup xs) \/
  ∃ (o : Obj) (its : Array Value) (n : Nat), K.lookup a = some o /\ o.cls = .type "tuple" /\ o.data = .seq its n /\ its.size <= sizeLine /\ zr xs its.toList
noncomputable def EM : Value -> Option V
 | .none => some .non
 | .bool b => some (.bl b)
 | .int i _ => some (.int i)
 | .str x _ => some (.str x)
 | .bytes b _ => some (.byt b)
 | .float b _ => some (.flt b)
 | .ref a => some (.ref a)
 | .type n => some (.ty n)
 | _ => none
theorem zt.abs {x : V} {u : Value} (r : zt x u) : EM u = some x := by
 cases x with
 | non => cases r; rfl
 | bl _ => cases r; rfl
 | int _ => obtain ⟨t, rfl⟩ := r; rfl
 | str _ => obtain ⟨t, rfl⟩ := r; rfl
 | byt _ => obtain ⟨t, rfl⟩ := r; rfl
 | flt _ => obtain ⟨t, rfl⟩ := r; rfl
 | ref _ => cases r; rfl
 | ty _ => cases r; rfl
theorem zt.inj {x y : V} {u : Value} (r : zt x u) (q : zt y u) : x = y := Option.some.inj (r.abs.symm.trans q.abs)
theorem zr.inj : ∀ {xs ys : List V} {us : List Value}, zr xs us -> zr ys us -> xs = ys
 | _, _, _, .nil, .nil => rfl
 | _, _, _, .cons r t, .cons r' t' => by rw [r.inj r', zr.inj t t']
section
variable {X : Cx} {pins : List (Addr × Obj)} {σ : St} {H : Hp} {s : Shared} {a : Addr} {xs ys : List V}
theorem SqL.of {K : PySem.W.Frag} (h : H a = some (.lst xs)) : SqL K H a xs := .inl (.inl h)
theorem SqT.of {K : PySem.W.Frag} (h : H a = some (.tup xs)) : SqT K H a xs := .inl (.inl h)
theorem Inv.list (I : Inv X pins σ H s) (h : SqL X.K H a xs) : ∃ its : List Value, zr xs its /\ PlainL s.heap a its.toArray /\ xs.length <= sizeLine := by
 rcases h with h | ⟨o, its, n, hk, hc, hd, hs, hz, r⟩
 ·obtain ⟨z, its, n, r, e⟩ := h.ok I.hok
  exact ⟨its, r, ⟨_, n, e, rfl, rfl, rfl⟩, z⟩
 ·refine ⟨its.toList, r, ⟨o, n, I.kIn a o hk, hc, hd, by simpa using hs⟩, ?_⟩
  have e := r.length
  simp only [Array.length_toList] at e
  omega
theorem Inv.tuple (I : Inv X pins σ H s) (h : SqT X.K H a xs) : ∃ its : List Value, zr xs its /\ IsTup s.heap a its.toArray /\ xs.length <= sizeLine := by
 rcases h with h | ⟨o, its, n, hk, hc, hs, hz, r⟩
 ·obtain ⟨z, its, r, p⟩ := h.ok I.hok
  exact ⟨its, r, p.is, z⟩
 ·refine ⟨its.toList, r, ⟨o, I.kIn a o hk, hc, n, by simpa using hs⟩, ?_⟩
  have e := r.length
  simp only [Array.length_toList] at e
  omega
theorem Inv.list_inj (I : Inv X pins σ H s) (h : SqL X.K H a xs) (h' : SqL X.K H a ys) : xs = ys := by
 obtain ⟨its, r, ⟨o, n, e, _, _, d⟩, _⟩ := I.list h
 obtain ⟨its', r', ⟨o', n', e', _, _, d'⟩, _⟩ := I.list h'
 rw [e] at e'; cases e'
 rw [d] at d'
 injection d' with d1 _
 have : its = its' := by simpa using congrArg Array.toList d1
 subst this
 exact r.inj r'
theorem Inv.tuple_inj (I : Inv X pins σ H s) (h : SqT X.K H a xs) (h' : SqT X.K H a ys) : xs = ys := by
 obtain ⟨its, r, ⟨o, e, _, n, d⟩, _⟩ := I.tuple h
 obtain ⟨its', r', ⟨o', e', _, n', d'⟩, _⟩ := I.tuple h'
 rw [e] at e'; cases e'
 rw [d] at d'
 injection d' with d1 _
 have : its = its' := by simpa using congrArg Array.toList d1
 subst this
 exact r.inj r'
end
noncomputable abbrev Cx.wish (X : Cx) (E : Value -> Shared -> Prop) : Cx := { X with xe := E }
noncomputable abbrev Cx.nox (X : Cx) : Cx := X.wish fun _ _ => False
theorem Cx.Ok.wish {X : Cx} (ok : X.Ok) (E : Value -> Shared -> Prop) : (X.wish E).Ok :=
 ⟨ok.mod, ok.kind, ok.glob, ok.blt, ok.above, ok.inj, ok.has, ok.cab, ok.hd, ok.frames, ok.stk, ok.exf, ok.bs, ok.bsz, ok.noex, ok.exfs, ok.funs, ok.frf⟩
theorem Cx.Ok.unwish {X : Cx} {E : Value -> Shared -> Prop} (ok : (X.wish E).Ok) : X.Ok :=
 ⟨ok.mod, ok.kind, ok.glob, ok.blt, ok.above, ok.inj, ok.has, ok.cab, ok.hd, ok.frames, ok.stk, ok.exf, ok.bs, ok.bsz, ok.noex, ok.exfs, ok.funs, ok.frf⟩
section
variable {X : Cx} {pins : List (Addr × Obj)} {σ : St} {H : Hp} {s : Shared} {E : Value -> Shared -> Prop}
theorem Inv.wish (I : Inv X pins σ H s) (E : Value -> Shared -> Prop) : Inv (X.wish E) pins σ H s := ⟨I.ok.wish E, I.os, I.bare, I.base, I.loc, I.cell, I.free, I.freeC, I.pin, I.hok, I.len⟩
theorem Inv.unwish (I : Inv (X.wish E) pins σ H s) : Inv X pins σ H s := ⟨I.ok.unwish, I.os, I.bare, I.base, I.loc, I.cell, I.free, I.freeC, I.pin, I.hok, I.len⟩
theorem SP.unwish {D : qR} {f : Flow} {s' : Shared} (h : SP (X.wish E) pins D f s') : SP X pins D f s' := by
 cases f with
 | next => obtain ⟨σ', H', I, q⟩ := h; exact ⟨σ', H', I.unwish, q⟩
 | brk => obtain ⟨σ', H', I, q⟩ := h; exact ⟨σ', H', I.unwish, q⟩
 | cont => obtain ⟨σ', H', I, q⟩ := h; exact ⟨σ', H', I.unwish, q⟩
 | ret u => obtain ⟨v, σ', H', I, r, q⟩ := h; exact ⟨v, σ', H', I.unwish, r, q⟩
theorem PSs.nox {st : List Stmt} {t : TS} (h : PSs X.nox st t) : PSs X st t := fun pins s σ H D I hw =>
 wpAny_mono (h pins s σ H D (I.wish _) hw) (fun _ _ q => q.unwish) fun _ _ z => False.elim z
end
section
variable {X : Cx} {st : Stmt} {kO : List Stmt} {t u : TS} {e : Expr} {te : TE} {pos : Pos}
noncomputable def YC : TS := fun D σ H => D.nx σ H
noncomputable def V8 (t u : TS) : TS := fun D σ H => t { D with nx := u D } σ H
theorem zF : PSs X [] YC := fun _ _ σ H _ I h => wpAny_execs_nil ⟨σ, H, I, h⟩
theorem zc (h1 : PS X st t) (h2 : PSs X kO u) : PSs X (st :: kO) (V8 t u) := by
 intro pins s σ H D I h
 refine wpAny_execs_cons (thn (h1 pins s σ H { D with nx := u D } I h) fun f s1 q => ?_)
 cases f with
 | next =>
  obtain ⟨σ', H', I', q⟩ := q
  exact h2 pins s1 σ' H' D I' q
 | ret v => exact q
 | brk => exact q
 | cont => exact q
theorem zi (h1 : PS X st t) : PSs X [st] t := by
 intro pins s σ H D I h
 refine wpAny_execs_cons (thn (h1 pins s σ H D I h) fun f s1 q => ?_)
 cases f with
 | next => exact wpAny_execs_nil q
 | ret v => exact q
 | brk => exact q
 | cont => exact q
theorem Inv.quiet {pins : List (Addr × Obj)} {σ : St} {H : Hp} {s : Shared} (I : Inv X pins σ H s) : interactive X.env = false := by simp [interactive, I.ok.kind]
noncomputable def QK (te : TE) : TS := fun D σ H => te σ H fun _ H1 => D.nx σ H1
theorem qp (he : PE X e te) (hs : swapsWith e none pos.line X.env = pure false := by rfl) : PS X (.Expr e pos) (QK te) := by
 intro pins s σ H D I h
 exact wpAny_Expr_any (thn (he pins s σ H _ I h) fun v s1 ⟨x, H1, I1, r1, q1⟩ => ⟨σ, H1, I1, q1⟩) I.quiet hs
noncomputable def BR (te : TE) : TS := fun D σ H => te σ H D.rt
theorem zx (he : PE X e te) : PS X (.Return (some e) pos) (BR te) := by
 intro pins s σ H D I h
 exact wpAny_Return_some (thn (he pins s σ H _ I h) fun v s1 ⟨x, H1, I1, r1, q1⟩ => ⟨x, σ, H1, I1, r1, q1⟩)
noncomputable def V9 (c : TT) (t u : TS) : TS := fun D σ H => c σ H fun b H1 => if b = true then t D σ H1 else u D σ H1
theorem qc {c : Expr} {a b : List Stmt} {tc : TT} (hc : PT X c tc) (ha : PSs X a t) (hb : PSs X b u) : PS X (.If c a b pos) (V9 tc t u) := by
 intro pins s σ H D I h
 refine wpAny_If (thn (hc pins s σ H _ I h) fun d s1 ⟨H1, I1, q1⟩ => ?_)
 cases d with
 | true => exact ha pins s1 σ H1 D I1 q1
 | false => exact hb pins s1 σ H1 D I1 q1
end
noncomputable abbrev TG := V -> St -> Hp -> (St -> Hp -> Prop) -> Prop
noncomputable abbrev TGs := List V -> St -> Hp -> (St -> Hp -> Prop) -> Prop
noncomputable def PG (X : Cx) (target : Expr) (t : TG) : Prop :=
 ∀ (pins : List (Addr × Obj)) (s : Shared) (σ : St) (H : Hp) (v : V) (u : Value) (Q : St -> Hp -> Prop), Inv X pins σ H s -> zt v u -> t v σ H Q ->
  wpAny (model X.prog X.w) X.A (assign target X.env u) (fun _ s' => ∃ σ' H', Inv X pins σ' H' s' /\ Q σ' H') X.xe s
noncomputable def PGs (X : Cx) (ts : List Expr) (t : TGs) : Prop :=
 ∀ (pins : List (Addr × Obj)) (s : Shared) (σ : St) (H : Hp) (vs : List V) (us : List Value) (Q : St -> Hp -> Prop), Inv X pins σ H s -> zr vs us -> t vs σ H Q ->
  wpAny (model X.prog X.w) X.A (assignInOrder ((assignEach ts X.env).map (·.2)) us) (fun _ s' => ∃ σ' H', Inv X pins σ' H' s' /\ Q σ' H') X.xe s
noncomputable abbrev X7 := V -> V -> V -> Hp -> (Hp -> Prop) -> Prop
noncomputable def BH (X : Cx) (t : X7) : Prop :=
 ∀ (pins : List (Addr × Obj)) (s : Shared) (σ : St) (H : Hp) (o i v : V) (ov iv u : Value) (Q : Hp -> Prop), Inv X pins σ H s -> zt o ov -> zt i iv -> zt v u -> t o i v H Q ->
  wpAny (model X.prog X.w) X.A (setItem ov iv u) (fun _ s' => ∃ H', Inv X pins σ H' s' /\ Q H') X.xe s
noncomputable abbrev TIp := V -> V -> Hp -> VK -> Prop
section
variable {X : Cx} {pos : Pos}
noncomputable def Zk (i : Nat) : TG := fun v σ H Q => Q (σ.set i (some v)) H
theorem zE {i : Nat} {x : Str} (hN : X.N.Nodup) (hi : X.N[i]? = some x) (hx : Loc X.env.scope x) (hf : X.fn x = true \/ X.env.scope.names.lookup x = some .local := by first | exact .inl rfl | exact .inr rfl | assumption) : PG X (.Name x pos) (Zk i) := by
 intro pins s σ H v u Q I r h
 exact wpAny_assign_Name (jE I hN hi hx r (fun s' I' => ⟨_, H, I', h⟩) hf)
noncomputable def Aw : TGs := fun vs σ H Q => vs = [] /\ Q σ H
noncomputable def Xl (t : TG) (u : TGs) : TGs := fun vs σ H Q => ∃ v r, vs = v :: r /\ t v σ H fun σ' H' => u r σ' H' Q
theorem kr : PGs X [] Aw := by
 intro pins s σ H vs us Q I r h
 obtain ⟨e, h⟩ := h
 subst e
 cases r
 exact assignInOrder_nil ⟨σ, H, I, h⟩
theorem ql {e : Expr} {es : List Expr} {t : TG} {u : TGs} (h1 : PG X e t) (h2 : PGs X es u)
  (hs : (assignEach (e :: es) X.env).map (·.2) = assign e X.env :: (assignEach es X.env).map (·.2) := by rfl) : PGs X (e :: es) (Xl t u) := by
 intro pins s σ H vs us Q I r h
 obtain ⟨v, vr, e1, h⟩ := h
 subst e1
 cases r with
 | cons r rr =>
  rw [hs]
  refine assignInOrder_cons (thn (h1 pins s σ H _ _ _ I r h) fun _ s1 ⟨σ1, H1, I1, q1⟩ => ?_)
  exact h2 pins s1 σ1 H1 _ _ Q I1 rr q1
noncomputable def Vb (K : PySem.W.Frag) (n : Nat) (t : TGs) : TG := fun v σ H Q => ∃ a xs, v = .ref a /\ SqT K H a xs /\ xs.length = n /\ t xs σ H Q
theorem Ax {es : List Expr} {k : Nat} {t : TGs} {n : Nat} (hc : X.calm = true) (h : PGs X es t)
  (hn : (assignEach es X.env).length = n := by rfl) (hst : (assignEach es X.env).findIdx? (·.1) = none := by rfl) : PG X (.Tuple es k pos) (Vb X.K n t) := by
 intro pins s σ H v u Q I r hw
 obtain ⟨a, xs, e1, hq, hl, hw⟩ := hw
 subst e1
 cases r
 obtain ⟨its, rv, ht, hz⟩ := I.tuple hq
 refine assign_Tuple_tuple (I.ok.hd hc) ht (by simp [hn, <- hl, rv.length]) hst fun h' hx => ?_
 have I1 : Inv X pins σ H { s with heap := h' } := I.kept (t' := s.toks) fun b o e => hx b o (Nat.ne_of_lt (Heap.lt_size e)) e
 exact h pins _ σ H xs _ Q I1 (by simpa using rv) hw
noncomputable def B4 (to ti : TE) (t : X7) : TG := fun v σ H Q => to σ H fun o H1 => ti σ H1 fun i H2 => t o i v H2 fun H3 => Q σ H3
theorem qV {o i : Expr} {to ti : TE} {t : X7} (ho : PE X o to) (hi : PE X i ti) (hs : BH X t)
  (ha : ∀ v, assign (.Subscript o i pos) X.env v = (do
   let ov <- holding [v] (eval o X.env)
   let iv <- holding [v, ov] (eval i X.env)
   standAt pos
   holding [v, ov, iv] (setItem ov iv v)
   release [v, ov, iv] []) := by intro _; rfl) : PG X (.Subscript o i pos) (B4 to ti t) := by
 intro pins s σ H v u Q I r h
 rw [ha]
 refine wpAny_bind (wpAny_holding (thn (ho pins s σ H _ I h) fun ov s1 ⟨x, H1, I1, r1, q1⟩ => ?_))
 refine wpAny_bind (wpAny_holding (thn (hi pins s1 σ H1 _ I1 q1) fun iv s2 ⟨y, H2, I2, r2, q2⟩ => ?_))
 refine wpAny_bind (wpAny_standAt (wpAny_bind (wpAny_holding (thn (hs pins s2 σ H2 x y v ov iv u _ I2 r1 r2 r q2) fun _ s3 ⟨H3, I3, q3⟩ => ?_))))
 exact wpAny_release ⟨σ, H3, I3, q3⟩
noncomputable def ZA (te : TE) (g : TG) : TS := fun D σ H => te σ H fun x H1 => g x σ H1 D.nx
theorem jc {tg e : Expr} {te : TE} {g : TG} (he : PE X e te) (hg : PG X tg g) (hs : swapsWithSole [tg] e pos.line X.env = pure false := by rfl) (hw : swappedStores [tg] e X.env = pure none := by rfl)
  (h1 : (assignEach [tg] X.env).map (·.2) = [assign tg X.env] := by rfl) : PS X (.Assign [tg] e pos) (ZA te g) := by
 intro pins s σ H D I h
 refine wpAny_Assign_stores (thn (he pins s σ H _ I h) fun v s1 ⟨x, H1, I1, r1, q1⟩ => ?_) hs hw
 rw [h1]
 exact thn (hg pins s1 σ H1 x v _ I1 r1 q1) fun _ s2 q => q
theorem zy {i : Nat} {x : Str} {e : Expr} {te : TE} {pos' : Pos} (hN : X.N.Nodup) (hi : X.N[i]? = some x) (hx : Loc X.env.scope x) (he : PE X e te) (hs : swapsWith e (some (.Name x pos')) pos.line X.env = pure false := by rfl) (hf : X.fn x = true \/ X.env.scope.names.lookup x = some .local := by first | exact .inl rfl | exact .inr rfl | assumption) :
  PS X (.Assign [.Name x pos'] e pos) (ZA te (Zk i)) := by
 intro pins s σ H D I h
 refine wpAny_Assign_Name (thn (he pins s σ H _ I h) fun v s1 ⟨y, H1, I1, r1, q1⟩ => ?_) hs
 exact jE I1 hN hi hx r1 (fun s2 I2 => ⟨_, H1, I2, q1⟩) hf
noncomputable def Ao (i j : Nat) (ta : TA) : TS := fun D σ H => ta σ H fun vs H1 => ∃ v w, vs = [v, w] /\ D.nx ((σ.set i (some v)).set j (some w)) H1
theorem XC {i j : Nat} {x y : Str} {a b : Expr} {ta : TA} {px py pt : Pos} {kt k2 pt2} (hc : X.calm = true) (hN : X.N.Nodup) (hi : X.N[i]? = some x) (hj : X.N[j]? = some y) (hij : i ≠ j)
  (hx : X.env.scope.names.lookup x = some .local) (hy : X.env.scope.names.lookup y = some .local) (ha : PA X [a, b] ta)
  (hw : swappedStores [.Tuple [.Name x px, .Name y py] kt pt] (.Tuple [a, b] k2 pt2) X.env = pure (some [x, y]))
  (hs : swapsWithSole [.Tuple [.Name x px, .Name y py] kt pt] (.Tuple [a, b] k2 pt2) pos.line X.env = pure false := by rfl) :
  PS X (.Assign [.Tuple [.Name x px, .Name y py] kt pt] (.Tuple [a, b] k2 pt2) pos) (Ao i j ta) := by
 intro pins s σ H D I h
 rw [exec_Assign_arm]
 refine wpAny_bind (wpAny_standAt ?_)
 rw [hs]
 refine wpAny_bind (wpAny_pure ?_)
 rw [if_neg (by decide)]
 refine wpAny_bind (Tuple_ (thn (ha _ pins s σ H _ I h) fun us s1 ⟨vs, H1, I1, r1, q1⟩ => ?_))
 obtain ⟨v, w, e1, q1⟩ := q1
 subst e1
 obtain ⟨u1, u2, rfl, rv, rw'⟩ : ∃ u1 u2, us = [u1, u2] /\ zt v u1 /\ zt w u2 := by
  cases r1 with
  | cons p q =>
   cases q with
   | cons p' q' =>
    cases q'
    exact ⟨_, _, rfl, p, p'⟩
 refine wpAny_newObj_type ?_ (by show 2 <= sizeLine; decide)
 have I2 : Inv X pins σ H1 { s1 with heap := s1.heap.push { cls := .type "tuple", data := .seq [u1, u2].toArray } } := I1.kept (t' := s1.toks) fun b o e => Heap.get?_push_of_some _ e
 rw [hw]
 refine wpAny_bind (wpAny_pure ?_)
 show wpAny (model X.prog X.w) X.A (do rule "assign.swapped-stores"; let items <- unpackItems (.ref s1.heap.objs.size) 2 none; assignInOrder [fun v => bindName X.env y v, fun v => bindName X.env x v] items.reverse; pure Flow.next) _ _ _
 refine wpAny_bind (wpAny_rule (wpAny_bind (unpackItems_tuple (items := #[u1, u2]) (I.ok.hd hc) (IsTup.new s1.heap _) fun h' hx' => ?_)))
 have I3 := I2.kept (h' := h') (t' := s1.toks) fun b o e => hx' b o (Nat.ne_of_lt (Heap.lt_size e)) e
 show wpAny _ _ (assignInOrder [fun v => bindName X.env y v, fun v => bindName X.env x v] [u2, u1] >>= fun _ => pure Flow.next) _ _ _
 refine wpAny_bind (assignInOrder_cons (wpAny_bindName (jE I3 hN hj (.inl hy) rw' (fun s2 I4 => ?_) (.inr hy))))
 refine assignInOrder_cons (wpAny_bindName (jE I4 hN hi (.inl hx) rv (fun s3 I5 => assignInOrder_nil (wpAny_pure ?_)) (.inr hx)))
 rw [List.set_comm _ _ (Ne.symm hij)] at I5
 exact ⟨_, H1, I5, q1⟩
end
section
variable {X : Cx} {pos : Pos}
noncomputable def KA (c : TT) (tb : TS) : TS := fun D σ H => ∃ W : Nat -> St -> Hp -> Prop, (∃ m, W m σ H) /\ ∀ m σ H, W m σ H ->
 c σ H fun b H1 => if b = true then ∃ N : St -> Hp -> Prop, (∀ σ' H', N σ' H' -> ∃ m', m' < m /\ W m' σ' H') /\ tb { D with nx := N, ct := N, bk := D.nx } σ H1 else D.nx σ H1
theorem YT {c : Expr} {body : List Stmt} {tc : TT} {tb : TS} (hp : PassesOwn (model X.prog X.w) X.A X.env X.xe) (hc : PT X c tc) (hb : PSs X body tb) : PS X (.While c body [] pos) (KA tc tb) := by
 intro pins s σ H D I h
 obtain ⟨W, ⟨m0, w0⟩, turn⟩ := h
 refine wpAny_While (codeAny_whileLoop (fun n s' => ∃ σ' H', Inv X pins σ' H' s' /\ W n σ' H') ?_ m0 ⟨σ, H, I, w0⟩)
 rintro n s1 ⟨σ1, H1, I1, w1⟩
 refine wpAny_passesOwn hp (thn (hc pins s1 σ1 H1 _ I1 (turn n σ1 H1 w1)) fun b s2 ⟨H2, I2, q2⟩ => ?_)
 cases b with
 | true =>
  obtain ⟨N, hN, q2⟩ := q2
  rw [if_pos rfl]
  refine wpAny_passesOwn hp (thn (hb pins s2 σ1 H2 _ I2 q2) fun f s3 q3 => ?_)
  cases f with
  | next =>
   obtain ⟨σ3, H3, I3, n3⟩ := q3
   obtain ⟨m', hm, w3⟩ := hN σ3 H3 n3
   exact ⟨m', hm, σ3, H3, I3, w3⟩
  | cont =>
   obtain ⟨σ3, H3, I3, n3⟩ := q3
   obtain ⟨m', hm, w3⟩ := hN σ3 H3 n3
   exact ⟨m', hm, σ3, H3, I3, w3⟩
  | brk => exact q3
  | ret v => exact q3
 | false =>
  rw [if_neg Bool.false_ne_true]
  exact wpAny_execs_nil ⟨σ1, H2, I2, q2⟩
end
structure It where
 go : Nat -> Hp -> Prop
 yld : Nat -> Hp -> V -> Hp -> Prop
 stop : Nat -> Hp -> Prop
noncomputable def xA (X : Cx) (pins : List (Addr × Obj)) (H : Hp) (b : Addr) : Prop :=
 H b = none /\ b ≠ X.env.locals /\ b ∉ X.fs /\ (b ∈ X.ex \/ X.s₀.heap.objs.size <= b) /\ (∀ x c, X.env.cells.lookup x = some c -> c ≠ b) /\ ∀ p ∈ X.pn ++ pins, p.1 ≠ b
theorem Inv.fpOk {X : Cx} {pins : List (Addr × Obj)} {σ : St} {H H' : Hp} {s : Shared} {b : Addr} (I : Inv X pins σ H s) (hb : s.heap.objs.size <= b) (hn : H' b = none) : xA X pins H' b := by
 refine ⟨hn, Nat.ne_of_gt (Nat.lt_of_lt_of_le I.lt hb), I.nofs hb, .inr (Nat.le_trans I.sz hb), fun x c e z => ?_, fun p hp z => ?_⟩
 ·obtain ⟨v, q⟩ := I.cell x c e
  exact absurd (Nat.lt_of_lt_of_le q.lt (by rw [z]; exact hb)) (Nat.lt_irrefl _)
 ·exact absurd (Nat.lt_of_lt_of_le (Heap.lt_size (I.pin p hp).1) (by rw [z]; exact hb)) (Nat.lt_irrefl _)
structure Qe (P : Program) (w : World) (K : PySem.W.Frag) (tg : Expr) (J : It) (fp : List Addr) (it : Addr) (tn : Nat -> Heap -> Prop) : Prop where
 mem : it ∈ fp
 obj : ∀ i h, tn i h -> ∀ b ∈ fp, ∃ o, h.get? b = some o /\ ∀ v, o.data ≠ .cell v
 keep : ∀ i h h', tn i h -> (∀ b ∈ fp, ∀ o, h.get? b = some o -> h'.get? b = some o) -> tn i h'
 item : ∀ (X : Cx), X.prog = P -> X.w = w -> X.K = K -> X.calm = true -> ∀ (i : Nat) (pins : List (Addr × Obj)) (s : Shared) (σ : St) (H : Hp) (E : Value -> Shared -> Prop), Inv X pins σ H s -> (∀ b ∈ fp, xA X pins H b) -> tn i s.heap -> J.go i H ->
  wpAny (model P w) X.A (pyNext (.ref it)) (fun r s1 => ∃ u, r = some u /\
   wpAny (model P w) X.A (letOwnedTupleGo tg (.ref it) u) (fun _ s2 => ∃ x H', Inv X pins σ H' s2 /\ zt x u /\ J.yld i H x H' /\ tn (i + 1) s2.heap /\ ∀ b ∈ fp, H' b = none) E s1) E s
 done : ∀ (X : Cx), X.prog = P -> X.w = w -> X.K = K -> X.calm = true -> ∀ (i : Nat) (pins : List (Addr × Obj)) (s : Shared) (σ : St) (H : Hp) (E : Value -> Shared -> Prop), Inv X pins σ H s -> (∀ b ∈ fp, xA X pins H b) -> tn i s.heap -> J.stop i H ->
  wpAny (model P w) X.A (pyNext (.ref it)) (fun r s1 => r = none /\ Inv X pins σ H s1) E s
 self : ∀ (A : Around) (i : Nat) (s : Shared) (Q : Value -> Shared -> Prop) (E : Value -> Shared -> Prop), tn i s.heap -> Q (.ref it) s -> wpAny (model P w) A (pyIter (.ref it)) Q E s
noncomputable abbrev TI := St -> Hp -> (It -> Hp -> Prop) -> Prop
noncomputable def PIE (X : Cx) (pins : List (Addr × Obj)) (σ : St) (tg : Expr) (R : It -> Hp -> Prop) (itv : Value) (s2 : Shared) : Prop :=
 ∃ (it : Addr) (fp : List Addr) (tn : Nat -> Heap -> Prop) (J : It) (H' : Hp), itv = .ref it /\ Inv X pins σ H' s2 /\ Qe X.prog X.w X.K tg J fp it tn /\ tn 0 s2.heap /\ (∀ b ∈ fp, xA X pins H' b) /\ R J H'
noncomputable def PI (X : Cx) (tg iter : Expr) (wi : TI) : Prop :=
 ∀ (pins : List (Addr × Obj)) (s : Shared) (σ : St) (H : Hp) (R : It -> Hp -> Prop), Inv X pins σ H s -> wi σ H R ->
  wpAny (model X.prog X.w) X.A (eval iter X.env) (fun v s1 => wpAny (model X.prog X.w) X.A (pyIter v) (PIE X pins σ tg R) X.xe s1) X.xe s
theorem XE {M : Model} {A : Around} {E : Value -> Shared -> Prop} {s : Shared} {tg : Expr} {it : Addr} {u : Value} {o : Obj} {n : String} {vs : Array Value} {Q : Unit -> Shared -> Prop} (ho : s.heap.get? it = some o) (hc : o.cls = .type n) (hd : o.data = .fields vs)
    (hn : ["enumerate", "zip", "dict_itemiterator", "dict_reverseitemiterator", "odict_iterator", "itertools.zip_longest", "itertools.pairwise"].contains n = false) (hQ : Q () s) : wpAny M A (letOwnedTupleGo tg (.ref it) u) Q E s := by
  unfold letOwnedTupleGo
  cases tg <;> first
    | exact wpAny_pure hQ
    | (cases u <;> first
        | exact wpAny_pure hQ
        | (refine wpAny_bind (wpAny_load ho ?_)
           rw [hc, hd]
           show wpAny M A (if (["enumerate", "zip", "dict_itemiterator", "dict_reverseitemiterator", "odict_iterator", "itertools.zip_longest", "itertools.pairwise"].contains n && vs[0]? == some (rawInt _)) = true then _ else _) Q E s
           rw [if_neg (by intro h; rw [hn, Bool.false_and] at h; cases h)]
           exact wpAny_pure hQ))
noncomputable def Itl (K : PySem.W.Frag) (a : Addr) : It :=
 ⟨fun i H => ∃ xs x, SqL K H a xs /\ xs[i]? = some x, fun i H x H' => H' = H /\ ∀ xs, SqL K H a xs -> xs[i]? = some x, fun i H => ∃ xs, SqL K H a xs /\ xs.length <= i⟩
noncomputable def Itt (K : PySem.W.Frag) (a : Addr) : It :=
 ⟨fun i H => ∃ xs x, SqT K H a xs /\ xs[i]? = some x, fun i H x H' => H' = H /\ ∀ xs, SqT K H a xs -> xs[i]? = some x, fun i H => ∃ xs, SqT K H a xs /\ xs.length <= i⟩
noncomputable def Itr (lo : Int) (n : Nat) : It := ⟨fun i _ => i < n, fun i H x H' => H' = H /\ x = .int (lo + i), fun i _ => n <= i⟩
theorem JK {P : Program} {w : World} {K : PySem.W.Frag} {tg : Expr} (a it : Addr) : Qe P w K tg (Itl K a) [it] it (fun i h => h.IsListIter it a i) where
 mem := by simp
 obj := fun i h st b hb => by
  have e : b = it := by simpa using hb
  subst e
  obtain ⟨o, e, c, d⟩ := st
  exact ⟨o, e, fun v z => by rw [d] at z; cases z⟩
 keep := fun i h h' st k => st.at fun o e => k it (by simp) o e
 item := by
  intro X hP hw hK hc i pins s σ H E I hf st hg
  subst hP hw hK
  obtain ⟨xs, x, hq, hx⟩ := hg
  obtain ⟨its, rv, p, hz⟩ := I.list hq
  obtain ⟨u, hu, ru⟩ := rv.get hx
  obtain ⟨f0, f1, f2, f3, f4, f5⟩ := hf it (by simp)
  refine wpAny_pyNext_list_item st p.isList (x := u) (by simpa using hu) fun h' st' sb => ?_
  have I1 : Inv X pins σ H { s with heap := h' } := I.turned (t' := s.toks) (fun b o hb e => (sb.2 b hb).trans e) f0 f1 f3 f4 f5
  obtain ⟨o, e, c, d⟩ := id st'
  exact ⟨u, rfl, XE (s := { s with heap := h' }) e c d (by decide) ⟨x, H, I1, ru, ⟨rfl, fun ys hy => by rw [I.list_inj hy hq]; exact hx⟩, st', fun b hb => (hf b hb).1⟩⟩
 done := by
  intro X hP hw hK hc i pins s σ H E I hf st hg
  subst hP hw hK
  obtain ⟨xs, hq, hx⟩ := hg
  obtain ⟨its, rv, p, hz⟩ := I.list hq
  obtain ⟨f0, f1, f2, f3, f4, f5⟩ := hf it (by simp)
  have hl := rv.length
  exact wpAny_pyNext_list_end (I.ok.hd hc) st p.isList (by simp; omega) fun h' eb => ⟨rfl, I.turned (t' := s.toks) (fun b o hb e => eb b o hb e) f0 f1 f3 f4 f5⟩
 self := fun _ _ _ _ _ st h => wpAny_pyIter_listiter st h
theorem Ql {P : Program} {w : World} {K : PySem.W.Frag} {tg : Expr} (a it : Addr) : Qe P w K tg (Itt K a) [it] it (fun i h => h.IsTupleIter it a i) where
 mem := by simp
 obj := fun i h st b hb => by
  have e : b = it := by simpa using hb
  subst e
  obtain ⟨o, e, c, d⟩ := st
  exact ⟨o, e, fun v z => by rw [d] at z; cases z⟩
 keep := fun i h h' st k => st.at fun o e => k it (by simp) o e
 item := by
  intro X hP hw hK hc i pins s σ H E I hf st hg
  subst hP hw hK
  obtain ⟨xs, x, hq, hx⟩ := hg
  obtain ⟨its, rv, p, hz⟩ := I.tuple hq
  obtain ⟨u, hu, ru⟩ := rv.get hx
  obtain ⟨f0, f1, f2, f3, f4, f5⟩ := hf it (by simp)
  refine wpAny_pyNext_tuple_item st (show s.heap.IsTuple a its.toArray from p) (x := u) (by simpa using hu) fun h' st' sb => ?_
  have I1 : Inv X pins σ H { s with heap := h' } := I.turned (t' := s.toks) (fun b o hb e => (sb.2 b hb).trans e) f0 f1 f3 f4 f5
  obtain ⟨o, e, c, d⟩ := id st'
  exact ⟨u, rfl, XE (s := { s with heap := h' }) e c d (by decide) ⟨x, H, I1, ru, ⟨rfl, fun ys hy => by rw [I.tuple_inj hy hq]; exact hx⟩, st', fun b hb => (hf b hb).1⟩⟩
 done := by
  intro X hP hw hK hc i pins s σ H E I hf st hg
  subst hP hw hK
  obtain ⟨xs, hq, hx⟩ := hg
  obtain ⟨its, rv, p, hz⟩ := I.tuple hq
  obtain ⟨f0, f1, f2, f3, f4, f5⟩ := hf it (by simp)
  have hl := rv.length
  exact wpAny_pyNext_tuple_end (I.ok.hd hc) st (show s.heap.IsTuple a its.toArray from p) (by simp; omega) fun h' eb => ⟨rfl, I.turned (t' := s.toks) (fun b o hb e => eb b o hb e) f0 f1 f3 f4 f5⟩
 self := fun _ _ _ _ _ st h => wpAny_pyIter_tupleiter st h
theorem ZE {P : Program} {w : World} {K : PySem.W.Frag} {tg : Expr} (it : Addr) (lo : Int) (n : Nat) : Qe P w K tg (Itr lo n) [it] it (fun i h => IsRangeIter h it (lo + (i : Nat) * 1) ((n : Int) - (i : Nat)) 1) where
 mem := by simp
 obj := fun i h st b hb => by
  have e : b = it := by simpa using hb
  subst e
  exact ⟨_, st, fun v z => by
   have z' : Data.fields _ = Data.cell v := z
   cases z'⟩
 keep := fun i h h' st k => k it (by simp) _ st
 item := by
  intro X hP hw hK hc i pins s σ H E I hf st hg
  subst hP hw hK
  obtain ⟨f0, f1, f2, f3, f4, f5⟩ := hf it (by simp)
  have W := Walks.range (prog := X.prog) (w := X.w) (I.ok.hd hc) it lo 1 n
  refine W.item i s _ _ hg st fun v h' tk hv st' kk => ?_
  obtain ⟨t, rfl⟩ := hv
  have I1 : Inv X pins σ H { s with heap := h', toks := tk } := I.turned (fun b o hb e => kk b o (by simpa using hb) e) f0 f1 f3 f4 f5
  refine ⟨_, rfl, XE (s := { s with heap := h', toks := tk }) (n := "range_iterator") st' rfl rfl (by decide) ⟨.int (lo + i), H, I1, ⟨t, ?_⟩, ⟨rfl, rfl⟩, st', fun b hb => (hf b hb).1⟩⟩
  rw [Int.mul_one]
 done := by
  intro X hP hw hK hc i pins s σ H E I hf st hg
  subst hP hw hK
  obtain ⟨f0, f1, f2, f3, f4, f5⟩ := hf it (by simp)
  exact wpAny_pyNext_range_end (I.ok.hd hc) st (by have : n <= i := hg; omega) fun h' eb => ⟨rfl, I.turned (t' := s.toks) (fun b o hb e => eb b o hb e) f0 f1 f3 f4 f5⟩
 self := fun _ _ _ _ _ st h => wpAny_pyIter_rangeiter st h
end L2
namespace L2
open PySem PySem.Spec PyProof.Rows
section
variable {X : Cx} {tg : Expr}
theorem wd {pins : List (Addr × Obj)} {σ : St} {H : Hp} {s : Shared} {R : It -> Hp -> Prop} {E : Value -> Shared -> Prop} {lo hi : Int} {t u v : Tok} {tk : Nat} (I : Inv X pins σ H s) (h1 : -(2 ^ 62) <= lo) (h2 : lo < 2 ^ 62) (h3 : -(2 ^ 62) <= hi) (h4 : hi < 2 ^ 62)
  (q : R (Itr lo (hi - lo).toNat) H) : wpAny (model X.prog X.w) X.A (pyIter (.ref s.heap.objs.size)) (PIE X pins σ tg R) E { s with heap := s.heap.push { cls := .type "range", data := .fields #[.int lo t, .int hi u, .int 1 v] }, toks := tk } := by
 refine wpAny_pyIter_range (IsRange.new ..) (small_one h1 h2 h3 h4) ?_
 have I1 : Inv X pins σ H { s with heap := s.heap.push { cls := .type "range", data := .fields #[.int lo t, .int hi u, .int 1 v] }, toks := tk } := I.kept fun b o e => Heap.get?_push_of_some _ e
 refine ⟨(s.heap.push { cls := .type "range", data := .fields #[.int lo t, .int hi u, .int 1 v] }).objs.size, [(s.heap.push { cls := .type "range", data := .fields #[.int lo t, .int hi u, .int 1 v] }).objs.size], _, _, H, rfl,
  I1.kept (t' := tk) fun b o e => Heap.get?_push_of_some _ e, ZE _ lo (hi - lo).toNat, ?_, fun b hb => ?_, q⟩
 ·have e1 : lo + ((0 : Nat) : Int) * 1 = lo := by simp
  have e2 : (((hi - lo).toNat : Nat) : Int) - ((0 : Nat) : Int) = Builtin.Range.rangeSize lo hi 1 := by rw [rangeSize_one]; split <;> omega
  show IsRangeIter _ _ (lo + ((0 : Nat) : Int) * 1) ((((hi - lo).toNat : Nat) : Int) - ((0 : Nat) : Int)) 1
  rw [e1, e2]
  exact Heap.get?_push_size _ rfl
 ·have e : b = (s.heap.push { cls := .type "range", data := .fields #[.int lo t, .int hi u, .int 1 v] }).objs.size := by simpa using hb
  subst e
  exact I1.fpOk (Nat.le_refl _) (I1.hok.fresh (Nat.le_refl _))
noncomputable def YI (ta : TA) : TI := fun σ H R => ta σ H fun vs H1 => ∃ j : Int, vs = [.int j] /\ -(2 ^ 62) <= j /\ j < 2 ^ 62 /\ R (Itr 0 j.toNat) H1
noncomputable def W3 (ta : TA) : TI := fun σ H R => ta σ H fun vs H1 => ∃ i j : Int, vs = [.int i, .int j] /\ (-(2 ^ 62) <= i /\ i < 2 ^ 62 /\ -(2 ^ 62) <= j /\ j < 2 ^ 62) /\ R (Itr i (j - i).toNat) H1
theorem qh {a : Expr} {ta : TA} {p pos : Pos} (hg : Gl X "range") (hm : X.mg "range" = none) (ha : PA X [a] ta) (hs : starEach [a] X.env = [(false, eval a X.env)] := by rfl) : PI X tg (.Call (.Name "range" p) [a] [] pos) (YI ta) := by
 intro pins s σ H R I h
 refine Call_ (qK I hg hm boot_range (PyProof.Rows.callWith_type1 (thn (ha pos pins s σ H _ I h) fun us s1 ⟨vs, H1, I1, r1, q1⟩ => ?_) hs rfl))
 obtain ⟨j, e, q1, q2, q⟩ := q1
 subst e
 cases r1 with
 | cons r rr =>
  cases rr
  obtain ⟨t, rfl⟩ := r
  exact call_range_1 (wd I1 (by omega) (by omega) q1 q2 (by simpa using q))
theorem yM {a b : Expr} {ta : TA} {p pos : Pos} (hg : Gl X "range") (hm : X.mg "range" = none) (ha : PA X [a, b] ta) (hs : starEach [a, b] X.env = [(false, eval a X.env), (false, eval b X.env)] := by rfl) (hs2 : starEach [b] X.env = [(false, eval b X.env)] := by rfl) :
  PI X tg (.Call (.Name "range" p) [a, b] [] pos) (W3 ta) := by
 intro pins s σ H R I h
 refine Call_ (qK I hg hm boot_range (PyProof.Rows.callWith_type1 (thn (ha pos pins s σ H _ I h) fun us s1 ⟨vs, H1, I1, r1, q1⟩ => ?_) (by rw [hs, hs2]) (by rw [hs2]; rfl)))
 obtain ⟨i, j, e, ⟨q1, q2, q3, q4⟩, q⟩ := q1
 subst e
 cases r1 with
 | cons r rr =>
  cases rr with
  | cons r' rr =>
   cases rr
   obtain ⟨t, rfl⟩ := r
   obtain ⟨t', rfl⟩ := r'
   exact call_range_2 (wd I1 q1 q2 q3 q4 q)
noncomputable def Vj (wi : TI) (g : TG) (tb : TS) : TS := fun D σ H => wi σ H fun J H1 => ∃ W : Nat -> Nat -> St -> Hp -> Prop, (∃ m, W 0 m σ H1) /\ ∀ i m σ H, W i m σ H ->
 (J.stop i H /\ D.nx σ H) \/ (J.go i H /\ ∃ N : St -> Hp -> Prop, (∀ σ' H', N σ' H' -> ∃ m', m' < m /\ W (i + 1) m' σ' H') /\ ∀ x H', J.yld i H x H' -> g x σ H' fun σ2 H2 => tb { D with nx := N, ct := N, bk := D.nx } σ2 H2)
noncomputable def ye (fp : List Addr) (h : Heap) : List (Addr × Obj) := fp.filterMap fun b => (h.get? b).map fun o => (b, o)
theorem jo {fp : List Addr} {h : Heap} {b : Addr} {o : Obj} (hb : b ∈ fp) (e : h.get? b = some o) : (b, o) ∈ ye fp h := List.mem_filterMap.mpr ⟨b, hb, by rw [e]; rfl⟩
theorem JQ {fp : List Addr} {h : Heap} {p : Addr × Obj} (hp : p ∈ ye fp h) : p.1 ∈ fp /\ h.get? p.1 = some p.2 := by
 obtain ⟨b, hb, e⟩ := List.mem_filterMap.mp hp
 cases q : h.get? b with
 | none => rw [q] at e; cases e
 | some o =>
  rw [q] at e
  have e' : (b, o) = p := Option.some.inj e
  subst e'
  exact ⟨hb, q⟩
theorem Inv.pinned {pins : List (Addr × Obj)} {σ : St} {H : Hp} {s : Shared} {fp : List Addr} (I : Inv X pins σ H s) (hf : ∀ b ∈ fp, xA X pins H b) (ho : ∀ b ∈ fp, ∃ o, s.heap.get? b = some o /\ ∀ v, o.data ≠ .cell v) : Inv X (pins ++ ye fp s.heap) σ H s :=
 I.pins_of fun p hp => (List.mem_append.mp hp).elim (fun z => I.pin p (List.mem_append_right _ z)) fun z => by
  obtain ⟨hb, e⟩ := JQ z
  obtain ⟨f0, f1, f2, _⟩ := hf p.1 hb
  obtain ⟨o, e', d⟩ := ho p.1 hb
  rw [e] at e'; cases e'
  exact ⟨e, f0, f1, f2, d⟩
theorem Inv.unpinned {pins pl : List (Addr × Obj)} {σ : St} {H : Hp} {s : Shared} (I : Inv X (pins ++ pl) σ H s) : Inv X pins σ H s := I.pins_of fun p hp => I.pin p (List.mem_append_right _ (List.mem_append_left _ hp))
theorem qA {iter : Expr} {body : List Stmt} {wi : TI} {g : TG} {tb : TS} {pos : Pos} (hp : PassesOwn (model X.prog X.w) X.A X.env X.xe) (hc : X.calm = true) (hi : PI X tg iter wi) (hg : PG X tg g) (hb : PSs X body tb)
  (hs : ∀ x, foldedSetIterable iter X.env x = pure x := by intro _; rfl) : PS X (.For tg iter body [] pos) (Vj wi g tb) := by
 intro pins s σ H D I h
 refine wpAny_For (thn (hi pins s σ H _ I h) fun v s1 h1 => thn h1 fun itv s2 h2 => ?_) hs
 obtain ⟨it, fp, tn, J, H2, e, I2, T, st2, f2, W, ⟨m0, w0⟩, turn⟩ := h2
 subst e
 have stat : ∀ {H' : Hp}, (∀ b ∈ fp, H' b = none) -> ∀ b ∈ fp, xA X pins H' b := fun hn b hb => ⟨hn b hb, (f2 b hb).2⟩
 refine codeAny_forLoop_any (fun n s' => ∃ i σ' H', Inv X pins σ' H' s' /\ tn i s'.heap /\ (∀ b ∈ fp, H' b = none) /\ W i n σ' H') ?_ m0 ⟨0, σ, H2, I2, st2, fun b hb => (f2 b hb).1, w0⟩
 rintro n s3 ⟨i, σ3, H3, I3, st3, fr3, w3⟩
 rcases turn i n σ3 H3 w3 with ⟨stop, qn⟩ | ⟨go, N, hN, step⟩
 ·refine wpAny_passesOwn hp (thn (T.done X rfl rfl rfl hc i pins s3 σ3 H3 X.xe I3 (stat fr3) st3 stop) fun r s4 ⟨hr, I4⟩ => ?_)
  subst hr
  exact wpAny_execs_nil ⟨σ3, H3, I4, qn⟩
 ·refine wpAny_passesOwn hp (thn (T.item X rfl rfl rfl hc i pins s3 σ3 H3 X.xe I3 (stat fr3) st3 go) fun r s4 ⟨u, hr, h4⟩ => ?_)
  subst hr
  refine wpAny_passesOwn hp (thn h4 fun _ s5 ⟨x, H5, I5, r5, y5, st5, fr5⟩ => ?_)
  have I5' := I5.pinned (stat fr5) (T.obj _ _ st5)
  refine wpAny_passesOwn hp (thn (hg _ s5 σ3 H5 x u _ I5' r5 (step x H5 y5)) fun _ s6 ⟨σ6, H6, I6, q6⟩ => ?_)
  refine wpAny_passesOwn hp (thn (hb _ s6 σ6 H6 _ I6 q6) fun f s7 q7 => ?_)
  have again : ∀ {σ7 : St} {H7 : Hp}, Inv X (pins ++ ye fp s5.heap) σ7 H7 s7 -> N σ7 H7 -> ∃ m, m < n /\ ∃ i σ' H', Inv X pins σ' H' s7 /\ tn i s7.heap /\ (∀ b ∈ fp, H' b = none) /\ W i m σ' H' := fun {σ7 H7} I7 n7 => by
   obtain ⟨m', hm, w7⟩ := hN σ7 H7 n7
   refine ⟨m', hm, i + 1, σ7, H7, I7.unpinned, T.keep _ _ _ st5 fun b hb o e => (I7.pin (b, o) (List.mem_append_right _ (List.mem_append_right _ (jo hb e)))).1, fun b hb => ?_, w7⟩
   obtain ⟨o, e, d⟩ := T.obj _ _ st5 b hb
   exact (I7.pin (b, o) (List.mem_append_right _ (List.mem_append_right _ (jo hb e)))).2.1
  cases f with
  | next => obtain ⟨σ7, H7, I7, n7⟩ := q7; exact again I7 n7
  | cont => obtain ⟨σ7, H7, I7, n7⟩ := q7; exact again I7 n7
  | brk => obtain ⟨σ7, H7, I7, q7⟩ := q7; exact ⟨σ7, H7, I7.unpinned, q7⟩
  | ret v => obtain ⟨x7, σ7, H7, I7, r7, q7⟩ := q7; exact ⟨x7, σ7, H7, I7.unpinned, r7, q7⟩
end
theorem J3 {lo : Int} {n : Nat} {g : TG} {tb : TS} {D : qR} {σ : St} {H : Hp} (Pv : Nat -> St -> Hp -> Prop) (h0 : Pv 0 σ H)
  (hs : ∀ i σ H, i < n -> Pv i σ H -> g (.int (lo + i)) σ H fun σ2 H2 => tb { D with nx := Pv (i + 1), ct := Pv (i + 1), bk := D.nx } σ2 H2) (hd : ∀ σ H, Pv n σ H -> D.nx σ H) :
  ∃ W : Nat -> Nat -> St -> Hp -> Prop, (∃ m, W 0 m σ H) /\ ∀ i m σ H, W i m σ H ->
   ((Itr lo n).stop i H /\ D.nx σ H) \/ ((Itr lo n).go i H /\ ∃ N : St -> Hp -> Prop, (∀ σ' H', N σ' H' -> ∃ m', m' < m /\ W (i + 1) m' σ' H') /\ ∀ x H', (Itr lo n).yld i H x H' -> g x σ H' fun σ2 H2 => tb { D with nx := N, ct := N, bk := D.nx } σ2 H2) := by
 refine ⟨fun i m σ H => m = n - i /\ i <= n /\ Pv i σ H, ⟨n, by simp, Nat.zero_le _, h0⟩, ?_⟩
 rintro i m σ H ⟨rfl, hi, p⟩
 by_cases hlt : i < n
 ·refine .inr ⟨hlt, Pv (i + 1), fun σ' H' p' => ⟨n - (i + 1), by omega, rfl, hlt, p'⟩, fun x H' y => ?_⟩
  obtain ⟨e, y⟩ := y
  subst e y
  exact hs i σ _ hlt p
 ·have e : i = n := by omega
  subst e
  exact .inl ⟨Nat.le_refl _, hd σ H p⟩
theorem YH {c : TT} {tb : TS} {D : qR} {σ : St} {H : Hp} (Pv : St -> Hp -> Prop) (μ : St -> Hp -> Nat) (h0 : Pv σ H)
  (hs : ∀ σ H, Pv σ H -> c σ H fun b H1 => if b = true then tb { D with nx := fun σ' H' => Pv σ' H' /\ μ σ' H' < μ σ H, ct := fun σ' H' => Pv σ' H' /\ μ σ' H' < μ σ H, bk := D.nx } σ H1 else D.nx σ H1)
  (mono : ∀ σ H Q Q', (∀ b H1, Q b H1 -> Q' b H1) -> c σ H Q -> c σ H Q') : KA c tb D σ H := by
 refine ⟨fun m σ H => m = μ σ H /\ Pv σ H, ⟨_, rfl, h0⟩, ?_⟩
 rintro m σ H ⟨rfl, p⟩
 refine mono σ H _ _ (fun b H1 q => ?_) (hs σ H p)
 cases b with
 | true => exact ⟨_, fun σ' H' ⟨p', l⟩ => ⟨_, l, rfl, p'⟩, q⟩
 | false => exact q
end L2
namespace L2
open PySem PySem.Spec PyProof.Rows
noncomputable abbrev R2 := V -> V -> Hp -> VK -> Prop
noncomputable def OpR (X : Cx) (f : Value -> Value -> Sem Value) (r : R2) : Prop :=
 ∀ (pins : List (Addr × Obj)) (s : Shared) (σ : St) (H : Hp) (x y : V) (v u : Value) (Q : VK), Inv X pins σ H s -> zt x v -> zt y u -> r x y H Q ->
  wpAny (model X.prog X.w) X.A (f v u) (EP X pins σ Q) X.xe s
noncomputable def UnR (X : Cx) (f : Value -> Sem Value) (r : V -> Hp -> VK -> Prop) : Prop :=
 ∀ (pins : List (Addr × Obj)) (s : Shared) (σ : St) (H : Hp) (x : V) (v : Value) (Q : VK), Inv X pins σ H s -> zt x v -> r x H Q ->
  wpAny (model X.prog X.w) X.A (f v) (EP X pins σ Q) X.xe s
noncomputable def qk (X : Cx) (f : Value) (r : List V -> Hp -> VK -> Prop) : Prop :=
 ∀ (pins : List (Addr × Obj)) (s : Shared) (σ : St) (H : Hp) (xs : List V) (us : List Value) (Q : VK), Inv X pins σ H s -> zr xs us -> r xs H Q ->
  wpAny (model X.prog X.w) X.A (call f us) (EP X pins σ Q) X.xe s
noncomputable def tOp (r : R2) (ta tb : TE) : TE := fun σ H Q => ta σ H fun x H1 => tb σ H1 fun y H2 => r x y H2 Q
noncomputable def tUn (r : V -> Hp -> VK -> Prop) (ta : TE) : TE := fun σ H Q => ta σ H fun x H1 => r x H1 Q
noncomputable def rI (C : Int -> Int -> Prop) (g : Int -> Int -> V) : R2 := fun x y H Q => ∃ i j, x = .int i /\ y = .int j /\ C i j /\ Q (g i j) H
noncomputable def rI0 (g : Int -> Int -> V) : R2 := fun x y H Q => ∃ i j, x = .int i /\ y = .int j /\ Q (g i j) H
noncomputable def rU (g : Int -> V) : V -> Hp -> VK -> Prop := fun x H Q => ∃ i, x = .int i /\ Q (g i) H
section
variable {X : Cx} {a b c : Expr} {ta tb tc : TE} {pos : Pos}
theorem Bo (ha : PE X a ta) (hb : PE X b tb) {pins : List (Addr × Obj)} {s : Shared} {σ : St} {H : Hp} {R : V -> V -> Hp -> Prop} (I : Inv X pins σ H s)
  (h : ta σ H fun x H1 => tb σ H1 fun y H2 => R x y H2) {Q : Value -> Shared -> Prop} {f : Value -> Value -> Sem Value}
  (hf : ∀ v u s2 x y H2, Inv X pins σ H2 s2 -> zt x v -> zt y u -> R x y H2 -> wpAny (model X.prog X.w) X.A (f v u) Q X.xe s2) :
  wpAny (model X.prog X.w) X.A (eval a X.env) (fun v s₁ => wpAny (model X.prog X.w) X.A (eval b X.env) (fun u s₂ => wpAny (model X.prog X.w) X.A (f v u) Q X.xe s₂) X.xe s₁) X.xe s := by
 refine thn (ha pins s σ H _ I h) fun v s1 ⟨x, H1, I1, r1, q1⟩ => ?_
 refine thn (hb pins s1 σ H1 _ I1 q1) fun u s2 ⟨y, H2, I2, r2, q2⟩ => ?_
 exact hf v u s2 x y H2 I2 r1 r2 q2
theorem zm {op : Operator} {r : R2} (ho : OpR X (binaryOp op) r) (ha : PE X a ta) (hb : PE X b tb) : PE X (.BinOp a op b pos) (tOp r ta tb) := by
 intro pins s σ H Q I h
 exact wpAny_BinOp (Bo ha hb I h fun v u s2 x y H2 I2 rx ry q => ho pins s2 σ H2 x y v u Q I2 rx ry q)
theorem Xf {op : UnaryOp} {r : V -> Hp -> VK -> Prop} (ho : UnR X (unaryOp op) r) (ha : PE X a ta) : PE X (.UnaryOp op a pos) (tUn r ta) := by
 intro pins s σ H Q I h
 exact UnaryOp_ (thn (ha pins s σ H _ I h) fun v s1 ⟨x, H1, I1, r1, q1⟩ => ho pins s1 σ H1 x v Q I1 r1 q1)
theorem opI {f : Value -> Value -> Sem Value} {C : Int -> Int -> Prop} {g : Int -> Int -> Int}
  (rule : ∀ (i j : Int) (t u : Tok) (s : Shared) (Q : Value -> Shared -> Prop) (E : Value -> Shared -> Prop), C i j -> Q (.int (g i j) s.toks) { s with toks := s.toks + 1 } -> wpAny (model X.prog X.w) X.A (f (.int i t) (.int j u)) Q E s) :
  OpR X f (rI C fun i j => .int (g i j)) := by
 intro pins s σ H x y v u Q I rx ry h
 obtain ⟨i, j, rfl, rfl, hc, q⟩ := h
 obtain ⟨t, rfl⟩ := rx
 obtain ⟨t', rfl⟩ := ry
 exact rule i j t t' s _ _ hc ⟨.int (g i j), H, I.tok _, ⟨_, rfl⟩, q⟩
theorem El {f : Value -> Value -> Sem Value} {g : Int -> Int -> Int}
  (rule : ∀ (i j : Int) (t u : Tok) (s : Shared) (Q : Value -> Shared -> Prop) (E : Value -> Shared -> Prop), Q (.int (g i j) s.toks) { s with toks := s.toks + 1 } -> wpAny (model X.prog X.w) X.A (f (.int i t) (.int j u)) Q E s) :
  OpR X f (rI0 fun i j => .int (g i j)) := by
 intro pins s σ H x y v u Q I rx ry h
 obtain ⟨i, j, rfl, rfl, q⟩ := h
 obtain ⟨t, rfl⟩ := rx
 obtain ⟨t', rfl⟩ := ry
 exact rule i j t t' s _ _ ⟨.int (g i j), H, I.tok _, ⟨_, rfl⟩, q⟩
theorem Vi {f : Value -> Value -> Sem Value} {g : Int -> Int -> Bool}
  (rule : ∀ (i j : Int) (t u : Tok) (s : Shared) (Q : Value -> Shared -> Prop) (E : Value -> Shared -> Prop), Q (.bool (g i j)) s -> wpAny (model X.prog X.w) X.A (f (.int i t) (.int j u)) Q E s) :
  OpR X f (rI0 fun i j => .bl (g i j)) := by
 intro pins s σ H x y v u Q I rx ry h
 obtain ⟨i, j, rfl, rfl, q⟩ := h
 obtain ⟨t, rfl⟩ := rx
 obtain ⟨t', rfl⟩ := ry
 exact rule i j t t' s _ _ ⟨.bl (g i j), H, I, rfl, q⟩
noncomputable def Dz (i j : Int) : Prop := 0 < j /\ j < 1073741824
noncomputable def EN (i j : Int) : Prop := 0 <= j /\ j <= 1000000 /\ i.natAbs < 2 ^ 64
noncomputable def Yx (i j : Int) : Prop := (-(2 ^ 64) < i /\ i < 2 ^ 64) \/ (-(2 ^ 64) < j /\ j < 2 ^ 64)
theorem Yx.ok {i j : Int} (h : Yx i j) : IntMulOk i j := by
 rcases h with ⟨h1, h2⟩ | ⟨h1, h2⟩
 ·exact .of_left (intBits_le_64 h1 h2)
 ·exact .of_right (intBits_le_64 h1 h2)
theorem zK : OpR X (binaryOp .Add) (rI0 fun i j => .int (i + j)) := El fun _ _ _ _ _ _ _ q => add_int q
theorem jA : OpR X (binaryOp .Sub) (rI0 fun i j => .int (i - j)) := El fun _ _ _ _ _ _ _ q => sub_int q
theorem qP : OpR X (binaryOp .Mult) (rI Yx fun i j => .int (i * j)) := opI fun _ _ _ _ _ _ _ hc q => mul_int q hc.ok
theorem kc : OpR X (binaryOp .FloorDiv) (rI Dz fun i j => .int (i / j)) := opI fun i j _ _ _ _ _ hc q => by
 have h1 : (0 : Int) < j := hc.1
 have h2 : j < 1073741824 := hc.2
 exact floordiv_int (by omega) (by rw [Int.fdiv_eq_ediv_of_nonneg i (by omega)]; exact q) (.inl (PyProof.noPylong_small (by omega)))
theorem qt : OpR X (binaryOp .Mod) (rI (fun _ j => 0 < j) fun i j => .int (i % j)) := opI fun i j _ _ _ _ _ hc q => by
 have h1 : (0 : Int) < j := hc
 exact mod_int' (by omega) (by rw [Int.fmod_eq_emod_of_nonneg i (by omega)]; exact q)
theorem YZ : OpR X (binaryOp .Pow) (rI EN fun i j => .int (i ^ j.toNat)) := opI fun _ _ _ _ _ _ _ hc q => pow_int_small hc.1 hc.2.1 hc.2.2 q
theorem unI {f : Value -> Sem Value} {g : Int -> Int}
  (rule : ∀ (i : Int) (t : Tok) (s : Shared) (Q : Value -> Shared -> Prop) (E : Value -> Shared -> Prop), Q (.int (g i) s.toks) { s with toks := s.toks + 1 } -> wpAny (model X.prog X.w) X.A (f (.int i t)) Q E s) :
  UnR X f (rU fun i => .int (g i)) := by
 intro pins s σ H x v Q I rx h
 obtain ⟨i, rfl, q⟩ := h
 obtain ⟨t, rfl⟩ := rx
 exact rule i t s _ _ ⟨.int (g i), H, I.tok _, ⟨_, rfl⟩, q⟩
theorem ZU : UnR X (unaryOp .USub) (rU fun i => .int (-i)) := unI fun _ _ _ _ _ q => neg_int q
end
noncomputable def EG : V -> V -> Bool
 | .non, .non => true | .non, .int _ => true | .int _, .non => true | .non, .bl _ => true | .bl _, .non => true | .non, .str _ => true | .str _, .non => true
 | .int _, .int _ => true | .bl _, .bl _ => true | .str _, .str _ => true | .byt _, .byt _ => true
 | .int _, .str _ => true | .str _, .int _ => true | .bl _, .str _ => true | .str _, .bl _ => true
 | _, _ => false
noncomputable def rEq : R2 := fun x y H Q => EG x y = true /\ Q (.bl (decide (x = y))) H
theorem Vp {i j : Int} : decide (V.int i = V.int j) = (i == j) := by
 rw [Bool.eq_iff_iff]
 simp
theorem As {i j : Bool} : decide (V.bl i = V.bl j) = (i == j) := by
 rw [Bool.eq_iff_iff]
 simp
theorem V5 {i j : Str} : decide (V.str i = V.str j) = (i == j) := by
 rw [Bool.eq_iff_iff]
 simp
theorem Vl {i j : Array UInt8} : decide (V.byt i = V.byt j) = (i.toList == j.toList) := by
 rw [Bool.eq_iff_iff]
 cases i
 cases j
 simp
section
variable {X : Cx} {a b c : Expr} {ta tb tc : TE} {pos : Pos}
theorem qm {pins : List (Addr × Obj)} {σ : St} {H : Hp} {s : Shared} {Q : VK} {k k' : Bool} (I : Inv X pins σ H s) (q : Q (.bl k) H) (e : k = k') : EP X pins σ Q (.bool k') s := by
 subst e
 exact ⟨.bl k, H, I, rfl, q⟩
theorem kI : OpR X (compareOp .Eq) rEq := by
 intro pins s σ H x y v u Q I rx ry h
 obtain ⟨hs, q⟩ := h
 cases x with
 | non =>
  cases rx
  cases y with
  | non => cases ry; exact PySem.EqNone.eq_none_none (qm I q (by simp))
  | bl j => cases ry; exact PySem.EqNone.eq_none_bool (qm I q (by simp))
  | int j => obtain ⟨t', rfl⟩ := ry; exact PySem.EqNone.eq_none_int (qm I q (by simp))
  | str j => obtain ⟨t', rfl⟩ := ry; exact PySem.EqNone.eq_none_str (qm I q (by simp))
  | _ => exact absurd (show false = true from hs) Bool.false_ne_true
 | bl i =>
  cases rx
  cases y with
  | non => cases ry; exact PySem.EqNone.eq_bool_none (qm I q (by simp))
  | bl j => cases ry; exact eq_bool (qm I q As)
  | str j => obtain ⟨t', rfl⟩ := ry; exact PySem.EqMixed.eq_bool_str (qm I q (by simp))
  | _ => exact absurd (show false = true from hs) Bool.false_ne_true
 | int i =>
  obtain ⟨t, rfl⟩ := rx
  cases y with
  | non => cases ry; exact PySem.EqNone.eq_int_none (qm I q (by simp))
  | int j => obtain ⟨t', rfl⟩ := ry; exact eq_int (qm I q Vp)
  | str j => obtain ⟨t', rfl⟩ := ry; exact PySem.EqMixed.eq_int_str (qm I q (by simp))
  | _ => exact absurd (show false = true from hs) Bool.false_ne_true
 | str i =>
  obtain ⟨t, rfl⟩ := rx
  cases y with
  | non => cases ry; exact PySem.EqNone.eq_str_none (qm I q (by simp))
  | bl j => cases ry; exact PySem.EqMixed.eq_str_bool (qm I q (by simp))
  | int j => obtain ⟨t', rfl⟩ := ry; exact PySem.EqMixed.eq_str_int (qm I q (by simp))
  | str j => obtain ⟨t', rfl⟩ := ry; exact eq_str (qm I q V5)
  | _ => exact absurd (show false = true from hs) Bool.false_ne_true
 | byt i =>
  obtain ⟨t, rfl⟩ := rx
  cases y with
  | byt j => obtain ⟨t', rfl⟩ := ry; exact PySem.W.eq_bytes (qm I q Vl)
  | _ => exact absurd (show false = true from hs) Bool.false_ne_true
 | _ => cases y <;> exact absurd (show false = true from hs) Bool.false_ne_true
theorem Zi : OpR X (compareOp .Lt) (rI0 fun i j => .bl (decide (i < j))) := Vi fun _ _ _ _ _ _ _ q => lt_int q
theorem Ek : OpR X (compareOp .LtE) (rI0 fun i j => .bl (decide (i <= j))) := Vi fun _ _ _ _ _ _ _ q => le_int q
theorem WM : OpR X (compareOp .Gt) (rI0 fun i j => .bl (decide (j < i))) := Vi fun _ _ _ _ _ _ _ q => gt_int q
theorem Eg : OpR X (compareOp .GtE) (rI0 fun i j => .bl (decide (j <= i))) := Vi fun _ _ _ _ _ _ _ q => ge_int q
theorem zJ (b : Expr) {op : CmpOp} (h : op ≠ .In := by decide) (h2 : op ≠ .NotIn := by decide) : behindInMarks op b = false := by
 have e1 : (op == CmpOp.In) = false := by cases op <;> first | rfl | exact absurd rfl h
 have e2 : (op == CmpOp.NotIn) = false := by cases op <;> first | rfl | exact absurd rfl h2
 cases b <;> simp [behindInMarks, e1, e2]
theorem j5 {op : CmpOp} {r : R2} (ho : OpR X (compareOp op) r) (ha : PE X a ta) (hb : PE X b tb) (hm : behindInMarks op b = false) : PE X (.Compare a [op] [b] pos) (tOp r ta tb) := by
 intro pins s σ H Q I h
 exact wpAny_Compare1 (Bo ha hb I h fun v u s2 x y H2 I2 rx ry q => ho pins s2 σ H2 x y v u Q I2 rx ry q) hm
noncomputable def X1 (t : TE) : TT := fun σ H Q => t σ H fun x H' => ∃ k, x = .bl k /\ Q k H'
theorem zI {op : CmpOp} {r : R2} (ho : OpR X (compareOp op) r) (ha : PE X a ta) (hb : PE X b tb) (hm : behindInMarks op b = false) : PT X (.Compare a [op] [b] pos) (X1 (tOp r ta tb)) := by
 intro pins s σ H Q I h
 refine wpAny_isTrue_Compare1 (thn (ha pins s σ H _ I h) fun v s1 ⟨x, H1, I1, r1, q1⟩ => thn (hb pins s1 σ H1 _ I1 q1) fun u s2 ⟨y, H2, I2, r2, q2⟩ =>
  thn (ho pins s2 σ H2 x y v u _ I2 r1 r2 q2) fun c s3 ⟨z, H3, I3, r3, k, e, q3⟩ => ?_) hm
 subst e
 cases r3
 exact wpAny_truthy_bool ⟨H3, I3, q3⟩
noncomputable def Xw (r r' : R2) (ta tb tc : TE) : TE := fun σ H Q => ta σ H fun x H1 => tb σ H1 fun y H2 => r x y H2 fun z H3 => ∃ k, z = .bl k /\
 (if k = true then tc σ H3 fun w' H4 => r' y w' H4 Q else Q (.bl false) H3)
theorem K9 {op op' : CmpOp} {r r' : R2} (ho : OpR X (compareOp op) r) (ho' : OpR X (compareOp op') r') (ha : PE X a ta) (hb : PE X b tb) (hc : PE X c tc)
  (hm : lastMarks [op, op'] [b, c] = false := by with_unfolding_all rfl) : PE X (.Compare a [op, op'] [b, c] pos) (Xw r r' ta tb tc) := by
 intro pins s σ H Q I h
 refine Compare_chain (thn (ha pins s σ H _ I h) fun v s1 ⟨x, H1, I1, r1, q1⟩ => chain_link (thn (hb pins s1 σ H1 _ I1 q1) fun u s2 ⟨y, H2, I2, r2, q2⟩ =>
  thn (ho pins s2 σ H2 x y v u _ I2 r1 r2 q2) fun d s3 ⟨z, H3, I3, r3, k, e, q3⟩ => ?_)) hm
 subst e
 cases r3
 refine wpAny_truthy_bool ?_
 cases k with
 | false => exact ite_ff ⟨.bl false, H3, I3, rfl, q3⟩
 | true => exact ite_tt (chain_last (thn (hc pins s3 σ H3 _ I3 q3) fun w' s4 ⟨z', H4, I4, r4, q4⟩ => ho' pins s4 σ H4 y z' u w' Q I4 r2 r4 q4))
theorem xO : (sizeLine : Nat) < 2 ^ 63 := by rw [sizeLine_eq]; decide
theorem jp {x : V} {us : List Value} (r : zr [x] us) : ∃ u, us = [u] /\ zt x u := by
 cases r with
 | cons r1 r2 => cases r2; exact ⟨_, rfl, r1⟩
theorem yH {x y : V} {us : List Value} (r : zr [x, y] us) : ∃ u w', us = [u, w'] /\ zt x u /\ zt y w' := by
 cases r with
 | cons r1 r2 =>
  cases r2 with
  | cons r3 r4 => cases r4; exact ⟨_, _, rfl, r1, r3⟩
theorem Zx : qk X (.builtin "abs") (fun xs H Q => ∃ i, xs = [.int i] /\ Q (.int (if i < 0 then -i else i)) H) := by
 intro pins s σ H xs us Q I r h
 obtain ⟨i, rfl, q⟩ := h
 obtain ⟨u, rfl, t, rfl⟩ := jp r
 exact call_abs_int fun u tk => ⟨.int (if i < 0 then -i else i), H, I.tok _, ⟨_, rfl⟩, q⟩
theorem JI (hc : X.calm = true) : qk X (.builtin "max") (fun xs H Q => ∃ i j, xs = [.int i, .int j] /\ Q (.int (if j > i then j else i)) H) := by
 intro pins s σ H xs us Q I r h
 obtain ⟨i, j, rfl, q⟩ := h
 obtain ⟨u, w', rfl, ⟨t, rfl⟩, ⟨t', rfl⟩⟩ := yH r
 refine max_two_ints (I.ok.hd hc) fun h' tk k => ⟨_, H, I.kept k, ?_, q⟩
 by_cases hj : j > i
 ·rw [if_pos hj, if_pos hj]; exact ⟨_, rfl⟩
 ·rw [if_neg hj, if_neg hj]; exact ⟨_, rfl⟩
theorem Kb (hc : X.calm = true) : qk X (.builtin "min") (fun xs H Q => ∃ i j, xs = [.int i, .int j] /\ Q (.int (if j < i then j else i)) H) := by
 intro pins s σ H xs us Q I r h
 obtain ⟨i, j, rfl, q⟩ := h
 obtain ⟨u, w', rfl, ⟨t, rfl⟩, ⟨t', rfl⟩⟩ := yH r
 refine min_two_ints (I.ok.hd hc) fun h' tk k => ⟨_, H, I.kept k, ?_, q⟩
 by_cases hj : j < i
 ·rw [if_pos hj, if_pos hj]; exact ⟨_, rfl⟩
 ·rw [if_neg hj, if_neg hj]; exact ⟨_, rfl⟩
theorem Jv : qk X (.type "int") (fun xs H Q => (∃ i, xs = [.int i] /\ Q (.int i) H) \/ ∃ k, xs = [.bl k] /\ Q (.int (if k then 1 else 0)) H) := by
 intro pins s σ H xs us Q I r h
 rcases h with ⟨i, rfl, q⟩ | ⟨k, rfl, q⟩
 ·obtain ⟨u, rfl, t, rfl⟩ := jp r
  exact call_int_int ⟨.int i, H, I, ⟨_, rfl⟩, q⟩
 ·obtain ⟨u, rfl, r1⟩ := jp r
  cases r1
  exact call_int_bool ⟨.int (if k then 1 else 0), H, I.tok _, ⟨_, rfl⟩, q⟩
theorem wz : qk X (.builtin "divmod") (fun xs H Q => ∃ i j, xs = [.int i, .int j] /\ Dz i j /\ ∀ p, H p = none -> Q (.ref p) (upd H p (.tup [.int (i / j), .int (i % j)]))) := by
 intro pins s σ H xs us Q I r h
 obtain ⟨i, j, rfl, ⟨h1, h2⟩, q⟩ := h
 obtain ⟨u, w', rfl, ⟨t, rfl⟩, ⟨t', rfl⟩⟩ := yH r
 refine divmod_int (by omega) ?_ (.inl (PyProof.noPylong_small (by omega)))
 rw [Int.fdiv_eq_ediv_of_nonneg i (by omega), Int.fmod_eq_emod_of_nonneg i (by omega)]
 have hn : H s.heap.objs.size = none := I.hok.fresh (Nat.le_refl _)
 refine ⟨.ref s.heap.objs.size, _, ?_, rfl, q _ hn⟩
 refine I.laid (fun b o e => Heap.get?_push_of_some _ e) (Nat.le_refl _) ⟨by simp only [List.length_cons, List.length_nil]; rw [sizeLine_eq]; decide, [.int (i / j) s.toks, .int (i % j) (s.toks + 1)], .cons ⟨_, rfl⟩ (.cons ⟨_, rfl⟩ .nil), ?_⟩
 exact ⟨_, Heap.get?_push_size s.heap rfl, rfl, ⟨0, rfl⟩, rfl⟩
end
end L2
namespace L2
open PySem PySem.Spec PyProof.Rows
structure Yy (h : Heap) (x dx C : Addr) (mA : Str -> Option Value) : Prop where
 obj : h.get? x = some (PySem.W.instObj C dx)
 ns : h.Ns1 dx mA
 ne : dx ≠ x
theorem Ko {h : Heap} {dx : Addr} {mA : Str -> Option Value} (n : h.Ns1 dx mA) : ∃ od, h.get? dx = some od /\ ∀ name, PySem.W.lookIn name od = some (mA name) := by
 obtain ⟨o, es, ep, ho, hd, hk, _, hm⟩ := n
 refine ⟨o, ho, fun name => ?_⟩
 have e := hm name
 unfold nsFind findBy at e
 rw [<- Array.find?_toList] at e
 unfold PySem.W.lookIn
 rw [hd]
 dsimp only
 split
 ·rename_i y q
  rw [q] at e
  exact congrArg some e
 ·rename_i q
  rw [q] at e
  have a : es.toList.any (·.refKey) = false := by
   rw [List.any_eq_false]
   intro y hy
   obtain ⟨z, t, hkey⟩ := hk y (Array.mem_toList_iff.mp hy)
   simp [DictEntry.refKey, hkey]
  have a' : ¬ es.toList.any (·.refKey) = true := by rw [a]; exact Bool.false_ne_true
  rw [if_neg a']
  exact congrArg some e
theorem Yy.look {h : Heap} {x dx C : Addr} {mA : Str -> Option Value} (I : Yy h x dx C mA) : ∃ od, PySem.W.InstAt h x (PySem.W.instObj C dx) C (some od) /\ ∀ name, PySem.W.lookIn name od = some (mA name) :=
 let ⟨od, ho, hl⟩ := Ko I.ns
 ⟨od, ⟨I.obj, rfl, rfl, ho⟩, hl⟩
section
variable {prog : Program} {w : World} {A : Around} {E : Value -> Shared -> Prop} {s : Shared} {K : PySem.W.Frag} {x dx C f : Addr} {mA : Str -> Option Value} {name : Str} {v : Value}
theorem kn {ns : List Str} {Q : Unit -> Shared -> Prop} (X : K.In s.heap) (I : Yy s.heap x dx C mA)
  (hs : PySem.W.findIn K (.ref C) "__setattr__" = some (some (.builtin "object.__setattr__"))) (hp : PySem.W.plainOver K C = true) (ht : PySem.W.takerIn K C name = some none) (hh : PySem.W.hasDictIn K C = true)
  (hw : PySem.Within mA ns) (hsz : ns.length <= sizeLine)
  (h : ∀ h', Yy h' x dx C (fun y => if y = name then some v else mA y) -> Heap.SameBut dx s.heap h' -> Q () { s with heap := h', toks := s.toks + 2 }) :
  wpAny (model prog w) A (setAttr (.ref x) name v) Q E s := by
 obtain ⟨od, J, hl⟩ := I.look
 refine PySem.W.set_plain X J hs (PySem.W.osa_open (s := { s with toks := s.toks + 1 }) (r := none) X J hp ht fun b => ?_)
 obtain ⟨cd, hc, hd'⟩ := PySem.W.any_some hh
 have hx : s.heap.get? x = some ⟨.ref C, some dx, .plain, #[]⟩ := I.obj
 refine wpAny_bind (wpAny_pure (wpAny_bind (wpAny_bind (wpAny_loadPart hx (wpAny_bind (PySem.W.Looks.here (s := { s with toks := s.toks + 1 }) (PySem.W.looks_clsIn X hc) ?_))))))
 rw [hd']
 refine wpAny_pure (a := some dx) (wpAny_bind (wpAny_pure (wpAny_bind ?_)))
 refine wpAny_nsSet1 (s := { s with toks := s.toks + 1 }) I.ns fun h' hn2 hs2 => ?_
 obtain ⟨oD, esD, epD, hoD, hdD, hcD⟩ := hn2.count (PySem.Within.cons name v hw)
 refine wpAny_bind (wpAny_lookBehind hoD (by rw [hdD]; exact pastItsLine_dict (Nat.le_trans hcD (by rw [List.length_cons]; omega))) ?_)
 exact wpAny_pure (h _ ⟨(hs2.2 _ (Ne.symm I.ne)).trans I.obj, hn2, I.ne⟩ hs2)
end
section
variable {P : Program} {w : World} {H H' : Hp} {h h' : Heap} {a C dx : Addr} {fs fs' : List (Str × V)}
theorem VO (hok : HOk P w H h) (e : H a = some (.ins C dx fs)) : ∃ mA, Yy h a dx C mA /\ (∀ f, ZX (fs.lookup f) (mA f)) /\ PySem.Within mA (fs.map (·.1)) /\ fs.length <= 1000 /\ H dx = some (.own a) := by
 obtain ⟨d, z, ne, ob, mA, n, r, q⟩ := (show zC P w H h a (.ins C dx fs) from hok a _ e)
 exact ⟨mA, ⟨ob, n, ne⟩, r, q, z, d⟩
end
structure Cls (K : PySem.W.Frag) (C : Addr) : Prop where
 pg : PySem.W.plainGet K C Str.empty = true
 hd : PySem.W.hasDictIn K C = true
 po : PySem.W.plainOver K C = true
 sa : PySem.W.findIn K (.ref C) "__setattr__" = some (some (.builtin "object.__setattr__"))
theorem Cls.get {K : PySem.W.Frag} {C : Addr} (c : Cls K C) (f : Str) : PySem.W.plainGet K C f = true := c.pg
structure Con (K : PySem.W.Frag) (C : Addr) (f : Str) (v : V) (u : Value) : Prop where
 at_ : PySem.W.findIn K (.ref C) f = some (some u)
 rel : zt v u
 get : PySem.W.specialIn K u "__get__" = some none
 cp : PySem.W.copiedNames.contains f = false
structure EJ (K : PySem.W.Frag) (C : Addr) (m : Str) (f : Addr) : Prop where
 at_ : PySem.W.findIn K (.ref C) m = some (some (.ref f))
 fn : PySem.W.isFn K (.ref f) = true
 kp : PySem.W.keepIn K (.ref f) = true
section
variable {X : Cx} {pins : List (Addr × Obj)} {σ : St} {H : Hp} {s : Shared} {a C dx : Addr} {fs : List (Str × V)} {f : Str} {v : V} {A : Around} {E : Value -> Shared -> Prop}
end
section
variable {X : Cx} {o e value : Expr} {f : Str} {pos pos' tpos : Pos} {ta tv : TE}
end
section
variable {X : Cx} {pins : List (Addr × Obj)} {σ : St} {H : Hp} {s : Shared} {A : Around} {E : Value -> Shared -> Prop} {Q : Value -> Shared -> Prop} {c : Value} {b : Bool}
inductive jB (K : PySem.W.Frag) (H : Hp) : V -> Value -> Prop where
  | non : jB K H .non (.type "NoneType")
  | bl (x : Bool) : jB K H (.bl x) (.type "bool")
  | int (i : Int) : jB K H (.int i) (.type "int")
  | str (x : Str) : jB K H (.str x) (.type "str")
  | flt (x : UInt64) : jB K H (.flt x) (.type "float")
  | lst {a : Addr} {xs : List V} (e : H a = some (.lst xs)) : jB K H (.ref a) (.type "list")
  | frz {a : Addr} {o : Obj} {xs : List V} (e : H a = some (.frz o (.lst xs))) : jB K H (.ref a) (.type "list")
  | tup {a : Addr} {xs : List V} (e : H a = some (.tup xs)) : jB K H (.ref a) (.type "tuple")
  | dK {a : Addr} {kvs : List (Key × V)} (e : H a = some (.dK kvs)) : jB K H (.ref a) (.type "dict")
  | dT {a : Addr} {kvs : List (List Key × V)} (e : H a = some (.dT kvs)) : jB K H (.ref a) (.type "dict")
  | ins {a C dx : Addr} {fs : List (Str × V)} (e : H a = some (.ins C dx fs)) (cl : Cls K C) (ha : PySem.W.findIn K (.ref C) "__class__" = some (some (.builtin "object.__class__")))
      (hn : PySem.W.specialIn K (.builtin "object.__class__") "__get__" = some (some (.builtin "getset_descriptor.__get__"))) (htk : PySem.W.takesIn K (.builtin "object.__class__") = some true)
      (hm : PySem.W.mroIn K C (.type "object") = some true) : jB K H (.ref a) (.ref C)
theorem Kk {x : V} {u t : Value} (I : Inv X pins σ H s) (rx : zt x u) (ty : jB X.K H x t) (e : PySem.W.kitOne X.K t c = some b) (h : ∀ tk, Q (.bool b) { s with toks := tk }) :
  wpAny (model X.prog X.w) A (call (.builtin "isinstance") [u, c]) Q E s := by
 cases ty with
 | non => cases (show u = Value.none from rx); exact PySem.W.kia_one PySem.W.kitx_none I.kIn True.intro e (fun z => nomatch z) h
 | bl y => cases (show u = Value.bool y from rx); exact PySem.W.kia_one PySem.W.kitx_bool I.kIn True.intro e (fun z => nomatch z) h
 | int i => obtain ⟨t, q⟩ := (show ∃ t, u = Value.int i t from rx); cases q; exact PySem.W.kia_one PySem.W.kitx_int I.kIn True.intro e (fun z => nomatch z) h
 | str y => obtain ⟨t, q⟩ := (show ∃ t, u = Value.str y t from rx); cases q; exact PySem.W.kia_one PySem.W.kitx_str I.kIn True.intro e (fun z => nomatch z) h
 | flt y => obtain ⟨t, q⟩ := (show ∃ t, u = Value.float y t from rx); cases q; exact PySem.W.kia_one PySem.W.kitx_float I.kIn True.intro e (fun z => nomatch z) h
 | @lst a xs ea =>
  cases (show u = Value.ref a from rx)
  obtain ⟨_, _, n, _, h1⟩ := (show zC X.prog X.w H s.heap a (.lst xs) from I.hok a _ ea)
  exact PySem.W.kia_one PySem.W.kitx_list I.kIn ⟨_, h1, rfl⟩ e (fun z => nomatch z) h
 | @frz a ob xs ea =>
  cases (show u = Value.ref a from rx)
  obtain ⟨_, _, _, n, _, h1⟩ := (show zC X.prog X.w H s.heap a (.frz ob (.lst xs)) from I.hok a _ ea)
  exact PySem.W.kia_one PySem.W.kitx_list I.kIn ⟨_, h1, rfl⟩ e (fun z => nomatch z) h
 | @tup a xs ea =>
  cases (show u = Value.ref a from rx)
  obtain ⟨_, _, _, p⟩ := (show zC X.prog X.w H s.heap a (.tup xs) from I.hok a _ ea)
  obtain ⟨o, h1, h2, _⟩ := p
  exact PySem.W.kia_one PySem.W.kitx_tuple I.kIn ⟨o, h1, h2⟩ e (fun z => nomatch z) h
 | @dK a kvs ea =>
  cases (show u = Value.ref a from rx)
  obtain ⟨_, _, vs, _, p⟩ := (show zC X.prog X.w H s.heap a (.dK kvs) from I.hok a _ ea)
  obtain ⟨o, es, ep, h1, h2, _⟩ := p
  exact PySem.W.kia_one PySem.W.kitx_dict I.kIn ⟨o, h1, h2.1⟩ e (fun z => nomatch z) h
 | @dT a kvs ea =>
  cases (show u = Value.ref a from rx)
  obtain ⟨_, _, xs, _, o, es, ep, h1, h2, _⟩ := (show zC X.prog X.w H s.heap a (.dT kvs) from I.hok a _ ea)
  exact PySem.W.kia_one PySem.W.kitx_dict I.kIn ⟨o, h1, h2.1⟩ e (fun z => nomatch z) h
 | @ins a C dx fs ea cl ha hn htk hm =>
  cases (show u = Value.ref a from rx)
  obtain ⟨mA, O, _⟩ := VO I.hok ea
  obtain ⟨od, J, _⟩ := O.look
  exact PySem.W.kia_one (PySem.W.kitx_own (cl.get _) cl.hd ha hn htk hm) I.kIn J e (fun z => nomatch z) h
end
end L2
namespace L2
open PySem PySem.Spec PyProof.Rows
structure qL (k : Nat) (A : Around) : Prop where
 hd : A.handled = none
 gd : A.guards = some []
 dp : A.depth + 3 * k + 5 < recursionLimit
 un : A.units + 16 * k + 200 < cLine
theorem qL.mono {j k : Nat} {A : Around} (r : qL k A) (h : j <= k) : qL j A := ⟨r.hd, r.gd, by have := r.dp; omega, by have := r.un; omega⟩
theorem qL.deeper {k : Nat} {A : Around} (r : qL (k + 1) A) (env : Env) : qL k (A.deeper env) :=
 ⟨r.hd, r.gd, by have := r.dp; show A.depth + 1 + 3 * k + 5 < _; omega, by have := r.un; show A.units + 3 + 16 * k + 200 < _; omega⟩
theorem qL.depth {k : Nat} {A : Around} (r : qL k A) : A.depth < recursionLimit := by have := r.dp; omega
theorem qL.units {k : Nat} {A : Around} (r : qL k A) : A.units + 64 < cLine := by have := r.un; omega
noncomputable def Bf : TA := fun _ H Q => Q [] H
noncomputable def Yl (ta : TE) (tr : TA) : TA := fun σ H Q => ta σ H fun x H1 => tr σ H1 fun xs H2 => Q (x :: xs) H2
section
variable {X : Cx} {e : Expr} {es : List Expr} {te : TE} {t : TA} {pos : Pos}
theorem zb : PA X [] Bf := fun _ _ _ _ H Q I h => Calls.spliced_nil ⟨[], H, I, .nil, h⟩
theorem za (ha : PE X e te) (hr : PA X es t) (hs : starEach (e :: es) X.env = (false, eval e X.env) :: starEach es X.env := by rfl) : PA X (e :: es) (Yl te t) := by
 intro pos pins s σ H Q I h
 rw [hs]
 show wpAny _ _ (spliced ((false, eval e X.env) :: backTo pos (starEach es X.env))) _ _ s
 refine Calls.spliced_cons (thn (ha pins s σ H _ I h) fun u s1 ⟨x, H1, I1, r1, q1⟩ => ?_)
 exact thn (hr pos pins s1 σ H1 _ I1 q1) fun us s2 ⟨xs, H2, I2, r2, q2⟩ => ⟨x :: xs, H2, I2, .cons r1 r2, q2⟩
noncomputable def Dh (t : TA) : TE := fun σ H Q => t σ H fun xs H1 => xs.length <= sizeLine /\ ∀ p, H1 p = none -> Q (.ref p) (upd H1 p (.tup xs))
noncomputable def A1 (t : TA) : TE := fun σ H Q => t σ H fun xs H1 => xs.length <= sizeLine /\ ∀ p, H1 p = none -> Q (.ref p) (upd H1 p (.lst xs))
theorem Qm {x1} (h : PA X es t) : PE X (.Tuple es x1 pos) (Dh t) := by
 intro pins s σ H Q I hq
 refine wpAny_Tuple_spliced (thn (h pos pins s σ H _ I hq) fun us s1 ⟨xs, H1, I1, r, z, q⟩ => ⟨by rw [<- r.length]; exact z, ?_⟩)
 have hf : H1 s1.heap.objs.size = none := I1.hok.fresh (Nat.le_refl _)
 refine ⟨.ref s1.heap.objs.size, upd H1 s1.heap.objs.size (.tup xs), I1.laid (t' := s1.toks) (fun b u e => Heap.get?_push_of_some _ e) (Nat.le_refl _) ?_, rfl, q _ hf⟩
 exact ⟨z, us, r, ⟨_, Heap.get?_push_size _ rfl, rfl, ⟨_, rfl⟩, rfl⟩⟩
theorem zP (h : PA X es t) : PE X (.List es pos) (A1 t) := by
 intro pins s σ H Q I hq
 refine wpAny_List_spliced (thn (h pos pins s σ H _ I hq) fun us s1 ⟨xs, H1, I1, r, z, q⟩ => ⟨by rw [<- r.length]; exact z, ?_⟩)
 have hf : H1 s1.heap.objs.size = none := I1.hok.fresh (Nat.le_refl _)
 refine ⟨.ref s1.heap.objs.size, upd H1 s1.heap.objs.size (.lst xs), I1.laid (t' := s1.toks) (fun b u e => Heap.get?_push_of_some _ e) (Nat.le_refl _) ?_, rfl, q _ hf⟩
 exact ⟨z, us, 0, r, Heap.get?_push_size _ rfl⟩
end
noncomputable abbrev Sp := List V -> Hp -> VK -> XK -> Prop
noncomputable abbrev CXT := List Env -> Hp -> Shared -> XK -> Value -> Shared -> Prop
structure VL (P : Program) (w : World) (K : PySem.W.Frag) (mg : Str -> Option Value) (base : Heap) (A : Around) (outer : List Env) (s : Shared) (H : Hp) : Prop where
 frames : A.frames = some outer
 mod : Mod K mg base
 bs : ∀ b o, base.get? b = some o -> s.heap.get? b = some o /\ H b = none
 bsz : base.objs.size <= s.heap.objs.size
 funs : s.heap.FunFrames base outer
 frf : ∀ b ∈ frs outer, H b = none
 hok : HOk P w H s.heap
 bare : AllBare s.gens
noncomputable def CE (outer : List Env) (P : Program) (w : World) (H : Hp) (s : Shared) (Q : VK) (u : Value) (s' : Shared) : Prop :=
 ∃ v H', s'.os = s.os /\ AllBare s'.gens /\ Un (frs outer) [] H H' s.heap s'.heap /\ HOk P w H' s'.heap /\ zt v u /\ Q v H'
noncomputable def CR (CX : CXT) (outer : List Env) (P : Program) (w : World) (H : Hp) (s : Shared) (Q : VK) (E : XK) (r : Result) (s' : Shared) : Prop :=
 match r with
 | .ok (.ret u) => CE outer P w H s Q u s'
 | .ok _ => False
 | .error e => CX outer H s E e s'
structure jv (P : Program) (w : World) (K : PySem.W.Frag) (mg : Str -> Option Value) (base : Heap) (CX : CXT) (k : Nat) (f : Addr) (fd : FuncData) (ps : List Str) (sp : Sp) : Prop where
 len : ∀ vs H Q E, sp vs H Q E -> vs.length = ps.length
 run : ∀ (A : Around) (outer : List Env) (s : Shared) (H : Hp) (args : Args) (us : List Value) (vs : List V) (Q : VK) (E : XK), qL k A -> VL P w K mg base A outer s H -> BindsTo s fd args (ps.zip us) -> zr vs us -> sp vs H Q E ->
  codeAny (model P w) A (.call (.ref f) args) (CR CX outer P w H s Q E) s
theorem jv.mono {P : Program} {w : World} {K : PySem.W.Frag} {mg : Str -> Option Value} {base : Heap} {CX : CXT} {j k : Nat} {f : Addr} {fd : FuncData} {ps : List Str} {sp : Sp} (F : jv P w K mg base CX j f fd ps sp) (h : j <= k) :
  jv P w K mg base CX k f fd ps sp := ⟨F.len, fun A outer s H args us vs Q E hr => F.run A outer s H args us vs Q E (hr.mono h)⟩
theorem jv.imp {P : Program} {w : World} {K : PySem.W.Frag} {mg : Str -> Option Value} {base : Heap} {CX : CXT} {k : Nat} {f : Addr} {fd : FuncData} {ps : List Str} {sp sp' : Sp} (F : jv P w K mg base CX k f fd ps sp)
  (h : ∀ vs H Q E, sp' vs H Q E -> sp vs H Q E) : jv P w K mg base CX k f fd ps sp' :=
 ⟨fun vs H Q E q => F.len vs H Q E (h _ _ _ _ q), fun A outer s H args us vs Q E hr he hb hv hs => F.run A outer s H args us vs Q E hr he hb hv (h _ _ _ _ hs)⟩
section
variable {X : Cx} {pins : List (Addr × Obj)} {σ : St} {H : Hp} {s s' : Shared}
theorem Inv.env0 (I : Inv X pins σ H s) : VL X.prog X.w X.K X.mg X.base X.A X.stack s H :=
 ⟨I.ok.frames, I.ok.mod, I.bs, Nat.le_trans I.ok.bsz I.sz, I.stack, I.stkFree, I.hok, I.bare⟩
theorem Inv.after {Q : VK} {u : Value} (I : Inv X pins σ H s) (h : CE X.stack X.prog X.w H s Q u s') : EP X pins σ Q u s' := by
 obtain ⟨v, H', os, bare, un, hok, r, q⟩ := h
 obtain ⟨hh, g, d, t, os'⟩ := s'
 obtain rfl : os' = s.os := os
 exact ⟨v, H', I.call (h' := hh) (g' := g) (d' := d) (t' := t) (ch := []) un hok bare (fun b z => absurd z (by simp)), r, q⟩
end
noncomputable def QI (sp : Sp) (dvs : List V) (E : XK) (t : TA) : TE := fun σ H Q => t σ H fun vs H1 => sp (vs ++ dvs) H1 Q E
noncomputable def xq (K : PySem.W.Frag) (fd : FuncData) (ps : List Str) (ds : List Value) : Prop :=
 ∀ (s : Shared) (us : List Value), K.In s.heap -> (us ++ ds).length = ps.length -> BindsTo s fd ⟨us, []⟩ (ps.zip (us ++ ds))
theorem xq.all {K : PySem.W.Frag} {fd : FuncData} {ps : List Str} (h : ∀ us : List Value, us.length = ps.length -> bindArgs fd ⟨us, []⟩ = pure (ps.zip us)) : xq K fd ps [] := fun s us _ hl => by
 rw [List.append_nil] at hl ⊢
 exact .of_eq (h us hl)
noncomputable def vI (CX : CXT) (X : Cx) (E : XK) : Prop := ∀ (pins : List (Addr × Obj)) (σ : St) (H : Hp) (s : Shared) (e : Value) (s' : Shared), Inv X pins σ H s -> CX X.stack H s E e s' -> X.xe e s'
section
variable {X : Cx} {CX : CXT} {k : Nat} {f C : Addr} {fd : FuncData} {ps : List Str} {sp : Sp} {dvs : List V} {ds : List Value} {E : XK} {x m : Str} {p pos apos : Pos} {e o : Expr} {es : List Expr} {ta : TE} {t : TA}
theorem A5 {pins : List (Addr × Obj)} {σ : St} {H : Hp} {s : Shared} {Q : VK} {us : List Value} {vs : List V} (F : jv X.prog X.w X.K X.mg X.base CX k f fd ps sp) (hr : qL k X.A) (hb : xq X.K fd ps ds) (hd : zr dvs ds) (hx : vI CX X E)
  (I : Inv X pins σ H s) (r : zr vs us) (h : sp (vs ++ dvs) H Q E) : wpAny (model X.prog X.w) X.A (call (.ref f) us) (EP X pins σ Q) X.xe s := by
 have r2 : zr (vs ++ dvs) (us ++ ds) := r.append hd
 have hl : (us ++ ds).length = ps.length := by rw [<- r2.length]; exact F.len _ _ _ _ h
 refine wpAny_call (codeAny_mono (F.run X.A X.stack s H ⟨us, []⟩ (us ++ ds) (vs ++ dvs) Q E hr I.env0 (hb s us I.kIn hl) r2 h) fun r s' hq => ?_)
 cases r with
 | error e => exact hx pins σ H s e s' I hq
 | ok fl =>
  cases fl with
  | ret u => exact I.after hq
  | next => exact False.elim hq
  | brk => exact False.elim hq
  | cont => exact False.elim hq
theorem Wt (F : jv X.prog X.w X.K X.mg X.base CX k f fd ps sp) (hr : qL k X.A) (hg : Gl X x) (hm : X.mg x = some (.ref f)) (hk : PySem.W.keepIn X.K (.ref f) = true) (hb : xq X.K fd ps ds) (hd : zr dvs ds) (hx : vI CX X E)
  (ha : PA X (e :: es) t) (hdb : (x == ("__debug__" : Str)) = false := by decide) (he : starEach (e :: es) X.env = (false, eval e X.env) :: starEach es X.env := by rfl) (hpl : (backTo pos (starEach es X.env)).any (·.1) = false := by rfl) :
  PE X (.Call (.Name x p) (e :: es) [] pos) (QI sp dvs E t) := by
 intro pins s σ H Q I h
 refine wpAny_Call_Name_kw (jO I hg hm ?_ hdb)
 refine PySem.W.callWith_K (h₀ := X.base) I.ok.mod.kin hk (thn (ha pos pins s σ H _ I h) fun us s1 ⟨vs, H1, I1, r, q⟩ => ⟨I1.kIn, ?_⟩) he hpl
 exact A5 F hr hb hd hx I1 r q
structure Mk (K : PySem.W.Frag) (C f : Addr) : Prop where
 makes : PySem.W.makesIn K C = true
 init : PySem.W.findIn K (.ref C) "__init__" = some (some (.ref f))
 fn : PySem.W.isFn K (.ref f) = true
 kp : PySem.W.keepIn K (.ref C) = true
end
section
variable {X : Cx} {CX : CXT} {k : Nat} {f C : Addr} {fd : FuncData} {ps ks : List Str} {sp : Sp} {E : XK} {x m : Str} {p pos apos kpos : Pos} {e o : Expr} {es : List Expr} {kws : List Keyword} {te ta : TE} {t tk : TA} {nm : Option Str}
structure EK (K : PySem.W.Frag) (fd : FuncData) (ps ks : List Str) (g : List Value -> List Value -> List Value) (gV : List V -> List V -> List V) : Prop where
 to : ∀ (s : Shared) (us ws : List Value), K.In s.heap -> (g us ws).length = ps.length -> BindsTo s fd ⟨us, ks.zip ws⟩ (ps.zip (g us ws))
 rel : ∀ {vs : List V} {us : List Value} {zs : List V} {ws : List Value}, zr vs us -> zr zs ws -> zr (gV vs zs) (g us ws)
variable {g : List Value -> List Value -> List Value} {gV : List V -> List V -> List V}
end
structure zA (N P : List Str) (sc : Scope) : Prop where
 kind : sc.kind = .function
 co : sc.isCoroutine = false
 gen : sc.isGenerator = false
 nd : N.Nodup
 pre : N.take P.length = P
 par : ∀ x ∈ P, sc.names.lookup x = some .local \/ sc.names.lookup x = some .cell
 nofree : ∀ y ∈ sc.names, y.2 ≠ .free
theorem vf {kindOf : Str -> Option NameKind} {x : Str} : ∀ {binds : List (Str × Value)} {m : Str -> Option Value}, (∀ v, (x, v) ∉ binds) -> bindL kindOf binds m x = m x
 | [], _, _ => rfl
 | (n, v) :: r, m, h => by
  unfold bindL
  rw [vf fun w hw => h w (List.mem_cons_of_mem _ hw)]
  split
  ·have : x ≠ n := by rintro rfl; exact h v List.mem_cons_self
   simp [this]
  ·rfl
theorem y6 {kindOf : Str -> Option NameKind} {x : Str} : ∀ {binds : List (Str × Value)} {m : Str -> Option Value}, (∀ v, (x, v) ∉ binds) -> bindC kindOf binds m x = m x
 | [], _, _ => rfl
 | (n, v) :: r, m, h => by
  unfold bindC
  rw [y6 fun w hw => h w (List.mem_cons_of_mem _ hw)]
  split
  ·rfl
  ·have : x ≠ n := by rintro rfl; exact h v List.mem_cons_self
   simp [this]
theorem vb {kindOf : Str -> Option NameKind} {x : Str} {v : Value} : ∀ {P : List Str} {vs : List Value} {i : Nat} {m : Str -> Option Value}, P.Nodup -> P[i]? = some x -> vs[i]? = some v -> kindOf x = some .local ->
  bindL kindOf (P.zip vs) m x = some v
 | [], _, _, _, _, h, _, _ => by simp at h
 | _ :: _, [], _, _, _, _, h, _ => by simp at h
 | p :: P, w :: vs, 0, m, nd, h1, h2, hk => by
  simp at h1 h2; subst h1; subst h2
  show bindL kindOf ((p, w) :: P.zip vs) m p = _
  unfold bindL
  rw [vf fun v hv => (List.nodup_cons.mp nd).1 (List.of_mem_zip hv).1, if_pos hk]
  simp
 | p :: P, w :: vs, i + 1, m, nd, h1, h2, hk => by
  show bindL kindOf ((p, w) :: P.zip vs) m x = _
  unfold bindL
  exact vb (i := i) (List.nodup_cons.mp nd).2 (by simpa using h1) (by simpa using h2) hk
theorem yI {kindOf : Str -> Option NameKind} {x : Str} {v : Value} : ∀ {P : List Str} {vs : List Value} {i : Nat} {m : Str -> Option Value}, P.Nodup -> P[i]? = some x -> vs[i]? = some v -> kindOf x ≠ some .local ->
  bindC kindOf (P.zip vs) m x = some v
 | [], _, _, _, _, h, _, _ => by simp at h
 | _ :: _, [], _, _, _, _, h, _ => by simp at h
 | p :: P, w :: vs, 0, m, nd, h1, h2, hk => by
  simp at h1 h2; subst h1; subst h2
  show bindC kindOf ((p, w) :: P.zip vs) m p = _
  unfold bindC
  rw [y6 fun v hv => (List.nodup_cons.mp nd).1 (List.of_mem_zip hv).1, if_neg hk]
  simp
 | p :: P, w :: vs, i + 1, m, nd, h1, h2, hk => by
  show bindC kindOf ((p, w) :: P.zip vs) m x = _
  unfold bindC
  exact yI (i := i) (List.nodup_cons.mp nd).2 (by simpa using h1) (by simpa using h2) hk
noncomputable def start (N : List Str) (vs : List V) : St := vs.map some ++ List.replicate (N.length - vs.length) none
noncomputable def xa (CX : CXT) (P : Program) (w : World) (K : PySem.W.Frag) (mg : Str -> Option Value) (base : Heap) (N : List Str) (qual : Str) (scope : Scope) (f : Addr) (cd : Value) (A : Around) (outer : List Env) (s : Shared) (H : Hp) (E : XK) : Cx where
 prog := P
 w := w
 K := K
 mg := mg
 base := base
 A := A.deeper (envOfC qual scope s.heap.objs.size f cd)
 N := N
 s₀ := s
 H₀ := H
 env := envOfC qual scope s.heap.objs.size f cd
 outer := outer
 stack := envOfC qual scope s.heap.objs.size f cd :: outer
 ex := []
 calm := true
 fn := fun _ => true
 pn := []
 xe := fun e s' => wpAny (model P w) (A.deeper (envOfC qual scope s.heap.objs.size f cd)) (leaving (envOfC qual scope s.heap.objs.size f cd) e) (fun _ s'' => CX outer H s E e s'') (fun e' s'' => CX outer H s E e' s'') s'
theorem wH {sc : Scope} {n : Nat} {x : Str} (h : sc.names.lookup x = some .cell) : ∃ c, (cellsFrom n sc.names []).lookup x = some c := by
 have q := PySem.W.cellsFrom_some sc.names n [] (.inl h)
 exact Option.isSome_iff_exists.mp q
theorem Jo {CX : CXT} {P : Program} {w : World} {K : PySem.W.Frag} {mg : Str -> Option Value} {base : Heap} {N ps : List Str} {qual : Str} {scope : Scope} {f : Addr} {cd : Value} {A : Around} {outer : List Env} {s s1 : Shared} {H : Hp} {E : XK} {us : List Value} {vs : List V}
    (S : zA N ps scope) (hd : A.handled = none) (e0 : VL P w K mg base A outer s H) (hl : vs.length = ps.length) (r : zr vs us)
    (x : InCallC s s.heap.objs.size (bindL (envOfC qual scope s.heap.objs.size f cd).kindOf (ps.zip us) fun _ => none) (cellsFrom (s.heap.objs.size + 1) scope.names []) (bindC (envOfC qual scope s.heap.objs.size f cd).kindOf (ps.zip us) fun _ => none) s1) :
    Inv (xa CX P w K mg base N qual scope f cd A outer s H E) [] (start N vs) H s1 := by
  have hpl : ps.length <= N.length := by have := congrArg List.length S.pre; rw [List.length_take] at this; omega
  obtain ⟨h1, tk, rfl, hk⟩ := x.done
  have noA : ∀ b : Addr, b ∉ (xa CX P w K mg base N qual scope f cd A outer s H E).ex := fun b z => absurd (show b ∈ ([] : List Addr) from z) (by simp)
  refine ⟨⟨e0.mod, S.kind, rfl, rfl, Nat.le_refl _, fun y z c h1 h2 => ?_, fun y hy => ?_, fun y c _ h => ?_, fun _ => hd, Around.frames_deeper e0.frames, .inr ⟨rfl, rfl⟩, fun b z => absurd z (noA b), e0.bs, e0.bsz, fun b _ _ => noA b, fun b z => absurd z (noA b), e0.funs, e0.frf⟩,
    rfl, e0.bare, Un.kept hk, ⟨_, x.toInCall.ns, fun i y v h1 h2 h3 => ?_⟩, fun y c h => ⟨_, x.cell y c h⟩, e0.hok.fresh (Nat.le_refl _), fun y c h => ?_, fun p hp => absurd (show p ∈ ([] : List (Addr × Obj)) from hp) (by simp), e0.hok.kept hk, ?_⟩
  · exact name_of_addr x.apart (PySem.mem_of_lookup h1) (PySem.mem_of_lookup h2)
  · have hy : scope.names.lookup y = some .cell \/ scope.names.lookup y = some .free := hy
    rcases hy with hy | hy
    · exact wH hy
    · exact absurd rfl (S.nofree _ (PySem.mem_of_lookup hy))
  · exact Nat.le_of_lt (x.above y c (PySem.mem_of_lookup h))
  · have hi : i < vs.length := by
      unfold start at h2
      by_cases hi : i < vs.length
      · exact hi
      · rw [List.getElem?_append_right (by simpa using hi)] at h2
        rw [List.getElem?_replicate] at h2
        split at h2 <;> cases h2
    have ha : vs[i]? = some v := by
      unfold start at h2
      rw [List.getElem?_append_left (by simpa using hi), List.getElem?_map] at h2
      cases e : vs[i]? with
      | none => rw [e] at h2; cases h2
      | some a => rw [e] at h2; cases h2; rfl
    obtain ⟨u, hu, rv⟩ := r.get ha
    have hp : ps[i]? = some y := by
      rw [<- S.pre, List.getElem?_take_of_lt (by omega)]; exact h1
    have ndP : ps.Nodup := by rw [<- S.pre]; exact S.nd.sublist (List.take_sublist _ _)
    refine ⟨u, rv, ?_⟩
    rcases S.par y (List.mem_of_getElem? hp) with k | k
    · exact .inl ⟨k, vb ndP hp hu k⟩
    · obtain ⟨c, e⟩ := wH (n := s.heap.objs.size + 1) k
      refine .inr ⟨.inl k, c, e, ?_⟩
      have q := x.cell y c e
      rw [yI ndP hp hu (by show scope.names.lookup y ≠ _; rw [k]; decide)] at q
      exact q
  · exact e0.hok.fresh (Nat.le_of_lt (x.above y c (PySem.mem_of_lookup h)))
  · unfold start
    show _ = N.length
    rw [List.length_append, List.length_map, List.length_replicate]
    omega
theorem Ab {CX : CXT} {P : Program} {w : World} {K : PySem.W.Frag} {mg : Str -> Option Value} {base : Heap} {k : Nat} {f : Addr} {name qual : Str} {params : Arguments} {body : List Stmt} {scope : Scope} {dV kV doc pm cdv ct oc : Value} {an od : Option Addr}
  {osl : Array (Option Value)} {N ps : List Str} {sp : Sp} (lk : K.lookup f = some ⟨oc, od, .func (PySem.W.fnOf name qual params body scope dV kV doc pm an cdv ct), osl⟩) (hcd : PySem.W.codeIn K cdv qual = true) (S : zA N ps scope)
  (len : ∀ vs H Q E, sp vs H Q E -> vs.length = ps.length)
  (hbody : ∀ (A : Around) (outer : List Env) (s : Shared) (H : Hp) (vs : List V) (Q : VK) (E : XK), qL k (A.deeper (envOfC qual scope s.heap.objs.size f cdv)) -> sp vs H Q E ->
   ∃ t, PSs (xa CX P w K mg base N qual scope f cdv A outer s H E) body t /\ t { nx := fun _ H' => Q .non H', rt := Q } (start N vs) H) :
  jv P w K mg base CX (k + 1) f (PySem.W.fnOf name qual params body scope dV kV doc pm an cdv ct) ps sp := by
 refine ⟨len, fun A outer s H args us vs Q E hr e0 hb r hsp => ?_⟩
 have hl := len _ _ _ _ hsp
 have KX : K.In s.heap := e0.mod.kin.keeps fun b o e => (e0.bs b o e).1
 have lim : s.heap.NoLimit := e0.mod.nolimit.keeps fun b o e => (e0.bs b o e).1
 have hkind : ∀ y ∈ ps.zip us, scope.names.lookup y.1 = some .local \/ (scope.names.lookup y.1 = some .cell /\ ((cellsFrom (s.heap.objs.size + 1) scope.names []).lookup y.1).isSome = true) := fun ⟨n, v⟩ hy => by
  rcases S.par n (List.of_mem_zip hy).1 with q | q
  ·exact .inl q
  ·exact .inr ⟨q, PySem.W.cellsFrom_some _ _ _ (.inl q)⟩
 refine codeAny_call_function hr.depth (KX _ _ lk) rfl S.co S.gen rfl (PySem.W.codeRec_of KX hcd) (hb _ _ _ _ ?_)
 refine wpAny_newFunctionEnv_cells S.kind hkind fun env he s1 x => ?_
 subst he
 refine ⟨lim.keeps x.toInCall.keep, codeAny_func ?_⟩
 obtain ⟨t, ht, hq⟩ := hbody A outer s H vs Q E (hr.deeper _) hsp
 have I : Inv (xa CX P w K mg base N qual scope f cdv A outer s H E) [] (start N vs) H s1 := Jo S hr.hd e0 hl r x
 refine wpAny_mono (ht [] s1 (start N vs) H _ I hq) (fun fl s' hs => ?_) fun e s' hs => hs
 have fin : ∀ {σ' : St} {H' : Hp} {v : V} {u : Value}, Inv (xa CX P w K mg base N qual scope f cdv A outer s H E) [] σ' H' s' -> zt v u -> Q v H' -> CE outer P w H s Q u s' :=
  fun {σ' H' v u} J rv q => ⟨v, H', J.os, J.bare, J.base, J.hok, rv, q⟩
 cases fl with
 | ret u =>
  obtain ⟨v, σ', H', J, rv, q⟩ := hs
  exact fin J rv q
 | next =>
  obtain ⟨σ', H', J, q⟩ := hs
  exact fin (v := V.non) (u := Value.none) J rfl q
 | brk =>
  obtain ⟨_, _, _, q⟩ := hs
  exact False.elim q
 | cont =>
  obtain ⟨_, _, _, q⟩ := hs
  exact False.elim q
end L2
namespace L2
open PySem PySem.Spec PyProof.Rows
section
variable {X : Cx} {x : Str} {p pos : Pos} {e : Expr} {es : List Expr} {t : TA} {id T : String} {r : List V -> Hp -> VK -> Prop}
noncomputable def tCB (r : List V -> Hp -> VK -> Prop) (t : TA) : TE := fun σ H Q => t σ H fun vs H1 => r vs H1 Q
theorem zl (hc : qk X (.builtin id) r) (hg : Gl X x) (hm : X.mg x = none) (hv : bootBuiltins x = some (.builtin id)) (ha : PA X (e :: es) t) (hn : x ≠ "__name__" := by decide) (hdb : (x == ("__debug__" : Str)) = false := by decide)
  (he : starEach (e :: es) X.env = (false, eval e X.env) :: starEach es X.env := by rfl) (hpl : (backTo pos (starEach es X.env)).any (·.1) = false := by rfl) : PE X (.Call (.Name x p) (e :: es) [] pos) (tCB r t) := by
 intro pins s σ H Q I h
 refine wpAny_Call_Name_kw (qK I hg hm hv ?_ hn hdb)
 exact PyProof.Rows.callWith_builtin1 (thn (ha pos pins s σ H _ I h) fun us s1 ⟨vs, H1, I1, r1, q1⟩ => hc pins s1 σ H1 vs us Q I1 r1 q1) he hpl
theorem zp (hc : qk X (.type T) r) (hg : Gl X x) (hm : X.mg x = none) (hv : bootBuiltins x = some (.type T)) (ha : PA X (e :: es) t) (hn : x ≠ "__name__" := by decide) (hdb : (x == ("__debug__" : Str)) = false := by decide)
  (he : starEach (e :: es) X.env = (false, eval e X.env) :: starEach es X.env := by rfl) (hpl : (backTo pos (starEach es X.env)).any (·.1) = false := by rfl) : PE X (.Call (.Name x p) (e :: es) [] pos) (tCB r t) := by
 intro pins s σ H Q I h
 refine wpAny_Call_Name_kw (qK I hg hm hv ?_ hn hdb)
 exact PyProof.Rows.callWith_type1 (thn (ha pos pins s σ H _ I h) fun us s1 ⟨vs, H1, I1, r1, q1⟩ => hc pins s1 σ H1 vs us Q I1 r1 q1) he hpl
end
end L2
namespace HT
open PySem PyProof.Rows
section
open PySem.SeqAt
open PySem.AutoSeq1 (wpAny_loadPart')
open PySem.MeetsSeq PySem.MeetsSeq2 PySem.MeetsSeq3
end
section
variable {prog : Program} {w : World} {A : Around} {E : Value -> Shared -> Prop} {s : Shared}
noncomputable def sIx (n d : Nat) : Option Int -> Nat
 | none => d
 | some v => if v < 0 then (v + (n : Int)).toNat else min v.toNat n
theorem sIx_none (n d : Nat) : sIx n d none = d := rfl
theorem sIx_nat (n d k : Nat) : sIx n d (some (k : Int)) = min k n := by
 show (if (k : Int) < 0 then ((k : Int) + (n : Int)).toNat else min (k : Int).toNat n) = min k n
 rw [if_neg (by omega), Int.toNat_natCast]
end
end HT
namespace L2
open PySem PySem.Spec PyProof.Rows
noncomputable abbrev TO := St -> Hp -> (Option Int -> Hp -> Prop) -> Prop
noncomputable def PO (X : Cx) (e : Option Expr) (t : TO) : Prop :=
 ∀ (pins : List (Addr × Obj)) (s : Shared) (σ : St) (H : Hp) (Q : Option Int -> Hp -> Prop), Inv X pins σ H s -> t σ H Q ->
  wpAny (model X.prog X.w) X.A (evalPart e X.env) (fun u s' => ∃ o H', Inv X pins σ H' s' /\ IsPart u o /\ Q o H') X.xe s
noncomputable def vF : TO := fun _ H Q => Q none H
noncomputable def XR (t : TE) : TO := fun σ H Q => t σ H fun x H1 => ∃ i, x = .int i /\ Q (some i) H1
theorem Z7 {ns : List Int} : ∀ {us : List Value}, zr (ns.map V.int) us -> IntsAre us ns := by
 induction ns with
 | nil => intro us r; rw [List.map_nil] at r; cases r; exact .nil
 | cons n ns ih =>
  intro us r
  rw [List.map_cons] at r
  cases r with
  | cons r1 r2 =>
   obtain ⟨t, e⟩ := r1
   subst e
   exact .cons n t (ih r2)
section
variable {X : Cx} {e : Expr} {te : TE} {lo hi : Option Expr} {tl th : TO} {pos p2 : Pos}
theorem xH : PO X none vF := by
 intro pins s σ H Q I h
 rw [evalPart_none]
 exact wpAny_pure ⟨none, H, I, .none, h⟩
theorem jL (h : PE X e te) : PO X (some e) (XR te) := by
 intro pins s σ H Q I hw
 rw [evalPart_some]
 refine thn (h pins s σ H _ I hw) fun u s1 ⟨x, H1, I1, r1, q1⟩ => ?_
 obtain ⟨i, rfl, q⟩ := q1
 obtain ⟨t, rfl⟩ := r1
 exact ⟨some i, H1, I1, .int i t, q⟩
noncomputable def SlR (X : Cx) (r : V -> Option Int -> Option Int -> Hp -> VK -> Prop) : Prop :=
 ∀ (pins : List (Addr × Obj)) (s : Shared) (σ : St) (H : Hp) (x : V) (v vl vu : Value) (lo hi : Option Int) (sl : Addr) (Q : VK), Inv X pins σ H s -> zt x v -> s.heap.IsSliceOf sl vl vu .none -> IsPart vl lo -> IsPart vu hi -> r x lo hi H Q ->
  ∃ T id, typeLookup (.type T) "__getitem__" = pure (some (.builtin id)) /\ s.TypeIs v T /\ wpAny (model X.prog X.w) X.A (getItem v (.ref sl)) (EP X pins σ Q) X.xe s
noncomputable def tSl (r : V -> Option Int -> Option Int -> Hp -> VK -> Prop) (te : TE) (tl th : TO) : TE := fun σ H Q => te σ H fun x H1 => tl σ H1 fun l H2 => th σ H2 fun u H3 => r x l u H3 Q
theorem jD {r : V -> Option Int -> Option Int -> Hp -> VK -> Prop} (hr : SlR X r) (he : PE X e te) (hl : PO X lo tl) (hu : PO X hi th) : PE X (.Subscript e (.Slice lo hi none p2) pos) (tSl r te tl th) := by
 intro pins s σ H Q I h
 refine Subscript_ (thn (he pins s σ H _ I h) fun v s1 ⟨x, H1, I1, r1, q1⟩ => ?_)
 refine wpAny_Slice (thn (hl pins s1 σ H1 _ I1 q1) fun vl s2 ⟨l, H2, I2, pl, q2⟩ => thn (hu pins s2 σ H2 _ I2 q2) fun vu s3 ⟨u, H3, I3, pu, q3⟩ => ?_)
 rw [evalPart_none]
 refine wpAny_pure ?_
 have I4 : Inv X pins σ H3 { s3 with heap := s3.heap.push { cls := .type "slice", data := .fields #[vl, vu, .none] } } := I3.kept (t' := s3.toks) fun b ob q => Heap.get?_push_of_some _ q
 obtain ⟨T, id, hT, ht, hg⟩ := hr pins { s3 with heap := s3.heap.push { cls := .type "slice", data := .fields #[vl, vu, .none] } } σ H3 x v vl vu l u s3.heap.objs.size Q I4 r1 (Heap.IsSliceOf.new ..) pl pu q3
 show wpAny (model X.prog X.w) X.A (subscriptTail e (.Slice lo hi none p2) v (.ref s3.heap.objs.size)) (EP X pins σ Q) X.xe { s3 with heap := s3.heap.push { cls := .type "slice", data := .fields #[vl, vu, .none] } }
 exact tail_any (ops := [.ref s3.heap.objs.size, v]) ht hT hg (by with_unfolding_all rfl)
noncomputable def vv (xs : List V) (lo hi : Option Int) : List V := (xs.drop (HT.sIx xs.length 0 lo)).take (HT.sIx xs.length xs.length hi - HT.sIx xs.length 0 lo)
theorem wK (xs : List V) (lo hi : Option Int) : (vv xs lo hi).length <= xs.length := by
 unfold vv
 rw [List.length_take, List.length_drop]
 omega
end
end L2
namespace L2
open PySem PySem.Spec PyProof.Rows
noncomputable def ixN (n : Nat) (i : Int) : Option Nat := if 0 <= i then (if i < n then some i.toNat else none) else if -(n : Int) <= i then some (i + n).toNat else none
noncomputable def atI {α : Type} (xs : List α) (i : Int) : Option α := (ixN xs.length i).bind fun j => xs[j]?
theorem Q7 {n : Nat} {i : Int} {j : Nat} (h : ixN n i = some j) : seqIndex? i n = some j /\ j < n /\ -(n : Int) <= i /\ i < n := by
 unfold ixN at h
 by_cases h0 : 0 <= i
 ·rw [if_pos h0] at h
  by_cases h1 : i < n
  ·rw [if_pos h1] at h
   have e : i.toNat = j := Option.some.inj h
   exact ⟨by rw [seqIndex_of h0 h1, e], by omega, by omega, h1⟩
  ·rw [if_neg h1] at h; cases h
 ·rw [if_neg h0] at h
  by_cases h1 : -(n : Int) <= i
  ·rw [if_pos h1] at h
   have e : (i + n).toNat = j := Option.some.inj h
   exact ⟨by rw [seqIndex_neg (by omega) h1, e], by omega, h1, by omega⟩
  ·rw [if_neg h1] at h; cases h
theorem Qp {α : Type} {xs : List α} {i : Int} {v : α} (h : atI xs i = some v) : ∃ j, seqIndex? i xs.length = some j /\ xs[j]? = some v /\ j < xs.length /\ -(xs.length : Int) <= i /\ i < xs.length := by
 unfold atI at h
 cases e : ixN xs.length i with
 | none => rw [e] at h; cases h
 | some j =>
  rw [e] at h
  obtain ⟨h1, h2, h3, h4⟩ := Q7 e
  exact ⟨j, h1, h, h2, h3, h4⟩
theorem V2 {α : Type} {xs : List α} {j : Nat} {v : α} (h : xs[j]? = some v) : atI xs (j : Int) = some v := by
 have hj : j < xs.length := (List.getElem?_eq_some_iff.mp h).1
 have e : ixN xs.length (j : Int) = some j := by
  unfold ixN
  rw [if_pos (by omega), if_pos (by omega)]; simp
 unfold atI; rw [e]; exact h
noncomputable def WH (b : Expr) : Prop := ∀ o i, subscripted b false o i = operate [o, i] (getItem o i)
noncomputable def IxR (X : Cx) (r : R2) : Prop :=
 ∀ (value slice : Expr) (pins : List (Addr × Obj)) (s : Shared) (σ : St) (H : Hp) (x y : V) (v u : Value) (Q : VK), Inv X pins σ H s -> zt x v -> zt y u -> r x y H Q ->
  subscripted slice false v u = operate [v, u] (getItem v u) -> wpAny (model X.prog X.w) X.A (subscriptTail value slice v u) (EP X pins σ Q) X.xe s
noncomputable def MtR (X : Cx) (id : String) (r : V -> List V -> Hp -> VK -> Prop) : Prop :=
 ∀ (pins : List (Addr × Obj)) (s : Shared) (σ : St) (H : Hp) (x : V) (xs : List V) (v : Value) (us : List Value) (Q : VK), Inv X pins σ H s -> zt x v -> zr xs us -> r x xs H Q ->
  wpAny (model X.prog X.w) X.A (call (.builtin id) (v :: us)) (EP X pins σ Q) X.xe s
section
variable {X : Cx} {a b : Expr} {ta tb : TE} {pos : Pos}
theorem zQ {r : R2} (hr : IxR X r) (ha : PE X a ta) (hb : PE X b tb) (hs : WH b) : PE X (.Subscript a b pos) (tOp r ta tb) := by
 intro pins s σ H Q I h
 exact Subscript_ (Bo ha hb I h fun v u s2 x y H2 I2 rx ry q => hr a b pins s2 σ H2 x y v u Q I2 rx ry q (hs _ _))
noncomputable def Ei (K : PySem.W.Frag) : R2 := fun x y H Q => ∃ p xs i v, x = .ref p /\ y = .int i /\ SqL K H p xs /\ atI xs i = some v /\ Q v H
noncomputable def Ef (K : PySem.W.Frag) : R2 := fun x y H Q => ∃ p xs i v, x = .ref p /\ y = .int i /\ SqT K H p xs /\ atI xs i = some v /\ Q v H
theorem zO : IxR X (Ei X.K) := by
  intro value slice pins s σ H x y v u Q I rx ry h hs
  obtain ⟨p, xs, i, z, rfl, rfl, hq, he, q⟩ := h
  cases rx
  obtain ⟨t, rfl⟩ := ry
  obtain ⟨its, r, pl, hz⟩ := I.list hq
  obtain ⟨j, h1, h2, h3, h4, h5⟩ := Qp he
  obtain ⟨w, ew, rw'⟩ := r.get h2
  have hl := r.length
  have hn := xO
  have fin : EP X pins σ Q w s := ⟨z, H, I, rw', q⟩
  by_cases h0 : 0 <= i
  · have hj : i.toNat = j := by
      rw [seqIndex_of h0 h5] at h1
      exact Option.some.inj h1
    exact item_listR pl.isList h0 (by omega) (by rw [hj]; simpa using ew) fin hs
  · have hj : (i + (its.toArray.size : Int)).toNat = j := by
      rw [seqIndex_neg (by omega) h4] at h1
      rw [List.size_toArray, <- hl]
      exact Option.some.inj h1
    exact subscriptTail_builtinR (x := w) pl.isList.typeIs slot_list_getitem.lookup
      (wpAny_getItem_list_neg (Q := fun r s' => r = w /\ EP X pins σ Q r s') pl.isList (by omega) (by rw [List.size_toArray] <;> omega) (by omega) (by rw [hj]; simpa using ew) ⟨rfl, fin⟩) hs
theorem AN : IxR X (Ef X.K) := by
 intro value slice pins s σ H x y v u Q I rx ry h hs
 obtain ⟨p, xs, i, z, rfl, rfl, hq, he, q⟩ := h
 cases rx
 obtain ⟨t, rfl⟩ := ry
 obtain ⟨its, r, pl, hz⟩ := I.tuple hq
 obtain ⟨j, h1, h2, h3, h4, h5⟩ := Qp he
 obtain ⟨w, ew, rw'⟩ := r.get h2
 have hl := r.length
 have hn := xO
 have fin : EP X pins σ Q w s := ⟨z, H, I, rw', q⟩
 exact subscriptTail_builtinR (x := w) pl.typeIs slot_tuple_getitem.lookup
  (getItem_tuple (j := j) (Q := fun r s' => r = w /\ EP X pins σ Q r s') pl (by omega) (by omega) (by rw [List.size_toArray, <- hl]; exact h1) (by simpa using ew) ⟨rfl, fin⟩) hs
theorem Z2 (its : List Value) (n j : Nat) (u : Value) : Obj.mapSeq (·.setIfInBounds j u) { cls := .type "list", data := .seq its.toArray n } = { cls := .type "list", data := .seq (its.set j u).toArray n } := by
 simp [Obj.mapSeq]
theorem Inv.lst {pins : List (Addr × Obj)} {σ : St} {H : Hp} {s : Shared} {p : Addr} {xs : List V} (I : Inv X pins σ H s) (h : H p = some (.lst xs)) :
  ∃ (its : List Value) (n : Nat), zr xs its /\ s.heap.get? p = some { cls := .type "list", data := .seq its.toArray n } /\ xs.length <= sizeLine := by
 obtain ⟨z, its, n, r, e⟩ := I.hok p _ h
 exact ⟨its, n, r, e, z⟩
theorem Inv.lstUpd {pins : List (Addr × Obj)} {σ : St} {H : Hp} {s : Shared} {p : Addr} {xs ys : List V} {its its' : List Value} {n n' : Nat} {f : Obj -> Obj} (I : Inv X pins σ H s) (h : H p = some (.lst xs))
  (ho : s.heap.get? p = some { cls := .type "list", data := .seq its.toArray n }) (hf : f { cls := .type "list", data := .seq its.toArray n } = { cls := .type "list", data := .seq its'.toArray n' }) (r : zr ys its') (hz : ys.length <= sizeLine) (t : Nat) :
  Inv X pins σ (upd H p (.lst ys)) { s with heap := s.heap.update p f, toks := t } := by
 have e : (s.heap.update p f).get? p = some { cls := .type "list", data := .seq its'.toArray n' } := by
  rw [Heap.get?_update_self f ho (by rw [hf] <;> rfl), hf]
 refine I.write (x := p) (e := p) (by rw [h]; trivial) (.inl rfl) (fun b u hb q => (Heap.get?_update_other _ _ (Ne.symm hb)).trans q) ⟨_, e⟩ ?_
 exact ⟨hz, its', n', r, e⟩
noncomputable def WR : V -> V -> V -> Hp -> (Hp -> Prop) -> Prop := fun o i v H Q => ∃ p xs k j, o = .ref p /\ i = .int k /\ H p = some (.lst xs) /\ ixN xs.length k = some j /\ Q (upd H p (.lst (xs.set j v)))
theorem Xj : BH X WR := by
  intro pins s σ H o i v ov iv u Q I ro ri rv h
  obtain ⟨p, xs, k, j, rfl, rfl, hp, hj, q⟩ := h
  cases ro
  obtain ⟨t, rfl⟩ := ri
  obtain ⟨its, n, r, ho, hz⟩ := I.lst hp
  obtain ⟨h1, h2, h3, h4⟩ := Q7 hj
  have hl := r.length
  have hn := xO
  have I' : Inv X pins σ (upd H p (.lst (xs.set j v))) { s with heap := s.heap.update p (Obj.mapSeq (·.setIfInBounds j u)) } :=
    I.lstUpd hp ho (Z2 its n j u) (r.set rv j) (by rw [List.length_set]; exact hz) s.toks
  by_cases h0 : 0 <= k
  · have hk : k.toNat = j := by
      rw [seqIndex_of h0 h4] at h1
      exact Option.some.inj h1
    exact PySem.W.ki_setAt ho h0 (by omega) (by rw [List.size_toArray, <- hl]; exact h4) (by rw [hk]; exact ⟨_, I', q⟩)
  · have hk : (k + (its.toArray.size : Int)).toNat = j := by
      rw [seqIndex_neg (by omega) h3] at h1
      rw [List.size_toArray, <- hl]
      exact Option.some.inj h1
    exact PySem.W.ki_setBack ho (by omega) (by rw [List.size_toArray, <- hl]; exact h3) (by omega) (by rw [hk]; exact ⟨_, I', q⟩)
theorem vN (lo hi : Option Int) (n : Nat) : (sliceBounds lo hi none n).1 = ((HT.sIx n 0 lo : Nat) : Int) /\ (sliceBounds lo hi none n).2.1 = ((HT.sIx n n hi : Nat) : Int) /\ (sliceBounds lo hi none n).2.2 = 1 := by
 refine ⟨?_, ?_, rfl⟩
 ·cases lo with
  | none => simp [sliceBounds, HT.sIx]
  | some i =>
   simp only [sliceBounds, HT.sIx, Option.getD_none, show (1 : Int) > 0 by decide, if_true]
   by_cases h : i < 0
   ·simp only [h, if_true] <;> omega
   ·simp only [h, if_false] <;> omega
 ·cases hi with
  | none => simp [sliceBounds, HT.sIx]
  | some i =>
   simp only [sliceBounds, HT.sIx, Option.getD_none, show (1 : Int) > 0 by decide, if_true]
   by_cases h : i < 0
   ·simp only [h, if_true] <;> omega
   ·simp only [h, if_false] <;> omega
theorem yE (its : List Value) (lo hi : Option Int) : slicePick its.toArray lo hi none = ((its.drop (HT.sIx its.length 0 lo)).take (HT.sIx its.length its.length hi - HT.sIx its.length 0 lo)).toArray := by
 obtain ⟨h1, h2, h3⟩ := vN lo hi its.toArray.size
 unfold slicePick
 rw [h1, h2, h3]
 simp only [sliceRange_one, pick_run, List.size_toArray] <;> rfl
noncomputable def AX (K : PySem.W.Frag) : V -> Option Int -> Option Int -> Hp -> VK -> Prop := fun x lo hi H Q => ∃ a xs, x = .ref a /\ SqL K H a xs /\ ∀ p, H p = none -> Q (.ref p) (upd H p (.lst (vv xs lo hi)))
theorem ka : SlR X (AX X.K) := by
 intro pins s σ H x v vl vu lo hi sl Q I rx hs pl pu h
 obtain ⟨a, xs, rfl, hx, q⟩ := h
 cases rx
 obtain ⟨its, r, ht, hz⟩ := I.list hx
 have hlen := r.length
 refine ⟨"list", _, slot_list_getitem.lookup, ht.isList.typeIs, ?_⟩
 refine wpAny_getItem_list_slice ht.isList hs pl pu .none (by simp) ?_ (by rw [List.size_toArray] <;> omega)
 rw [yE, <- hlen]
 refine ⟨.ref s.heap.objs.size, _, I.laid (t' := s.toks) (o := .lst (vv xs lo hi)) (fun b ob q => Heap.get?_push_of_some _ q) (Nat.le_refl _) ?_, rfl, q _ (I.hok.fresh (Nat.le_refl _))⟩
 exact ⟨Nat.le_trans (wK xs lo hi) hz, _, 0, (r.drop (HT.sIx xs.length 0 lo)).take (HT.sIx xs.length xs.length hi - HT.sIx xs.length 0 lo), Heap.get?_push_size _ rfl⟩
theorem zn : qk X (.builtin "len") (fun xs H Q => ∃ p ys, xs = [.ref p] /\ (SqL X.K H p ys \/ SqT X.K H p ys) /\ Q (.int ys.length) H) := by
 intro pins s σ H xs us Q I r h
 obtain ⟨p, ys, rfl, hq, q⟩ := h
 obtain ⟨u, rfl, rx⟩ := jp r
 cases rx
 have hn := xO
 rcases hq with hq | hq
 ·obtain ⟨its, r', pl, hz⟩ := I.list hq
  have hlen := r'.length
  exact Calls.call_len_list pl.isList (by simp only [List.size_toArray] <;> omega) ⟨.int ys.length, H, I.tok _, ⟨s.toks + 1, by rw [List.size_toArray, hlen]⟩, q⟩
 ·obtain ⟨its, r', pl, hz⟩ := I.tuple hq
  have hlen := r'.length
  exact len_tuple pl (by simp only [List.size_toArray] <;> omega) ⟨.int ys.length, H, I.tok _, ⟨s.toks + 1, by rw [List.size_toArray, hlen]⟩, q⟩
theorem je : qk X (.type "list") (fun xs H Q => ∃ p ys, xs = [.ref p] /\ (SqL X.K H p ys \/ SqT X.K H p ys) /\ ∀ l, H l = none -> Q (.ref l) (upd H l (.lst ys))) := by
 intro pins s σ H xs us Q I r h
 obtain ⟨p, ys, rfl, hq, q⟩ := h
 obtain ⟨u, rfl, rx⟩ := jp r
 cases rx
 have fin : ∀ (its : List Value), zr ys its -> ys.length <= sizeLine -> ∀ (h' : Heap) (c' : Nat), (∀ b o', s.heap.get? b = some o' -> h'.get? b = some o') ->
   h'.get? s.heap.objs.size = some { cls := .type "list", dict := none, data := .seq its.toArray c', slots := #[] } -> EP X pins σ Q (.ref s.heap.objs.size) { s with heap := h' } := fun its r' hz h' c' kp e =>
  ⟨.ref s.heap.objs.size, _, I.laid (t' := s.toks) kp (Nat.le_refl _) (show zC X.prog X.w _ h' _ (.lst ys) from ⟨hz, its, c', r', e⟩), rfl, q _ (I.hok.fresh (Nat.le_refl _))⟩
 rcases hq with hq | hq
 ·obtain ⟨its, r', pl, hz⟩ := I.list hq
  have hlen := r'.length
  obtain ⟨o, ho, hc, n, hd⟩ := pl.isList
  exact call_list_seq p (.inl rfl) ho hc hd (fun h' c' kp e => fin its r' hz h' c' kp e) (by simp only [List.size_toArray] <;> omega)
 ·obtain ⟨its, r', pl, hz⟩ := I.tuple hq
  have hlen := r'.length
  obtain ⟨o, ho, hc, n, hd⟩ := pl
  exact call_list_seq p (.inr rfl) ho hc hd (fun h' c' kp e => fin its r' hz h' c' kp e) (by simp only [List.size_toArray] <;> omega)
theorem jT : qk X (.type "tuple") (fun xs H Q => ∃ p ys, xs = [.ref p] /\ ((SqL X.K H p ys /\ ∀ l, H l = none -> Q (.ref l) (upd H l (.tup ys))) \/ (SqT X.K H p ys /\ Q (.ref p) H))) := by
 intro pins s σ H xs us Q I r h
 obtain ⟨p, ys, rfl, h⟩ := h
 obtain ⟨u, rfl, rx⟩ := jp r
 cases rx
 rcases h with ⟨hq, q⟩ | ⟨hq, q⟩
 ·obtain ⟨its, r', pl, hz⟩ := I.list hq
  have hlen := r'.length
  refine call_tuple_list pl.isList (fun h' kp => ?_) (by simp only [List.size_toArray] <;> omega)
  have I1 : Inv X pins σ H { s with heap := h' } := I.kept (t' := s.toks) kp
  have I2 : Inv X pins σ (upd H h'.objs.size (.tup ys)) { s with heap := h'.push { cls := .type "tuple", data := .seq its.toArray } } :=
   I1.laid (t' := s.toks) (fun b o e => Heap.get?_push_of_some _ e) (Nat.le_refl _) (show zC X.prog X.w _ _ _ (.tup ys) from ⟨hz, its, r', Zw.new _ _⟩)
  exact ⟨.ref h'.objs.size, _, I2, rfl, q _ (I1.hok.fresh (Nat.le_refl _))⟩
 ·obtain ⟨its, r', pl, hz⟩ := I.tuple hq
  exact call_tuple_same pl ⟨.ref p, H, I, rfl, q⟩
noncomputable def tyV (K : PySem.W.Frag) (T : String) (x : V) (H : Hp) : Prop := match x with
  | .str _ => T = "str"
  | .int _ => T = "int"
  | .ref p => (T = "list" /\ ∃ xs, SqL K H p xs) \/ (T = "tuple" /\ ((∃ xs, Rd H p (.tup xs)) \/ ∃ o, K.lookup p = some o /\ o.cls = .type "tuple" /\ o.dict = none)) \/
      (T = "dict" /\ ((∃ kvs, H p = some (.dK kvs)) \/ ∃ kvs, H p = some (.dT kvs))) \/ (T = "set" /\ ∃ S n, H p = some (.set S n))
  | _ => False
theorem KJ {pins : List (Addr × Obj)} {σ : St} {H : Hp} {s : Shared} {T : String} {x : V} {v : Value} (I : Inv X pins σ H s) (r : zt x v) (ty : tyV X.K T x H) :
    s.TypeIs v T /\ ∀ a, v = .ref a -> ∃ ob, s.heap.get? a = some ob /\ ob.dict = none := by
  cases x with
  | str z =>
    obtain ⟨t, rfl⟩ := r
    cases (show T = "str" from ty)
    exact ⟨typeIs_str s z t, fun _ e => nomatch e⟩
  | int i =>
    obtain ⟨t, rfl⟩ := r
    cases (show T = "int" from ty)
    exact ⟨typeIs_int s i t, fun _ e => nomatch e⟩
  | ref p =>
    cases r
    rcases ty with ⟨rfl, xs, hq⟩ | ⟨rfl, ⟨xs, hx⟩ | ⟨o, hk, hc, hd⟩⟩ | ⟨rfl, hk⟩ | ⟨rfl, S, n, hk⟩
    · obtain ⟨its, _, pl, _⟩ := I.list hq
      refine ⟨pl.isList.typeIs, fun a e => ?_⟩
      cases e
      obtain ⟨o, n, e, c, hd, _⟩ := pl
      exact ⟨o, e, hd⟩
    · obtain ⟨_, its, _, o, e, c, _, hd⟩ := hx.ok I.hok
      refine ⟨⟨o, e, c⟩, fun a e2 => ?_⟩
      cases e2
      exact ⟨o, e, hd⟩
    · refine ⟨⟨o, I.kIn p o hk, hc⟩, fun a e => ?_⟩
      cases e
      exact ⟨o, I.kIn _ o hk, hd⟩
    · have z : ∃ o, s.heap.get? p = some o /\ o.ExactDict := by
        rcases hk with ⟨kvs, hk⟩ | ⟨kvs, hk⟩
        · obtain ⟨_, _, _, _, o, _, _, e, ex, _⟩ := I.hok p _ hk
          exact ⟨o, e, ex⟩
        · obtain ⟨_, _, _, _, o, _, _, e, ex, _⟩ := I.hok p _ hk
          exact ⟨o, e, ex⟩
      obtain ⟨o, e, ex⟩ := z
      refine ⟨⟨o, e, ex.1⟩, fun a e2 => ?_⟩
      cases e2
      exact ⟨o, e, ex.2.1⟩
    · obtain ⟨o, _, _, _, e, ex, _⟩ := I.hok p _ hk
      refine ⟨⟨o, e, ex.1⟩, fun a e2 => ?_⟩
      cases e2
      exact ⟨o, e, ex.2.1⟩
  | _ => exact False.elim ty
noncomputable def DD (K : PySem.W.Frag) (T : String) (r : V -> List V -> Hp -> VK -> Prop) (to : TE) : TE := fun σ H Q => to σ H fun x H1 => tyV K T x H1 /\ r x [] H1 Q
noncomputable def tBM (K : PySem.W.Frag) (T : String) (r : V -> List V -> Hp -> VK -> Prop) (to : TE) (t : TA) : TE := fun σ H Q => to σ H fun x H1 => tyV K T x H1 /\ t σ H1 fun xs H2 => r x xs H2 Q
variable {o e : Expr} {es : List Expr} {to : TE} {t : TA} {name : Str} {apos cpos : Pos} {T id : String} {r : V -> List V -> Hp -> VK -> Prop}
theorem Bk (pa : PlainAttrs T) (slot : Slot T name id) (hty : typeOf (.builtin id) = pure (.type "method_descriptor")) (hm : MtR X id r) (ho : PE X o to)
  (hbase : attributeBase o name X.env (eval o X.env) = eval o X.env := by rfl) (hline : (apos.endLine == cpos.line) = true := by rfl) : PE X (.Call (.Attribute o name apos) [] [] cpos) (DD X.K T r to) := by
 intro pins s σ H Q I h
 refine wpAny_Call_method0_late hbase hline (thn (ho pins s σ H _ I h) fun v s1 ⟨x, H1, I1, r1, ty, q1⟩ => ?_)
 obtain ⟨h1, h2⟩ := KJ I1 r1 ty
 exact ⟨T, id, pa, slot, hty, h1, h2, Calls.callWith_builtin rfl (PySem.evalArgs_none (hm pins s1 σ H1 x [] v [] Q I1 r1 .nil q1))⟩
theorem xk (pa : PlainAttrs T) (slot : Slot T name id) (hty : typeOf (.builtin id) = pure (.type "method_descriptor")) (hm : MtR X id r) (ho : PE X o to) (ha : PA X (e :: es) t)
  (hbase : attributeBase o name X.env (eval o X.env) = eval o X.env := by rfl)
  (hfew : ((backTo cpos (starEach (e :: es) X.env)).all (fun x => !x.1) && (backToKw cpos (keywordEach [] X.env)).all (fun x => x.1.isSome)
   && decide ((e :: es).length + ([] : List Keyword).length + (if ([] : List Keyword).isEmpty then 0 else 1) < 30)) = true := by rfl)
  (hline : (apos.endLine == cpos.line) = true := by rfl) (hs : starEach (e :: es) X.env = (false, eval e X.env) :: starEach es X.env := by rfl) (hplain : (backTo cpos (starEach es X.env)).any (·.1) = false := by rfl) :
  PE X (.Call (.Attribute o name apos) (e :: es) [] cpos) (tBM X.K T r to t) := by
 intro pins s σ H Q I h
 refine wpAny_Call_method_late hbase hfew hline rfl (thn (ho pins s σ H _ I h) fun v s1 ⟨x, H1, I1, r1, ty, q1⟩ => ?_)
 obtain ⟨h1, h2⟩ := KJ I1 r1 ty
 refine ⟨T, id, pa, slot, hty, h1, h2, ?_⟩
 have hA := ha cpos pins s1 σ H1 _ I1 q1
 rw [hs] at hA ⊢
 refine Calls.callWith_builtin (by show (false || (backTo cpos (starEach es X.env)).any (·.1)) = false; rw [hplain] <;> rfl) (Calls.evalArgs_plain ?_)
 exact thn hA fun us s2 ⟨vs, H2, I2, r2, q2⟩ => hm pins s2 σ H2 x vs v us Q I2 r1 r2 q2
/- xs.append(e), list.index on a module's tuple .. are MtR facts of 06m -/
end
end L2
namespace L2
open PySem PySem.Spec PyProof.Rows
noncomputable def MtM (X : Cx) (id : String) (r : V -> List V -> Hp -> VK -> Prop) : Prop :=
 ∀ (pins : List (Addr × Obj)) (s : Shared) (σ : St) (H : Hp) (x : V) (xs : List V) (v : Value) (us : List Value) (Q : VK), Inv X pins σ H s -> zt x v -> zr xs us -> r x xs H Q ->
  wpAny (model X.prog X.w) X.A (call (.builtin id) (v :: us)) (EP X pins σ Q) X.xe s
theorem zr.one : ∀ {x : V} {us : List Value}, zr [x] us -> ∃ u, us = [u] /\ zt x u
 | _, _, .cons r .nil => ⟨_, rfl, r⟩
theorem zr.two : ∀ {x y : V} {us : List Value}, zr [x, y] us -> ∃ u v, us = [u, v] /\ zt x u /\ zt y v
 | _, _, _, .cons r (.cons q .nil) => ⟨_, _, rfl, r, q⟩
theorem zr.zero : ∀ {us : List Value}, zr [] us -> us = []
 | _, .nil => rfl
theorem zr.dropLast {xs : List V} {us : List Value} (h : zr xs us) : zr xs.dropLast us.dropLast := by
 induction h with
 | nil => exact .nil
 | cons r t ih =>
  cases t with
  | nil => exact .nil
  | cons q t' => exact .cons r ih
theorem zr.reverse {xs : List V} {us : List Value} (h : zr xs us) : zr xs.reverse us.reverse := by
 induction h with
 | nil => exact .nil
 | cons r t ih => rw [List.reverse_cons, List.reverse_cons]; exact zr.append ih (.cons r .nil)
theorem zr.rep {xs : List V} {us : List Value} (h : zr xs us) : ∀ k : Nat, zr (List.replicate k xs).flatten (List.replicate k us).flatten
 | 0 => .nil
 | k + 1 => by
  rw [List.replicate_succ, List.replicate_succ, List.flatten_cons, List.flatten_cons]
  exact zr.append h (zr.rep h k)
theorem ZO {α : Type} (l : List α) : l.eraseIdx (l.length - 1) = l.dropLast := by
 induction l with
 | nil => rfl
 | cons a r ih =>
  cases r with
  | nil => rfl
  | cons b r =>
   have e : (a :: b :: r).length - 1 = ((b :: r).length - 1) + 1 := by
    have h1 : (a :: b :: r).length = r.length + 2 := rfl
    have h2 : (b :: r).length = r.length + 1 := rfl
    omega
   rw [e, List.eraseIdx_cons_succ, ih]
   all_goals rfl
theorem yQ (its : List Value) : ∀ (k : Nat) (acc : List Value),
  List.foldl (fun x1 x2 => x1 ++ x2) acc.toArray (List.replicate k its.toArray) = (acc ++ (List.replicate k its).flatten).toArray
 | 0, acc => by simp
 | k + 1, acc => by
  have e : acc.toArray ++ its.toArray = (acc ++ its).toArray := by simp
  have e2 : (acc ++ its) ++ (List.replicate k its).flatten = acc ++ (List.replicate (k + 1) its).flatten := by
   rw [List.replicate_succ, List.flatten_cons, List.append_assoc]
  rw [<- e2, <- yQ its k (acc ++ its), <- e, List.replicate_succ, List.foldl_cons]
section
variable {X : Cx} {pins : List (Addr × Obj)} {σ : St} {H : Hp} {s : Shared} {l b : Addr} {xs ys zs : List V}
theorem Inv.lset {its its' : List Value} {n : Nat} {f : Array Value -> Array Value} {t' : Nat} (I : Inv X pins σ H s) (hH : H l = some (.lst xs))
  (e : s.heap.get? l = some { cls := .type "list", data := .seq its.toArray n }) (hf : f its.toArray = its'.toArray) (hv : zr ys its') (hz : ys.length <= sizeLine) :
  Inv X pins σ (upd H l (.lst ys)) { s with heap := s.heap.update l (Obj.mapSeq f), toks := t' } := by
 have q := PySem.IsL.update e f
 rw [hf] at q
 refine I.write (x := l) (e := l) (by rw [hH]; exact trivial) (.inl rfl) (fun b' u hb hu => (Heap.get?_update_other s.heap (Obj.mapSeq f) (Ne.symm hb)).trans hu) ⟨_, q⟩ ?_
 exact ⟨hz, its', _, hv, q⟩
theorem Inv.lnew {its : List Value} {t' : Nat} (I : Inv X pins σ H s) (hv : zr ys its) (hz : ys.length <= sizeLine) :
  Inv X pins σ (upd H s.heap.objs.size (.lst ys)) { s with heap := s.heap.push { cls := .type "list", data := .seq its.toArray }, toks := t' } :=
 I.laid (fun _ _ q => Heap.get?_push_of_some _ q) (Nat.le_refl _) ⟨hz, its, 0, hv, Heap.get?_push_size _ rfl⟩
theorem Inv.fresh (I : Inv X pins σ H s) : H s.heap.objs.size = none := I.hok.fresh (Nat.le_refl _)
theorem Inv.lstM (I : Inv X pins σ H s) (hH : H l = some (.lst xs)) : xs.length <= sizeLine /\ ∃ (its : List Value) (n : Nat), zr xs its /\ xs.length = its.length /\ s.heap.get? l = some { cls := .type "list", data := .seq its.toArray n } := by
 obtain ⟨z, its, n, r, e⟩ := I.hok l _ hH
 exact ⟨z, its, n, r, r.length, e⟩
theorem wn {n : Nat} (h : n <= sizeLine) : Builtin.List.listTooLong n = false := by
 unfold Builtin.List.listTooLong
 exact decide_eq_false (by omega)
end
section
variable {X : Cx}
noncomputable def xE : V -> List V -> Hp -> VK -> Prop := fun x vs H Q => ∃ l xs y, x = .ref l /\ vs = [y] /\ H l = some (.lst xs) /\ xs.length < sizeLine /\ Q .non (upd H l (.lst (xs ++ [y])))
theorem vj : MtM X "list.append" xE := by
 intro pins s σ H x vs v us Q I rx rv h
 obtain ⟨l, xs, y, rfl, rfl, hH, hz, q⟩ := h
 cases rx
 obtain ⟨u, rfl, ru⟩ := rv.one
 obtain ⟨z, its, n, r, hl, e⟩ := I.lstM hH
 refine call_meets F.slot_list_append ⟨_, e, rfl⟩ F.entry_list_append (F.args_list_append_2 _ _) (PySem.list_append l its.toArray n u (by rw [List.size_toArray]; omega)) ⟨e, ?_⟩
 refine ⟨.non, _, I.lset (its' := its ++ [u]) hH e (by simp) (r.append (.cons ru .nil)) ?_, rfl, q⟩
 rw [List.length_append, List.length_singleton]
 omega
noncomputable def Jh : V -> List V -> Hp -> VK -> Prop := fun x vs H Q => ∃ l b xs zs, x = .ref l /\ vs = [.ref b] /\ H l = some (.lst xs) /\ H b = some (.lst zs) /\ xs.length + zs.length <= sizeLine /\ Q .non (upd H l (.lst (xs ++ zs)))
theorem DG : MtM X "list.extend" Jh := by
 intro pins s σ H x vs v us Q I rx rv h
 obtain ⟨l, b, xs, zs, rfl, rfl, hH, hB, hz, q⟩ := h
 cases rx
 obtain ⟨u, rfl, ru⟩ := rv.one
 cases ru
 obtain ⟨z, its, n, r, hl, e⟩ := I.lstM hH
 obtain ⟨z2, its2, n2, r2, hl2, e2⟩ := I.lstM hB
 have hsz : its.toArray.size + its2.toArray.size <= sizeLine := by rw [List.size_toArray, List.size_toArray]; omega
 have hlong : ¬ (!its.toArray.isEmpty && Builtin.List.listTooLong (its.toArray.size + its2.toArray.size)) = true := by
  rw [wn hsz, Bool.and_false]
  exact Bool.false_ne_true
 refine call_meets F.slot_list_extend ⟨_, e, rfl⟩ F.entry_list_extend (F.args_list_extend_2 _ _)
  (AutoSeq1.list_extend_list_list_0 l its.toArray n b its2.toArray n2 hlong (by rw [List.size_toArray]; omega) (by omega)) ⟨e, e2, ?_⟩
 refine ⟨.non, _, I.lset (its' := its ++ its2) hH e (by simp) (r.append r2) ?_, rfl, q⟩
 rw [List.length_append]
 omega
noncomputable def EO : V -> List V -> Hp -> VK -> Prop := fun x vs H Q => ∃ l xs y, x = .ref l /\ vs = [] /\ H l = some (.lst xs) /\ xs[xs.length - 1]? = some y /\ Q y (upd H l (.lst xs.dropLast))
theorem EL : MtM X "list.pop" EO := by
 intro pins s σ H x vs v us Q I rx rv h
 obtain ⟨l, xs, y, rfl, rfl, hH, hy, q⟩ := h
 cases rx
 have hus := rv.zero
 subst hus
 obtain ⟨z, its, n, r, hl, e⟩ := I.lstM hH
 obtain ⟨u, hu, ru⟩ := r.get hy
 have hy' : its.toArray[its.toArray.size - 1]? = some u := by
  show its.toArray[its.length - 1]? = some u
  rw [<- Array.getElem?_toList, <- hl]
  exact hu
 refine call_meets F.slot_list_pop ⟨_, e, rfl⟩ F.entry_list_pop (F.args_list_pop_1 _) (MeetsSeq.list_pop_last l its.toArray n u hy' (by rw [List.size_toArray]; omega)) ⟨e, ?_⟩
 refine ⟨y, _, I.lset (its' := its.dropLast) hH e ?_ r.dropLast ?_, ru, q⟩
 ·show its.toArray.eraseIdxIfInBounds (its.toArray.size - 1) = its.dropLast.toArray
  rw [List.size_toArray, List.eraseIdxIfInBounds_toArray, ZO]
 ·rw [List.length_dropLast]
  omega
noncomputable def kh : V -> List V -> Hp -> VK -> Prop := fun x vs H Q => ∃ l xs, x = .ref l /\ vs = [] /\ H l = some (.lst xs) /\ Q .non (upd H l (.lst xs.reverse))
theorem Qa : MtM X "list.reverse" kh := by
 intro pins s σ H x vs v us Q I rx rv h
 obtain ⟨l, xs, rfl, rfl, hH, q⟩ := h
 cases rx
 have hus := rv.zero
 subst hus
 obtain ⟨z, its, n, r, hl, e⟩ := I.lstM hH
 refine call_meets F.slot_list_reverse ⟨_, e, rfl⟩ F.entry_list_reverse (F.args_list_reverse_1 _) (AutoSeq1.list_reverse_list_0 l its.toArray n (by rw [List.size_toArray]; omega)) ⟨e, ?_⟩
 refine ⟨.non, _, I.lset (its' := its.reverse) hH e (by simp) r.reverse ?_, rfl, q⟩
 rw [List.length_reverse]
 omega
noncomputable def Vu : R2 := fun x y H Q => ∃ l b xs zs, x = .ref l /\ y = .ref b /\ H l = some (.lst xs) /\ H b = some (.lst zs) /\ xs.length + zs.length <= sizeLine /\ ∀ p, H p = none -> Q (.ref p) (upd H p (.lst (xs ++ zs)))
theorem vM : OpR X (binaryOp .Add) Vu := by
 intro pins s σ H x y v u Q I rx ry h
 obtain ⟨l, b, xs, zs, rfl, rfl, hH, hB, hz, q⟩ := h
 cases rx
 cases ry
 obtain ⟨z, its, n, r, hl, e⟩ := I.lstM hH
 obtain ⟨z2, its2, n2, r2, hl2, e2⟩ := I.lstM hB
 refine PySem.P.add_list e e2 ?_ (by rw [List.size_toArray, List.size_toArray]; omega)
 have ea : its.toArray ++ its2.toArray = (its ++ its2).toArray := by simp
 rw [ea]
 exact ⟨.ref _, _, I.lnew (t' := s.toks) (r.append r2) (by rw [List.length_append]; omega), rfl, q _ I.fresh⟩
noncomputable def Bh : R2 := fun x y H Q => ∃ l k xs, x = .ref l /\ y = .int k /\ H l = some (.lst xs) /\ -(2 ^ 63) <= k /\ k < 2 ^ 63 /\ xs.length * k.toNat <= sizeLine /\
 ∀ p, H p = none -> Q (.ref p) (upd H p (.lst (List.replicate k.toNat xs).flatten))
theorem Ws {α : Type} (xs : List α) (k : Nat) : (List.replicate k xs).flatten.length = k * xs.length := by
 induction k with
 | zero => simp
 | succ k ih => rw [List.replicate_succ, List.flatten_cons, List.length_append, ih, Nat.succ_mul, Nat.add_comm]
theorem XB : OpR X (binaryOp .Mult) Bh := by
 intro pins s σ H x y v u Q I rx ry h
 obtain ⟨l, k, xs, rfl, rfl, hH, h1, h2, hz, q⟩ := h
 cases rx
 obtain ⟨t, rfl⟩ := ry
 obtain ⟨z, its, n, r, hl, e⟩ := I.lstM hH
 have hlen : its.toArray.size * k.toNat <= sizeLine := by rw [List.size_toArray, <- hl]; exact hz
 have hcap : ¬ its.toArray.size * k.toNat > (2 ^ 63 - 1) / 8 := by
  have : (sizeLine : Nat) <= (2 ^ 63 - 1) / 8 := by decide
  omega
 have hfit : ¬ (!Builtin.List.listFitsIndex k) = true := by
  rw [fitsIndex_both h1 h2]
  exact Bool.false_ne_true
 have hlong : ¬ Builtin.List.listTooLong (its.toArray.size * k.toNat) = true := by
  rw [wn hlen]
  exact Bool.false_ne_true
 have hnew : List.foldl (fun x1 x2 => x1 ++ x2) #[] (List.replicate (if its.toArray.isEmpty = true then 0 else k.toNat) its.toArray) = (List.replicate k.toNat its).flatten.toArray := by
  have f0 : ∀ m : Nat, List.foldl (fun x1 x2 => x1 ++ x2) #[] (List.replicate m its.toArray) = (List.replicate m its).flatten.toArray := fun m => by
   have := yQ its m []
   rw [List.nil_append] at this
   exact this
  rw [f0]
  cases its with
  | nil => simp
  | cons a r' => rw [if_neg (by simp)]
 refine wpAny_binaryOp_repeat_ref (T := "list") (U := "int") (by decide) ⟨_, e, rfl⟩ (fun s' => typeIs_int s' k t) noFill_list_mul F.fills_int_mul F.slot_int_rmul repeat_list F.slot_int_index.lookup
  (call_meets F.slot_int_rmul (typeIs_int s k t) F.entry_int_rmul (F.args_int_rmul_2 _ _) (int___rmul___int_list k t l its.toArray n)
   ⟨e, rfl, ⟨_, e, rfl⟩, call_meets F.slot_list_mul ⟨_, e, rfl⟩ F.entry_list_mul (F.args_list_mul_2 _ _) (AutoListH.list___mul___list_int_3 l its.toArray n k t hfit hcap hlong) ⟨e, ?_⟩⟩)
 rw [hnew]
 exact ⟨.ref _, _, I.lnew (t' := s.toks) (r.rep k.toNat) (by rw [Ws, Nat.mul_comm]; exact hz), rfl, q _ I.fresh⟩
end
section
variable {prog : Program} {w : World} {A : Around} {E : Value -> Shared -> Prop} {s : Shared}
end
section
variable {X : Cx}
end
end L2
namespace Att
open PySem PySem.W PySem.Calls PyProof.Rows
theorem xx {P : Params} {h : Heap} : ∀ (ns : List Int) (vs : List Value), WellAll P h vs (ns.map WData.int) -> IntsAre vs ns := by
 intro ns
 induction ns with
 | nil =>
  intro vs w
  rw [List.map_nil] at w
  cases w
  exact .nil
 | cons n ns ih =>
  intro vs w
  rw [List.map_cons] at w
  cases w with
  | cons a b =>
   cases a
   exact .cons _ _ (ih _ b)
theorem JU {l : OpenLaw} {n : Nat} (hn : l.most = some n) {P : Params} {h : Heap} {args : List WData} {vals : List Value}
  (hpre : l.row.toRowW.claim.pre args = true) (hwl : WellAll P h vals args) :
  ∃ a vs ns, vals = [Value.ref a] /\ args = [WData.list (ns.map WData.int)] /\ h.get? a = some { cls := .type "list", data := .seq vs.toArray } /\ IntsAre vs ns /\ ns.length <= n := by
 have hsh : WShape.hasAll [] args [.list .int] = true := (pre_splitW hpre).1
 have hc : l.pre.holds [] { args := args } = true := (pre_splitW hpre).2
 obtain ⟨d, r, rfl, h1, h2⟩ := hasAllW_cons hsh
 obtain rfl := hasAllW_nil h2
 obtain ⟨xs, rfl, h3⟩ := hasW_list h1
 obtain ⟨ns, rfl⟩ := items_int h3
 have hlen : ns.length <= n := by
  unfold OpenLaw.pre at hc
  have h4 : (WTm.not (.lt (.lit (.int (n : Int))) (.len (.arg 0)))).holds [] { args := [.list (ns.map .int)] } = true := by
   have h4 := (holds_andW hc).1
   rw [hn] at h4
   exact h4
  have h5 := condW_of h4 (w_not (w_lt w_lit (w_len_list (w_arg rfl))))
  rw [List.length_map] at h5
  refine Nat.le_of_not_lt fun q => ?_
  have q' : (n : Int) < ((ns.length : Nat) : Int) := by omega
  first
   | (rw [decide_eq_true q'] at h5; exact absurd h5 (by decide))
   | (simp at h5; omega)
 cases hwl with
 | cons w1 w2 =>
  cases w2
  cases w1 with
  | list ho hall => exact ⟨_, _, ns, rfl, rfl, ho, xx ns _ hall, hlen⟩
theorem Jl (l : OpenLaw) (args : List WData) : l.row.toRowW.claim.post args (.bool true) args = true :=
 postW_of (r := l.row.toRowW) (X := (true == true))
  (show WShape.has [] (.bool true) .bool = true by first | rfl | decide | simp [WShape.has, WShape.arms, WShape.armsAll])
  (show (WTm.eq .res (.lit (.bool true))).value [] { args := args, res := some (.bool true), after := args } = some (.bool (true == true)) from w_eq_bool (w_res rfl) w_lit) rfl
theorem attach_call {l : OpenLaw} {n : Nat} {q : Program} {loose : List Str} {XP : (Str -> Option Value) -> Heap -> Prop} {YP : World -> Heap -> Prop} {d : DefRec}
  (hn : l.most = some n) (hdf : d.params.defaults = [])
  (call : ∀ (w : World) (s₀ s₁ : Shared) (mg mb : Str -> Option Value) (fa : Addr) (o : Obj) (pm cd doc : Value) (a : Addr) (vs : List Value) (ns : List Int),
   Ground q loose [] XP w s₀ mg mb s₁.heap -> YP w s₁.heap ->
   s₁.heap.get? fa = some o -> o.data = .func (docDef d.name d.params d.body d.scope pm cd doc) -> s₁.heap.CodeRec cd d.name -> mg d.name = some (.ref fa) ->
   s₁.heap.get? a = some { cls := .type "list", data := .seq vs.toArray } -> IntsAre vs ns -> ns.length <= n -> s₁.gens = #[] ->
   codeAny (model l.prog w) callerA (.call (.ref fa) ⟨[.ref a], []⟩) (fun r s' => r = .ok (.ret (.bool true)) /\ OldK s₁.heap s'.heap /\ s'.os = s₁.os /\ AllBare s'.gens) s₁) :
  WalkO q loose XP YP l.row.toRowW d [] (fun f vs => PySem.call f vs) := by
 intro w s₀ s₁ mg mb G Y fa o pm cd doc dV kV ho hd hcd hD hmg hg args vals as hpre hlay hrd hwl hlo
 obtain rfl : dV = .none := Dflts.none hD hdf
 obtain rfl : kV = .none := Dflts.noKw hD
 obtain ⟨a, vs, ns, rfl, rfl, hobj, hints, hlen⟩ := JU hn hpre hwl
 refine enter_call (codeAny_mono (call w s₀ s₁ mg mb fa o pm cd doc a vs ns G Y ho (fd_plain hd) hcd hmg hobj hints hlen hg) fun r s' hq => ?_)
 obtain ⟨rfl, h2, h3, h4⟩ := hq
 exact ⟨.inl ⟨.bool true, .bool true, [], rfl, fun _ => rfl, .bool true, Jl l _, fun _ => ⟨List.Pairwise.nil, fun _ hm => (nomatch hm)⟩⟩, h2, h3, h4⟩
section
variable {prog : Program} {w : World} {A : Around} {E : Value -> Shared -> Prop} {s : Shared} {K : Frag}
noncomputable def Ew (h : Heap) (L d : Addr) : List (Addr × Obj) := (List.range h.objs.size).filterMap fun a => if a = L \/ a = d then none else (h.get? a).map fun o => (a, o)
end
end Att
namespace L2
open PySem PySem.Spec PyProof.Rows
theorem xh : ∀ {vs : List Value} {ns : List Int}, IntsAre vs ns -> zr (ns.map V.int) vs
 | _, _, .nil => .nil
 | _, _, .cons n t h => .cons ⟨t, rfl⟩ (xh h)
noncomputable def Da (H : Hp) : Prop := ∀ b, H b = none \/ ∃ o xs, H b = some (.frz o (.lst xs))
theorem Xc {P : Program} {w : World} {K : PySem.W.Frag} {mg mb : Str -> Option Value} {CX : CXT} {k : Nat} {fa a : Addr} {fd : FuncData} {x : Str} {sp : Sp} {s₁ : Shared} {vs : List Value} {ns : List Int}
  (KX : K.In s₁.heap) (hns : s₁.heap.Ns mainGlobals mg) (hb : s₁.heap.Ns builtinsNs mb) (hbb : ∀ x : Str, x ≠ "__name__" -> mb x = bootBuiltins x) (hlim : s₁.heap.NoLimit) (hg : s₁.gens = #[])
  (ha : s₁.heap.get? a = some { cls := .type "list", data := .seq vs.toArray }) (hi : IntsAre vs ns) (hl : ns.length <= sizeLine) (hr : qL k callerA)
  (F : ∀ base : Heap, K.In base -> base.Ns mainGlobals mg -> jv P w K mg base CX k fa fd [x] sp) (hbind : ∀ (s : Shared) (u : Value), BindsTo s fd ⟨[u], []⟩ [(x, u)])
  (hsp : ∀ H : Hp, Da H -> SqL K H a (ns.map V.int) -> sp [.ref a] H (fun v _ => v = .bl true) fun _ _ _ => False)
  (hCX : ∀ H e s', CX [] H s₁ (fun _ _ _ => False) e s' -> False) :
  codeAny (model P w) callerA (.call (.ref fa) ⟨[.ref a], []⟩) (fun r s' => r = .ok (.ret (.bool true)) /\ OldK s₁.heap s'.heap /\ s'.os = s₁.os /\ AllBare s'.gens) s₁ := by
 have rv := xh hi
 have lenV := hi.length
 have core : ∀ H : Hp, Da H -> SqL K H a (ns.map V.int) -> HOk P w H s₁.heap -> (∀ b, H b ≠ none -> b = a) -> (H a ≠ none -> K.lookup a = none) ->
   codeAny (model P w) callerA (.call (.ref fa) ⟨[.ref a], []⟩) (fun r s' => r = .ok (.ret (.bool true)) /\ OldK s₁.heap s'.heap /\ s'.os = s₁.os /\ AllBare s'.gens) s₁ := by
  intro H hO hS hok hA hK
  have base_of : ∀ {b : Addr} {o : Obj}, s₁.heap.get? b = some o -> H b = none -> (vo s₁.heap H).get? b = some o := fun e n => Yf e n
  have noA : ∀ {b : Addr} {o : Obj} {es : Array DictEntry} {ep : Nat}, s₁.heap.get? b = some o -> o.data = .dict es ep -> H b = none := fun {b o es ep} e d => by
   cases q : H b with
   | none => rfl
   | some u =>
    have e' : b = a := hA b (by rw [q]; simp)
    subst e'
    rw [ha] at e; cases e
    have d' : Data.seq vs.toArray _ = Data.dict es ep := d
    cases d'
  have nsK : ∀ {b : Addr} {m : Str -> Option Value}, s₁.heap.Ns b m -> (vo s₁.heap H).Ns b m := fun {b m} ⟨o, es, ep, e, d, r⟩ => ⟨o, es, ep, base_of e (noA e d), d, r⟩
  have hKb : K.In (vo s₁.heap H) := fun b o e => base_of (KX b o e) (by
   cases q : H b with
   | none => rfl
   | some u =>
    have e' : b = a := hA b (by rw [q]; simp)
    subst e'
    rw [hK (by rw [q]; simp)] at e; cases e)
  have hM : Mod K mg (vo s₁.heap H) := ⟨hKb, nsK hns, ⟨mb, nsK hb, hbb⟩, let ⟨mc, h1, h2⟩ := hlim; ⟨mc, nsK h1, h2⟩⟩
  have e0 : VL P w K mg (vo s₁.heap H) callerA [] s₁ H := ⟨rfl, hM, fun b o e => Ve e, Nat.le_of_eq (Kj _ _), trivial, fun b hb => absurd (show b ∈ ([] : List Addr) from hb) (by simp), hok, .of_eq hg⟩
  refine codeAny_mono ((F _ hKb (nsK hns)).run callerA [] s₁ H ⟨[.ref a], []⟩ [.ref a] [.ref a] _ _ hr e0 (hbind s₁ (.ref a)) (.cons rfl .nil) (hsp H hO hS)) fun r s' h => ?_
  cases r with
  | error e => exact (hCX H e s' h).elim
  | ok fl =>
   cases fl with
   | next => exact False.elim h
   | brk => exact False.elim h
   | cont => exact False.elim h
   | ret u =>
    obtain ⟨v, H', os, bare, un, hok', r', q⟩ := h
    have q' : v = .bl true := q
    subst q'
    obtain rfl : u = Value.bool true := r'
    refine ⟨rfl, OldK.of_keep fun b o e => ?_, os, bare⟩
    cases q : H b with
    | none => exact un.keep b o e q (by intro z; exact absurd (show b ∈ ([] : List Addr) from z) (by simp)) (by simp)
    | some u =>
     rcases hO b with z | ⟨ob, xs, z⟩
     ·rw [q] at z; cases z
     ·have z2 := un.frzs b ob _ z
      obtain ⟨e1, _⟩ := hok b _ z
      obtain ⟨e2, _⟩ := hok' b _ z2
      rw [e] at e1; cases e1
      exact e2
 cases hk : K.lookup a with
 | some o =>
  have e := KX a o hk
  rw [ha] at e
  cases e
  refine core (fun _ => none) (fun _ => .inl rfl) (.inr ⟨_, vs.toArray, _, hk, rfl, rfl, rfl, by rw [List.size_toArray, lenV]; exact hl, by simpa using rv⟩) (fun b u z => by have z' : (none : Option HO) = some u := z; cases z') (fun b z => absurd rfl z) fun z => absurd rfl z
 | none =>
  refine core (fun b => if b = a then some (.frz { cls := .type "list", data := .seq vs.toArray } (.lst (ns.map V.int))) else none) (fun b => ?_) (.inl (.inr ⟨{ cls := .type "list", data := .seq vs.toArray }, if_pos rfl⟩)) (fun b u z => ?_) (fun b z => ?_) fun _ => hk
  ·by_cases hb : b = a
   ·exact .inr ⟨_, _, if_pos hb⟩
   ·exact .inl (if_neg hb)
  ·by_cases hb : b = a
   ·have z' := (if_pos hb).symm.trans z
    cases z'
    subst hb
    exact ⟨ha, by rw [List.length_map]; exact hl, vs, _, rv, ha⟩
   ·have z' := (if_neg hb).symm.trans z
    cases z'
  ·by_cases hb : b = a
   ·exact hb
   ·exact absurd (if_neg hb) z
end L2
namespace L2
open PySem PySem.Spec PyProof.Rows
noncomputable abbrev KOf {K : PySem.W.Frag} {h : Heap} (_ : K.In h) : PySem.W.Frag := K
theorem walk_of {l : PySem.W.OpenLaw} {n k : Nat} {q : Program} {loose : List Str} {XP : (Str -> Option Value) -> Heap -> Prop} {YP : World -> Heap -> Prop} {d : DefRec} {K : Params -> PySem.W.Frag} {CX : World -> CXT} {sp : World -> Sp} {x : Str}
  (hn : l.most = some n) (hn2 : n <= sizeLine) (hdf : d.params.defaults = []) (hr : qL k callerA)
  (hY : ∀ (w : World) (h : Heap), YP w h -> (K w.params).In h)
  (F : ∀ (w : World) (mg : Str -> Option Value) (fa : Addr) (h : Heap), (K w.params).In h -> h.Ns mainGlobals mg -> mg d.name = some (.ref fa) ->
   ∃ fd : FuncData, (∀ (s : Shared) (u : Value), BindsTo s fd ⟨[u], []⟩ [(x, u)]) /\
    ∀ base : Heap, (K w.params).In base -> base.Ns mainGlobals mg -> jv l.prog w (K w.params) mg base (CX w) k fa fd [x] (sp w))
  (hsp : ∀ (w : World) (H : Hp) (a : Addr) (ns : List Int), ns.length <= n -> Da H -> SqL (K w.params) H a (ns.map V.int) -> sp w [.ref a] H (fun v _ => v = .bl true) fun _ _ _ => False)
  (hCX : ∀ (w : World) (H : Hp) (s : Shared) (e : Value) (s' : Shared), CX w [] H s (fun _ _ _ => False) e s' -> False) :
  PySem.W.WalkO q loose XP YP l.row.toRowW d [] (fun f vs => PySem.call f vs) := by
 refine Att.attach_call hn hdf fun w s₀ s₁ mg mb fa o pm cd doc a vs ns G Y ho hd hcd hmg hobj hints hlen hg => ?_
 have KX := hY w _ Y
 obtain ⟨fd, hb, hF⟩ := F w mg fa _ KX G.T.g hmg
 exact Xc KX G.T.g G.T.b G.T.builtins G.T.nolimit hg hobj hints (Nat.le_trans hlen hn2) hr hF hb (fun H hO hS => hsp w H a ns hlen hO hS) fun H e s' => hCX w H s₁ e s'
end L2
/- THE LAST THEOREM (shape; LID, My.* are yours):
   My.Adr: a structure of the addresses that your layer names (classes, functions); My.Txt K t: a structure (Prop) of the equations over K;
   My.txt_mk : {K} {implicit addresses ..} (e1 : nsIn K mainGlobals "law" = some (some (.ref f))) (e2 : K.lookup f = some ⟨oc, od, .func (fnOf "law" "law" params body scope dV kV doc pm an cdv ct), sl⟩) (e3 : codeIn K cdv "law" = true) .. : ∃ t, My.Txt K t
set_option maxRecDepth 100000 in
set_option maxHeartbeats 0 in
theorem PySem.Challenge.cw_LID_holds : PySem.Challenge.rw_LID.Holds := by
 w_on; o_law; k_head; (case hw => w_witness2)
 k_fill
 refine L2.walk_of (l := PySem.Challenge.rw_LID) (n := 63) (k := 40) (x := "script") (CX := fun w => ..) (sp := fun _ => My.sp_law) rfl (by decide) rfl ⟨rfl, by decide, by decide⟩ (fun w h Y => PySem.W.kIn_of Y) ?F ?S ?C
 case F =>
  intro w mg fa h KX G hmg
  have T : ∃ t, My.Txt (L2.KOf KX) t := by
   dsimp only [L2.KOf]                          -- K must stand as «<heap const> w.params» for k_is
   refine' My.txt_mk ?e1 ?e2 ?e3 ..
   (case e1 => PySem.W.k_is)                    -- in the order: a name -> its address -> its object -> its parts
   (case e2 => PySem.W.k_is)
   ..
  obtain ⟨t, T⟩ := T
  have e0 := hmg.symm.trans (PySem.W.mg_of KX G T.law)
  cases e0                                       -- fa is the law's own address
  exact ⟨_, fun s u => .of_eq rfl, fun base kb nb => My.law_fn T kb nb⟩     -- if «.of_eq rfl» comes too early: refine' ⟨_, ?b, fun base kb nb => My.law_fn T kb nb⟩; exact fun s u => .of_eq rfl
 case S => exact fun w H a ns hl hO hS => ..
 case C => exact ..
(the tactic k_is has no namespace: write k_is) -/
namespace L2
open PySem PySem.Spec PyProof.Rows
noncomputable def qF (s : Stmt) : Arguments := match s with
 | .FunctionDef _ a _ _ _ _ _ _ _ _ => a
 | _ => { posonlyargs := [], args := [], vararg := none, kwonlyargs := [], kw_defaults := [], kwarg := none, defaults := [] }
noncomputable def zX (s : Stmt) : List Stmt := match s with
 | .FunctionDef _ _ b _ _ _ _ _ _ _ => b
 | _ => []
noncomputable def zj (s : Stmt) : Scope := match s with
 | .FunctionDef _ _ _ _ _ _ sc _ _ _ => sc
 | _ => { kind := .function, names := [], isGenerator := false, isCoroutine := false }
noncomputable abbrev CX0 : CXT := fun _ _ _ _ _ _ => False
noncomputable abbrev E0 : XK := fun _ _ _ => False
theorem DQ {X : Cx} : vI CX0 X E0 := fun _ _ _ _ _ _ _ h => h.elim
structure Fun (K : PySem.W.Frag) (x qual : Str) (st : Stmt) (f : Addr) (fd : FuncData) : Prop where
 ex : ∃ (oc : Value) (od : Option Addr) (kV doc pm : Value) (an : Option Addr) (cdv ct : Value) (osl : Array (Option Value)),
  fd = PySem.W.fnOf x qual (qF st) (zX st) (zj st) .none kV doc pm an cdv ct /\ K.lookup f = some ⟨oc, od, .func fd, osl⟩ /\ PySem.W.codeIn K cdv qual = true
 kp : PySem.W.keepIn K (.ref f) = true
section
variable {P : Program} {w : World} {K : PySem.W.Frag} {mg : Str -> Option Value} {base : Heap}
theorem Fun.ok {x qual : Str} {st : Stmt} {f : Addr} {fd : FuncData} {N ps : List Str} {k : Nat} {sp : Sp} (F : Fun K x qual st f fd) (S : zA N ps (zj st)) (len : ∀ vs H Q E, sp vs H Q E -> vs.length = ps.length)
  (hbody : ∀ (cdv : Value) (A : Around) (outer : List Env) (s : Shared) (H : Hp) (vs : List V) (Q : VK) (E : XK), qL k (A.deeper (envOfC qual (zj st) s.heap.objs.size f cdv)) -> sp vs H Q E ->
   ∃ t, PSs (xa CX0 P w K mg base N qual (zj st) f cdv A outer s H E).nox (zX st) t /\ t { nx := fun _ H' => Q .non H', rt := Q } (start N vs) H) : jv P w K mg base CX0 (k + 1) f fd ps sp := by
 obtain ⟨oc, od, kV, doc, pm, an, cdv, ct, osl, rfl, lk, hcd⟩ := F.ex
 refine Ab lk hcd S len fun A outer s H vs Q E hr hsp => ?_
 obtain ⟨t, h, q⟩ := hbody cdv A outer s H vs Q E hr hsp
 exact ⟨t, h.nox, q⟩
theorem Fun.binds {x qual : Str} {st : Stmt} {f : Addr} {fd : FuncData} {ps : List Str} (F : Fun K x qual st f fd)
  (h : ∀ (kV doc pm : Value) (an : Option Addr) (cdv ct : Value) (us : List Value), us.length = ps.length -> bindArgs (PySem.W.fnOf x qual (qF st) (zX st) (zj st) .none kV doc pm an cdv ct) ⟨us, []⟩ = pure (ps.zip us)) : xq K fd ps [] := by
 obtain ⟨oc, od, kV, doc, pm, an, cdv, ct, osl, rfl, lk, hcd⟩ := F.ex
 exact .all (h kV doc pm an cdv ct)
theorem Kr {x qual : Str} {st : Stmt} {f : Addr} {oc : Value} {od an : Option Addr} {osl : Array (Option Value)} {kV doc pm cdv ct : Value} (l : K.lookup f = some ⟨oc, od, .func (PySem.W.fnOf x qual (qF st) (zX st) (zj st) .none kV doc pm an cdv ct), osl⟩)
  (c : PySem.W.codeIn K cdv qual = true) (k : PySem.W.keepIn K (.ref f) = true) : Fun K x qual st f (PySem.W.fnOf x qual (qF st) (zX st) (zj st) .none kV doc pm an cdv ct) := ⟨⟨oc, od, kV, doc, pm, an, cdv, ct, osl, rfl, l, c⟩, k⟩
end
theorem W4 {A : Around} {k : Nat} (hr : qL k A) : A.units + 1 < cLine := Nat.lt_of_le_of_lt (Nat.add_le_add_left (by decide : 1 <= 64) _) hr.units
theorem vg {n : Nat} (h : n <= 1000) : n < sizeLine := Nat.lt_of_le_of_lt h (by decide)
section
variable {X : Cx}
theorem pv (i : Nat) {x : Str} {pos : Pos} (hN : X.N[i]? = some x := by rfl) (hv : Vis X.env.scope x := by first | exact Or.inl rfl | exact Or.inr (Or.inl rfl) | exact Or.inr (Or.inr rfl)) (hd : (x == ("__debug__" : Str)) = false := by decide)
  (hcd : (x == ("__classdict__" : Str)) = false := by decide) : PE X (.Name x pos) (Yb i) := B3 hN hv hd hcd
end
theorem kR {c A B : Prop} [Decidable c] (h1 : c -> A) (h2 : ¬ c -> B) : if c then A else B := by
 by_cases h : c
 ·rw [if_pos h]
  exact h1 h
 ·rw [if_neg h]
  exact h2 h
end L2
namespace L2
open PySem PySem.Spec PyProof.Rows
section
variable {κ : Type} [DecidableEq κ]
noncomputable def qI (kvs : List (κ × V)) (k : κ) : Option V := (kvs.find? fun kv => decide (kv.1 = k)).map (·.2)
noncomputable def jR (kvs : List (κ × V)) (k : κ) (v : V) : List (κ × V) :=
 if (kvs.any fun kv => decide (kv.1 = k)) = true then kvs.map (fun kv => if kv.1 = k then (kv.1, v) else kv) else kvs ++ [(k, v)]
theorem qd {p : κ × V} {r : List (κ × V)} {k : κ} (e : p.1 = k) : qI (p :: r) k = some p.2 := by simp [qI, List.find?_cons, e]
theorem qg {p : κ × V} {r : List (κ × V)} {k : κ} (e : ¬ p.1 = k) : qI (p :: r) k = qI r k := by simp [qI, List.find?_cons, e]
theorem kB (k : κ) : ∀ kvs : List (κ × V), (kvs.any fun kv => decide (kv.1 = k)) = (qI kvs k).isSome
 | [] => rfl
 | p :: r => by
  rw [List.any_cons]
  by_cases e : p.1 = k
  ·simp only [qd e, decide_eq_true e, Bool.true_or, Option.isSome_some]
  ·rw [qg e, decide_eq_false e, Bool.false_or]; exact kB k r
theorem wy (k j : κ) (y : V) : ∀ kvs : List (κ × V), qI (kvs.map fun kv => if kv.1 = k then (kv.1, y) else kv) j = (qI kvs j).map fun x => if j = k then y else x
 | [] => rfl
 | p :: r => by
  have ih := wy k j y r
  rw [List.map_cons]
  by_cases h : p.1 = k
  ·rw [if_pos h]
   by_cases e : p.1 = j
   ·rw [qd (p := (p.1, y)) e, qd e, Option.map_some, if_pos (e.symm.trans h)]
   ·rw [qg (p := (p.1, y)) e, qg e, ih]
  ·rw [if_neg h]
   by_cases e : p.1 = j
   ·rw [qd (p := p) e, qd e, Option.map_some, if_neg (fun z => h (e.trans z))]
   ·rw [qg (p := p) e, qg e, ih]
theorem yJ (k j : κ) (y : V) : ∀ kvs : List (κ × V), qI kvs k = none -> qI (kvs ++ [(k, y)]) j = if j = k then some y else qI kvs j
 | [], _ => by
  by_cases e : k = j
  ·rw [if_pos e.symm]; exact qd (p := (k, y)) e
  ·rw [if_neg (fun z => e z.symm)]; exact qg (p := (k, y)) e
 | p :: r, hn => by
  rw [List.cons_append]
  have hk : ¬ p.1 = k := fun z => by rw [qd z] at hn; cases hn
  rw [qg hk] at hn
  have ih := yJ k j y r hn
  by_cases e : p.1 = j
  ·rw [qd e, qd e, if_neg (fun z => hk (e.trans z))]
  ·rw [qg e, qg e, ih]
theorem X9 (kvs : List (κ × V)) (k j : κ) (y : V) : qI (jR kvs k y) j = if j = k then some y else qI kvs j := by
 unfold jR
 by_cases a : (kvs.any fun kv => decide (kv.1 = k)) = true
 ·rw [if_pos a, wy]
  rw [kB] at a
  by_cases e : j = k
  ·obtain ⟨x, hx⟩ := Option.isSome_iff_exists.mp a
   rw [if_pos e, e, hx, Option.map_some, if_pos rfl]
  ·rw [if_neg e]
   cases qI kvs j with
   | none => rfl
   | some x => rw [Option.map_some, if_neg e]
 ·rw [if_neg a]
  refine yJ k j y kvs ?_
  rw [kB] at a
  cases q : qI kvs k with
  | none => rfl
  | some x => rw [q] at a; exact (a rfl).elim
theorem jF (kvs : List (κ × V)) (k : κ) (v : V) : (jR kvs k v).length <= kvs.length + 1 := by
 unfold jR
 split
 ·rw [List.length_map]; omega
 ·rw [List.length_append, List.length_cons, List.length_nil]; omega
theorem ZX.isSome_eq {o : Option V} {u : Option Value} (r : ZX o u) : o.isSome = u.isSome := by
 cases o with
 | none => cases u with
  | none => rfl
  | some _ => exact (show False from r).elim
 | some _ => cases u with
  | none => exact (show False from r).elim
  | some _ => rfl
theorem KV.val {kvs : List (κ × V)} {vs : List (κ × Value)} (r : KV kvs vs) (k : κ) : ZX (qI kvs k) (valueAt vs k) := by
 unfold KV at r
 induction r with
 | nil => exact True.intro
 | @cons p q ps qs h t ih =>
  obtain ⟨h1, h2⟩ := h
  by_cases e : p.1 = k
  ·have e' : q.1 = k := h1.symm.trans e
   have b : valueAt (q :: qs) k = some q.2 := by simp [valueAt, List.find?_cons, e']
   rw [qd e, b]; exact h2
  ·have e' : ¬ q.1 = k := fun z => e (h1.trans z)
   have b : valueAt (q :: qs) k = valueAt qs k := by simp [valueAt, List.find?_cons, e']
   rw [qg e, b]; exact ih
theorem KV.any {kvs : List (κ × V)} {vs : List (κ × Value)} (r : KV kvs vs) (k : κ) : (kvs.any fun kv => decide (kv.1 = k)) = vs.any fun kv => decide (kv.1 = k) := by
 unfold KV at r
 induction r with
 | nil => rfl
 | cons h t ih => rw [List.any_cons, List.any_cons, ih, h.1]
theorem KV.repl {kvs : List (κ × V)} {vs : List (κ × Value)} (r : KV kvs vs) (k : κ) {y : V} {u : Value} (ry : zt y u) :
  KV (kvs.map fun kv => if kv.1 = k then (kv.1, y) else kv) (vs.map fun kv => if kv.1 = k then (kv.1, u) else kv) := by
 unfold KV at r ⊢
 induction r with
 | nil => exact .nil
 | @cons p q ps qs h t ih =>
  rw [List.map_cons, List.map_cons]
  refine .cons ?_ ih
  obtain ⟨h1, h2⟩ := h
  by_cases e : p.1 = k
  ·rw [if_pos e, if_pos (h1.symm.trans e)]; exact ⟨h1, ry⟩
  ·rw [if_neg e, if_neg (fun z => e (h1.trans z))]; exact ⟨h1, h2⟩
theorem KV.put {kvs : List (κ × V)} {vs : List (κ × Value)} (r : KV kvs vs) (k : κ) {y : V} {u : Value} (ry : zt y u) : KV (jR kvs k y) (stored vs k u) := by
 unfold jR stored
 rw [r.any k]
 by_cases e : (vs.any fun kv => decide (kv.1 = k)) = true
 ·rw [if_pos e, if_pos e]; exact r.repl k ry
 ·rw [if_neg e, if_neg e]; exact Paired.snoc r ⟨rfl, ry⟩
theorem KV.length {kvs : List (κ × V)} {vs : List (κ × Value)} (r : KV kvs vs) : kvs.length = vs.length := Paired.length r
end
theorem XH {P : Program} {w : World} {k : Key} {u : Value} (r : zt (kV k) u) : (zW P w).is k u = true := by
 cases k with
 | inl i => obtain ⟨t, e⟩ := (show ∃ t, u = Value.int i t from r); subst e; exact wf P w i t
 | inr x => obtain ⟨t, e⟩ := (show ∃ t, u = Value.str x t from r); subst e; exact wO P w x t
theorem yY {P : Program} {w : World} : ∀ {ks : List Key} {us : List Value}, zr (ks.map kV) us -> ItemsAre (zW P w) ks us
 | [], _, r => by rw [List.map_nil] at r; cases r; exact .nil
 | k :: ks, _, r => by
  rw [List.map_cons] at r
  cases r with
  | cons h t => exact .cons (XH h) (yY t)
noncomputable abbrev KT (H : Hp) : List (List Key × V) -> List (List Key × Addr × Value) -> Prop := Paired fun p q => p.1 = q.1 /\ H q.2.1 = some (.tup (p.1.map kV)) /\ zt p.2 q.2.2
theorem KT.val {H : Hp} {kvs : List (List Key × V)} {xs : List (List Key × Addr × Value)} (r : KT H kvs xs) (k : List Key) : ZX (qI kvs k) ((atKey xs k).map (·.2)) := by
 induction r with
 | nil => exact True.intro
 | @cons p q ps qs h t ih =>
  obtain ⟨h1, _, h2⟩ := h
  by_cases e : p.1 = k
  ·have e' : q.1 = k := h1.symm.trans e
   have b : atKey (q :: qs) k = some q.2 := by simp [atKey, List.find?_cons, e']
   rw [qd e, b]; exact h2
  ·have e' : ¬ q.1 = k := fun z => e (h1.trans z)
   have b : atKey (q :: qs) k = atKey qs k := by simp [atKey, List.find?_cons, e']
   rw [qg e, b]; exact ih
theorem KT.repl {H : Hp} {kvs : List (List Key × V)} {xs : List (List Key × Addr × Value)} (r : KT H kvs xs) (k : List Key) {y : V} {u : Value} (ry : zt y u) :
  KT H (kvs.map fun kv => if kv.1 = k then (kv.1, y) else kv) (xs.map (putAt k u)) := by
 induction r with
 | nil => exact .nil
 | @cons p q ps qs h t ih =>
  rw [List.map_cons, List.map_cons]
  refine .cons ?_ ih
  obtain ⟨h1, h2, h3⟩ := h
  unfold putAt
  by_cases e : p.1 = k
  ·rw [if_pos e, if_pos (h1.symm.trans e)]; exact ⟨h1, h2, ry⟩
  ·rw [if_neg e, if_neg (fun z => e (h1.trans z))]; exact ⟨h1, h2, h3⟩
theorem KT.put {H : Hp} {kvs : List (List Key × V)} {xs : List (List Key × Addr × Value)} (r : KT H kvs xs) (k : List Key) {b : Addr} {y : V} {u : Value} (hb : H b = some (.tup (k.map kV))) (ry : zt y u) :
  KT H (jR kvs k y) (storedH xs k b u) := by
 have e : (kvs.any fun kv => decide (kv.1 = k)) = (atKey xs k).isSome := by
  rw [kB, (r.val k).isSome_eq, Option.isSome_map]
 unfold jR storedH
 rw [e]
 by_cases q : (atKey xs k).isSome = true
 ·rw [if_pos q, if_pos q]; exact r.repl k ry
 ·rw [if_neg q, if_neg q]; exact Paired.snoc r ⟨rfl, hb, ry⟩
theorem KT.keeps {H H' : Hp} {kvs : List (List Key × V)} {xs : List (List Key × Addr × Value)} (r : KT H kvs xs) (ht : ∀ b ys, H b = some (.tup ys) -> H' b = some (.tup ys)) : KT H' kvs xs :=
 Paired.mapP r fun _ _ z => ⟨z.1, ht _ _ z.2.1, z.2.2⟩
section
variable {P : Program} {w : World} {H : Hp} {h : Heap} {a : Addr}
theorem Ac {u : HO} (ok : HOk P w H h) (e : Rd H a u) : zC P w H h a u := e.ok ok
theorem WU {kvs : List (Key × V)} (ok : HOk P w H h) (e : Rd H a (.dK kvs)) : kvs.length <= sizeLine /\ (a == sysModules) = false /\ ∃ vs, KV kvs vs /\ h.DictOf (zW P w) a vs :=
 show zC P w H h a (.dK kvs) from Ac ok e
theorem DM {kvs : List (Key × V)} (ok : HOk P w H h) (e : H a = some (.dK kvs)) : kvs.length <= sizeLine /\ (a == sysModules) = false /\ ∃ vs, KV kvs vs /\ h.DictOf (zW P w) a vs := WU ok (.inl e)
theorem Z5 {ks : List Key} (ok : HOk P w H h) (e : H a = some (.tup (ks.map kV))) : (tupleKind (zW P w)).is h ks a := by
 obtain ⟨_, its, r, o, h1, h2, ⟨n, h3⟩, _⟩ := (show zC P w H h a (.tup (ks.map kV)) from ok a _ e)
 exact ⟨o, its.toArray, n, h1, h2, h3, by simpa using yY r⟩
theorem WV {kvs : List (List Key × V)} (ok : HOk P w H h) (e : Rd H a (.dT kvs)) : kvs.length <= sizeLine /\ (a == sysModules) = false /\
  ∃ xs, KT H kvs xs /\ h.DictOfH (tupleKind (zW P w)) a xs := by
 obtain ⟨z, y, xs, r, o, es, ep, h1, h2, h3, h4, h5⟩ := (show zC P w H h a (.dT kvs) from Ac ok e)
 refine ⟨z, y, xs, r, o, es, ep, h1, h2, h3, h4, fun x hx => ?_, h5⟩
 have all : ∀ {l : List (List Key × V)} {m : List (List Key × Addr × Value)}, KT H l m -> ∀ x ∈ m, (tupleKind (zW P w)).is h x.1 x.2.1 := by
  intro l m q
  induction q with
  | nil => intro x hx; exact nomatch hx
  | @cons p q ps qs hq t ih =>
   intro x hx
   rcases List.mem_cons.mp hx with e | hx
   ·subst e
    exact Z5 ok (by rw [<- hq.1]; exact hq.2.1)
   ·exact ih x hx
 exact all r x hx
theorem D8 {kvs : List (List Key × V)} (ok : HOk P w H h) (e : H a = some (.dT kvs)) : kvs.length <= sizeLine /\ (a == sysModules) = false /\
  ∃ xs, KT H kvs xs /\ h.DictOfH (tupleKind (zW P w)) a xs := WV ok (.inl e)
end
noncomputable def Yg (H : Hp) (a : Addr) (y : V) (r : Option V) : Prop :=
 (∃ kvs k, Rd H a (.dK kvs) /\ y = kV k /\ r = qI kvs k) \/ ∃ kvs k b, Rd H a (.dT kvs) /\ y = .ref b /\ H b = some (.tup (k.map kV)) /\ r = qI kvs k
noncomputable def XN (H : Hp) (a : Addr) (y v : V) (H' : Hp) : Prop :=
 (∃ kvs k, H a = some (.dK kvs) /\ y = kV k /\ kvs.length < sizeLine /\ H' = upd H a (.dK (jR kvs k v))) \/
 ∃ kvs k b, H a = some (.dT kvs) /\ y = .ref b /\ H b = some (.tup (k.map kV)) /\ kvs.length < sizeLine /\ H' = upd H a (.dT (jR kvs k v))
theorem Yg.k {H : Hp} {a : Addr} {kvs : List (Key × V)} {k : Key} (e : H a = some (.dK kvs)) : Yg H a (kV k) (qI kvs k) := .inl ⟨kvs, k, .inl e, rfl, rfl⟩
theorem XN.k {H : Hp} {a : Addr} {kvs : List (Key × V)} {k : Key} {v : V} (e : H a = some (.dK kvs)) (hl : kvs.length < sizeLine) : XN H a (kV k) v (upd H a (.dK (jR kvs k v))) := .inl ⟨kvs, k, e, rfl, hl, rfl⟩
section
variable {X : Cx} {pins : List (Addr × Obj)} {σ : St} {H : Hp} {s : Shared} {a : Addr} {y v : V} {u r : Value} {o : Option V} {A : Around} {E : Value -> Shared -> Prop}
theorem Inv.big (I : Inv X pins σ H s) : sysModules < s.heap.objs.size := by
 have h : mainGlobals < s.heap.objs.size := (I.mod.glob.keeps I.bk).lt
 exact Nat.lt_trans (by decide) h
theorem VD {Q : Value -> Shared -> Prop} (hu : A.units + 1 < cLine) (I : Inv X pins σ H s) (g : Yg H a y o) (ry : zt y u) (h : ∀ s', Inv X pins σ H s' -> Q (.bool (!o.isSome)) s') :
  wpAny (model X.prog X.w) A (compareOp .NotIn u (.ref a)) Q E s := by
 rcases g with ⟨kvs, k, e, ey, l⟩ | ⟨kvs, k, b, e, ey, eb, l⟩
 ·subst ey
  obtain ⟨z, hd, vs, rel, dd⟩ := WU I.hok e
  refine wpAny_notIn_of (XH ry) hd dd.mapOf ?_
  rw [<- (rel.val k).isSome_eq, <- l]
  exact h _ (I.tok _)
 ·subst ey
  cases (show u = Value.ref b from ry)
  obtain ⟨z, hd, xs, rel, dd⟩ := WV I.hok e
  refine wpAny_notIn_heap (tupleKind_room_in1 hu) (Z5 I.hok eb) hd dd ?_
  have q := (rel.val k).isSome_eq
  rw [Option.isSome_map] at q
  rw [<- q, <- l]
  exact h _ (I.tok _)
theorem Qt {h' : Heap} {t' : Nat} {ob : HO} (I : Inv X pins σ H s) (mu : Mut (H a)) (hs : Heap.SameBut a s.heap h') (he : ∃ q, h'.get? a = some q) (new : zC X.prog X.w (upd H a ob) h' a ob) :
  Inv X pins σ (upd H a ob) { s with heap := h', toks := t' } :=
 I.write (x := a) (e := a) mu (.inl rfl) (fun b q hb z => (hs.2 b hb).trans z) he new
theorem Az {P : Program} {w : World} {H' : Hp} {h' : Heap} {kvs : List (Key × V)} {vs : List (Key × Value)} (z : kvs.length <= sizeLine) (hd : (a == sysModules) = false) (rel : KV kvs vs) (dd : h'.DictOf (zW P w) a vs) :
  zC P w H' h' a (.dK kvs) := ⟨z, hd, vs, rel, dd⟩
theorem JG {H' : Hp} {Q : Unit -> Shared -> Prop} (hu : A.units + 1 < cLine) (I : Inv X pins σ H s) (g : XN H a y v H') (ry : zt y u) (rv : zt v r) (h : ∀ s', Inv X pins σ H' s' -> Q () s') :
  wpAny (model X.prog X.w) A (setItem (.ref a) u r) Q E s := by
 rcases g with ⟨kvs, k, e, ey, l, eH⟩ | ⟨kvs, k, b, e, ey, eb, l, eH⟩
 ·subst ey eH
  obtain ⟨z, hd, vs, rel, dd⟩ := DM I.hok e
  have hz : vs.length <= sizeLine := by rw [<- rel.length]; exact z
  have hl : (jR kvs k v).length <= sizeLine := by have := jF kvs k v; omega
  refine wpAny_setItem_pairs (hsz := hz) (XH ry) dd fun h' dd' hs => h _ ?_
  have he : ∃ q, h'.get? a = some q := let ⟨q, _, _, hq, _⟩ := dd'; ⟨q, hq⟩
  exact Qt I (by rw [e]; exact True.intro) hs he (Az hl hd (rel.put k rv) dd')
 ·subst ey eH
  cases (show u = Value.ref b from ry)
  obtain ⟨z, hd, xs, rel, dd⟩ := D8 I.hok e
  have hz : xs.length <= sizeLine := by rw [<- Paired.length rel]; exact z
  have hl : (jR kvs k v).length <= sizeLine := by have := jF kvs k v; omega
  refine wpAny_setItem_heap (hsz := hz) (tupleKind_room_in1 hu) (Z5 I.hok eb) dd fun h' dd' hs => h _ ?_
  obtain ⟨q, es, ep, hq, h2, h3, h4, _, h5⟩ := dd'
  refine Qt I (by rw [e]; exact True.intro) hs ⟨q, hq⟩ ⟨hl, hd, _, (rel.put k eb rv).keeps fun c ys ec => ?_, q, es, ep, hq, h2, h3, h4, h5⟩
  rw [zh (w8 ec e (fun z => nomatch z))]
  exact ec
end
section
variable {X : Cx} {pins : List (Addr × Obj)} {σ : St} {H : Hp} {s : Shared} {a : Addr} {kvs : List (Key × V)} {k : Key} {u : Value} {A : Around} {E : Value -> Shared -> Prop}
end
noncomputable def v6 (ty td : TE) : TE := fun σ H Q => ty σ H fun y H1 => td σ H1 fun x H2 => ∃ a o, x = .ref a /\ Yg H2 a y o /\ Q (.bl (!o.isSome)) H2
noncomputable def W1 (td ty tv : TE) : TS := fun D σ H => tv σ H fun v H1 => td σ H1 fun x H2 => ty σ H2 fun y H3 => ∃ a H4, x = .ref a /\ XN H3 a y v H4 /\ D.nx σ H4
section
variable {X : Cx} {o i e value : Expr} {pos pos' tpos : Pos} {td ty tv : TE}
theorem Kl (hu : X.A.units + 1 < cLine) (hi : PE X i ty) (ho : PE X o td) : PC X .NotIn i o (v6 ty td) := by
 intro pins s σ H Q I h
 refine thn (hi pins s σ H _ I h) fun iv s1 ⟨y, H1, I1, ry, q1⟩ => thn (ho pins s1 σ H1 _ I1 q1) fun u s2 ⟨x, H2, I2, rx, a, ov, ex, g, q2⟩ => ?_
 subst ex
 obtain rfl : u = Value.ref a := rx
 exact VD hu I2 g ry fun s3 I3 => ⟨.bl (!ov.isSome), H2, I3, rfl, q2⟩
theorem VS (hu : X.A.units + 1 < cLine) (ho : PE X o td) (hi : PE X i ty) (hv : PE X value tv) (hs : swapsWith value (some (.Subscript o i pos')) pos.line X.env = pure false) :
  PS X (.Assign [.Subscript o i pos'] value pos) (W1 td ty tv) := by
 intro pins s σ H D I h
 refine wpAny_Assign_Subscript (thn (hv pins s σ H _ I h) fun r s1 ⟨v, H1, I1, rv, q1⟩ => thn (ho pins s1 σ H1 _ I1 q1) fun u s2 ⟨x, H2, I2, rx, q2⟩ => thn (hi pins s2 σ H2 _ I2 q2) fun iv s3 ⟨y, H3, I3, ry, a, H4, ex, g, q3⟩ => ?_) hs
 subst ex
 obtain rfl : u = Value.ref a := rx
 exact JG hu I3 g ry rv fun s4 I4 => ⟨σ, H4, I4, q3⟩
end
theorem Yh {P : Program} {w : World} {H : Hp} (h : Heap) (hb : sysModules < h.objs.size) : zC P w H (h.push { cls := .type "dict", data := .dict #[] }) h.objs.size (.dK []) :=
 ⟨Nat.zero_le _, beq_eq_false_iff_ne.mpr (Ne.symm (Nat.ne_of_lt hb)), [], .nil, Heap.DictOf.new h⟩
noncomputable def XI : TE := fun _ H Q => ∀ p, H p = none -> Q (.ref p) (upd H p (.dK []))
section
variable {X : Cx} {pos : Pos}
theorem XZ : PE X (.Dict [] [] pos) XI := fun pins s σ H Q I h =>
 wpAny_Dict_empty ⟨.ref s.heap.objs.size, _, I.laid (a := s.heap.objs.size) (o := .dK []) (t' := s.toks) (fun _ _ q => Heap.get?_push_of_some _ q) (Nat.le_refl _) (Yh s.heap I.big), rfl, h _ (I.hok.fresh (Nat.le_refl _))⟩
end
structure M1 (X : Cx) (o : Expr) (m : Str) (apos : Pos) (e : Expr) (cpos : Pos) : Prop where
 base : attributeBase o m X.env (eval o X.env) = eval o X.env
 few : ((backTo cpos (starEach [e] X.env)).all (fun x => !x.1) && (backToKw cpos (keywordEach [] X.env)).all (fun x => x.1.isSome)
  && decide (([e] : List Expr).length + ([] : List Keyword).length + (if ([] : List Keyword).isEmpty then 0 else 1) < 30)) = true
 line : (apos.endLine == cpos.line) = true
 trees : backTo cpos (starEach [e] X.env) = [(false, eval e X.env)]
structure M2 (X : Cx) (o : Expr) (m : Str) (apos : Pos) (e f : Expr) (cpos : Pos) : Prop where
 base : attributeBase o m X.env (eval o X.env) = eval o X.env
 few : ((backTo cpos (starEach [e, f] X.env)).all (fun x => !x.1) && (backToKw cpos (keywordEach [] X.env)).all (fun x => x.1.isSome)
  && decide (([e, f] : List Expr).length + ([] : List Keyword).length + (if ([] : List Keyword).isEmpty then 0 else 1) < 30)) = true
 line : (apos.endLine == cpos.line) = true
 trees : backTo cpos (starEach [e, f] X.env) = [(false, eval e X.env), (false, eval f X.env)]
section
variable {X : Cx} {pins : List (Addr × Obj)} {σ : St} {H : Hp} {s : Shared} {a : Addr} {y d : V} {u r : Value} {o : Option V} {A : Around} {E : Value -> Shared -> Prop}
end
section
variable {X : Cx} {o e f : Expr} {apos cpos : Pos} {td ty tx : TE}
end
section
variable {X : Cx} {pins : List (Addr × Obj)} {σ : St} {H : Hp} {s : Shared} {a : Addr} {kvs : List (Key × V)} {A : Around} {E : Value -> Shared -> Prop}
end
section
variable {X : Cx} {pins : List (Addr × Obj)} {σ : St} {H : Hp} {s : Shared} {a : Addr} {y : V} {u : Value} {A : Around} {E : Value -> Shared -> Prop}
end
end L2
namespace L2
open PySem PySem.Spec PyProof.Rows
section
variable {κ : Type} [DecidableEq κ]
end
end L2
set_option Elab.async false
set_option linter.all false
set_option maxRecDepth 100000
set_option maxHeartbeats 4000000
namespace L2
open PySem PySem.Spec PyProof.Rows
noncomputable def YX (N : List Str) (ts : List Nat) (sc : Scope) (kind : Str -> Option NameKind) : Bool :=
 sc.kind == .function && sc.names.all (fun y => y.2 != .cell && (y.2 != .local || sc.names.lookup y.1 == some .local) && (y.2 != .free || kind y.1 == some .cell || kind y.1 == some .free)) &&
  N.zipIdx.all (fun p => sc.names.lookup p.1 != some .local || ts.contains p.2)
noncomputable def qv (cells : List (Str × Addr)) : List (Str × NameKind) -> List (Str × Addr) -> List (Str × Addr)
 | [], acc => acc
 | (n, k) :: r, acc => qv cells r (if k = .free then (n, (cells.lookup n).getD 0) :: acc else acc)
theorem vL {env : Env} : ∀ (names : List (Str × NameKind)) (acc : List (Str × Addr)), (∀ y ∈ names, y.2 = .free -> ∃ c, env.cells.lookup y.1 = some c) ->
  (forIn names acc fun (x : Str × NameKind) (cs : List (Str × Addr)) => (match x with | (name, kind) => if (kind == NameKind.free) = true then (do let c <- cellOf env name; pure (ForInStep.yield ((name, c) :: cs))) else pure (ForInStep.yield cs) : Sem (ForInStep (List (Str × Addr))))) = pure (qv env.cells names acc)
 | [], acc, _ => rfl
 | (n, k) :: r, acc, h => by
  rw [List.forIn_cons]
  by_cases hk : k = .free
  ·subst hk
   obtain ⟨c, hc⟩ := h (n, .free) List.mem_cons_self rfl
   have e1 : cellOf env n = pure c := by unfold cellOf; rw [hc]
   simp only [beq_self_eq_true, if_true, e1, pure_bind]
   rw [vL r _ fun y hy => h y (List.mem_cons_of_mem _ hy)]
   show _ = pure (qv env.cells r (if NameKind.free = .free then _ else _))
   rw [if_pos rfl, hc]; rfl
  ·have hb : (k == NameKind.free) = false := by simpa using hk
   simp only [hb, Bool.false_eq_true, if_false, pure_bind]
   rw [vL r _ fun y hy => h y (List.mem_cons_of_mem _ hy)]
   show _ = pure (qv env.cells r (if k = .free then _ else _))
   rw [if_neg hk]
theorem kL {cells : List (Str × Addr)} : ∀ (names : List (Str × NameKind)) (acc : List (Str × Addr)), (∀ y ∈ names, y.2 = .free -> ∃ c, cells.lookup y.1 = some c) -> (∀ x c, acc.lookup x = some c -> cells.lookup x = some c) ->
    (∀ x c, (qv cells names acc).lookup x = some c -> cells.lookup x = some c) /\ (∀ x c, acc.lookup x = some c -> ∃ c', (qv cells names acc).lookup x = some c') /\ ∀ y ∈ names, y.2 = .free -> ∃ c, (qv cells names acc).lookup y.1 = some c
  | [], acc, _, h2 => ⟨h2, fun x c e => ⟨c, e⟩, fun y hy => nomatch hy⟩
  | (n, k) :: r, acc, h1, h2 => by
    by_cases hk : k = .free
    · subst hk
      obtain ⟨c, hc⟩ := h1 (n, .free) List.mem_cons_self rfl
      have hc : cells.lookup n = some c := hc
      have e : qv cells ((n, .free) :: r) acc = qv cells r ((n, c) :: acc) := by
        show qv cells r (if NameKind.free = .free then _ else _) = _
        rw [if_pos rfl, hc]; rfl
      rw [e]
      obtain ⟨q1, q2, q3⟩ := kL (cells := cells) r ((n, c) :: acc) (fun y hy => h1 y (List.mem_cons_of_mem _ hy)) (fun x c' e' => by
        rw [List.lookup_cons] at e'
        cases hx : x == n with
        | true => rw [hx] at e'; have : x = n := by simpa using hx
                  subst this; cases e'; exact hc
        | false => rw [hx] at e'; exact h2 x c' e')
      refine ⟨q1, fun x c' e' => ?_, fun y hy hf => ?_⟩
      · cases hx : x == n with
        | true => exact q2 x c (by rw [List.lookup_cons, hx])
        | false => exact q2 x c' (by rw [List.lookup_cons, hx]; exact e')
      · rcases List.mem_cons.mp hy with rfl | hy
        · exact q2 n c (by rw [List.lookup_cons, beq_self_eq_true])
        · exact q3 y hy hf
    · have e : qv cells ((n, k) :: r) acc = qv cells r acc := by
        show qv cells r (if k = .free then _ else _) = _
        rw [if_neg hk]
      rw [e]
      obtain ⟨q1, q2, q3⟩ := kL (cells := cells) r acc (fun y hy => h1 y (List.mem_cons_of_mem _ hy)) h2
      refine ⟨q1, q2, fun y hy hf => ?_⟩
      rcases List.mem_cons.mp hy with rfl | hy
      · exact absurd hf hk
      · exact q3 y hy hf
theorem ZL {scope : Scope} {env : Env} (h : ∀ y ∈ scope.names, y.2 = .free -> ∃ c, env.cells.lookup y.1 = some c) :
  ∃ cl, closureFor scope env = pure cl /\ (∀ x c, cl.lookup x = some c -> env.cells.lookup x = some c) /\ ∀ y ∈ scope.names, y.2 = .free -> ∃ c, cl.lookup y.1 = some c := by
 obtain ⟨q1, _, q3⟩ := kL (cells := env.cells) scope.names [] h (fun x c e => nomatch e)
 refine ⟨qv env.cells scope.names [], ?_, q1, q3⟩
 unfold closureFor
 have := vL (env := env) scope.names [] h
 first
  | exact this
  | (simp only [bind_pure]; exact this)
  | (refine Eq.trans ?_ this; simp)
theorem j4 {env : Env} : ∀ {names : List (Str × NameKind)} {x : Str}, (names.map fun (n, k) => if (k == NameKind.free && env.scope.kind == .function && env.kindOf n == some .cell) then (n, NameKind.cell) else (n, k)).lookup x =
  (names.lookup x).map fun k => if (k == NameKind.free && env.scope.kind == .function && env.kindOf x == some .cell) then NameKind.cell else k
 | [], _ => rfl
 | (n, k) :: r, x => by
  have ih := @j4 env r x
  rw [List.map_cons]
  cases hx : x == n with
  | true =>
   have e : x = n := by simpa using hx
   subst e
   rw [List.lookup_cons (as := r), beq_self_eq_true]
   show List.lookup x ((if (k == NameKind.free && env.scope.kind == .function && env.kindOf x == some .cell) = true then (x, NameKind.cell) else (x, k)) :: _) = some _
   by_cases hc : (k == NameKind.free && env.scope.kind == .function && env.kindOf x == some .cell) = true
   ·rw [if_pos hc, List.lookup_cons, beq_self_eq_true]; dsimp only; rw [if_pos hc]
   ·rw [if_neg hc, List.lookup_cons, beq_self_eq_true]; dsimp only; rw [if_neg hc]
  | false =>
   rw [List.lookup_cons (as := r), hx]
   show List.lookup x ((if (k == NameKind.free && env.scope.kind == .function && env.kindOf n == some .cell) = true then (n, NameKind.cell) else (n, k)) :: _) = _
   by_cases hc : (k == NameKind.free && env.scope.kind == .function && env.kindOf n == some .cell) = true
   ·rw [if_pos hc, List.lookup_cons, hx]; exact ih
   ·rw [if_neg hc, List.lookup_cons, hx]; exact ih
noncomputable abbrev cxC (X : Cx) (scope : Scope) (cl : List (Str × Addr)) (s : Shared) (H : Hp) (fp : List Addr) : Cx :=
 { X with s₀ := s, H₀ := H, env := compEnvC scope cl s.heap.objs.size X.env, outer := X.stack, ex := fp, fn := fun _ => false, pn := [], xe := fun _ _ => False }
noncomputable def clr : List Nat -> St -> St
 | [], σ => σ
 | j :: r, σ => clr r (σ.set j none)
theorem QF : ∀ (ts : List Nat) (σ : St), (clr ts σ).length = σ.length
 | [], _ => rfl
 | j :: r, σ => by show (clr r (σ.set j none)).length = _; rw [QF r]; simp
theorem wu : ∀ (ts : List Nat) (σ : St) (i : Nat) (v : V), (clr ts σ)[i]? = some (some v) -> i ∉ ts /\ σ[i]? = some (some v)
 | [], _, _, _, h => ⟨by simp, h⟩
 | j :: r, σ, i, v, h => by
  obtain ⟨h1, h2⟩ := wu r (σ.set j none) i v h
  by_cases e : j = i
  ·subst e
   rw [List.getElem?_set] at h2
   simp at h2
  ·rw [List.getElem?_set_ne e] at h2
   exact ⟨by simp [h1, Ne.symm e], h2⟩
structure ScF (X : Cx) (ts : List Nat) (scope : Scope) : Prop where
 kind : scope.kind = .function
 cell : ∀ y ∈ scope.names, y.2 ≠ .cell
 loc : ∀ y ∈ scope.names, y.2 = .local -> scope.names.lookup y.1 = some .local
 free : ∀ y ∈ scope.names, y.2 = .free -> X.env.kindOf y.1 = some .cell \/ X.env.kindOf y.1 = some .free
 ts : ∀ (i : Nat) x, X.N[i]? = some x -> scope.names.lookup x = some .local -> i ∈ ts
theorem DF {X : Cx} {ts : List Nat} {scope : Scope} (h : YX X.N ts scope X.env.kindOf = true) : ScF X ts scope := by
  unfold YX at h
  simp only [Bool.and_eq_true, List.all_eq_true, bne_iff_ne, ne_eq, Bool.or_eq_true, beq_iff_eq] at h
  obtain ⟨⟨h1, h2⟩, h3⟩ := h
  refine ⟨h1, fun y hy => (h2 y hy).1.1, fun y hy e => ?_, fun y hy e => ?_, fun i x e1 e2 => ?_⟩
  · rcases (h2 y hy).1.2 with z | z
    · exact absurd e z
    · exact z
  · rcases (h2 y hy).2 with (z | z) | z
    · exact absurd e z
    · exact .inl z
    · exact .inr z
  · have hm : (x, i) ∈ X.N.zipIdx := by
      rw [List.mem_zipIdx_iff_getElem?]; exact e1
    rcases h3 _ hm with z | z
    · exact absurd e2 z
    · simpa using z
section
variable {X : Cx} {ts : List Nat} {scope : Scope} {pins : List (Addr × Obj)} {σ : St} {H : Hp} {s : Shared} {fp : List Addr}
theorem ZP (I : Inv X pins σ H s) (S : ScF X ts scope) (hf : ∀ b ∈ fp, xA X pins H b) (hfl : ∀ b ∈ fp, b < s.heap.objs.size) {cl : List (Str × Addr)} (c1 : ∀ x c, cl.lookup x = some c -> X.env.cells.lookup x = some c)
  (c2 : ∀ y ∈ scope.names, y.2 = .free -> ∃ c, cl.lookup y.1 = some c) {h1 : Heap} {t1 : Nat} (hns : h1.Ns s.heap.objs.size (fun x => ([] : List (Str × Value)).reverse.lookup x))
  (hk : ∀ b o, s.heap.get? b = some o -> h1.get? b = some o) : Inv (cxC X scope cl s H fp) [] (clr ts σ) H { s with heap := h1, toks := t1 } := by
 have hlk : ∀ x, (relabel scope X.env).names.lookup x = (scope.names.lookup x).map fun k => if (k == NameKind.free && X.env.scope.kind == .function && X.env.kindOf x == some .cell) then NameKind.cell else k := fun x => j4
 have cfree : ∀ x, ((relabel scope X.env).names.lookup x = some .cell \/ (relabel scope X.env).names.lookup x = some .free) -> (x, NameKind.free) ∈ scope.names := fun x hx => by
  rw [hlk] at hx
  cases e : scope.names.lookup x with
  | none => rw [e] at hx; rcases hx with hx | hx <;> cases hx
  | some k =>
   have hm := mem_of_lookup_some e
   cases k with
   | free => exact hm
   | cell => exact absurd rfl (S.cell _ hm)
   | «local» => rw [e] at hx; rcases hx with hx | hx <;> cases hx
   | globalExplicit => rw [e] at hx; rcases hx with hx | hx <;> cases hx
   | globalImplicit => rw [e] at hx; rcases hx with hx | hx <;> cases hx
 have ccell : ∀ x c, cl.lookup x = some c -> ∃ v, s.heap.IsCell c v := fun x c e => I.cell x c (c1 x c e)
 have fpne : ∀ b ∈ fp, b ∉ frs X.stack := fun b hb z => by
  obtain ⟨_, f1, f2, _⟩ := hf b hb
  rcases List.mem_cons.mp (I.stkSub b z) with e | e
  ·exact f1 e
  ·exact f2 e
 refine ⟨⟨I.ok.mod, S.kind, I.ok.glob, I.ok.blt, Nat.le_refl _, fun x y c e1 e2 => I.ok.inj x y c (c1 x c e1) (c1 y c e2), fun x hx => c2 (x, .free) (cfree x hx) rfl, (fun x c hx => nomatch hx), I.ok.hd, I.ok.frames, .inl rfl, fun b hb => ⟨Nat.ne_of_lt (hfl b hb), fun x c e => (hf b hb).2.2.2.2.1 x c (c1 x c e)⟩,
  I.bs, Nat.le_trans I.ok.bsz I.sz, fun b o e hb => ?_, fpne, I.stack, I.stkFree⟩, rfl, I.bare, Un.kept hk, ⟨_, hns, fun i x v e1 e2 e3 => ?_⟩, fun x c e => ?_, I.hok.fresh (Nat.le_refl _), fun x c e => I.freeC x c (c1 x c e), fun p hp => absurd hp (by simp), I.hok.kept hk, by rw [QF]; exact I.len⟩
 ·rcases (hf b hb).2.2.2.1 with z | z
  ·exact I.ok.noex b o e z
  ·exact absurd (Nat.lt_of_lt_of_le (Heap.lt_size e) (Nat.le_trans I.ok.bsz z)) (Nat.lt_irrefl _)
 ·obtain ⟨nt, e2⟩ := wu ts σ i v e2
  have e3' : (relabel scope X.env).names.lookup x = some .local \/ (relabel scope X.env).names.lookup x = some .cell \/ (relabel scope X.env).names.lookup x = some .free := e3
  rcases e3' with z | z
  ·rw [hlk] at z
   cases e : scope.names.lookup x with
   | none => rw [e] at z; cases z
   | some k =>
    rw [e] at z
    have z' : (if (k == NameKind.free && X.env.scope.kind == .function && X.env.kindOf x == some .cell) = true then NameKind.cell else k) = .local := Option.some.inj z
    split at z'
    ·cases z'
    ·subst z'
     exact absurd (S.ts i x e1 e) nt
  ·have hm := cfree x z
   obtain ⟨c, hc⟩ := c2 _ hm rfl
   obtain ⟨m, hn, hl⟩ := I.loc
   have vis : Vis X.env.scope x := by
    rcases S.free _ hm rfl with q | q
    ·exact .inr (.inl q)
    ·exact .inr (.inr q)
   obtain ⟨u, r, l⟩ := hl i x v e1 e2 vis
   refine ⟨u, r, .inr ⟨z, c, hc, ?_⟩⟩
   rcases l with ⟨q, _⟩ | ⟨_, c', hc', hcell⟩
   ·rcases S.free _ hm rfl with q' | q'
    ·rw [q'] at q; cases q
    ·rw [q'] at q; cases q
   ·rw [c1 x c hc] at hc'
    cases hc'
    obtain ⟨o, ho, hd⟩ := hcell
    exact ⟨o, hk _ _ ho, hd⟩
 ·obtain ⟨v, o, ho, hd⟩ := ccell x c e
  exact ⟨v, o, hk _ _ ho, hd⟩
end
section
variable {prog : Program} {w : World} {A : Around} {R : Result -> Shared -> Prop} {s : Shared}
theorem jS {elt target iter : Expr} {ifs : List Expr} {scope : Scope} {pos : Pos} {it acc : Value} {env : Env} (I : Nat -> Shared -> Prop)
    (turn : ∀ n s, I n s -> wpAny (model prog w) A (pyNext it) (fun r s₁ => match r with
      | none => R (.ok .next) s₁
      | some v => wpAny (model prog w) A (letOwnedTupleGo target it v) (fun _ s₀ => wpAny (model prog w) A (assign target env v) (fun _ s₂ =>
          wpAny (model prog w) A (forIn ifs true fun c r => if r = true then do let ok <- isTrue c env (eval c env); pure (ForInStep.yield ok) else pure (ForInStep.yield r)) (fun ok s₃ =>
            if ok = true then wpAny (model prog w) A (eval elt env) (fun x s₄ =>
              wpAny (model prog w) A (call (.builtin "list.append") [acc, x]) (fun _ s₅ => ∃ m, m < n /\ I m s₅) (fun _ _ => False) s₄) (fun _ _ => False) s₃
            else ∃ m, m < n /\ I m s₃) (fun _ _ => False) s₂) (fun _ _ => False) s₀) (fun _ _ => False) s₁) (fun _ _ => False) s)
    (n : Nat) (h : I n s) :
    codeAny (model prog w) A (.compLoop (.ListComp elt [⟨target, iter, ifs, 0⟩] scope pos) 0 it acc env) R s := by
  refine codeAny_loop rfl I (fun n s hI => ?_) n h
  show wpAny _ A ((compTurn (.ListComp elt [⟨target, iter, ifs, 0⟩] scope pos) 0 it acc env).onRaise (fun x => do noteFrame x env; theTreesLotGoes x)) _ _ s
  refine wpAny_noted ?_
  rw [compTurn_list]
  refine wpAny_bind (wpAny_standAt (wpAny_bind (wpAny_mono (turn n s hI) (fun r s₁ h₁ => ?_) fun _ _ h' => h'.elim)))
  cases r with
  | none => exact wpAny_pure h₁
  | some v =>
    refine wpAny_bind (wpAny_mono h₁ (fun _ s₀ h₀ => ?_) fun _ _ h' => h'.elim)
    refine wpAny_bind (wpAny_mono h₀ (fun _ s₂ h₂ => wpAny_bind (wpAny_mono h₂ (fun ok s₃ h₃ => ?_) fun _ _ h' => h'.elim)) fun _ _ h' => h'.elim)
    cases ok with
    | false => exact wpAny_pure ⟨rfl, h₃⟩
    | true =>
      exact wpAny_bind (wpAny_bind (wpAny_mono h₃ (fun x s₄ h₄ => wpAny_bind (wpAny_mono h₄ (fun _ s₅ h₅ => wpAny_pure (wpAny_pure ⟨rfl, h₅⟩)) fun _ _ h' => h'.elim)) fun _ _ h' => h'.elim))
end
noncomputable def Yo : TT := fun _ H Q => Q true H
noncomputable def PIf (X : Cx) (ifs : List Expr) (t : TT) : Prop :=
 ∀ (pins : List (Addr × Obj)) (s : Shared) (σ : St) (H : Hp) (Q : Bool -> Hp -> Prop), Inv X pins σ H s -> t σ H Q ->
  wpAny (model X.prog X.w) X.A (forIn ifs true fun c r => if r = true then do let ok <- isTrue c X.env (eval c X.env); pure (ForInStep.yield ok) else pure (ForInStep.yield r)) (TP X pins σ Q) X.xe s
theorem jP {X : Cx} : PIf X [] Yo := fun _ _ _ H _ I h => wpAny_tests_nil ⟨H, I, h⟩
theorem VJ {X : Cx} {c : Expr} {t : TT} (h : PT X c t) : PIf X [c] t := fun pins s σ H Q I hq => wpAny_tests_one (h pins s σ H Q I hq)
noncomputable def wo (ts : List Nat) (wi : TI) (g : TG) (tt : TT) (te : TE) : TE := fun σ H Q => wi σ H fun J H1 => ∀ D, H1 D = none -> ∃ W : Nat -> Nat -> St -> Hp -> Prop, (∃ m, W 0 m (clr ts σ) (upd H1 D (.lst []))) /\ ∀ i m τ H2, W i m τ H2 ->
 (J.stop i H2 /\ Q (.ref D) H2) \/ (J.go i H2 /\ ∃ N : St -> Hp -> Prop, (∀ τ' H', N τ' H' -> ∃ m', m' < m /\ W (i + 1) m' τ' H') /\ ∀ x H', J.yld i H2 x H' -> g x τ H' fun τ2 H3 => tt τ2 H3 fun b H4 =>
  if b = true then te τ2 H4 fun v H5 => ∃ ys, H5 D = some (.lst ys) /\ ys.length < sizeLine /\ N τ2 (upd H5 D (.lst (ys ++ [v]))) else N τ2 H4)
section
variable {X : Cx} {ts : List Nat} {scope : Scope} {tg iter elt : Expr} {ifs : List Expr} {wi : TI} {g : TG} {tt : TT} {te : TE} {pos : Pos}
theorem Zo (hc : X.calm = true) (hsc : YX X.N ts scope X.env.kindOf = true) (hi : PI X tg iter wi) (hg : ∀ cl s H fp, PG (cxC X scope cl s H fp) tg g) (ht : ∀ cl s H fp, PIf (cxC X scope cl s H fp) ifs tt) (he : ∀ cl s H fp, PE (cxC X scope cl s H fp) elt te)
  {pins : List (Addr × Obj)} {s : Shared} {σ : St} {H : Hp} {Q : VK} (I : Inv X pins σ H s) (h : wo ts wi g tt te σ H Q) {use : Option (Value -> Sem Unit)} {Q' : Value -> Shared -> Prop}
  (fin : ∀ (D C : Addr) (H' : Hp) (s' : Shared), Inv X pins σ H' s' -> (∃ m, s'.heap.Ns C m) -> H' C = none -> C ≠ X.env.locals -> (∀ x c, X.env.cells.lookup x = some c -> c ≠ C) -> X.s₀.heap.objs.size <= C -> (∀ p ∈ X.pn ++ pins, p.1 ≠ C) -> C ∉ X.fs -> Q (.ref D) H' ->
   compPost (model X.prog X.w) X.A X.xe use Q' (.ref D) C (.ok .next) s')
  (hs : ∀ x, foldedSetIterable iter X.env x = pure x) :
  wpAny (model X.prog X.w) X.A (comprehension (.ListComp elt [⟨tg, iter, ifs, 0⟩] scope pos) scope X.env (firstIterPos [⟨tg, iter, ifs, 0⟩] pos) (newList []) false (eval iter X.env) use) Q' X.xe s := by
 have S := DF hsc
 obtain ⟨cl, hcl, c1, c2⟩ := ZL (scope := scope) (env := X.env) fun y hy e => I.ok.has y.1 (S.free y hy e)
 refine wpAny_comprehension_free (use := use) rfl hs hcl S.kind S.loc ?_
 refine wpAny_mono (hi pins s σ H _ I h) (fun v s1 h1 => wpAny_mono h1 (fun itv s2 h2 => ?_) fun _ _ e => e) fun _ _ e => e
 obtain ⟨it, fp, tn, J, H2, e, I2, T, st2, f2, q2⟩ := h2
 subst e
 have hD : H2 s2.heap.objs.size = none := I2.hok.fresh (Nat.le_refl _)
 obtain ⟨W, ⟨m0, w0⟩, turn⟩ := q2 _ hD
 refine wpAny_newObj_type (wpAny_newFunctionEnv S.cell (by intro y hy; simp at hy) (fun h₁ hns₁ hsb₁ => ?_) S.kind)
 dsimp only at hns₁ hsb₁ ⊢
 generalize hh3 : s2.heap.push { cls := .type "list", dict := none, data := .seq ([] : List Value).toArray } = g3 at hns₁ hsb₁ ⊢
 have I3 : Inv X pins σ (upd H2 s2.heap.objs.size (.lst [])) { s2 with heap := g3 } := by
  rw [<- hh3]
  exact I2.laid (t' := s2.toks) (fun b u e => Heap.get?_push_of_some _ e) (Nat.le_refl _) ⟨Nat.zero_le _, [], _, .nil, Heap.get?_push_size _ rfl⟩
 have st3 : tn 0 g3 := T.keep _ _ _ st2 fun b _ o e => by rw [<- hh3]; exact Heap.get?_push_of_some _ e
 have lt2 : ∀ b ∈ fp, b < s2.heap.objs.size := fun b hb => by obtain ⟨o, e, _⟩ := T.obj _ _ st2 b hb; exact Heap.lt_size e
 have hsz3 : g3.objs.size = s2.heap.objs.size + 1 := by rw [<- hh3, Heap.size_push]
 have f3 : ∀ b ∈ fp, xA X pins (upd H2 s2.heap.objs.size (.lst [])) b := fun b hb => ⟨by rw [zh (Nat.ne_of_lt (lt2 b hb))]; exact (f2 b hb).1, (f2 b hb).2⟩
 have lt3 : ∀ b ∈ fp, b < g3.objs.size := fun b hb => by rw [hsz3]; exact Nat.lt_succ_of_lt (lt2 b hb)
 have old : ∀ b o, g3.get? b = some o -> h₁.get? b = some o := fun b o e => hsb₁.extBut b o (Nat.ne_of_lt (Heap.lt_size e)) (Heap.get?_push_of_some _ e)
 have hns : h₁.Ns g3.objs.size (fun x => ([] : List (Str × Value)).reverse.lookup x) := hns₁
 have I4 : ∀ t, Inv (cxC X scope cl { s2 with heap := g3 } (upd H2 s2.heap.objs.size (.lst [])) fp) [] (clr ts σ) (upd H2 s2.heap.objs.size (.lst [])) { s2 with heap := h₁, toks := t } := fun t => ZP I3 S f3 lt3 c1 c2 hns old
 have fpne : ∀ b ∈ fp, b ∉ frs X.stack := fun b hb z => by
  obtain ⟨_, f1, f2, _⟩ := f3 b hb
  rcases List.mem_cons.mp (I3.stkSub b z) with e | e
  ·exact f1 e
  ·exact f2 e
 have stat : ∀ {H' : Hp}, (∀ b ∈ fp, H' b = none) -> ∀ b ∈ fp, xA (cxC X scope cl { s2 with heap := g3 } (upd H2 s2.heap.objs.size (.lst [])) fp) [] H' b := fun hn b hb =>
  ⟨hn b hb, Nat.ne_of_lt (lt3 b hb), fpne b hb, .inl hb, fun x c e => (f2 b hb).2.2.2.2.1 x c (c1 x c e), fun p hp => absurd hp (by simp)⟩
 have loop : ∀ t, codeAny (model X.prog X.w) X.A (.compLoop (.ListComp elt [⟨tg, iter, ifs, 0⟩] scope pos) 0 (.ref it) (.ref s2.heap.objs.size) (compEnvC scope cl g3.objs.size X.env))
   (compPost (model X.prog X.w) X.A X.xe use Q' (.ref s2.heap.objs.size) g3.objs.size) { s2 with heap := h₁, toks := t } := by
  intro t
  refine jS (fun n s' => ∃ i τ H', Inv (cxC X scope cl { s2 with heap := g3 } (upd H2 s2.heap.objs.size (.lst [])) fp) [] τ H' s' /\ tn i s'.heap /\ (∀ b ∈ fp, H' b = none) /\ W i n τ H') ?_ m0
   ⟨0, clr ts σ, _, I4 t, T.keep _ _ _ st3 fun b _ o e => old b o e, fun b hb => (f3 b hb).1, w0⟩
  rintro n s5 ⟨i, τ, H5, I5, st5, fr5, w5⟩
  rcases turn i n τ H5 w5 with ⟨stop, qn⟩ | ⟨go, N, hN, step⟩
  ·refine thn (T.done (cxC X scope cl { s2 with heap := g3 } (upd H2 s2.heap.objs.size (.lst [])) fp) rfl rfl rfl hc i [] s5 τ H5 _ I5 (stat fr5) st5 stop) fun r s6 ⟨hr, I6⟩ => ?_
   subst hr
   have base : Un (frs X.stack) fp (upd H2 s2.heap.objs.size (.lst [])) H5 g3 s6.heap := I6.base
   have J6 : Inv X pins σ H5 s6 := I3.call' (ch := fp) I6.os base I6.hok I6.bare fun b hb => ⟨(f3 b hb).2.2.2.1, (f3 b hb).2.1, (f3 b hb).2.2.2.2.1, (f3 b hb).2.2.2.2.2⟩
   obtain ⟨m6, n6, _⟩ := I6.loc
   have hC : g3.get? g3.objs.size = none := Heap.get?_none_of_le (Nat.le_refl _)
   refine fin _ g3.objs.size H5 s6 J6 ⟨m6, n6⟩ I6.free (Nat.ne_of_gt I3.lt) (fun x c e z => ?_) I3.sz (fun p hp z => ?_) (I3.nofs (Nat.le_refl _)) qn
   ·obtain ⟨v, q⟩ := I3.cell x c e
    exact absurd q.lt (by rw [z]; exact Nat.lt_irrefl _)
   ·exact absurd (Heap.lt_size (I3.pin p hp).1) (by rw [z]; exact Nat.lt_irrefl _)
  ·refine thn (T.item (cxC X scope cl { s2 with heap := g3 } (upd H2 s2.heap.objs.size (.lst [])) fp) rfl rfl rfl hc i [] s5 τ H5 _ I5 (stat fr5) st5 go) fun r s6 ⟨u, hr, h6⟩ => ?_
   subst hr
   refine thn h6 fun _ s7 ⟨x, H7, I7, r7, y7, st7, fr7⟩ => ?_
   have I7' := I7.pinned (stat fr7) (T.obj _ _ st7)
   refine thn (hg cl { s2 with heap := g3 } _ fp _ s7 τ H7 x u _ I7' r7 (step x H7 y7)) fun _ s8 ⟨τ8, H8, I8, q8⟩ => ?_
   refine thn (ht cl { s2 with heap := g3 } _ fp _ s8 τ8 H8 _ I8 q8) fun b s9 ⟨H9, I9, q9⟩ => ?_
   have again : ∀ {τ9 : St} {H9 : Hp} {s9 : Shared}, Inv (cxC X scope cl { s2 with heap := g3 } (upd H2 s2.heap.objs.size (.lst [])) fp) ([] ++ ye fp s7.heap) τ9 H9 s9 -> N τ9 H9 ->
     ∃ m, m < n /\ ∃ i τ H', Inv (cxC X scope cl { s2 with heap := g3 } (upd H2 s2.heap.objs.size (.lst [])) fp) [] τ H' s9 /\ tn i s9.heap /\ (∀ b ∈ fp, H' b = none) /\ W i m τ H' := fun {τ9 H9 s9} I9 n9 => by
    obtain ⟨m', hm, w9⟩ := hN _ _ n9
    refine ⟨m', hm, i + 1, τ9, H9, I9.unpinned, T.keep _ _ _ st7 fun b hb o e => (I9.pin (b, o) (List.mem_append_right _ (List.mem_append_right _ (jo hb e)))).1, fun b hb => ?_, w9⟩
    obtain ⟨o, e, d⟩ := T.obj _ _ st7 b hb
    exact (I9.pin (b, o) (List.mem_append_right _ (List.mem_append_right _ (jo hb e)))).2.1
   cases b with
   | false =>
    rw [if_neg Bool.false_ne_true] at q9 ⊢
    exact again I9 q9
   | true =>
    rw [if_pos rfl] at q9 ⊢
    refine thn (he cl { s2 with heap := g3 } _ fp _ s9 τ8 H9 _ I9 q9) fun y s10 ⟨v, H10, I10, r10, ys, hys, hlen, n10⟩ => ?_
    exact thn (vj (X := cxC X scope cl { s2 with heap := g3 } (upd H2 s2.heap.objs.size (.lst [])) fp) _ s10 τ8 H10 (.ref s2.heap.objs.size) [v] (.ref s2.heap.objs.size) [y] (fun _ H11 => N τ8 H11) I10 rfl (.cons r10 .nil) ⟨_, ys, v, rfl, rfl, hys, hlen, n10⟩) fun _ s11 ⟨_, H11, I11, _, n11⟩ => again I11 n11
 have LW := loop (s2.toks + ([] : List (Str × Value)).length)
 exact codeAny_compStart_list LW (T.self _ 0 _ _ _ (T.keep _ _ _ st3 fun b _ o e => old b o e) LW)
end
end L2
set_option Elab.async false
set_option linter.all false
set_option maxRecDepth 100000
set_option maxHeartbeats 4000000
namespace L2
open PySem PySem.Spec PyProof.Rows
section
variable {X : Cx} {ts : List Nat} {scope : Scope} {tg iter elt : Expr} {ifs : List Expr} {wi : TI} {g : TG} {tt : TT} {te : TE} {pos : Pos}
theorem kE (hc : X.calm = true) (hsc : YX X.N ts scope X.env.kindOf = true) (hi : PI X tg iter wi) (hg : ∀ cl s H fp, PG (cxC X scope cl s H fp) tg g) (ht : ∀ cl s H fp, PIf (cxC X scope cl s H fp) ifs tt) (he : ∀ cl s H fp, PE (cxC X scope cl s H fp) elt te)
  (hs : ∀ x, foldedSetIterable iter X.env x = pure x := by intro _; rfl) : PE X (.ListComp elt [⟨tg, iter, ifs, 0⟩] scope pos) (wo ts wi g tt te) := by
 intro pins s σ H Q I h
 rw [eval_ListComp]
 refine Zo hc hsc hi hg ht he I h (use := none) (fun D C H' s' I' ⟨m, hn⟩ hC hL hce hsz hp hfs q => ⟨m, hn, fun h' hs' => ?_⟩) hs
 exact ⟨.ref D, H', I'.turned (t' := s'.toks) (it := C) (fun b o hb e => (hs'.2 b hb).trans e) hC hL (.inr hsz) hce hp, rfl, q⟩
theorem QB {j : Nat} {y : Str} {py spos : Pos} (hc : X.calm = true) (hN : X.N.Nodup) (hj : X.N[j]? = some y) (hy : Loc X.env.scope y) (hsc : YX X.N ts scope X.env.kindOf = true) (hi : PI X tg iter wi) (hg : ∀ cl s H fp, PG (cxC X scope cl s H fp) tg g) (ht : ∀ cl s H fp, PIf (cxC X scope cl s H fp) ifs tt) (he : ∀ cl s H fp, PE (cxC X scope cl s H fp) elt te)
  (hsw : swapsWith (.ListComp elt [⟨tg, iter, ifs, 0⟩] scope pos) (some (.Name y py)) spos.line X.env = pure true := by rfl)
  (hs : ∀ x, foldedSetIterable iter X.env x = pure x := by intro _; rfl) (hf : X.fn y = true \/ X.env.scope.names.lookup y = some .local := by first | exact .inl rfl | exact .inr rfl | assumption) :
  PS X (.Assign [.Name y py] (.ListComp elt [⟨tg, iter, ifs, 0⟩] scope pos) spos) (ZA (wo ts wi g tt te) (Zk j)) := by
 intro pins s σ H D I h
 rw [exec_Assign_Name_used _ _ _ _ hsw]
 refine wpAny_bind (wpAny_standAt (wpAny_bind ?_))
 show wpAny _ _ (do let _ <- comprehension (.ListComp elt [⟨tg, iter, ifs, 0⟩] scope pos) scope X.env _ (newList []) false (eval iter X.env) (some (assign (.Name y py) X.env))) _ _ s
 refine wpAny_bind (wpAny_mono (Zo hc hsc hi hg ht he I h (use := some (assign (.Name y py) X.env)) (Q' := fun _ s' => SP X pins D .next s') (fun D' C H' s' I' ⟨m, hn⟩ hC hL hce hsz hp hfs q => ?_) hs) (fun _ s' hq => wpAny_pure (wpAny_pure hq)) fun _ _ e => e)
 show wpAny _ _ (assign (.Name y py) X.env (.ref D')) _ _ _
 refine wpAny_assign_Name (yT (v := .ref D') I' hN hj hy rfl (fun s2 I2 ⟨a, hsb, ha⟩ => ?_) hf)
 have hCa : C ≠ a := by
  rcases ha with rfl | ha
  ·exact hL
  ·exact Ne.symm (hce y a ha)
 refine ⟨m, hn.sameBut hsb hCa, fun h' hs' => ?_⟩
 exact ⟨_, H', I2.turned (t' := s2.toks) (it := C) (fun b o hb e => (hs'.2 b hb).trans e) hC hL (.inr hsz) hce hp, q⟩
end
noncomputable def Ite (K : PySem.W.Frag) (a : Addr) : It :=
 ⟨fun i H => ∃ xs x, SqL K H a xs /\ xs[i]? = some x, fun i H y H' => ∃ p x, H p = none /\ y = .ref p /\ (∀ xs, SqL K H a xs -> xs[i]? = some x) /\ H' = upd H p (.tup [.int i, x]), fun i H => ∃ xs, SqL K H a xs /\ xs.length <= i⟩
theorem vd {P : Program} {w : World} {K : PySem.W.Frag} {es : List Expr} {kt : Nat} {tp : Pos} (a e it : Addr) (hei : e ≠ it) : Qe P w K (.Tuple es kt tp) (Ite K a) [e, it] e (fun i h => (∃ old, IsEnum h e it (i : Nat) old) /\ h.IsListIter it a i) where
 mem := by simp
 obj := fun i h st b hb => by
  obtain ⟨⟨old, he⟩, ⟨o, e1, c, d⟩⟩ := st
  rcases List.mem_cons.mp hb with rfl | hb
  ·exact ⟨_, he, fun v z => by have z' : Data.fields _ = Data.cell v := z; cases z'⟩
  ·have e2 : b = it := by simpa using hb
   subst e2
   exact ⟨o, e1, fun v z => by rw [d] at z; cases z⟩
 keep := fun i h h' st k => by
  obtain ⟨⟨old, he⟩, st⟩ := st
  exact ⟨⟨old, k e (by simp) _ he⟩, st.at fun o e => k it (by simp) o e⟩
 item := by
  intro X hP hw hK hc i pins s σ H E I hf st hg
  subst hP hw hK
  obtain ⟨⟨old, he⟩, st⟩ := st
  obtain ⟨xs, x, hq, hx⟩ := hg
  obtain ⟨its, rv, p, hz⟩ := I.list hq
  obtain ⟨u, hu, ru⟩ := rv.get hx
  have fe := hf e (by simp)
  have fi := hf it (by simp)
  refine wpAny_pyNext_enum_item he st p.isList (x := u) (by simpa using hu) hei fun h1 heo hit1 ht1 hz1 hk1 => ?_
  refine ⟨.ref s.heap.objs.size, rfl, wpAny_letOwnedTupleGo_enum heo fun h2 he2 hs2 => ?_⟩
  replace hs2 : Heap.SameBut e h1 h2 := hs2
  have elt : e < s.heap.objs.size := Heap.lt_size he
  have hfr : H s.heap.objs.size = none := I.hok.fresh (Nat.le_refl _)
  have ht2 : h2.get? s.heap.objs.size = some { cls := .type "tuple", data := .seq #[.int i s.toks, u] } := (hs2.2 _ (Nat.ne_of_gt elt)).trans ht1
  have kk : ∀ b o, b ∉ [e, it] -> s.heap.get? b = some o -> h2.get? b = some o := fun b o hc q => by
   have n1 : b ≠ e := fun z => hc (by simp [z])
   have n2 : b ≠ it := fun z => hc (by simp [z])
   exact (hs2.2 b n1).trans (hk1 b o n1 n2 q)
  have nb : ∀ c v, H c = some v -> c ∉ [e, it] := fun c v z hm => by
   rcases List.mem_cons.mp hm with z' | z'
   ·rw [z', fe.1] at z; cases z
   ·have e2 : c = it := by simpa using z'
    rw [e2, fi.1] at z; cases z
  have I2 : Inv X pins σ (upd H s.heap.objs.size (.tup [.int i, x])) { s with heap := h2, toks := s.toks + 1 } := by
   refine I.step (g' := s.gens) (d' := s.drawn) (ch := [e, it]) (fun b hb => ?_) (fun b o _ _ hc q _ => kk b o hc q) (fun b o _ _ hc q _ => ⟨o.slots, kk b o hc q⟩) (fun b o _ q n => by rw [zh (Nat.ne_of_lt (Heap.lt_size q))]; exact n) (fun b o hc q => ⟨o, kk b o hc q⟩)
    (fun b xs q => by rw [zh (ze q hfr)]; exact q) (fun b o u q => by rw [zh (ze q hfr)]; exact q) (fun b ps q => ⟨#[], by rw [zh (ze q hfr), q]; simp⟩) (fun m hm => ?_) (fun b v q => ?_) I.bare
   ·rcases List.mem_cons.mp hb with z | hb
    ·rw [z]; exact ⟨fe.2.2.2.1, fe.2.1, fe.2.2.2.2.1, fe.2.2.2.2.2⟩
    ·have e2 : b = it := by simpa using hb
     rw [e2]; exact ⟨fi.2.2.2.1, fi.2.1, fi.2.2.2.2.1, fi.2.2.2.2.2⟩
   ·obtain ⟨o, es, ep, ho, r⟩ := hm
    exact ⟨o, es, ep, kk _ o (by simp [Ne.symm fe.2.1, Ne.symm fi.2.1]) ho, r⟩
   ·by_cases hb : b = s.heap.objs.size
    ·subst hb
     rw [zf] at q
     cases q
     exact ⟨by show 2 <= sizeLine; decide, [.int i s.toks, u], .cons ⟨_, rfl⟩ (.cons ru .nil), _, ht2, rfl, ⟨_, rfl⟩, rfl⟩
    ·rw [zh hb] at q
     refine (I.hok b v q).stay (fun c o hc q' => kk c o ?_ q') (fun c z => by rw [zh (ze z hfr)]; exact z) fun c xs z => by rw [zh (ze z hfr)]; exact z
     rcases hc with z | z
     ·rw [z]; exact nb b v q
     ·exact nb c _ z
  refine ⟨.ref s.heap.objs.size, _, I2, rfl, ⟨s.heap.objs.size, x, hfr, rfl, fun ys hy => by rw [I.list_inj hy hq]; exact hx, rfl⟩, ⟨⟨_, by simpa using he2⟩, hit1.extBut hs2.extBut (Ne.symm hei)⟩, fun b hb => ?_⟩
  have hlt : b < s.heap.objs.size := by
   rcases List.mem_cons.mp hb with rfl | hb
   ·exact elt
   ·have e2 : b = it := by simpa using hb
    subst e2
    obtain ⟨o, e1, _⟩ := st
    exact Heap.lt_size e1
  rw [zh (Nat.ne_of_lt hlt)]
  exact (hf b hb).1
 done := by
  intro X hP hw hK hc i pins s σ H E I hf st hg
  subst hP hw hK
  obtain ⟨⟨old, he⟩, st⟩ := st
  obtain ⟨xs, hq, hx⟩ := hg
  obtain ⟨its, rv, p, hz⟩ := I.list hq
  obtain ⟨f0, f1, f2, f3, f4, f5⟩ := hf it (by simp)
  have hl := rv.length
  exact wpAny_pyNext_enum_end (I.ok.hd hc) he st p.isList (by simp; omega) fun h' eb => ⟨rfl, I.turned (t' := s.toks) (fun b o hb e => eb b o hb e) f0 f1 f3 f4 f5⟩
 self := fun _ _ _ _ _ st h => by
  obtain ⟨⟨old, he⟩, _⟩ := st
  exact wpAny_pyIter_enum he h
end L2
set_option Elab.async false
set_option linter.all false
set_option maxRecDepth 100000
set_option maxHeartbeats 4000000
namespace L2
open PySem PySem.Spec PyProof.Rows
section
variable {X : Cx} {pins : List (Addr × Obj)} {σ : St} {H : Hp} {s : Shared}
theorem Inv.yieldTup {ch : List Addr} {h2 : Heap} {tk : Nat} {T : Addr} {xs : List V} {us : List Value} (I : Inv X pins σ H s) (hf : ∀ b ∈ ch, xA X pins H b) (kk : ∀ b o, b ∉ ch -> s.heap.get? b = some o -> h2.get? b = some o) (hT : s.heap.objs.size <= T)
  (ht2 : h2.get? T = some { cls := .type "tuple", data := .seq us.toArray }) (rv : zr xs us) (hz : xs.length <= sizeLine) : Inv X pins σ (upd H T (.tup xs)) { s with heap := h2, toks := tk } := by
 have hfr : H T = none := I.hok.fresh hT
 have nb : ∀ c v, H c = some v -> c ∉ ch := fun c v z hm => by rw [(hf c hm).1] at z; cases z
 refine I.step (g' := s.gens) (d' := s.drawn) (ch := ch) (fun b hb => ⟨(hf b hb).2.2.2.1, (hf b hb).2.1, (hf b hb).2.2.2.2.1, (hf b hb).2.2.2.2.2⟩) (fun b o _ _ hc q _ => kk b o hc q) (fun b o _ _ hc q _ => ⟨o.slots, kk b o hc q⟩)
  (fun b o _ q n => by rw [zh (Nat.ne_of_lt (Nat.lt_of_lt_of_le (Heap.lt_size q) hT))]; exact n) (fun b o hc q => ⟨o, kk b o hc q⟩)
  (fun b xs q => by rw [zh (ze q hfr)]; exact q) (fun b o u q => by rw [zh (ze q hfr)]; exact q) (fun b ps q => ⟨#[], by rw [zh (ze q hfr), q]; simp⟩) (fun m hm => ?_) (fun b v q => ?_) I.bare
 ·obtain ⟨o, es, ep, ho, r⟩ := hm
  exact ⟨o, es, ep, kk _ o (fun z => (hf _ z).2.1 rfl) ho, r⟩
 ·by_cases hb : b = T
  ·subst hb
   rw [zf] at q
   cases q
   exact ⟨hz, us, rv, _, ht2, rfl, ⟨_, rfl⟩, rfl⟩
  ·rw [zh hb] at q
   refine (I.hok b v q).stay (fun c o hc q' => kk c o ?_ q') (fun c z => by rw [zh (ze z hfr)]; exact z) fun c xs z => by rw [zh (ze z hfr)]; exact z
   rcases hc with z | z
   ·rw [z]; exact nb b v q
   ·exact nb c _ z
theorem Inv.turnedL {ch : List Addr} {h2 : Heap} {tk : Nat} (I : Inv X pins σ H s) (hf : ∀ b ∈ ch, xA X pins H b) (kk : ∀ b o, b ∉ ch -> s.heap.get? b = some o -> h2.get? b = some o) : Inv X pins σ H { s with heap := h2, toks := tk } := by
 have nb : ∀ c v, H c = some v -> c ∉ ch := fun c v z hm => by rw [(hf c hm).1] at z; cases z
 refine I.step (g' := s.gens) (d' := s.drawn) (ch := ch) (fun b hb => ⟨(hf b hb).2.2.2.1, (hf b hb).2.1, (hf b hb).2.2.2.2.1, (hf b hb).2.2.2.2.2⟩) (fun b o _ _ hc q _ => kk b o hc q) (fun b o _ _ hc q _ => ⟨o.slots, kk b o hc q⟩)
  (fun b o _ q n => n) (fun b o hc q => ⟨o, kk b o hc q⟩) (fun b xs q => q) (fun b o u q => q) (fun b ps q => ⟨#[], by rw [q]; simp⟩) (fun m hm => ?_) (fun b v q => ?_) I.bare
 ·obtain ⟨o, es, ep, ho, r⟩ := hm
  exact ⟨o, es, ep, kk _ o (fun z => (hf _ z).2.1 rfl) ho, r⟩
 ·refine (I.hok b v q).stay (fun c o hc q' => kk c o ?_ q') (fun c z => z) fun c xs z => z
  rcases hc with z | z
  ·rw [z]; exact nb b v q
  ·exact nb c _ z
end
noncomputable def Itz (K : PySem.W.Frag) (a b : Addr) : It :=
 ⟨fun i H => ∃ xs ys x y, SqL K H a xs /\ SqL K H b ys /\ xs[i]? = some x /\ ys[i]? = some y, fun i H z H' => ∃ p x y, H p = none /\ z = .ref p /\ (∀ xs, SqL K H a xs -> xs[i]? = some x) /\ (∀ ys, SqL K H b ys -> ys[i]? = some y) /\ H' = upd H p (.tup [x, y]),
  fun i H => ∃ xs ys, SqL K H a xs /\ SqL K H b ys /\ (xs.length <= i \/ ys.length <= i)⟩
theorem Xn {P : Program} {w : World} {K : PySem.W.Frag} {es : List Expr} {kt : Nat} {tp : Pos} (l1 l2 z TI TO i1 i2 : Addr) (D : ZipApart z TI TO i1 i2 l1 l2) :
  Qe P w K (.Tuple es kt tp) (Itz K l1 l2) [z, TI, TO, i1, i2] z (fun i h => IsZip h z TI TO .none /\ IsPair h TI (.ref i1) (.ref i2) /\ (∃ a b, IsPair h TO a b) /\ h.IsListIter i1 l1 i /\ h.IsListIter i2 l2 i) where
 mem := by simp
 obj := fun i h st b hb => by
  obtain ⟨hz, hTI, ⟨a, c, hTO⟩, ⟨o1, e1, c1, d1⟩, ⟨o2, e2, c2, d2⟩⟩ := st
  simp only [List.mem_cons, List.not_mem_nil, or_false] at hb
  rcases hb with rfl | rfl | rfl | rfl | rfl
  ·exact ⟨_, hz, fun v q => by have q' : Data.fields _ = Data.cell v := q; cases q'⟩
  ·exact ⟨_, hTI, fun v q => by have q' : Data.seq _ _ = Data.cell v := q; cases q'⟩
  ·exact ⟨_, hTO, fun v q => by have q' : Data.seq _ _ = Data.cell v := q; cases q'⟩
  ·exact ⟨o1, e1, fun v q => by rw [d1] at q; cases q⟩
  ·exact ⟨o2, e2, fun v q => by rw [d2] at q; cases q⟩
 keep := fun i h h' st k => by
  obtain ⟨hz, hTI, ⟨a, c, hTO⟩, h1, h2⟩ := st
  exact ⟨k _ (by simp) _ hz, k _ (by simp) _ hTI, ⟨a, c, k _ (by simp) _ hTO⟩, h1.at fun o e => k _ (by simp) o e, h2.at fun o e => k _ (by simp) o e⟩
 item := by
  intro X hP hw hK hc i pins s σ H E I hf st hg
  subst hP hw hK
  obtain ⟨hz, hTI, ⟨a, c, hTO⟩, h1, h2⟩ := st
  obtain ⟨xs, ys, x, y, hq1, hq2, hx, hy⟩ := hg
  obtain ⟨its1, rv1, p1, hz1⟩ := I.list hq1
  obtain ⟨its2, rv2, p2, hz2⟩ := I.list hq2
  obtain ⟨u, hu, ru⟩ := rv1.get hx
  obtain ⟨v, hv, rvv⟩ := rv2.get hy
  refine wpAny_pyNext_zip_item D hz hTI hTO h1 h2 p1.isList p2.isList (x := u) (y := v) (by simpa using hu) (by simpa using hv) fun g1 b1 b2 b3 b4 b5 b6 hk => ?_
  refine ⟨.ref s.heap.objs.size, rfl, wpAny_letOwnedTupleGo_zip b1 fun g2 hz2' hs2 => ?_⟩
  replace hs2 : Heap.SameBut z g1 g2 := hs2
  have zlt : z < s.heap.objs.size := Heap.lt_size hz
  have I2 : Inv X pins σ (upd H s.heap.objs.size (.tup [x, y])) { s with heap := g2, toks := s.toks } := by
   refine I.yieldTup (us := [u, v]) hf (fun b o hb e => ?_) (Nat.le_refl _) ((hs2.2 _ (Nat.ne_of_gt zlt)).trans b5) (.cons ru (.cons rvv .nil)) (by show 2 <= sizeLine; decide)
   simp only [List.mem_cons, List.not_mem_nil, or_false, not_or] at hb
   exact (hs2.2 b hb.1).trans (hk b o hb.1 hb.2.2.1 hb.2.2.2.1 hb.2.2.2.2 e)
  refine ⟨.ref s.heap.objs.size, _, I2, rfl, ⟨s.heap.objs.size, x, y, I.hok.fresh (Nat.le_refl _), rfl, fun xs' h' => by rw [I.list_inj h' hq1]; exact hx, fun ys' h' => by rw [I.list_inj h' hq2]; exact hy, rfl⟩,
   ⟨hz2', (hs2.2 _ D.TIz).trans (hk _ _ D.TIz D.TITO D.TIi1 D.TIi2 hTI), ⟨_, _, (hs2.2 _ D.TOz).trans b2⟩, b3.extBut hs2.extBut D.i1z, b4.extBut hs2.extBut D.i2z⟩, fun b hb => ?_⟩
  have hlt : b < s.heap.objs.size := by
   simp only [List.mem_cons, List.not_mem_nil, or_false] at hb
   rcases hb with rfl | rfl | rfl | rfl | rfl
   ·exact zlt
   ·exact Heap.lt_size hTI
   ·exact Heap.lt_size hTO
   ·obtain ⟨o, e, _⟩ := h1; exact Heap.lt_size e
   ·obtain ⟨o, e, _⟩ := h2; exact Heap.lt_size e
  rw [zh (Nat.ne_of_lt hlt)]
  exact (hf b hb).1
 done := by
  intro X hP hw hK hc i pins s σ H E I hf st hg
  subst hP hw hK
  obtain ⟨hz, hTI, ⟨a, c, hTO⟩, h1, h2⟩ := st
  obtain ⟨xs, ys, hq1, hq2, hend⟩ := hg
  obtain ⟨its1, rv1, p1, hz1⟩ := I.list hq1
  obtain ⟨its2, rv2, p2, hz2⟩ := I.list hq2
  have l1 := rv1.length
  have l2 := rv2.length
  refine wpAny_pyNext_zip_end (I.ok.hd hc) D hz hTI hTO h1 h2 p1.isList p2.isList (by simp; omega) fun h' hk => ⟨rfl, I.turnedL (tk := s.toks) hf fun b o hb e => ?_⟩
  simp only [List.mem_cons, List.not_mem_nil, or_false, not_or] at hb
  exact hk b o hb.1 hb.2.2.1 hb.2.2.2.1 hb.2.2.2.2 e
 self := fun _ _ _ _ _ st h => wpAny_pyIter_zip st.1 h
theorem ym : bootBuiltins "enumerate" = some (.type "enumerate") := by decide +kernel
theorem Kf : bootBuiltins "zip" = some (.type "zip") := by decide +kernel
section
variable {X : Cx} {es : List Expr} {kt : Nat} {tp : Pos}
noncomputable def WP (K : PySem.W.Frag) (ta : TA) : TI := fun σ H R => ta σ H fun vs H1 => ∃ a, vs = [.ref a] /\ (∃ xs, SqL K H1 a xs) /\ R (Ite K a) H1
theorem Y5 {e : Expr} {ta : TA} {p pos : Pos} (hg : Gl X "enumerate") (hm : X.mg "enumerate" = none) (ha : PA X [e] ta) (hs : starEach [e] X.env = [(false, eval e X.env)] := by rfl) :
  PI X (.Tuple es kt tp) (.Call (.Name "enumerate" p) [e] [] pos) (WP X.K ta) := by
 intro pins s σ H R I h
 refine Call_ (qK I hg hm (ym) (PyProof.Rows.callWith_type1 (thn (ha pos pins s σ H _ I h) fun us s1 ⟨vs, H1, I1, r1, q1⟩ => ?_) hs rfl))
 obtain ⟨a, e, ⟨xs, hq⟩, q⟩ := q1
 subst e
 obtain ⟨u, rfl, ru⟩ := jp r1
 cases ru
 obtain ⟨its, rv, pl, hz⟩ := I1.list hq
 refine call_enumerate_list pl.isList fun h' he hit hsz hk => wpAny_pyIter_enum he ?_
 have I2 : Inv X pins σ H1 { s1 with heap := h' } := I1.kept (t' := s1.toks) hk
 refine ⟨s1.heap.objs.size + 1, [s1.heap.objs.size + 1, s1.heap.objs.size], _, _, H1, rfl, I2, vd a _ _ (Nat.succ_ne_self _), ⟨⟨_, he⟩, hit⟩, fun b hb => ?_, q⟩
 have hb' : s1.heap.objs.size <= b := by
  simp only [List.mem_cons, List.not_mem_nil, or_false] at hb
  rcases hb with rfl | rfl
  ·exact Nat.le_succ _
  ·exact Nat.le_refl _
 exact I1.fpOk hb' (I1.hok.fresh hb')
noncomputable def DZ (K : PySem.W.Frag) (ta : TA) : TI := fun σ H R => ta σ H fun vs H1 => ∃ a b, vs = [.ref a, .ref b] /\ (∃ xs, SqL K H1 a xs) /\ (∃ ys, SqL K H1 b ys) /\ R (Itz K a b) H1
theorem BE {e1 e2 : Expr} {ta : TA} {p pos : Pos} (hg : Gl X "zip") (hm : X.mg "zip" = none) (ha : PA X [e1, e2] ta) (hs : starEach [e1, e2] X.env = [(false, eval e1 X.env), (false, eval e2 X.env)] := by rfl) (hs2 : starEach [e2] X.env = [(false, eval e2 X.env)] := by rfl) :
  PI X (.Tuple es kt tp) (.Call (.Name "zip" p) [e1, e2] [] pos) (DZ X.K ta) := by
 intro pins s σ H R I h
 refine Call_ (qK I hg hm Kf (PyProof.Rows.callWith_type1 (thn (ha pos pins s σ H _ I h) fun us s1 ⟨vs, H1, I1, r1, q1⟩ => ?_) (by rw [hs, hs2]) (by rw [hs2]; rfl)))
 obtain ⟨a, b, e, ⟨xs, hq1⟩, ⟨ys, hq2⟩, q⟩ := q1
 subst e
 obtain ⟨u, v, rfl, ru, rv⟩ := yH r1
 cases ru
 cases rv
 obtain ⟨its1, rv1, p1, hz1⟩ := I1.list hq1
 obtain ⟨its2, rv2, p2, hz2⟩ := I1.list hq2
 have la : a < s1.heap.objs.size := by obtain ⟨o, e, _⟩ := p1.isList; exact Heap.lt_size e
 have lb : b < s1.heap.objs.size := by obtain ⟨o, e, _⟩ := p2.isList; exact Heap.lt_size e
 refine call_zip_2 p1.isList p2.isList fun h' b1 b2 b3 b4 b5 hsz hk => wpAny_pyIter_zip b1 ?_
 have I2 : Inv X pins σ H1 { s1 with heap := h' } := I1.kept (t' := s1.toks) hk
 refine ⟨s1.heap.objs.size + 4, [s1.heap.objs.size + 4, s1.heap.objs.size + 2, s1.heap.objs.size + 3, s1.heap.objs.size, s1.heap.objs.size + 1], _, _, H1, rfl, I2, Xn a b _ _ _ _ _ (zipApart_new la lb), ⟨b1, b2, ⟨_, _, b3⟩, b4, b5⟩, fun c hb => ?_, q⟩
 have hb' : s1.heap.objs.size <= c := by
  simp only [List.mem_cons, List.not_mem_nil, or_false] at hb
  rcases hb with rfl | rfl | rfl | rfl | rfl <;> first | exact Nat.le_refl _ | exact Nat.le_add_right _ _
 exact I1.fpOk hb' (I1.hok.fresh hb')
end
theorem K5 {K : PySem.W.Frag} {a : Addr} {xs : List V} {g : TG} {tb : TS} {D : qR} {σ : St} {H : Hp} (Pv : Nat -> St -> Hp -> Prop) (h0 : Pv 0 σ H) (hl : ∀ i σ H, i <= xs.length -> Pv i σ H -> SqL K H a xs)
  (hs : ∀ i x p σ H, xs[i]? = some x -> H p = none -> Pv i σ H -> g (.ref p) σ (upd H p (.tup [.int i, x])) fun σ2 H2 => tb { D with nx := Pv (i + 1), ct := Pv (i + 1), bk := D.nx } σ2 H2) (hd : ∀ σ H, Pv xs.length σ H -> D.nx σ H) :
  ∃ W : Nat -> Nat -> St -> Hp -> Prop, (∃ m, W 0 m σ H) /\ ∀ i m σ H, W i m σ H ->
   ((Ite K a).stop i H /\ D.nx σ H) \/ ((Ite K a).go i H /\ ∃ N : St -> Hp -> Prop, (∀ σ' H', N σ' H' -> ∃ m', m' < m /\ W (i + 1) m' σ' H') /\ ∀ x H', (Ite K a).yld i H x H' -> g x σ H' fun σ2 H2 => tb { D with nx := N, ct := N, bk := D.nx } σ2 H2) := by
 refine ⟨fun i m σ H => m = xs.length - i /\ i <= xs.length /\ Pv i σ H, ⟨xs.length, by simp, Nat.zero_le _, h0⟩, ?_⟩
 rintro i m σ H ⟨rfl, hi, p⟩
 have q := hl i σ H hi p
 by_cases hlt : i < xs.length
 ·refine .inr ⟨⟨xs, xs[i], q, by simp [hlt]⟩, Pv (i + 1), fun σ' H' p' => ⟨xs.length - (i + 1), by omega, rfl, hlt, p'⟩, fun x H' y => ?_⟩
  obtain ⟨pp, x', hp, rfl, y, rfl⟩ := y
  exact hs i x' pp σ _ (y xs q) hp p
 ·have e : i = xs.length := by omega
  subst e
  exact .inl ⟨⟨xs, q, Nat.le_refl _⟩, hd σ H p⟩
end L2
set_option Elab.async false
set_option linter.all false
set_option maxRecDepth 100000
set_option maxHeartbeats 4000000
namespace L2
open PySem PySem.Spec PyProof.Rows
noncomputable def qZ (p : Addr) (a b c : Int) : HO := .ext fun h => ∃ t u v, h.get? p = some { cls := .type "range", data := .fields #[.int a t, .int b u, .int c v] }
theorem KF {P : Program} {w : World} {H : Hp} {h : Heap} {p : Addr} {a b c : Int} {t u v : Tok} (e : h.get? p = some { cls := .type "range", data := .fields #[.int a t, .int b u, .int c v] }) : zC P w H h p (qZ p a b c) :=
 ⟨⟨t, u, v, e⟩, ⟨_, e⟩, fun h1 h2 ⟨t, u, v, q⟩ k => ⟨t, u, v, k _ q⟩⟩
noncomputable def zU (a c : Int) (n : Nat) : List Int := (List.range n).map fun (i : Nat) => a + (i : Int) * c
theorem zw (a c : Int) (n : Nat) : (zU a c n).length = n := by simp [zU]
theorem Qb {a c : Int} : ∀ {n : Nat} {acc : Array Value}, ItemsOf (fun (i : Nat) (v : Value) => ∃ t, v = Value.int (a + (i : Int) * c) t) acc n -> zr ((zU a c n).map V.int) acc.toList := by
 intro n acc ⟨hs, hi⟩
 have key : ∀ (k : Nat) (l : List Value), l.length = k -> (∀ (j : Nat) v, l[j]? = some v -> ∃ t, v = Value.int (a + (j : Int) * c) t) -> zr ((zU a c k).map V.int) l := by
  intro k
  induction k with
  | zero => intro l hl _; cases l with
   | nil => exact .nil
   | cons => simp at hl
  | succ k ih =>
   intro l hl hv
   obtain ⟨l', x, rfl⟩ : ∃ l' x, l = l' ++ [x] := ⟨l.dropLast, l.getLast (by intro e; rw [e] at hl; simp at hl), (List.dropLast_concat_getLast _).symm⟩
   have hl' : l'.length = k := by simpa using hl
   have e : (zU a c (k + 1)).map V.int = (zU a c k).map V.int ++ [.int (a + (k : Int) * c)] := by simp [zU, List.range_succ]
   rw [e]
   refine (ih l' hl' fun j v hj => hv j v ?_).append (.cons ?_ .nil)
   ·rw [List.getElem?_append_left (List.getElem?_eq_some_iff.mp hj).1]; exact hj
   ·obtain ⟨t, rfl⟩ := hv k x (by rw [List.getElem?_append_right (by omega), hl']; simp)
    exact ⟨t, rfl⟩
 exact key n acc.toList (by simpa using hs) fun j v hj => hi j v (by simpa using hj)
section
variable {X : Cx}
theorem qo : qk X (.type "range") (fun xs H Q => ∃ b : Int, xs = [.int b] /\ ∀ p, H p = none -> Q (.ref p) (upd H p (qZ p 0 b 1))) := by
 intro pins s σ H xs us Q I r h
 obtain ⟨b, rfl, q⟩ := h
 obtain ⟨u, rfl, t, rfl⟩ := jp r
 refine call_range_1 ⟨.ref s.heap.objs.size, _, I.laid (fun b o e => Heap.get?_push_of_some _ e) (Nat.le_refl _) ?_, rfl, q _ (I.hok.fresh (Nat.le_refl _))⟩
 exact KF (Heap.get?_push_size _ rfl)
theorem wG : qk X (.type "range") (fun xs H Q => ∃ a b c : Int, xs = [.int a, .int b, .int c] /\ c ≠ 0 /\ c.natAbs < 1073741824 /\ ∀ p, H p = none -> Q (.ref p) (upd H p (qZ p a b c))) := by
 intro pins s σ H xs us Q I r h
 obtain ⟨a, b, c, rfl, hc, hb, q⟩ := h
 cases r with
 | cons r1 r => cases r with
  | cons r2 r => cases r with
   | cons r3 r =>
    cases r
    obtain ⟨t1, rfl⟩ := r1
    obtain ⟨t2, rfl⟩ := r2
    obtain ⟨t3, rfl⟩ := r3
    refine call_range_3 hc ⟨.ref s.heap.objs.size, _, I.laid (t' := s.toks) (fun b o e => Heap.get?_push_of_some _ e) (Nat.le_refl _) ?_, rfl, q _ (I.hok.fresh (Nat.le_refl _))⟩ (.inl (PyProof.noPylong_small (by omega)))
    exact KF (Heap.get?_push_size _ rfl)
theorem zT (hc : X.calm = true) : qk X (.type "list") (fun xs H Q => ∃ p a b c n, xs = [.ref p] /\ H p = some (qZ p a b c) /\ Builtin.Range.small a b c = true /\ Builtin.Range.rangeSize a b c = ((n : Nat) : Int) /\ n <= 100000 /\ ∀ l, H l = none -> Q (.ref l) (upd H l (.lst ((zU a c n).map V.int)))) := by
 intro pins s σ H xs us Q I r h
 obtain ⟨p, a, b, c, n, rfl, hp, hs, hn, hz, q⟩ := h
 obtain ⟨u, rfl, rx⟩ := jp r
 cases rx
 obtain ⟨⟨t, u, v, e⟩, _⟩ := (show zC X.prog X.w H s.heap p (qZ p a b c) from I.hok _ _ hp)
 refine call_list_range (I.ok.hd hc) e hs hn (Nat.le_trans hz (by decide)) fun h' tk acc c' hk he hi => ?_
 refine ⟨.ref s.heap.objs.size, _, I.laid hk (Nat.le_refl _) (show zC X.prog X.w _ h' _ (.lst ((zU a c n).map V.int)) from ⟨?_, acc.toList, c', Qb hi, by simpa using he⟩), rfl, q _ (I.hok.fresh (Nat.le_refl _))⟩
 rw [List.length_map, zw]
 exact Nat.le_trans hz (by decide)
theorem Vg {i : Int} (h0 : 0 <= i) (h1 : i < 2 ^ 62) : ¬(!Builtin.List.listFitsIndex i) = true := by
 unfold Builtin.List.listFitsIndex
 simp
 omega
noncomputable def xJ : V -> List V -> Hp -> VK -> Prop := fun x vs H Q => ∃ l xs i y, x = .ref l /\ vs = [.int i, y] /\ H l = some (.lst xs) /\ 0 <= i /\ i <= xs.length /\ xs.length < sizeLine /\ Q .non (upd H l (.lst (xs.take i.toNat ++ y :: xs.drop i.toNat)))
theorem zr.insert {xs : List V} {us : List Value} {y : V} {u : Value} (r : zr xs us) (ry : zt y u) (k : Nat) : zr (xs.take k ++ y :: xs.drop k) (us.take k ++ u :: us.drop k) := (r.take k).append (.cons ry (r.drop k))
theorem Ke : MtM X "list.insert" xJ := by
 intro pins s σ H x vs v us Q I rx rv h
 obtain ⟨l, xs, i, y, rfl, rfl, hH, h0, h1, hz, q⟩ := h
 cases rx
 obtain ⟨u, w, rfl, ⟨t, rfl⟩, rw'⟩ := rv.two
 obtain ⟨z, its, n, r, hl, e⟩ := I.lstM hH
 have l63 := xO
 have hb : i < 2 ^ 62 := by
  have : sizeLine < 2 ^ 62 := by rw [sizeLine_eq]; decide
  omega
 refine call_meets F.slot_list_insert ⟨_, e, rfl⟩ F.entry_list_insert (F.args_list_insert_3 _ _ _) (PySem.AutoSeq1.list_insert_list_int_val_1 l its.toArray n i t w (Vg h0 hb) (by rw [List.size_toArray]; omega)) ⟨e, ?_⟩
 refine ⟨.non, _, I.lset (its' := its.take i.toNat ++ w :: its.drop i.toNat) hH e ?_ (r.insert rw' i.toNat) ?_, rfl, q⟩
 ·dsimp only
  rw [if_neg (by omega)]
  have hm : min i.toNat its.toArray.size = i.toNat := by rw [List.size_toArray]; omega
  rw [hm]
  apply Array.ext'
  simp
  first | done | omega | (rw [List.take_of_length_le (by simp)])
 ·rw [List.length_append, List.length_cons, List.length_take, List.length_drop]; omega
theorem vO : qk X (.builtin "sorted") (fun xs H Q => ∃ p ns, xs = [.ref p] /\ SqL X.K H p (List.map V.int ns) /\ ns.length < 64 /\ ∀ l ns', H l = none -> ns'.Perm ns -> ns'.Pairwise (· <= ·) -> Q (.ref l) (upd H l (.lst (List.map V.int ns')))) := by
 intro pins s σ H xs us Q I r h
 obtain ⟨p, ns, rfl, hq, h64, q⟩ := h
 obtain ⟨u, rfl, rx⟩ := jp r
 cases rx
 obtain ⟨its, rv, pl, hz⟩ := I.list hq
 have hlen := rv.length
 rw [List.length_map] at hlen
 refine sorted_ints pl.isList (Z7 rv) (by omega) fun out ns' a1 a2 a3 => ?_
 obtain ⟨k, he⟩ := sortedAll_at s.heap its out
 refine ⟨.ref (s.heap.objs.size + 1), _, I.laid (t' := s.toks) (fun _ _ => sortedAll_old) (Nat.le_succ _) (show zC X.prog X.w _ _ _ (.lst (List.map V.int ns')) from ⟨?_, out.toList, k, xh a1, by simpa [seqObj] using he⟩), rfl, q _ _ (I.hok.fresh (Nat.le_succ _)) a2 a3⟩
 rw [List.length_map, a2.length_eq]
 exact Nat.le_of_lt (vg (by omega))
end
end L2
set_option Elab.async false
set_option linter.all false
set_option maxRecDepth 100000
set_option maxHeartbeats 4000000
namespace L2
open PySem PySem.Spec PyProof.Rows
section
variable {X : Cx}
noncomputable def isT (t c : String) : Option Bool := if (Value.type t == Value.type c) = true then some true else if PySem.W.kitMeta c = true then (fastBuiltinMro t).map (·.contains (Value.type c)) else none
theorem Q5 (K : PySem.W.Frag) (t c : String) : PySem.W.kitOne K (.type t) (.type c) = isT t c := rfl
noncomputable def xC (t : String) : List String -> Option Bool
 | [] => some false
 | c :: r => match isT t c with
  | some true => some true
  | some false => xC t r
  | none => none
theorem Zp (K : PySem.W.Frag) (t : String) : ∀ cs : List String, PySem.W.kitAny K (.type t) (cs.map Value.type) = xC t cs
 | [] => rfl
 | c :: r => by
  show (match PySem.W.kitOne K (.type t) (.type c) with | some true => some true | some false => PySem.W.kitAny K (.type t) (r.map Value.type) | none => none) = _
  rw [Q5, Zp K t r]; rfl
theorem qH : qk X (.builtin "isinstance") (fun xs H Q => ∃ x t c b, xs = [x, .ty c] /\ jB X.K H x (.type t) /\ isT t c = some b /\ Q (.bl b) H) := by
 intro pins s σ H xs us Q I r h
 obtain ⟨x, t, c, b, rfl, ty, e, q⟩ := h
 obtain ⟨u, v, rfl, ru, rv⟩ := yH r
 cases rv
 exact Kk I ru ty (by rw [Q5]; exact e) fun tk => ⟨.bl b, H, I.tok _, rfl, q⟩
theorem wQ : ∀ {cs : List String} {us : List Value}, zr (cs.map V.ty) us -> us = cs.map Value.type
 | [], _, .nil => rfl
 | c :: cs, _, .cons r t => by rw [wQ t]; cases r; rfl
theorem Js : qk X (.builtin "isinstance") (fun xs H Q => ∃ x t p cs b, xs = [x, .ref p] /\ H p = some (.tup (List.map V.ty cs)) /\ jB X.K H x (.type t) /\ xC t cs = some b /\ Q (.bl b) H) := by
 intro pins s σ H xs us Q I r h
 obtain ⟨x, t, p, cs, b, rfl, hp, ty, e, q⟩ := h
 obtain ⟨u, v, rfl, rx, rv⟩ := yH r
 cases rv
 obtain ⟨_, its, rt, o, ho, hc, ⟨n, hd⟩, _⟩ := (show zC X.prog X.w H s.heap p (.tup (List.map V.ty cs)) from I.hok _ _ hp)
 obtain ⟨oc, od, odt, osl⟩ := o
 simp only at hc hd
 subst hc hd
 have e' : PySem.W.kitAny X.K (.type t) its = some b := by rw [wQ rt, Zp]; exact e
 have fin : ∀ tk, EP X pins σ Q (.bool b) { s with toks := tk } := fun tk => ⟨.bl b, H, I.tok _, rfl, q⟩
 cases ty with
 | non => cases (show u = Value.none from rx); exact PySem.W.kia_tup PySem.W.kitx_none I.kIn True.intro ho e' (fun z => nomatch z) fin
 | bl y => cases (show u = Value.bool y from rx); exact PySem.W.kia_tup PySem.W.kitx_bool I.kIn True.intro ho e' (fun z => nomatch z) fin
 | int i => obtain ⟨t, q⟩ := (show ∃ t, u = Value.int i t from rx); cases q; exact PySem.W.kia_tup PySem.W.kitx_int I.kIn True.intro ho e' (fun z => nomatch z) fin
 | str y => obtain ⟨t, q⟩ := (show ∃ t, u = Value.str y t from rx); cases q; exact PySem.W.kia_tup PySem.W.kitx_str I.kIn True.intro ho e' (fun z => nomatch z) fin
 | flt y => obtain ⟨t, q⟩ := (show ∃ t, u = Value.float y t from rx); cases q; exact PySem.W.kia_tup PySem.W.kitx_float I.kIn True.intro ho e' (fun z => nomatch z) fin
 | @lst a xs ea =>
  cases (show u = Value.ref a from rx)
  obtain ⟨_, _, n, _, h1⟩ := (show zC X.prog X.w H s.heap a (.lst xs) from I.hok a _ ea)
  exact PySem.W.kia_tup PySem.W.kitx_list I.kIn ⟨_, h1, rfl⟩ ho e' (fun z => nomatch z) fin
 | @frz a ob xs ea =>
  cases (show u = Value.ref a from rx)
  obtain ⟨_, _, _, n, _, h1⟩ := (show zC X.prog X.w H s.heap a (.frz ob (.lst xs)) from I.hok a _ ea)
  exact PySem.W.kia_tup PySem.W.kitx_list I.kIn ⟨_, h1, rfl⟩ ho e' (fun z => nomatch z) fin
 | @tup a xs ea =>
  cases (show u = Value.ref a from rx)
  obtain ⟨_, _, _, p⟩ := (show zC X.prog X.w H s.heap a (.tup xs) from I.hok a _ ea)
  obtain ⟨o, h1, h2, _⟩ := p
  exact PySem.W.kia_tup PySem.W.kitx_tuple I.kIn ⟨o, h1, h2⟩ ho e' (fun z => nomatch z) fin
 | @dK a kvs ea =>
  cases (show u = Value.ref a from rx)
  obtain ⟨_, _, vs, _, p⟩ := (show zC X.prog X.w H s.heap a (.dK kvs) from I.hok a _ ea)
  obtain ⟨o, es, ep, h1, h2, _⟩ := p
  exact PySem.W.kia_tup PySem.W.kitx_dict I.kIn ⟨o, h1, h2.1⟩ ho e' (fun z => nomatch z) fin
 | @dT a kvs ea =>
  cases (show u = Value.ref a from rx)
  obtain ⟨_, _, xs, _, o, es, ep, h1, h2, _⟩ := (show zC X.prog X.w H s.heap a (.dT kvs) from I.hok a _ ea)
  exact PySem.W.kia_tup PySem.W.kitx_dict I.kIn ⟨o, h1, h2.1⟩ ho e' (fun z => nomatch z) fin
theorem Qf {lo : Int} {n : Nat} {g : TG} {tt : TT} {te : TE} {Q : VK} {τ : St} {H1 : Hp} {D : Addr} (Pv : Nat -> St -> Hp -> Prop) (h0 : Pv 0 τ (upd H1 D (.lst [])))
  (hs : ∀ i τ H, i < n -> Pv i τ H -> g (.int (lo + i)) τ H fun τ2 H3 => tt τ2 H3 fun b H4 => if b = true then te τ2 H4 fun v H5 => ∃ ys, H5 D = some (.lst ys) /\ ys.length < sizeLine /\ Pv (i + 1) τ2 (upd H5 D (.lst (ys ++ [v]))) else Pv (i + 1) τ2 H4)
  (hd : ∀ τ H, Pv n τ H -> Q (.ref D) H) :
  ∃ W : Nat -> Nat -> St -> Hp -> Prop, (∃ m, W 0 m τ (upd H1 D (.lst []))) /\ ∀ i m τ H2, W i m τ H2 ->
   ((Itr lo n).stop i H2 /\ Q (.ref D) H2) \/ ((Itr lo n).go i H2 /\ ∃ N : St -> Hp -> Prop, (∀ τ' H', N τ' H' -> ∃ m', m' < m /\ W (i + 1) m' τ' H') /\ ∀ x H', (Itr lo n).yld i H2 x H' -> g x τ H' fun τ2 H3 => tt τ2 H3 fun b H4 =>
    if b = true then te τ2 H4 fun v H5 => ∃ ys, H5 D = some (.lst ys) /\ ys.length < sizeLine /\ N τ2 (upd H5 D (.lst (ys ++ [v]))) else N τ2 H4) := by
 refine ⟨fun i m τ H => m = n - i /\ i <= n /\ Pv i τ H, ⟨n, by simp, Nat.zero_le _, h0⟩, ?_⟩
 rintro i m τ H ⟨rfl, hi, p⟩
 by_cases hlt : i < n
 ·refine .inr ⟨hlt, Pv (i + 1), fun σ' H' p' => ⟨n - (i + 1), by omega, rfl, hlt, p'⟩, fun x H' y => ?_⟩
  obtain ⟨e, y⟩ := y
  subst e y
  exact hs i τ _ hlt p
 ·have e : i = n := by omega
  subst e
  exact .inl ⟨Nat.le_refl _, hd τ H p⟩
end
end L2
set_option Elab.async false
set_option linter.all false
set_option maxRecDepth 100000
set_option maxHeartbeats 4000000
namespace L2
open PySem PySem.Spec PyProof.Rows
noncomputable def At (K : PySem.W.Frag) (mg : Str -> Option Value) (x : Str) (st : Stmt) : Prop := ∃ f fd, Fun K x x st f fd /\ mg x = some (.ref f)
noncomputable def Df (P : Program) (w : World) (K : PySem.W.Frag) (mg : Str -> Option Value) (base : Heap) (x : Str) (ps : List Str) (k : Nat) (sp : Sp) : Prop :=
 ∃ f fd, jv P w K mg base CX0 k f fd ps sp /\ xq K fd ps [] /\ PySem.W.keepIn K (.ref f) = true /\ mg x = some (.ref f) /\ ∃ oc od osl, K.lookup f = some ⟨oc, od, .func fd, osl⟩
theorem Df.mono {P : Program} {w : World} {K : PySem.W.Frag} {mg : Str -> Option Value} {base : Heap} {x : Str} {ps : List Str} {j k : Nat} {sp : Sp} (D : Df P w K mg base x ps j sp) (h : j <= k) : Df P w K mg base x ps k sp :=
 let ⟨f, fd, F, r⟩ := D
 ⟨f, fd, F.mono h, r⟩
section
variable {X : Cx} {k : Nat} {x : Str} {ps : List Str} {sp : Sp} {p pos : Pos} {e : Expr} {es : List Expr} {t : TA}
theorem zD (D : Df X.prog X.w X.K X.mg X.base x ps k sp) (hr : qL k X.A) (hg : Gl X x) (ha : PA X (e :: es) t) (hdb : (x == ("__debug__" : Str)) = false := by decide)
  (he : starEach (e :: es) X.env = (false, eval e X.env) :: starEach es X.env := by rfl) (hpl : (backTo pos (starEach es X.env)).any (·.1) = false := by rfl) : PE X (.Call (.Name x p) (e :: es) [] pos) (QI sp [] E0 t) := by
 obtain ⟨f, fd, F, b, kp, m, _⟩ := D
 exact Wt F hr hg m kp b .nil DQ ha hdb he hpl
end
theorem jt {P : Program} {w : World} {K : PySem.W.Frag} {mg : Str -> Option Value} {base : Heap} {x : Str} {st : Stmt} {N ps : List Str} {k : Nat} {sp : Sp} (a : At K mg x st) (S : zA N ps (zj st))
  (hb : ∀ (kV doc pm : Value) (an : Option Addr) (cdv ct : Value) (us : List Value), us.length = ps.length -> bindArgs (PySem.W.fnOf x x (qF st) (zX st) (zj st) .none kV doc pm an cdv ct) ⟨us, []⟩ = pure (ps.zip us))
  (len : ∀ vs H Q E, sp vs H Q E -> vs.length = ps.length)
  (hbody : ∀ (f : Addr) (cdv : Value) (A : Around) (outer : List Env) (s : Shared) (H : Hp) (vs : List V) (Q : VK) (E : XK), qL k (A.deeper (envOfC x (zj st) s.heap.objs.size f cdv)) -> sp vs H Q E ->
   ∃ t, PSs (xa CX0 P w K mg base N x (zj st) f cdv A outer s H E).nox (zX st) t /\ t { nx := fun _ H' => Q .non H', rt := Q } (start N vs) H) : Df P w K mg base x ps (k + 1) sp := by
 obtain ⟨f, fd, F, m⟩ := a
 obtain ⟨oc, od, kV, doc, pm, an, cdv, ct, osl, _, lk, _⟩ := id F.ex
 exact ⟨f, fd, F.ok S len fun cdv A outer s H vs Q E => hbody f cdv A outer s H vs Q E, F.binds hb, F.kp, m, oc, od, osl, lk⟩
theorem at_mk {K : PySem.W.Frag} {mg : Str -> Option Value} {h : Heap} {x : Str} {st : Stmt} {f : Addr} {oc : Value} {od an : Option Addr} {osl : Array (Option Value)} {kV doc pm cdv ct : Value} (X : K.In h) (G : h.Ns mainGlobals mg) (a : PySem.W.nsIn K mainGlobals x = some (some (.ref f)))
  (l : K.lookup f = some ⟨oc, od, .func (PySem.W.fnOf x x (qF st) (zX st) (zj st) .none kV doc pm an cdv ct), osl⟩) (c : PySem.W.codeIn K cdv x = true) (k : PySem.W.keepIn K (.ref f) = true) : At K mg x st := ⟨f, _, Kr l c k, PySem.W.mg_of X G a⟩
theorem Df.fn {P : Program} {w : World} {K : PySem.W.Frag} {mg : Str -> Option Value} {base : Heap} {x : Str} {ps : List Str} {k : Nat} {sp : Sp} {f : Addr} {fd : FuncData} {oc : Value} {od : Option Addr} {osl : Array (Option Value)} (D : Df P w K mg base x ps k sp) (m : mg x = some (.ref f)) (l : K.lookup f = some ⟨oc, od, .func fd, osl⟩) : jv P w K mg base CX0 k f fd ps sp := by
 obtain ⟨f', fd', F, _, _, m', oc', od', osl', l'⟩ := D
 rw [m] at m'
 cases m'
 rw [l] at l'
 cases l'
 exact F
structure Blt (mg : Str -> Option Value) : Prop where
 len : mg "len" = none
 range : mg "range" = none
 list : mg "list" = none
 tuple : mg "tuple" = none
 int : mg "int" = none
 bool : mg "bool" = none
 str : mg "str" = none
 abs : mg "abs" = none
 divmod : mg "divmod" = none
 enumerate : mg "enumerate" = none
 zip : mg "zip" = none
 sorted : mg "sorted" = none
 max : mg "max" = none
 min : mg "min" = none
 isinstance : mg "isinstance" = none
 all : mg "all" = none
theorem blt_mk {K : PySem.W.Frag} {mg : Str -> Option Value} {h : Heap} (X : K.In h) (G : h.Ns mainGlobals mg) (z1 : PySem.W.nsIn K mainGlobals "len" = some none) (z2 : PySem.W.nsIn K mainGlobals "range" = some none) (z3 : PySem.W.nsIn K mainGlobals "list" = some none) (z4 : PySem.W.nsIn K mainGlobals "tuple" = some none) (z5 : PySem.W.nsIn K mainGlobals "int" = some none) (z6 : PySem.W.nsIn K mainGlobals "bool" = some none) (z7 : PySem.W.nsIn K mainGlobals "str" = some none) (z8 : PySem.W.nsIn K mainGlobals "abs" = some none)
  (z9 : PySem.W.nsIn K mainGlobals "divmod" = some none) (z10 : PySem.W.nsIn K mainGlobals "enumerate" = some none) (z11 : PySem.W.nsIn K mainGlobals "zip" = some none) (z12 : PySem.W.nsIn K mainGlobals "sorted" = some none) (z13 : PySem.W.nsIn K mainGlobals "max" = some none) (z14 : PySem.W.nsIn K mainGlobals "min" = some none) (z15 : PySem.W.nsIn K mainGlobals "isinstance" = some none) (z16 : PySem.W.nsIn K mainGlobals "all" = some none) : Blt mg :=
 ⟨PySem.W.mg_none_of X G z1, PySem.W.mg_none_of X G z2, PySem.W.mg_none_of X G z3, PySem.W.mg_none_of X G z4, PySem.W.mg_none_of X G z5, PySem.W.mg_none_of X G z6, PySem.W.mg_none_of X G z7, PySem.W.mg_none_of X G z8, PySem.W.mg_none_of X G z9, PySem.W.mg_none_of X G z10, PySem.W.mg_none_of X G z11, PySem.W.mg_none_of X G z12, PySem.W.mg_none_of X G z13, PySem.W.mg_none_of X G z14, PySem.W.mg_none_of X G z15, PySem.W.mg_none_of X G z16⟩
theorem zB : bootBuiltins "isinstance" = some (.builtin "isinstance") := by decide +kernel
theorem J9 : bootBuiltins "sorted" = some (.builtin "sorted") := by decide +kernel
theorem KL : bootBuiltins "abs" = some (.builtin "abs") := by decide +kernel
theorem JX : bootBuiltins "divmod" = some (.builtin "divmod") := by decide +kernel
theorem Bz : bootBuiltins "max" = some (.builtin "max") := by decide +kernel
theorem Dp : bootBuiltins "min" = some (.builtin "min") := by decide +kernel
theorem zV : bootBuiltins "len" = some (.builtin "len") := by decide +kernel
theorem qi : bootBuiltins "list" = some (.type "list") := by decide +kernel
theorem jw : bootBuiltins "tuple" = some (.type "tuple") := by decide +kernel
theorem yw : bootBuiltins "int" = some (.type "int") := by decide +kernel
theorem QL : bootBuiltins "bool" = some (.type "bool") := by decide +kernel
theorem vV : bootBuiltins "str" = some (.type "str") := by decide +kernel
theorem qO : bootBuiltins "range" = some (.type "range") := by decide +kernel
noncomputable def Kp (bs : List Addr) (H H' : Hp) : Prop := ∀ c o, c ∉ bs -> H c = some o -> H' c = some o
theorem Kp.refl {bs : List Addr} {H : Hp} : Kp bs H H := fun _ _ _ h => h
theorem Kp.trans {bs : List Addr} {H H1 H2 : Hp} (a : Kp bs H H1) (b : Kp bs H1 H2) : Kp bs H H2 := fun c o n h => b c o n (a c o n h)
theorem Kp.new {bs : List Addr} {H : Hp} {p : Addr} (o : HO) (h : H p = none) : Kp bs H (upd H p o) := fun c u _ q => by rw [zh (ze q h)]; exact q
theorem Kp.set {bs : List Addr} {H : Hp} {p : Addr} (o : HO) (h : p ∈ bs) : Kp bs H (upd H p o) := fun c u n q => by have hne : c ≠ p := (fun e => n (by rw [e]; exact h)); rw [zh hne]; exact q
theorem Kp.mono {bs bs' : List Addr} {H H' : Hp} (a : Kp bs H H') (h : ∀ b ∈ bs, b ∈ bs') : Kp bs' H H' := fun c o n q => a c o (fun z => n (h c z)) q
theorem Kp.free {H H' : Hp} (e : Kp [] H H') {l : Addr} (h : H' l = Option.none) : H l = Option.none := by
 cases q : H l with
 | none => rfl
 | some o => rw [e l o (by simp) q] at h; cases h
noncomputable def Bx (H : Hp) (b : Addr) (N : Nat) : Prop := ∃ x y z : Int, H b = some (.lst [.int x, .int y, .int z]) /\ 0 <= x /\ 0 <= y /\ y < 2147483648 /\ 0 <= z /\ z <= N
noncomputable abbrev il (ns : List Int) : HO := .lst (ns.map V.int)
end L2
set_option Elab.async false
set_option linter.all false
set_option maxRecDepth 100000
set_option maxHeartbeats 4000000
namespace L2
open PySem PySem.Spec PyProof.Rows
theorem cxK {CX : CXT} {P : Program} {w : World} {K : PySem.W.Frag} {mg : Str -> Option Value} {base : Heap} {N : List Str} {qual : Str} {scope : Scope} {f : Addr} {cd : Value} {A : Around} {outer : List Env} {s : Shared} {H : Hp} {E : XK} :
  (xa CX P w K mg base N qual scope f cd A outer s H E).K = K := rfl
noncomputable def VZ (J : It) (g : TG) (tb : TS) (D : qR) (σ : St) (H : Hp) : Prop := ∃ W : Nat -> Nat -> St -> Hp -> Prop, (∃ m, W 0 m σ H) /\ ∀ i m σ H, W i m σ H ->
 (J.stop i H /\ D.nx σ H) \/ (J.go i H /\ ∃ N : St -> Hp -> Prop, (∀ σ' H', N σ' H' -> ∃ m', m' < m /\ W (i + 1) m' σ' H') /\ ∀ x H', J.yld i H x H' -> g x σ H' fun σ2 H2 => tb { D with nx := N, ct := N, bk := D.nx } σ2 H2)
theorem vH {wi : TI} {g : TG} {tb : TS} {D : qR} {σ : St} {H : Hp} : Vj wi g tb D σ H = wi σ H (fun J H1 => VZ J g tb D σ H1) := rfl
noncomputable def W6 (J : It) (g : TG) (tt : TT) (te : TE) (D : Addr) (Q : VK) (τ : St) (H : Hp) : Prop := ∃ W : Nat -> Nat -> St -> Hp -> Prop, (∃ m, W 0 m τ H) /\ ∀ i m τ H2, W i m τ H2 ->
 (J.stop i H2 /\ Q (.ref D) H2) \/ (J.go i H2 /\ ∃ N : St -> Hp -> Prop, (∀ τ' H', N τ' H' -> ∃ m', m' < m /\ W (i + 1) m' τ' H') /\ ∀ x H', J.yld i H2 x H' -> g x τ H' fun τ2 H3 => tt τ2 H3 fun b H4 =>
  if b = true then te τ2 H4 fun v H5 => ∃ ys, H5 D = some (.lst ys) /\ ys.length < sizeLine /\ N τ2 (upd H5 D (.lst (ys ++ [v]))) else N τ2 H4)
theorem YK {ts : List Nat} {wi : TI} {g : TG} {tt : TT} {te : TE} {σ : St} {H : Hp} {Q : VK} :
  wo ts wi g tt te σ H Q = wi σ H (fun J H1 => ∀ D, H1 D = none -> W6 J g tt te D Q (clr ts σ) (upd H1 D (.lst []))) := rfl
theorem j7 {lo : Int} {n : Nat} {g : TG} {tb : TS} {D : qR} {σ : St} {H : Hp} (Pv : Nat -> St -> Hp -> Prop) (h0 : Pv 0 σ H)
  (hs : ∀ i σ H, i < n -> Pv i σ H -> g (.int (lo + i)) σ H fun σ2 H2 => tb { D with nx := Pv (i + 1), ct := Pv (i + 1), bk := D.nx } σ2 H2) (hd : ∀ σ H, Pv n σ H -> D.nx σ H) : VZ (Itr lo n) g tb D σ H := J3 Pv h0 hs hd
theorem VC {K : PySem.W.Frag} {a : Addr} {xs : List V} {g : TG} {tb : TS} {D : qR} {σ : St} {H : Hp} (Pv : Nat -> St -> Hp -> Prop) (h0 : Pv 0 σ H) (hl : ∀ i σ H, i <= xs.length -> Pv i σ H -> SqL K H a xs)
  (hs : ∀ i x p σ H, xs[i]? = some x -> H p = none -> Pv i σ H -> g (.ref p) σ (upd H p (.tup [.int i, x])) fun σ2 H2 => tb { D with nx := Pv (i + 1), ct := Pv (i + 1), bk := D.nx } σ2 H2) (hd : ∀ σ H, Pv xs.length σ H -> D.nx σ H) : VZ (Ite K a) g tb D σ H := K5 Pv h0 hl hs hd
theorem VQ {K : PySem.W.Frag} {a b : Addr} {xs ys : List V} {g : TG} {tb : TS} {D : qR} {σ : St} {H : Hp} (Pv : Nat -> St -> Hp -> Prop) (hlen : ys.length <= xs.length) (h0 : Pv 0 σ H) (hl : ∀ i σ H, i <= ys.length -> Pv i σ H -> SqL K H a xs /\ SqL K H b ys)
  (hs : ∀ i x y p σ H, xs[i]? = some x -> ys[i]? = some y -> H p = none -> Pv i σ H -> g (.ref p) σ (upd H p (.tup [x, y])) fun σ2 H2 => tb { D with nx := Pv (i + 1), ct := Pv (i + 1), bk := D.nx } σ2 H2) (hd : ∀ σ H, Pv ys.length σ H -> D.nx σ H) : VZ (Itz K a b) g tb D σ H := by
 refine ⟨fun i m σ H => m = ys.length - i /\ i <= ys.length /\ Pv i σ H, ⟨ys.length, by simp, Nat.zero_le _, h0⟩, ?_⟩
 rintro i m σ H ⟨rfl, hi, p⟩
 obtain ⟨q, q'⟩ := hl i σ H hi p
 by_cases hlt : i < ys.length
 ·refine .inr ⟨⟨xs, ys, xs[i]'(by omega), ys[i], q, q', by first | (simp; done) | (simp; omega), by simp [hlt]⟩, Pv (i + 1), fun σ' H' p' => ⟨ys.length - (i + 1), by omega, rfl, hlt, p'⟩, fun x H' y => ?_⟩
  obtain ⟨pp, x', y', hp, rfl, y1, y2, rfl⟩ := y
  exact hs i x' y' pp σ _ (y1 xs q) (y2 ys q') hp p
 ·have e : i = ys.length := by omega
  subst e
  exact .inl ⟨⟨xs, ys, q, q', .inr (Nat.le_refl _)⟩, hd σ H p⟩
theorem kg {lo : Int} {n : Nat} {g : TG} {tt : TT} {te : TE} {Q : VK} {τ : St} {H1 : Hp} {D : Addr} (Pv : Nat -> St -> Hp -> Prop) (h0 : Pv 0 τ (upd H1 D (.lst [])))
  (hs : ∀ i τ H, i < n -> Pv i τ H -> g (.int (lo + i)) τ H fun τ2 H3 => tt τ2 H3 fun b H4 => if b = true then te τ2 H4 fun v H5 => ∃ ys, H5 D = some (.lst ys) /\ ys.length < sizeLine /\ Pv (i + 1) τ2 (upd H5 D (.lst (ys ++ [v]))) else Pv (i + 1) τ2 H4)
  (hd : ∀ τ H, Pv n τ H -> Q (.ref D) H) : W6 (Itr lo n) g tt te D Q τ (upd H1 D (.lst [])) := Qf Pv h0 hs hd
end L2
set_option Elab.async false
set_option linter.all false
set_option maxRecDepth 100000
set_option maxHeartbeats 4000000
namespace L2
open PySem PySem.Spec PyProof.Rows
noncomputable def Z1 : List Expr -> Option (List Int)
 | [] => some []
 | .Constant (.int i) _ _ :: r => (Z1 r).map (i :: ·)
 | _ => none
noncomputable def WX (is : List Int) : TA := fun _ H Q => Q (is.map V.int) H
theorem Qn {X : Cx} : ∀ {es : List Expr} {is : List Int}, Z1 es = some is -> PA X es (WX is)
 | [], is, h => by
  cases (show some [] = some is from h)
  exact zb
 | .Constant (.int i) k p :: r, is, h => by
  obtain ⟨js, e, rfl⟩ := Option.map_eq_some_iff.mp (show (Z1 r).map (i :: ·) = some is from h)
  exact za (te := tC (.int i)) zd (Qn e)
theorem kP {X : Cx} : qk X (.type "int") (fun xs H Q => ∃ k, xs = [.bl k] /\ Q (.int (if k then 1 else 0)) H) := by
 intro pins s σ H xs us Q I r h
 exact Jv pins s σ H xs us Q I r (.inr h)
theorem Bx.mono {H : Hp} {b : Addr} {N M : Nat} (h : Bx H b N) (le : N <= M) : Bx H b M := let ⟨x, y, z, h1, h2, h3, h4, h5, h6⟩ := h; ⟨x, y, z, h1, h2, h3, h4, h5, by omega⟩
theorem Bx.new {H : Hp} {b p : Addr} {N : Nat} {o : HO} (h : Bx H b N) (hp : H p = none) : Bx (upd H p o) b N := let ⟨x, y, z, h1, r⟩ := h; ⟨x, y, z, (zh (ze h1 hp)).trans h1, r⟩
theorem Bx.kp {H H' : Hp} {b : Addr} {N : Nat} (h : Bx H b N) (k : Kp [] H H') : Bx H' b N := let ⟨x, y, z, h1, r⟩ := h; ⟨x, y, z, k _ _ (by simp) h1, r⟩
end L2
set_option Elab.async false
set_option linter.all false
set_option maxRecDepth 100000
set_option maxHeartbeats 4000000
namespace L2
open PySem PySem.Spec PyProof.Rows
noncomputable def zq (n : Nat) (ns : List Int) : Prop := ns.length = n /\ ns.Nodup /\ ∀ x ∈ ns, 0 <= x /\ x < (n : Int)
theorem zq.nil : zq 0 [] := ⟨rfl, List.nodup_nil, fun x h => nomatch h⟩
theorem wx {α : Type} (xs : List α) (i : Nat) (y : α) : (xs.take i ++ y :: xs.drop i).Perm (y :: xs) := by
 refine (List.perm_middle).trans ?_
 rw [List.take_append_drop]
theorem zq.insert {k : Nat} {ns : List Int} (h : zq k ns) (i : Nat) : zq (k + 1) (ns.take i ++ (k : Int) :: ns.drop i) := by
 obtain ⟨h1, h2, h3⟩ := h
 have pm := wx ns i (k : Int)
 refine ⟨by rw [pm.length_eq, List.length_cons, h1], ?_, fun x hx => ?_⟩
 ·refine pm.nodup_iff.mpr (List.nodup_cons.mpr ⟨fun hm => ?_, h2⟩)
  have := (h3 _ hm).2
  omega
 ·rcases List.mem_cons.mp (pm.mem_iff.mp hx) with rfl | hx
  ·omega
  ·have := h3 x hx; omega
theorem yc : ∀ (n : Nat) (l : List Int), l.Nodup -> (∀ x ∈ l, 0 <= x /\ x < (n : Int)) -> l.length <= n
 | 0, l, _, h => by
  cases l with
  | nil => exact Nat.le_refl _
  | cons x r => have := h x List.mem_cons_self; omega
 | n + 1, l, hn, h => by
  have ih := yc n (l.erase (n : Int)) (hn.erase _) (fun x hx => by
   have h1 := h x (List.mem_of_mem_erase hx)
   have h2 : x ≠ (n : Int) := fun e => by
    subst e
    exact (hn.not_mem_erase) hx
   omega)
  by_cases hm : (n : Int) ∈ l
  ·rw [List.length_erase_of_mem hm] at ih; omega
  ·rw [List.erase_of_not_mem hm] at ih; omega
theorem zq.surj {n : Nat} {ns : List Int} (h : zq n ns) {x : Int} (h0 : 0 <= x) (h1 : x < n) : x ∈ ns := by
 obtain ⟨l, d, b⟩ := h
 refine Classical.byContradiction fun hm => ?_
 have := yc n (x :: ns) (List.nodup_cons.mpr ⟨hm, d⟩) (fun y hy => by
  rcases List.mem_cons.mp hy with rfl | hy
  ·exact ⟨h0, h1⟩
  ·exact b y hy)
 rw [List.length_cons, l] at this
 omega
theorem zq.getD {n : Nat} {ns : List Int} (h : zq n ns) {i : Nat} (hi : i < n) : 0 <= ns.getD i 0 /\ ns.getD i 0 < n := by
 obtain ⟨l, d, b⟩ := h
 have hi' : i < ns.length := by omega
 have e : ns.getD i 0 = ns[i] := by rw [List.getD_eq_getElem?_getD, List.getElem?_eq_getElem hi']; rfl
 rw [e]
 exact b _ (List.getElem_mem hi')
theorem zY {ns : List Int} {i : Nat} (h : i < ns.length) : ns.getD i 0 = ns[i] := by rw [List.getD_eq_getElem?_getD, List.getElem?_eq_getElem h]; rfl
theorem zq.inj {n : Nat} {ns : List Int} (h : zq n ns) {i j : Nat} (hi : i < n) (hj : j < n) (e : ns.getD i 0 = ns.getD j 0) : i = j := by
 obtain ⟨l, d, b⟩ := h
 rw [zY (by omega), zY (by omega)] at e
 exact (List.getElem_inj d).mp e
theorem qY {n : Nat} {ns : List Int} (l : ns.length = n) (b : ∀ i, i < n -> 0 <= ns.getD i 0 /\ ns.getD i 0 < n) (j : ∀ i k, i < n -> k < n -> ns.getD i 0 = ns.getD k 0 -> i = k) : zq n ns := by
 refine ⟨l, ?_, fun x hx => ?_⟩
 ·rw [List.nodup_iff_pairwise_ne, List.pairwise_iff_getElem]
  intro i k hi hk hik e
  have := j i k (by omega) (by omega) (by rw [zY hi, zY hk]; exact e)
  omega
 ·obtain ⟨i, hi, rfl⟩ := List.mem_iff_getElem.mp hx
  have := b i (by omega)
  rwa [zY hi] at this
theorem zq.ex {n : Nat} {ns : List Int} (h : zq n ns) {j : Nat} (hj : j < n) : ∃ i, i < n /\ ns.getD i 0 = (j : Int) := by
 have hm := h.surj (x := (j : Int)) (by omega) (by omega)
 obtain ⟨i, hi, e⟩ := List.mem_iff_getElem.mp hm
 exact ⟨i, by rw [<- h.1]; exact hi, by rw [zY hi]; exact e⟩
theorem qy (n : Nat) {i : Nat} (h : i < n) : (zU 0 1 n).getD i 0 = (i : Int) := by
 rw [zY (by rw [zw]; exact h)]
 simp [zU]
theorem zq.rng (n : Nat) : zq n (zU 0 1 n) := by
 refine qY (zw 0 1 n) (fun i hi => ?_) (fun i k hi hk e => ?_)
 ·rw [qy n hi]; omega
 ·rw [qy n hi, qy n hk] at e; omega
theorem Kp.drop1 {bs : List Addr} {H H' : Hp} {p : Addr} {o : HO} (hp : H p = none) (k : Kp (p :: bs) (upd H p o) H') : Kp bs H H' := fun c u n h => by
 have hne : c ≠ p := ze h hp
 refine k c u ?_ ((zh hne).trans h)
 intro hm
 rcases List.mem_cons.mp hm with e | e
 ·exact hne e
 ·exact n e
theorem Bx.ne {H : Hp} {b p : Addr} {N : Nat} (h : Bx H b N) (hp : H p = none) : b ≠ p := let ⟨_, _, _, h1, _⟩ := h; ze h1 hp
theorem Bx.there {H : Hp} {b : Addr} {N : Nat} (h : Bx H b N) : ∃ o, H b = some o := let ⟨_, _, _, h1, _⟩ := h; ⟨_, h1⟩
theorem Bx.keep {H H' : Hp} {b : Addr} {N : Nat} {bs : List Addr} (h : Bx H b N) (k : Kp bs H H') (hb : b ∉ bs) : Bx H' b N := let ⟨x, y, z, h1, r⟩ := h; ⟨x, y, z, k _ _ hb h1, r⟩
theorem jC {ns : List Int} {i j : Nat} {v : Int} (h : i < ns.length) : (ns.set i v).getD j 0 = if j = i then v else ns.getD j 0 := by
 rw [List.getD_eq_getElem?_getD, List.getElem?_set]
 by_cases e : i = j
 ·subst e; simp [h]
 ·rw [if_neg e, if_neg (Ne.symm e), List.getD_eq_getElem?_getD]
noncomputable def ZV : V -> V -> V -> Hp -> (Hp -> Prop) -> Prop := fun o i v H Q => ∃ k, i = .int k /\ ∃ p, o = .ref p /\ ∃ xs, H p = some (.lst xs) /\ ∃ j, ixN xs.length k = some j /\ Q (upd H p (.lst (xs.set j v)))
section
variable {X : Cx}
theorem qX : MtR X "list.append" xE := vj
theorem xj : MtR X "list.insert" xJ := Ke
theorem ZQ : MtR X "list.reverse" kh := Qa
theorem kC {es : List Expr} {k : Nat} {t : TGs} {pos : Pos} {K : PySem.W.Frag} (n : Nat) (h : X.K = K) (hc : X.calm = true) (hs : PGs X es t) (hn : (assignEach es X.env).length = n := by rfl) (hst : (assignEach es X.env).findIdx? (·.1) = none := by rfl) : PG X (.Tuple es k pos) (Vb K n t) := h ▸ Ax hc hs hn hst
theorem qa : BH X ZV := by
 intro pins s σ H o i v ov iv u Q I ro ri rv h
 obtain ⟨k, e1, p, e2, xs, h1, j, h2, q⟩ := h
 exact Xj pins s σ H o i v ov iv u Q I ro ri rv ⟨p, xs, k, j, e2, e1, h1, h2, q⟩
end
end L2
set_option Elab.async false
set_option linter.all false
set_option maxRecDepth 100000
set_option maxHeartbeats 4000000
namespace L2
open PySem PySem.Spec PyProof.Rows
end L2
set_option Elab.async false
set_option linter.all false
set_option maxRecDepth 100000
set_option maxHeartbeats 4000000
namespace L2
open PySem PySem.Spec PyProof.Rows
section
variable {X : Cx}
noncomputable def Qs (K : PySem.W.Frag) : R2 := fun x y H Q => ∃ p xs i v, x = .ref p /\ y = .int i /\ (SqL K H p xs \/ SqT K H p xs) /\ atI xs i = some v /\ Q v H
theorem jq : IxR X (Qs X.K) := by
 intro value slice pins s σ H x y v u Q I rx ry h hs
 obtain ⟨p, xs, i, z, e1, e2, hq | hq, he, q⟩ := h
 ·exact zO value slice pins s σ H x y v u Q I rx ry ⟨p, xs, i, z, e1, e2, hq, he, q⟩ hs
 ·exact AN value slice pins s σ H x y v u Q I rx ry ⟨p, xs, i, z, e1, e2, hq, he, q⟩ hs
theorem KU {K : PySem.W.Frag} (h : X.K = K) : IxR X (Qs K) := h ▸ jq
theorem AC : bootBuiltins "all" = some (.builtin "all") := by decide +kernel
theorem yh : ∀ {bs : List Bool} {us : List Value}, zr (bs.map V.bl) us -> us = bs.map Value.bool
 | [], _, h => by cases h; rfl
 | b :: bs, _, h => by
  cases h with
  | cons r rs => cases r; rw [yh rs]; rfl
theorem Qk (bs : List Bool) : ((List.range bs.length).all fun i => (bs[i]?).getD true) = bs.all id := by
 rw [Bool.eq_iff_iff, List.all_eq_true, List.all_eq_true]
 constructor
 ·intro h x hx
  obtain ⟨i, hi, rfl⟩ := List.getElem_of_mem hx
  have := h i (by simpa using hi)
  simpa [List.getElem?_eq_getElem hi] using this
 ·intro h i hi
  have hi' : i < bs.length := by simpa using hi
  simpa [List.getElem?_eq_getElem hi'] using h bs[i] (List.getElem_mem hi')
theorem JE (hc : X.calm = true) : qk X (.builtin "all") (fun xs H Q => ∃ p bs, xs = [.ref p] /\ SqL X.K H p (List.map V.bl bs) /\ Q (.bl (bs.all id)) H) := by
  intro pins s σ H xs us Q I r h
  obtain ⟨p, bs, rfl, hq, q⟩ := h
  obtain ⟨u, rfl, rx⟩ := jp r
  cases rx
  obtain ⟨its, rv, pl, hz⟩ := I.list hq
  have hu := yh rv
  subst hu
  have hlt : p < s.heap.objs.size := by obtain ⟨_, e, _⟩ := pl.isList; exact Heap.lt_size e
  refine call_all_walk (wpAny_pyIter_list pl.isList ?_)
  refine ⟨s.heap.objs.size, [s.heap.objs.size, p], [s.heap.objs.size], (bs.map Value.bool).toArray.size, _, _, fun i => (bs[i]?).getD true, rfl, Walks.list (A := X.A.in1) (I.ok.hd hc) _ p (Nat.ne_of_lt hlt) (bs.map Value.bool).toArray,
    ⟨⟨_, Heap.get?_push_size _ rfl, rfl, rfl⟩, pl.isList.push _⟩, fun i v s' Q' E' hP hQ => ?_, fun h' tk hk => ?_⟩
  · have hP' : (bs.map Value.bool)[i]? = some v := by simpa using hP
    rw [List.getElem?_map] at hP'
    cases e : bs[i]? with
    | none => rw [e] at hP'; cases hP'
    | some b =>
      rw [e] at hP'
      cases hP'
      simp only [e, Option.getD_some] at hQ
      exact wpAny_truthy_bool hQ
  · have e : ((List.range (bs.map Value.bool).toArray.size).all fun i => (bs[i]?).getD true) = bs.all id := by
      rw [List.size_toArray, List.length_map]; exact Qk bs
    rw [e]
    refine ⟨.bl (bs.all id), H, I.turnedL (ch := []) (tk := tk) (fun b hb => nomatch hb) (fun b o _ eb => ?_), rfl, q⟩
    exact hk b o (fun hm => by rw [List.mem_singleton.mp hm] at eb; exact Nat.lt_irrefl _ (Heap.lt_size eb)) (Heap.get?_push_of_some _ eb)
end
end L2
set_option Elab.async false
set_option linter.all false
set_option maxRecDepth 100000
set_option maxHeartbeats 4000000
namespace L2
open PySem PySem.Spec PyProof.Rows
noncomputable def nxt (os : List Int) (p : Int) : Int := os.getD p.toNat 0
noncomputable def itn (os : List Int) : Nat -> Int -> Int
 | 0, p => p
 | k + 1, p => nxt os (itn os k p)
theorem jh {n : Nat} {os : List Int} (h : zq n os) {p : Int} (p0 : 0 <= p) (p1 : p < n) : ∀ k, 0 <= itn os k p /\ itn os k p < n
 | 0 => ⟨p0, p1⟩
 | k + 1 => by
  have := jh h p0 p1 k
  exact h.getD (by omega)
theorem qU (os : List Int) (p : Int) (b : Nat) : ∀ a, itn os (a + b) p = itn os a (itn os b p)
 | 0 => by rw [Nat.zero_add]; rfl
 | a + 1 => by
  rw [show a + 1 + b = (a + b) + 1 by omega]
  show nxt os (itn os (a + b) p) = nxt os (itn os a (itn os b p))
  rw [qU os p b a]
theorem WE {n : Nat} {os : List Int} (h : zq n os) {x y : Int} (x0 : 0 <= x) (x1 : x < n) (y0 : 0 <= y) (y1 : y < n) (e : nxt os x = nxt os y) : x = y := by
 have := h.inj (i := x.toNat) (j := y.toNat) (by omega) (by omega) e
 omega
theorem xK {n : Nat} {os : List Int} (h : zq n os) {x y : Int} (x0 : 0 <= x) (x1 : x < n) (y0 : 0 <= y) (y1 : y < n) : ∀ k, itn os k x = itn os k y -> x = y
 | 0, e => e
 | k + 1, e => by
  have bx := jh h x0 x1 k
  have by' := jh h y0 y1 k
  exact xK h x0 x1 y0 y1 k (WE h bx.1 bx.2 by'.1 by'.2 e)
theorem Q8 {n : Nat} {os : List Int} (h : zq n os) {p : Int} (p0 : 0 <= p) (p1 : p < n) : ∃ M, 1 <= M /\ M <= n /\ itn os M p = p := by
 apply Classical.byContradiction
 intro hno
 have hp : ((List.range (n + 1)).map fun i => itn os i p).Nodup := by
  rw [List.Nodup, List.pairwise_map]
  refine List.Pairwise.imp_of_mem (R := fun a b => a < b) ?_ List.pairwise_lt_range
  intro a b ha hb hlt e
  have hb' : b < n + 1 := by simpa using hb
  refine hno ⟨b - a, by omega, by omega, ?_⟩
  have bb := jh h p0 p1 (b - a)
  refine (xK h p0 p1 bb.1 bb.2 a ?_).symm
  rw [<- qU, show a + (b - a) = b by omega]
  exact e
 have := yc n _ hp (fun x hx => by
  obtain ⟨i, _, rfl⟩ := List.mem_map.mp hx
  exact jh h p0 p1 i)
 rw [List.length_map, List.length_range] at this
 omega
end L2
set_option Elab.async false
set_option linter.all false
set_option maxRecDepth 100000
set_option maxHeartbeats 4000000
namespace L2
open PySem PySem.Spec PyProof.Rows
end L2
set_option Elab.async false
set_option linter.all false
set_option maxRecDepth 100000
set_option maxHeartbeats 4000000
namespace L2
open PySem PySem.Spec PyProof.Rows
section
variable {P : Program} {w : World} {A : Around} {E : Value -> Shared -> Prop} {s : Shared} {j t : Addr} {i : Nat} {its : Array Value} {Q : Value -> Shared -> Prop}
theorem vq {x : Value} (hj : s.heap.IsTupleIter j t i) (ht : s.heap.IsTuple t its) (hx : its[i]? = some x) (hQ : ∀ h', h'.IsTupleIter j t (i + 1) -> Heap.SameBut j s.heap h' -> Q x { s with heap := h' }) : wpAny (model P w) A (Builtin.SmallTypes.nextOf (.ref j)) Q E s := by
 obtain ⟨o, ho, hc, hd⟩ := id hj
 obtain ⟨ot, hot, _, nt, hdt⟩ := ht
 unfold Builtin.SmallTypes.nextOf
 refine wpAny_bind (wpAny_callSpecial?_slot (name := Str.ofString "__next__") hj.typeIs F.slot_tuple_iterator_next (wpAny_call_entry F.slot_tuple_iterator_next hj.typeIs F.entry_tuple_iterator_next ?_ (F.args_tuple_iterator_next_1 _)))
 refine wpAny_bind (m := field (.ref j) 0) (wpAny_field ho hd (x := .ref t) rfl ?_); show wpAny _ _ (if (Value.ref t == Value.none) = true then _ else _) _ _ s; rw [if_neg (show ¬ ((Value.ref t == Value.none) = true) from Bool.false_ne_true)]
 refine wpAny_bind (m := field (.ref j) 1) (wpAny_field ho hd (x := .int i 0) rfl ?_); refine wpAny_bind (m := seqItems? (.ref t)) (wpAny_seqItems hot hdt ?_); simp only [Int.toNat_natCast, hx]
 refine wpAny_bind (wpAny_setField ho hd (by simp) (wpAny_pure ⟨x, rfl, wpAny_pure (hQ _ ⟨_, Heap.get?_update_self _ ho (Obj.isFreed_of_fields (Obj.data_mapFields hd _)), (Obj.cls_mapFields ..).trans hc, by rw [Obj.data_mapFields hd]; simp [rawInt]⟩ (Heap.SameBut.update ..))⟩))
theorem xw (hh : A.handled = none) (hj : s.heap.IsTupleIter j t i) (ht : s.heap.IsTuple t its) (hx : its[i]? = none) (hE : ∀ h' e, Heap.ExtBut j s.heap h' -> (∃ o, h'.get? e = some o /\ o.cls = .type "StopIteration") -> E (.ref e) { s with heap := h' }) : wpAny (model P w) A (Builtin.SmallTypes.nextOf (.ref j)) Q E s := by
 obtain ⟨o, ho, hc, hd⟩ := id hj
 obtain ⟨ot, hot, _, nt, hdt⟩ := ht
 unfold Builtin.SmallTypes.nextOf
 refine wpAny_bind (wpAny_callSpecial?_slot (name := Str.ofString "__next__") hj.typeIs F.slot_tuple_iterator_next (wpAny_call_entry F.slot_tuple_iterator_next hj.typeIs F.entry_tuple_iterator_next ?_ (F.args_tuple_iterator_next_1 _)))
 refine wpAny_bind (m := field (.ref j) 0) (wpAny_field ho hd (x := .ref t) rfl ?_); show wpAny _ _ (if (Value.ref t == Value.none) = true then _ else _) _ _ s; rw [if_neg (show ¬ ((Value.ref t == Value.none) = true) from Bool.false_ne_true)]
 refine wpAny_bind (m := field (.ref j) 1) (wpAny_field ho hd (x := .int i 0) rfl ?_); refine wpAny_bind (m := seqItems? (.ref t)) (wpAny_seqItems hot hdt ?_); simp only [Int.toNat_natCast, hx]
 refine wpAny_bind (wpAny_rule (wpAny_bind (wpAny_setField ho hd (by simp) ?_))); refine wpAny_bind (m := newExc (.type "StopIteration") []) ?_; simp only [newExc, newTuple]; refine wpAny_bind (wpAny_newObj_type ?_ (by size_fits)); refine wpAny_bind (m := firstArgMember _ _) (wpAny_of_eq (a := Value.none) (by first | rfl | (simp only [firstArgMember]; rfl)) ?_); refine wpAny_newObj_type ?_ (by size_fits); simp only [raiseNew]; refine wpAny_bind (wpAny_handled ?_)
 (first | rw [show A.in1.handled = none from hh] | rw [hh]); refine wpAny_bind (wpAny_pure (wpAny_throw ?_)); exact hE _ _ (((Heap.SameBut.update ..).extBut.push _).push _) ⟨_, Heap.get?_push_size _ rfl, rfl⟩
end
theorem J5 {P : Program} {w : World} {A : Around} (hh : A.handled = none) (j t : Addr) (hne : t ≠ j) (its : Array Value) :
  Draws P w A j [j, t] its.size (fun i v => its[i]? = some v) (fun i h => h.IsTupleIter j t i /\ h.IsTuple t its) where
 live := fun _ _ st => let ⟨o, ho, _⟩ := st.1; ⟨o, ho⟩
 frame := fun _ _ _ st hk => ⟨st.1.at fun o e => hk j (by simp) o e, let ⟨o, ho, r⟩ := st.2; ⟨o, hk t (by simp) o ho, r⟩⟩
 item := fun i s Q E hi st hQ => by
  refine vq st.1 st.2 (x := its[i]) (by simp [hi]) fun h' hit' hs' => ?_
  exact hQ _ h' s.toks (by simp [hi]) ⟨hit', let ⟨o, ho, r⟩ := st.2; ⟨o, (hs'.2 t hne).trans ho, r⟩⟩ hs'
 done := fun s Q E st hE => xw hh st.1 st.2 (by simp) hE
open AutoSeq1 (wpAny_loadPart') in
theorem JD (l : Addr) (its : Array Value) (n : Nat) (dct : Option Addr) (sl : Array (Option Value)) :
  Meets (Builtin.«enumerate.__new__» ⟨[.type "enumerate", .ref l], []⟩) (fun _ R s => s.heap.get? l = some { cls := .type "tuple", dict := dct, data := .seq its n, slots := sl } /\ R (.ok (.ret (.ref (s.heap.push { cls := .type "tuple_iterator", data := .fields #[.ref l, .int 0 0] }).objs.size))) { s with heap := (s.heap.push { cls := .type "tuple_iterator", data := .fields #[.ref l, .int 0 0] }).push { cls := .type "enumerate", data := .fields #[.none, .bool false, .ref s.heap.objs.size, rawInt 0, .none, .none] } }) :=
 .of_wp fun prog w A R s h => by
  obtain ⟨hp, g, d, tk, os⟩ := s
  obtain ⟨hl, h⟩ := h
  have hsub := sub_enumerate
  have hT : Heap.IsTuple (Shared.heap ⟨hp, g, d, tk, os⟩) l its := ⟨_, hl, rfl, n, rfl⟩
  wp_walk using wpAny_loadPart' hl
  refine wpAny_stack_any fun st => wpAny_pure ?_
  split
  ·rename_i c _ _ _ _ _
   cases (c == Value.type "enumerate")
   ·wp_walk using wpAny_loadPart' hl, wpAny_pyIter_tuple hT; exact ⟨_, rfl, h⟩
   ·wp_walk using wpAny_loadPart' hl, wpAny_pyIter_tuple hT; exact ⟨_, rfl, h⟩
  ·wp_walk using wpAny_loadPart' hl, wpAny_pyIter_tuple hT; exact ⟨_, rfl, h⟩
theorem ZR {P : Program} {w : World} {A : Around} {E : Value -> Shared -> Prop} {s : Shared} {l : Addr} {its : Array Value} {Q : Value -> Shared -> Prop} (hT : s.heap.IsTuple l its)
  (h : ∀ h', IsEnum h' (s.heap.objs.size + 1) s.heap.objs.size 0 .none -> h'.IsTupleIter s.heap.objs.size l 0 -> (∀ b o, s.heap.get? b = some o -> h'.get? b = some o) -> Q (.ref (s.heap.objs.size + 1)) { s with heap := h' }) :
  wpAny (model P w) A (call (.type "enumerate") [.ref l]) Q E s := by
 obtain ⟨⟨c, dct, dt, sl⟩, hl, hc, n, hd⟩ := hT
 replace hc : c = .type "tuple" := hc
 replace hd : dt = .seq its n := hd
 subst hc hd
 refine callType_new F.called_enumerate (by decide) (F.typeCall_enumerate_1 _) (F.newCall_enumerate_1 _) (fun obj => F.args_object_init_2 obj _) F.entry_enumerate_new (JD l its n dct sl) ⟨hl, ?_⟩
 have hz : (s.heap.push { cls := .type "tuple_iterator", data := .fields #[.ref l, .int 0 0] }).objs.size = s.heap.objs.size + 1 := Heap.size_push ..
 show _ /\ _
 rw [hz]
 have he : IsEnum ((s.heap.push { cls := .type "tuple_iterator", data := .fields #[.ref l, .int 0 0] }).push { cls := .type "enumerate", data := .fields #[.none, .bool false, .ref s.heap.objs.size, rawInt 0, .none, .none] }) (s.heap.objs.size + 1) s.heap.objs.size 0 .none := by
  have hg := Heap.get?_push_size (s.heap.push { cls := .type "tuple_iterator", data := .fields #[.ref l, .int 0 0] }) (o := { cls := .type "enumerate", data := .fields #[.none, .bool false, .ref s.heap.objs.size, rawInt 0, .none, .none] }) rfl
  rw [hz] at hg; exact hg
 exact ⟨⟨_, he, rfl⟩, h _ he ⟨_, Heap.get?_push_of_some _ (Heap.get?_push_size _ rfl), rfl, rfl⟩ fun b o x => Heap.get?_push_of_some _ (Heap.get?_push_of_some _ x)⟩
theorem JO {P : Program} {w : World} {A : Around} {E : Value -> Shared -> Prop} {s : Shared} {e j t : Addr} {i : Nat} {its : Array Value} {old : Value} {Q : Option Value -> Shared -> Prop} (hh : A.handled = none)
  (he : IsEnum s.heap e j i old) (hj : s.heap.IsTupleIter j t i) (ht : s.heap.IsTuple t its) (hx : its[i]? = none) (hQ : ∀ h', Heap.ExtBut j s.heap h' -> Q none { s with heap := h' }) : wpAny (model P w) A (pyNext (.ref e)) Q E s := by
 have hT : s.TypeIs (.ref e) "enumerate" := ⟨_, he, rfl⟩
 unfold pyNext
 refine wpAny_bind (wpAny_attempt (wpAny_callSpecial?_slot (name := Str.ofString "__next__") hT F.slot_enumerate_next (wpAny_call_entry F.slot_enumerate_next hT F.entry_enumerate_next ?_ (F.args_enumerate_next_1 _))))
 refine wpAny_bind (m := field (.ref e) 2) (wpAny_field he rfl (x := .ref j) rfl ?_); refine wpAny_bind (xw hh hj ht hx fun h' x he' hx' => ?_)
 obtain ⟨o, ho, hc⟩ := hx'
 refine wpAny_bind (wpAny_isInstance (T := "StopIteration") (b := true) ⟨o, ho, hc⟩ isSubtype_stop ?_); exact wpAny_pure (hQ _ he')
noncomputable def BV (K : PySem.W.Frag) (a : Addr) : It :=
 ⟨fun i H => ∃ xs x, SqT K H a xs /\ xs[i]? = some x, fun i H y H' => ∃ p x, H p = none /\ y = .ref p /\ (∀ xs, SqT K H a xs -> xs[i]? = some x) /\ H' = upd H p (.tup [.int i, x]), fun i H => ∃ xs, SqT K H a xs /\ xs.length <= i⟩
theorem ZK {P : Program} {w : World} {K : PySem.W.Frag} {es : List Expr} {kt : Nat} {tp : Pos} (a e it : Addr) (hei : e ≠ it) (hea : e ≠ a) (hai : a ≠ it) : Qe P w K (.Tuple es kt tp) (BV K a) [e, it] e (fun i h => (∃ old, IsEnum h e it (i : Nat) old) /\ h.IsTupleIter it a i) where
 mem := by simp
 obj := fun i h st b hb => by
  obtain ⟨⟨old, he⟩, ⟨o, e1, c, d⟩⟩ := st
  rcases List.mem_cons.mp hb with rfl | hb
  ·exact ⟨_, he, fun v z => by have z' : Data.fields _ = Data.cell v := z; cases z'⟩
  ·have e2 : b = it := by simpa using hb
   subst e2
   exact ⟨o, e1, fun v z => by rw [d] at z; cases z⟩
 keep := fun i h h' st k => by
  obtain ⟨⟨old, he⟩, st⟩ := st
  exact ⟨⟨old, k e (by simp) _ he⟩, st.at fun o e => k it (by simp) o e⟩
 item := by
  intro X hP hw hK hc i pins s σ H E I hf st hg
  subst hP hw hK
  obtain ⟨⟨old, he⟩, st⟩ := st
  obtain ⟨xs, x, hq, hx⟩ := hg
  obtain ⟨its, rv, p, hz⟩ := I.tuple hq
  obtain ⟨u, hu, ru⟩ := rv.get hx
  have hlt : i < its.toArray.size := by
   have := (List.getElem?_eq_some_iff.mp hu).1
   simpa using this
  refine wpAny_pyNext_enum_itemD (J5 (A := X.A.in1) (I.ok.hd hc) it a hai its.toArray) he ⟨st, p⟩ hlt hei (by simp [hei, hea]) fun x' h1 tk hP heo hit1 ht1 hz1 hk1 => ?_
  have hxu : x' = u := by
   have h1' : its[i]? = some x' := by simpa using hP
   rw [hu] at h1'; cases h1'; rfl
  subst hxu
  refine ⟨.ref s.heap.objs.size, rfl, wpAny_letOwnedTupleGo_enum heo fun h2 he2 hs2 => ?_⟩
  replace hs2 : Heap.SameBut e h1 h2 := hs2
  have elt : e < s.heap.objs.size := Heap.lt_size he
  have ht2 := (hs2.2 _ (Nat.ne_of_gt elt)).trans ht1
  have I2 : Inv X pins σ (upd H s.heap.objs.size (.tup [.int i, x])) { s with heap := h2, toks := tk + 1 } := by
   refine I.yieldTup (us := [.int i tk, x']) hf (fun b o hb q => ?_) (Nat.le_refl _) ht2 (.cons ⟨_, rfl⟩ (.cons ru .nil)) (by show 2 <= sizeLine; decide)
   have n1 : b ≠ e := fun z => hb (by simp [z])
   have n2 : b ≠ it := fun z => hb (by simp [z])
   exact (hs2.2 b n1).trans (hk1 b o n1 n2 q)
  refine ⟨.ref s.heap.objs.size, _, I2, rfl, ⟨s.heap.objs.size, x, I.hok.fresh (Nat.le_refl _), rfl, fun ys hy => by rw [I.tuple_inj hy hq]; exact hx, rfl⟩, ⟨⟨_, by simpa using he2⟩, hit1.1.extBut hs2.extBut (Ne.symm hei)⟩, fun b hb => ?_⟩
  have hlt : b < s.heap.objs.size := by
   rcases List.mem_cons.mp hb with rfl | hb
   ·exact elt
   ·have e2 : b = it := by simpa using hb
    subst e2
    obtain ⟨o, e1, _⟩ := st
    exact Heap.lt_size e1
  rw [zh (Nat.ne_of_lt hlt)]
  exact (hf b hb).1
 done := by
  intro X hP hw hK hc i pins s σ H E I hf st hg
  subst hP hw hK
  obtain ⟨⟨old, he⟩, st⟩ := st
  obtain ⟨xs, hq, hx⟩ := hg
  obtain ⟨its, rv, p, hz⟩ := I.tuple hq
  obtain ⟨f0, f1, f2, f3, f4, f5⟩ := hf it (by simp)
  have hl := rv.length
  exact JO (I.ok.hd hc) he st p (by simp; omega) fun h' eb => ⟨rfl, I.turned (t' := s.toks) (fun b o hb e => eb b o hb e) f0 f1 f3 f4 f5⟩
 self := fun _ _ _ _ _ st h => by
  obtain ⟨⟨old, he⟩, _⟩ := st
  exact wpAny_pyIter_enum he h
section
variable {X : Cx} {es : List Expr} {kt : Nat} {tp : Pos}
noncomputable def vt (K : PySem.W.Frag) (ta : TA) : TI := fun σ H R => ta σ H fun vs H1 => ∃ a, vs = [.ref a] /\ (((∃ xs, SqL K H1 a xs) /\ R (Ite K a) H1) \/ ((∃ xs, SqT K H1 a xs) /\ R (BV K a) H1))
theorem Jq {e : Expr} {ta : TA} {p pos : Pos} (hg : Gl X "enumerate") (hm : X.mg "enumerate" = none) (ha : PA X [e] ta) (hs : starEach [e] X.env = [(false, eval e X.env)] := by rfl) :
  PI X (.Tuple es kt tp) (.Call (.Name "enumerate" p) [e] [] pos) (vt X.K ta) := by
 intro pins s σ H R I h
 refine Call_ (qK I hg hm (ym) (PyProof.Rows.callWith_type1 (thn (ha pos pins s σ H _ I h) fun us s1 ⟨vs, H1, I1, r1, q1⟩ => ?_) hs rfl))
 obtain ⟨a, e, q⟩ := q1
 subst e
 obtain ⟨u, rfl, ru⟩ := jp r1
 cases ru
 have hb' : ∀ b ∈ [s1.heap.objs.size + 1, s1.heap.objs.size], s1.heap.objs.size <= b := by
  intro b hb
  simp only [List.mem_cons, List.not_mem_nil, or_false] at hb
  omega
 rcases q with ⟨⟨xs, hq⟩, q⟩ | ⟨⟨xs, hq⟩, q⟩
 ·obtain ⟨its, rv, pl, hz⟩ := I1.list hq
  refine call_enumerate_list pl.isList fun h' he hit hsz hk => wpAny_pyIter_enum he ?_
  have I2 : Inv X pins σ H1 { s1 with heap := h' } := I1.kept (t' := s1.toks) hk
  exact ⟨s1.heap.objs.size + 1, [s1.heap.objs.size + 1, s1.heap.objs.size], _, _, H1, rfl, I2, vd a _ _ (Nat.succ_ne_self _), ⟨⟨_, he⟩, hit⟩, fun b hb => I1.fpOk (hb' b hb) (I1.hok.fresh (hb' b hb)), q⟩
 ·obtain ⟨its, rv, pl, hz⟩ := I1.tuple hq
  have alt : a < s1.heap.objs.size := by obtain ⟨o, e, _⟩ := pl; exact Heap.lt_size e
  refine ZR pl fun h' he hit hk => wpAny_pyIter_enum he ?_
  have I2 : Inv X pins σ H1 { s1 with heap := h' } := I1.kept (t' := s1.toks) hk
  exact ⟨s1.heap.objs.size + 1, [s1.heap.objs.size + 1, s1.heap.objs.size], _, _, H1, rfl, I2, ZK a (s1.heap.objs.size + 1) s1.heap.objs.size (Nat.succ_ne_self _) (Nat.ne_of_gt (Nat.lt_succ_of_lt alt)) (Nat.ne_of_lt alt), ⟨⟨_, he⟩, hit⟩, fun b hb => I1.fpOk (hb' b hb) (I1.hok.fresh (hb' b hb)), q⟩
end
end L2
set_option Elab.async false
set_option linter.all false
set_option maxRecDepth 100000
set_option maxHeartbeats 4000000
namespace L2
open PySem PySem.Spec PyProof.Rows
noncomputable def ME (t : TE) : Prop := ∀ σ H Q Q', (∀ v H1, Q v H1 -> Q' v H1) -> t σ H Q -> t σ H Q'
noncomputable def MT (t : TT) : Prop := ∀ σ H Q Q', (∀ v H1, Q v H1 -> Q' v H1) -> t σ H Q -> t σ H Q'
theorem Xq {i : Nat} : ME (Yb i) := fun _ _ _ _ hq ⟨v, e, h⟩ => ⟨v, e, hq _ _ h⟩
end L2
set_option Elab.async false
set_option linter.all false
set_option maxRecDepth 100000
set_option maxHeartbeats 4000000
namespace L2
open PySem PySem.Spec PyProof.Rows
theorem wB {p : Nat -> Prop} : ∀ n, p n -> ∃ m, p m /\ ∀ j, j < m -> ¬ p j := by
 intro n
 induction n using Nat.strongRecOn with
 | _ n ih =>
  intro h
  by_cases hx : ∃ j, j < n /\ p j
  ·obtain ⟨j, hj, pj⟩ := hx
   exact ih j hj pj
  ·exact ⟨n, h, fun j hj pj => hx ⟨j, hj, pj⟩⟩
noncomputable def ju (os : List Int) (p : Int) (m : Nat) : Prop := 1 <= m /\ itn os m p = p /\ ∀ j, 1 <= j -> j < m -> itn os j p ≠ p
theorem ju.uniq {os : List Int} {p : Int} {m m' : Nat} (h : ju os p m) (h' : ju os p m') : m = m' := by
 obtain ⟨a1, a3, a4⟩ := h
 obtain ⟨b1, b3, b4⟩ := h'
 rcases Nat.lt_trichotomy m m' with z | z | z
 ·exact absurd a3 (b4 m a1 z)
 ·exact z
 ·exact absurd b3 (a4 m' b1 z)
theorem kM {n : Nat} {os : List Int} (h : zq n os) {p : Int} (p0 : 0 <= p) (p1 : p < n) : ∃ m, ju os p m /\ m <= n := by
 obtain ⟨M, h1, h2, h3⟩ := Q8 h p0 p1
 obtain ⟨m, ⟨m1, m2⟩, m3⟩ := wB (p := fun k => 1 <= k /\ itn os k p = p) M ⟨h1, h3⟩
 refine ⟨m, ⟨m1, m2, fun j j1 jm e => m3 j jm ⟨j1, e⟩⟩, ?_⟩
 rcases Nat.lt_or_ge M m with z | z
 ·exact absurd ⟨h1, h3⟩ (m3 M z)
 ·omega
open Classical in
noncomputable def per (os : List Int) (p : Int) : Nat := if h : ∃ m, ju os p m then Classical.choose h else 0
theorem ju.per {os : List Int} {p : Int} {m : Nat} (h : ju os p m) : per os p = m := by
 have hx : ∃ m, ju os p m := ⟨m, h⟩
 unfold L2.per
 rw [dif_pos hx]
 exact (Classical.choose_spec hx).uniq h
noncomputable def itl (os : List Int) (p : Int) (k : Nat) : List Int := (List.range k).map fun i => itn os i p
theorem XO (os : List Int) (p : Int) (k : Nat) : itl os p (k + 1) = itl os p k ++ [itn os k p] := by
 unfold itl; rw [List.range_succ, List.map_append]; rfl
theorem qM (os : List Int) (p : Int) (k : Nat) : (itl os p k).length = k := by simp [itl]
theorem xI {os : List Int} {p : Int} {k : Nat} {x : Int} : x ∈ itl os p k ↔ ∃ i, i < k /\ itn os i p = x := by
 unfold itl
 rw [List.mem_map]
 constructor
 ·rintro ⟨i, hi, e⟩
  exact ⟨i, by simpa using hi, e⟩
 ·rintro ⟨i, hi, e⟩
  exact ⟨i, by simpa using hi, e⟩
noncomputable def qu (os : List Int) (p : Int) : List Int := itl os p (per os p)
noncomputable def Rch (os : List Int) (q x : Int) : Prop := ∃ k, itn os k q = x
theorem Rch.refl {os : List Int} {p : Int} : Rch os p p := ⟨0, rfl⟩
theorem Rch.trans {os : List Int} {p q r : Int} (a : Rch os p q) (b : Rch os q r) : Rch os p r := by
 obtain ⟨i, rfl⟩ := a
 obtain ⟨j, rfl⟩ := b
 exact ⟨j + i, qU os p i j⟩
theorem vW {os : List Int} {p : Int} {m : Nat} (h : itn os m p = p) : ∀ k, itn os (k * m) p = p
 | 0 => by rw [Nat.zero_mul]; rfl
 | k + 1 => by rw [Nat.succ_mul, Nat.add_comm, qU, vW h k, h]
theorem V1 {os : List Int} {p : Int} {m : Nat} (h : itn os m p = p) (k : Nat) : itn os k p = itn os (k % m) p := by
 have e : k = k % m + (k / m) * m := by rw [Nat.mul_comm]; exact (Nat.mod_add_div k m).symm
 conv => lhs; rw [e]
 rw [qU, vW h]
theorem Rch.symm {n : Nat} {os : List Int} (h : zq n os) {p q : Int} (p0 : 0 <= p) (p1 : p < n) (a : Rch os p q) : Rch os q p := by
 obtain ⟨k, rfl⟩ := a
 obtain ⟨M, h1, _, h3⟩ := Q8 h p0 p1
 refine ⟨(k + 1) * M - k, ?_⟩
 have hle : k <= (k + 1) * M := Nat.le_trans (Nat.le_succ k) (Nat.le_mul_of_pos_right _ h1)
 rw [<- qU, Nat.sub_add_cancel hle, vW h3]
theorem Rch.mem_ring {os : List Int} {p x : Int} {m : Nat} (h : ju os p m) : Rch os p x ↔ x ∈ itl os p m := by
 rw [xI]
 constructor
 ·rintro ⟨k, rfl⟩
  exact ⟨k % m, Nat.mod_lt _ h.1, (V1 h.2.1 k).symm⟩
 ·rintro ⟨i, _, e⟩
  exact ⟨i, e⟩
noncomputable def Zl (os : List Int) (p : Nat) : Prop := ∀ q : Nat, q < p -> ¬ Rch os (q : Int) (p : Int)
open Classical in
noncomputable def zG (os : List Int) : Nat -> List (List Int)
 | 0 => []
 | i + 1 => zG os i ++ if Zl os i /\ 1 < per os (i : Int) then [qu os (i : Int)] else []
noncomputable def qG (os : List Int) (i : Nat) (x : Int) : Prop := ∃ q : Nat, q < i /\ Rch os (q : Int) x
theorem qG.succ {os : List Int} {i : Nat} {x : Int} : qG os (i + 1) x ↔ qG os i x \/ Rch os (i : Int) x := by
 constructor
 ·rintro ⟨q, hq, r⟩
  by_cases e : q = i
  ·subst e; exact .inr r
  ·exact .inl ⟨q, by omega, r⟩
 ·rintro (⟨q, hq, r⟩ | r)
  ·exact ⟨q, by omega, r⟩
  ·exact ⟨i, by omega, r⟩
theorem wt {os : List Int} {i : Nat} : Zl os i ↔ ¬ qG os i (i : Int) := by
 constructor
 ·rintro h ⟨q, hq, r⟩; exact h q hq r
 ·intro h q hq r; exact h ⟨q, hq, r⟩
theorem qG.step {n : Nat} {os : List Int} (h : zq n os) {i : Nat} (hi : i < n) (hs : qG os i (i : Int)) {x : Int} : qG os (i + 1) x ↔ qG os i x := by
 rw [qG.succ]
 constructor
 ·rintro (z | z)
  ·exact z
  ·obtain ⟨q, hq, r⟩ := hs
   exact ⟨q, hq, r.trans z⟩
 ·exact .inl
theorem qG.apart {n : Nat} {os : List Int} (h : zq n os) {i : Nat} (hi : i < n) (hs : ¬ qG os i (i : Int)) {x : Int} (r : Rch os (i : Int) x) : ¬ qG os i x := by
 rintro ⟨q, hq, rq⟩
 exact hs ⟨q, hq, rq.trans (r.symm h (by omega) (by omega))⟩
theorem qx (os : List Int) : ∀ i, (zG os i).length <= i
 | 0 => Nat.le_refl _
 | i + 1 => by
  unfold zG
  rw [List.length_append]
  have := qx os i
  split <;> simp <;> omega
theorem xV {n : Nat} {os : List Int} (h : zq n os) {r : List Int} : ∀ {i : Nat}, i <= n -> r ∈ zG os i -> 1 < r.length /\ r.length <= n
 | 0, _, hr => by simp [zG] at hr
 | i + 1, hi, hr => by
  unfold zG at hr
  rcases List.mem_append.mp hr with z | z
  ·exact xV h (by omega) z
  ·by_cases c : Zl os i /\ 1 < per os (i : Int)
   ·rw [if_pos c] at z
    rw [List.mem_singleton.mp z]
    obtain ⟨m, hm, hle⟩ := kM h (p := (i : Int)) (by omega) (by omega)
    unfold qu
    rw [qM]
    have := hm.per
    omega
   ·rw [if_neg c] at z; cases z
end L2
set_option Elab.async false
set_option linter.all false
set_option maxRecDepth 100000
set_option maxHeartbeats 4000000
namespace L2
open PySem PySem.Spec PyProof.Rows
end L2
set_option Elab.async false
set_option linter.all false
set_option maxRecDepth 100000
set_option maxHeartbeats 4000000
namespace L2
open PySem PySem.Spec PyProof.Rows
noncomputable def iLT (K : PySem.W.Frag) (tl : TE) : TI := fun σ H R => tl σ H fun x H1 => ∃ a, x = .ref a /\ (((∃ xs, SqL K H1 a xs) /\ R (Itl K a) H1) \/ ((∃ xs, SqT K H1 a xs) /\ R (Itt K a) H1))
theorem yV {X : Cx} {tg : Expr} {l : Expr} {tl : TE} (hl : PE X l tl) : PI X tg l (iLT X.K tl) := by
 intro pins s σ H R I h
 refine thn (hl pins s σ H _ I h) fun v s1 ⟨x, H1, I1, r1, q1⟩ => ?_
 obtain ⟨a, e, q⟩ := q1
 subst e
 cases r1
 have fo : ∀ b ∈ [s1.heap.objs.size], xA X pins H1 b := fun b hb => by
  have e : b = s1.heap.objs.size := by simpa using hb
  subst e
  exact I1.fpOk (Nat.le_refl _) (I1.hok.fresh (Nat.le_refl _))
 rcases q with ⟨⟨xs, hq⟩, q⟩ | ⟨⟨xs, hq⟩, q⟩
 ·obtain ⟨its, rv, p, hz⟩ := I1.list hq
  refine wpAny_pyIter_list p.isList ?_
  exact ⟨s1.heap.objs.size, [s1.heap.objs.size], _, _, H1, rfl, I1.kept (t' := s1.toks) fun b o e => Heap.get?_push_of_some _ e, JK a _, ⟨_, Heap.get?_push_size _ rfl, rfl, rfl⟩, fo, q⟩
 ·obtain ⟨its, rv, p, hz⟩ := I1.tuple hq
  refine wpAny_pyIter_tuple (show s1.heap.IsTuple a its.toArray from p) ?_
  exact ⟨s1.heap.objs.size, [s1.heap.objs.size], _, _, H1, rfl, I1.kept (t' := s1.toks) fun b o e => Heap.get?_push_of_some _ e, Ql a _, ⟨_, Heap.get?_push_size _ rfl, rfl, rfl⟩, fo, q⟩
theorem yu {os : List Int} {q : Nat} (hq : Zl os q) (hp : 1 < per os (q : Int)) : ∀ {i : Nat}, q < i -> qu os (q : Int) ∈ zG os i
 | 0, h => by omega
 | i + 1, h => by
  unfold zG
  by_cases e : q = i
  ·subst e
   rw [if_pos ⟨hq, hp⟩]
   simp
  ·exact List.mem_append_left _ (yu hq hp (by omega))
theorem v0 {n : Nat} {os : List Int} (h : zq n os) {x : Nat} (hx : x < n) : (∃ r ∈ zG os n, (x : Int) ∈ r) \/ ju os (x : Int) 1 := by
 obtain ⟨q, ⟨q1, q2⟩, q3⟩ := wB (p := fun q => q < n /\ Rch os (q : Int) (x : Int)) x ⟨hx, Rch.refl⟩
 have hL : Zl os q := fun q' hq' r => q3 q' hq' ⟨by omega, r.trans q2⟩
 obtain ⟨m, hm, _⟩ := kM h (p := (q : Int)) (by omega) (by omega)
 by_cases c : 1 < m
 ·refine .inl ⟨_, yu hL (by rw [hm.per]; exact c) q1, ?_⟩
  unfold qu
  rw [hm.per]
  exact (Rch.mem_ring hm).mp q2
 ·have hm1 : m = 1 := by have := hm.1; omega
  subst hm1
  obtain ⟨i, hi, e⟩ := xI.mp ((Rch.mem_ring hm).mp q2)
  have : i = 0 := by omega
  subst this
  have e' : (q : Int) = (x : Int) := e
  rw [<- e']
  exact .inr hm
end L2
set_option Elab.async false
set_option linter.all false
set_option maxRecDepth 100000
set_option maxHeartbeats 4000000
namespace L2
open PySem PySem.Spec PyProof.Rows
end L2
set_option Elab.async false
set_option linter.all false
set_option maxRecDepth 100000
set_option maxHeartbeats 4000000
namespace L2
open PySem PySem.Spec PyProof.Rows
section
variable {X : Cx}
end
end L2
set_option Elab.async false
set_option linter.all false
set_option maxRecDepth 100000
set_option maxHeartbeats 4000000
namespace L2
open PySem PySem.Spec PyProof.Rows
section
variable {X : Cx}
end
end L2
set_option Elab.async false
set_option linter.all false
set_option maxRecDepth 100000
set_option maxHeartbeats 4000000
namespace L2
open PySem PySem.Spec PyProof.Rows
end L2
set_option Elab.async false
set_option linter.all false
set_option maxRecDepth 100000
set_option maxHeartbeats 4000000
namespace L2
open PySem PySem.Spec PyProof.Rows
section
variable {prog : Program} {w : World} {A : Around} {R : Result -> Shared -> Prop} {s : Shared}
end
noncomputable def CL (J : It) (g : TG) (tt : TT) (tr : St -> Hp -> (St -> Hp -> Prop) -> Prop) (N : St -> Hp -> Prop) (σ : St) (H : Hp) : Prop := ∃ W : Nat -> Nat -> St -> Hp -> Prop, (∃ m, W 0 m σ H) /\ ∀ i m τ H2, W i m τ H2 ->
 (J.stop i H2 /\ N τ H2) \/ (J.go i H2 /\ ∃ N1 : St -> Hp -> Prop, (∀ τ' H', N1 τ' H' -> ∃ m', m' < m /\ W (i + 1) m' τ' H') /\ ∀ x H', J.yld i H2 x H' -> g x τ H' fun τ2 H3 => tt τ2 H3 fun b H4 =>
  if b = true then tr τ2 H4 N1 else N1 τ2 H4)
noncomputable abbrev TR := St -> Hp -> (St -> Hp -> Prop) -> Prop
noncomputable def ZT (te : TE) (D : Addr) : TR := fun σ H N => te σ H fun v H5 => ∃ ys, H5 D = some (.lst ys) /\ ys.length < sizeLine /\ N σ (upd H5 D (.lst (ys ++ [v])))
noncomputable def Ba (wi : TI) (g : TG) (tt : TT) (tr : Addr -> TR) (D : Addr) : TR := fun σ H N => wi σ H fun J H1 => CL J g tt (tr D) N σ H1
section
variable {C : Cx} {elt tg iter : Expr} {ifs : List Expr} {gens : List Comprehension} {scope : Scope} {pos : Pos} {d : Nat} {D : Addr} {g : TG} {tt : TT} {te : TE} {tr : TR}
end
noncomputable def Y0 (ts : List Nat) (wi : TI) (g : TG) (tt : TT) (tr : Addr -> TR) : TE := fun σ H Q => wi σ H fun J H1 => ∀ D, H1 D = none -> CL J g tt (tr D) (fun _ H2 => Q (.ref D) H2) (clr ts σ) (upd H1 D (.lst []))
section
variable {X : Cx} {ts : List Nat} {scope : Scope} {tg iter elt : Expr} {ifs : List Expr} {kO : List Comprehension} {wi : TI} {g : TG} {tt : TT} {tr : Addr -> TR} {pos : Pos}
end
theorem JC {ts : List Nat} {wi : TI} {g : TG} {tt : TT} {tr : Addr -> TR} {σ : St} {H : Hp} {Q : VK} :
  Y0 ts wi g tt tr σ H Q = wi σ H (fun J H1 => ∀ D, H1 D = none -> CL J g tt (tr D) (fun _ H2 => Q (.ref D) H2) (clr ts σ) (upd H1 D (.lst []))) := rfl
theorem Jp {wi : TI} {g : TG} {tt : TT} {tr : Addr -> TR} {D : Addr} {σ : St} {H : Hp} {N : St -> Hp -> Prop} : Ba wi g tt tr D σ H N = wi σ H (fun J H1 => CL J g tt (tr D) N σ H1) := rfl
theorem JN {te : TE} {D : Addr} {σ : St} {H : Hp} {N : St -> Hp -> Prop} : ZT te D σ H N = te σ H (fun v H5 => ∃ ys, H5 D = some (.lst ys) /\ ys.length < sizeLine /\ N σ (upd H5 D (.lst (ys ++ [v])))) := rfl
end L2
set_option Elab.async false
set_option linter.all false
set_option maxRecDepth 100000
set_option maxHeartbeats 4000000
namespace L2
open PySem PySem.Spec PyProof.Rows
section
variable {P : Program} {w : World} {A : Around} {E : Value -> Shared -> Prop} {it l : Addr} {items : Array Value}
end
section
variable {X : Cx} {pos : Pos}
end
end L2
set_option Elab.async false
set_option linter.all false
set_option maxRecDepth 100000
set_option maxHeartbeats 4000000
namespace L2
open PySem PySem.Spec PyProof.Rows
noncomputable def rep (o : Nat) (G : List Int) : List Int := (List.range (o * G.length)).map fun (i : Nat) => ((i / G.length * G.length : Nat) : Int) + G.getD (i % G.length) 0
end L2
set_option Elab.async false
set_option linter.all false
set_option maxRecDepth 100000
set_option maxHeartbeats 4000000
namespace L2
open PySem PySem.Spec PyProof.Rows
section
variable {P : Program} {w : World} {A : Around} {E : Value -> Shared -> Prop} {s : Shared} {z TI TO i1 i2 l1 l2 : Addr} {k : Nat} {xs ys : Array Value} {x y a b : Value} {Q : Option Value -> Shared -> Prop}
end
open AutoSeq1 (wpAny_loadPart') in
section
variable {X : Cx} {es : List Expr} {kt : Nat} {tp : Pos}
end
end L2
set_option Elab.async false
set_option linter.all false
set_option maxRecDepth 100000
set_option maxHeartbeats 4000000
namespace L2
open PySem PySem.Spec PyProof.Rows
section
variable {X : Cx} {e st : Expr} {te : TE} {lo hi : Option Expr} {tl th ts : TO} {p2 pos : Pos}
end
end L2
set_option Elab.async false
set_option linter.all false
set_option maxRecDepth 100000
set_option maxHeartbeats 4000000
namespace L2
open PySem PySem.Spec PyProof.Rows
theorem J2 {n : Nat} {os : List Int} (h : zq n os) {p : Int} (p0 : 0 <= p) (p1 : p < n) {M : Nat} (hM : ju os p M) : (itl os p M).Nodup := by
 rw [List.nodup_iff_pairwise_ne, List.pairwise_iff_getElem]
 intro i j hi hj hij e
 rw [qM] at hi hj
 have e' : itn os i p = itn os j p := by
  have e1 : (itl os p M)[i]'(by rw [qM]; exact hi) = itn os i p := by simp [itl]
  have e2 : (itl os p M)[j]'(by rw [qM]; exact hj) = itn os j p := by simp [itl]
  rw [<- e1, <- e2]; exact e
 have b := jh h p0 p1 (j - i)
 have e2 : itn os (j - i) p = p := by
  refine (xK h p0 p1 b.1 b.2 i ?_).symm
  rw [<- qU, show i + (j - i) = j by omega]
  exact e'
 exact hM.2.2 (j - i) (by omega) (by omega) e2
end L2
set_option Elab.async false
set_option linter.all false
set_option maxRecDepth 100000
set_option maxHeartbeats 4000000
namespace L2
open PySem PySem.Spec PyProof.Rows
end L2
set_option Elab.async false
set_option linter.all false
set_option maxRecDepth 100000
set_option maxHeartbeats 4000000
namespace L2
open PySem PySem.Spec PyProof.Rows
end L2
set_option Elab.async false
set_option linter.all false
set_option maxRecDepth 100000
set_option maxHeartbeats 4000000
namespace L2
open PySem PySem.Spec PyProof.Rows
section
variable {X : Cx}
variable {o e : Expr} {es : List Expr} {to : TE} {t : TA} {name : Str} {apos cpos : Pos} {T id : String} {r : V -> List V -> Hp -> VK -> Prop} {K : PySem.W.Frag}
end
end L2
set_option Elab.async false
set_option linter.all false
set_option maxRecDepth 100000
set_option maxHeartbeats 4000000
namespace L2
open PySem PySem.Spec PyProof.Rows
section
variable {X : Cx} {tg : Expr}
end
inductive Dd where
 | take (p : Nat) | move (p g : Nat) | lay (g : Nat)
noncomputable abbrev RS := List (Option Int) × Option Int × List Int
noncomputable def inc (mv : List Int) (x : Int) : List Int := mv.set x.toNat (mv.getD x.toNat 0 + 1)
inductive Do : Dd -> RS -> RS -> Prop
 | take {p : Nat} {row : List (Option Int)} {mv : List Int} {x : Int} : row[p]? = some (some x) -> Do (.take p) (row, none, mv) (row.set p none, some x, inc mv x)
 | move {p g : Nat} {row : List (Option Int)} {h : Option Int} {mv : List Int} {x : Int} : row[p]? = some (some x) -> row[g]? = some none -> Do (.move p g) (row, h, mv) ((row.set p none).set g (some x), h, inc mv x)
 | lay {g : Nat} {row : List (Option Int)} {mv : List Int} {x : Int} : row[g]? = some none -> Do (.lay g) (row, some x, mv) (row.set g (some x), none, inc mv x)
inductive Dos : List Dd -> RS -> RS -> Prop
 | nil {s : RS} : Dos [] s s
 | cons {d : Dd} {l : List Dd} {s t u : RS} : Do d s t -> Dos l t u -> Dos (d :: l) s u
end L2
set_option Elab.async false
set_option linter.all false
set_option maxRecDepth 100000
set_option maxHeartbeats 4000000
namespace L2
open PySem PySem.Spec PyProof.Rows
section
variable {X : Cx} {K : PySem.W.Frag}
end
end L2
set_option Elab.async false
set_option linter.all false
set_option maxRecDepth 100000
set_option maxHeartbeats 4000000
namespace L2
open PySem PySem.Spec PyProof.Rows
section
variable {X : Cx}
end
end L2
set_option Elab.async false
set_option linter.all false
set_option maxRecDepth 100000
set_option maxHeartbeats 4000000
namespace L2
open PySem PySem.Spec PyProof.Rows
noncomputable def Vf (K : PySem.W.Frag) (f : Bool -> Bool) : R2 := fun x y H Q => ∃ p q xs, x = .ref p /\ y = .ref q /\ SqL K H p xs /\ SqL K H q [] /\ Q (.bl (f xs.isEmpty)) H
section
variable {X : Cx}
end
section
variable {X : Cx} {e st : Expr} {te : TE} {ts : TO} {p2 pos : Pos}
end
end L2
set_option Elab.async false
set_option linter.all false
set_option maxRecDepth 100000
set_option maxHeartbeats 4000000
namespace L2
open PySem PySem.Spec PyProof.Rows
section
variable {X : Cx}
end
end L2
set_option Elab.async false
set_option linter.all false
set_option maxRecDepth 100000
set_option maxHeartbeats 4000000
namespace L2
open PySem PySem.Spec PyProof.Rows
noncomputable def AtM (K : PySem.W.Frag) (C : Addr) (m qual : Str) (st : Stmt) : Prop := ∃ f fd, Fun K m qual st f fd /\ EJ K C m f
section
variable {X : Cx} {k : Nat} {C : Addr} {m x : Str} {ps : List Str} {sp : Sp} {p pos apos : Pos} {o e : Expr} {es : List Expr} {t : TA} {to : TE}
end
structure KD (K : PySem.W.Frag) (w : World) (a : Addr) (kvs : List (Key × V)) : Prop where
 ex : ∃ es ep, K.lookup a = some ⟨.type "dict", none, .dict es ep, #[]⟩ /\ ∀ P : Program, PySem.KeysOf (zW P w) es /\ ∃ vs, KV kvs vs /\ Pairs (zW P w) es.toList vs /\ (vs.map (·.1)).Nodup
 ns : (a == sysModules) = false
section
variable {X : Cx} {e : Expr} {ty : TE} {p apos cpos : Pos} {x : Str} {a : Addr} {kvs : List (Key × V)}
end
end L2
set_option Elab.async false
set_option linter.all false
set_option maxRecDepth 100000
set_option maxHeartbeats 4000000
namespace L2
open PySem PySem.Spec PyProof.Rows
section
variable {X : Cx}
end
theorem EC {K : PySem.W.Frag} {C f : Addr} {m qual : Str} {st : Stmt} {oc kV dc pm cd ct : Value} {od an : Option Addr} {sl : Array (Option Value)} (a1 : PySem.W.findIn K (.ref C) m = some (some (.ref f))) (i1 : PySem.W.isFn K (.ref f) = true)
  (l1 : K.lookup f = some ⟨oc, od, .func (PySem.W.fnOf m qual (qF st) (zX st) (zj st) .none kV dc pm an cd ct), sl⟩) (c1 : PySem.W.codeIn K cd qual = true) (k1 : PySem.W.keepIn K (.ref f) = true) : AtM K C m qual st := ⟨f, _, Kr l1 c1 k1, ⟨a1, i1, k1⟩⟩
end L2
set_option Elab.async false
set_option linter.all false
set_option maxRecDepth 100000
set_option maxHeartbeats 4000000
namespace L2
open PySem PySem.Spec PyProof.Rows
section
variable {X : Cx}
end
end L2
set_option Elab.async false
set_option linter.all false
set_option maxRecDepth 100000
set_option maxHeartbeats 4000000
namespace L2
open PySem PySem.Spec PyProof.Rows
structure ScG (X : Cx) (ts : List Nat) (scope : Scope) : Prop where
 kind : scope.kind = .function
 cell : ∀ y ∈ scope.names, y.2 = .cell -> scope.names.lookup y.1 = some .cell
 loc : ∀ y ∈ scope.names, y.2 = .local -> scope.names.lookup y.1 = some .local
 free : ∀ y ∈ scope.names, y.2 = .free -> X.env.kindOf y.1 = some .cell \/ X.env.kindOf y.1 = some .free
 ts : ∀ (i : Nat) x, X.N[i]? = some x -> scope.names.lookup x = some .local \/ scope.names.lookup x = some .cell -> i ∈ ts
section
variable {X : Cx} {ts : List Nat} {scope : Scope} {pins : List (Addr × Obj)} {σ : St} {H : Hp} {s : Shared} {fp : List Addr}
end
section
variable {X : Cx} {ts : List Nat} {scope : Scope} {tg iter elt : Expr} {ifs : List Expr} {wi : TI} {g : TG} {tt : TT} {te : TE} {pos : Pos}
end
end L2
set_option Elab.async false
set_option linter.all false
set_option maxRecDepth 100000
set_option maxHeartbeats 4000000
namespace L2
open PySem PySem.Spec PyProof.Rows
section
variable {X : Cx}
end
end L2
set_option Elab.async false
set_option linter.all false
set_option maxRecDepth 100000
set_option maxHeartbeats 4000000
namespace L2
open PySem PySem.Spec PyProof.Rows
inductive Dat where
 | non | bl (b : Bool) | int (i : Int) | str (x : Str) | ty (n : String) | lst (l : List Dat) | tup (l : List Dat) | rng (lo hi c : Int) | scr (K : PySem.W.Frag) (l : List Int)
inductive AV where
 | d (x : Dat) | ref (a : Addr)
inductive MO where
 | lst (l : List AV) | dK (kvs : List (Key × AV)) | ins (C : Addr) (fs : List (Str × AV)) | exc (C : Addr) (fs : List (Str × V))
noncomputable def vx (a C : Addr) (d : Option Addr) : HO := .ext fun h => ∃ o, h.get? a = some o /\ o.cls = .ref C /\ o.dict = d /\ ∃ vs, o.data = .fields vs
noncomputable abbrev MH := Addr -> Option MO
noncomputable abbrev ASt := List (Option AV)
noncomputable def mup (M : MH) (a : Addr) (o : MO) : MH := fun b => if b = a then some o else M b
theorem zk {M : MH} {a : Addr} {o : MO} : mup M a o a = some o := if_pos rfl
theorem zu {M : MH} {a b : Addr} {o : MO} (h : b ≠ a) : mup M a o b = M b := if_neg h
theorem vE {M : MH} {a : Addr} {o u : MO} : mup (mup M a o) a u = mup M a u := by
 funext b; unfold mup; split <;> rfl
noncomputable abbrev Own := Addr -> Prop
inductive Rep (H : Hp) (O : Own) : V -> Dat -> Prop
 | non : Rep H O .non .non
 | bl {b : Bool} : Rep H O (.bl b) (.bl b)
 | int {i : Int} : Rep H O (.int i) (.int i)
 | str {x : Str} : Rep H O (.str x) (.str x)
 | ty {n : String} : Rep H O (.ty n) (.ty n)
 | lst {a : Addr} {xs : List V} {l : List Dat} : ¬ O a -> H a = some (.lst xs) -> xs.length = l.length -> (∀ (i : Nat) x d, xs[i]? = some x -> l[i]? = some d -> Rep H O x d) -> Rep H O (.ref a) (.lst l)
 | tup {a : Addr} {xs : List V} {l : List Dat} : ¬ O a -> H a = some (.tup xs) -> xs.length = l.length -> (∀ (i : Nat) x d, xs[i]? = some x -> l[i]? = some d -> Rep H O x d) -> Rep H O (.ref a) (.tup l)
 | rng {a : Addr} {lo hi c : Int} : ¬ O a -> H a = some (qZ a lo hi c) -> Rep H O (.ref a) (.rng lo hi c)
 | scr {a : Addr} {K : PySem.W.Frag} {l : List Int} : ¬ O a -> Rd H a (.lst (l.map V.int)) -> Rep H O (.ref a) (.scr K l)
 | scrK {a : Addr} {K : PySem.W.Frag} {l : List Int} : SqL K (fun _ => none) a (l.map V.int) -> Rep H O (.ref a) (.scr K l)
noncomputable def JT (H : Hp) (O : Own) (xs : List V) (l : List Dat) : Prop := xs.length = l.length /\ ∀ (i : Nat) x d, xs[i]? = some x -> l[i]? = some d -> Rep H O x d
noncomputable def zo (H : Hp) (O : Own) (M : MH) (v : V) : AV -> Prop
 | .d x => Rep H O v x
 | .ref a => v = .ref a /\ M a ≠ none
noncomputable def zg (H : Hp) (O : Own) (M : MH) (xs : List V) (l : List AV) : Prop := xs.length = l.length /\ ∀ (i : Nat) x d, xs[i]? = some x -> l[i]? = some d -> zo H O M x d
noncomputable def Zh {κ : Type} (H : Hp) (O : Own) (M : MH) (xs : List (κ × V)) (l : List (κ × AV)) : Prop := xs.map (·.1) = l.map (·.1) /\ zg H O M (xs.map (·.2)) (l.map (·.2))
noncomputable def qw (H : Hp) (O : Own) (M : MH) (a : Addr) : MO -> Prop
 | .lst l => ∃ xs, H a = some (.lst xs) /\ zg H O M xs l
 | .dK kvs => ∃ xs, H a = some (.dK xs) /\ Zh H O M xs kvs
 | .ins C fs => ∃ dx xs, H a = some (.ins C dx xs) /\ Zh H O M xs fs /\ O dx /\ M dx = none /\ H dx = some (.own a)
 | .exc C fs => ∃ d, H a = some (vx a C d) /\ (d = none /\ fs = [] \/ ∃ dx, d = some dx /\ H dx = some (.xd fs) /\ O dx /\ M dx = none)
structure Wf (H : Hp) (O : Own) (M : MH) : Prop where
 mo : ∀ a o, M a = some o -> qw H O M a o
 own : ∀ a, M a ≠ none -> O a
 al : ∀ a, O a -> ∃ o, H a = some o /\ ∀ xs, o ≠ .tup xs
theorem Wf.ne {H : Hp} {O : Own} {M : MH} (w : Wf H O M) (a : Addr) (h : O a) : H a ≠ none := by obtain ⟨o, e, _⟩ := w.al a h; rw [e]; exact fun z => nomatch z
structure Ext (H : Hp) (O : Own) (M : MH) (H' : Hp) (O' : Own) (M' : MH) : Prop where
 fix : ∀ a o, ¬ O a -> H a = some o -> H' a = some o /\ ¬ O' a
 prv : ∀ a, O a -> M a = none -> H' a = H a /\ O' a /\ M' a = none
 mst : ∀ a, M a ≠ none -> M' a ≠ none
theorem Ext.refl {H : Hp} {O : Own} {M : MH} : Ext H O M H O M := ⟨fun _ _ h e => ⟨e, h⟩, fun _ h e => ⟨rfl, h, e⟩, fun _ h => h⟩
theorem Ext.trans {H H1 H2 : Hp} {O O1 O2 : Own} {M M1 M2 : MH} (a : Ext H O M H1 O1 M1) (b : Ext H1 O1 M1 H2 O2 M2) : Ext H O M H2 O2 M2 :=
 ⟨fun x o h e => let ⟨e1, h1⟩ := a.fix x o h e; b.fix x o h1 e1, fun x h e => by
  obtain ⟨e1, h1, n1⟩ := a.prv x h e
  obtain ⟨e2, h2, n2⟩ := b.prv x h1 n1
  exact ⟨e2.trans e1, h2, n2⟩, fun x h => b.mst x (a.mst x h)⟩
theorem Rep.imp {H H' : Hp} {O O' : Own} (k : ∀ a o, ¬ O a -> H a = some o -> H' a = some o /\ ¬ O' a) {v : V} {d : Dat} (r : Rep H O v d) : Rep H' O' v d := by
 induction r with
 | non => exact .non
 | bl => exact .bl
 | int => exact .int
 | str => exact .str
 | ty => exact .ty
 | lst h e l _ ih => exact .lst (k _ _ h e).2 (k _ _ h e).1 l ih
 | tup h e l _ ih => exact .tup (k _ _ h e).2 (k _ _ h e).1 l ih
 | rng h e => exact .rng (k _ _ h e).2 (k _ _ h e).1
 | scr h e =>
  rcases e with e | ⟨o, e⟩
  ·exact .scr (k _ _ h e).2 (.inl (k _ _ h e).1)
  ·exact .scr (k _ _ h e).2 (.inr ⟨o, (k _ _ h e).1⟩)
 | scrK h => exact .scrK h
theorem QU {H : Hp} {O : Own} {K : PySem.W.Frag} {v : V} {l : List Int} (r : Rep H O v (.scr K l)) : ∃ a, v = .ref a /\ SqL K H a (l.map V.int) := by
 cases r with
 | @scr a _ _ _ h => exact ⟨a, rfl, .inl h⟩
 | @scrK a _ _ h =>
  rcases h with (h | ⟨o, h⟩) | h
  ·cases h
  ·cases h
  ·exact ⟨a, rfl, .inr h⟩
theorem Wy {H : Hp} {O : Own} {K : PySem.W.Frag} {a : Addr} {l : List Int} (ho : ∀ a, ¬ O a) (h : SqL K H a (l.map V.int)) : Rep H O (.ref a) (.scr K l) := by
 rcases h with h | h
 ·exact .scr (ho a) h
 ·exact .scrK (.inr h)
theorem Rep.ext {H H' : Hp} {O O' : Own} {M M' : MH} (k : Ext H O M H' O' M') {v : V} {d : Dat} (r : Rep H O v d) : Rep H' O' v d := r.imp k.fix
theorem zo.ext {H H' : Hp} {O O' : Own} {M M' : MH} (k : Ext H O M H' O' M') {v : V} {x : AV} (r : zo H O M v x) : zo H' O' M' v x := by
 cases x with
 | d x => exact Rep.ext k r
 | ref a => exact ⟨r.1, k.mst a r.2⟩
theorem zg.ext {H H' : Hp} {O O' : Own} {M M' : MH} (k : Ext H O M H' O' M') {xs : List V} {l : List AV} (r : zg H O M xs l) : zg H' O' M' xs l := ⟨r.1, fun i x d e1 e2 => (r.2 i x d e1 e2).ext k⟩
theorem Zh.ext {κ : Type} {H H' : Hp} {O O' : Own} {M M' : MH} (k : Ext H O M H' O' M') {xs : List (κ × V)} {l : List (κ × AV)} (r : Zh H O M xs l) : Zh H' O' M' xs l := ⟨r.1, r.2.ext k⟩
theorem zg.nil {H : Hp} {O : Own} {M : MH} : zg H O M [] [] := ⟨rfl, fun i x d e => by simp at e⟩
theorem zg.cons {H : Hp} {O : Own} {M : MH} {x : V} {d : AV} {xs : List V} {l : List AV} (h : zo H O M x d) (r : zg H O M xs l) : zg H O M (x :: xs) (d :: l) :=
 ⟨by simp [r.1], fun i y e h1 h2 => by
  cases i with
  | zero => simp at h1 h2; subst h1 h2; exact h
  | succ i => simp at h1 h2; exact r.2 i y e h1 h2⟩
theorem zg.head {H : Hp} {O : Own} {M : MH} {x : V} {d : AV} {xs : List V} {l : List AV} (r : zg H O M (x :: xs) (d :: l)) : zo H O M x d /\ zg H O M xs l :=
 ⟨r.2 0 x d rfl rfl, by have := r.1; simpa using this, fun i y e h1 h2 => r.2 (i + 1) y e (by simpa using h1) (by simpa using h2)⟩
theorem zg.nil_inv {H : Hp} {O : Own} {M : MH} {xs : List V} (r : zg H O M xs []) : xs = [] := List.length_eq_zero_iff.mp r.1
theorem zg.cons_inv {H : Hp} {O : Own} {M : MH} {xs : List V} {d : AV} {l : List AV} (r : zg H O M xs (d :: l)) : ∃ x r', xs = x :: r' /\ zo H O M x d /\ zg H O M r' l := by
 cases xs with
 | nil => have := r.1; simp at this
 | cons x r' => exact ⟨x, r', rfl, r.head⟩
theorem zg.append {H : Hp} {O : Own} {M : MH} {xs ys : List V} {l m : List AV} (a : zg H O M xs l) (b : zg H O M ys m) : zg H O M (xs ++ ys) (l ++ m) :=
 ⟨by rw [List.length_append, List.length_append, a.1, b.1], fun i x d h1 h2 => by
  by_cases c : i < xs.length
  ·rw [List.getElem?_append_left c] at h1
   rw [List.getElem?_append_left (by rw [<- a.1]; exact c)] at h2
   exact a.2 i x d h1 h2
  ·rw [List.getElem?_append_right (by omega)] at h1
   rw [List.getElem?_append_right (by rw [<- a.1]; omega), <- a.1] at h2
   exact b.2 _ x d h1 h2⟩
theorem zg.snoc {H : Hp} {O : Own} {M : MH} {xs : List V} {l : List AV} {x : V} {d : AV} (a : zg H O M xs l) (b : zo H O M x d) : zg H O M (xs ++ [x]) (l ++ [d]) := a.append (.cons b .nil)
theorem zg.set {H : Hp} {O : Own} {M : MH} {xs : List V} {l : List AV} {x : V} {d : AV} (a : zg H O M xs l) (b : zo H O M x d) (j : Nat) : zg H O M (xs.set j x) (l.set j d) :=
 ⟨by rw [List.length_set, List.length_set, a.1], fun i y e h1 h2 => by
  rw [List.getElem?_set] at h1 h2
  by_cases c : j = i
  ·rw [if_pos c] at h1 h2
   split at h1
   ·split at h2
    ·cases h1; cases h2; exact b
    ·cases h2
   ·cases h1
  ·rw [if_neg c] at h1 h2
   exact a.2 i y e h1 h2⟩
theorem zg.get {H : Hp} {O : Own} {M : MH} {xs : List V} {l : List AV} (a : zg H O M xs l) {i : Nat} {d : AV} (h : l[i]? = some d) : ∃ x, xs[i]? = some x /\ zo H O M x d := by
 have hi := (List.getElem?_eq_some_iff.mp h).1
 have hx : i < xs.length := by rw [a.1]; exact hi
 exact ⟨xs[i], by simp [hx], a.2 i _ _ (by simp [hx]) h⟩
theorem zg.drop {H : Hp} {O : Own} {M : MH} {xs : List V} {l : List AV} (a : zg H O M xs l) (k : Nat) : zg H O M (xs.drop k) (l.drop k) :=
 ⟨by rw [List.length_drop, List.length_drop, a.1], fun i x d h1 h2 => by rw [List.getElem?_drop] at h1 h2; exact a.2 _ x d h1 h2⟩
theorem zg.take {H : Hp} {O : Own} {M : MH} {xs : List V} {l : List AV} (a : zg H O M xs l) (k : Nat) : zg H O M (xs.take k) (l.take k) :=
 ⟨by rw [List.length_take, List.length_take, a.1], fun i x d h1 h2 => by
  rw [List.getElem?_take] at h1 h2
  by_cases c : i < k
  ·rw [if_pos c] at h1 h2
   exact a.2 _ x d h1 h2
  ·rw [if_neg c] at h1
   cases h1⟩
theorem JT.av {H : Hp} {O : Own} {M : MH} {xs : List V} {l : List Dat} (r : JT H O xs l) : zg H O M xs (l.map .d) :=
 ⟨by rw [List.length_map]; exact r.1, fun i x d h1 h2 => by
  rw [List.getElem?_map] at h2
  cases e : l[i]? with
  | none => rw [e] at h2; cases h2
  | some y => rw [e] at h2; cases h2; exact r.2 i x y h1 e⟩
theorem zg.pure {H : Hp} {O : Own} {M : MH} {xs : List V} {l : List Dat} (r : zg H O M xs (l.map .d)) : JT H O xs l :=
 ⟨by have := r.1; rwa [List.length_map] at this, fun i x d h1 h2 => r.2 i x (.d d) h1 (by rw [List.getElem?_map, h2]; rfl)⟩
theorem Wf.fresh {H : Hp} {O : Own} {M : MH} (w : Wf H O M) {p : Addr} (h : H p = none) : ¬ O p /\ M p = none := by
 have : ¬ O p := fun z => w.ne p z h
 exact ⟨this, by
  cases e : M p with
  | none => rfl
  | some o => exact absurd (w.own p (by rw [e]; exact fun z => nomatch z)) this⟩
theorem qw.ext {H H' : Hp} {O O' : Own} {M M' : MH} (k : Ext H O M H' O' M') {a : Addr} {o : MO} (e : H' a = H a) (r : qw H O M a o) : qw H' O' M' a o := by
 cases o with
 | lst l => obtain ⟨xs, h, r⟩ := r; exact ⟨xs, e.trans h, r.ext k⟩
 | dK l => obtain ⟨xs, h, r⟩ := r; exact ⟨xs, e.trans h, r.ext k⟩
 | ins C fs => obtain ⟨dx, xs, h, r, q1, q2, q3⟩ := r; obtain ⟨x1, x2, x3⟩ := k.prv dx q1 q2; exact ⟨dx, xs, e.trans h, r.ext k, x2, x3, x1.trans q3⟩
 | exc C fs =>
  obtain ⟨d, h, r⟩ := r
  refine ⟨d, e.trans h, ?_⟩
  rcases r with r | ⟨dx, e1, h1, h2, h3⟩
  ·exact .inl r
  ·obtain ⟨x1, x2, x3⟩ := k.prv dx h2 h3; exact .inr ⟨dx, e1, x1.trans h1, x2, x3⟩
theorem qN {H : Hp} {O : Own} {M : MH} (w : Wf H O M) {p : Addr} (h : H p = none) (o : HO) : Ext H O M (upd H p o) O M :=
 ⟨fun a u ha e => ⟨by rw [zh (ze e h)]; exact e, ha⟩, fun a ha e => ⟨zh (fun z => w.ne a ha (by rw [z]; exact h)), ha, e⟩, fun _ h => h⟩
theorem vR {H : Hp} {O : Own} {M : MH} (w : Wf H O M) {p : Addr} (h : H p = none) (o : HO) : Wf (upd H p o) O M :=
 ⟨fun a mo e => qw.ext (qN w h o) (zh (fun z => by rw [z, (w.fresh h).2] at e; cases e)) (w.mo a mo e), w.own, fun a ha => by
  have : a ≠ p := fun z => w.ne a ha (by rw [z]; exact h)
  rw [zh this]; exact w.al a ha⟩
noncomputable def yo (O : Own) (p : Addr) : Own := fun a => a = p \/ O a
noncomputable def Ww (O : Own) (p : Addr) : Own := fun a => a ≠ p /\ O a
theorem Qw {H : Hp} {O : Own} {M : MH} (w : Wf H O M) {p : Addr} (h : H p = none) (o : HO) (mo : MO) : Ext H O M (upd H p o) (yo O p) (mup M p mo) :=
 ⟨fun a u ha e => ⟨by rw [zh (ze e h)]; exact e, fun z => z.elim (ze e h) ha⟩, fun a ha e => by
  have hne : a ≠ p := fun z => w.ne a ha (by rw [z]; exact h)
  exact ⟨zh hne, .inr ha, by rw [zu hne]; exact e⟩, fun a ha => by
  by_cases e : a = p
  ·rw [e, zk]; exact fun z => nomatch z
  ·rw [zu e]; exact ha⟩
theorem Au {H : Hp} {O : Own} {M : MH} (w : Wf H O M) {p : Addr} (h : H p = none) {o : HO} {mo : MO} (ho : ∀ xs, o ≠ .tup xs) (r : qw (upd H p o) (yo O p) (mup M p mo) p mo) : Wf (upd H p o) (yo O p) (mup M p mo) := by
 refine ⟨fun a u e => ?_, fun a ha => ?_, fun a ha => ?_⟩
 ·by_cases c : a = p
  ·subst c; rw [zk] at e; cases e; exact r
  ·rw [zu c] at e
   exact qw.ext (Qw w h o mo) (zh c) (w.mo a u e)
 ·by_cases c : a = p
  ·exact .inl c
  ·rw [zu c] at ha; exact .inr (w.own a ha)
 ·by_cases c : a = p
  ·rw [c, zf]; exact ⟨o, rfl, ho⟩
  ·rw [zh c]; exact w.al a (ha.resolve_left c)
theorem ki {H : Hp} {O : Own} {M : MH} (w : Wf H O M) {p : Addr} (h : M p ≠ none) (o : HO) (mo : MO) : Ext H O M (upd H p o) O (mup M p mo) :=
 ⟨fun a u ha e => ⟨by rw [zh (fun z => ha (by rw [z]; exact w.own p h))]; exact e, ha⟩, fun a ha e => by
  have hne : a ≠ p := fun z => h (by rw [<- z]; exact e)
  exact ⟨zh hne, ha, by rw [zu hne]; exact e⟩, fun a ha => by
  by_cases e : a = p
  ·rw [e, zk]; exact fun z => nomatch z
  ·rw [zu e]; exact ha⟩
theorem Yc {H : Hp} {O : Own} {M : MH} (w : Wf H O M) {p : Addr} (h : M p ≠ none) {o : HO} {mo : MO} (ho : ∀ xs, o ≠ .tup xs) (r : qw (upd H p o) O (mup M p mo) p mo) : Wf (upd H p o) O (mup M p mo) := by
 refine ⟨fun a u e => ?_, fun a ha => ?_, fun a ha => ?_⟩
 ·by_cases c : a = p
  ·subst c; rw [zk] at e; cases e; exact r
  ·rw [zu c] at e
   exact qw.ext (ki w h o mo) (zh c) (w.mo a u e)
 ·by_cases c : a = p
  ·subst c; exact w.own a h
  ·rw [zu c] at ha; exact w.own a ha
 ·by_cases c : a = p
  ·rw [c, zf]; exact ⟨o, rfl, ho⟩
  ·rw [zh c]; exact w.al a ha
theorem qC {H : Hp} {O : Own} {M : MH} (w : Wf H O M) {p : Addr} (h : H p = none) (o : HO) : Ext H O M (upd H p o) (yo O p) M :=
 ⟨fun a u ha e => ⟨by rw [zh (ze e h)]; exact e, fun z => z.elim (ze e h) ha⟩, fun a ha e => by
  have hne : a ≠ p := fun z => w.ne a ha (by rw [z]; exact h)
  exact ⟨zh hne, .inr ha, e⟩, fun _ h => h⟩
theorem xY {H : Hp} {O : Own} {M : MH} (w : Wf H O M) {p : Addr} (h : H p = none) (o : HO) (ho : ∀ xs, o ≠ .tup xs) : Wf (upd H p o) (yo O p) M :=
 ⟨fun a mo e => qw.ext (qC w h o) (zh (fun z => by rw [z, (w.fresh h).2] at e; cases e)) (w.mo a mo e), fun a ha => .inr (w.own a ha), fun a ha => by
  by_cases c : a = p
  ·rw [c, zf]; exact ⟨o, rfl, ho⟩
  ·rw [zh c]; exact w.al a (ha.resolve_left c)⟩
theorem xF {H : Hp} {O : Own} {p : Addr} (hO : O p) (o : HO) : ∀ a u, ¬ O a -> H a = some u -> upd H p o a = some u /\ ¬ O a := fun a u ha e => ⟨by rw [zh (fun z => ha (by rw [z]; exact hO))]; exact e, ha⟩
theorem zo.imp {H H' : Hp} {O O' : Own} {M M' : MH} (k : ∀ a o, ¬ O a -> H a = some o -> H' a = some o /\ ¬ O' a) (hm : ∀ a, M a ≠ none -> M' a ≠ none) {v : V} {x : AV} (r : zo H O M v x) : zo H' O' M' v x := by
 cases x with
 | d x => exact Rep.imp k r
 | ref a => exact ⟨r.1, hm a r.2⟩
theorem zg.imp {H H' : Hp} {O O' : Own} {M M' : MH} (k : ∀ a o, ¬ O a -> H a = some o -> H' a = some o /\ ¬ O' a) (hm : ∀ a, M a ≠ none -> M' a ≠ none) {xs : List V} {l : List AV} (r : zg H O M xs l) : zg H' O' M' xs l := ⟨r.1, fun i x d e1 e2 => (r.2 i x d e1 e2).imp k hm⟩
theorem qw.imp {H H' : Hp} {O O' : Own} {M : MH} (k : ∀ a o, ¬ O a -> H a = some o -> H' a = some o /\ ¬ O' a) {a : Addr} {o : MO} (e : H' a = H a) (hd : ∀ dx x, O dx -> M dx = none -> H dx = some x -> ((∃ b, x = .own b) \/ ∃ fs, x = .xd fs) -> H' dx = some x /\ O' dx) (r : qw H O M a o) : qw H' O' M a o := by
 cases o with
 | lst l => obtain ⟨xs, h, r⟩ := r; exact ⟨xs, e.trans h, r.imp k fun _ z => z⟩
 | dK l => obtain ⟨xs, h, r⟩ := r; exact ⟨xs, e.trans h, r.1, r.2.imp k fun _ z => z⟩
 | ins C fs => obtain ⟨dx, xs, h, r, q1, q2, q3⟩ := r; exact ⟨dx, xs, e.trans h, ⟨r.1, r.2.imp k fun _ z => z⟩, (hd dx _ q1 q2 q3 (.inl ⟨_, rfl⟩)).2, q2, (hd dx _ q1 q2 q3 (.inl ⟨_, rfl⟩)).1⟩
 | exc C fs =>
  obtain ⟨d, h, r⟩ := r
  refine ⟨d, e.trans h, ?_⟩
  rcases r with r | ⟨dx, e1, h1, h2, h3⟩
  ·exact .inl r
  ·obtain ⟨x1, x2⟩ := hd dx _ h2 h3 h1 (.inr ⟨_, rfl⟩); exact .inr ⟨dx, e1, x1, x2, h3⟩
theorem ZM {H : Hp} {O : Own} {M : MH} (w : Wf H O M) {p : Addr} (hO : O p) (hM : M p = none) {xs : List V} (hp : H p = some (.lst xs)) (o : HO) (ho : ∀ xs, o ≠ .tup xs) : Wf (upd H p o) O M :=
 ⟨fun a mo e => qw.imp (xF hO o) (zh (fun z => by rw [z, hM] at e; cases e)) (fun dx x h1 _ h3 h4 => ⟨by rw [zh (w8 h3 hp (by rcases h4 with ⟨_, rfl⟩ | ⟨_, rfl⟩ <;> exact fun z => nomatch z))]; exact h3, h1⟩) (w.mo a mo e), w.own, fun a ha => by
  by_cases c : a = p
  ·rw [c, zf]; exact ⟨o, rfl, ho⟩
  ·rw [zh c]; exact w.al a ha⟩
theorem kT {H : Hp} {O : Own} (p : Addr) : ∀ a u, ¬ O a -> H a = some u -> H a = some u /\ ¬ Ww O p a := fun a u ha e => ⟨e, fun z => ha z.2⟩
theorem Xk {H : Hp} {O : Own} {M : MH} (w : Wf H O M) {p : Addr} (hM : M p = none) {xs : List V} (hp : H p = some (.lst xs)) : Wf H (Ww O p) M :=
 ⟨fun a mo e => qw.imp (kT p) rfl (fun dx x h1 _ h3 h4 => ⟨h3, ⟨w8 h3 hp (by rcases h4 with ⟨_, rfl⟩ | ⟨_, rfl⟩ <;> exact fun z => nomatch z), h1⟩⟩) (w.mo a mo e), fun a ha => ⟨fun z => ha (by rw [z]; exact hM), w.own a ha⟩, fun a ha => w.al a ha.2⟩
end L2
set_option Elab.async false
set_option linter.all false
set_option maxRecDepth 100000
set_option maxHeartbeats 4000000
namespace L2
open PySem PySem.Spec PyProof.Rows
noncomputable abbrev AK := AV -> MH -> Prop
noncomputable abbrev AE := ASt -> MH -> AK -> Prop
noncomputable abbrev AT := ASt -> MH -> (Bool -> MH -> Prop) -> Prop
noncomputable abbrev AA := ASt -> MH -> (List AV -> MH -> Prop) -> Prop
structure kl where
 nx : ASt -> MH -> Prop
 rt : AK
 bk : ASt -> MH -> Prop := fun _ _ => False
 ct : ASt -> MH -> Prop := fun _ _ => False
noncomputable abbrev AS := MH -> kl -> ASt -> MH -> Prop
noncomputable abbrev AG := AV -> ASt -> MH -> (ASt -> MH -> Prop) -> Prop
noncomputable abbrev AGs := List AV -> ASt -> MH -> (ASt -> MH -> Prop) -> Prop
noncomputable abbrev AI := ASt -> MH -> (List AV -> (MH -> Prop) -> MH -> Prop) -> Prop
structure Er (H : Hp) (O : Own) (M : MH) (σ : St) (ρ : ASt) : Prop where
 len : σ.length = ρ.length
 get : ∀ (i : Nat) x, ρ[i]? = some (some x) -> ∃ v, σ[i]? = some (some v) /\ zo H O M v x
theorem Er.ext {H H' : Hp} {O O' : Own} {M M' : MH} {σ : St} {ρ : ASt} (e : Er H O M σ ρ) (k : Ext H O M H' O' M') : Er H' O' M' σ ρ := ⟨e.len, fun i x h => let ⟨v, h1, h2⟩ := e.get i x h; ⟨v, h1, h2.ext k⟩⟩
theorem Er.set {H : Hp} {O : Own} {M : MH} {σ : St} {ρ : ASt} (e : Er H O M σ ρ) {v : V} {x : AV} (r : zo H O M v x) (j : Nat) : Er H O M (σ.set j (some v)) (ρ.set j (some x)) :=
 ⟨by rw [List.length_set, List.length_set, e.len], fun i y h => by
  rw [List.getElem?_set] at h ⊢
  by_cases c : j = i
  ·rw [if_pos c] at h ⊢
   by_cases c2 : j < ρ.length
   ·rw [if_pos c2] at h; rw [if_pos (by rw [e.len]; exact c2)]; cases h; exact ⟨v, rfl, r⟩
   ·rw [if_neg c2] at h; cases h
  ·rw [if_neg c] at h ⊢; exact e.get i y h⟩
noncomputable def V3 : List Nat -> ASt -> ASt
 | [], σ => σ
 | j :: r, σ => V3 r (σ.set j none)
theorem Er.clr {H : Hp} {O : Own} {M : MH} : ∀ (ts : List Nat) {σ : St} {ρ : ASt}, Er H O M σ ρ -> Er H O M (clr ts σ) (V3 ts ρ)
  | [], _, _, e => e
  | j :: r, σ, ρ, e => Er.clr r ⟨by rw [List.length_set, List.length_set, e.len], fun i y h => by
      rw [List.getElem?_set] at h ⊢
      by_cases c : j = i
      · rw [if_pos c] at h
        split at h <;> cases h
      · rw [if_neg c] at h ⊢; exact e.get i y h⟩
structure zN (t : TE) (a : AE) : Prop where
 go : ∀ {σ : St} {H : Hp} {O : Own} {ρ : ASt} {M : MH} {Q : VK} {Q' : AK}, Wf H O M -> Er H O M σ ρ -> a ρ M Q' -> (∀ x M' v H' O', Q' x M' -> Ext H O M H' O' M' -> Wf H' O' M' -> zo H' O' M' v x -> Q v H') -> t σ H Q
structure xg (t : TT) (a : AT) : Prop where
 go : ∀ {σ : St} {H : Hp} {O : Own} {ρ : ASt} {M : MH} {Q : Bool -> Hp -> Prop} {Q' : Bool -> MH -> Prop}, Wf H O M -> Er H O M σ ρ -> a ρ M Q' -> (∀ b M' H' O', Q' b M' -> Ext H O M H' O' M' -> Wf H' O' M' -> Q b H') -> t σ H Q
structure jg (t : TA) (a : AA) : Prop where
 go : ∀ {σ : St} {H : Hp} {O : Own} {ρ : ASt} {M : MH} {Q : List V -> Hp -> Prop} {Q' : List AV -> MH -> Prop}, Wf H O M -> Er H O M σ ρ -> a ρ M Q' -> (∀ x M' v H' O', Q' x M' -> Ext H O M H' O' M' -> Wf H' O' M' -> zg H' O' M' v x -> Q v H') -> t σ H Q
structure wY (t : TE) (a : ASt -> MH -> (List AV -> MH -> Prop) -> Prop) : Prop where
 go : ∀ {σ : St} {H : Hp} {O : Own} {ρ : ASt} {M : MH} {Q : VK} {Q' : List AV -> MH -> Prop}, Wf H O M -> Er H O M σ ρ -> a ρ M Q' ->
  (∀ l M' p xs H' O', Q' l M' -> Ext H O M H' O' M' -> Wf H' O' M' -> O' p -> M' p = none -> H p = none -> H' p = some (.lst xs) -> zg H' O' M' xs l -> Q (.ref p) H') -> t σ H Q
noncomputable abbrev AR2 := AV -> AV -> MH -> AK -> Prop
structure vX (r : R2) (a : AR2) : Prop where
 go : ∀ {x y : V} {dx dy : AV} {H : Hp} {O : Own} {M : MH} {Q : VK} {Q' : AK}, Wf H O M -> zo H O M x dx -> zo H O M y dy -> a dx dy M Q' -> (∀ x M' v H' O', Q' x M' -> Ext H O M H' O' M' -> Wf H' O' M' -> zo H' O' M' v x -> Q v H') -> r x y H Q
structure DT (r : V -> Hp -> VK -> Prop) (a : AV -> MH -> AK -> Prop) : Prop where
 go : ∀ {x : V} {dx : AV} {H : Hp} {O : Own} {M : MH} {Q : VK} {Q' : AK}, Wf H O M -> zo H O M x dx -> a dx M Q' -> (∀ x M' v H' O', Q' x M' -> Ext H O M H' O' M' -> Wf H' O' M' -> zo H' O' M' v x -> Q v H') -> r x H Q
structure yy (r : List V -> Hp -> VK -> Prop) (a : List AV -> MH -> AK -> Prop) : Prop where
 go : ∀ {vs : List V} {xs : List AV} {H : Hp} {O : Own} {M : MH} {Q : VK} {Q' : AK}, Wf H O M -> zg H O M vs xs -> a xs M Q' -> (∀ x M' v H' O', Q' x M' -> Ext H O M H' O' M' -> Wf H' O' M' -> zo H' O' M' v x -> Q v H') -> r vs H Q
noncomputable def J8 (i : Nat) : AE := fun ρ M Q => ∃ x, ρ[i]? = some (some x) /\ Q x M
noncomputable def aC (d : Dat) : AE := fun _ M Q => Q (.d d) M
theorem Wk {i : Nat} : zN (Yb i) (J8 i) := ⟨fun w e ⟨x, h, q⟩ k => let ⟨v, h1, h2⟩ := e.get i x h; ⟨v, h1, k _ _ _ _ _ q .refl w h2⟩⟩
theorem An {i : Int} : zN (tC (.int i)) (aC (.int i)) := ⟨fun w _ q k => k _ _ _ _ _ q .refl w .int⟩
theorem DB {i : Bool} : zN (tC (.bl i)) (aC (.bl i)) := ⟨fun w _ q k => k _ _ _ _ _ q .refl w .bl⟩
theorem Bb : zN (tC .non) (aC .non) := ⟨fun w _ q k => k _ _ _ _ _ q .refl w .non⟩
theorem By {i : Str} : zN (tC (.str i)) (aC (.str i)) := ⟨fun w _ q k => k _ _ _ _ _ q .refl w .str⟩
theorem A2 {i : String} : zN (tC (.ty i)) (aC (.ty i)) := ⟨fun w _ q k => k _ _ _ _ _ q .refl w .ty⟩
noncomputable def aOp (r : AR2) (a b : AE) : AE := fun ρ M Q => a ρ M fun x M1 => b ρ M1 fun y M2 => r x y M2 Q
theorem A9 {r : R2} {ra : AR2} {t u : TE} {a b : AE} (hr : vX r ra) (h1 : zN t a) (h2 : zN u b) : zN (tOp r t u) (aOp ra a b) :=
 ⟨fun w e q k => h1.go w e q fun x M1 v H1 O1 q1 k1 w1 r1 => h2.go w1 (e.ext k1) q1 fun y M2 u H2 O2 q2 k2 w2 r2 => hr.go w2 (r1.ext k2) r2 q2 fun z M3 v3 H3 O3 q3 k3 w3 r3 => k z M3 v3 H3 O3 q3 ((k1.trans k2).trans k3) w3 r3⟩
noncomputable def aUn (r : AV -> MH -> AK -> Prop) (a : AE) : AE := fun ρ M Q => a ρ M fun x M1 => r x M1 Q
theorem BW {r : V -> Hp -> VK -> Prop} {ra : AV -> MH -> AK -> Prop} {t : TE} {a : AE} (hr : DT r ra) (h1 : zN t a) : zN (tUn r t) (aUn ra a) :=
 ⟨fun w e q k => h1.go w e q fun x M1 v H1 O1 q1 k1 w1 r1 => hr.go w1 r1 q1 fun z M3 v3 H3 O3 q3 k3 w3 r3 => k z M3 v3 H3 O3 q3 (k1.trans k3) w3 r3⟩
noncomputable def BB : AA := fun _ M Q => Q [] M
noncomputable def Ji (a : AE) (b : AA) : AA := fun ρ M Q => a ρ M fun x M1 => b ρ M1 fun xs M2 => Q (x :: xs) M2
theorem V0 : jg Bf BB := ⟨fun w _ q k => k _ _ _ _ _ q .refl w .nil⟩
theorem Kw {t : TE} {u : TA} {a : AE} {b : AA} (h1 : zN t a) (h2 : jg u b) : jg (Yl t u) (Ji a b) :=
 ⟨fun w e q k => h1.go w e q fun x M1 v H1 O1 q1 k1 w1 r1 => h2.go w1 (e.ext k1) q1 fun y M2 u H2 O2 q2 k2 w2 r2 => k _ _ _ _ _ q2 (k1.trans k2) w2 (.cons (r1.ext k2) r2)⟩
theorem ZZ {H : Hp} {O : Own} {M : MH} (is : List Int) : zg H O M (is.map V.int) (is.map fun i => .d (.int i)) := by
 induction is with
 | nil => exact .nil
 | cons i r ih => exact .cons .int ih
noncomputable def aCB (r : List AV -> MH -> AK -> Prop) (b : AA) : AE := fun ρ M Q => b ρ M fun xs M1 => r xs M1 Q
theorem Bt {r : List V -> Hp -> VK -> Prop} {ra : List AV -> MH -> AK -> Prop} {u : TA} {b : AA} (hr : yy r ra) (h2 : jg u b) : zN (tCB r u) (aCB ra b) :=
 ⟨fun w e q k => h2.go w e q fun x M1 v H1 O1 q1 k1 w1 r1 => hr.go w1 r1 q1 fun z M3 v3 H3 O3 q3 k3 w3 r3 => k z M3 v3 H3 O3 q3 (k1.trans k3) w3 r3⟩
noncomputable abbrev ASp := List AV -> MH -> AK -> Prop
noncomputable def cSp (a : ASp) : Sp := fun vs H Q _ => ∃ xs M O Q', Wf H O M /\ zg H O M vs xs /\ a xs M Q' /\ ∀ x M' v H' O', Q' x M' -> Ext H O M H' O' M' -> Wf H' O' M' -> zo H' O' M' v x -> Q v H'
noncomputable def Ym (sp : ASp) (b : AA) : AE := fun ρ M Q => b ρ M fun xs M1 => sp xs M1 Q
theorem Y2 {sp : ASp} {u : TA} {b : AA} (h : jg u b) : zN (QI (cSp sp) [] E0 u) (Ym sp b) :=
 ⟨fun w e q k => h.go w e q fun x M1 v H1 O1 q1 k1 w1 r1 => ⟨x, M1, O1, _, w1, by rw [List.append_nil]; exact r1, q1, fun z M3 v3 H3 O3 q3 k3 w3 r3 => k z M3 v3 H3 O3 q3 (k1.trans k3) w3 r3⟩⟩
noncomputable def pur : List AV -> Option (List Dat)
 | [] => some []
 | .d x :: r => match pur r with | some l => some (x :: l) | none => none
 | .ref _ :: _ => none
theorem Vo : pur [] = some [] := rfl
theorem KW {x : Dat} {r : List AV} {l : List Dat} (h : pur r = some l) : pur (.d x :: r) = some (x :: l) := by unfold pur; rw [h]
theorem zZ (l : List Dat) : pur (l.map .d) = some l := by
 induction l with
 | nil => rfl
 | cons x r ih => exact KW ih
theorem ji : ∀ {xs : List AV} {l : List Dat}, pur xs = some l -> xs = l.map .d
 | [], l, h => by cases h; rfl
 | .d x :: r, l, h => by
  unfold pur at h
  cases e : pur r with
  | none => rw [e] at h; cases h
  | some m => rw [e] at h; cases h; rw [ji e]; rfl
 | .ref _ :: _, _, h => by cases h
theorem Ext.shown {H H' : Hp} {O O' : Own} {M M' : MH} {p : Addr} (w : Wf H O M) (k : Ext H O M H' O' M') (h : H p = none) : Ext H O M H' (Ww O' p) M' :=
 ⟨fun a o ha e => ⟨(k.fix a o ha e).1, fun z => (k.fix a o ha e).2 z.2⟩, fun a ha e => ⟨(k.prv a ha e).1, ⟨fun z => w.ne a ha (by rw [z]; exact h), (k.prv a ha e).2.1⟩, (k.prv a ha e).2.2⟩, k.mst⟩
theorem Ext.owned {H H' : Hp} {O O' : Own} {M M' : MH} {p : Addr} (w : Wf H O M) (k : Ext H O M H' O' M') (h : H p = none) (mo : MO) : Ext H O M H' O' (mup M' p mo) :=
 ⟨k.fix, fun a ha e => ⟨(k.prv a ha e).1, (k.prv a ha e).2.1, by rw [zu (fun z => w.ne a ha (by rw [z]; exact h))]; exact (k.prv a ha e).2.2⟩, fun a ha => by
  by_cases e : a = p
  ·rw [e, zk]; exact fun z => nomatch z
  ·rw [zu e]; exact k.mst a ha⟩
theorem Zf {H : Hp} {O : Own} {M : MH} {p : Addr} (w : Wf H O M) (hO : O p) (hM : M p = none) {xs : List V} {l : List AV} (hp : H p = some (.lst xs)) (r : zg H O M xs l) : Wf H O (mup M p (.lst l)) := by
 have km : ∀ a, M a ≠ none -> mup M p (.lst l) a ≠ none := fun a ha => by
  by_cases e : a = p
  ·rw [e, zk]; exact fun z => nomatch z
  ·rw [zu e]; exact ha
 refine ⟨fun a u e => ?_, fun a ha => ?_, w.al⟩
 ·by_cases c : a = p
  ·subst c; rw [zk] at e; cases e; exact ⟨xs, hp, r.imp (fun _ _ z h => ⟨h, z⟩) km⟩
  ·rw [zu c] at e
   have := w.mo a u e
   cases u with
   | lst m => obtain ⟨ys, h1, h2⟩ := this; exact ⟨ys, h1, h2.imp (fun _ _ z h => ⟨h, z⟩) km⟩
   | dK m => obtain ⟨ys, h1, h2⟩ := this; exact ⟨ys, h1, h2.1, h2.2.imp (fun _ _ z h => ⟨h, z⟩) km⟩
   | ins C fs =>
    obtain ⟨dx, ys, h1, h2, h3, h4, h5⟩ := this
    exact ⟨dx, ys, h1, ⟨h2.1, h2.2.imp (fun _ _ z h => ⟨h, z⟩) km⟩, h3, by rw [zu (w8 h5 hp (fun z => nomatch z))]; exact h4, h5⟩
   | exc C fs =>
    obtain ⟨d, h1, h2⟩ := this
    refine ⟨d, h1, ?_⟩
    rcases h2 with h2 | ⟨dx, e1, h2, h3, h4⟩
    ·exact .inl h2
    ·exact .inr ⟨dx, e1, h2, h3, by rw [zu (w8 h2 hp (fun z => nomatch z))]; exact h4⟩
 ·by_cases c : a = p
  ·rw [c]; exact hO
  ·rw [zu c] at ha; exact w.own a ha
noncomputable abbrev AF := ASt -> MH -> (List AV -> MH -> Prop) -> Prop
noncomputable def aFz (a : AF) : AE := fun ρ M Q => a ρ M fun l M' => ∃ ds, pur l = some ds /\ Q (.d (.lst ds)) M'
noncomputable def aOw (a : AF) : AE := fun ρ M Q => a ρ M fun l M' => ∀ p, M p = none -> M' p = none -> Q (.ref p) (mup M' p (.lst l))
noncomputable def A6 (t : TE) : TE := t
theorem v7 {X : Cx} {e : Expr} {t : TE} (h : PE X e t) : PE X e (A6 t) := h
theorem xG {t : TE} {a : AF} (h : wY t a) : zN t (aFz a) :=
 ⟨fun w e q k => h.go w e q fun l M' p xs H' O' q1 k1 w1 o1 m1 hp hx r1 => by
  obtain ⟨ds, e1, q2⟩ := q1
  rw [ji e1] at r1
  have r2 := r1.pure
  exact k _ _ _ _ _ q2 (k1.shown w hp) (Xk w1 m1 hx) (Rep.lst (fun z => z.1 rfl) hx r2.1 fun i x d e1 e2 => (r2.2 i x d e1 e2).imp (kT p))⟩
theorem Wo {t : TE} {a : AF} (h : wY t a) : zN (A6 t) (aOw a) :=
 ⟨fun w e q k => h.go w e q fun l M' p xs H' O' q1 k1 w1 o1 m1 hp hx r1 => k _ _ _ _ _ (q1 p (w.fresh hp).2 m1) (k1.owned w hp _) (Zf w1 o1 m1 hx r1) ⟨rfl, by rw [zk]; exact fun z => nomatch z⟩⟩
noncomputable def DW (b : AA) : AF := fun ρ M Q => b ρ M fun xs M1 => xs.length <= sizeLine /\ Q xs M1
theorem Xy {u : TA} {b : AA} (h : jg u b) : wY (A1 u) (DW b) :=
 ⟨fun w e q k => h.go w e q fun x M1 v H1 O1 q1 k1 w1 r1 => ⟨by rw [r1.1]; exact q1.1, fun p hp =>
  k x M1 p v _ _ q1.2 (k1.trans (qC w1 hp _)) (xY w1 hp _ (fun _ z => nomatch z)) (.inl rfl) (w1.fresh hp).2 (by
   cases e0 : (_ : Hp) p with
   | none => exact e0
   | some o =>
    exfalso
    rename_i H0 O0 _ M0 _ _
    by_cases c : O0 p
    ·by_cases c2 : M0 p = none
     ·exact w1.ne p (k1.prv p c c2).2.1 hp
     ·exact w1.ne p (w1.own p (k1.mst p c2)) hp
    ·rw [(k1.fix p o c e0).1] at hp; cases hp) zf (r1.ext (qC w1 hp _))⟩⟩
noncomputable def DP (b : AA) : AE := fun ρ M Q => b ρ M fun xs M1 => xs.length <= sizeLine /\ ∃ ds, pur xs = some ds /\ Q (.d (.tup ds)) M1
theorem Wx {u : TA} {b : AA} (h : jg u b) : zN (Dh u) (DP b) :=
 ⟨fun w e q k => h.go w e q fun x M1 v H1 O1 q1 k1 w1 r1 => ⟨by rw [r1.1]; exact q1.1, fun p hp => by
  obtain ⟨_, ds, e1, q2⟩ := q1
  rw [ji e1] at r1
  have r2 := r1.pure
  exact k _ _ _ _ _ q2 (k1.trans (qN w1 hp _)) (vR w1 hp _) (Rep.tup (w1.fresh hp).1 zf r2.1 fun i x d e1 e2 => (r2.2 i x d e1 e2).ext (qN w1 hp _))⟩⟩
noncomputable def aB (a : AE) : AT := fun ρ M Q => a ρ M fun x M1 => ∃ b, x = .d (.bl b) /\ Q b M1
theorem jH {H : Hp} {O : Own} {v : V} {b : Bool} (r : Rep H O v (.bl b)) : v = .bl b := by cases r; rfl
theorem zH {H : Hp} {O : Own} {v : V} {b : Int} (r : Rep H O v (.int b)) : v = .int b := by cases r; rfl
theorem Xo {H : Hp} {O : Own} {v : V} {b : String} (r : Rep H O v (.ty b)) : v = .ty b := by cases r; rfl
theorem D5 {t : TE} {a : AE} (h : zN t a) : xg (tB t) (aB a) := ⟨fun w e q k => h.go w e q fun x M1 v H1 O1 ⟨b, e1, q1⟩ k1 w1 r1 => by
 subst e1; exact ⟨b, jH r1, k _ _ _ _ q1 k1 w1⟩⟩
theorem XA {t : TE} {a : AE} (h : zN t a) : xg (X1 t) (aB a) := ⟨fun w e q k => h.go w e q fun x M1 v H1 O1 ⟨b, e1, q1⟩ k1 w1 r1 => by
 subst e1; exact ⟨b, jH r1, k _ _ _ _ q1 k1 w1⟩⟩
noncomputable def we : AT := fun _ M Q => Q true M
theorem K8 : xg Yo we := ⟨fun w _ q k => k _ _ _ _ q .refl w⟩
noncomputable def aOr (a b : AT) : AT := fun ρ M Q => a ρ M fun c M1 => if c = true then Q true M1 else b ρ M1 Q
noncomputable def Ed (a : AT) : AT := fun ρ M Q => a ρ M fun c M1 => Q (!c) M1
theorem Dl {t u : TT} {a b : AT} (h1 : xg t a) (h2 : xg u b) : xg (tOr t u) (aOr a b) := ⟨fun w e q k => h1.go w e q fun c M1 H1 O1 q1 k1 w1 => by
 cases c with
 | false => exact h2.go w1 (e.ext k1) q1 fun c M2 H2 O2 q2 k2 w2 => k _ _ _ _ q2 (k1.trans k2) w2
 | true => exact k _ _ _ _ q1 k1 w1⟩
theorem Y6 {t : TT} {a : AT} (h1 : xg t a) : xg (Dy t) (Ed a) := ⟨fun w e q k => h1.go w e q fun c M1 H1 O1 q1 k1 w1 => k _ _ _ _ q1 k1 w1⟩
noncomputable def WZ (a b : AE) : AE := fun ρ M Q => a ρ M fun x M1 => ∃ c, x = .d (.bl c) /\ if c = true then b ρ M1 Q else Q (.d (.bl false)) M1
noncomputable def Ad (a : AE) : AE := fun ρ M Q => a ρ M fun x M1 => ∃ c, x = .d (.bl c) /\ Q (.d (.bl (!c))) M1
theorem Xm {t u : TE} {a b : AE} (h1 : zN t a) (h2 : zN u b) : zN (XM t u) (WZ a b) := ⟨fun w e q k => h1.go w e q fun x M1 v H1 O1 ⟨c, e1, q1⟩ k1 w1 r1 => by
 subst e1
 refine ⟨c, jH r1, ?_⟩
 cases c with
 | true => exact h2.go w1 (e.ext k1) q1 fun c M2 v2 H2 O2 q2 k2 w2 r2 => k _ _ _ _ _ q2 (k1.trans k2) w2 r2
 | false => exact k _ _ _ _ _ q1 k1 w1 .bl⟩
theorem KM {t : TE} {a : AE} (h1 : zN t a) : zN (Xt t) (Ad a) := ⟨fun w e q k => h1.go w e q fun x M1 v H1 O1 ⟨c, e1, q1⟩ k1 w1 r1 => by
 subst e1
 exact ⟨c, jH r1, k _ _ _ _ _ q1 k1 w1 .bl⟩⟩
noncomputable def XT (r r' : AR2) (a b c : AE) : AE := fun ρ M Q => a ρ M fun x M1 => b ρ M1 fun y M2 => r x y M2 fun z M3 => ∃ k, z = .d (.bl k) /\ if k = true then c ρ M3 fun u M4 => r' y u M4 Q else Q (.d (.bl false)) M3
end L2
set_option Elab.async false
set_option linter.all false
set_option maxRecDepth 100000
set_option maxHeartbeats 4000000
namespace L2
open PySem PySem.Spec PyProof.Rows
theorem Jn {r r' : R2} {ar ar' : AR2} {t u v : TE} {a b c : AE} (hr : vX r ar) (hr' : vX r' ar') (h1 : zN t a) (h2 : zN u b) (h3 : zN v c) : zN (Xw r r' t u v) (XT ar ar' a b c) :=
 ⟨fun w e q k => h1.go w e q fun x M1 v H1 O1 q1 k1 w1 r1 => h2.go w1 (e.ext k1) q1 fun y M2 u H2 O2 q2 k2 w2 r2 => hr.go w2 (r1.ext k2) r2 q2 fun z M3 v3 H3 O3 ⟨c, e3, q3⟩ k3 w3 r3 => by
  subst e3
  refine ⟨c, jH r3, ?_⟩
  have k13 := (k1.trans k2).trans k3
  cases c with
  | false => exact k _ _ _ _ _ q3 k13 w3 .bl
  | true => exact h3.go w3 (e.ext k13) q3 fun z4 M4 v4 H4 O4 q4 k4 w4 r4 => hr'.go w4 ((r2.ext k3).ext k4) r4 q4 fun z5 M5 v5 H5 O5 q5 k5 w5 r5 => k _ _ _ _ _ q5 ((k13.trans k4).trans k5) w5 r5⟩
structure ED (H0 : Hp) (O0 : Own) (M0 : MH) (D : qR) (D' : kl) : Prop where
 nx : ∀ σ H O ρ M, Wf H O M -> Er H O M σ ρ -> Ext H0 O0 M0 H O M -> D'.nx ρ M -> D.nx σ H
 rt : ∀ v x H O M, Wf H O M -> Ext H0 O0 M0 H O M -> zo H O M v x -> D'.rt x M -> D.rt v H
 bk : ∀ σ H O ρ M, Wf H O M -> Er H O M σ ρ -> Ext H0 O0 M0 H O M -> D'.bk ρ M -> D.bk σ H
 ct : ∀ σ H O ρ M, Wf H O M -> Er H O M σ ρ -> Ext H0 O0 M0 H O M -> D'.ct ρ M -> D.ct σ H
theorem ED.tr {H0 H1 : Hp} {O0 O1 : Own} {M0 M1 : MH} {D : qR} {D' : kl} (E : ED H0 O0 M0 D D') (k : Ext H0 O0 M0 H1 O1 M1) : ED H1 O1 M1 D D' :=
 ⟨fun σ H O ρ M w e x q => E.nx σ H O ρ M w e (k.trans x) q, fun v y H O M w x r q => E.rt v y H O M w (k.trans x) r q, fun σ H O ρ M w e x q => E.bk σ H O ρ M w e (k.trans x) q, fun σ H O ρ M w e x q => E.ct σ H O ρ M w e (k.trans x) q⟩
structure jj (t : TS) (a : AS) : Prop where
 go : ∀ {H0 : Hp} {O0 : Own} {M0 : MH} {D : qR} {D' : kl} {σ : St} {H : Hp} {O : Own} {ρ : ASt} {M : MH}, Wf H0 O0 M0 -> Wf H O M -> Er H O M σ ρ -> Ext H0 O0 M0 H O M -> a M0 D' ρ M -> ED H0 O0 M0 D D' -> t D σ H
noncomputable def Xi : AS := fun _ D ρ M => D.nx ρ M
theorem KQ : jj YC Xi := ⟨fun _ w e x q E => E.nx _ _ _ _ _ w e x q⟩
noncomputable def yA (a b : AS) : AS := fun B D ρ M => a B { D with nx := b B D } ρ M
theorem Va {t u : TS} {a b : AS} (h1 : jj t a) (h2 : jj u b) : jj (V8 t u) (yA a b) :=
 ⟨fun w0 w e x q E => h1.go w0 w e x q ⟨fun σ H O ρ M w e x q => h2.go w0 w e x q E, E.rt, E.bk, E.ct⟩⟩
noncomputable def Yr (a : AE) : AS := fun _ D ρ M => a ρ M fun _ M1 => D.nx ρ M1
theorem X4 {t : TE} {a : AE} (h : zN t a) : jj (QK t) (Yr a) := ⟨fun _ w e x q E => h.go w e q fun y M1 v H1 O1 q1 k1 w1 r1 => E.nx _ _ _ _ _ w1 (e.ext k1) (x.trans k1) q1⟩
noncomputable def DN (a : AE) : AS := fun _ D ρ M => a ρ M D.rt
theorem VX {t : TE} {a : AE} (h : zN t a) : jj (BR t) (DN a) := ⟨fun _ w e x q E => h.go w e q fun y M1 v H1 O1 q1 k1 w1 r1 => E.rt _ _ _ _ _ w1 (x.trans k1) r1 q1⟩
noncomputable def Ag (c : AT) (a b : AS) : AS := fun B D ρ M => c ρ M fun k M1 => if k = true then a B D ρ M1 else b B D ρ M1
theorem VH {c : TT} {t u : TS} {ac : AT} {a b : AS} (hc : xg c ac) (h1 : jj t a) (h2 : jj u b) : jj (V9 c t u) (Ag ac a b) :=
 ⟨fun w0 w e x q E => hc.go w e q fun k M1 H1 O1 q1 k1 w1 => by
  cases k with
  | true => exact h1.go w0 w1 (e.ext k1) (x.trans k1) q1 E
  | false => exact h2.go w0 w1 (e.ext k1) (x.trans k1) q1 E⟩
structure yC (g : TG) (a : AG) : Prop where
 go : ∀ {v : V} {x : AV} {σ : St} {H : Hp} {O : Own} {ρ : ASt} {M : MH} {Q : St -> Hp -> Prop} {Q' : ASt -> MH -> Prop}, Wf H O M -> Er H O M σ ρ -> zo H O M v x -> a x ρ M Q' ->
  (∀ σ' H' O' ρ' M', Q' ρ' M' -> Ext H O M H' O' M' -> Wf H' O' M' -> Er H' O' M' σ' ρ' -> Q σ' H') -> g v σ H Q
structure QN (g : TGs) (a : AGs) : Prop where
 go : ∀ {v : List V} {x : List AV} {σ : St} {H : Hp} {O : Own} {ρ : ASt} {M : MH} {Q : St -> Hp -> Prop} {Q' : ASt -> MH -> Prop}, Wf H O M -> Er H O M σ ρ -> zg H O M v x -> a x ρ M Q' ->
  (∀ σ' H' O' ρ' M', Q' ρ' M' -> Ext H O M H' O' M' -> Wf H' O' M' -> Er H' O' M' σ' ρ' -> Q σ' H') -> g v σ H Q
noncomputable def Zy (i : Nat) : AG := fun x ρ M Q => Q (ρ.set i (some x)) M
theorem Ju {i : Nat} : yC (Zk i) (Zy i) := ⟨fun w e r q k => k _ _ _ _ _ q .refl w (e.set r i)⟩
noncomputable def W9 : AGs := fun xs ρ M Q => xs = [] /\ Q ρ M
noncomputable def K2 (a : AG) (b : AGs) : AGs := fun xs ρ M Q => ∃ x r, xs = x :: r /\ a x ρ M fun ρ' M' => b r ρ' M' Q
theorem KP : QN Aw W9 := ⟨fun w e r q k => by obtain ⟨e1, q⟩ := q; subst e1; exact ⟨r.nil_inv, k _ _ _ _ _ q .refl w e⟩⟩
theorem JW {g : TG} {u : TGs} {a : AG} {b : AGs} (h1 : yC g a) (h2 : QN u b) : QN (Xl g u) (K2 a b) := ⟨fun w e r q k => by
 obtain ⟨x, r', e1, q⟩ := q; subst e1
 obtain ⟨v, vr, e2, rv, rr⟩ := r.cons_inv
 subst e2
 exact ⟨v, vr, rfl, h1.go w e rv q fun σ' H' O' ρ' M' q1 k1 w1 e1 => h2.go w1 e1 (rr.ext k1) q1 fun σ2 H2 O2 ρ2 M2 q2 k2 w2 e2 => k _ _ _ _ _ q2 (k1.trans k2) w2 e2⟩⟩
noncomputable def W8 (n : Nat) (b : AGs) : AG := fun x ρ M Q => ∃ l, x = .d (.tup l) /\ l.length = n /\ b (l.map .d) ρ M Q
theorem K6 {K : PySem.W.Frag} {n : Nat} {u : TGs} {b : AGs} (h : QN u b) : yC (Vb K n u) (W8 n b) := ⟨fun {v x σ H O ρ M Q Q'} w e r q k => by
 obtain ⟨l, e1, ln, q⟩ := q; subst e1
 cases (show Rep H O v (.tup l) from r) with
 | @tup a xs _ o1 h1 l1 r1 => exact ⟨a, xs, rfl, SqT.of h1, l1.trans ln, h.go w e (JT.av ⟨l1, r1⟩) q k⟩⟩
noncomputable def qB (x : AV) (M : MH) : Option (List AV) := match x with
 | .d (.lst l) => some (l.map .d)
 | .ref a => match M a with
  | some (.lst l) => some l
  | _ => none
 | _ => none
noncomputable def B2 (x : AV) : Option (List AV) := match x with
 | .d (.tup l) => some (l.map .d)
 | _ => none
noncomputable def qS (x : AV) (M : MH) : Option (List AV) := match x with
 | .d (.lst l) => some (l.map .d)
 | .d (.tup l) => some (l.map .d)
 | .ref a => match M a with
  | some (.lst l) => some l
  | _ => none
 | _ => none
theorem X0 (l : List Dat) (M : MH) : qB (.d (.lst l)) M = some (l.map .d) := rfl
theorem Dm (l : List Dat) : B2 (.d (.tup l)) = some (l.map .d) := rfl
theorem B5 (l : List Dat) (M : MH) : qS (.d (.lst l)) M = some (l.map .d) := rfl
theorem B7 (l : List Dat) (M : MH) : qS (.d (.tup l)) M = some (l.map .d) := rfl
theorem qq {a : Addr} {M : MH} {l : List AV} (h : M a = some (.lst l)) : qB (.ref a) M = some l := by unfold qB; dsimp only; rw [h]
theorem zM {a : Addr} {M : MH} {l : List AV} (h : M a = some (.lst l)) : qS (.ref a) M = some l := by unfold qS; dsimp only; rw [h]
theorem KS {x : AV} {M : MH} {l : List AV} (h : qB x M = some l) : (∃ m, x = .d (.lst m) /\ l = m.map .d) \/ ∃ a, x = .ref a /\ M a = some (.lst l) := by
 cases x with
 | d x =>
  cases x with
  | lst m => cases h; exact .inl ⟨m, rfl, rfl⟩
  | _ => cases h
 | ref a =>
  unfold qB at h
  dsimp only at h
  cases e : M a with
  | none => rw [e] at h; cases h
  | some o =>
   rw [e] at h
   cases o with
   | lst m => cases h; exact .inr ⟨a, rfl, e⟩
   | _ => cases h
theorem qW {x : AV} {M : MH} {l : List AV} (h : qS x M = some l) : qB x M = some l \/ ∃ m, x = .d (.tup m) /\ l = m.map .d := by
 cases x with
 | d x =>
  cases x with
  | lst m => cases h; exact .inl rfl
  | tup m => cases h; exact .inr ⟨m, rfl, rfl⟩
  | _ => cases h
 | ref a => exact .inl h
theorem qj {H : Hp} {O : Own} {M : MH} {v : V} {x : AV} {l : List AV} (w : Wf H O M) (r : zo H O M v x) (h : qB x M = some l) : ∃ a xs, v = .ref a /\ H a = some (.lst xs) /\ zg H O M xs l := by
 rcases KS h with ⟨m, rfl, rfl⟩ | ⟨a, rfl, e⟩
 ·cases (show Rep H O v (.lst m) from r) with
  | @lst a xs _ o1 h1 l1 r1 => exact ⟨a, xs, rfl, h1, JT.av ⟨l1, r1⟩⟩
 ·obtain ⟨xs, h1, r1⟩ := w.mo a _ e
  exact ⟨a, xs, r.1, h1, r1⟩
theorem jU {H : Hp} {O : Own} {M : MH} {v : V} {x : AV} {l : List AV} (r : zo H O M v x) (h : B2 x = some l) : ∃ a xs, v = .ref a /\ H a = some (.tup xs) /\ zg H O M xs l := by
 cases x with
 | ref a => cases h
 | d x =>
  cases x with
  | tup m =>
   cases h
   cases (show Rep H O v (.tup m) from r) with
   | @tup a xs _ o1 h1 l1 r1 => exact ⟨a, xs, rfl, h1, JT.av ⟨l1, r1⟩⟩
  | _ => cases h
theorem Qi {H : Hp} {O : Own} {M : MH} {v : V} {x : AV} {l : List AV} (w : Wf H O M) (r : zo H O M v x) (h : qS x M = some l) : ∃ a xs, v = .ref a /\ (H a = some (.lst xs) \/ H a = some (.tup xs)) /\ zg H O M xs l := by
 rcases qW h with e | ⟨m, rfl, rfl⟩
 ·obtain ⟨a, xs, h1, h2, h3⟩ := qj w r e; exact ⟨a, xs, h1, .inl h2, h3⟩
 ·obtain ⟨a, xs, h1, h2, h3⟩ := jU (l := m.map .d) r rfl; exact ⟨a, xs, h1, .inr h2, h3⟩
structure X5 (t : X7) (a : AV -> AV -> AV -> MH -> (MH -> Prop) -> Prop) : Prop where
 go : ∀ {o i v : V} {ao ai av : AV} {H : Hp} {O : Own} {M : MH} {Q : Hp -> Prop} {Q' : MH -> Prop}, Wf H O M -> zo H O M o ao -> zo H O M i ai -> zo H O M v av -> a ao ai av M Q' -> (∀ M' H' O', Q' M' -> Ext H O M H' O' M' -> Wf H' O' M' -> Q H') -> t o i v H Q
noncomputable def WS (a b : AE) (s : AV -> AV -> AV -> MH -> (MH -> Prop) -> Prop) : AG := fun x ρ M Q => a ρ M fun o M1 => b ρ M1 fun i M2 => s o i x M2 fun M3 => Q ρ M3
theorem X6 {to ti : TE} {t : X7} {a b : AE} {s : AV -> AV -> AV -> MH -> (MH -> Prop) -> Prop} (h1 : zN to a) (h2 : zN ti b) (h3 : X5 t s) : yC (B4 to ti t) (WS a b s) := ⟨fun w e r q k =>
 h1.go w e q fun x M1 v H1 O1 q1 k1 w1 r1 => h2.go w1 (e.ext k1) q1 fun y M2 u H2 O2 q2 k2 w2 r2 => h3.go w2 (r1.ext k2) r2 (r.ext (k1.trans k2)) q2 fun M3 H3 O3 q3 k3 w3 => k _ _ _ _ _ q3 ((k1.trans k2).trans k3) w3 (e.ext ((k1.trans k2).trans k3))⟩
theorem qT {M : MH} {p : Addr} {o : MO} (h : M p = some o) : M p ≠ none := by rw [h]; exact fun z => nomatch z
noncomputable def asL : AV -> AV -> AV -> MH -> (MH -> Prop) -> Prop := fun o i v M Q => ∃ p l k j, o = .ref p /\ i = .d (.int k) /\ M p = some (.lst l) /\ ixN l.length k = some j /\ Q (mup M p (.lst (l.set j v)))
theorem Ky : X5 ZV asL := ⟨fun w ro ri rv q k => by
 obtain ⟨p, l, n, j, rfl, rfl, hm, hj, q⟩ := q
 obtain ⟨xs, hx, rx⟩ := w.mo p _ hm
 have np := qT hm
 refine ⟨n, zH ri, p, ro.1, xs, hx, j, by rw [rx.1]; exact hj, k _ _ _ q (ki w np _ _) (Yc w np (fun _ z => nomatch z) ⟨_, zf, (rx.set rv j).ext (ki w np _ _)⟩)⟩⟩
noncomputable def D7 (a : AE) (g : AG) : AS := fun _ D ρ M => a ρ M fun x M1 => g x ρ M1 D.nx
theorem VE {t : TE} {g : TG} {a : AE} {ag : AG} (h : zN t a) (hg : yC g ag) : jj (ZA t g) (D7 a ag) := ⟨fun _ w e x q E => h.go w e q fun y M1 v H1 O1 q1 k1 w1 r1 => hg.go w1 (e.ext k1) r1 q1 fun σ2 H2 O2 ρ2 M2 q2 k2 w2 e2 => E.nx _ _ _ _ _ w2 e2 ((x.trans k1).trans k2) q2⟩
noncomputable def DY (i j : Nat) (a : AA) : AS := fun _ D ρ M => a ρ M fun xs M1 => ∃ x y, xs = [x, y] /\ D.nx ((ρ.set i (some x)).set j (some y)) M1
theorem Y4 {i j : Nat} {t : TA} {a : AA} (h : jg t a) : jj (Ao i j t) (DY i j a) := ⟨fun _ w e x q E => h.go w e q fun ys M1 vs H1 O1 q1 k1 w1 r1 => by
 obtain ⟨y, z, rfl, q2⟩ := q1
 obtain ⟨v1, r', rfl, a1, r2⟩ := r1.cons_inv
 obtain ⟨v2, r', rfl, a2, r3⟩ := r2.cons_inv
 rw [r3.nil_inv]
 exact ⟨v1, v2, rfl, E.nx _ _ _ _ _ w1 (((e.ext k1).set a1 i).set a2 j) (x.trans k1) q2⟩⟩
structure EQ (t : TIp) (a : AR2) : Prop where
 go : ∀ {x y : V} {dx dy : AV} {H : Hp} {O : Own} {M : MH} {Q : VK} {Q' : AK}, Wf H O M -> zo H O M x dx -> zo H O M y dy -> a dx dy M Q' -> (∀ x M' v H' O', Q' x M' -> Ext H O M H' O' M' -> Wf H' O' M' -> zo H' O' M' v x -> Q v H') -> t x y H Q
noncomputable def yi (J : It) (H : Hp) (O : Own) (M : MH) (l : List AV) (G : MH -> Prop) : Prop :=
 ∀ (H' : Hp) (O' : Own) (M' : MH), (∀ a o, ¬ O a -> H a = some o -> H' a = some o /\ ¬ O' a) -> (∀ a, M a ≠ none -> M' a ≠ none) -> Wf H' O' M' -> G M' -> ∀ i : Nat, (i = l.length -> J.stop i H') /\
  ∀ y, l[i]? = some y -> J.go i H' /\ ∀ x H'', J.yld i H' x H'' -> Ext H' O' M' H'' O' M' /\ Wf H'' O' M' /\ zo H'' O' M' x y
structure ZH (wi : TI) (ai : AI) : Prop where
 go : ∀ {σ : St} {H : Hp} {O : Own} {ρ : ASt} {M : MH} {R : It -> Hp -> Prop} {R' : List AV -> (MH -> Prop) -> MH -> Prop}, Wf H O M -> Er H O M σ ρ -> ai ρ M R' -> (∀ l G M' J H' O', R' l G M' -> Ext H O M H' O' M' -> Wf H' O' M' -> yi J H' O' M' l G -> R J H') -> wi σ H R
noncomputable def DS (ag : AG) (ab : AS) (B : MH) (D : kl) (G : MH -> Prop) (l : List AV) (ρ : ASt) (M : MH) : Prop :=
 ∃ Pv : Nat -> ASt -> MH -> Prop, Pv 0 ρ M /\ (∀ i x ρ M, l[i]? = some x -> Pv i ρ M -> G M /\ ag x ρ M fun ρ' M' => ab B { D with nx := Pv (i + 1), ct := Pv (i + 1), bk := D.nx } ρ' M') /\ ∀ ρ M, Pv l.length ρ M -> G M /\ D.nx ρ M
noncomputable def Ai (ai : AI) (ag : AG) (ab : AS) : AS := fun _ D ρ M => ai ρ M fun l G M1 => DS ag ab M1 D G l ρ M1
theorem Wa {wi : TI} {g : TG} {t : TS} {ai : AI} {ag : AG} {ab : AS} (hi : ZH wi ai) (hg : yC g ag) (hb : jj t ab) : jj (Vj wi g t) (Ai ai ag ab) := ⟨fun {H0 O0 M0 D D' σ H O ρ M} w0 w e x q E => by
 rw [vH]
 refine hi.go w e q fun l G M1 J H1 O1 q1 k1 w1 hj => ?_
 have E1 := E.tr (x.trans k1)
 obtain ⟨Pv, p0, ps, pd⟩ := q1
 refine ⟨fun i m σ H => m = l.length - i /\ i <= l.length /\ ∃ O ρ M, Wf H O M /\ Er H O M σ ρ /\ Ext H1 O1 M1 H O M /\ Pv i ρ M, ⟨l.length, by simp, Nat.zero_le _, O1, ρ, M1, w1, e.ext k1, .refl, p0⟩, ?_⟩
 rintro i m σ H ⟨rfl, hi, O, ρ, M, w, e, x, hf⟩
 by_cases hil : i < l.length
 ·have hy : l[i]? = some l[i] := List.getElem?_eq_getElem hil
  obtain ⟨hG, q2⟩ := ps i l[i] ρ M hy hf
  obtain ⟨j1, j2⟩ := (hj H O M x.fix x.mst w hG i).2 l[i] hy
  refine .inr ⟨j1, fun σ' H' => ∃ O ρ M, Wf H' O M /\ Er H' O M σ' ρ /\ Ext H1 O1 M1 H' O M /\ Pv (i + 1) ρ M, fun σ' H' z => ⟨l.length - (i + 1), by omega, rfl, hil, z⟩, fun v H' hv => ?_⟩
  obtain ⟨k2, w2, r2⟩ := j2 v H' hv
  refine hg.go w2 (e.ext k2) r2 q2 fun σ3 H3 O3 ρ3 M3 q3 k3 w3 e3 => ?_
  exact hb.go w1 w3 e3 ((x.trans k2).trans k3) q3 ⟨fun σ H O ρ M w e x q => ⟨O, ρ, M, w, e, x, q⟩, E1.rt, E1.nx, fun σ H O ρ M w e x q => ⟨O, ρ, M, w, e, x, q⟩⟩
 ·have e0 : i = l.length := by omega
  subst e0
  obtain ⟨hG, q2⟩ := pd ρ M hf
  exact .inl ⟨(hj H O M x.fix x.mst w hG l.length).1 rfl, E1.nx _ _ _ _ _ w e x q2⟩⟩
end L2
set_option Elab.async false
set_option linter.all false
set_option maxRecDepth 100000
set_option maxHeartbeats 4000000
namespace L2
open PySem PySem.Spec PyProof.Rows
theorem j8 {H H1 : Hp} {O O1 : Own} {M M1 : MH} (w1 : Wf H1 O1 M1) (k1 : Ext H O M H1 O1 M1) {p : Addr} (hp : H1 p = none) : H p = none := by
 cases e0 : H p with
 | none => rfl
 | some o =>
  exfalso
  by_cases c : O p
  ·by_cases c2 : M p = none
   ·exact w1.ne p (k1.prv p c c2).2.1 hp
   ·exact w1.ne p (w1.own p (k1.mst p c2)) hp
  ·rw [(k1.fix p o c e0).1] at hp; cases hp
theorem Kh {K : PySem.W.Frag} {H : Hp} {O : Own} {M : MH} {a : Addr} {x : AV} {l : List AV} (r : zo H O M (.ref a) x) (h : qB x M = some l) : yi (Itl K a) H O M l (fun M' => qB x M' = some l) := by
 intro H' O' M' fix mst w' hG i
 obtain ⟨a', xs, e, h1, r1⟩ := qj w' (r.imp fix mst) hG
 cases e
 refine ⟨fun e => ⟨xs, SqL.of h1, by rw [r1.1]; omega⟩, fun y hy => ?_⟩
 obtain ⟨v, hv, rv⟩ := r1.get hy
 refine ⟨⟨xs, v, SqL.of h1, hv⟩, fun z H'' hz => ?_⟩
 obtain ⟨e1, e2⟩ := hz
 subst e1
 have := e2 xs (SqL.of h1)
 rw [hv] at this; cases this
 exact ⟨.refl, w', rv⟩
theorem YV {K : PySem.W.Frag} {H : Hp} {O : Own} {M : MH} {a : Addr} {x : AV} {l : List AV} (r : zo H O M (.ref a) x) (h : B2 x = some l) : yi (Itt K a) H O M l (fun _ => True) := by
 intro H' O' M' fix mst w' hG i
 obtain ⟨a', xs, e, h1, r1⟩ := jU (r.imp fix mst) h
 cases e
 refine ⟨fun e => ⟨xs, SqT.of h1, by rw [r1.1]; omega⟩, fun y hy => ?_⟩
 obtain ⟨v, hv, rv⟩ := r1.get hy
 refine ⟨⟨xs, v, SqT.of h1, hv⟩, fun z H'' hz => ?_⟩
 obtain ⟨e1, e2⟩ := hz
 subst e1
 have := e2 xs (SqT.of h1)
 rw [hv] at this; cases this
 exact ⟨.refl, w', rv⟩
noncomputable def aiS (a : AE) : AI := fun ρ M R => a ρ M fun x M1 => ∃ l, qS x M1 = some l /\ R l (fun M' => qS x M' = some l) M1
theorem yi.mono {J : It} {H : Hp} {O : Own} {M : MH} {l : List AV} {G G' : MH -> Prop} (h : yi J H O M l G) (k : ∀ M, G' M -> G M) : yi J H O M l G' := fun H' O' M' fix mst w' hG => h H' O' M' fix mst w' (k _ hG)
theorem Av {K : PySem.W.Frag} {t : TE} {a : AE} (h : zN t a) : ZH (iLT K t) (aiS a) := ⟨fun w e q k => h.go w e q fun x M1 v H1 O1 ⟨l, hl, q1⟩ k1 w1 r1 => by
 rcases qW hl with hl' | ⟨m, rfl, rfl⟩
 ·obtain ⟨a, xs, rfl, h1, _⟩ := qj w1 r1 hl'
  refine ⟨a, rfl, .inl ⟨⟨xs, SqL.of h1⟩, k _ _ _ _ _ _ q1 k1 w1 ((Kh r1 hl').mono fun M hM => ?_)⟩⟩
  rcases qW hM with z | ⟨m, rfl, rfl⟩
  ·exact z
  ·cases hl'
 ·obtain ⟨a, xs, rfl, h1, _⟩ := jU (l := m.map .d) r1 rfl
  exact ⟨a, rfl, .inr ⟨⟨xs, SqT.of h1⟩, k _ _ _ _ _ _ q1 k1 w1 ((YV r1 rfl).mono fun _ _ => trivial)⟩⟩⟩
noncomputable def wI (lo c : Int) (n : Nat) : List AV := (List.range n).map fun (k : Nat) => .d (.int (lo + (k : Int) * c))
theorem kF (lo c : Int) (n : Nat) : (wI lo c n).length = n := by simp [wI]
theorem j9 {lo c : Int} {n i : Nat} {y : AV} (h : (wI lo c n)[i]? = some y) : i < n /\ y = .d (.int (lo + (i : Int) * c)) := by
 have hi := (List.getElem?_eq_some_iff.mp h).1
 rw [kF] at hi
 unfold wI at h
 rw [List.getElem?_map, List.getElem?_range hi] at h
 cases h
 exact ⟨hi, rfl⟩
theorem KI {H : Hp} {O : Own} {M : MH} (lo : Int) (n : Nat) : yi (Itr lo n) H O M (wI lo 1 n) (fun _ => True) := by
 intro H' O' M' fix mst w' hG i
 refine ⟨fun e => by rw [kF] at e; exact Nat.le_of_eq e.symm, fun y hy => ?_⟩
 obtain ⟨hi, rfl⟩ := j9 hy
 refine ⟨hi, fun z H'' hz => ?_⟩
 obtain ⟨rfl, rfl⟩ := hz
 rw [Int.mul_one]
 exact ⟨.refl, w', .int⟩
noncomputable def Ec (a : AA) : AI := fun ρ M R => a ρ M fun xs M1 => ∃ j : Int, xs = [.d (.int j)] /\ -(2 ^ 62) <= j /\ j < 2 ^ 62 /\ R (wI 0 1 j.toNat) (fun _ => True) M1
theorem Vs {t : TA} {a : AA} (h : jg t a) : ZH (YI t) (Ec a) := ⟨fun w e q k => h.go w e q fun x M1 v H1 O1 ⟨j, e1, j1, j2, q1⟩ k1 w1 r1 => by
 subst e1
 obtain ⟨v1, r', rfl, a1, r2⟩ := r1.cons_inv
 rw [r2.nil_inv, zH a1]
 exact ⟨j, rfl, j1, j2, k _ _ _ _ _ _ q1 k1 w1 (KI _ _)⟩⟩
noncomputable def ya (m : List Dat) : List AV := (List.range m.length).map fun (i : Nat) => .d (.tup [.int (i : Int), m.getD i .non])
theorem jK (m : List Dat) : (ya m).length = m.length := by simp [ya]
theorem kQ {m : List Dat} {i : Nat} {y : AV} (h : (ya m)[i]? = some y) : ∃ d, m[i]? = some d /\ y = .d (.tup [.int (i : Int), d]) := by
 have hi := (List.getElem?_eq_some_iff.mp h).1
 rw [jK] at hi
 unfold ya at h
 rw [List.getElem?_map, List.getElem?_range hi] at h
 cases h
 exact ⟨m[i], List.getElem?_eq_getElem hi, by dsimp only; rw [List.getD_eq_getElem?_getD, List.getElem?_eq_getElem hi]; rfl⟩
theorem Zv {H : Hp} {O : Own} {M : MH} (w : Wf H O M) {p : Addr} (hp : H p = none) {x y : V} {d e : Dat} (r1 : Rep H O x d) (r2 : Rep H O y e) : Ext H O M (upd H p (.tup [x, y])) O M /\ Wf (upd H p (.tup [x, y])) O M /\ zo (upd H p (.tup [x, y])) O M (.ref p) (.d (.tup [d, e])) :=
 ⟨qN w hp _, vR w hp _, Rep.tup (w.fresh hp).1 zf rfl fun i z f h1 h2 => by
  match i, h1, h2 with
  | 0, h1, h2 => cases h1; cases h2; exact r1.ext (qN w hp _)
  | 1, h1, h2 => cases h1; cases h2; exact r2.ext (qN w hp _)
  | (i + 2), h1, _ => cases h1⟩
theorem JS {K : PySem.W.Frag} {H : Hp} {O : Own} {M : MH} {a : Addr} {x : AV} {m : List Dat} (r : zo H O M (.ref a) x) (h : qB x M = some (m.map .d)) : yi (Ite K a) H O M (ya m) (fun M' => qB x M' = some (m.map .d)) := by
 intro H' O' M' fix mst w' hG i
 obtain ⟨a', xs, e, h1, r1⟩ := qj w' (r.imp fix mst) hG
 cases e
 have l1 := r1.1
 rw [List.length_map] at l1
 refine ⟨fun e => ⟨xs, SqL.of h1, by rw [jK] at e; omega⟩, fun y hy => ?_⟩
 obtain ⟨d, hd, rfl⟩ := kQ hy
 obtain ⟨v, hv, rv⟩ := r1.get (i := i) (d := .d d) (by rw [List.getElem?_map, hd]; rfl)
 refine ⟨⟨xs, v, SqL.of h1, hv⟩, fun z H'' hz => ?_⟩
 obtain ⟨p, x', hp, rfl, e2, rfl⟩ := hz
 have := e2 xs (SqL.of h1)
 rw [hv] at this; cases this
 exact Zv w' hp .int rv
theorem ZN {K : PySem.W.Frag} {H : Hp} {O : Own} {M : MH} {a : Addr} {m : List Dat} (r : zo H O M (.ref a) (.d (.tup m))) : yi (BV K a) H O M (ya m) (fun _ => True) := by
 intro H' O' M' fix mst w' hG i
 obtain ⟨a', xs, e, h1, r1⟩ := jU (l := m.map .d) (r.imp fix mst) rfl
 cases e
 have l1 := r1.1
 rw [List.length_map] at l1
 refine ⟨fun e => ⟨xs, SqT.of h1, by rw [jK] at e; omega⟩, fun y hy => ?_⟩
 obtain ⟨d, hd, rfl⟩ := kQ hy
 obtain ⟨v, hv, rv⟩ := r1.get (i := i) (d := .d d) (by rw [List.getElem?_map, hd]; rfl)
 refine ⟨⟨xs, v, SqT.of h1, hv⟩, fun z H'' hz => ?_⟩
 obtain ⟨p, x', hp, rfl, e2, rfl⟩ := hz
 have := e2 xs (SqT.of h1)
 rw [hv] at this; cases this
 exact Zv w' hp .int rv
noncomputable def aiE (a : AA) : AI := fun ρ M R => a ρ M fun xs M1 => ∃ x l m, xs = [x] /\ qS x M1 = some l /\ pur l = some m /\ R (ya m) (fun M' => qS x M' = some l) M1
theorem ZY {x : AV} {M M' : MH} {l l' : List AV} (h : qB x M = some l) (h' : qS x M' = some l') : qB x M' = some l' := by
 rcases qW h' with z | ⟨m, rfl, rfl⟩
 ·exact z
 ·cases h
theorem Bl {K : PySem.W.Frag} {t : TA} {a : AA} (h : jg t a) : ZH (vt K t) (aiE a) := ⟨fun w e q k => h.go w e q fun xs M1 v H1 O1 ⟨x, l, m, e1, hl, hm, q1⟩ k1 w1 r1 => by
 subst e1
 obtain ⟨v1, r', rfl, a1, r2⟩ := r1.cons_inv
 rw [r2.nil_inv]
 rw [ji hm] at hl q1
 rcases qW hl with hl' | ⟨m', rfl, e2⟩
 ·obtain ⟨a, xs, rfl, h1, _⟩ := qj w1 a1 hl'
  exact ⟨a, rfl, .inl ⟨⟨xs, SqL.of h1⟩, k _ _ _ _ _ _ q1 k1 w1 ((JS a1 hl').mono fun M hM => ZY hl' hM)⟩⟩
 ·obtain rfl : m = m' := by have := congrArg pur e2; rw [zZ, zZ] at this; cases this; rfl
  obtain ⟨a, xs, rfl, h1, _⟩ := jU (l := m.map .d) a1 rfl
  exact ⟨a, rfl, .inr ⟨⟨xs, SqT.of h1⟩, k _ _ _ _ _ _ q1 k1 w1 ((ZN a1).mono fun _ _ => trivial)⟩⟩⟩
structure xB (D : Addr) (H : Hp) (O : Own) (M : MH) (H' : Hp) (O' : Own) (M' : MH) : Prop where
 fix : ∀ a o, ¬ O a -> H a = some o -> H' a = some o /\ ¬ O' a
 prv : ∀ a, a ≠ D -> O a -> M a = none -> H' a = H a /\ O' a /\ M' a = none
 mst : ∀ a, M a ≠ none -> M' a ≠ none
theorem Ext.x {D : Addr} {H H' : Hp} {O O' : Own} {M M' : MH} (k : Ext H O M H' O' M') : xB D H O M H' O' M' := ⟨k.fix, fun a _ => k.prv a, k.mst⟩
theorem xB.trans {D : Addr} {H H1 H2 : Hp} {O O1 O2 : Own} {M M1 M2 : MH} (a : xB D H O M H1 O1 M1) (b : xB D H1 O1 M1 H2 O2 M2) : xB D H O M H2 O2 M2 :=
 ⟨fun x o h e => let ⟨e1, h1⟩ := a.fix x o h e; b.fix x o h1 e1, fun x hx h e => by
  obtain ⟨e1, h1, n1⟩ := a.prv x hx h e
  obtain ⟨e2, h2, n2⟩ := b.prv x hx h1 n1
  exact ⟨e2.trans e1, h2, n2⟩, fun x h => b.mst x (a.mst x h)⟩
theorem xB.set {D : Addr} {H : Hp} {O : Own} {M : MH} (hO : O D) (o : HO) : xB D H O M (upd H D o) O M := ⟨xF hO o, fun a ha h e => ⟨zh ha, h, e⟩, fun _ h => h⟩
theorem Er.imp {H H' : Hp} {O O' : Own} {M M' : MH} {σ : St} {ρ : ASt} (e : Er H O M σ ρ) (k : ∀ a o, ¬ O a -> H a = some o -> H' a = some o /\ ¬ O' a) (hm : ∀ a, M a ≠ none -> M' a ≠ none) : Er H' O' M' σ ρ := ⟨e.len, fun i x h => let ⟨v, h1, h2⟩ := e.get i x h; ⟨v, h1, h2.imp k hm⟩⟩
noncomputable abbrev ATR := List AV -> ASt -> MH -> (List AV -> ASt -> MH -> Prop) -> Prop
structure Jd (D : Addr) (tr : TR) (a : ATR) : Prop where
 go : ∀ {σ : St} {H : Hp} {O : Own} {ρ : ASt} {M : MH} {acc : List AV} {ys : List V} {N : St -> Hp -> Prop} {N' : List AV -> ASt -> MH -> Prop}, Wf H O M -> Er H O M σ ρ -> O D -> M D = none -> H D = some (.lst ys) -> zg H O M ys acc -> a acc ρ M N' ->
  (∀ acc' ρ' M' σ' H' O' ys', N' acc' ρ' M' -> xB D H O M H' O' M' -> Wf H' O' M' -> Er H' O' M' σ' ρ' -> O' D -> M' D = none -> H' D = some (.lst ys') -> zg H' O' M' ys' acc' -> N σ' H') -> tr σ H N
noncomputable def yW (a : AE) : ATR := fun acc ρ M N => a ρ M fun x M1 => acc.length < sizeLine /\ N (acc ++ [x]) ρ M1
theorem Zq {D : Addr} {t : TE} {a : AE} (h : zN t a) : Jd D (ZT t D) (yW a) := ⟨fun {σ H O ρ M acc ys N N'} w e o m hd r q k => h.go w e q fun x M1 v H1 O1 ⟨q0, q1⟩ k1 w1 r1 => by
 obtain ⟨e1, o1, m1⟩ := k1.prv D o m
 have r' := r.ext k1
 refine ⟨ys, e1.trans hd, by rw [r.1]; exact q0, k _ _ _ _ _ _ (ys ++ [v]) q1 (k1.x.trans (xB.set o1 _)) (ZM w1 o1 m1 (e1.trans hd) _ (fun _ z => nomatch z)) ((e.ext k1).imp (xF o1 _) (fun _ z => z)) o1 m1 zf ((r'.snoc r1).imp (xF o1 _) (fun _ z => z))⟩⟩
noncomputable def K7 (ag : AG) (at_ : AT) (tr : ATR) (G : MH -> Prop) (N : List AV -> ASt -> MH -> Prop) (l acc : List AV) (ρ : ASt) (M : MH) : Prop :=
 ∃ Pv : Nat -> List AV -> ASt -> MH -> Prop, Pv 0 acc ρ M /\ (∀ i x acc ρ M, l[i]? = some x -> Pv i acc ρ M -> G M /\ ag x ρ M fun ρ2 M2 => at_ ρ2 M2 fun b M3 => if b = true then tr acc ρ2 M3 (Pv (i + 1)) else Pv (i + 1) acc ρ2 M3) /\ ∀ acc ρ M, Pv l.length acc ρ M -> G M /\ N acc ρ M
theorem BZ {D : Addr} {g : TG} {tt : TT} {tr : TR} {ag : AG} {at_ : AT} {atr : ATR} (hg : yC g ag) (ht : xg tt at_) (hr : Jd D tr atr) {J : It} {H1 : Hp} {O1 : Own} {M1 : MH} {l : List AV} {G : MH -> Prop} (hj : yi J H1 O1 M1 l G) {N' : List AV -> ASt -> MH -> Prop} {N : St -> Hp -> Prop}
  {σ : St} {ρ : ASt} {acc : List AV} {ys : List V} (w : Wf H1 O1 M1) (e : Er H1 O1 M1 σ ρ) (o : O1 D) (m : M1 D = none) (hd : H1 D = some (.lst ys)) (r : zg H1 O1 M1 ys acc) (q : K7 ag at_ atr G N' l acc ρ M1)
  (k : ∀ acc' ρ' M' σ' H' O' ys', N' acc' ρ' M' -> xB D H1 O1 M1 H' O' M' -> Wf H' O' M' -> Er H' O' M' σ' ρ' -> O' D -> M' D = none -> H' D = some (.lst ys') -> zg H' O' M' ys' acc' -> N σ' H') : CL J g tt tr N σ H1 := by
 obtain ⟨Pv, p0, ps, pd⟩ := q
 refine ⟨fun i n σ H => n = l.length - i /\ i <= l.length /\ ∃ O ρ M acc ys, Wf H O M /\ Er H O M σ ρ /\ xB D H1 O1 M1 H O M /\ O D /\ M D = none /\ H D = some (.lst ys) /\ zg H O M ys acc /\ Pv i acc ρ M,
  ⟨l.length, by simp, Nat.zero_le _, O1, ρ, M1, acc, ys, w, e, Ext.refl.x, o, m, hd, r, p0⟩, ?_⟩
 rintro i n σ H ⟨rfl, hi, O, ρ, M, acc, ys, w, e, x, o, m, hd, r, hf⟩
 by_cases hil : i < l.length
 ·have hy : l[i]? = some l[i] := List.getElem?_eq_getElem hil
  obtain ⟨hG, q2⟩ := ps i l[i] acc ρ M hy hf
  obtain ⟨j1, j2⟩ := (hj H O M x.fix x.mst w hG i).2 l[i] hy
  refine .inr ⟨j1, fun σ' H' => ∃ O ρ M acc ys, Wf H' O M /\ Er H' O M σ' ρ /\ xB D H1 O1 M1 H' O M /\ O D /\ M D = none /\ H' D = some (.lst ys) /\ zg H' O M ys acc /\ Pv (i + 1) acc ρ M, fun σ' H' z => ⟨l.length - (i + 1), by omega, rfl, hil, z⟩, fun v H' hv => ?_⟩
  obtain ⟨k2, w2, r2⟩ := j2 v H' hv
  refine hg.go w2 (e.ext k2) r2 q2 fun σ3 H3 O3 ρ3 M3 q3 k3 w3 e3 => ?_
  refine ht.go w3 e3 q3 fun b M4 H4 O4 q4 k4 w4 => ?_
  have k24 := (k2.trans k3).trans k4
  obtain ⟨d4, o4, m4⟩ := k24.prv D o m
  have r4 := r.ext k24
  cases b with
  | true =>
   exact hr.go w4 (e3.ext k4) o4 m4 (d4.trans hd) r4 q4 fun acc' ρ' M' σ' H' O' ys' q5 k5 w5 e5 o5 m5 d5 r5 => ⟨O', ρ', M', acc', ys', w5, e5, (x.trans k24.x).trans k5, o5, m5, d5, r5, q5⟩
  | false =>
   exact ⟨O4, ρ3, M4, acc, ys, w4, e3.ext k4, x.trans k24.x, o4, m4, d4.trans hd, r4, q4⟩
 ·have e0 : i = l.length := by omega
  subst e0
  obtain ⟨hG, q2⟩ := pd acc ρ M hf
  exact .inl ⟨(hj H O M x.fix x.mst w hG l.length).1 rfl, k _ _ _ _ _ _ _ q2 x w e o m hd r⟩
noncomputable def K0 (ts : List Nat) (ai : AI) (ag : AG) (at_ : AT) (atr : ATR) : AF := fun ρ M Q => ai ρ M fun l G M1 => K7 ag at_ atr G (fun acc _ M' => Q acc M') l [] (V3 ts ρ) M1
theorem Z9 {ts : List Nat} {wi : TI} {g : TG} {tt : TT} {tr : Addr -> TR} {ai : AI} {ag : AG} {at_ : AT} {atr : ATR} (hi : ZH wi ai) (hg : yC g ag) (ht : xg tt at_) (hr : ∀ D, Jd D (tr D) atr) : wY (Y0 ts wi g tt tr) (K0 ts ai ag at_ atr) := ⟨fun {σ H O ρ M Q Q'} w e q k => by
 refine hi.go w e q fun l G M1 J H1 O1 q1 k1 w1 hj D hD => ?_
 have kp := qC w1 hD (.lst [])
 have hj' : yi J (upd H1 D (.lst [])) (yo O1 D) M1 l G := fun H' O' M' fix mst w' hG => hj H' O' M' (fun a o ha ho => fix a o (kp.fix a o ha ho).2 (kp.fix a o ha ho).1) mst w' hG
 refine BZ hg ht (hr D) hj' (xY w1 hD _ (fun _ z => nomatch z)) (((e.ext k1).clr ts).ext kp) (.inl rfl) (w1.fresh hD).2 zf .nil q1 fun acc' ρ' M' σ' H' O' ys' q5 k5 w5 e5 o5 m5 d5 r5 => ?_
 have hH := j8 w1 k1 hD
 refine k _ _ _ _ _ _ q5 ⟨fun a o ha ho => ?_, fun a ha hm => ?_, fun a hm => k5.mst a (k1.mst a hm)⟩ w5 o5 m5 hH d5 r5
 ·obtain ⟨x1, x2⟩ := (k1.trans kp).fix a o ha ho
  exact k5.fix a o x2 x1
 ·obtain ⟨x1, x2, x3⟩ := (k1.trans kp).prv a ha hm
  obtain ⟨y1, y2, y3⟩ := k5.prv a (fun z => w.ne a ha (by rw [z]; exact hH)) x2 x3
  exact ⟨y1.trans x1, y2, y3⟩⟩
theorem JB {ts : List Nat} {wi : TI} {g : TG} {tt : TT} {te : TE} {ai : AI} {ag : AG} {at_ : AT} {ae : AE} (hi : ZH wi ai) (hg : yC g ag) (ht : xg tt at_) (he : zN te ae) : wY (wo ts wi g tt te) (K0 ts ai ag at_ (yW ae)) :=
 ⟨fun w e q k => (Z9 (ts := ts) (tr := ZT te) hi hg ht fun D => Zq he).go w e q k⟩
end L2
set_option Elab.async false
set_option linter.all false
set_option maxRecDepth 100000
set_option maxHeartbeats 4000000
namespace L2
open PySem PySem.Spec PyProof.Rows
noncomputable def aI (C : Int -> Int -> Prop) (g : Int -> Int -> Dat) : AR2 := fun x y M Q => ∃ i j, x = .d (.int i) /\ y = .d (.int j) /\ C i j /\ Q (.d (g i j)) M
noncomputable def aI0 (g : Int -> Int -> Dat) : AR2 := fun x y M Q => ∃ i j, x = .d (.int i) /\ y = .d (.int j) /\ Q (.d (g i j)) M
theorem Dq {C : Int -> Int -> Prop} {f : Int -> Int -> Int} : vX (rI C fun i j => .int (f i j)) (aI C fun i j => .int (f i j)) := ⟨fun w r1 r2 ⟨i, j, e1, e2, c, q⟩ k => by
 subst e1 e2; exact ⟨i, j, zH r1, zH r2, c, k _ _ _ _ _ q .refl w .int⟩⟩
theorem Wz {f : Int -> Int -> Int} : vX (rI0 fun i j => .int (f i j)) (aI0 fun i j => .int (f i j)) := ⟨fun w r1 r2 ⟨i, j, e1, e2, q⟩ k => by
 subst e1 e2; exact ⟨i, j, zH r1, zH r2, k _ _ _ _ _ q .refl w .int⟩⟩
theorem YS {f : Int -> Int -> Bool} : vX (rI0 fun i j => .bl (f i j)) (aI0 fun i j => .bl (f i j)) := ⟨fun w r1 r2 ⟨i, j, e1, e2, q⟩ k => by
 subst e1 e2; exact ⟨i, j, zH r1, zH r2, k _ _ _ _ _ q .refl w .bl⟩⟩
noncomputable def aU (g : Int -> Dat) : AV -> MH -> AK -> Prop := fun x M Q => ∃ i, x = .d (.int i) /\ Q (.d (g i)) M
theorem BK {f : Int -> Int} : DT (rU fun i => .int (f i)) (aU fun i => .int (f i)) := ⟨fun w r1 ⟨i, e1, q⟩ k => by
 subst e1; exact ⟨i, zH r1, k _ _ _ _ _ q .refl w .int⟩⟩
noncomputable def eqS : Dat -> Dat -> Option Bool
 | .non, .non => some true | .non, .int _ => some false | .int _, .non => some false | .non, .bl _ => some false | .bl _, .non => some false | .non, .str _ => some false | .str _, .non => some false
 | .int i, .int j => some (decide (i = j)) | .bl a, .bl b => some (decide (a = b)) | .str a, .str b => some (decide (a = b))
 | .int _, .str _ => some false | .str _, .int _ => some false | .bl _, .str _ => some false | .str _, .bl _ => some false
 | _, _ => none
noncomputable def xm : AV -> Bool
 | .d .non => true
 | _ => false
theorem We {H : Hp} {O : Own} {M : MH} {xs : List V} {l : List AV} (r : zg H O M xs l) {i : Int} {x : AV} (h : atI l i = some x) : ∃ v, atI xs i = some v /\ zo H O M v x := by
 unfold atI at h ⊢
 rw [r.1]
 cases e : ixN l.length i with
 | none => rw [e] at h; cases h
 | some j => rw [e] at h; exact r.get h
noncomputable def aIx (s : AV -> MH -> Option (List AV)) : AR2 := fun x y M Q => ∃ l i z, s x M = some l /\ y = .d (.int i) /\ atI l i = some z /\ Q z M
theorem YY {K : PySem.W.Frag} : vX (Qs K) (aIx qS) := ⟨fun w r1 r2 ⟨l, i, z, h, e, hz, q⟩ k => by
 subst e
 obtain ⟨a, xs, rfl, h1, r⟩ := Qi w r1 h
 obtain ⟨v, hv, rv⟩ := We r hz
 exact ⟨a, xs, i, v, rfl, zH r2, h1.elim (fun h => .inl (SqL.of h)) (fun h => .inr (SqT.of h)), hv, k _ _ _ _ _ q .refl w rv⟩⟩
structure Ks (r : R2) (a : AV -> AV -> MH -> (List AV -> Prop) -> Prop) : Prop where
 go : ∀ {x y : V} {dx dy : AV} {H : Hp} {O : Own} {M : MH} {Q : VK} {Q' : List AV -> Prop}, Wf H O M -> zo H O M x dx -> zo H O M y dy -> a dx dy M Q' -> (∀ l ys, Q' l -> zg H O M ys l -> ∀ p, H p = none -> Q (.ref p) (upd H p (.lst ys))) -> r x y H Q
noncomputable def fOp (r : AV -> AV -> MH -> (List AV -> Prop) -> Prop) (a b : AE) : AF := fun ρ M Q => a ρ M fun x M1 => b ρ M1 fun y M2 => r x y M2 fun l => Q l M2
theorem Qq {r : R2} {ra : AV -> AV -> MH -> (List AV -> Prop) -> Prop} {t u : TE} {a b : AE} (hr : Ks r ra) (h1 : zN t a) (h2 : zN u b) : wY (tOp r t u) (fOp ra a b) :=
 ⟨fun w e q k => h1.go w e q fun x M1 v H1 O1 q1 k1 w1 r1 => h2.go w1 (e.ext k1) q1 fun y M2 u H2 O2 q2 k2 w2 r2 => hr.go w2 (r1.ext k2) r2 q2 fun l ys q3 r3 p hp =>
  k l M2 p ys _ _ q3 ((k1.trans k2).trans (qC w2 hp _)) (xY w2 hp _ (fun _ z => nomatch z)) (.inl rfl) (w2.fresh hp).2 (j8 w2 (k1.trans k2) hp) zf (r3.ext (qC w2 hp _))⟩
noncomputable def BU : AV -> AV -> MH -> (List AV -> Prop) -> Prop := fun x y M Q => ∃ l m, qB x M = some l /\ qB y M = some m /\ l.length + m.length <= sizeLine /\ Q (l ++ m)
theorem wj : Ks Vu BU := ⟨fun w r1 r2 ⟨l, m, h1, h2, hs, q⟩ k => by
 obtain ⟨a, xs, rfl, e1, p1⟩ := qj w r1 h1
 obtain ⟨b, ys, rfl, e2, p2⟩ := qj w r2 h2
 exact ⟨a, b, xs, ys, rfl, rfl, e1, e2, by rw [p1.1, p2.1]; exact hs, k _ _ q (p1.append p2)⟩⟩
theorem zg.rep {H : Hp} {O : Own} {M : MH} {xs : List V} {l : List AV} (a : zg H O M xs l) : ∀ k : Nat, zg H O M (List.replicate k xs).flatten (List.replicate k l).flatten
 | 0 => .nil
 | k + 1 => by rw [List.replicate_succ, List.replicate_succ, List.flatten_cons, List.flatten_cons]; exact a.append (zg.rep a k)
noncomputable def D1 : AV -> AV -> MH -> (List AV -> Prop) -> Prop := fun x y M Q => ∃ l k, qB x M = some l /\ y = .d (.int k) /\ -(2 ^ 63) <= k /\ k < 2 ^ 63 /\ l.length * k.toNat <= sizeLine /\ Q (List.replicate k.toNat l).flatten
theorem Xr : Ks Bh D1 := ⟨fun w r1 r2 ⟨l, n, h1, e, b1, b2, hs, q⟩ k => by
 subst e
 obtain ⟨a, xs, rfl, e1, p1⟩ := qj w r1 h1
 exact ⟨a, n, xs, rfl, zH r2, e1, b1, b2, by rw [p1.1]; exact hs, k _ _ q (p1.rep _)⟩⟩
noncomputable abbrev AO := ASt -> MH -> (Option Int -> MH -> Prop) -> Prop
structure VF (t : TO) (a : AO) : Prop where
 go : ∀ {σ : St} {H : Hp} {O : Own} {ρ : ASt} {M : MH} {Q : Option Int -> Hp -> Prop} {Q' : Option Int -> MH -> Prop}, Wf H O M -> Er H O M σ ρ -> a ρ M Q' -> (∀ x M' H' O', Q' x M' -> Ext H O M H' O' M' -> Wf H' O' M' -> Q x H') -> t σ H Q
noncomputable def DU : AO := fun _ M Q => Q none M
noncomputable def Aa (a : AE) : AO := fun ρ M Q => a ρ M fun x M1 => ∃ i, x = .d (.int i) /\ Q (some i) M1
theorem Wd : VF vF DU := ⟨fun w _ q k => k _ _ _ _ q .refl w⟩
theorem K1 {t : TE} {a : AE} (h : zN t a) : VF (XR t) (Aa a) := ⟨fun w e q k => h.go w e q fun x M1 v H1 O1 ⟨i, e1, q1⟩ k1 w1 r1 => by
 subst e1; exact ⟨i, zH r1, k _ _ _ _ q1 k1 w1⟩⟩
noncomputable def xy {α : Type} (xs : List α) (lo hi : Option Int) : List α := (xs.drop (HT.sIx xs.length 0 lo)).take (HT.sIx xs.length xs.length hi - HT.sIx xs.length 0 lo)
theorem zg.cut {H : Hp} {O : Own} {M : MH} {xs : List V} {l : List AV} (a : zg H O M xs l) (lo hi : Option Int) : zg H O M (vv xs lo hi) (xy l lo hi) := by
 unfold vv xy
 rw [a.1]
 exact (a.drop _).take _
theorem wb {α β : Type} (f : α -> β) (l : List α) (lo hi : Option Int) : xy (l.map f) lo hi = (xy l lo hi).map f := by
 unfold xy
 rw [List.length_map, <- List.map_drop, <- List.map_take]
noncomputable def fSl (a : AE) (lo hi : AO) : AF := fun ρ M Q => a ρ M fun x M1 => lo ρ M1 fun i M2 => hi ρ M2 fun j M3 => ∃ l, qB x M3 = some l /\ Q (xy l i j) M3
theorem Wb {K : PySem.W.Frag} {t : TE} {tl th : TO} {a : AE} {lo hi : AO} (h1 : zN t a) (h2 : VF tl lo) (h3 : VF th hi) : wY (tSl (AX K) t tl th) (fSl a lo hi) :=
 ⟨fun w e q k => h1.go w e q fun x M1 v H1 O1 q1 k1 w1 r1 => h2.go w1 (e.ext k1) q1 fun i M2 H2 O2 q2 k2 w2 => h3.go w2 (e.ext (k1.trans k2)) q2 fun j M3 H3 O3 ⟨l, hl, q3⟩ k3 w3 => by
  obtain ⟨a, xs, rfl, e1, p1⟩ := qj w3 (r1.ext (k2.trans k3)) hl
  exact ⟨a, xs, rfl, SqL.of e1, fun p hp => k _ _ p _ _ _ q3 (((k1.trans k2).trans k3).trans (qC w3 hp _)) (xY w3 hp _ (fun _ z => nomatch z)) (.inl rfl) (w3.fresh hp).2 (j8 w3 ((k1.trans k2).trans k3) hp) zf ((p1.cut i j).ext (qC w3 hp _))⟩⟩
theorem Vt {H : Hp} {O : Own} {M : MH} (w : Wf H O M) {p : Addr} (hp : H p = none) {xs : List V} {l : List Dat} (r : zg H O M xs (l.map .d)) : zo (upd H p (.tup xs)) O M (.ref p) (.d (.tup l)) :=
 have r2 := r.pure
 Rep.tup (w.fresh hp).1 zf r2.1 fun i x d e1 e2 => (r2.2 i x d e1 e2).ext (qN w hp _)
theorem zg.reverse {H : Hp} {O : Own} {M : MH} {xs : List V} {l : List AV} (a : zg H O M xs l) : zg H O M xs.reverse l.reverse :=
 ⟨by rw [List.length_reverse, List.length_reverse, a.1], fun i x d h1 h2 => by
  have hi := (List.getElem?_eq_some_iff.mp h1).1
  rw [List.length_reverse] at hi
  rw [List.getElem?_reverse hi] at h1
  rw [List.getElem?_reverse (by rw [<- a.1]; exact hi), <- a.1] at h2
  exact a.2 _ x d h1 h2⟩
end L2
set_option Elab.async false
set_option linter.all false
set_option maxRecDepth 100000
set_option maxHeartbeats 4000000
namespace L2
open PySem PySem.Spec PyProof.Rows
mutual
noncomputable def eqD : Dat -> Dat -> Bool
 | .non, .non => true
 | .bl a, .bl b => a == b
 | .bl a, .int b => (if a then 1 else 0) == b
 | .int a, .bl b => a == (if b then 1 else 0)
 | .int a, .int b => a == b
 | .str a, .str b => a == b
 | .lst a, .lst b => xT a b
 | .tup a, .tup b => xT a b
 | _, _ => false
noncomputable def xT : List Dat -> List Dat -> Bool
 | [], [] => true
 | a :: r, b :: r' => eqD a b && xT r r'
 | _, _ => false
end
mutual
noncomputable def dp : Dat -> Nat
 | .lst l => dps l + 1
 | .tup l => dps l + 1
 | .rng _ _ _ => 1000
 | .scr _ _ => 1000
 | .ty _ => 1000
 | _ => 0
noncomputable def dps : List Dat -> Nat
 | [] => 0
 | a :: r => max (dp a) (dps r)
end
theorem Kv {l : List Dat} {n : Nat} (h : ∀ d ∈ l, dp d <= n) : dps l <= n := by
 induction l with
 | nil => exact Nat.zero_le _
 | cons a r ih => rw [dps]; exact Nat.max_le.mpr ⟨h a (by simp), ih fun d hd => h d (by simp [hd])⟩
theorem qb {l : List Dat} {d : Dat} (h : d ∈ l) : dp d <= dps l := by
 induction l with
 | nil => cases h
 | cons a r ih =>
  rw [dps]
  rcases List.mem_cons.mp h with rfl | h
  ·exact Nat.le_max_left _ _
  ·exact Nat.le_trans (ih h) (Nat.le_max_right _ _)
theorem jJ : ∀ (l m : List Dat), l.length = m.length -> xT l m = (List.range l.length).all fun j => eqD (l.getD j .non) (m.getD j .non)
 | [], [], _ => rfl
 | a :: r, b :: r', h => by
  rw [xT, jJ r r' (by simpa using h), List.length_cons, List.range_succ_eq_map, List.all_cons, List.all_map]; rfl
 | [], _ :: _, h => by simp at h
 | _ :: _, [], h => by simp at h
theorem jy : ∀ (l m : List Dat), l.length ≠ m.length -> xT l m = false
 | [], [], h => absurd rfl h
 | a :: r, b :: r', h => by rw [xT, jy r r' (fun z => h (by simp [z])), Bool.and_false]
 | [], _ :: _, h => by simp [xT]
 | _ :: _, [], h => by simp [xT]
theorem YM (l m : List Dat) : eqD (.lst l) (.tup m) = false := by simp [eqD]
theorem Xh (l m : List Dat) : eqD (.tup l) (.lst m) = false := by simp [eqD]
theorem Vh {p : Dat -> Prop} (h : ∀ a, (∀ b, dp b < dp a -> p b) -> p a) (a : Dat) : p a := by
 have : ∀ n a, dp a <= n -> p a := fun n => by
  induction n with
  | zero => intro a ha; exact h a fun b hb => absurd hb (by omega)
  | succ n ih => intro a ha; exact h a fun b hb => ih b (by omega)
 exact this (dp a) a (Nat.le_refl _)
theorem yU {l : List Dat} (h : ∀ d ∈ l, eqD d d = true) : xT l l = true := by
 induction l with
 | nil => rfl
 | cons a r ih => rw [xT, h a (by simp), ih fun d hd => h d (by simp [hd])]; rfl
theorem XX {a : Dat} : dp a < 1000 -> eqD a a = true := by
 refine Vh (p := fun a => dp a < 1000 -> eqD a a = true) (fun a ih ha => ?_) a
 cases a with
 | non => rfl
 | bl b => rw [eqD]; simp
 | int i => rw [eqD]; simp
 | str x => rw [eqD]; simp
 | lst l =>
  rw [eqD]
  rw [dp] at ha ih
  exact yU fun d hd => ih d (by have := qb hd; omega) (by have := qb hd; omega)
 | tup l =>
  rw [eqD]
  rw [dp] at ha ih
  exact yU fun d hd => ih d (by have := qb hd; omega) (by have := qb hd; omega)
 | rng a b c => rw [dp] at ha; omega
 | scr _ l => rw [dp] at ha; omega
 | ty l => rw [dp] at ha; omega
theorem Rep.fn {H : Hp} {O O' : Own} {v : V} {a b : Dat} (r : Rep H O v a) : Rep H O' v b -> dp a < 1000 -> dp b < 1000 -> a = b := by
 induction r generalizing b with
 | non => intro r' _ _; cases r'; rfl
 | bl => intro r' _ _; cases r'; rfl
 | int => intro r' _ _; cases r'; rfl
 | str => intro r' _ _; cases r'; rfl
 | ty => intro r' h _; rw [dp] at h; omega
 | rng _ _ => intro r' h _; rw [dp] at h; omega
 | scr _ _ => intro r' h _; rw [dp] at h; omega
 | scrK _ => intro r' h _; rw [dp] at h; omega
 | @lst a xs l o1 h1 l1 r1 ih =>
  intro r' ha hb
  cases r' with
  | @lst _ ys m o2 h2 l2 r2 =>
   rw [h1] at h2; cases h2
   congr 1
   refine List.ext_getElem (l1.symm.trans l2) fun i i1 i2 => ?_
   have i0 : i < xs.length := by omega
   rw [dp] at ha hb
   refine ih i xs[i] l[i] (by simp [i0]) (by simp [i1]) (r2 i xs[i] m[i] (by simp [i0]) (by simp [i2])) ?_ ?_
   ·have := qb (List.getElem_mem i1); omega
   ·have := qb (List.getElem_mem i2); omega
  | @tup _ ys m o2 h2 => rw [h1] at h2; cases h2
  | rng o2 h2 => rw [dp] at hb; omega
  | scr o2 h2 => rw [dp] at hb; omega
  | scrK _ => rw [dp] at hb; omega
 | @tup a xs l o1 h1 l1 r1 ih =>
  intro r' ha hb
  cases r' with
  | @tup _ ys m o2 h2 l2 r2 =>
   rw [h1] at h2; cases h2
   congr 1
   refine List.ext_getElem (l1.symm.trans l2) fun i i1 i2 => ?_
   have i0 : i < xs.length := by omega
   rw [dp] at ha hb
   refine ih i xs[i] l[i] (by simp [i0]) (by simp [i1]) (r2 i xs[i] m[i] (by simp [i0]) (by simp [i2])) ?_ ?_
   ·have := qb (List.getElem_mem i1); omega
   ·have := qb (List.getElem_mem i2); omega
  | @lst _ ys m o2 h2 => rw [h1] at h2; cases h2
  | rng o2 h2 => rw [dp] at hb; omega
  | scr o2 h2 => rw [dp] at hb; omega
  | scrK _ => rw [dp] at hb; omega
section
variable {X : Cx} {pins : List (Addr × Obj)} {s : Shared} {σ : St} {H : Hp}
theorem jG {xs : List V} {us : List Value} (r : zr xs us) {j : Nat} (h : j < us.toArray.size) : ∃ x, xs[j]? = some x /\ zt x us.toArray[j] := by
 have h' : j < us.length := by simpa using h
 have hx : j < xs.length := by rw [r.length]; exact h'
 obtain ⟨u, hu, ru⟩ := r.get (i := j) (List.getElem?_eq_getElem hx)
 have e : us.toArray[j] = u := by
  have := (List.getElem?_eq_some_iff.mp hu).2
  simpa using this
 exact ⟨xs[j], List.getElem?_eq_getElem hx, by rw [e]; exact ru⟩
theorem XQ (I : Inv X pins σ H s) {A : Around} {p q : Addr} {O O' : Own} {a b : Dat} (ih : ∀ (c d : Dat) (v u : V) (v' u' : Value), dp c < dp a -> Rep H O v c -> Rep H O' u d -> dp d < 1000 -> zt v v' -> zt u u' -> SeqAt.EqAt A.in1 s v' u' (eqD c d))
    (ra : Rep H O (.ref p) a) (rb : Rep H O' (.ref q) b) (ha : dp a < 1000) (hb : dp b < 1000) (hu : A.units < cLine) : SeqAt.RcAt A s (.ref p) (.ref q) (eqD a b) := by
  cases ra with
  | @lst _ xs l o1 h1 l1 r1 =>
    obtain ⟨us, u1, p1, z1⟩ := I.list (SqL.of h1)
    cases rb with
    | @lst _ ys m o2 h2 l2 r2 =>
      obtain ⟨ws, u2, p2, z2⟩ := I.list (SqL.of h2)
      have s1 : us.toArray.size = l.length := by rw [List.size_toArray, <- u1.length, l1]
      have s2 : ws.toArray.size = m.length := by rw [List.size_toArray, <- u2.length, l2]
      by_cases e : l.length = m.length
      · have h := SeqAt.RcAt.lists (A := A) (e := fun j => eqD (l.getD j .non) (m.getD j .non)) p1.isList p2.isList (by rw [s1, s2, e]) hu (fun j j1 j2 => by
          obtain ⟨x, hx, rx⟩ := jG u1 j1
          obtain ⟨y, hy, ry⟩ := jG u2 j2
          have k1 : j < l.length := by rw [<- s1]; exact j1
          have k2 : j < m.length := by rw [<- s2]; exact j2
          rw [dp] at ha hb ih
          refine ih _ _ x y _ _ ?_ (r1 j x _ hx ?_) (r2 j y _ hy ?_) ?_ rx ry
          · rw [List.getD_eq_getElem?_getD, List.getElem?_eq_getElem k1]
            have := qb (List.getElem_mem k1); show dp l[j] < _; omega
          · rw [List.getD_eq_getElem?_getD, List.getElem?_eq_getElem k1]; rfl
          · rw [List.getD_eq_getElem?_getD, List.getElem?_eq_getElem k2]; rfl
          · rw [List.getD_eq_getElem?_getD, List.getElem?_eq_getElem k2]
            have := qb (List.getElem_mem k2); show dp m[j] < _; omega)
        rw [s1, <- jJ l m e] at h
        rw [eqD]; exact h
      · rw [eqD, jy l m e]
        exact SeqAt.RcAt.lists_lengths p1.isList p2.isList (by rw [s1, s2]; simpa using e) hu
    | @tup _ ys m o2 h2 l2 r2 =>
      obtain ⟨ws, u2, p2, z2⟩ := I.tuple (SqT.of h2)
      rw [YM]
      exact SeqAt.RcAt.list_tuple p1.isList p2 hu
    | rng o2 h2 => rw [dp] at hb; omega
    | scr o2 h2 => rw [dp] at hb; omega
    | scrK _ => rw [dp] at hb; omega
  | @tup _ xs l o1 h1 l1 r1 =>
    obtain ⟨us, u1, p1, z1⟩ := I.tuple (SqT.of h1)
    cases rb with
    | @tup _ ys m o2 h2 l2 r2 =>
      obtain ⟨ws, u2, p2, z2⟩ := I.tuple (SqT.of h2)
      have s1 : us.toArray.size = l.length := by rw [List.size_toArray, <- u1.length, l1]
      have s2 : ws.toArray.size = m.length := by rw [List.size_toArray, <- u2.length, l2]
      have h := SeqAt.RcAt.tuples (A := A) (e := fun j => eqD (l.getD j .non) (m.getD j .non)) (show s.heap.IsTuple p us.toArray from p1) (show s.heap.IsTuple q ws.toArray from p2) hu (fun j j1 j2 => by
          obtain ⟨x, hx, rx⟩ := jG u1 j1
          obtain ⟨y, hy, ry⟩ := jG u2 j2
          have k1 : j < l.length := by rw [<- s1]; exact j1
          have k2 : j < m.length := by rw [<- s2]; exact j2
          rw [dp] at ha hb ih
          refine ih _ _ x y _ _ ?_ (r1 j x _ hx ?_) (r2 j y _ hy ?_) ?_ rx ry
          · rw [List.getD_eq_getElem?_getD, List.getElem?_eq_getElem k1]
            have := qb (List.getElem_mem k1); show dp l[j] < _; omega
          · rw [List.getD_eq_getElem?_getD, List.getElem?_eq_getElem k1]; rfl
          · rw [List.getD_eq_getElem?_getD, List.getElem?_eq_getElem k2]; rfl
          · rw [List.getD_eq_getElem?_getD, List.getElem?_eq_getElem k2]
            have := qb (List.getElem_mem k2); show dp m[j] < _; omega)
      rw [s1, s2] at h
      rw [eqD]
      by_cases e : l.length = m.length
      · rw [<- e, Nat.min_self, beq_self_eq_true, Bool.and_true, <- jJ l m e] at h
        exact h
      · rw [jy l m e]
        rw [show (l.length == m.length) = false by simpa using e, Bool.and_false] at h
        exact h
    | @lst _ ys m o2 h2 l2 r2 =>
      obtain ⟨ws, u2, p2, z2⟩ := I.list (SqL.of h2)
      rw [Xh]
      exact SeqAt.RcAt.tuple_list p1 p2.isList hu
    | rng o2 h2 => rw [dp] at hb; omega
    | scr o2 h2 => rw [dp] at hb; omega
    | scrK _ => rw [dp] at hb; omega
  | rng o2 h2 => rw [dp] at ha; omega
  | scr o2 h2 => rw [dp] at ha; omega
  | scrK _ => rw [dp] at ha; omega
theorem Ez (I : Inv X pins σ H s) {a : Addr} {xs : List V} (h : H a = some (.lst xs)) : ∃ us, s.heap.IsList a us := let ⟨_, _, p, _⟩ := I.list (SqL.of h); ⟨_, p.isList⟩
theorem EB (I : Inv X pins σ H s) {a : Addr} {xs : List V} (h : H a = some (.tup xs)) : ∃ us, s.heap.IsTuple a us := let ⟨_, _, p, _⟩ := I.tuple (SqT.of h); ⟨_, p⟩
local macro_rules | `(tactic| walk_at "sc") => `(tactic| first
 | with_reducible exact .same _ | with_reducible exact .none_none | with_reducible exact .none_bool _ | with_reducible exact .none_int _ _ | with_reducible exact .none_str _ _ | with_reducible exact .bool_none _ | with_reducible exact .bool_bool _ _ | with_reducible exact .bool_int _ _ _ | with_reducible exact .bool_str _ _ _ | with_reducible exact .int_none _ _ | with_reducible exact .int_bool _ _ _ | with_reducible exact .int_int _ _ _ _ | with_reducible exact .int_str _ _ _ _ | with_reducible exact .str_none _ _ | with_reducible exact .str_bool _ _ _ | with_reducible exact .str_int _ _ _ _ | with_reducible exact .str_str _ _ _ _)
theorem ls_ (I : Inv X pins σ H s) {a : Addr} {xs : List V} (h : H a = some (.lst xs)) : s.heap.IsList a (Classical.choose (Ez I h)) := Classical.choose_spec _
theorem ts_ (I : Inv X pins σ H s) {a : Addr} {xs : List V} (h : H a = some (.tup xs)) : s.heap.IsTuple a (Classical.choose (EB I h)) := Classical.choose_spec _
local macro_rules | `(tactic| walk_at "sq") => `(tactic| first
 | with_reducible exact .none_list (ls_ (by assumption) (by assumption)) (by assumption) | with_reducible exact .bool_list _ (ls_ (by assumption) (by assumption)) (by assumption) | with_reducible exact .int_list _ _ (ls_ (by assumption) (by assumption)) (by assumption) | with_reducible exact .str_list _ _ (ls_ (by assumption) (by assumption)) (by assumption) | with_reducible exact .list_none (ls_ (by assumption) (by assumption)) (by assumption) | with_reducible exact .list_bool _ (ls_ (by assumption) (by assumption)) (by assumption) | with_reducible exact .list_int _ _ (ls_ (by assumption) (by assumption)) (by assumption) | with_reducible exact .list_str _ _ (ls_ (by assumption) (by assumption)) (by assumption)
 | with_reducible exact .none_tuple (ts_ (by assumption) (by assumption)) (by assumption) | with_reducible exact .bool_tuple _ (ts_ (by assumption) (by assumption)) (by assumption) | with_reducible exact .int_tuple _ _ (ts_ (by assumption) (by assumption)) (by assumption) | with_reducible exact .str_tuple _ _ (ts_ (by assumption) (by assumption)) (by assumption) | with_reducible exact .tuple_none (ts_ (by assumption) (by assumption)) (by assumption) | with_reducible exact .tuple_bool _ (ts_ (by assumption) (by assumption)) (by assumption) | with_reducible exact .tuple_int _ _ (ts_ (by assumption) (by assumption)) (by assumption) | with_reducible exact .tuple_str _ _ (ts_ (by assumption) (by assumption)) (by assumption))
theorem Je (I : Inv X pins σ H s) {O O' : Own} (A : Around) (hu : A.units < cLine) (a b : Dat) (v u : V) (v' u' : Value) (ha : dp a < 1000) (ra : Rep H O v a) (rb : Rep H O' u b) (hb : dp b < 1000) (rv : zt v v') (ru : zt u u')
    (ih : ∀ (c d : Dat) (v u : V) (v' u' : Value), dp c < dp a -> Rep H O v c -> Rep H O' u d -> dp d < 1000 -> zt v v' -> zt u u' -> SeqAt.EqAt A.in1 s v' u' (eqD c d)) : SeqAt.EqAt A s v' u' (eqD a b) := by
  by_cases hr : ∃ p q, v = .ref p /\ u = .ref q
  · obtain ⟨p, q, rfl, rfl⟩ := hr
    cases rv
    cases ru
    by_cases e : p = q
    · subst e
      rw [<- ra.fn rb ha hb, XX ha]
      exact .same _
    · exact .of_refs e (XQ I ih ra rb ha hb hu)
  · cases ra <;> cases rb <;> first
      | with_reducible exact absurd ⟨_, _, rfl, rfl⟩ hr
      | (rw [dp] at ha; omega)
      | (rw [dp] at hb; omega)
      | ((first | (obtain ⟨t0, rfl⟩ := rv) | cases rv); (first | (obtain ⟨t1, rfl⟩ := ru) | cases ru); simp only [eqD, Bool.not_false, Bool.not_true]; first | walk_at "sc" | walk_at "sq")
theorem KZ (I : Inv X pins σ H s) {O O' : Own} : ∀ (n : Nat) (A : Around), A.units + n < cLine -> ∀ (a b : Dat) (v u : V) (v' u' : Value), dp a <= n -> n < 1000 -> Rep H O v a -> Rep H O' u b -> dp b < 1000 -> zt v v' -> zt u u' -> SeqAt.EqAt A s v' u' (eqD a b) := by
 intro n
 induction n with
 | zero =>
  intro A hu a b v u v' u' ha _ ra rb hb rv ru
  exact Je I A (by omega) a b v u v' u' (by omega) ra rb hb rv ru fun _ _ _ _ _ _ h => absurd h (by omega)
 | succ n ih =>
  intro A hu a b v u v' u' ha hn ra rb hb rv ru
  exact Je I A (by omega) a b v u v' u' (by omega) ra rb hb rv ru fun c d x y x' y' hc rc rd hd rx ry => ih A.in1 (by show A.units + 1 + n < _; omega) c d x y x' y' (by omega) (by omega) rc rd hd rx ry
noncomputable def Dr (f : Bool -> Bool) : R2 := fun x y H Q => ∃ O O' a b, Rep H O x a /\ Rep H O' y b /\ dp a <= 40 /\ dp b <= 40 /\ Q (.bl (f (eqD a b))) H
theorem AD (I : Inv X pins σ H s) {O O' : Own} (A : Around) (hu : A.units + 41 < cLine) (a b : Dat) (v u : V) (v' u' : Value) (ha : dp a <= 40) (ra : Rep H O v a) (rb : Rep H O' u b) (hb : dp b <= 40) (rv : zt v v') (ru : zt u u') : SeqAt.RcAt A s v' u' (eqD a b) := by
  have ih : ∀ (c d : Dat) (v u : V) (v' u' : Value), dp c < dp a -> Rep H O v c -> Rep H O' u d -> dp d < 1000 -> zt v v' -> zt u u' -> SeqAt.EqAt A.in1 s v' u' (eqD c d) := fun c d v u v' u' hc rc rd hd rv ru => KZ I 40 A.in1 (by show A.units + 1 + 40 < _; omega) c d v u v' u' (by omega) (by omega) rc rd hd rv ru
  replace hu : A.units < cLine := by omega
  by_cases hr : ∃ p q, v = .ref p /\ u = .ref q
  · obtain ⟨p, q, rfl, rfl⟩ := hr
    cases rv
    cases ru
    exact XQ I ih ra rb (by omega) (by omega) hu
  · cases ra <;> cases rb <;> first
      | with_reducible exact absurd ⟨_, _, rfl, rfl⟩ hr
      | (rw [dp] at ha; omega)
      | (rw [dp] at hb; omega)
      | ((first | (obtain ⟨t0, rfl⟩ := rv) | cases rv); (first | (obtain ⟨t1, rfl⟩ := ru) | cases ru); simp only [eqD, Bool.not_false, Bool.not_true]; first | walk_at "sc" | walk_at "sq")
theorem Xa (I : Inv X pins σ H s) {A : Around} {p q : Addr} {O O' : Own} {a b : Dat} (ih : ∀ (c d : Dat) (v u : V) (v' u' : Value), dp c < dp a -> Rep H O v c -> Rep H O' u d -> dp d < 1000 -> zt v v' -> zt u u' -> SeqAt.EqAt A.in1 s v' u' (eqD c d))
    (ra : Rep H O (.ref p) a) (rb : Rep H O' (.ref q) b) (ha : dp a < 1000) (hb : dp b < 1000) (hu : A.units < cLine) : SeqAt.RcNeAt A s (.ref p) (.ref q) (!(eqD a b)) := by
  cases ra with
  | @lst _ xs l o1 h1 l1 r1 =>
    obtain ⟨us, u1, p1, z1⟩ := I.list (SqL.of h1)
    cases rb with
    | @lst _ ys m o2 h2 l2 r2 =>
      obtain ⟨ws, u2, p2, z2⟩ := I.list (SqL.of h2)
      have s1 : us.toArray.size = l.length := by rw [List.size_toArray, <- u1.length, l1]
      have s2 : ws.toArray.size = m.length := by rw [List.size_toArray, <- u2.length, l2]
      by_cases e : l.length = m.length
      · have h := SeqAt.RcNeAt.lists (A := A) (e := fun j => eqD (l.getD j .non) (m.getD j .non)) p1.isList p2.isList (by rw [s1, s2, e]) hu (fun j j1 j2 => by
          obtain ⟨x, hx, rx⟩ := jG u1 j1
          obtain ⟨y, hy, ry⟩ := jG u2 j2
          have k1 : j < l.length := by rw [<- s1]; exact j1
          have k2 : j < m.length := by rw [<- s2]; exact j2
          rw [dp] at ha hb ih
          refine ih _ _ x y _ _ ?_ (r1 j x _ hx ?_) (r2 j y _ hy ?_) ?_ rx ry
          · rw [List.getD_eq_getElem?_getD, List.getElem?_eq_getElem k1]
            have := qb (List.getElem_mem k1); show dp l[j] < _; omega
          · rw [List.getD_eq_getElem?_getD, List.getElem?_eq_getElem k1]; rfl
          · rw [List.getD_eq_getElem?_getD, List.getElem?_eq_getElem k2]; rfl
          · rw [List.getD_eq_getElem?_getD, List.getElem?_eq_getElem k2]
            have := qb (List.getElem_mem k2); show dp m[j] < _; omega)
        rw [s1, <- jJ l m e] at h
        rw [eqD]; exact h
      · rw [eqD, jy l m e]
        exact SeqAt.RcNeAt.lists_lengths p1.isList p2.isList (by rw [s1, s2]; simpa using e) hu
    | @tup _ ys m o2 h2 l2 r2 =>
      obtain ⟨ws, u2, p2, z2⟩ := I.tuple (SqT.of h2)
      rw [YM]
      exact SeqAt.RcNeAt.list_tuple p1.isList p2 hu
    | rng o2 h2 => rw [dp] at hb; omega
    | scr o2 h2 => rw [dp] at hb; omega
    | scrK _ => rw [dp] at hb; omega
  | @tup _ xs l o1 h1 l1 r1 =>
    obtain ⟨us, u1, p1, z1⟩ := I.tuple (SqT.of h1)
    cases rb with
    | @tup _ ys m o2 h2 l2 r2 =>
      obtain ⟨ws, u2, p2, z2⟩ := I.tuple (SqT.of h2)
      have s1 : us.toArray.size = l.length := by rw [List.size_toArray, <- u1.length, l1]
      have s2 : ws.toArray.size = m.length := by rw [List.size_toArray, <- u2.length, l2]
      have h := SeqAt.RcNeAt.tuples (A := A) (e := fun j => eqD (l.getD j .non) (m.getD j .non)) (show s.heap.IsTuple p us.toArray from p1) (show s.heap.IsTuple q ws.toArray from p2) hu (fun j j1 j2 => by
          obtain ⟨x, hx, rx⟩ := jG u1 j1
          obtain ⟨y, hy, ry⟩ := jG u2 j2
          have k1 : j < l.length := by rw [<- s1]; exact j1
          have k2 : j < m.length := by rw [<- s2]; exact j2
          rw [dp] at ha hb ih
          refine ih _ _ x y _ _ ?_ (r1 j x _ hx ?_) (r2 j y _ hy ?_) ?_ rx ry
          · rw [List.getD_eq_getElem?_getD, List.getElem?_eq_getElem k1]
            have := qb (List.getElem_mem k1); show dp l[j] < _; omega
          · rw [List.getD_eq_getElem?_getD, List.getElem?_eq_getElem k1]; rfl
          · rw [List.getD_eq_getElem?_getD, List.getElem?_eq_getElem k2]; rfl
          · rw [List.getD_eq_getElem?_getD, List.getElem?_eq_getElem k2]
            have := qb (List.getElem_mem k2); show dp m[j] < _; omega)
      rw [s1, s2] at h
      rw [eqD]
      by_cases e : l.length = m.length
      · rw [<- e, Nat.min_self, beq_self_eq_true, Bool.and_true, <- jJ l m e] at h
        exact h
      · rw [jy l m e]
        rw [show (l.length == m.length) = false by simpa using e, Bool.and_false] at h
        exact h
    | @lst _ ys m o2 h2 l2 r2 =>
      obtain ⟨ws, u2, p2, z2⟩ := I.list (SqL.of h2)
      rw [Xh]
      exact SeqAt.RcNeAt.tuple_list p1 p2.isList hu
    | rng o2 h2 => rw [dp] at hb; omega
    | scr o2 h2 => rw [dp] at hb; omega
    | scrK _ => rw [dp] at hb; omega
  | rng o2 h2 => rw [dp] at ha; omega
  | scr o2 h2 => rw [dp] at ha; omega
  | scrK _ => rw [dp] at ha; omega
theorem XU (I : Inv X pins σ H s) {O O' : Own} (A : Around) (hu : A.units + 41 < cLine) (a b : Dat) (v u : V) (v' u' : Value) (ha : dp a <= 40) (ra : Rep H O v a) (rb : Rep H O' u b) (hb : dp b <= 40) (rv : zt v v') (ru : zt u u') : SeqAt.RcNeAt A s v' u' (!(eqD a b)) := by
  have ih : ∀ (c d : Dat) (v u : V) (v' u' : Value), dp c < dp a -> Rep H O v c -> Rep H O' u d -> dp d < 1000 -> zt v v' -> zt u u' -> SeqAt.EqAt A.in1 s v' u' (eqD c d) := fun c d v u v' u' hc rc rd hd rv ru => KZ I 40 A.in1 (by show A.units + 1 + 40 < _; omega) c d v u v' u' (by omega) (by omega) rc rd hd rv ru
  replace hu : A.units < cLine := by omega
  by_cases hr : ∃ p q, v = .ref p /\ u = .ref q
  · obtain ⟨p, q, rfl, rfl⟩ := hr
    cases rv
    cases ru
    exact Xa I ih ra rb (by omega) (by omega) hu
  · cases ra <;> cases rb <;> first
      | with_reducible exact absurd ⟨_, _, rfl, rfl⟩ hr
      | (rw [dp] at ha; omega)
      | (rw [dp] at hb; omega)
      | ((first | (obtain ⟨t0, rfl⟩ := rv) | cases rv); (first | (obtain ⟨t1, rfl⟩ := ru) | cases ru); simp only [eqD, Bool.not_false, Bool.not_true]; first | walk_at "sc" | walk_at "sq")
theorem xb (hu : X.A.units + 64 < cLine) : OpR X (compareOp .Eq) (Dr id) := by
 intro pins s σ H x y v u Q I rx ry h
 obtain ⟨O, O', a, b, ra, rb, ha, hb, k⟩ := h
 exact AD I X.A (by omega) a b x y v u ha ra rb hb rx ry _ _ _ _ ⟨.bl _, H, I, rfl, k⟩
theorem vw (hu : X.A.units + 64 < cLine) : OpR X (compareOp .NotEq) (Dr not) := by
 intro pins s σ H x y v u Q I rx ry h
 obtain ⟨O, O', a, b, ra, rb, ha, hb, k⟩ := h
 exact XU I X.A (by omega) a b x y v u ha ra rb hb rx ry _ _ _ _ ⟨.bl _, H, I, rfl, k⟩
end
noncomputable def yx (x : AV) (M : MH) : Option Dat := match x with
 | .d x => some x
 | .ref a => match M a with
  | some (.lst l) => (pur l).map .lst
  | _ => none
theorem BD (x : Dat) (M : MH) : yx (.d x) M = some x := rfl
theorem yl {H : Hp} {O : Own} {M : MH} {v : V} {x : AV} {d : Dat} (w : Wf H O M) (r : zo H O M v x) (h : yx x M = some d) : ∃ O', Rep H O' v d := by
 cases x with
 | d x => cases h; exact ⟨O, r⟩
 | ref a =>
  unfold yx at h
  dsimp only at h
  cases e : M a with
  | none => rw [e] at h; cases h
  | some o =>
   rw [e] at h
   cases o with
   | lst l =>
    dsimp only at h
    cases ep : pur l with
    | none => rw [ep] at h; cases h
    | some ds =>
     rw [ep] at h
     cases h
     obtain ⟨xs, hx, rx⟩ := w.mo a _ e
     rw [ji ep] at rx
     have rp := rx.pure
     refine ⟨Ww O a, ?_⟩
     rw [r.1]
     exact Rep.lst (fun z => z.1 rfl) hx rp.1 fun i x d e1 e2 => (rp.2 i x d e1 e2).imp (kT a)
   | _ => cases h
noncomputable def DJ (f : Bool -> Bool) : AR2 := fun x y M Q => ∃ a b, yx x M = some a /\ yx y M = some b /\ dp a <= 40 /\ dp b <= 40 /\ Q (.d (.bl (f (eqD a b)))) M
theorem Y7 {f : Bool -> Bool} : vX (Dr f) (DJ f) := ⟨fun w r1 r2 ⟨a, b, e1, e2, h1, h2, q⟩ k => by
 obtain ⟨O1, p1⟩ := yl w r1 e1
 obtain ⟨O2, p2⟩ := yl w r2 e2
 exact ⟨O1, O2, a, b, p1, p2, h1, h2, k _ _ _ _ _ q .refl w .bl⟩⟩
theorem K4 (i : Int) : dp (.int i) = 0 := by simp [dp]
end L2
set_option Elab.async false
set_option linter.all false
set_option maxRecDepth 100000
set_option maxHeartbeats 4000000
namespace L2
open PySem PySem.Spec PyProof.Rows
theorem qJ {H : Hp} {O : Own} {M : MH} {vs : List V} {x : AV} (r : zg H O M vs [x]) : ∃ v, vs = [v] /\ zo H O M v x := by
 obtain ⟨v1, r', rfl, a1, r2⟩ := r.cons_inv
 rw [r2.nil_inv]; exact ⟨v1, rfl, a1⟩
theorem jn {H : Hp} {O : Own} {M : MH} {vs : List V} {x y : AV} (r : zg H O M vs [x, y]) : ∃ v u, vs = [v, u] /\ zo H O M v x /\ zo H O M u y := by
 obtain ⟨v1, r', rfl, a1, r2⟩ := r.cons_inv
 obtain ⟨v2, rfl, a2⟩ := qJ r2
 exact ⟨v1, v2, rfl, a1, a2⟩
noncomputable def Es : List AV -> MH -> AK -> Prop := fun xs M Q => ∃ x l, xs = [x] /\ qS x M = some l /\ Q (.d (.int (l.length : Nat))) M
theorem Wi {K : PySem.W.Frag} : yy (fun xs H Q => ∃ p ys, xs = [V.ref p] /\ (SqL K H p ys \/ SqT K H p ys) /\ Q (V.int ys.length) H) Es := ⟨fun w r ⟨x, l, e, h, q⟩ k => by
 subst e
 obtain ⟨v, rfl, rv⟩ := qJ r
 obtain ⟨a, xs, rfl, h1, r1⟩ := Qi w rv h
 exact ⟨a, xs, rfl, h1.elim (fun h => .inl (SqL.of h)) (fun h => .inr (SqT.of h)), by rw [r1.1]; exact k _ _ _ _ _ q .refl w .int⟩⟩
noncomputable def bI2 (f : Int -> Int -> Int) : List AV -> MH -> AK -> Prop := fun xs M Q => ∃ i j, xs = [.d (.int i), .d (.int j)] /\ Q (.d (.int (f i j))) M
theorem BO {f : Int -> Int -> Int} : yy (fun xs H Q => ∃ i j, xs = [V.int i, V.int j] /\ Q (V.int (f i j)) H) (bI2 f) := ⟨fun w r ⟨i, j, e, q⟩ k => by
 subst e
 obtain ⟨v, u, rfl, rv, ru⟩ := jn r
 exact ⟨i, j, by rw [zH rv, zH ru], k _ _ _ _ _ q .refl w .int⟩⟩
noncomputable def WQ : List AV -> MH -> AK -> Prop := fun xs M Q => ∃ c, xs = [.d (.bl c)] /\ Q (.d (.int (if c = true then 1 else 0))) M
theorem YO : yy (fun xs H Q => ∃ k, xs = [V.bl k] /\ Q (V.int (if k = true then 1 else 0)) H) WQ := ⟨fun w r ⟨c, e, q⟩ k => by
 subst e
 obtain ⟨v, rfl, rv⟩ := qJ r
 exact ⟨c, by rw [jH rv], k _ _ _ _ _ q .refl w .int⟩⟩
noncomputable def XJ : List AV -> MH -> AK -> Prop := fun xs M Q => ∃ x l ds, xs = [x] /\ qS x M = some l /\ pur l = some ds /\ Q (.d (.tup ds)) M
theorem JM {K : PySem.W.Frag} : yy (fun xs H Q => ∃ p ys, xs = [V.ref p] /\ ((SqL K H p ys /\ ∀ l, H l = none -> Q (V.ref l) (upd H l (HO.tup ys))) \/ SqT K H p ys /\ Q (V.ref p) H)) XJ := ⟨fun w r ⟨x, l, ds, e, h, hp, q⟩ k => by
 subst e
 obtain ⟨v, rfl, rv⟩ := qJ r
 rw [ji hp] at h
 rcases qW h with h' | ⟨m, rfl, e2⟩
 ·obtain ⟨a, xs, rfl, h1, r1⟩ := qj w rv h'
  exact ⟨a, xs, rfl, .inl ⟨SqL.of h1, fun p hp => k _ _ _ _ _ q (qN w hp _) (vR w hp _) (Vt w hp r1)⟩⟩
 ·obtain rfl : ds = m := by have := congrArg pur e2; rw [zZ, zZ] at this; cases this; rfl
  obtain ⟨a, xs, rfl, h1, r1⟩ := jU (l := ds.map .d) rv rfl
  exact ⟨a, xs, rfl, .inr ⟨SqT.of h1, k _ _ _ _ _ q .refl w rv⟩⟩⟩
structure Yt (r : List V -> Hp -> VK -> Prop) (a : List AV -> MH -> (List AV -> Prop) -> Prop) : Prop where
 go : ∀ {vs : List V} {xs : List AV} {H : Hp} {O : Own} {M : MH} {Q : VK} {Q' : List AV -> Prop}, Wf H O M -> zg H O M vs xs -> a xs M Q' -> (∀ l ys, Q' l -> zg H O M ys l -> ∀ p, H p = none -> Q (.ref p) (upd H p (.lst ys))) -> r vs H Q
noncomputable def fCB (r : List AV -> MH -> (List AV -> Prop) -> Prop) (b : AA) : AF := fun ρ M Q => b ρ M fun xs M1 => r xs M1 fun l => Q l M1
theorem vB {r : List V -> Hp -> VK -> Prop} {ra : List AV -> MH -> (List AV -> Prop) -> Prop} {u : TA} {b : AA} (hr : Yt r ra) (h : jg u b) : wY (tCB r u) (fCB ra b) :=
 ⟨fun w e q k => h.go w e q fun x M1 v H1 O1 q1 k1 w1 r1 => hr.go w1 r1 q1 fun l ys q3 r3 p hp =>
  k l M1 p ys _ _ q3 (k1.trans (qC w1 hp _)) (xY w1 hp _ (fun _ z => nomatch z)) (.inl rfl) (w1.fresh hp).2 (j8 w1 k1 hp) zf (r3.ext (qC w1 hp _))⟩
noncomputable def Ya : List AV -> MH -> (List AV -> Prop) -> Prop := fun xs M Q => ∃ x l, xs = [x] /\ qS x M = some l /\ Q l
theorem yS {K : PySem.W.Frag} : Yt (fun xs H Q => ∃ p ys, xs = [V.ref p] /\ (SqL K H p ys \/ SqT K H p ys) /\ ∀ l, H l = none -> Q (V.ref l) (upd H l (HO.lst ys))) Ya := ⟨fun w r ⟨x, l, e, h, q⟩ k => by
 subst e
 obtain ⟨v, rfl, rv⟩ := qJ r
 obtain ⟨a, xs, rfl, h1, r1⟩ := Qi w rv h
 exact ⟨a, xs, rfl, h1.elim (fun h => .inl (SqL.of h)) (fun h => .inr (SqT.of h)), k _ _ q r1⟩⟩
theorem yr {H : Hp} {O : Own} {M : MH} : ∀ {ns : List Int} {xs : List V}, zg H O M xs (ns.map fun i => AV.d (.int i)) -> xs = ns.map V.int
 | [], xs, r => r.nil_inv
 | i :: ns, xs, r => by
  obtain ⟨v, r', rfl, a1, r2⟩ := r.cons_inv
  rw [zH a1, yr r2]; rfl
noncomputable def tyA (x : AV) (M : MH) : Option String := match x with
 | .d .non => some "NoneType"
 | .d (.bl _) => some "bool"
 | .d (.int _) => some "int"
 | .d (.str _) => some "str"
 | .d (.lst _) => some "list"
 | .d (.tup _) => some "tuple"
 | .ref a => match M a with
  | some (.lst _) => some "list"
  | some (.dK _) => some "dict"
  | _ => none
 | _ => none
theorem Yp {K : PySem.W.Frag} {H : Hp} {O : Own} {M : MH} {v : V} {x : AV} {t : String} (w : Wf H O M) (r : zo H O M v x) (h : tyA x M = some t) : jB K H v (.type t) := by
 cases x with
 | d x =>
  cases (show Rep H O v x from r) with
  | non => cases h; exact .non
  | bl => cases h; exact .bl _
  | int => cases h; exact .int _
  | str => cases h; exact .str _
  | lst o e => cases h; exact .lst e
  | tup o e => cases h; exact .tup e
  | ty => cases h
  | rng _ _ => cases h
  | scr _ _ => cases h
  | scrK _ => cases h
 | ref a =>
  unfold tyA at h
  dsimp only at h
  rw [r.1]
  cases e : M a with
  | none => rw [e] at h; cases h
  | some o =>
   rw [e] at h
   have := w.mo a o e
   cases o with
   | lst l => cases h; obtain ⟨xs, hx, _⟩ := this; exact .lst hx
   | dK l => cases h; obtain ⟨xs, hx, _⟩ := this; exact .dK hx
   | ins C fs => cases h
   | exc C fs => cases h
noncomputable def DK : List AV -> MH -> AK -> Prop := fun xs M Q => ∃ x t c b, xs = [x, .d (.ty c)] /\ tyA x M = some t /\ isT t c = some b /\ Q (.d (.bl b)) M
theorem VU {K : PySem.W.Frag} : yy (fun xs H Q => ∃ x t c b, xs = [x, V.ty c] /\ jB K H x (Value.type t) /\ isT t c = some b /\ Q (V.bl b) H) DK := ⟨fun w r ⟨x, t, c, b, e, h, hb, q⟩ k => by
 subst e
 obtain ⟨v, u, rfl, rv, ru⟩ := jn r
 exact ⟨v, t, c, b, by rw [Xo ru], Yp w rv h, hb, k _ _ _ _ _ q .refl w .bl⟩⟩
theorem QH {H : Hp} {O : Own} {M : MH} : ∀ {ns : List String} {xs : List V}, zg H O M xs ((ns.map Dat.ty).map .d) -> xs = ns.map V.ty
 | [], xs, r => r.nil_inv
 | i :: ns, xs, r => by
  obtain ⟨v, r', rfl, a1, r2⟩ := r.cons_inv
  rw [Xo a1, QH r2]; rfl
noncomputable def wR : List Dat -> Option (List String)
 | [] => some []
 | .ty n :: r => (wR r).map (n :: ·)
 | _ => none
theorem QY : ∀ {l : List Dat} {cs : List String}, wR l = some cs -> l = cs.map Dat.ty
 | [], cs, h => by cases h; rfl
 | .ty n :: r, cs, h => by
  unfold wR at h
  cases e : wR r with
  | none => rw [e] at h; cases h
  | some m => rw [e] at h; cases h; rw [QY e]; rfl
 | .non :: _, _, h => by cases h
 | .bl _ :: _, _, h => by cases h
 | .int _ :: _, _, h => by cases h
 | .str _ :: _, _, h => by cases h
 | .lst _ :: _, _, h => by cases h
 | .tup _ :: _, _, h => by cases h
 | .rng _ _ _ :: _, _, h => by cases h
 | .scr _ _ :: _, _, h => by cases h
noncomputable def Af : List AV -> MH -> AK -> Prop := fun xs M Q => ∃ x t l cs b, xs = [x, .d (.tup l)] /\ wR l = some cs /\ tyA x M = some t /\ xC t cs = some b /\ Q (.d (.bl b)) M
theorem Kt {K : PySem.W.Frag} : yy (fun xs H Q => ∃ x t p cs b, xs = [x, V.ref p] /\ H p = some (HO.tup (List.map V.ty cs)) /\ jB K H x (Value.type t) /\ xC t cs = some b /\ Q (V.bl b) H) Af := ⟨fun w r ⟨x, t, l, cs, b, e, hc, h, hb, q⟩ k => by
 subst e
 obtain ⟨v, u, rfl, rv, ru⟩ := jn r
 rw [QY hc] at ru
 obtain ⟨a, xs, rfl, h1, r1⟩ := jU (l := (cs.map Dat.ty).map .d) ru rfl
 rw [QH r1] at h1
 exact ⟨v, t, a, cs, b, rfl, h1, Yp w rv h, hb, k _ _ _ _ _ q .refl w .bl⟩⟩
theorem QD {H : Hp} {O : Own} {M : MH} : ∀ {ns : List Bool} {xs : List V}, zg H O M xs (ns.map fun i => AV.d (.bl i)) -> xs = ns.map V.bl
 | [], xs, r => r.nil_inv
 | i :: ns, xs, r => by
  obtain ⟨v, r', rfl, a1, r2⟩ := r.cons_inv
  rw [jH a1, QD r2]; rfl
noncomputable def Ea (f : List Bool -> Bool) : List AV -> MH -> AK -> Prop := fun xs M Q => ∃ x bs, xs = [x] /\ qB x M = some (List.map (fun b => AV.d (.bl b)) bs) /\ Q (.d (.bl (f bs))) M
theorem WD {K : PySem.W.Frag} {f : List Bool -> Bool} : yy (fun xs H Q => ∃ p bs, xs = [V.ref p] /\ SqL K H p (List.map V.bl bs) /\ Q (V.bl (f bs)) H) (Ea f) := ⟨fun w r ⟨x, bs, e, h, q⟩ k => by
 subst e
 obtain ⟨v, rfl, rv⟩ := qJ r
 obtain ⟨a, xs, rfl, h1, r1⟩ := qj w rv h
 rw [QD r1] at h1
 exact ⟨a, bs, rfl, SqL.of h1, k _ _ _ _ _ q .refl w .bl⟩⟩
noncomputable def W2 : List AV -> MH -> AK -> Prop := fun xs M Q => ∃ b, xs = [.d (.int b)] /\ Q (.d (.rng 0 b 1)) M
theorem Yu : yy (fun xs H Q => ∃ b, xs = [V.int b] /\ ∀ (p : Addr), H p = none -> Q (V.ref p) (upd H p (qZ p 0 b 1))) W2 := ⟨fun w r ⟨b, e, q⟩ k => by
 subst e
 obtain ⟨v, rfl, rv⟩ := qJ r
 exact ⟨b, by rw [zH rv], fun p hp => k _ _ _ _ _ q (qN w hp _) (vR w hp _) (Rep.rng (w.fresh hp).1 zf)⟩⟩
noncomputable def YD : List AV -> MH -> (List AV -> Prop) -> Prop := fun xs M Q => ∃ a b c n, xs = [.d (.rng a b c)] /\ Builtin.Range.small a b c = true /\ Builtin.Range.rangeSize a b c = ((n : Nat) : Int) /\ n <= 100000 /\ Q ((zU a c n).map fun i => AV.d (.int i))
theorem ve : Yt (fun xs H Q => ∃ p a b c n, xs = [.ref p] /\ H p = some (qZ p a b c) /\ Builtin.Range.small a b c = true /\ Builtin.Range.rangeSize a b c = ((n : Nat) : Int) /\ n <= 100000 /\ ∀ l, H l = none -> Q (.ref l) (upd H l (.lst ((zU a c n).map V.int)))) YD := ⟨fun {vs xs H O M Q Q'} w r ⟨a, b, c, n, e, h1, h2, h3, q⟩ k => by
 subst e
 obtain ⟨v, rfl, rv⟩ := qJ r
 cases (show Rep H O v (.rng a b c) from rv) with
 | rng o h => exact ⟨_, a, b, c, n, rfl, h, h1, h2, h3, k _ _ q (ZZ _)⟩⟩
structure Xz (r : V -> List V -> Hp -> VK -> Prop) (a : AV -> List AV -> MH -> AK -> Prop) : Prop where
 go : ∀ {x : V} {dx : AV} {vs : List V} {xs : List AV} {H : Hp} {O : Own} {M : MH} {Q : VK} {Q' : AK}, Wf H O M -> zo H O M x dx -> zg H O M vs xs -> a dx xs M Q' -> (∀ x M' v H' O', Q' x M' -> Ext H O M H' O' M' -> Wf H' O' M' -> zo H' O' M' v x -> Q v H') -> r x vs H Q
noncomputable def aBM (r : AV -> List AV -> MH -> AK -> Prop) (a : AE) (b : AA) : AE := fun ρ M Q => a ρ M fun x M1 => (∃ l, qB x M1 = some l) /\ b ρ M1 fun xs M2 => r x xs M2 Q
theorem BM {K : PySem.W.Frag} {r : V -> List V -> Hp -> VK -> Prop} {ra : AV -> List AV -> MH -> AK -> Prop} {t : TE} {u : TA} {a : AE} {b : AA} (hr : Xz r ra) (h1 : zN t a) (h2 : jg u b) : zN (tBM K "list" r t u) (aBM ra a b) :=
 ⟨fun w e q k => h1.go w e q fun x M1 v H1 O1 ⟨⟨l, hl⟩, q1⟩ k1 w1 r1 => ⟨by
  obtain ⟨a, xs, rfl, hx, _⟩ := qj w1 r1 hl
  exact .inl ⟨rfl, xs, SqL.of hx⟩, h2.go w1 (e.ext k1) q1 fun y M2 u H2 O2 q2 k2 w2 r2 => hr.go w2 (r1.ext k2) r2 q2 fun z M3 v3 H3 O3 q3 k3 w3 r3 => k z M3 v3 H3 O3 q3 ((k1.trans k2).trans k3) w3 r3⟩⟩
noncomputable def Em (r : AV -> List AV -> MH -> AK -> Prop) (a : AE) : AE := fun ρ M Q => a ρ M fun x M1 => (∃ l, qB x M1 = some l) /\ r x [] M1 Q
theorem Vr {K : PySem.W.Frag} {r : V -> List V -> Hp -> VK -> Prop} {ra : AV -> List AV -> MH -> AK -> Prop} {t : TE} {a : AE} (hr : Xz r ra) (h1 : zN t a) : zN (DD K "list" r t) (Em ra a) :=
 ⟨fun w e q k => h1.go w e q fun x M1 v H1 O1 ⟨⟨l, hl⟩, q1⟩ k1 w1 r1 => ⟨by
  obtain ⟨a, xs, rfl, hx, _⟩ := qj w1 r1 hl
  exact .inl ⟨rfl, xs, SqL.of hx⟩, hr.go w1 r1 .nil q1 fun z M3 v3 H3 O3 q3 k3 w3 r3 => k z M3 v3 H3 O3 q3 (k1.trans k3) w3 r3⟩⟩
theorem xL {H : Hp} {O : Own} {M : MH} {p : Addr} {l l' : List AV} {xs' : List V} (w : Wf H O M) (hm : M p = some (.lst l)) (r : zg H O M xs' l') : Ext H O M (upd H p (.lst xs')) O (mup M p (.lst l')) /\ Wf (upd H p (.lst xs')) O (mup M p (.lst l')) :=
 have np := qT hm
 ⟨ki w np _ _, Yc w np (fun _ z => nomatch z) ⟨_, zf, r.ext (ki w np _ _)⟩⟩
noncomputable def QA : AV -> List AV -> MH -> AK -> Prop := fun x xs M Q => ∃ p l y, x = .ref p /\ xs = [y] /\ M p = some (.lst l) /\ l.length < sizeLine /\ Q (.d .non) (mup M p (.lst (l ++ [y])))
theorem ZW : Xz xE QA := ⟨fun w r1 r2 ⟨p, l, y, e1, e2, hm, hs, q⟩ k => by
 subst e1 e2
 obtain ⟨v, rfl, rv⟩ := qJ r2
 obtain ⟨xs, hx, rx⟩ := w.mo p _ hm
 obtain ⟨k1, w1⟩ := xL w hm (rx.snoc rv)
 exact ⟨p, xs, v, r1.1, rfl, hx, by rw [rx.1]; exact hs, k _ _ _ _ _ q k1 w1 .non⟩⟩
noncomputable def Qz : AV -> List AV -> MH -> AK -> Prop := fun x xs M Q => ∃ p l i y, x = .ref p /\ xs = [.d (.int i), y] /\ M p = some (.lst l) /\ 0 <= i /\ i <= l.length /\ l.length < sizeLine /\ Q (.d .non) (mup M p (.lst (l.take i.toNat ++ y :: l.drop i.toNat)))
theorem Z3 : Xz xJ Qz := ⟨fun w r1 r2 ⟨p, l, i, y, e1, e2, hm, h0, h1, hs, q⟩ k => by
 subst e1 e2
 obtain ⟨v, u, rfl, rv, ru⟩ := jn r2
 obtain ⟨xs, hx, rx⟩ := w.mo p _ hm
 obtain ⟨k1, w1⟩ := xL w hm ((rx.take i.toNat).append (.cons ru (rx.drop i.toNat)))
 exact ⟨p, xs, i, u, r1.1, by rw [zH rv], hx, h0, by rw [rx.1]; exact h1, by rw [rx.1]; exact hs, k _ _ _ _ _ q k1 w1 .non⟩⟩
noncomputable def wq : AV -> List AV -> MH -> AK -> Prop := fun x xs M Q => ∃ p l, x = .ref p /\ xs = [] /\ M p = some (.lst l) /\ Q (.d .non) (mup M p (.lst l.reverse))
theorem Zs : Xz kh wq := ⟨fun w r1 r2 ⟨p, l, e1, e2, hm, q⟩ k => by
 subst e1 e2
 obtain ⟨xs, hx, rx⟩ := w.mo p _ hm
 obtain ⟨k1, w1⟩ := xL w hm rx.reverse
 exact ⟨p, xs, r1.1, r2.nil_inv, hx, k _ _ _ _ _ q k1 w1 .non⟩⟩
noncomputable def XS (r : Addr) : MO -> Prop
 | .lst l => AV.ref r ∈ l
 | .dK kvs => AV.ref r ∈ kvs.map (·.2)
 | .ins _ fs => AV.ref r ∈ fs.map (·.2)
 | .exc _ _ => False
inductive Dee (M M2 : MH) : AV -> Dat -> Prop
 | d {x : Dat} : Dee M M2 (.d x) x
 | lst {p : Addr} {l : List AV} {ds : List Dat} : M p = some (.lst l) -> M2 p = none -> l.length = ds.length -> (∀ (i : Nat) a b, l[i]? = some a -> ds[i]? = some b -> Dee M M2 a b) -> Dee M M2 (.ref p) (.lst ds)
structure ww (M0 M' : MH) (x x' : AV) (M'' : MH) : Prop where
 sub : ∀ q, M'' q = M' q \/ (M0 q = none /\ M'' q = none)
 cl : ∀ q o, M'' q = some o -> M0 q = some o \/ ∀ r, XS r o -> M'' r ≠ none
 res : (x' = x /\ ∀ p, x = .ref p -> M'' p ≠ none) \/ (∃ p l ds, x = .ref p /\ M' p = some (.lst l) /\ pur l = some ds /\ M'' p = none /\ x' = .d (.lst ds)) \/ ∃ d, Dee M' M'' x d /\ x' = .d d
theorem Dee.rep {H : Hp} {O : Own} {M M2 : MH} (w : Wf H O M) {x : AV} {d : Dat} (h : Dee M M2 x d) : ∀ {v : V}, zo H O M v x -> Rep H (fun a => O a /\ ¬ (M a ≠ none /\ M2 a = none)) v d := by
 induction h with
 | d => exact fun r => Rep.imp (fun a u h e => ⟨e, fun z => h z.1⟩) r
 | @lst p l ds hm hn hl _ ih =>
  intro v r
  obtain ⟨xs, hx, rx⟩ := w.mo p _ hm
  rw [r.1]
  refine Rep.lst (fun z => z.2 ⟨qT hm, hn⟩) hx (rx.1.trans hl) fun i x d e1 e2 => ?_
  have hi := (List.getElem?_eq_some_iff.mp e2).1
  have ha : l[i]? = some (l[i]'(by omega)) := List.getElem?_eq_getElem (by omega)
  exact ih i _ d ha e2 (rx.2 i x _ e1 ha)
theorem QZ {H0 H : Hp} {O0 O : Own} {M0 M' M'' : MH} {x x' : AV} {v : V} (w0 : Wf H0 O0 M0) (w : Wf H O M') (k : Ext H0 O0 M0 H O M') (r : zo H O M' v x) (f : ww M0 M' x x' M'') :
    ∃ O'', Wf H O'' M'' /\ Ext H0 O0 M0 H O'' M'' /\ zo H O'' M'' v x' /\ ∀ a, O a -> M' a = none -> O'' a /\ M'' a = none := by
  have ks : ∀ a u, ¬ O a -> H a = some u -> H a = some u /\ ¬ (O a /\ ¬ (M' a ≠ none /\ M'' a = none)) := fun a u h e => ⟨e, fun z => h z.1⟩
  have k0 : ∀ a, M0 a ≠ none -> M'' a = M' a := fun a h => (f.sub a).elim (fun z => z) (fun z => absurd z.1 h)
  have m0 : ∀ a, M0 a ≠ none -> M'' a ≠ none := fun a h => by rw [k0 a h]; exact k.mst a h
  have avs : ∀ {xs : List V} {l : List AV}, zg H O M' xs l -> (∀ r, AV.ref r ∈ l -> M'' r ≠ none) -> zg H (fun a => O a /\ ¬ (M' a ≠ none /\ M'' a = none)) M'' xs l := fun {xs l} rr hr => ⟨rr.1, fun i y d e1 e2 => by
    have := rr.2 i y d e1 e2
    cases d with
    | d d => exact Rep.imp ks this
    | ref a => exact ⟨this.1, hr a (List.mem_of_getElem? e2)⟩⟩
  have refs0 : ∀ q o, M0 q = some o -> ∀ r, XS r o -> M0 r ≠ none := fun q o e r hr => by
    have := w0.mo q o e
    cases o with
    | lst l =>
      obtain ⟨xs, _, rr⟩ := this
      obtain ⟨i, hi⟩ := List.getElem?_of_mem hr
      obtain ⟨y, _, ry⟩ := rr.get hi
      exact ry.2
    | dK l =>
      obtain ⟨xs, _, rr⟩ := this
      obtain ⟨i, hi⟩ := List.getElem?_of_mem hr
      obtain ⟨y, _, ry⟩ := rr.2.get hi
      exact ry.2
    | ins C l =>
      obtain ⟨dx, xs, _, rr, _⟩ := this
      obtain ⟨i, hi⟩ := List.getElem?_of_mem hr
      obtain ⟨y, _, ry⟩ := rr.2.get hi
      exact ry.2
    | exc C l => exact hr.elim
  refine ⟨fun a => O a /\ ¬ (M' a ≠ none /\ M'' a = none), ⟨fun q o e => ?_, fun a h => ?_, fun a h => w.al a h.1⟩, ⟨fun a u h e => ?_, fun a h e => ?_, m0⟩, ?_, fun a h e => ⟨⟨h, fun z => z.1 e⟩, (f.sub a).elim (fun z => z.trans e) (fun z => z.2)⟩⟩
  · have e' : M' q = some o := by
      rcases f.sub q with z | z
      · rw [<- z]; exact e
      · rw [z.2] at e; cases e
    have hr : ∀ r, XS r o -> M'' r ≠ none := by
      rcases f.cl q o e with z | z
      · exact fun r hr => m0 r (refs0 q o z r hr)
      · exact z
    have := w.mo q o e'
    cases o with
    | lst l => obtain ⟨xs, h1, rr⟩ := this; exact ⟨xs, h1, avs rr hr⟩
    | dK l => obtain ⟨xs, h1, rr⟩ := this; exact ⟨xs, h1, rr.1, avs rr.2 hr⟩
    | ins C l =>
      obtain ⟨dx, xs, h1, rr, h2, h3, h4⟩ := this
      refine ⟨dx, xs, h1, ⟨rr.1, avs rr.2 hr⟩, ⟨h2, fun z => z.1 h3⟩, ?_, h4⟩
      rcases f.sub dx with z | z
      · rw [z]; exact h3
      · exact z.2
    | exc C l =>
      obtain ⟨d, h1, h2⟩ := this
      refine ⟨d, h1, ?_⟩
      rcases h2 with h2 | ⟨dx, e1, h2, h3, h4⟩
      · exact .inl h2
      · refine .inr ⟨dx, e1, h2, ⟨h3, fun z => z.1 h4⟩, ?_⟩
        rcases f.sub dx with z | z
        · rw [z]; exact h4
        · exact z.2
  · refine ⟨w.own a ?_, fun z => h z.2⟩
    rcases f.sub a with z | z
    · rw [<- z]; exact h
    · exact absurd z.2 h
  · obtain ⟨x1, x2⟩ := k.fix a u h e
    exact ⟨x1, fun z => x2 z.1⟩
  · obtain ⟨x1, x2, x3⟩ := k.prv a h e
    refine ⟨x1, ⟨x2, fun z => z.1 x3⟩, ?_⟩
    rcases f.sub a with z | z
    · rw [z]; exact x3
    · exact z.2
  · rcases f.res with ⟨rfl, hp⟩ | ⟨p, l, ds, rfl, hm, hp, hn, rfl⟩ | ⟨d, hd, rfl⟩
    · cases x' with
      | d d => exact Rep.imp ks r
      | ref a => exact ⟨r.1, hp a rfl⟩
    · obtain ⟨xs, hx, rx⟩ := w.mo p _ hm
      rw [ji hp] at rx
      have rp := rx.pure
      rw [r.1]
      exact Rep.lst (fun z => z.2 ⟨qT hm, hn⟩) hx rp.1 fun i x d e1 e2 => (rp.2 i x d e1 e2).imp ks
    · exact hd.rep w r
theorem vT {H0 H : Hp} {O0 O : Own} {M0 M' M'' : MH} {x x' : AV} {v : V} (w0 : Wf H0 O0 M0) (w : Wf H O M') (k : Ext H0 O0 M0 H O M') (r : zo H O M' v x) (f : ww M0 M' x x' M'') :
  ∃ O'', Wf H O'' M'' /\ Ext H0 O0 M0 H O'' M'' /\ zo H O'' M'' v x' := let ⟨O2, a, b, c, _⟩ := QZ w0 w k r f; ⟨O2, a, b, c⟩
noncomputable def Fr (M0 M : MH) : Prop := ∀ q, M0 q ≠ none -> M q = M0 q
theorem Fr.refl {M : MH} : Fr M M := fun _ _ => rfl
theorem Fr.mup {M0 M : MH} (f : Fr M0 M) {p : Addr} (h : M0 p = none) (o : MO) : Fr M0 (mup M p o) := fun q hq => by rw [zu (fun z => hq (by rw [z]; exact h))]; exact f q hq
theorem Fr.sub {M0 M : MH} (f : Fr M0 M) (q : Addr) : M0 q = M q \/ (M0 q = none /\ M0 q = none) := by
 cases e : M0 q with
 | none => exact .inr ⟨rfl, rfl⟩
 | some o => exact .inl (by rw [f q (by rw [e]; exact fun z => nomatch z), e])
theorem QP {M0 M : MH} (f : Fr M0 M) (d : Dat) : ww M0 M (.d d) (.d d) M0 := ⟨f.sub, fun q o e => .inl e, .inl ⟨rfl, fun p z => nomatch z⟩⟩
theorem vK {l : List AV} {ds : List Dat} (h : pur l = some ds) (r : Addr) : AV.ref r ∉ l := by
 rw [ji h]; intro z
 obtain ⟨d, _, e⟩ := List.mem_map.mp z
 cases e
theorem VT {M0 M : MH} (f : Fr M0 M) {p : Addr} {l : List AV} {ds : List Dat} (h0 : M0 p = none) (h : M p = some (.lst l)) (hp : pur l = some ds) : ww M0 M (.ref p) (.ref p) (mup M0 p (.lst l)) := by
 refine ⟨fun q => ?_, fun q o e => ?_, .inl ⟨rfl, fun q z => by cases z; rw [zk]; exact fun z => nomatch z⟩⟩
 ·by_cases c : q = p
  ·rw [c, zk, h]; exact .inl rfl
  ·rw [zu c]; exact f.sub q
 ·by_cases c : q = p
  ·rw [c, zk] at e
   cases e
   exact .inr fun r hr => absurd hr (vK hp r)
  ·rw [zu c] at e; exact .inl e
noncomputable def qz (N : List Str) (xs : List AV) : ASt := xs.map some ++ List.replicate (N.length - xs.length) none
theorem wN {H : Hp} {O : Own} {M : MH} {vs : List V} {xs : List AV} (r : zg H O M vs xs) (N : List Str) : Er H O M (start N vs) (qz N xs) := by
 unfold start qz
 refine ⟨by simp [r.1], fun i x h => ?_⟩
 by_cases c : i < xs.length
 ·rw [List.getElem?_append_left (by simpa using c), List.getElem?_map] at h
  cases e : xs[i]? with
  | none => rw [e] at h; cases h
  | some y =>
   rw [e] at h
   cases h
   obtain ⟨v, hv, rv⟩ := r.get e
   exact ⟨v, by rw [List.getElem?_append_left (by rw [List.length_map, r.1]; exact c), List.getElem?_map, hv]; rfl, rv⟩
 ·rw [List.getElem?_append_right (by simp; omega), List.getElem?_replicate] at h
  split at h <;> cases h
noncomputable def rtA (M0 : MH) (Q : AK) : AK := fun x M' => ∃ x' M'', ww M0 M' x x' M'' /\ Q x' M''
theorem dfA {P : Program} {w : World} {K : PySem.W.Frag} {mg : Str -> Option Value} {base : Heap} {x : Str} {st : Stmt} {N ps : List Str} {k : Nat} {a : ASp} (at_ : At K mg x st) (S : zA N ps (zj st))
  (hb : ∀ (kV doc pm : Value) (an : Option Addr) (cdv ct : Value) (us : List Value), us.length = ps.length -> bindArgs (PySem.W.fnOf x x (qF st) (zX st) (zj st) .none kV doc pm an cdv ct) ⟨us, []⟩ = pure (ps.zip us))
  (len : ∀ xs M Q, a xs M Q -> xs.length = ps.length)
  (hbody : ∀ (f : Addr) (cdv : Value) (A : Around) (outer : List Env) (s : Shared) (H : Hp) (E : XK), qL k (A.deeper (envOfC x (zj st) s.heap.objs.size f cdv)) ->
   ∃ t, PSs (xa CX0 P w K mg base N x (zj st) f cdv A outer s H E).nox (zX st) t /\ ∃ b, jj t b /\ ∀ xs M Q, a xs M Q -> b M { nx := fun _ M' => rtA M Q (.d .non) M', rt := rtA M Q } (qz N xs) M) : Df P w K mg base x ps (k + 1) (cSp a) := by
 refine jt at_ S hb (fun vs H Q E h => ?_) (fun f cdv A outer s H vs Q E hr h => ?_)
 ·obtain ⟨xs, M, O, Q', w, r, q, _⟩ := h
  rw [r.1]; exact len xs M Q' q
 ·obtain ⟨t, ht, b, hb, hq⟩ := hbody f cdv A outer s H E hr
  refine ⟨t, ht, ?_⟩
  obtain ⟨xs, M, O, Q', w, r, q, kk⟩ := h
  refine hb.go w w (wN r N) .refl (hq xs M Q' q) ⟨fun σ H' O' ρ M' w' e' x' q' => ?_, fun v y H' O' M' w' x' r' q' => ?_, fun _ _ _ _ _ _ _ _ z => z.elim, fun _ _ _ _ _ _ _ _ z => z.elim⟩
  ·obtain ⟨y', M'', f, q2⟩ := q'
   obtain ⟨O'', w2, k2, r2⟩ := vT w w' x' (show zo H' O' M' .non (.d .non) from .non) f
   exact kk _ _ _ _ _ q2 k2 w2 r2
  ·obtain ⟨y', M'', f, q2⟩ := q'
   obtain ⟨O'', w2, k2, r2⟩ := vT w w' x' r' f
   exact kk _ _ _ _ _ q2 k2 w2 r2
end L2
set_option Elab.async false
set_option linter.all false
set_option maxRecDepth 100000
set_option maxHeartbeats 4000000
namespace L2
open PySem PySem.Spec PyProof.Rows
theorem BF {X : Cx} {s : Stmt} {t : TE} {g : TG} (h : PS X s (ZA t g)) : PS X s (ZA (A6 t) g) := h
structure Ey (tr : Addr -> TR) (a : ATR) : Prop where
 go : ∀ D, Jd D (tr D) a
theorem Kz {t u : TE} {a b : AE} (h1 : zN t a) (h2 : zN u b) : zN (tOp Vu t u) (aFz (fOp BU a b)) := xG (Qq wj h1 h2)
theorem Kq {K : PySem.W.Frag} {u : TA} {b : AA} (h : jg u b) : zN (tCB (fun xs H Q => ∃ p ys, xs = [V.ref p] /\ (SqL K H p ys \/ SqT K H p ys) /\ ∀ l, H l = none -> Q (V.ref l) (upd H l (HO.lst ys))) u) (aFz (fCB Ya b)) := xG (vB yS h)
theorem Kc {u : TA} {b : AA} (h : jg u b) : zN (tCB (fun xs H Q => ∃ p a b c n, xs = [.ref p] /\ H p = some (qZ p a b c) /\ Builtin.Range.small a b c = true /\ Builtin.Range.rangeSize a b c = ((n : Nat) : Int) /\ n <= 100000 /\ ∀ l, H l = none -> Q (.ref l) (upd H l (.lst ((zU a c n).map V.int)))) u) (aFz (fCB YD b)) := xG (vB ve h)
theorem ex2 {t : TS} {q : AS -> Prop} {b : AS} (h : jj t b) (k : q b) : ∃ b, jj t b /\ q b := ⟨b, h, k⟩
section
variable {X : Cx} {K : PySem.W.Frag}
theorem yz (h : X.K = K) : qk X (.type "list") (fun xs H Q => ∃ p ys, xs = [V.ref p] /\ (SqL K H p ys \/ SqT K H p ys) /\ ∀ (l : Addr), H l = none -> Q (V.ref l) (upd H l (HO.lst ys))) := h ▸ je
theorem yd (h : X.K = K) : qk X (.type "tuple") (fun xs H Q => ∃ p ys, xs = [V.ref p] /\ ((SqL K H p ys /\ ∀ (l : Addr), H l = none -> Q (V.ref l) (upd H l (HO.tup ys))) \/ SqT K H p ys /\ Q (V.ref p) H)) := h ▸ jT
end
theorem A7 {τ : Type} (R : τ -> ASt) (f : AV -> AV) {ag : AG} {ae : AE} {G : MH -> Prop} {N : List AV -> ASt -> MH -> Prop} {l : List AV} {ρ : ASt} {M : MH} (h0 : ∃ o, ρ = R o) (hG : G M) (hl : l.length <= 100000)
  (hs : ∀ (o : τ) (x : AV) (Q : AV -> ASt -> MH -> Prop), x ∈ l -> (∀ o', Q (f x) (R o') M) -> ag x (R o) M fun ρ2 M2 => ae ρ2 M2 fun y M3 => Q y ρ2 M3) (hN : ∀ o, N (l.map f) (R o) M) : K7 ag we (yW ae) G N l [] ρ M := by
 have hsl : 100000 < sizeLine := by rw [sizeLine_eq]; decide
 refine ⟨fun i acc ρ' M' => i <= l.length /\ acc = (l.take i).map f /\ M' = M /\ ∃ o, ρ' = R o, ⟨Nat.zero_le _, rfl, rfl, h0⟩, ?_, ?_⟩
 ·rintro i x acc ρ' M' hx ⟨hi, rfl, rfl, o, rfl⟩
  have hil := (List.getElem?_eq_some_iff.mp hx).1
  refine ⟨hG, ?_⟩
  refine hs o x (fun y ρ2 M3 => ((l.take i).map f).length < sizeLine /\ (i + 1 <= l.length /\ (l.take i).map f ++ [y] = (l.take (i + 1)).map f /\ M3 = M' /\ ∃ o, ρ2 = R o)) (List.mem_of_getElem? hx) fun o' => ⟨by rw [List.length_map, List.length_take]; omega, hil, ?_, rfl, o', rfl⟩
  rw [List.take_add_one, hx, List.map_append]; rfl
 ·rintro acc ρ' M' ⟨_, rfl, rfl, o, rfl⟩
  rw [List.take_length]
  exact ⟨hG, hN o⟩
theorem VN {τ : Type} (R : τ -> ASt) (f : Nat -> AV) {ag : AG} {ae : AE} {G : MH -> Prop} {N : List AV -> ASt -> MH -> Prop} {l : List AV} {ρ : ASt} {M : MH} (h0 : ∃ o, ρ = R o) (hG : G M) (hl : l.length <= 100000)
  (hs : ∀ (o : τ) (i : Nat) (x : AV) (Q : AV -> ASt -> MH -> Prop), l[i]? = some x -> (∀ o', Q (f i) (R o') M) -> ag x (R o) M fun ρ2 M2 => ae ρ2 M2 fun y M3 => Q y ρ2 M3) (hN : ∀ o, N ((List.range l.length).map f) (R o) M) : K7 ag we (yW ae) G N l [] ρ M := by
 have hsl : 100000 < sizeLine := by rw [sizeLine_eq]; decide
 refine ⟨fun i acc ρ' M' => i <= l.length /\ acc = (List.range i).map f /\ M' = M /\ ∃ o, ρ' = R o, ⟨Nat.zero_le _, rfl, rfl, h0⟩, ?_, ?_⟩
 ·rintro i x acc ρ' M' hx ⟨hi, rfl, rfl, o, rfl⟩
  have hil := (List.getElem?_eq_some_iff.mp hx).1
  refine ⟨hG, ?_⟩
  refine hs o i x (fun y ρ2 M3 => ((List.range i).map f).length < sizeLine /\ (i + 1 <= l.length /\ (List.range i).map f ++ [y] = (List.range (i + 1)).map f /\ M3 = M' /\ ∃ o, ρ2 = R o)) hx fun o' => ⟨by rw [List.length_map, List.length_range]; omega, hil, ?_, rfl, o', rfl⟩
  rw [List.range_succ, List.map_append]; rfl
 ·rintro acc ρ' M' ⟨_, rfl, rfl, o, rfl⟩
  exact ⟨hG, hN o⟩
theorem B1 : isT "int" "int" = some true := by decide +kernel
theorem B8 : isT "int" "bool" = some false := by decide +kernel
theorem AY : isT "int" "str" = some false := by decide +kernel
theorem BG : isT "int" "list" = some false := by decide +kernel
theorem Bs : isT "int" "tuple" = some false := by decide +kernel
theorem AU : isT "bool" "int" = some true := by decide +kernel
theorem Bi : isT "bool" "bool" = some true := by decide +kernel
theorem AL : isT "bool" "str" = some false := by decide +kernel
theorem BC : isT "bool" "list" = some false := by decide +kernel
theorem Bq : isT "bool" "tuple" = some false := by decide +kernel
theorem AM : isT "str" "int" = some false := by decide +kernel
theorem BJ : isT "str" "bool" = some false := by decide +kernel
theorem B6 : isT "str" "str" = some true := by decide +kernel
theorem Bw : isT "str" "list" = some false := by decide +kernel
theorem BY : isT "str" "tuple" = some false := by decide +kernel
theorem AJ : isT "NoneType" "int" = some false := by decide +kernel
theorem Ak : isT "NoneType" "bool" = some false := by decide +kernel
theorem Bv : isT "NoneType" "str" = some false := by decide +kernel
theorem B9 : isT "NoneType" "list" = some false := by decide +kernel
theorem BS : isT "NoneType" "tuple" = some false := by decide +kernel
theorem Dg : isT "list" "int" = some false := by decide +kernel
theorem Ar : isT "list" "bool" = some false := by decide +kernel
theorem AB : isT "list" "str" = some false := by decide +kernel
theorem Aq : isT "list" "list" = some true := by decide +kernel
theorem Am : isT "list" "tuple" = some false := by decide +kernel
theorem BQ : isT "tuple" "int" = some false := by decide +kernel
theorem AZ : isT "tuple" "bool" = some false := by decide +kernel
theorem AH : isT "tuple" "str" = some false := by decide +kernel
theorem Bj : isT "tuple" "list" = some false := by decide +kernel
theorem Dc : isT "tuple" "tuple" = some true := by decide +kernel
theorem Xv : xC "int" ["list", "tuple"] = some false := by decide +kernel
theorem Y3 : xC "bool" ["list", "tuple"] = some false := by decide +kernel
theorem Y1 : xC "str" ["list", "tuple"] = some false := by decide +kernel
theorem Xb : xC "NoneType" ["list", "tuple"] = some false := by decide +kernel
theorem Xe : xC "list" ["list", "tuple"] = some true := by decide +kernel
theorem KH : xC "tuple" ["list", "tuple"] = some true := by decide +kernel
theorem K3 : wR [] = some [] := rfl
theorem Jy {n : String} {r : List Dat} : wR (.ty n :: r) = (wR r).map (n :: ·) := rfl
theorem D4 (M : MH) : tyA (.d .non) M = some "NoneType" := rfl
theorem Eb (b : Bool) (M : MH) : tyA (.d (.bl b)) M = some "bool" := rfl
theorem D2 (i : Int) (M : MH) : tyA (.d (.int i)) M = some "int" := rfl
theorem DR (s : Str) (M : MH) : tyA (.d (.str s)) M = some "str" := rfl
theorem D6 (l : List Dat) (M : MH) : tyA (.d (.lst l)) M = some "list" := rfl
theorem D3 (l : List Dat) (M : MH) : tyA (.d (.tup l)) M = some "tuple" := rfl
theorem Jx (x : Dat) (r : List AV) : pur (.d x :: r) = match pur r with | some l => some (x :: l) | none => none := rfl
theorem Aj (i j : Int) : eqS (.int i) (.int j) = some (decide (i = j)) := rfl
theorem AR (i j : Bool) : eqS (.bl i) (.bl j) = some (decide (i = j)) := rfl
theorem BP (i j : Str) : eqS (.str i) (.str j) = some (decide (i = j)) := rfl
theorem Vd : xm (.d .non) = true := rfl
theorem VP (i : Int) : xm (.d (.int i)) = false := rfl
theorem Vy (i : List Dat) : xm (.d (.lst i)) = false := rfl
theorem VI (i : List Dat) : xm (.d (.tup i)) = false := rfl
theorem VM (i : Addr) : xm (.ref i) = false := rfl
theorem WL (i : Str) : xm (.d (.str i)) = false := rfl
theorem Wc (i : Bool) : xm (.d (.bl i)) = false := rfl
end L2
set_option Elab.async false
set_option linter.all false
set_option maxRecDepth 100000
set_option maxHeartbeats 4000000
namespace L2
open PySem PySem.Spec PyProof.Rows
theorem Z0 {H H' : Hp} {O : Own} {M : MH} (w : Wf H O M) (k : Kp [] H H') : Ext H O M H' O M /\ Wf H' O M := by
 have e : Ext H O M H' O M := ⟨fun a o h e => ⟨k a o (by simp) e, h⟩, fun a h e => ⟨by
  obtain ⟨o, ho, _⟩ := w.al a h
  rw [ho]; exact k a o (by simp) ho, h, e⟩, fun _ h => h⟩
 refine ⟨e, ⟨fun a o h => qw.ext e ?_ (w.mo a o h), w.own, fun a h => ?_⟩⟩
 ·obtain ⟨u, hu, _⟩ := w.al a (w.own a (by rw [h]; exact fun z => nomatch z))
  rw [hu]; exact k a u (by simp) hu
 ·obtain ⟨o, ho, hn⟩ := w.al a h
  exact ⟨o, k a o (by simp) ho, hn⟩
theorem Ap {H H' : Hp} {O : Own} {M : MH} (w : Wf H O M) {b : Addr} {l : List AV} (hb : M b = some (.lst l)) (k : Kp [b] H H') {ns : List Int} (h : H' b = some (.lst (ns.map V.int))) :
  Ext H O M H' O (mup M b (.lst (ns.map fun i => .d (.int i)))) /\ Wf H' O (mup M b (.lst (ns.map fun i => .d (.int i)))) := by
 have hOb := w.own b (qT hb)
 have kk : ∀ a o, a ≠ b -> H a = some o -> H' a = some o := fun a o ha e => k a o (by simpa using ha) e
 have e : Ext H O M H' O (mup M b (.lst (ns.map fun i => .d (.int i)))) := ⟨fun a o h e => ⟨kk a o (fun z => h (by rw [z]; exact hOb)) e, h⟩, fun a ha e => by
  have hne : a ≠ b := fun z => by rw [z, hb] at e; cases e
  obtain ⟨o, ho, _⟩ := w.al a ha
  exact ⟨by rw [ho]; exact kk a o hne ho, ha, by rw [zu hne]; exact e⟩, fun a ha => by
  by_cases c : a = b
  ·rw [c, zk]; exact fun z => nomatch z
  ·rw [zu c]; exact ha⟩
 refine ⟨e, ⟨fun a o ho => ?_, fun a ha => ?_, fun a ha => ?_⟩⟩
 ·by_cases c : a = b
  ·subst c; rw [zk] at ho; cases ho; exact ⟨_, h, ZZ ns⟩
  ·rw [zu c] at ho
   refine qw.ext e ?_ (w.mo a o ho)
   obtain ⟨u, hu, _⟩ := w.al a (w.own a (qT ho))
   rw [hu]; exact kk a u c hu
 ·by_cases c : a = b
  ·rw [c]; exact hOb
  ·rw [zu c] at ha; exact w.own a ha
 ·by_cases c : a = b
  ·rw [c]; exact ⟨_, h, fun xs z => nomatch z⟩
  ·obtain ⟨o, ho, hn⟩ := w.al a ha
   exact ⟨o, kk a o c ho, hn⟩
theorem yt {H : Hp} {O : Own} {p : Addr} {ns : List Int} (ho : ¬ O p) (h : H p = some (.lst (ns.map V.int))) : Rep H O (.ref p) (.lst (ns.map .int)) :=
 Rep.lst ho h (by simp) fun i x d e1 e2 => by
  rw [List.getElem?_map] at e1 e2
  cases e : ns[i]? with
  | none => rw [e] at e1; cases e1
  | some n => rw [e] at e1 e2; cases e1; cases e2; exact .int
theorem wm {H : Hp} {O : Own} {M : MH} {v : V} {x : AV} {ns : List Int} (w : Wf H O M) (r : zo H O M v x) (h : qB x M = some (ns.map fun i => .d (.int i))) : ∃ a, v = .ref a /\ H a = some (.lst (ns.map V.int)) := by
 obtain ⟨a, xs, rfl, h1, r1⟩ := qj w r h
 rw [yr r1] at h1
 exact ⟨a, rfl, h1⟩
theorem Df.imp' {P : Program} {w : World} {K : PySem.W.Frag} {mg : Str -> Option Value} {base : Heap} {x : Str} {ps : List Str} {sp sp' : Sp} {k : Nat} (D : Df P w K mg base x ps k sp) (h : ∀ vs H Q E, sp' vs H Q E -> sp vs H Q E) : Df P w K mg base x ps k sp' :=
 let ⟨f, fd, F, r⟩ := D
 ⟨f, fd, F.imp h, r⟩
mutual
noncomputable def wdt : Dat -> Nat
 | .lst l => max l.length (Dv l)
 | .tup l => max l.length (Dv l)
 | _ => 0
noncomputable def Dv : List Dat -> Nat
 | [] => 0
 | a :: r => max (wdt a) (Dv r)
end
theorem XD {x : AV} {M : MH} {l : List Dat} (h : yx x M = some (.lst l)) : qB x M = some (l.map .d) /\ qS x M = some (l.map .d) /\ tyA x M = some "list" /\ xm x = false := by
 cases x with
 | d x => cases h; exact ⟨rfl, rfl, rfl, rfl⟩
 | ref a =>
  unfold yx at h
  dsimp only at h
  cases e : M a with
  | none => rw [e] at h; cases h
  | some o =>
   rw [e] at h
   cases o with
   | lst m =>
    dsimp only at h
    cases ep : pur m with
    | none => rw [ep] at h; cases h
    | some ds =>
     rw [ep] at h
     cases h
     rw [ji ep] at e
     exact ⟨qq e, zM e, by unfold tyA; dsimp only; rw [e], rfl⟩
   | _ => cases h
theorem ja {x : AV} {M : MH} {d : Dat} (h : yx x M = some d) (hd : ∀ l, d ≠ .lst l) : x = .d d := by
 cases x with
 | d x => cases h; rfl
 | ref a =>
  unfold yx at h
  dsimp only at h
  cases e : M a with
  | none => rw [e] at h; cases h
  | some o =>
   rw [e] at h
   cases o with
   | lst m =>
    dsimp only at h
    cases ep : pur m with
    | none => rw [ep] at h; cases h
    | some ds => rw [ep] at h; cases h; exact absurd rfl (hd ds)
   | _ => cases h
theorem D0 (b : Bool) : dp (.bl b) = 0 := by simp [dp]
theorem BN (b : Str) : dp (.str b) = 0 := by simp [dp]
theorem Dk : dp .non = 0 := by simp [dp]
theorem DE (a b : Bool) : eqD (.bl a) (.bl b) = decide (a = b) := by rw [eqD]; cases a <;> cases b <;> rfl
theorem Bd (a b : Int) : eqD (.int a) (.int b) = decide (a = b) := by rw [eqD]; by_cases h : a = b <;> simp [h]
theorem Dt (a b : Str) : eqD (.str a) (.str b) = decide (a = b) := by rw [eqD]; by_cases h : a = b <;> simp [h]
theorem Dj : eqD .non .non = true := by simp [eqD]
theorem Bm (i : Int) : eqD .non (.int i) = false := by simp [eqD]
theorem A3 (i : Int) : eqD (.int i) .non = false := by simp [eqD]
theorem Be (i : Int) (s : Str) : eqD (.int i) (.str s) = false := by simp [eqD]
theorem DC (i : Int) (s : Str) : eqD (.str s) (.int i) = false := by simp [eqD]
theorem Dn (s : Str) : eqD (.str s) .non = false := by simp [eqD]
theorem AQ (s : Str) : eqD .non (.str s) = false := by simp [eqD]
theorem Jg (ns : List Int) : List.map AV.d (List.map Dat.int ns) = List.map (fun i => AV.d (.int i)) ns := by rw [List.map_map]; rfl
theorem WY (ns : List Bool) : List.map AV.d (List.map Dat.bl ns) = List.map (fun i => AV.d (.bl i)) ns := by rw [List.map_map]; rfl
theorem kf (ns : List Int) : pur (List.map (fun i => AV.d (.int i)) ns) = some (ns.map Dat.int) := by rw [<- Jg, zZ]
theorem Wp (ns : List Bool) : pur (List.map (fun i => AV.d (.bl i)) ns) = some (ns.map Dat.bl) := by rw [<- WY, zZ]
theorem Wl {α β : Type} (f : α -> β) (l : List α) (i : Int) : atI (l.map f) i = (atI l i).map f := by
 unfold atI
 rw [List.length_map]
 cases ixN l.length i with
 | none => rfl
 | some j => exact List.getElem?_map ..
theorem jl {n : Nat} {i : Int} (h0 : 0 <= i) (h1 : i < n) : ixN n i = some i.toNat := by unfold ixN; rw [if_pos h0, if_pos h1]
theorem BI {α : Type} {l : List α} {i : Int} (h0 : 0 <= i) (h1 : i < l.length) (d : α) : atI l i = some (l.getD i.toNat d) := by
 unfold atI
 rw [jl h0 h1]
 show l[i.toNat]? = _
 rw [List.getD_eq_getElem?_getD, List.getElem?_eq_getElem (by omega)]; rfl
theorem JJ {α : Type} (xs : List α) (k : Nat) : xy xs (some (k : Int)) none = xs.drop k := by
 unfold xy
 rw [HT.sIx_nat, HT.sIx_none, List.take_of_length_le (by rw [List.length_drop]; omega)]
 by_cases h : k <= xs.length
 ·rw [Nat.min_eq_left h]
 ·rw [Nat.min_eq_right (by omega), List.drop_length, List.drop_of_length_le (by omega)]
theorem Vx {α : Type} (xs : List α) (k : Nat) : xy xs none (some (k : Int)) = xs.take k := by
 unfold xy
 rw [HT.sIx_nat, HT.sIx_none, List.drop_zero, Nat.sub_zero]
 by_cases h : k <= xs.length
 ·rw [Nat.min_eq_left h]
 ·rw [Nat.min_eq_right (by omega), List.take_of_length_le (Nat.le_refl _), List.take_of_length_le (by omega)]
theorem zv {a kO : AS} {B : MH} {D : kl} {ρ : ASt} {M : MH} (h : ∀ r, r = kO -> yA a r B D ρ M) : yA a kO B D ρ M := h kO rfl
theorem Fr.non {M M' : MH} (f : Fr M M') {p : Addr} (h : M' p = none) : M p = none := by
 cases e : M p with
 | none => rfl
 | some o => rw [f p (by rw [e]; exact fun z => nomatch z), e] at h; cases h
noncomputable abbrev ilD (os : List Int) : Dat := .lst (os.map .int)
theorem QC (ns : List Int) (M : MH) : qB (.d (ilD ns)) M = some (ns.map fun i => .d (.int i)) := by rw [X0, Jg]
noncomputable def WW (K : PySem.W.Frag) (u : TA) : TE := tCB (fun xs H Q => ∃ p ys, xs = [V.ref p] /\ (SqL K H p ys \/ SqT K H p ys) /\ Q (V.int ys.length) H) u
theorem Vv {X : Cx} {e : Expr} {u : TA} (h : PE X e (tCB (fun xs H Q => ∃ p ys, xs = [V.ref p] /\ (SqL X.K H p ys \/ SqT X.K H p ys) /\ Q (V.int ys.length) H) u)) : PE X e (WW X.K u) := h
noncomputable def WT (K : PySem.W.Frag) (b : AA) : AE := fun ρ M Q => b ρ M fun xs M1 => ∃ l, xs = [.d (.scr K l)] /\ Q (.d (.int (l.length : Nat))) M1
theorem KN {K : PySem.W.Frag} {u : TA} {b : AA} (h : jg u b) : zN (WW K u) (WT K b) := ⟨fun w e q k => h.go w e q fun xs M1 v H1 O1 ⟨l, e1, q1⟩ k1 w1 r1 => by
 subst e1
 obtain ⟨v, rfl, rv⟩ := qJ r1
 obtain ⟨a, rfl, hs⟩ := QU rv
 exact ⟨a, _, rfl, .inl hs, by rw [List.length_map]; exact k _ _ _ _ _ q1 k1 w1 .int⟩⟩
noncomputable def BxM (M : MH) (b : Addr) (N : Nat) : Prop := ∃ x y z : Int, M b = some (.lst [.d (.int x), .d (.int y), .d (.int z)]) /\ 0 <= x /\ 0 <= y /\ y < 2147483648 /\ 0 <= z /\ z <= N
theorem BxM.mono {M : MH} {b : Addr} {N N' : Nat} (h : BxM M b N) (hn : N <= N') : BxM M b N' := by
 obtain ⟨x, y, z, h1, h2, h3, h4, h5, h6⟩ := h
 exact ⟨x, y, z, h1, h2, h3, h4, h5, by omega⟩
theorem BxM.ne {M : MH} {b : Addr} {N : Nat} (h : BxM M b N) : M b ≠ none := by obtain ⟨x, y, z, h1, _⟩ := h; exact qT h1
theorem BxM.bx {H : Hp} {O : Own} {M : MH} {b : Addr} {N : Nat} (w : Wf H O M) (h : BxM M b N) : Bx H b N := by
 obtain ⟨x, y, z, h1, h2⟩ := h
 obtain ⟨xs, hx, rx⟩ := w.mo b _ h1
 rw [yr (ns := [x, y, z]) rx] at hx
 exact ⟨x, y, z, hx, h2⟩
noncomputable def BxS (M M' : MH) (b : Addr) (N : Nat) : Prop := BxM M' b N /\ ∃ o, M' = mup M b o
theorem BxS.at {M M' : MH} {b : Addr} {N : Nat} (h : BxS M M' b N) {q : Addr} (hq : q ≠ b) : M' q = M q := by
 obtain ⟨_, o, rfl⟩ := h
 exact zu hq
theorem Qc {H H' : Hp} {O : Own} {M : MH} (w : Wf H O M) {b : Addr} {N N' : Nat} (hb : BxM M b N) (k : Kp [b] H H') (h : Bx H' b N') : ∃ M', BxS M M' b N' /\ Ext H O M H' O M' /\ Wf H' O M' := by
 obtain ⟨x, y, z, h1, _⟩ := hb
 obtain ⟨x', y', z', g1, g2⟩ := h
 obtain ⟨e1, e2⟩ := Ap w h1 k (ns := [x', y', z']) g1
 exact ⟨_, ⟨⟨x', y', z', zk, g2⟩, _, rfl⟩, e1, e2⟩
end L2
set_option Elab.async false
set_option linter.all false
set_option maxRecDepth 100000
set_option maxHeartbeats 4000000
namespace L2
open PySem PySem.Spec PyProof.Rows
mutual
noncomputable def pdD : Dat -> PyData
 | .bl b => .bool b
 | .int i => .int i
 | .str x => .str x
 | .lst l => .list (jb l)
 | .tup l => .tuple (jb l)
 | _ => .none
noncomputable def jb : List Dat -> List PyData
 | [] => []
 | a :: r => pdD a :: jb r
end
section
variable {X : Cx} {pins : List (Addr × Obj)} {s : Shared} {σ : St} {H : Hp} {O : Own}
theorem jx : ∀ {xs : List V} {us : List Value} {l : List Dat}, zr xs us -> xs.length = l.length -> (∀ (i : Nat) x d, xs[i]? = some x -> l[i]? = some d -> ∀ v', zt x v' -> ∃ as, Reads s.heap v' (pdD d) as) -> ∃ as, ReadsAll s.heap us (jb l) as
 | [], _, [], .nil, _, _ => ⟨_, by rw [jb]; exact .nil⟩
 | x :: xs, _, d :: l, .cons r t, hl, h => by
  obtain ⟨as, ha⟩ := h 0 x d rfl rfl _ r
  obtain ⟨bs, hb⟩ := jx t (by simpa using hl) (fun i y e h1 h2 => h (i + 1) y e (by simpa using h1) (by simpa using h2))
  exact ⟨as ++ bs, by rw [jb]; exact .cons ha hb⟩
theorem Yd (I : Inv X pins σ H s) {v : V} {d : Dat} (r : Rep H O v d) : dp d < 1000 -> ∀ v', zt v v' -> ∃ as, Reads s.heap v' (pdD d) as := by
 induction r with
 | non => intro _ v' rv; cases rv; exact ⟨_, by rw [show pdD .non = .none by simp [pdD]]; exact .none⟩
 | bl => intro _ v' rv; cases rv; exact ⟨_, by rw [pdD]; exact .bool _⟩
 | int => intro _ v' rv; obtain ⟨t, rfl⟩ := rv; exact ⟨_, by rw [pdD]; exact .int _ _⟩
 | str => intro _ v' rv; obtain ⟨t, rfl⟩ := rv; exact ⟨_, by rw [pdD]; exact .str _ _⟩
 | ty => intro h; rw [dp] at h; omega
 | rng _ _ => intro h; rw [dp] at h; omega
 | scr _ _ => intro h; rw [dp] at h; omega
 | scrK _ => intro h; rw [dp] at h; omega
 | @lst a xs l o h hl _ ih =>
  intro hd v' rv
  cases rv
  rw [dp] at hd
  obtain ⟨_, its, n, vs, hg⟩ := (show zC X.prog X.w H s.heap a (.lst xs) from I.hok a _ h)
  obtain ⟨as, ha⟩ := jx vs hl (fun i x d e1 e2 => ih i x d e1 e2 (by have := qb (List.mem_of_getElem? e2); omega))
  exact ⟨_, by rw [pdD]; exact .list hg rfl rfl (by simpa using ha)⟩
 | @tup a xs l o h hl _ ih =>
  intro hd v' rv
  cases rv
  rw [dp] at hd
  obtain ⟨_, its, vs, o, ho, hc, ⟨n, hdt⟩, _⟩ := (show zC X.prog X.w H s.heap a (.tup xs) from I.hok a _ h)
  obtain ⟨as, ha⟩ := jx vs hl (fun i x d e1 e2 => ih i x d e1 e2 (by have := qb (List.mem_of_getElem? e2); omega))
  exact ⟨_, by rw [pdD]; exact .tuple ho hc hdt (by simpa using ha)⟩
mutual
theorem KC : ∀ d : Dat, (pdD d).hasDict = false
 | .non => by simp [pdD, PyData.hasDict]
 | .bl _ => by simp [pdD, PyData.hasDict]
 | .int _ => by simp [pdD, PyData.hasDict]
 | .str _ => by simp [pdD, PyData.hasDict]
 | .ty _ => by simp [pdD, PyData.hasDict]
 | .rng _ _ _ => by simp [pdD, PyData.hasDict]
 | .scr _ _ => by simp [pdD, PyData.hasDict]
 | .lst l => by rw [pdD, PyData.hasDict]; exact vJ l
 | .tup l => by rw [pdD, PyData.hasDict]; exact vJ l
theorem vJ : ∀ l : List Dat, PyData.hasDictAll (jb l) = false
 | [] => by simp [jb, PyData.hasDictAll]
 | a :: r => by rw [jb, PyData.hasDictAll, KC a, vJ r]; rfl
end
mutual
theorem wD : ∀ d : Dat, (pdD d).depth <= dp d
 | .non => by simp [pdD, PyData.depth]
 | .bl _ => by simp [pdD, PyData.depth]
 | .int _ => by simp [pdD, PyData.depth]
 | .str _ => by simp [pdD, PyData.depth]
 | .ty _ => by simp [pdD, PyData.depth]
 | .rng _ _ _ => by simp [pdD, PyData.depth]
 | .scr _ _ => by simp [pdD, PyData.depth]
 | .lst l => by rw [pdD, PyData.depth, dp]; exact Nat.succ_le_succ (kJ l)
 | .tup l => by rw [pdD, PyData.depth, dp]; exact Nat.succ_le_succ (kJ l)
theorem kJ : ∀ l : List Dat, PyData.depthAll (jb l) <= dps l
 | [] => by simp [jb, PyData.depthAll]
 | a :: r => by rw [jb, PyData.depthAll, dps]; exact Nat.max_le.mpr ⟨Nat.le_trans (wD a) (Nat.le_max_left _ _), Nat.le_trans (kJ r) (Nat.le_max_right _ _)⟩
end
noncomputable def WO : List V -> Hp -> VK -> Prop := fun xs H Q => ∃ a O d, xs = [.ref a] /\ Rep H O (.ref a) d /\ dp d <= 40 /\ (pdD d).showable = true /\ (pdD d).shown.length <= sizeLine /\ Q (.str (pdD d).shown) H
theorem jQ (hg : X.A.guards = some []) (hu : X.A.units + 64 < cLine) : qk X (.type "str") WO := by
 intro pins s σ H xs us Q I r h
 obtain ⟨a, O, d, rfl, rd, hd, hs, hz, q⟩ := h
 have hdp := wD d
 obtain ⟨u, rfl, ru⟩ : ∃ u, us = [u] /\ zt (.ref a) u := by
  cases r with
  | cons p q => cases q; exact ⟨_, rfl, p⟩
 cases ru
 obtain ⟨as, ha⟩ := Yd I rd (by omega) _ rfl
 exact str_of_reads ha hs (PyData.noDict_hsm (KC d)) hg (by omega) (fun _ _ e => e) (fun h' u tk hk => ⟨.str _, H, I.kept hk, ⟨_, rfl⟩, q⟩) hz
end
noncomputable def shD (d : Dat) : Str := (pdD d).shown
noncomputable def WN : List AV -> MH -> AK -> Prop := fun xs M Q => ∃ x d, xs = [x] /\ yx x M = some d /\ ((∃ l, d = .lst l) \/ ∃ l, d = .tup l) /\ dp d <= 40 /\ (pdD d).showable = true /\ (pdD d).shown.length <= sizeLine /\ Q (.d (.str (shD d))) M
theorem KB : yy WO WN := ⟨fun w r ⟨x, d, e, hx, hk, h1, h3, h4, q⟩ k => by
 subst e
 obtain ⟨v, rfl, rv⟩ := qJ r
 obtain ⟨O', r'⟩ := yl w rv hx
 obtain ⟨a, rfl⟩ : ∃ a, v = .ref a := by
  rcases hk with ⟨l, rfl⟩ | ⟨l, rfl⟩
  ·cases r' with | lst _ _ => exact ⟨_, rfl⟩
  ·cases r' with | tup _ _ => exact ⟨_, rfl⟩
 exact ⟨a, O', d, rfl, r', h1, h3, h4, k _ _ _ _ _ q .refl w .str⟩⟩
section
variable {X : Cx}
end
structure Sh (b : Nat) (d : Dat) : Prop where
 s : (pdD d).showable = true
 l : (pdD d).shown.length <= b
theorem Sh.mono {b c : Nat} {d : Dat} (h : Sh b d) (k : b <= c) : Sh c d := ⟨h.s, Nat.le_trans h.l k⟩
theorem Ds {i : Int} (h : i.natAbs < 10 ^ 20) : Sh 22 (.int i) := by
 have h1 : i.natAbs.log2 < 1920 := by
  by_cases z : i.natAbs = 0
  ·rw [z]; decide
  ·exact (Nat.log2_lt z).mpr (Nat.lt_trans h (by decide +kernel))
 refine ⟨by rw [pdD, PyData.showable]; exact decide_eq_true h1, ?_⟩
 rw [pdD, PyData.shown]
 have := int_text_length_le10 (a := i) (k := 20) (by decide) h
 have e : (Str.ofString (toString i)).length = (toString i).length := PySem.ofString_length _
 show (Str.ofString (toString i)).length <= 22
 omega
theorem Vk {l : List Dat} (h : ∀ d ∈ l, (pdD d).showable = true) : PyData.showableAll (jb l) = true := by
 induction l with
 | nil => simp [jb, PyData.showableAll]
 | cons a r ih => rw [jb, PyData.showableAll, h a (by simp), ih fun d hd => h d (by simp [hd])]; rfl
theorem vA {b : Nat} {l : List Dat} (h : ∀ d ∈ l, (pdD d).shown.length <= b) : ((PyData.shownAll (jb l)).map (·.length)).sum <= l.length * b /\ (PyData.shownAll (jb l)).length = l.length := by
 induction l with
 | nil => simp [jb, PyData.shownAll]
 | cons a r ih =>
  obtain ⟨h1, h2⟩ := ih fun d hd => h d (by simp [hd])
  have h3 := h a (by simp)
  rw [jb, PyData.shownAll]
  simp only [List.map_cons, List.sum_cons, List.length_cons]
  refine ⟨?_, by rw [h2]⟩
  rw [Nat.add_mul, Nat.one_mul]
  omega
theorem YE {b n : Nat} {l : List Dat} (hn : l.length <= n) (h : ∀ d ∈ l, Sh b d) : Sh (n * b + 2 * n + 3) (.lst l) := by
 obtain ⟨h1, h2⟩ := vA (fun d hd => (h d hd).l)
 refine ⟨by rw [pdD, PyData.showable]; exact Vk fun d hd => (h d hd).s, ?_⟩
 rw [pdD, PyData.shown]
 have := listText_len_le (PyData.shownAll (jb l))
 have hm : l.length * b <= n * b := Nat.mul_le_mul_right b hn
 omega
end L2
set_option Elab.async false
set_option linter.all false
set_option maxRecDepth 100000
set_option maxHeartbeats 4000000
namespace L2
open PySem PySem.Spec PyProof.Rows
structure SB (M0 M : MH) (b : Addr) (N : Nat) : Prop where
 bx : BxM M b N
 fr : ∀ q, M0 q ≠ none -> q ≠ b -> M q = M0 q
 b0 : M0 b ≠ none
theorem SB.refl {M : MH} {b : Addr} {N : Nat} (h : BxM M b N) : SB M M b N := ⟨h, fun _ _ _ => rfl, h.ne⟩
theorem SB.go {M0 M M' : MH} {b : Addr} {N N' : Nat} (s : SB M0 M b N) (t : BxS M M' b N') : SB M0 M' b N' := ⟨t.1, fun q hq hb => (t.at hb).trans (s.fr q hq hb), s.b0⟩
theorem SB.mono {M0 M : MH} {b : Addr} {N N' : Nat} (s : SB M0 M b N) (h : N <= N') : SB M0 M b N' := ⟨s.bx.mono h, s.fr, s.b0⟩
theorem BxM.put {M : MH} {b p : Addr} {N : Nat} (h : BxM M b N) (n : b ≠ p) (o : MO) : BxM (mup M p o) b N := by
 obtain ⟨x, y, z, h1, h2⟩ := h
 exact ⟨x, y, z, by rw [zu n]; exact h1, h2⟩
theorem SB.new {M0 M : MH} {b p : Addr} {N : Nat} (s : SB M0 M b N) (hp : M p = none) : M0 p = none /\ p ≠ b := by
 have hb : p ≠ b := fun z => s.bx.ne (by rw [<- z]; exact hp)
 refine ⟨?_, hb⟩
 cases e : M0 p with
 | none => rfl
 | some o => rw [s.fr p (by rw [e]; exact fun z => nomatch z) hb, e] at hp; cases hp
theorem SB.put {M0 M : MH} {b p : Addr} {N : Nat} (s : SB M0 M b N) (h0 : M0 p = none) (hb : p ≠ b) (o : MO) : SB M0 (mup M p o) b N :=
 ⟨s.bx.put (Ne.symm hb) o, fun q hq hqb => by rw [zu (fun z => hq (by rw [z]; exact h0))]; exact s.fr q hq hqb, s.b0⟩
theorem SB.fin {M0 M : MH} {b : Addr} {N : Nat} (s : SB M0 M b N) (d : Dat) : ∃ M'', ww M0 M (.d d) (.d d) M'' /\ BxS M0 M'' b N := by
 obtain ⟨x, y, z, h1, h2⟩ := s.bx
 refine ⟨mup M0 b (.lst [.d (.int x), .d (.int y), .d (.int z)]), ⟨fun q => ?_, fun q o e => ?_, .inl ⟨rfl, fun p z => nomatch z⟩⟩, ⟨x, y, z, zk, h2⟩, _, rfl⟩
 ·by_cases c : q = b
  ·rw [c, zk, h1]; exact .inl rfl
  ·rw [zu c]
   cases e : M0 q with
   | none => exact .inr ⟨rfl, rfl⟩
   | some o => exact .inl (by rw [s.fr q (by rw [e]; exact fun z => nomatch z) c, e])
 ·by_cases c : q = b
  ·rw [c, zk] at e
   cases e
   exact .inr fun r hr => absurd hr (vK (ds := [.int x, .int y, .int z]) rfl r)
  ·rw [zu c] at e; exact .inl e
theorem SB.frz {M0 M : MH} {b p : Addr} {N : Nat} {Q : AK} {l : List AV} {ds : List Dat} (s : SB M0 M b N) (h0 : M0 p = none) (hpb : p ≠ b) (h : M p = some (.lst l)) (hp : pur l = some ds) (q : ∀ M', BxS M0 M' b N -> Q (.d (.lst ds)) M') : rtA M0 Q (.ref p) M := by
 obtain ⟨M'', f, t⟩ := s.fin (.lst ds)
 refine ⟨_, M'', ⟨f.sub, f.cl, .inr (.inl ⟨p, l, ds, rfl, h, hp, ?_, rfl⟩)⟩, q M'' t⟩
 rw [t.at hpb]; exact h0
theorem D9 {M0 M : MH} {Q : AK} {d : Dat} (f : Fr M0 M) (q : Q (.d d) M0) : rtA M0 Q (.d d) M := ⟨_, _, QP f d, q⟩
theorem SB.frm {M M2 M' : MH} {b : Addr} {N : Nat} (f : Fr M M2) (hb : M b = none) (s : SB M2 M' b N) : Fr M M' := fun q hq => by
 have h1 : q ≠ b := fun z => hq (by rw [z]; exact hb)
 rw [s.fr q (by rw [f q hq]; exact hq) h1, f q hq]
theorem A4 {l : List Dat} {i : Int} (h0 : 0 <= i) (h1 : i < l.length) : ∃ d ∈ l, atI (l.map AV.d) i = some (.d d) := by
 have h2 : i.toNat < l.length := by omega
 refine ⟨l[i.toNat], List.getElem_mem h2, ?_⟩
 rw [Wl, BI h0 h1 .non, List.getD_eq_getElem?_getD, List.getElem?_eq_getElem h2]; rfl
theorem Wr (l m : List Dat) : pur (l.map AV.d ++ m.map AV.d) = some (l ++ m) := by rw [<- List.map_append, zZ]
theorem WC (ns : List Int) (k : Nat) : pur (xy (ns.map fun i => AV.d (.int i)) none (some (k : Int))) = some ((ns.take k).map .int) := by rw [wb, Vx, kf]
theorem Kg (ns : List Int) (k : Nat) : pur (xy (ns.map fun i => AV.d (.int i)) (some (k : Int)) none) = some ((ns.drop k).map .int) := by rw [wb, JJ, kf]
section
variable {X : Cx}
end
section
open PySem.SeqAt
open PySem.AutoSeq1 (wpAny_loadPart')
open PySem.MeetsSeq PySem.MeetsSeq2 PySem.MeetsSeq3 PySem.SeqRoads2
end
section
variable {X : Cx}
end
end L2
set_option Elab.async false
set_option linter.all false
set_option maxRecDepth 100000
set_option maxHeartbeats 4000000
namespace L2
open PySem PySem.Spec PyProof.Rows
section
variable {X : Cx} {pins : List (Addr × Obj)} {σ : St} {H : Hp} {s : Shared} {a b : Addr} {kvs : List (List Key × V)} {k : List Key} {v : V} {r : Value} {A : Around} {E : Value -> Shared -> Prop}
end
end L2
set_option Elab.async false
set_option linter.all false
set_option maxRecDepth 100000
set_option maxHeartbeats 4000000
namespace L2
open PySem PySem.Spec PyProof.Rows
section
variable {prog : Program} {w : World} {A : Around} {E : Value -> Shared -> Prop} {s : Shared}
end
section
variable {X : Cx}
end
end L2
set_option Elab.async false
set_option linter.all false
set_option maxRecDepth 100000
set_option maxHeartbeats 4000000
namespace L2
open PySem PySem.Spec PyProof.Rows
noncomputable def SmD (h h' : Heap) : Prop := ∀ b o, h.get? b = some o -> ∃ o', h'.get? b = some o' /\ o'.dict = o.dict
theorem SmD.refl (h : Heap) : SmD h h := fun _ o e => ⟨o, e, rfl⟩
theorem SmD.trans {h h1 h2 : Heap} (a : SmD h h1) (b : SmD h1 h2) : SmD h h2 := fun c o e =>
 let ⟨_, e1, d1⟩ := a c o e
 let ⟨o2, e2, d2⟩ := b c _ e1
 ⟨o2, e2, d2.trans d1⟩
theorem SmD.push (h : Heap) (o : Obj) : SmD h (h.push o) := fun _ u e => ⟨u, Heap.get?_push_of_some _ e, rfl⟩
theorem SmD.up {h : Heap} {a : Addr} {f : Obj -> Obj} (k : ∀ o, (f o).dict = o.dict /\ (o.isFreed = false -> (f o).isFreed = false)) : SmD h (h.update a f) := fun b o e => by
 by_cases c : a = b
 ·subst c
  exact ⟨_, Heap.get?_update_self f e ((k o).2 (Heap.get?_some_iff.mp e).2), (k o).1⟩
 ·exact ⟨o, (Heap.get?_update_other _ _ c).trans e, rfl⟩
structure Kd {α : Type} (t : Sem α) : Prop where
 out : ∀ (M : Model) (G : PySem.Ctx) (R : α -> Pos -> Shared -> Prop) (Ee : Value -> Pos -> Shared -> Prop) (p : Pos) (s : Shared), Sem.wp M G t R Ee p s -> Sem.wp M G t (fun a p' s' => R a p' s' /\ SmD s.heap s'.heap) Ee p s
section
variable {α β : Type}
theorem vY (a : α) : Kd (Pure.pure a : Sem α) := ⟨fun _ _ _ _ _ s h => ⟨h, SmD.refl _⟩⟩
theorem Ay (x : String) : Kd (unsupported x : Sem α) := ⟨fun _ _ _ _ _ _ h => h⟩
theorem Qo {m : Sem α} {f : α -> Sem β} (hm : Kd m) (hf : ∀ a, Kd (f a)) : Kd (m >>= f) := ⟨fun M G R Ee p s h => by
 rw [Sem.wp_bind'] at h ⊢
 refine Sem.wp_mono M G m (fun a p1 s1 h1 => ?_) (fun _ _ _ z => z) p s (hm.out M G _ Ee p s h)
 refine Sem.wp_mono M G (f a) (fun b p2 s2 h2 => ⟨h2.1, h1.2.trans h2.2⟩) (fun _ _ _ z => z) p1 s1 ((hf a).out M G R Ee p1 s1 h1.1)⟩
theorem Bc {c : Prop} [Decidable c] {t u : Sem α} (ht : Kd t) (hu : Kd u) : Kd (if c then t else u) := by split <;> assumption
theorem Wm (a : Addr) : Kd (PySem.load a) := ⟨fun _ _ R _ p s h => by
 unfold PySem.load at h ⊢
 rw [Sem.wp_load] at h ⊢
 obtain ⟨o, e, h⟩ := h
 exact ⟨o, e, h, SmD.refl _⟩⟩
theorem Jk {a : Addr} {f : Obj -> Obj} (k : ∀ o, (f o).dict = o.dict /\ (o.isFreed = false -> (f o).isFreed = false)) : Kd (PySem.update a f) := ⟨fun _ _ R _ p s h => by
 unfold PySem.update at h ⊢
 rw [Sem.wp_update] at h ⊢
 exact ⟨h.1, h.2, SmD.up k⟩⟩
theorem XG : Kd PySem.stack := ⟨fun M G R Ee p s h => by
 unfold PySem.stack at h ⊢
 rw [Sem.wp_stack] at h ⊢
 exact ⟨h, SmD.refl _⟩⟩
theorem XW (o : Obj) : Kd (PySem.alloc o) := ⟨fun _ _ R _ p s h => by
 unfold PySem.alloc at h ⊢
 rw [Sem.wp_alloc] at h ⊢
 exact ⟨h, SmD.push _ _⟩⟩
theorem Xp (v : Value) (i : Nat) : Kd (PySem.field v i) := ⟨fun _ G R Ee p s h => by
 obtain ⟨a, o, vs, x, e1, e2, e3, e4, q⟩ := (wp_field_iff G v i R Ee p s).mp h
 exact (wp_field_iff G v i _ Ee p s).mpr ⟨a, o, vs, x, e1, e2, e3, e4, q, SmD.refl _⟩⟩
theorem JF (f : Array Value -> Array Value) (o : Obj) : (Obj.mapFields f o).dict = o.dict /\ (o.isFreed = false -> (Obj.mapFields f o).isFreed = false) := by
 obtain ⟨c, d, dt, sl⟩ := o
 cases dt <;> exact ⟨rfl, fun h => h⟩
theorem Ze (v : Value) (i : Nat) (x : Value) : Kd (PySem.setField v i x) := ⟨fun _ G R Ee p s h => by
 obtain ⟨a, o, vs, e1, e2, e3, e4, q⟩ := (wp_setField_iff G v i x R Ee p s).mp h
 exact (wp_setField_iff G v i x _ Ee p s).mpr ⟨a, o, vs, e1, e2, e3, e4, q, SmD.up (JF _)⟩⟩
end
local macro_rules | `(tactic| walk_at "kd") => `(tactic| repeat' with_reducible first
  | assumption
  | exact vY _
  | exact Ay _
  | exact Xp _ _
  | exact Ze _ _ _
  | exact Wm _
  | exact XG
  | exact XW _
  | apply Bc
  | apply Qo
  | intro _
  | split)
theorem J7 (env : Env) (outer : List Env) : Kd (behindIsImport env outer) := by
 unfold behindIsImport
 walk_at "kd"
theorem Kn : Kd underTheClaimsCaller := by
 unfold underTheClaimsCaller
 walk_at "kd"
theorem Vn (env : Env) (i : Bool) (l : List Env) : Kd (keptBack env i l) := by
 have := Kn
 cases l <;> unfold keptBack <;> walk_at "kd"
theorem wJ : ∀ l : List Env, Kd (readyFrames l)
 | [] => vY _
 | env :: outer => by
  have ih := wJ outer
  have h1 := J7 env outer
  have h2 := fun i => Vn env i outer
  unfold readyFrames
  walk_at "kd"
  all_goals first | exact h2 _ | exact Jk fun o => ⟨rfl, fun z => by obtain ⟨c, d, dt, sl⟩ := o; cases dt <;> exact z⟩ | skip
theorem wk (l : List Env) : Kd (frameObject l) := by
 cases l with
 | nil => exact vY _
 | cons env outer =>
  have := wJ (env :: outer)
  unfold frameObject
  walk_at "kd"
theorem vQ : Kd frameEnvs := by
 unfold frameEnvs
 walk_at "kd"
theorem ZD (env : Env) : Kd (PySem.frameOf env) := by
 have h1 := vQ
 have h2 := wk
 unfold PySem.frameOf
 walk_at "kd"
 all_goals first | exact h2 _ | skip
theorem Yn (f : Addr) (b : Bool) : Kd (entryPlaceOf f b) := by
 unfold entryPlaceOf
 walk_at "kd"
theorem KY (a b c d e : Value) (l : List Value) : Kd (EntryCells.newEntry a b c d e l) := by
 unfold EntryCells.newEntry newFields newObj newObjAsIs
 walk_at "kd"
theorem Qr (e : Value) (env : Env) : Kd (noteFrame e env) := by
 have h1 := ZD env
 have h2 := Yn
 have h3 := KY
 unfold noteFrame
 walk_at "kd"
 all_goals first | exact h2 _ _ | exact h3 _ _ _ _ _ _ | skip
theorem kS (e : Value) (f : Option Addr) : Kd (setFlight e f) := by
 unfold setFlight
 walk_at "kd"
theorem xP (env : Env) (e : Value) : Kd (leaving env e) := Qo (Qr e env) fun _ => kS e none
theorem Kd.any {α : Type} {t : Sem α} (k : Kd t) {M : Model} {A : Around} {Q : α -> Shared -> Prop} {E : Value -> Shared -> Prop} {s : Shared} (h : wpAny M A t Q E s) : wpAny M A t (fun a s' => Q a s' /\ SmD s.heap s'.heap) E s :=
 fun G p hG => k.out M G _ _ p s (h G p hG)
end L2
set_option Elab.async false
set_option linter.all false
set_option maxRecDepth 100000
set_option maxHeartbeats 4000000
namespace L2
open PySem PySem.Spec PyProof.Rows
theorem zC.here {P : Program} {w : World} {H : Hp} {h : Heap} {a : Addr} {o : HO} (x : zC P w H h a o) : ∃ u, h.get? a = some u := by
 cases o with
 | lst xs => obtain ⟨_, _, _, _, e⟩ := x; exact ⟨_, e⟩
 | tup xs => obtain ⟨_, _, _, o, e, _⟩ := x; exact ⟨_, e⟩
 | dK kvs => obtain ⟨_, _, _, _, o, _, _, e, _⟩ := x; exact ⟨_, e⟩
 | dT kvs => obtain ⟨_, _, _, _, o, _, _, e, _⟩ := x; exact ⟨_, e⟩
 | set S n => obtain ⟨o, _, _, _, e, _⟩ := x; exact ⟨_, e⟩
 | ins C dx fs => obtain ⟨_, _, _, e, _⟩ := x; exact ⟨_, e⟩
 | own y => exact x
 | xd fs => obtain ⟨_, ⟨_, _, _, e, _⟩, _⟩ := x; exact ⟨_, e⟩
 | rng lo hi => obtain ⟨_, _, _, e⟩ := x; exact ⟨_, e⟩
 | frz ob u => obtain ⟨e, _⟩ := x; exact ⟨_, e⟩
 | tbl ps => exact ⟨_, x⟩
 | met f y => exact ⟨_, x⟩
 | ext φ => exact x.2.1
structure kA (P : Program) (w : World) (outer : List Env) (H : Hp) (s : Shared) (B : Heap) (H' : Hp) (s' : Shared) : Prop where
 os : s'.os = s.os
 bare : AllBare s'.gens
 stay : B.StaysIn s'.heap
 cov : ∀ b o, s.heap.get? b = some o -> b ∉ frs outer -> ∃ o', B.get? b = some o' /\ (H b = none -> o' = o)
 slot : ∀ b o, s.heap.get? b = some o -> b ∈ frs outer -> ∃ sl, s'.heap.get? b = some { o with slots := sl }
 frf : ∀ b ∈ frs outer, H b = none
 free : ∀ b o, s.heap.get? b = some o -> H b = none -> H' b = none
 tups : ∀ b xs, H b = some (.tup xs) -> H' b = some (.tup xs)
 frzs : ∀ b o u, H b = some (.frz o u) -> H' b = some (.frz o u)
 tbls : ∀ b ps, H b = some (.tbl ps) -> ∃ more, H' b = some (.tbl (ps ++ more))
 hok : HOk P w H' B
section
variable {P : Program} {w : World} {outer : List Env} {H H' : Hp} {s s' : Shared} {B h' : Heap}
theorem kA.un (a : kA P w outer H s B H' s') : Un (frs outer) [] H H' s.heap s'.heap where
 keep := fun b o e n hb _ => by
  obtain ⟨o', e1, e2⟩ := a.cov b o e hb
  rw [e2 n] at e1
  exact a.stay b o e1
 slot := fun b o e _ hb _ => a.slot b o e hb
 free := fun b o e n _ => a.free b o e n
 there := fun b o e _ => by
  by_cases hb : b ∈ frs outer
  ·obtain ⟨sl, z⟩ := a.slot b o e hb
   exact ⟨_, z⟩
  ·obtain ⟨o', e1, _⟩ := a.cov b o e hb
   exact ⟨_, a.stay b o' e1⟩
 tups := a.tups
 frzs := a.frzs
 tbls := a.tbls
theorem kA.ok (a : kA P w outer H s B H' s') : HOk P w H' s'.heap := a.hok.kept a.stay
theorem kA.step (a : kA P w outer H s B H' s') {B0 : Heap} (fr : s'.heap.FunFrames B0 outer) (k : B.StaysIn h') (u : s'.heap.UpToSlots h') : kA P w outer H s B H' { s' with heap := h' } :=
 ⟨a.os, a.bare, k, a.cov, fun b o e hb => by
  obtain ⟨sl, z⟩ := a.slot b o e hb
  obtain ⟨_, o2, e2, nf⟩ := fr.mem hb
  rw [z] at e2; cases e2
  obtain ⟨sl2, z2⟩ := u b _ z nf
  exact ⟨sl2, z2⟩, a.frf, a.free, a.tups, a.frzs, a.tbls, a.hok⟩
end
section
variable {X : Cx} {pins : List (Addr × Obj)} {σ : St} {H H' : Hp} {s s' : Shared} {B h' : Heap}
theorem Inv.ltS (I : Inv X pins σ H s) {b : Addr} {o : Obj} (e : X.s₀.heap.get? b = some o) : b ≠ X.env.locals := fun z => by
 have h := Nat.lt_of_lt_of_le (Heap.lt_size e) I.ok.above
 rw [z] at h
 exact Nat.lt_irrefl _ h
theorem Inv.notStk (I : Inv X pins σ H s) {b : Addr} {o : Obj} (e : X.s₀.heap.get? b = some o) (hb : b ∉ frs X.outer) : b ∉ frs X.stack := fun z => (List.mem_cons.mp (I.stkSub b z)).elim (I.ltS e) hb
theorem yL {X : Cx} (hs : X.stack = X.env :: X.outer) {b : Addr} (hb : b ∈ frs X.outer) : b ∈ frs X.stack := by
 rw [hs]; unfold frs; rw [List.filterMap_cons]
 cases X.env.frame with
 | none => exact hb
 | some f => exact List.mem_cons_of_mem _ hb
theorem kA.out (I : Inv X pins σ H s) (hs : X.stack = X.env :: X.outer) (hex : X.ex = []) (a : kA X.prog X.w X.stack H s B H' s') : kA X.prog X.w X.outer X.H₀ X.s₀ B H' s' := by
 have nx : ∀ b, b ∉ X.ex := fun b => by rw [hex]; simp
 refine ⟨a.os.trans I.os, a.bare, a.stay, fun b o e hb => ?_, fun b o e hb => ?_, I.ok.frf, fun b o e n => ?_, fun b xs e => a.tups b xs (I.base.tups b xs e), fun b o u e => a.frzs b o u (I.base.frzs b o u e), fun b ps e => ?_, a.hok⟩
 ·obtain ⟨o1, e1⟩ := I.base.there b o e (nx b)
  obtain ⟨o', e2, e3⟩ := a.cov b o1 e1 (I.notStk e hb)
  refine ⟨o', e2, fun n => ?_⟩
  have := I.base.keep b o e n hb (nx b)
  rw [e1] at this; cases this
  exact e3 (I.base.free b o e n (nx b))
 ·obtain ⟨sl, e1⟩ := I.base.slot b o e (I.ok.frf b hb) hb (nx b)
  obtain ⟨sl2, e2⟩ := a.slot b _ e1 (yL hs hb)
  exact ⟨sl2, e2⟩
 ·obtain ⟨o1, e1⟩ := I.base.there b o e (nx b)
  exact a.free b o1 e1 (I.base.free b o e n (nx b))
 ·obtain ⟨m1, e1⟩ := I.base.tbls b ps e
  obtain ⟨m2, e2⟩ := a.tbls b _ e1
  exact ⟨m1 ++ m2, by rw [e2, Array.append_assoc]⟩
noncomputable def xD (X : Cx) (s : Shared) (x : Addr) : Heap := PySem.W.hideAll s.heap (x :: frs X.stack)
theorem Vm (I : Inv X pins σ H s) {x : Addr} (hx : H x = none) : HOk X.prog X.w H (xD X s x) := fun a o e => by
 refine (I.hok a o e).stay (fun b u hb q => PySem.W.hideAll_get _ q fun z => ?_) (fun _ q => q) fun _ _ q => q
 have : H b = none := by
  rcases List.mem_cons.mp z with rfl | z
  ·exact hx
  ·exact I.stkFree b z
 rcases hb with rfl | hb
 ·rw [e] at this; cases this
 ·rw [hb] at this; cases this
theorem ZJ (I : Inv X pins σ H s) (hs : X.stack = X.env :: X.outer) (hex : X.ex = []) {x : Addr} (hx0 : X.s₀.heap.get? x = none) (hx : H x = none) (st : (xD X s x).StaysIn h') (us : s.heap.UpToSlots h') :
  kA X.prog X.w X.outer X.H₀ X.s₀ (xD X s x) H { s with heap := h' } := by
 have nx : ∀ b, b ∉ X.ex := fun b => by rw [hex]; simp
 have hid : ∀ b o o', X.s₀.heap.get? b = some o -> b ∉ frs X.outer -> s.heap.get? b = some o' -> (xD X s x).get? b = some o' := fun b o o' e hb e1 => PySem.W.hideAll_get _ e1 fun z => by
  rcases List.mem_cons.mp z with rfl | z
  ·rw [hx0] at e; cases e
  ·exact I.notStk e hb z
 refine ⟨I.os, I.bare, st, fun b o e hb => ?_, fun b o e hb => ?_, I.ok.frf, fun b o e n => I.base.free b o e n (nx b), I.base.tups, I.base.frzs, I.base.tbls, Vm I hx⟩
 ·obtain ⟨o1, e1⟩ := I.base.there b o e (nx b)
  refine ⟨o1, hid b o o1 e hb e1, fun n => ?_⟩
  have := I.base.keep b o e n hb (nx b)
  rw [e1] at this; cases this; rfl
 ·obtain ⟨sl, e1⟩ := I.base.slot b o e (I.ok.frf b hb) hb (nx b)
  obtain ⟨_, o2, e2, nf⟩ := I.stack.mem (yL hs hb)
  rw [e1] at e2; cases e2
  obtain ⟨sl2, e3⟩ := us b _ e1 nf
  exact ⟨sl2, e3⟩
end
structure Air (P : Program) (w : World) (outer : List Env) (H : Hp) (s : Shared) (x C : Addr) (d : Option Addr) (H' : Hp) (s' : Shared) : Prop where
 ex : ∃ B a0, kA P w outer H s B H' s' /\ Heap.FlyingW B outer x (.ref C) a0 s'.heap
 dct : ∃ o, s'.heap.get? x = some o /\ o.dict = d
noncomputable def CX1 (P : Program) (w : World) : CXT := fun outer H s E e s' => ∃ x C d H', e = .ref x /\ Air P w outer H s x C d H' s' /\ E (.ref C) d H'
theorem CX1.imp {P : Program} {w : World} {outer : List Env} {H : Hp} {s s' : Shared} {E E' : XK} {e : Value} (h : CX1 P w outer H s E e s') (k : ∀ c d H', E c d H' -> E' c d H') : CX1 P w outer H s E' e s' :=
 let ⟨x, C, d, H', e1, a, q⟩ := h
 ⟨x, C, d, H', e1, a, k _ _ _ q⟩
structure DX (X : Cx) (E : XK) : Prop where
 stk : X.stack = X.env :: X.outer
 ex : X.ex = []
 fr : X.env.frame = some X.env.locals
 xe : X.xe = fun e s' => wpAny (model X.prog X.w) X.A (leaving X.env e) (fun _ s'' => CX1 X.prog X.w X.outer X.H₀ X.s₀ E e s'') (fun e' s'' => CX1 X.prog X.w X.outer X.H₀ X.s₀ E e' s'') s'
section
variable {X : Cx} {E : XK} {pins : List (Addr × Obj)} {σ : St} {H H' : Hp} {s s' : Shared}
theorem DX.pass (D : DX X E) : vI (CX1 X.prog X.w) X E := by
 intro pins σ H s e s' I h
 obtain ⟨x, C, d, H', rfl, ⟨⟨B, a0, a, fl⟩, o, ho, hd⟩, q⟩ := h
 rw [D.xe]
 have hs := D.stk
 rw [hs] at fl
 refine wpAny_mono ((xP X.env (.ref x)).any (wpAny_leaves_onW (E := fun _ _ => False) (Q := fun _ s2 => ∃ h', s2 = { s' with heap := h' } /\ Heap.FlyingW B X.outer x (.ref C) a0 h' /\ s'.heap.UpToSlots h') (by rw [<- hs]; exact I.ok.frames) D.fr fl fun h' f1 us => ⟨h', rfl, f1, us⟩)) (fun _ s2 h2 => ?_) fun _ _ z => z.elim
 obtain ⟨⟨h', rfl, f1, us⟩, sd⟩ := h2
 obtain ⟨o', ho', hd'⟩ := sd x o ho
 exact ⟨x, C, d, H', rfl, ⟨⟨B, a0, (a.out I hs D.ex).step (B0 := B) (by
  obtain ⟨_, _, f3, _⟩ := fl
  exact f3.2.2) f1.1 us, f1⟩, o', ho', hd'.trans hd⟩, q⟩
theorem DX.raise (D : DX X E) (I : Inv X pins σ H s) {x C : Addr} {d : Option Addr} {oe : Obj} {vs : Array Value} {a0 : Value} {h1 : Heap} (k : ∀ b o, b ≠ x -> s.heap.get? b = some o -> h1.get? b = some o) (kx : ∀ o, s.heap.get? x = some o -> ∃ vs, o.data = .fields vs)
  (he : h1.get? x = some oe) (hc : oe.cls = .ref C) (hd : oe.dict = d) (hf : oe.data = .fields vs) (hv1 : vs[1]? = some .none) (hv0 : vs[0]? = some a0) (hx0 : X.s₀.heap.get? x = none) (hx : H x = none) (q : E (.ref C) d H) : X.xe (.ref x) { s with heap := h1 } := by
 rw [D.xe]
 have hs := D.stk
 have st1 : (xD X s x).StaysIn h1 := fun b o e => k b o (fun z => by rw [z, xD, PySem.W.hideAll_none _ (List.mem_cons_self)] at e; cases e) (PySem.W.of_hideAll _ e)
 have us1 : s.heap.UpToSlots h1 := fun b o e nf => by
  by_cases c : b = x
  ·rw [c] at e
   obtain ⟨vs, z⟩ := kx o e
   exact absurd z (nf vs)
  ·exact ⟨o.slots, k b o c e⟩
 have fr0 : s.heap.FunFrames (xD X s x) (X.env :: X.outer) := by
  have := I.stack
  rw [hs] at this
  exact PySem.W.funFrames_hide this fun env he b hb => List.mem_cons_of_mem _ (by rw [hs]; exact List.mem_filterMap.mpr ⟨env, he, hb⟩)
 have fr1 : h1.FunFrames (xD X s x) (X.env :: X.outer) := fr0.of_keeps fun b o e nf => by
  obtain ⟨sl, z⟩ := us1 b o e nf
  exact ⟨_, z, rfl⟩
 have xn : (xD X s x).get? x = none := PySem.W.hideAll_none _ List.mem_cons_self
 refine wpAny_mono ((xP X.env (.ref x)).any (wpAny_leaving_firstW (s := { s with heap := h1 }) (E := fun _ _ => False) (base := xD X s x) (Q := fun _ s2 => ∃ h', s2 = { s with heap := h' } /\ Heap.LeftW (xD X s x) (X.env :: X.outer) x oe.cls a0 h1 h') (by rw [<- hs]; exact I.ok.frames) fr1 D.fr he st1 xn hf hv1 hv0 fun h' hl => ⟨h', rfl, hl⟩)) (fun _ s2 h2 => ?_) fun _ _ z => z.elim
 obtain ⟨⟨h', rfl, l1, l2, l3, l4⟩, sd⟩ := h2
 obtain ⟨o', ho', hd'⟩ := sd x oe he
 rw [hc] at l3
 exact ⟨x, C, d, H, rfl, ⟨⟨xD X s x, a0, ZJ I hs D.ex hx0 hx l1 (us1.trans l4), l1, xn, l2.2.2, l3⟩, o', ho', hd'.trans hd⟩, q⟩
end
end L2
set_option Elab.async false
set_option linter.all false
set_option maxRecDepth 100000
set_option maxHeartbeats 4000000
namespace L2
open PySem PySem.Spec PyProof.Rows
noncomputable def vh (CX : CXT) (X : Cx) (E : St -> XK) : Prop := ∀ (pins : List (Addr × Obj)) (σ : St) (H : Hp) (s : Shared) (e : Value) (s' : Shared), Inv X pins σ H s -> CX X.stack H s (E σ) e s' -> X.xe e s'
noncomputable def vC (sp : Sp) (E : St -> XK) (t : TA) : TE := fun σ H Q => t σ H fun vs H1 => sp vs H1 Q (E σ)
noncomputable def DfX (P : Program) (w : World) (K : PySem.W.Frag) (mg : Str -> Option Value) (base : Heap) (x : Str) (ps : List Str) (k : Nat) (sp : Sp) : Prop :=
 ∃ f fd, jv P w K mg base (CX1 P w) k f fd ps sp /\ xq K fd ps [] /\ PySem.W.keepIn K (.ref f) = true /\ mg x = some (.ref f)
theorem DfX.mono {P : Program} {w : World} {K : PySem.W.Frag} {mg : Str -> Option Value} {base : Heap} {x : Str} {ps : List Str} {j k : Nat} {sp : Sp} (D : DfX P w K mg base x ps j sp) (h : j <= k) : DfX P w K mg base x ps k sp :=
 let ⟨f, fd, F, r⟩ := D
 ⟨f, fd, F.mono h, r⟩
section
variable {X : Cx} {k : Nat} {x : Str} {ps : List Str} {sp : Sp} {E : St -> XK} {p pos : Pos} {e : Expr} {es : List Expr} {t : TA}
theorem Vc {CX : CXT} {f : Addr} {fd : FuncData} {pins : List (Addr × Obj)} {σ : St} {H : Hp} {s : Shared} {Q : VK} {us : List Value} {vs : List V} (F : jv X.prog X.w X.K X.mg X.base CX k f fd ps sp) (hr : qL k X.A) (hb : xq X.K fd ps []) (hx : vh CX X E)
  (I : Inv X pins σ H s) (r : zr vs us) (h : sp vs H Q (E σ)) : wpAny (model X.prog X.w) X.A (call (.ref f) us) (EP X pins σ Q) X.xe s := by
 have hl : (us ++ []).length = ps.length := by rw [List.append_nil, <- r.length]; exact F.len _ _ _ _ h
 have b1 := hb s us I.kIn hl
 rw [List.append_nil] at b1
 refine wpAny_call (codeAny_mono (F.run X.A X.stack s H ⟨us, []⟩ us vs Q (E σ) hr I.env0 b1 r h) fun r s' hq => ?_)
 cases r with
 | error e => exact hx pins σ H s e s' I hq
 | ok fl =>
  cases fl with
  | ret u => exact I.after hq
  | next => exact False.elim hq
  | brk => exact False.elim hq
  | cont => exact False.elim hq
theorem QR (D : DfX X.prog X.w X.K X.mg X.base x ps k sp) (hr : qL k X.A) (hg : Gl X x) (hx : vh (CX1 X.prog X.w) X E) (ha : PA X (e :: es) t) (hdb : (x == ("__debug__" : Str)) = false := by decide)
  (he : starEach (e :: es) X.env = (false, eval e X.env) :: starEach es X.env := by rfl) (hpl : (backTo pos (starEach es X.env)).any (·.1) = false := by rfl) : PE X (.Call (.Name x p) (e :: es) [] pos) (vC sp E t) := by
 obtain ⟨f, fd, F, b, kp, m⟩ := D
 intro pins s σ H Q I h
 refine wpAny_Call_Name_kw (jO I hg m ?_ hdb)
 refine PySem.W.callWith_K (h₀ := X.base) I.ok.mod.kin kp (thn (ha pos pins s σ H _ I h) fun us s1 ⟨vs, H1, I1, r, q⟩ => ⟨I1.kIn, ?_⟩) he hpl
 exact Vc F hr b hx I1 r q
theorem DX.passX {E0 : XK} (D : DX X E0) : vh (CX1 X.prog X.w) X fun _ => E0 := fun pins σ H s e s' I h => D.pass pins σ H s e s' I h
end
theorem Bp {P : Program} {w : World} {K : PySem.W.Frag} {mg : Str -> Option Value} {base : Heap} {x : Str} {st : Stmt} {N ps : List Str} {k : Nat} {sp : Sp} (a : At K mg x st) (S : zA N ps (zj st))
  (hb : ∀ (kV doc pm : Value) (an : Option Addr) (cdv ct : Value) (us : List Value), us.length = ps.length -> bindArgs (PySem.W.fnOf x x (qF st) (zX st) (zj st) .none kV doc pm an cdv ct) ⟨us, []⟩ = pure (ps.zip us))
  (len : ∀ vs H Q E, sp vs H Q E -> vs.length = ps.length)
  (hbody : ∀ (f : Addr) (cdv : Value) (A : Around) (outer : List Env) (s : Shared) (H : Hp) (vs : List V) (Q : VK) (E : XK), qL k (A.deeper (envOfC x (zj st) s.heap.objs.size f cdv)) -> sp vs H Q E ->
   ∃ t, (DX (xa (CX1 P w) P w K mg base N x (zj st) f cdv A outer s H E) E -> PSs (xa (CX1 P w) P w K mg base N x (zj st) f cdv A outer s H E) (zX st) t) /\ t { nx := fun _ H' => Q .non H', rt := Q } (start N vs) H) : DfX P w K mg base x ps (k + 1) sp := by
 obtain ⟨f, fd, F, m⟩ := a
 refine ⟨f, fd, ?_, F.binds hb, F.kp, m⟩
 obtain ⟨oc, od, kV, doc, pm, an, cdv, ct, osl, rfl, lk, hcd⟩ := F.ex
 refine Ab lk hcd S len fun A outer s H vs Q E hr hsp => ?_
 obtain ⟨t, ht, q⟩ := hbody f cdv A outer s H vs Q E hr hsp
 exact ⟨t, ht ⟨rfl, rfl, rfl, rfl⟩, q⟩
abbrev Y9 : List Value := [.type "ValueError", .type "Exception", .type "BaseException", .type "object"]
theorem VW {K : PySem.W.Frag} {h : Heap} {C : Addr} {bmB : List Value} {newId : String} (X : K.In h) (q : PySem.W.excIn K C bmB newId = true) :
  ∃ bm N nm qn bs hdct sn sub ab col dd k0 k1 k2 k3 k5 mN, h.get? C = some (excClassObj nm qn C N bs bm hdct sn sub ab col dd k0 k1 k2 k3 k5 newId) /\ h.Ns N mN /\ mN "__init__" = none /\ OwnTail h bmB bm := by
 unfold PySem.W.excIn at q
 split at q
 ·rename_i dd cd sl ho
  split at q
  ·rename_i C' bm k0 k1 k2 k3 n k5 hm hs
   simp only [Bool.and_eq_true, beq_iff_eq, Bool.not_eq_true'] at q
   obtain ⟨⟨⟨⟨⟨z1, z2⟩, z3⟩, z4⟩, z5⟩, z6⟩ := q
   subst z1 z2
   obtain ⟨c1, c2, c3, c4, c5, c6, c7, c8, c9, c10, c11⟩ := cd
   dsimp only at hm z3 z5 z6
   subst hm z3
   have es : sl = #[k0, k1, k2, k3, some (.builtin n), k5] := Array.ext' hs
   subst es
   exact ⟨bm, c4, c1, c5, c2, c6, c7, c8, c9, c10, dd, k0, k1, k2, k3, k5, _, X _ _ ho, .of_isNs (PySem.W.isNs_of_in X z5), PySem.W.nsMap_none_of_in X z5 z6, PySem.W.tail_of_in X z4⟩
  ·cases q
 ·cases q
noncomputable def Ku (C : Addr) (E : St -> XK) (t : TA) : TS := fun _ σ H => t σ H fun vs H1 => vs.length <= sizeLine /\ E σ (.ref C) none H1
section
variable {X : Cx} {E : XK} {C : Addr} {x : Str} {np cpos pos : Pos} {e : Expr} {es : List Expr} {t : TA}
theorem xR (D : DX X E) (hc : X.calm = true) (q : PySem.W.excIn X.K C Y9 "ValueError.__new__" = true) (hg : Gl X x) (hm : X.mg x = some (.ref C)) (ha : PA X (e :: es) t) (hdb : (x == ("__debug__" : Str)) = false := by decide)
  (he : starEach (e :: es) X.env = (false, eval e X.env) :: starEach es X.env := by rfl) (hpl : (backTo cpos (starEach es X.env)).any (·.1) = false := by rfl) :
  PS X (.Raise (some (.Call (.Name x np) (e :: es) [] cpos)) none pos) (Ku C (fun _ => E) t) := by
 intro pins s σ H De I h
 obtain ⟨bm, N, nm, qn, bs, hdct, sn, sub, ab, col, dd, k0, k1, k2, k3, k5, mN, hC, hN, hni, T⟩ := VW I.ok.mod.kin q
 refine wpAny_Raise_call_subU (C := C) (nm := nm) (q := qn) (N := N) (bs := bs) (bm := bm) (hdct := hdct) (sn := sn) (sub := sub) (ab := ab) (col := col) (dd := dd) (k0 := k0) (k1 := k1) (k2 := k2) (k3 := k3) (k5 := k5)
  PySem.F.excBase_ValueError (by decide) PySem.F.excBase_ValueError (mN := mN) (T.hasType PySem.F.excBase_ValueError.hasBase) (I.ok.hd hc) (by rw [he]; show (false || (backTo cpos (starEach es X.env)).any (·.1)) = false; rw [hpl]; rfl) hni (jO I hg hm ⟨rfl, ?_⟩ hdb)
 have := ha cpos pins s σ H _ I h
 rw [he] at this ⊢
 refine Calls.evalArgs_plain (wpAny_mono this (fun us s2 h2 => ?_) fun _ _ y => y)
 obtain ⟨vs, H1, I1, r, hl, q1⟩ := h2
 refine ⟨rfl, by rw [<- r.length]; exact hl, I1.bk _ _ hC, hN.keeps I1.bk, T.keeps I1.bk, fun h' x1 hx => ?_⟩
 obtain ⟨t1, ho, _, _⟩ := hx.there
 have nx : s2.heap.get? x1 = none := hx.new
 refine D.raise (C := C) (d := none) I1 (x := x1) (fun b o _ z => hx.keeps b o z) (fun o z => by rw [nx] at z; cases z) ho rfl rfl rfl rfl rfl ?_ ?_ q1
 ·cases z : X.s₀.heap.get? x1 with
  | none => rfl
  | some o =>
   obtain ⟨o', e'⟩ := I1.base.there x1 o z (by rw [D.ex]; simp)
   rw [nx] at e'; cases e'
 ·cases z : H1 x1 with
  | none => rfl
  | some o =>
   obtain ⟨u, e'⟩ := (I1.hok x1 o z).here
   rw [nx] at e'; cases e'
end
end L2
set_option Elab.async false
set_option linter.all false
set_option maxRecDepth 100000
set_option maxHeartbeats 4000000
namespace L2
open PySem PySem.Spec PyProof.Rows
theorem Vq {P : Program} {w : World} {H : Hp} {h : Heap} {a C : Addr} {d : Option Addr} {o : Obj} {vs : Array Value} (e : h.get? a = some o) (hc : o.cls = .ref C) (hd : o.dict = d) (hf : o.data = .fields vs) : zC P w H h a (vx a C d) :=
 ⟨⟨o, e, hc, hd, vs, hf⟩, ⟨o, e⟩, fun _ _ ⟨o, e, r⟩ k => ⟨o, k o e, r⟩⟩
section
variable {X : Cx} {pins : List (Addr × Obj)} {σ : St} {H H' : Hp} {s s' : Shared}
theorem Inv.track (I : Inv X pins σ H s) {x : Addr} {o : HO} (hx : H x = none) (h0 : X.s₀.heap.get? x = none) (hl : x ≠ X.env.locals) (hc : ∀ y c, X.env.cells.lookup y = some c -> c ≠ x) (hp : ∀ p ∈ X.pn ++ pins, p.1 ≠ x) (ok : zC X.prog X.w (upd H x o) s.heap x o) : Inv X pins σ (upd H x o) s := by
 refine ⟨I.ok, I.os, I.bare, ⟨I.base.keep, I.base.slot, fun b u e n hb => ?_, I.base.there, fun b xs e => ?_, fun b u v e => ?_, fun b ps e => ?_⟩, I.loc, I.cell, ?_, fun y c e => ?_, fun p hp' => ?_, fun b u e => ?_, I.len⟩
 ·rw [zh (fun z => by rw [z, h0] at e; cases e)]; exact I.base.free b u e n hb
 ·have := I.base.tups b xs e; rw [zh (ze this hx)]; exact this
 ·have := I.base.frzs b u v e; rw [zh (ze this hx)]; exact this
 ·obtain ⟨m, this⟩ := I.base.tbls b ps e; exact ⟨m, by rw [zh (ze this hx)]; exact this⟩
 ·rw [zh (Ne.symm hl)]; exact I.free
 ·rw [zh (hc y c e)]; exact I.freeC y c e
 ·obtain ⟨e1, e2, e3⟩ := I.pin p hp'
  exact ⟨e1, by rw [zh (hp p hp')]; exact e2, e3⟩
 ·by_cases c : b = x
  ·subst c; rw [zf] at e; cases e; exact ok
  ·rw [zh c] at e
   exact (I.hok b u e).stay (fun _ _ _ q => q) (fun d q => by rw [zh (ze q hx)]; exact q) fun d xs q => by rw [zh (ze q hx)]; exact q
theorem Inv.goes (I : Inv X pins σ H s) {i : Nat} {n : Str} {m : Str -> Option Value} {v : Option Value} {h' : Heap} {t' : Nat} (nd : X.N.Nodup) (hi : X.N[i]? = some n) (hm : s.heap.Ns X.env.locals m) (hn : h'.Ns X.env.locals fun y => if y = n then v else m y) (sb : Heap.SameBut X.env.locals s.heap h') : Inv X pins (σ.set i none) H { s with heap := h', toks := t' } := by
  have kp : ∀ b o, b ≠ X.env.locals -> s.heap.get? b = some o -> h'.get? b = some o := fun b o hb e => (sb.2 b hb).trans e
  refine ⟨I.ok, I.os, I.bare, ⟨fun b o e n hb hx => kp b o (I.ltS e) (I.base.keep b o e n hb hx), fun b o e n hb hx => ?_, I.base.free, fun b o e hx => ?_, I.base.tups, I.base.frzs, I.base.tbls⟩, ⟨_, hn, fun j y u e1 e2 e3 => ?_⟩, fun y c e => ?_, I.free, I.freeC, fun p hp => ?_, fun b u e => ?_, by rw [List.length_set]; exact I.len⟩
  · obtain ⟨sl, e1⟩ := I.base.slot b o e n hb hx
    exact ⟨sl, kp b _ (I.ltS e) e1⟩
  · obtain ⟨o', e1⟩ := I.base.there b o e hx
    exact ⟨o', kp b o' (I.ltS e) e1⟩
  · have ij : j ≠ i := fun z => by
      rw [z, List.getElem?_set] at e2
      simp only [if_true] at e2
      split at e2 <;> cases e2
    rw [List.getElem?_set_ne (Ne.symm ij)] at e2
    obtain ⟨m', hm', hl⟩ := I.loc
    have em : ∀ y, m' y = m y := fun y => by
      obtain ⟨o1, es1, ep1, g1, g2, _, g4⟩ := hm'
      obtain ⟨o2, es2, ep2, g1', g2', _, g4'⟩ := hm
      rw [g1] at g1'; cases g1'
      rw [g2] at g2'; cases g2'
      rw [<- g4 y, g4' y]
    obtain ⟨w, rw1, lk⟩ := hl j y u e1 e2 e3
    refine ⟨w, rw1, ?_⟩
    have yn : y ≠ n := fun z => ij (yj nd e1 (z ▸ hi))
    rcases lk with ⟨k, z⟩ | ⟨k, c, e, z⟩
    · refine .inl ⟨k, ?_⟩
      show (if y = n then v else m y) = _
      rw [if_neg yn, <- em]; exact z
    · refine .inr ⟨k, c, e, ?_⟩
      obtain ⟨o, ho, hd⟩ := z
      exact ⟨o, kp c o (I.cne y c e) ho, hd⟩
  · obtain ⟨v', o, ho, hd⟩ := I.cell y c e
    exact ⟨v', o, kp c o (I.cne y c e) ho, hd⟩
  · obtain ⟨e, n, ne, nf, d⟩ := I.pin p hp
    exact ⟨kp _ _ ne e, n, ne, nf, d⟩
  · refine (I.hok b u e).stay (fun c v hc q => kp c v (fun z => ?_) q) (fun _ q => q) fun _ _ q => q
    have := I.free
    rw [<- z] at this
    rcases hc with rfl | hc
    · rw [e] at this; cases this
    · rw [hc] at this; cases this
end
noncomputable abbrev Cx.tried (X : Cx) (pins : List (Addr × Obj)) (xe : Value -> Shared -> Prop) : Cx := { X with pn := X.pn ++ pins, xe := xe }
noncomputable abbrev Cx.inside (X : Cx) (x : Addr) : Cx := { X with A := X.A.mark (some (.ref x)), calm := false, xe := fun _ _ => False }
theorem Cx.Ok.tried {X : Cx} (ok : X.Ok) (pins : List (Addr × Obj)) (xe : Value -> Shared -> Prop) : (X.tried pins xe).Ok :=
 ⟨ok.mod, ok.kind, ok.glob, ok.blt, ok.above, ok.inj, ok.has, ok.cab, ok.hd, ok.frames, ok.stk, ok.exf, ok.bs, ok.bsz, ok.noex, ok.exfs, ok.funs, ok.frf⟩
theorem Cx.Ok.untried {X : Cx} {pins : List (Addr × Obj)} {xe : Value -> Shared -> Prop} (ok : (X.tried pins xe).Ok) : X.Ok :=
 ⟨ok.mod, ok.kind, ok.glob, ok.blt, ok.above, ok.inj, ok.has, ok.cab, ok.hd, ok.frames, ok.stk, ok.exf, ok.bs, ok.bsz, ok.noex, ok.exfs, ok.funs, ok.frf⟩
theorem Cx.Ok.inside {X : Cx} (ok : X.Ok) (x : Addr) : (X.inside x).Ok :=
 ⟨ok.mod, ok.kind, ok.glob, ok.blt, ok.above, ok.inj, ok.has, ok.cab, (fun z => nomatch z), ok.frames, ok.stk, ok.exf, ok.bs, ok.bsz, ok.noex, ok.exfs, ok.funs, ok.frf⟩
section
variable {X : Cx} {pins pins' : List (Addr × Obj)} {σ : St} {H : Hp} {s s' : Shared} {xe : Value -> Shared -> Prop}
theorem Inv.tried (I : Inv X pins σ H s) (xe : Value -> Shared -> Prop) : Inv (X.tried pins xe) [] σ H s := ⟨I.ok.tried pins xe, I.os, I.bare, I.base, I.loc, I.cell, I.free, I.freeC, fun p hp => I.pin p (by rw [List.append_nil] at hp; exact hp), I.hok, I.len⟩
theorem Inv.untried (I : Inv (X.tried pins xe) pins' σ H s) : Inv X pins σ H s := ⟨I.ok.untried, I.os, I.bare, I.base, I.loc, I.cell, I.free, I.freeC, fun p hp => I.pin p (List.mem_append_left _ hp), I.hok, I.len⟩
theorem Inv.inside (I : Inv X pins σ H s) (x : Addr) : Inv (X.inside x) pins σ H s := ⟨I.ok.inside x, I.os, I.bare, I.base, I.loc, I.cell, I.free, I.freeC, I.pin, I.hok, I.len⟩
theorem Inv.outside {x : Addr} (ok : X.Ok) (I : Inv (X.inside x) pins σ H s) : Inv X pins σ H s := ⟨ok, I.os, I.bare, I.base, I.loc, I.cell, I.free, I.freeC, I.pin, I.hok, I.len⟩
theorem SP.untried {D : qR} {f : Flow} (h : SP (X.tried pins xe) [] D f s') : SP X pins D f s' := by
 cases f with
 | next => obtain ⟨σ', H', I, q⟩ := h; exact ⟨σ', H', I.untried, q⟩
 | brk => obtain ⟨σ', H', I, q⟩ := h; exact ⟨σ', H', I.untried, q⟩
 | cont => obtain ⟨σ', H', I, q⟩ := h; exact ⟨σ', H', I.untried, q⟩
 | ret u => obtain ⟨v, σ', H', I, r, q⟩ := h; exact ⟨v, σ', H', I.untried, r, q⟩
theorem Air.here (I : Inv X pins σ H s) (hs : X.stack = X.env :: X.outer) (hf : X.env.frame = some X.env.locals) (hex : X.ex = []) {B : Heap} {a0 : Value} {x C : Addr} {d : Option Addr} {H' : Hp} (a : kA X.prog X.w X.stack H s B H' s') (fl : Heap.FlyingW B X.stack x (.ref C) a0 s'.heap) (hd : ∃ o, s'.heap.get? x = some o /\ o.dict = d) :
  H' x = none /\ Inv X pins σ (upd H' x (vx x C d)) s' := by
 obtain ⟨f1, f2, f3, oe, vs, T, oT, ts, he, ⟨hc, _⟩, hdt, _⟩ := fl
 obtain ⟨o', ho', hd'⟩ := hd
 rw [he] at ho'; cases ho'
 have hx : H' x = none := by
  cases z : H' x with
  | none => rfl
  | some o => obtain ⟨u, e⟩ := (a.hok x o z).here; rw [f2] at e; cases e
 have I1 : Inv X pins σ H' s' := I.call' (ch := []) a.os a.un a.ok a.bare (fun b z => absurd z (by simp))
 have nB : ∀ b o, s.heap.get? b = some o -> b ∉ frs X.stack -> b ≠ x := fun b o e hb z => by
  obtain ⟨o', e1, _⟩ := a.cov b o e hb
  rw [z, f2] at e1; cases e1
 refine ⟨hx, I1.track hx ?_ (fun z => ?_) (fun y c e z => ?_) (fun p hp z => ?_) (Vq he hc hd' hdt)⟩
 ·cases z : X.s₀.heap.get? x with
  | none => rfl
  | some o =>
   obtain ⟨o1, e1⟩ := I.base.there x o z (by rw [hex]; simp)
   by_cases hb : x ∈ frs X.stack
   ·obtain ⟨_, o2, e2, nf⟩ := f3.mem hb
    rw [he] at e2; cases e2
    exact absurd hdt (nf vs)
   ·exact absurd rfl (nB x o1 e1 hb)
 ·obtain ⟨m, ⟨o, es, ep, ho, hdd, _⟩, _⟩ := I1.loc
  rw [<- z, he] at ho; cases ho
  rw [hdt] at hdd; cases hdd
 ·obtain ⟨v, o, ho, hdd⟩ := I1.cell y c e
  rw [z, he] at ho; cases ho
  rw [hdt] at hdd; cases hdd
 ·obtain ⟨e1, e2, e3, e4, _⟩ := I.pin p hp
  refine nB p.1 p.2 e1 (fun w => ?_) z
  rcases List.mem_cons.mp (I.stkSub p.1 w) with q | q
  ·exact e3 q
  ·exact e4 q
end
end L2
set_option Elab.async false
set_option linter.all false
set_option maxRecDepth 100000
set_option maxHeartbeats 4000000
namespace L2
open PySem PySem.Spec PyProof.Rows
noncomputable def Ae (i : Nat) (D : qR) : qR := { nx := fun σ H => D.nx (σ.set i none) H, rt := D.rt, bk := fun σ H => D.bk (σ.set i none) H, ct := fun σ H => D.ct (σ.set i none) H }
noncomputable def eh1 (K : PySem.W.Frag) (i : Nat) (T : Addr) (th : TS) (D : qR) : St -> XK := fun σ1 c d H1 => ∃ C, c = .ref C /\ PySem.W.exmOne K (.ref C) (.ref T) = some true /\ ∀ x, H1 x = none -> th (Ae i D) (σ1.set i (some (.ref x))) (upd H1 x (vx x C d))
noncomputable def Du (K : PySem.W.Frag) (i : Nat) (T : Addr) (tb : (St -> XK) -> TS) (th : TS) : TS := fun D σ H => tb (eh1 K i T th D) D σ H
noncomputable def xW (X : Cx) (H : Hp) (s : Shared) (B : Heap) (x C : Addr) (d : Option Addr) (a0 : Value) (H' : Hp) (s' : Shared) : Prop :=
 kA X.prog X.w X.stack H s B H' s' /\ Heap.FlyingW B X.stack x (.ref C) a0 s'.heap /\ ∃ o, s'.heap.get? x = some o /\ o.dict = d
section
variable {X : Cx} {pins : List (Addr × Obj)} {σ : St} {H H' : Hp} {s s' : Shared} {B : Heap} {x C : Addr} {d : Option Addr} {a0 : Value}
theorem xW.lands {A : Around} {M : Model} {E : Value -> Shared -> Prop} {Q : Unit -> Shared -> Prop} (h : xW X H s B x C d a0 H' s') (k : ∀ s2, xW X H s B x C d a0 H' s2 -> Q () s2) : wpAny M A (setFlight (.ref x) none) Q E s' := by
 obtain ⟨a, fl, o, ho, hd⟩ := h
 refine wpAny_mono ((kS (.ref x) none).any (lands_againW (E := E) (Q := fun _ s2 => ∃ h', s2 = { s' with heap := h' } /\ Heap.FlyingW B X.stack x (.ref C) a0 h' /\ s'.heap.UpToSlots h') fl fun h' f1 us => ⟨h', rfl, f1, us⟩)) (fun _ s2 h2 => ?_) fun _ _ z => z
 obtain ⟨⟨h', rfl, f1, us⟩, sd⟩ := h2
 obtain ⟨o', ho', hd'⟩ := sd x o ho
 exact k _ ⟨a.step fl.2.2.1 f1.1 us, f1, o', ho', hd'.trans hd⟩
theorem xW.noted {E : Value -> Shared -> Prop} {Q : Unit -> Shared -> Prop} (ok : X.Ok) (hs : X.stack = X.env :: X.outer) (hf : X.env.frame = some X.env.locals) (h : xW X H s B x C d a0 H' s') (k : ∀ s2, xW X H s B x C d a0 H' s2 -> Q () s2) :
  wpAny (model X.prog X.w) X.A (noteFrame (.ref x) X.env) (fun _ s2 => wpAny (model X.prog X.w) X.A (setFlight (.ref x) none) Q E s2) E s' := by
 obtain ⟨a, fl, o, ho, hd⟩ := h
 have fl' := fl
 rw [hs] at fl'
 refine wpAny_mono ((Qr (.ref x) X.env).any (wpAny_looks_onW (E := E) (Q := fun _ s2 => ∃ h', s2 = { s' with heap := h' } /\ Heap.HeldW B (X.env :: X.outer) x (.ref C) a0 X.env.locals h' /\ s'.heap.UpToSlots h') (by rw [<- hs]; exact ok.frames) hf fl' fun h' f1 us => ⟨h', rfl, f1, us⟩)) (fun _ s2 h2 => ?_) fun _ _ z => z
 obtain ⟨⟨h', rfl, f1, us⟩, sd⟩ := h2
 obtain ⟨o', ho', hd'⟩ := sd x o ho
 have a2 := a.step fl.2.2.1 f1.1 us
 refine wpAny_mono ((kS (.ref x) none).any (wpAny_landsW (E := E) (Q := fun _ s3 => ∃ h'', s3 = { s' with heap := h'' } /\ Heap.FlyingW B (X.env :: X.outer) x (.ref C) a0 h'' /\ h'.UpToSlots h'') f1 fun h'' f2 us2 => ⟨h'', rfl, f2, us2⟩)) (fun _ s3 h3 => ?_) fun _ _ z => z
 obtain ⟨⟨h'', rfl, f2, us2⟩, sd2⟩ := h3
 obtain ⟨o'', ho'', hd''⟩ := sd2 x o' ho'
 refine k _ ⟨a2.step (s' := { s' with heap := h' }) (by rw [hs]; exact f1.2.2.1) f2.1 us2, by rw [hs]; exact f2, o'', ho'', (hd''.trans hd').trans hd⟩
theorem WA {D : qR} {E : Value -> Shared -> Prop} {i : Nat} {n : Str} {hpos : Pos} {f : Flow} (ok : X.Ok) (nd : X.N.Nodup) (hi : X.N[i]? = some n) (hl : X.env.kindOf n = some .local) (h : SP (X.inside x) pins (Ae i D) f s) :
  wpAny (model X.prog X.w) X.A (do bindName X.env n .none; unbindBehindTheSuite X.env n hpos) (fun _ s2 => SP X pins D f s2) E s := by
 have hp : (X.env.scope.kind == .class || (X.env.scope.kind == .module && X.env.locals != X.env.globals)) = false := by rw [ok.kind]; rfl
 cases f with
 | next =>
  obtain ⟨σ', H', I, q⟩ := h
  have I' := I.outside ok
  obtain ⟨m, hm, _⟩ := id I'.loc
  exact wpAny_nameGoes_keeps hl hm hp fun h' v hn sb => ⟨_, H', I'.goes nd hi hm hn sb, q⟩
 | brk =>
  obtain ⟨σ', H', I, q⟩ := h
  have I' := I.outside ok
  obtain ⟨m, hm, _⟩ := id I'.loc
  exact wpAny_nameGoes_keeps hl hm hp fun h' v hn sb => ⟨_, H', I'.goes nd hi hm hn sb, q⟩
 | cont =>
  obtain ⟨σ', H', I, q⟩ := h
  have I' := I.outside ok
  obtain ⟨m, hm, _⟩ := id I'.loc
  exact wpAny_nameGoes_keeps hl hm hp fun h' v hn sb => ⟨_, H', I'.goes nd hi hm hn sb, q⟩
 | ret u =>
  obtain ⟨v, σ', H', I, r, q⟩ := h
  have I' := I.outside ok
  obtain ⟨m, hm, _⟩ := id I'.loc
  exact wpAny_nameGoes_keeps hl hm hp fun h' w hn sb => ⟨v, _, H', I'.goes nd hi hm hn sb, r, q⟩
variable {body suite : List Stmt} {b₀ : Stmt} {n tx : Str} {i : Nat} {T : Addr} {np hpos pos : Pos} {tb : (St -> XK) -> TS} {th : TS}
theorem VY (hs : X.stack = X.env :: X.outer) (hf : X.env.frame = some X.env.locals) (hex : X.ex = []) (nd : X.N.Nodup) (hi : X.N[i]? = some n) (hl : X.env.kindOf n = some .local) (hg : Gl X tx) (hm : X.mg tx = some (.ref T))
  (hb : ∀ (pins : List (Addr × Obj)) (xe : Value -> Shared -> Prop) (Eh : St -> XK), vh (CX1 X.prog X.w) (X.tried pins xe) Eh -> PSs (X.tried pins xe) body (tb Eh)) (hh : ∀ x, PSs (X.inside x) (b₀ :: suite) th)
  (hdb : (tx == ("__debug__" : Str)) = false := by decide) : PS X (.Try body [.ExceptHandler (some (.Name tx np)) (some n) (b₀ :: suite) hpos] [] [] pos) (Du X.K i T tb th) := by
 intro pins s σ H D I h
 refine wpAny_Try_except (wpAny_mono (hb pins (fun e s' => ∃ σ1 H1 s1, Inv X pins σ1 H1 s1 /\ CX1 X.prog X.w X.stack H1 s1 (eh1 X.K i T th D σ1) e s') (eh1 X.K i T th D) (fun pins' σ1 H1 s1 e s' I1 c => ⟨σ1, H1, s1, I1.untried, c⟩) [] s σ H D (I.tried _) h) (fun f s1 q => ?_) fun e s1 q => ?_)
 ·have q := q.untried
  cases f with
  | next => exact wpAny_execs_nil q
  | brk => exact q
  | cont => exact q
  | ret u => exact q
 ·obtain ⟨σ1, H1, s1', I1, x, C, d, H', rfl, ⟨⟨B, a0, a, fl⟩, hd⟩, C', eC, hx, q⟩ := q
  cases eC
  refine xW.noted I.ok hs hf ⟨a, fl, hd⟩ fun s3 h3 => ?_
  obtain ⟨hx0, I3⟩ := Air.here I1 hs hf hex h3.1 h3.2.1 h3.2.2
  refine wpAny_handleBy_cons (codeAny_handlers_test (jO (I3.inside x) hg hm ?_ hdb)) (by intro z; cases z)
  obtain ⟨oe, vs, he, hc, _⟩ := h3.2.1.first
  have LT : PySem.W.Looks (model X.prog X.w) s3.heap (typeOf (.ref x)) (.ref C) := hc ▸ (PySem.W.Looks.ld he).andThen .now
  refine (PySem.W.exm_one I3.kIn LT hx).here ?_
  refine codeAny_handlers_suite_as (h3.lands fun s4 h4 => ?_)
  obtain ⟨_, I4⟩ := Air.here I1 hs hf hex h4.1 h4.2.1 h4.2.2
  refine jE I4 nd hi (Or.inl hl) (show zt (.ref x) (.ref x) from rfl) (fun s5 I5 => ?_) (.inr hl)
  exact wpAny_mono (hh x pins s5 _ _ _ (I5.inside x) (q x hx0)) (fun f s6 h6 => WA I.ok nd hi hl h6) fun _ _ z => z.elim
end
end L2
set_option Elab.async false
set_option linter.all false
set_option maxRecDepth 100000
set_option maxHeartbeats 4000000
namespace L2
open PySem PySem.Spec PyProof.Rows
open PySem.W (Looks InstAt findIn findObj subIn mroIn)
section
variable {prog : Program} {w : World} {A : Around} {E : Value -> Shared -> Prop} {h : Heap} {g : Array GenState} {d : Drawn} {t : Nat} {os : OsState} {K : PySem.W.Frag} {x C : Addr} {ox : Obj} {od : Option Obj} {name : Str}
theorem Wn {tk : Tok} {R : Result -> Shared -> Prop} (X : K.In h) (I : InstAt h x ox C od) (hb : subIn K (.ref C) (.type "BaseException") = some true) (k : wpAny (model prog w) A.in1 (Builtin.«object.__getattribute__» ⟨[.ref x, .str name tk], []⟩)
      (fun fin s' => match fin with | .done (.ret v) => R (.ok (.ret v)) s' | _ => False) (fun _ _ => False) ⟨h, g, d, t, os⟩) :
    codeAny (model prog w) A (.call (.builtin "BaseException.__getattribute__") ⟨[.ref x, .str name tk], []⟩) R ⟨h, g, d, t, os⟩ := by
  have L0 := I.type (M := model prog w)
  have L1 := PySem.W.looks_subIn (M := model prog w) X hb
  have hk : builtinKind "BaseException.__getattribute__" = some .slot := by decide +kernel
  have hsplit : splitId "BaseException.__getattribute__" = some ("BaseException", "__getattribute__") := by decide +kernel
  have ha := F.args_bexc_ga (.ref x) (.str name tk)
  refine codeAny_call_builtin F.excAttr_ValueError.ga.plain F.entry_bexc_ga ?_
  simp only [checkBuiltinCall, hk, hsplit]
  have LI : Looks (model prog w) h (isInstance (.ref x) (.type "BaseException")) true := L0.andThen L1
  refine wpAny_bind (LI.at ?_)
  simp only [Bool.not_true, Bool.false_eq_true, if_false]
  have fin : wpAny (model prog w) A.in1 (Builtin.«object.__getattribute__» ⟨[.ref x, .str name tk], []⟩) (fun fin s' => match fin with | .done f => R (.ok f) s' | .again c' => c'.quiet = true /\ codeAny (model prog w) A c' R s') (fun e s' => R (.error e) s') ⟨h, g, d, t, os⟩ :=
    wpAny_mono k (fun fin s' z => by rcases fin with (_ | _ | _ | _) | _ <;> first | exact z | exact z.elim) fun _ _ z => z.elim
  clear k L0 L1 LI
  repeat (any_goals (first | assumption | wp_step))
theorem Eo {tk : Tok} {fill expr : Bool} {Q : Value -> Shared -> Prop} (X : K.In h) (I : InstAt h x ox C od) (hb : subIn K (.ref C) (.type "BaseException") = some true)
  (h1 : findIn K (.ref C) "__getattribute__" = some (some (.builtin "BaseException.__getattribute__"))) (h2 : findIn K (.ref C) "__getattr__" = some none)
  (k : wpAny (model prog w) A.in1 (Builtin.«object.__getattribute__» ⟨[.ref x, .str name tk], []⟩)
   (fun fin s' => match fin with | .done (.ret v) => wpAny (model prog w) A (handedOut v) Q E s' | _ => False) (fun _ _ => False) ⟨h, g, d, t, os⟩) :
  wpAny (model prog w) A (getAttrBy (.ref x) (.str name tk) fill expr) Q E ⟨h, g, d, t, os⟩ := by
 have L0 := I.type (M := model prog w)
 have L1 := PySem.W.looks_findIn (M := model prog w) X h1
 have L2 := PySem.W.looks_findIn (M := model prog w) X h2
 have f3 := F.excAttr_ValueError.ga.bind (.ref x)
 have hx0 : (expr && onTheHeap (Value.builtin "BaseException.__getattribute__")) = false := by cases expr <;> rfl
 have hx2 : (Value.builtin "BaseException.__getattribute__" == Value.builtin "object.__getattribute__") = false := by decide +kernel
 have hx1 : (onTheHeap (Value.ref C) && Value.builtin "BaseException.__getattribute__" == Value.builtin "object.__getattribute__") = false := by rw [hx2]; rfl
 repeat (any_goals (first | assumption | with_reducible refine Looks.at L0 ?_ | with_reducible refine Looks.at L1 ?_ | with_reducible refine Looks.at L2 ?_ | wp_step))
 exact Wn X I hb k
theorem Yq {Q : Option Value -> Shared -> Prop} (X : K.In h) (I : InstAt h x ox C od) (hb : subIn K (.ref C) (.type "BaseException") = some true)
  (h1 : findIn K (.ref C) "__getattribute__" = some (some (.builtin "BaseException.__getattribute__"))) (h2 : findIn K (.ref C) "__getattr__" = some none)
  (hf : findObj K C od "__class__" = some (.bind (.builtin "getset_descriptor.__get__") (.builtin "object.__class__"))) (hm : mroIn K C (.type "object") = some true) (q : Q (some (.ref C)) ⟨h, g, d, t + 1, os⟩) :
  wpAny (model prog w) A (getAttr? (.ref x) "__class__") Q E ⟨h, g, d, t, os⟩ := by
 unfold getAttr? getAttrBy?
 refine wpAny_bind (wpAny_mkText (wpAny_bind (wpAny_attempt ?_)))
 refine Eo X I hb h1 h2 ?_
 have L0 := I.type (M := model prog w)
 have L1 := PySem.W.looks_find (M := model prog w) X I hf
 unfold Builtin.«object.__getattribute__»
 repeat (any_goals (first | assumption | with_reducible refine Looks.at L0 ?_ | with_reducible refine Looks.at L1 ?_ | wp_step))
 refine PySem.W.class_get (od := od) X I hm ?_
 refine wpAny_pure ?_
 exact PySem.W.handed_on rfl (wpAny_pure q)
theorem vz {a g : Value} (hc : (PySem.W.clsIn K C).isSome = true) (ha : findIn K (.ref C) name = some (some a)) (hg : PySem.W.specialIn K a "__get__" = some (some g)) (ht : PySem.W.takesIn K a = some true) : findObj K C none name = some (.bind g a) := by
 obtain ⟨cd, hc⟩ := Option.isSome_iff_exists.mp hc
 unfold PySem.W.findObj
 rw [hc, Option.bind_some, ha, Option.bind_some]
 simp [hg, ht]
structure WI (K : PySem.W.Frag) (C : Addr) : Prop where
 bx : subIn K (.ref C) (.type "BaseException") = some true
 ga : findIn K (.ref C) "__getattribute__" = some (some (.builtin "BaseException.__getattribute__"))
 gt : findIn K (.ref C) "__getattr__" = some none
 cl : findIn K (.ref C) "__class__" = some (some (.builtin "object.__class__"))
 gs : PySem.W.specialIn K (.builtin "object.__class__") "__get__" = some (some (.builtin "getset_descriptor.__get__"))
 tk : PySem.W.takesIn K (.builtin "object.__class__") = some true
 mo : mroIn K C (.type "object") = some true
 is : (PySem.W.clsIn K C).isSome = true
noncomputable def V7 (x C : Addr) (h : Heap) : Prop := ∃ o, h.get? x = some o /\ o.cls = .ref C /\ (o.dict = none \/ ∃ dx u, o.dict = some dx /\ h.get? dx = some u) /\ ∃ vs, o.data = .fields vs
theorem V7.inst {x C : Addr} {h : Heap} (e : V7 x C h) : ∃ o od, InstAt h x o C od := by
 obtain ⟨o, h1, h2, h3, vs, h4⟩ := e
 rcases h3 with h3 | ⟨dx, u, h3, h5⟩
 ·exact ⟨o, none, h1, h2, by unfold PySem.W.notCls; rw [h4], by rw [h3]; trivial⟩
 ·exact ⟨o, some u, h1, h2, by unfold PySem.W.notCls; rw [h4], by rw [h3]; exact h5⟩
theorem wX (c : WI K C) : PySem.W.KitX K (.ref x) (.ref C) (V7 x C) where
 ty := fun _ _ _ e => let ⟨_, _, I⟩ := e.inst; I.type
 it := fun _ _ X _ => by
  have z := c.is
  unfold PySem.W.clsIn at z
  split at z
  ·rename_i ho
   intro A' Q' E' s' k q
   unfold isType loadHead
   exact wpAny_bind (wpAny_loadPart (k _ _ (X _ _ ho)) (wpAny_pure q))
  ·cases z
 ne := fun h tp dd its n sl X htp => by
  refine Bool.eq_false_iff.mpr fun q => ?_
  have e : C = tp := Value.ref.inj (beq_iff_eq.mp q)
  subst e
  have z := c.is
  unfold PySem.W.clsIn at z
  split at z
  ·rename_i ho
   have y := (X _ _ ho).symm.trans htp
   cases y
  ·cases z
 ca := fun {prog w A E Q s} X e q => by
  obtain ⟨o, od, I⟩ := e.inst
  obtain ⟨h, g, d, t, os⟩ := s
  refine Yq X I c.bx c.ga c.gt ?_ c.mo q
  cases od with
  | none => exact vz c.is c.cl c.gs c.tk
  | some od => exact PySem.W.findObj_data c.is c.cl c.gs c.tk
end
inductive yF (X : Cx) : List Expr -> List Value -> Prop
 | nil : yF X [] []
 | own {x : Str} {p : Pos} {C : Addr} {es : List Expr} {cs : List Value} : Gl X x -> X.mg x = some (.ref C) -> (x == ("__debug__" : Str)) = false -> yF X es cs -> yF X (.Name x p :: es) (.ref C :: cs)
 | blt {x : Str} {p : Pos} {T : String} {es : List Expr} {cs : List Value} : Gl X x -> X.mg x = none -> bootBuiltins x = some (.type T) -> x ≠ "__name__" -> (x == ("__debug__" : Str)) = false -> yF X es cs -> yF X (.Name x p :: es) (.type T :: cs)
noncomputable def YU (K : PySem.W.Frag) (cs : List Value) (t : TE) : TE := fun σ H Q => t σ H fun v H1 => ∃ a C d b, v = .ref a /\ H1 a = some (vx a C d) /\ (d = none \/ ∃ dx fs, d = some dx /\ H1 dx = some (.xd fs)) /\ WI K C /\ PySem.W.kitAny K (.ref C) cs = some b /\ Q (.bl b) H1
section
variable {X : Cx} {e c : Expr} {es : List Expr} {cs : List Value} {t : TE} {p pos tp : Pos} {kk : Nat}
theorem X8 {P : Program} {w : World} {H : Hp} {h : Heap} {a C : Addr} {d : Option Addr} (ok : HOk P w H h) (x : H a = some (vx a C d)) (hd : d = none \/ ∃ dx fs, d = some dx /\ H dx = some (.xd fs)) : V7 a C h := by
 obtain ⟨⟨o, h1, h2, h3, h4⟩, _⟩ := ok a _ x
 refine ⟨o, h1, h2, ?_, h4⟩
 rcases hd with rfl | ⟨dx, fs, rfl, h5⟩
 ·exact .inl h3
 ·obtain ⟨u, hu⟩ := (ok dx _ h5).here
  exact .inr ⟨dx, u, h3, hu⟩
theorem Bu (he : PE X e t) (hg : Gl X "isinstance") (hm : X.mg "isinstance" = none) (hc : yF X [c] cs)
  (hst : starEach [e, c] X.env = (false, eval e X.env) :: starEach [c] X.env := by rfl) (hst2 : starEach [c] X.env = (false, eval c X.env) :: starEach [] X.env := by rfl) (hpl : (backTo pos (starEach [c] X.env)).any (·.1) = false := by rfl) : PE X (.Call (.Name "isinstance" p) [e, c] [] pos) (YU X.K cs t) := by
 intro pins s σ H Q I h
 refine wpAny_Call_Name_kw (qK I hg hm zB ?_ (by decide) (by decide))
 refine PyProof.Rows.callWith_builtin1 ?_ hst hpl
 rw [hst]
 refine Calls.spliced_cons (thn (he pins s σ H _ I h) fun u s1 ⟨v, H1, I1, r, a, C, d, b, ev, ha, hd, xc, hb, q⟩ => ?_)
 subst ev
 obtain rfl : u = Value.ref a := r
 rw [hst2]
 refine Calls.spliced_cons ?_
 rw [if_neg Bool.false_ne_true]
 have one : ∀ {c : Value}, PySem.W.kitAny X.K (.ref C) [c] = some b -> PySem.W.kitOne X.K (.ref C) c = some b := fun {c} z => by
  unfold PySem.W.kitAny at z
  split at z
  ·rename_i y; cases z; exact y
  ·rename_i y; have z : some false = some b := z; cases z; exact y
  ·cases z
 have en := X8 I1.hok ha hd
 have fin : ∀ cv, cs = [cv] -> wpAny (model X.prog X.w) X.A (call (.builtin "isinstance") [.ref a, cv]) (EP X pins σ Q) X.xe s1 := fun cv z => by
  subst z
  exact PySem.W.kia_one (wX xc) I1.kIn en (one hb) (by intro z; cases z) fun tk => ⟨.bl b, H1, I1.tok tk, rfl, q⟩
 cases hc with
 | own g1 m1 d1 r1 => cases r1; exact jO I1 g1 m1 (Calls.spliced_nil (fin _ rfl)) d1
 | blt g1 m1 v1 n1 d1 r1 => cases r1; exact qK I1 g1 m1 v1 (Calls.spliced_nil (fin _ rfl)) n1 d1
theorem JV {es : List Expr} {cs : List Value} (hc : yF X es cs) : ∀ {pins : List (Addr × Obj)} {σ : St} {H : Hp} {s : Shared} {Q : List Value -> Shared -> Prop}, Inv X pins σ H s -> Q cs s -> wpAny (model X.prog X.w) X.A (spliced (backTo tp (starEach es X.env))) Q X.xe s := by
 induction hc with
 | nil => exact fun I q => wpAny_items_nil q
 | own g1 m1 d1 r1 ih => exact fun I q => wpAny_items_cons (jO I g1 m1 (ih I q) d1)
 | blt g1 m1 v1 n1 d1 r1 ih => exact fun I q => wpAny_items_cons (qK I g1 m1 v1 (ih I q) n1 d1)
theorem Wh (he : PE X e t) (hg : Gl X "isinstance") (hm : X.mg "isinstance" = none) (hc : yF X es cs) (hsz : cs.length <= sizeLine)
  (hst : starEach [e, .Tuple es kk tp] X.env = (false, eval e X.env) :: starEach [.Tuple es kk tp] X.env := by rfl) (hst2 : starEach [.Tuple es kk tp] X.env = (false, eval (.Tuple es kk tp) X.env) :: starEach [] X.env := by rfl) (hpl : (backTo pos (starEach [.Tuple es kk tp] X.env)).any (·.1) = false := by rfl) : PE X (.Call (.Name "isinstance" p) [e, .Tuple es kk tp] [] pos) (YU X.K cs t) := by
 intro pins s σ H Q I h
 refine wpAny_Call_Name_kw (qK I hg hm zB ?_ (by decide) (by decide))
 refine PyProof.Rows.callWith_builtin1 ?_ hst hpl
 rw [hst]
 refine Calls.spliced_cons (thn (he pins s σ H _ I h) fun u s1 ⟨v, H1, I1, r, a, C, d, b, ev, ha, hd, xc, hb, q⟩ => ?_)
 subst ev
 obtain rfl : u = Value.ref a := r
 rw [hst2]
 refine Calls.spliced_cons ?_
 rw [if_neg Bool.false_ne_true]
 refine wpAny_Tuple ?_
 refine JV hc I1 ⟨hsz, Calls.spliced_nil ?_⟩
 have kp : ∀ b o, s1.heap.get? b = some o -> (s1.heap.push { cls := .type "tuple", data := .seq cs.toArray }).get? b = some o := fun _ _ z => Heap.get?_push_of_some _ z
 have I2 := I1.kept (t' := s1.toks) kp
 exact PySem.W.kia_tup (wX xc) I2.kIn (X8 I2.hok ha hd) (Heap.get?_push_size s1.heap rfl) hb (by intro z; cases z) fun tk => ⟨.bl b, H1, I2.tok tk, rfl, q⟩
end
end L2
set_option Elab.async false
set_option linter.all false
set_option maxRecDepth 100000
set_option maxHeartbeats 4000000
namespace L2
open PySem PySem.Spec PyProof.Rows
noncomputable abbrev AXK := Addr -> List (Str × V) -> MH -> Prop
noncomputable abbrev ZG := List AV -> MH -> AK -> AXK -> Prop
noncomputable def Z8 (H : Hp) (O : Own) (M : MH) (d : Option Addr) (fs : List (Str × V)) : Prop := d = none /\ fs = [] \/ ∃ dx, d = some dx /\ H dx = some (.xd fs) /\ O dx /\ M dx = none
theorem Z8.ext {H H' : Hp} {O O' : Own} {M M' : MH} {d : Option Addr} {fs : List (Str × V)} (k : Ext H O M H' O' M') (x : Z8 H O M d fs) : Z8 H' O' M' d fs := by
 rcases x with x | ⟨dx, e, h1, h2, h3⟩
 ·exact .inl x
 ·obtain ⟨x1, x2, x3⟩ := k.prv dx h2 h3
  exact .inr ⟨dx, e, x1.trans h1, x2, x3⟩
noncomputable def yD (a : ZG) : Sp := fun vs H Q E => ∃ xs M O Q' E', Wf H O M /\ zg H O M vs xs /\ a xs M Q' E' /\ (∀ x M' v H' O', Q' x M' -> Ext H O M H' O' M' -> Wf H' O' M' -> zo H' O' M' v x -> Q v H') /\
 ∀ C fs M' H' O' d, E' C fs M' -> Ext H O M H' O' M' -> Wf H' O' M' -> Z8 H' O' M' d fs -> E (.ref C) d H'
noncomputable def cE (H0 : Hp) (O0 : Own) (M0 : MH) (E' : AXK) : XK := fun c d H' => ∃ C fs M' O', c = .ref C /\ E' C fs M' /\ Ext H0 O0 M0 H' O' M' /\ Wf H' O' M' /\ Z8 H' O' M' d fs
structure EXs (H0 : Hp) (O0 : Own) (M0 : MH) (E : St -> XK) (EA : ASt -> AXK) : Prop where
 go : ∀ σ ρ C fs M' H' O' d, EA ρ C fs M' -> Ext H0 O0 M0 H' O' M' -> Wf H' O' M' -> Er H' O' M' σ ρ -> Z8 H' O' M' d fs -> E σ (.ref C) d H'
theorem WK {H0 : Hp} {O0 : Own} {M0 : MH} {E' : AXK} : EXs H0 O0 M0 (fun _ => cE H0 O0 M0 E') (fun _ => E') := ⟨fun _ _ C fs M' H' O' d q k w _ x => ⟨C, fs, M', O', rfl, q, k, w, x⟩⟩
structure jX (HX : Hp) (OX : Own) (MX : MH) (t : TS) (a : AS) : Prop where
 go : ∀ {H0 : Hp} {O0 : Own} {M0 : MH} {D : qR} {D' : kl} {σ : St} {H : Hp} {O : Own} {ρ : ASt} {M : MH}, Ext HX OX MX H0 O0 M0 -> Wf H0 O0 M0 -> Wf H O M -> Er H O M σ ρ -> Ext H0 O0 M0 H O M -> a M0 D' ρ M -> ED H0 O0 M0 D D' -> t D σ H
section
variable {HX : Hp} {OX : Own} {MX : MH} {t u : TS} {a b : AS} {E : St -> XK} {EA : ASt -> AXK} {sp : ZG} {ta : TA} {aa : AA}
theorem Vz (h : jj t a) : jX HX OX MX t a := ⟨fun _ w0 w e x q E => h.go w0 w e x q E⟩
theorem XF (h1 : jX HX OX MX t a) (h2 : jX HX OX MX u b) : jX HX OX MX (V8 t u) (yA a b) :=
 ⟨fun kx w0 w e x q E => h1.go kx w0 w e x q ⟨fun σ H O ρ M w e x q => h2.go kx w0 w e x q E, E.rt, E.bk, E.ct⟩⟩
theorem YF {c : TT} {ac : AT} (hc : xg c ac) (h1 : jX HX OX MX t a) (h2 : jX HX OX MX u b) : jX HX OX MX (V9 c t u) (Ag ac a b) :=
 ⟨fun kx w0 w e x q E => hc.go w e q fun k M1 H1 O1 q1 k1 w1 => by
  cases k with
  | true => exact h1.go kx w0 w1 (e.ext k1) (x.trans k1) q1 E
  | false => exact h2.go kx w0 w1 (e.ext k1) (x.trans k1) q1 E⟩
theorem YB {wi : TI} {g : TG} {ai : AI} {ag : AG} (hi : ZH wi ai) (hg : yC g ag) (hb : jX HX OX MX t a) : jX HX OX MX (Vj wi g t) (Ai ai ag a) := ⟨fun {H0 O0 M0 D D' σ H O ρ M} kx w0 w e x q E => by
 rw [vH]
 refine hi.go w e q fun l G M1 J H1 O1 q1 k1 w1 hj => ?_
 have E1 := E.tr (x.trans k1)
 have kx1 := kx.trans (x.trans k1)
 obtain ⟨Pv, p0, ps, pd⟩ := q1
 refine ⟨fun i m σ H => m = l.length - i /\ i <= l.length /\ ∃ O ρ M, Wf H O M /\ Er H O M σ ρ /\ Ext H1 O1 M1 H O M /\ Pv i ρ M, ⟨l.length, by simp, Nat.zero_le _, O1, ρ, M1, w1, e.ext k1, .refl, p0⟩, ?_⟩
 rintro i m σ H ⟨rfl, hi, O, ρ, M, w, e, x, hf⟩
 by_cases hil : i < l.length
 ·have hy : l[i]? = some l[i] := List.getElem?_eq_getElem hil
  obtain ⟨hG, q2⟩ := ps i l[i] ρ M hy hf
  obtain ⟨j1, j2⟩ := (hj H O M x.fix x.mst w hG i).2 l[i] hy
  refine .inr ⟨j1, fun σ' H' => ∃ O ρ M, Wf H' O M /\ Er H' O M σ' ρ /\ Ext H1 O1 M1 H' O M /\ Pv (i + 1) ρ M, fun σ' H' z => ⟨l.length - (i + 1), by omega, rfl, hil, z⟩, fun v H' hv => ?_⟩
  obtain ⟨k2, w2, r2⟩ := j2 v H' hv
  refine hg.go w2 (e.ext k2) r2 q2 fun σ3 H3 O3 ρ3 M3 q3 k3 w3 e3 => ?_
  exact hb.go kx1 w1 w3 e3 ((x.trans k2).trans k3) q3 ⟨fun σ H O ρ M w e x q => ⟨O, ρ, M, w, e, x, q⟩, E1.rt, E1.nx, fun σ H O ρ M w e x q => ⟨O, ρ, M, w, e, x, q⟩⟩
 ·have e0 : i = l.length := by omega
  subst e0
  obtain ⟨hG, q2⟩ := pd ρ M hf
  exact .inl ⟨(hj H O M x.fix x.mst w hG l.length).1 rfl, E1.nx _ _ _ _ _ w e x q2⟩⟩
noncomputable def vk (sp : ZG) (EA : ASt -> AXK) (b : AA) : AE := fun ρ M Q => b ρ M fun xs M1 => sp xs M1 Q (EA ρ)
theorem KG (hE : EXs HX OX MX E EA) (hu : jg ta aa) {σ : St} {H : Hp} {O : Own} {ρ : ASt} {M : MH} {Q : VK} {Q' : AK} (kx : Ext HX OX MX H O M) (w : Wf H O M) (e : Er H O M σ ρ) (q : vk sp EA aa ρ M Q') (k : ∀ x M' v H' O', Q' x M' -> Ext H O M H' O' M' -> Wf H' O' M' -> zo H' O' M' v x -> Q v H') : vC (yD sp) E ta σ H Q :=
 hu.go w e q fun xs M1 vs H1 O1 q1 k1 w1 r1 => ⟨xs, M1, O1, Q', EA ρ, w1, r1, q1, fun x M2 v H2 O2 q2 k2 w2 r2 => k x M2 v H2 O2 q2 (k1.trans k2) w2 r2, fun C fs M' H' O' d q2 k2 w2 xd => hE.go σ ρ C fs M' H' O' d q2 ((kx.trans k1).trans k2) w2 (e.ext (k1.trans k2)) xd⟩
theorem Jr (hE : EXs HX OX MX E EA) (hu : jg ta aa) : jX HX OX MX (QK (vC (yD sp) E ta)) (Yr (vk sp EA aa)) :=
 ⟨fun kx _ w e x q D => KG hE hu (kx.trans x) w e q fun y M1 v H1 O1 q1 k1 w1 r1 => D.nx _ _ _ _ _ w1 (e.ext k1) (x.trans k1) q1⟩
noncomputable def Yv (C : Addr) (EA : ASt -> AXK) (b : AA) : AS := fun _ _ ρ M => b ρ M fun xs M1 => xs.length <= sizeLine /\ EA ρ C [] M1
theorem Z4 {C : Addr} (hE : EXs HX OX MX E EA) (hu : jg ta aa) : jX HX OX MX (Ku C E ta) (Yv C EA aa) :=
 ⟨fun kx _ w e x q D => hu.go w e q fun xs M1 vs H1 O1 q1 k1 w1 r1 => ⟨by rw [r1.1]; exact q1.1, hE.go _ _ C [] M1 H1 O1 none q1.2 ((kx.trans x).trans k1) w1 (e.ext k1) (.inl ⟨rfl, rfl⟩)⟩⟩
end
noncomputable def W5 (i : Nat) (D : kl) : kl := { nx := fun ρ M => D.nx (ρ.set i none) M, rt := D.rt, bk := fun ρ M => D.bk (ρ.set i none) M, ct := fun ρ M => D.ct (ρ.set i none) M }
noncomputable def Ej (K : PySem.W.Frag) (i : Nat) (T : Addr) (ab : (ASt -> AXK) -> AS) (ah : AS) : AS := fun B D ρ M =>
 ab (fun ρ1 C fs M1 => PySem.W.exmOne K (.ref C) (.ref T) = some true /\ ∀ x, M1 x = none -> ah B (W5 i D) (ρ1.set i (some (.ref x))) (mup M1 x (.exc C fs))) B D ρ M
theorem Er.drop {H : Hp} {O : Own} {M : MH} {σ : St} {ρ : ASt} (e : Er H O M σ ρ) (i : Nat) : Er H O M (σ.set i none) (ρ.set i none) := e.clr [i]
theorem Wq {H : Hp} {O : Own} {M : MH} (w : Wf H O M) {x C : Addr} {d : Option Addr} {fs : List (Str × V)} (hx : H x = none) (xd : Z8 H O M d fs) :
  Wf (upd H x (vx x C d)) (yo O x) (mup M x (.exc C fs)) /\ Ext H O M (upd H x (vx x C d)) (yo O x) (mup M x (.exc C fs)) := by
 have k := Qw w hx (vx x C d) (.exc C fs)
 exact ⟨Au w hx (fun _ z => nomatch z) ⟨d, zf, xd.ext k⟩, k⟩
section
variable {K : PySem.W.Frag} {i : Nat} {T : Addr} {tb : (St -> XK) -> TS} {th : TS} {ab : (ASt -> AXK) -> AS} {ah : AS}
theorem Wv (hb : ∀ (H0 : Hp) (O0 : Own) (M0 : MH) (E : St -> XK) (EA : ASt -> AXK), EXs H0 O0 M0 E EA -> jX H0 O0 M0 (tb E) (ab EA)) (hh : jj th ah) : jj (Du K i T tb th) (Ej K i T ab ah) :=
 ⟨fun {H0 O0 M0 D D' σ H O ρ M} w0 w e x q E => (hb H0 O0 M0 _ _ ⟨fun σ1 ρ1 C fs M1 H1 O1 d q1 k1 w1 e1 xd => ⟨C, rfl, q1.1, fun y hy => by
  obtain ⟨w2, k2⟩ := Wq (C := C) w1 hy xd
  refine hh.go w0 w2 ((e1.ext k2).set (show zo _ _ _ (.ref y) (.ref y) from ⟨rfl, by rw [zk]; exact fun z => nomatch z⟩) i) (k1.trans k2) (q1.2 y (w1.fresh hy).2) ⟨fun σ H O ρ M w e x q => E.nx _ _ _ _ _ w (e.drop i) x q, E.rt, fun σ H O ρ M w e x q => E.bk _ _ _ _ _ w (e.drop i) x q, fun σ H O ρ M w e x q => E.ct _ _ _ _ _ w (e.drop i) x q⟩⟩⟩).go .refl w0 w e x q E⟩
noncomputable def DL (K : PySem.W.Frag) (cs : List Value) (a : AE) : AE := fun ρ M Q => a ρ M fun v M1 => ∃ x C fs b, v = .ref x /\ M1 x = some (.exc C fs) /\ WI K C /\ PySem.W.kitAny K (.ref C) cs = some b /\ Q (.d (.bl b)) M1
theorem Y8 {cs : List Value} {t : TE} {a : AE} (h : zN t a) : zN (YU K cs t) (DL K cs a) := ⟨fun w e q k => h.go w e q fun v M1 u H1 O1 q1 k1 w1 r1 => by
 obtain ⟨x, C, fs, b, rfl, hx, xc, hb, q2⟩ := q1
 obtain ⟨d, h1, h2⟩ := w1.mo x _ hx
 refine ⟨x, C, d, b, r1.1, h1, ?_, xc, hb, k _ _ _ _ _ q2 k1 w1 .bl⟩
 rcases h2 with h2 | ⟨dx, e1, h2, _⟩
 ·exact .inl h2.1
 ·exact .inr ⟨dx, fs, e1, h2⟩⟩
end
noncomputable def exA (M0 : MH) (E : AXK) : AXK := fun C fs M' => ∃ M'', ww M0 M' (.d .non) (.d .non) M'' /\ E C fs M''
theorem PSs.wish' {X : Cx} {xe : Value -> Shared -> Prop} {st : List Stmt} {t : TS} (k : ∀ e s, xe e s -> X.xe e s) (h : PSs (X.wish xe) st t) : PSs X st t := fun pins s σ H D I hw =>
 wpAny_mono (h pins s σ H D (I.wish _) hw) (fun _ _ q => q.unwish) fun e s z => k e s z
theorem En {P : Program} {w : World} {K : PySem.W.Frag} {mg : Str -> Option Value} {base : Heap} {x : Str} {st : Stmt} {N ps : List Str} {k : Nat} {a : ZG} (at_ : At K mg x st) (S : zA N ps (zj st))
    (hb : ∀ (kV doc pm : Value) (an : Option Addr) (cdv ct : Value) (us : List Value), us.length = ps.length -> bindArgs (PySem.W.fnOf x x (qF st) (zX st) (zj st) .none kV doc pm an cdv ct) ⟨us, []⟩ = pure (ps.zip us))
    (len : ∀ xs M Q E, a xs M Q E -> xs.length = ps.length)
    (hbody : ∀ (f : Addr) (cdv : Value) (A : Around) (outer : List Env) (s : Shared) (H : Hp) (HX : Hp) (OX : Own) (MX : MH) (E' : AXK), qL k (A.deeper (envOfC x (zj st) s.heap.objs.size f cdv)) ->
      DX (xa (CX1 P w) P w K mg base N x (zj st) f cdv A outer s H (cE HX OX MX E')) (cE HX OX MX E') ->
      ∃ t, PSs (xa (CX1 P w) P w K mg base N x (zj st) f cdv A outer s H (cE HX OX MX E')) (zX st) t /\ ∃ b, jX HX OX MX t b /\ ∀ xs Q E0, E' = exA MX E0 -> a xs MX Q E0 -> b MX { nx := fun _ M' => rtA MX Q (.d .non) M', rt := rtA MX Q } (qz N xs) MX) : DfX P w K mg base x ps (k + 1) (yD a) := by
  refine Bp at_ S hb (fun vs H Q E h => ?_) (fun f cdv A outer s H vs Q E hr h => ?_)
  · obtain ⟨xs, M, O, Q', E', w, r, q, _⟩ := h
    rw [r.1]; exact len xs M Q' E' q
  · obtain ⟨xs, M, O, Q', E', w0, r, q, kk, ke⟩ := h
    obtain ⟨t, ht, b, hb, hq⟩ := hbody f cdv A outer s H H O M (exA M E') hr ⟨rfl, rfl, rfl, rfl⟩
    refine ⟨t, fun D => ?_, ?_⟩
    · have ce : ∀ c d H', cE H O M (exA M E') c d H' -> E c d H' := fun c d H' ⟨C, fs, M', O', e1, ⟨M'', f, q2⟩, k1, w1, xd⟩ => by
        subst e1
        obtain ⟨O'', w2, k2, -, ko⟩ := QZ w0 w1 k1 (show zo H' O' M' .non (.d .non) from .non) f
        refine ke C fs M'' H' O'' d q2 k2 w2 ?_
        rcases xd with xd | ⟨dx, e1, h1, h2, h3⟩
        · exact .inl xd
        · exact .inr ⟨dx, e1, h1, (ko dx h2 h3).1, (ko dx h2 h3).2⟩
      refine PSs.wish' (fun e s' z => ?_) ht
      exact wpAny_mono z (fun _ s'' y => y.imp ce) fun e' s'' y => y.imp ce
    · refine hb.go .refl w0 w0 (wN r N) .refl (hq xs Q' E' rfl q) ⟨fun σ H' O' ρ M' w' e' x' q' => ?_, fun v y H' O' M' w' x' r' q' => ?_, fun _ _ _ _ _ _ _ _ z => z.elim, fun _ _ _ _ _ _ _ _ z => z.elim⟩
      · obtain ⟨y', M'', f, q2⟩ := q'
        obtain ⟨O'', w2, k2, r2⟩ := vT w0 w' x' (show zo H' O' M' .non (.d .non) from .non) f
        exact kk _ _ _ _ _ q2 k2 w2 r2
      · obtain ⟨y', M'', f, q2⟩ := q'
        obtain ⟨O'', w2, k2, r2⟩ := vT w0 w' x' r' f
        exact kk _ _ _ _ _ q2 k2 w2 r2
end L2
set_option Elab.async false
set_option linter.all false
set_option maxRecDepth 100000
set_option maxHeartbeats 4000000
namespace L2
open PySem PySem.Spec PyProof.Rows
theorem DX.po {X : Cx} {E : XK} (D : DX X E) : PassesOwn (model X.prog X.w) X.A X.env X.xe := by rw [D.xe]; exact PassesOwn.leaving
theorem Xs {X : Cx} : vh (CX1 X.prog X.w) X fun _ => E0 := fun _ _ _ _ _ _ _ ⟨_, _, _, _, _, _, z⟩ => z.elim
section
variable {X : Cx} {K : PySem.W.Frag} {body suite : List Stmt} {b₀ : Stmt} {n tx : Str} {i : Nat} {T : Addr} {np hpos pos tp p : Pos} {tb : (St -> XK) -> TS} {th : TS} {e c : Expr} {es : List Expr} {cs : List Value} {t : TE} {kk : Nat}
theorem Xx (hk : X.K = K) (hs : X.stack = X.env :: X.outer) (hf : X.env.frame = some X.env.locals) (hex : X.ex = []) (nd : X.N.Nodup) (hi : X.N[i]? = some n) (hl : X.env.kindOf n = some .local) (hg : Gl X tx) (hm : X.mg tx = some (.ref T))
  (hb : ∀ (pins : List (Addr × Obj)) (xe : Value -> Shared -> Prop) (Eh : St -> XK), vh (CX1 X.prog X.w) (X.tried pins xe) Eh -> PSs (X.tried pins xe) body (tb Eh)) (hh : ∀ x, PSs (X.inside x) (b₀ :: suite) th)
  (hdb : (tx == ("__debug__" : Str)) = false := by decide) : PS X (.Try body [.ExceptHandler (some (.Name tx np)) (some n) (b₀ :: suite) hpos] [] [] pos) (Du K i T tb th) := hk ▸ VY hs hf hex nd hi hl hg hm hb hh hdb
theorem Jc (hk : X.K = K) (he : PE X e t) (hg : Gl X "isinstance") (hm : X.mg "isinstance" = none) (hc : yF X [c] cs)
  (hst : starEach [e, c] X.env = (false, eval e X.env) :: starEach [c] X.env := by rfl) (hst2 : starEach [c] X.env = (false, eval c X.env) :: starEach [] X.env := by rfl) (hpl : (backTo pos (starEach [c] X.env)).any (·.1) = false := by rfl) : PE X (.Call (.Name "isinstance" p) [e, c] [] pos) (YU K cs t) := hk ▸ Bu he hg hm hc hst hst2 hpl
theorem Yk (hk : X.K = K) (he : PE X e t) (hg : Gl X "isinstance") (hm : X.mg "isinstance" = none) (hc : yF X es cs) (hsz : cs.length <= sizeLine)
  (hst : starEach [e, .Tuple es kk tp] X.env = (false, eval e X.env) :: starEach [.Tuple es kk tp] X.env := by rfl) (hst2 : starEach [.Tuple es kk tp] X.env = (false, eval (.Tuple es kk tp) X.env) :: starEach [] X.env := by rfl) (hpl : (backTo pos (starEach [.Tuple es kk tp] X.env)).any (·.1) = false := by rfl) : PE X (.Call (.Name "isinstance" p) [e, .Tuple es kk tp] [] pos) (YU K cs t) := hk ▸ Wh he hg hm hc hsz hst hst2 hpl
end
theorem Qj {sp : ZG} {u : TA} {b : AA} (h : jg u b) : zN (vC (yD sp) (fun _ => E0) u) (vk sp (fun _ _ _ _ => False) b) :=
 ⟨fun w e q k => h.go w e q fun xs M1 vs H1 O1 q1 k1 w1 r1 => ⟨xs, M1, O1, _, _, w1, r1, q1, fun x M2 v H2 O2 q2 k2 w2 r2 => k x M2 v H2 O2 q2 (k1.trans k2) w2 r2, fun _ _ _ _ _ _ z => z.elim⟩⟩
theorem exX {HX : Hp} {OX : Own} {MX : MH} {t : TS} {q : AS -> Prop} {b : AS} (h : jX HX OX MX t b) (k : q b) : ∃ b, jX HX OX MX t b /\ q b := ⟨b, h, k⟩
end L2
namespace L2
open PySem PySem.Spec PyProof.Rows
end L2
namespace L2
open PySem PySem.Spec PyProof.Rows
section
variable {X : Cx}
theorem Di (hu : X.A.units + 64 < cLine) : OpR X (compareOp .Eq) (Vf X.K id) := by
 intro pins s σ H x y v u Q I rx ry h
 obtain ⟨p, q, xs, rfl, rfl, h1, h2, k⟩ := h
 cases rx
 cases ry
 obtain ⟨us, r1, p1, z1⟩ := I.list h1
 obtain ⟨ws, r2, p2, z2⟩ := I.list h2
 have l1 := r1.length
 have l2 := r2.length
 have hw : ws = [] := List.length_eq_zero_iff.mp l2.symm
 subst hw
 cases xs with
 | nil =>
  have hus : us = [] := List.length_eq_zero_iff.mp l1.symm
  subst hus
  refine SeqAt.RcAt.lists (e := fun _ => true) p1.isList p2.isList rfl (by omega) (fun j h1' h2' => ?_) _ _ _ _ ⟨.bl true, H, I, rfl, k⟩
  simp at h1'
 | cons a r =>
  refine SeqAt.RcAt.lists_lengths p1.isList p2.isList ?_ (by omega) _ _ _ _ ⟨.bl false, H, I, rfl, k⟩
  rw [List.size_toArray, List.size_toArray, <- l1]
  rfl
theorem VV {K : PySem.W.Frag} (h : X.K = K) (hu : X.A.units + 64 < cLine) : OpR X (compareOp .Eq) (Vf K id) := h ▸ Di hu
end
noncomputable def DI (f : Bool -> Bool) : AR2 := fun x y M Q => ∃ l, qB x M = some l /\ y = .d (.lst []) /\ Q (.d (.bl (f l.isEmpty))) M
theorem VG {K : PySem.W.Frag} {f : Bool -> Bool} : vX (Vf K f) (DI f) := ⟨fun w r1 r2 ⟨l, h, e, q⟩ k => by
 subst e
 obtain ⟨a, xs, rfl, h1, p1⟩ := qj w r1 h
 obtain ⟨b, ys, rfl, h2, p2⟩ := qj (l := []) w r2 rfl
 obtain rfl := p2.nil_inv
 refine ⟨a, b, xs, rfl, rfl, SqL.of h1, SqL.of h2, ?_⟩
 have : xs.isEmpty = l.isEmpty := by
  cases xs <;> cases l <;> first | rfl | (have := p1.1; simp at this)
 rw [this]
 exact k _ _ _ _ _ q .refl w .bl⟩
end L2
set_option Elab.async false
set_option linter.all false
set_option maxRecDepth 100000
set_option maxHeartbeats 4000000
namespace Ot
open PySem PySem.Spec PyProof.Rows L2
noncomputable def top (i : Nat) : Stmt := PySem.Challenge.pw_ownturn_k06_orders_by_rings.main.body.getD i (.Pass ⟨0, 0, 0, 0⟩)
section
variable {P : Program} {w : World} {K : PySem.W.Frag} {mg : Str -> Option Value} {base : Heap} {k : Nat}
local macro_rules | `(tactic| walk_at "rd") => `(tactic| try simp only [Yo, V8, V9, X1, tOp, tUn, rU, Yb, tC, tB, Ei, Ef, Qs, rI0, rI, ZA, Zk, BR, QK, YC, Vb, Xl, Aw, B4, tCB, Yl, Bf, WX, QI, WR, ZV, Vu, Bh, rEq, A1, Dh, tBM, xE, xJ, Jh, kh, DD, JC, Vf, Jp, JN, tOr, Dy, XM, Xt, Ao, vH, YK, cxK, YI, W3, iLT, WP, vt, DZ, XI, v6, W1, tSl, XR, vF, AX, List.append_nil,
 List.getElem?_cons_zero, List.getElem?_cons_succ, Option.some.injEq, exists_eq_left', exists_eq_left, V.int.injEq, V.ref.injEq, V.bl.injEq, List.cons.injEq, and_true, true_and, and_assoc, decide_eq_true_eq, Bool.not_eq_true', decide_eq_false_iff_not, Bool.false_eq_true, if_false, if_true, reduceIte, exists_and_left, exists_and_right, List.set_cons_zero, List.set_cons_succ, List.nil_append, List.cons_append])
theorem jI {H : Hp} {a b : Addr} {o : HO} (h' : H b = none) (h : H a = some o) : a ≠ b := ze h h'
theorem ky {H H' : Hp} {l : Addr} (h : H' l = none) (e : Kp [] H H') : H l = none := e.free h
theorem yf {K : PySem.W.Frag} {H H' : Hp} {a : Addr} {xs : List V} (h : SqL K H a xs) (e : Kp [] H H') : SqL K H' a xs := by
 rcases h with (h | ⟨o, h⟩) | h
 ·exact .inl (.inl (e _ _ (by simp) h))
 ·exact .inl (.inr ⟨o, e _ _ (by simp) h⟩)
 ·exact .inr h
theorem hsl : 100000 < sizeLine := by rw [sizeLine_eq]; decide
theorem Br {α : Type} (k : Nat) (v : α) : (List.replicate k [v]).flatten = List.replicate k v := by simp
theorem qQ (i : Int) {j : Int} (h : 0 < j) : 0 <= i % j /\ i % j < j := ⟨Int.emod_nonneg _ (by omega), Int.emod_lt_of_pos _ h⟩
theorem Ah {i j : Int} (h1 : 0 <= i) (h2 : i < 18446744073709551616) : Yx i j := .inl ⟨by omega, by omega⟩
theorem YJ {i j : Int} (h1 : 0 <= j) (h2 : j < 18446744073709551616) : Yx i j := .inr ⟨by omega, by omega⟩
theorem b01 (c : Prop) [Decidable c] : 0 <= (if c then (1 : Int) else 0) := by split <;> decide
theorem VR {i j : Int} (h1 : 0 < j) (h2 : j < 1073741824) : Dz i j := ⟨h1, h2⟩
local macro_rules | `(tactic| walk_at "ne") => `(tactic| first | (with_reducible assumption) | exact Ne.symm (by with_reducible assumption) | exact jI (by with_reducible assumption) (by walk_at "hp") | exact Ne.symm (jI (by with_reducible assumption) (by walk_at "hp")))
local macro_rules | `(tactic| walk_at "hp") => `(tactic| first | (with_reducible assumption) | (with_reducible exact zf) | ((with_reducible refine Eq.trans (zh ?ne) ?_); (case ne => walk_at "ne"); walk_at "hp"))
local macro_rules | `(tactic| walk_at "kp") => `(tactic| first | (with_reducible assumption) | (with_reducible exact Kp.refl) | ((with_reducible refine Kp.trans ?_ (Kp.new _ ?h)); (case h => with_reducible assumption); walk_at "kp") | ((with_reducible refine Kp.trans ?_ (Kp.set _ ?h)); (case h => (simp; done)); walk_at "kp"))
local macro_rules | `(tactic| walk_at "fr") => `(tactic| first | (with_reducible assumption) | exact ky (by with_reducible assumption) (by walk_at "kp"))
local macro_rules | `(tactic| walk_at "sz") => `(tactic| (simp only [List.length_cons, List.length_nil, List.length_map, List.length_append, List.length_replicate, List.length_take, List.length_drop, zw, Br, Nat.zero_add, Nat.one_mul]; omega))
local macro_rules | `(tactic| walk_at "fact") => `(tactic| first | (with_reducible assumption) | exact rfl | exact SqL.of (by walk_at "hp") | exact SqT.of (by walk_at "hp") | exact Or.inl (SqL.of (by walk_at "hp")) | exact Or.inr (SqT.of (by walk_at "hp")) | exact Or.inl (by with_reducible assumption) | exact yf (by with_reducible assumption) (by walk_at "kp") | exact Or.inl (yf (by with_reducible assumption) (by walk_at "kp")) | exact Exists.intro _ (SqL.of (by walk_at "hp")) | exact Exists.intro _ (yf (by with_reducible assumption) (by walk_at "kp")) | (walk_at "hp") | decide | omega | exact Ah (by omega) (by omega) | exact YJ (by omega) (by omega) | exact VR (by omega) (by omega) | exact ⟨by omega, by omega⟩ | (walk_at "sz") | exact ⟨by decide, by decide, by decide⟩ | exact YJ (b01 _) (b01' _) | (walk_at "fr"))
local macro_rules | `(tactic| walk_at "x1") => `(tactic| first
 | ((with_reducible refine Exists.intro ?w (And.intro ?h ?_)); (case h => walk_at "fact"))
 | ((with_reducible refine And.intro ?h ?_); (case h => walk_at "fact"))
 | ((with_reducible refine Exists.intro ?w (Exists.intro ?w2 (And.intro ?h ?_))); (case h => walk_at "fact")))
local macro_rules | `(tactic| walk_at "xs") => `(tactic| repeat walk_at "x1")
local macro_rules | `(tactic| walk_at "sim1") => `(tactic| first
 | (with_reducible apply XF) | (with_reducible apply YF) | (with_reducible apply YB) | (with_reducible apply Jr) | (with_reducible apply Z4) | (with_reducible apply Vz) | with_reducible exact WK | with_reducible exact VG | (with_reducible apply Qj) | (with_reducible apply Y8)
 | ((with_reducible apply Wv); intro HX_ OX_ MX_ E_ EA_ hE_) | ((with_reducible apply sim_try0); intro HX_ OX_ MX_ E_ EA_ hE_) | (with_reducible assumption)
 | (with_reducible apply Kw) | with_reducible exact Wk | with_reducible exact An | with_reducible exact By | with_reducible exact Bb | with_reducible exact DB | with_reducible exact A2 | with_reducible exact V0 | with_reducible exact K8 | with_reducible exact Ju | with_reducible exact KP | with_reducible exact Wd
 | with_reducible exact KQ | with_reducible exact Y7 | with_reducible exact Dq | with_reducible exact Wz | with_reducible exact YS | with_reducible exact YY
 | with_reducible exact BK | with_reducible exact Ky | with_reducible exact Wi
 | with_reducible exact BO | with_reducible exact YO | with_reducible exact JM | with_reducible exact VU | with_reducible exact Kt | with_reducible exact KB | with_reducible exact WD | with_reducible exact Yu
 | with_reducible exact ZW | with_reducible exact Z3 | with_reducible exact Zs | with_reducible exact wj | with_reducible exact Xr | with_reducible exact yS
 | with_reducible exact ve
 | (with_reducible apply Va) | (with_reducible apply VH) | (with_reducible apply VE) | (with_reducible apply VX) | (with_reducible apply X4) | (with_reducible apply Wa) | (with_reducible apply Y4) | (with_reducible apply K6)
 | (with_reducible apply JW) | (with_reducible apply X6) | (with_reducible apply XA) | (with_reducible apply D5) | (with_reducible apply Dl) | (with_reducible apply Y6) | (with_reducible apply Av) | (with_reducible apply Vs)
 | (with_reducible apply Bl) | (with_reducible apply Y2) | (with_reducible apply Wx) | (with_reducible apply Jn) | (with_reducible apply Xm)
 | (with_reducible apply KM) | (with_reducible apply K1) | (with_reducible apply BM) | (with_reducible apply Vr) | (with_reducible apply BW) | (with_reducible apply Zq) | (with_reducible apply Xy) | (with_reducible apply Qq)
 | (with_reducible apply Wb) | (with_reducible apply vB) | (with_reducible apply JB) | (with_reducible apply Wo) | (with_reducible apply KN) | (with_reducible apply Kz) | (with_reducible apply A9) | (with_reducible apply Kq) | (with_reducible apply Kc) | (with_reducible apply Bt)
 | (with_reducible apply xG))
local macro_rules | `(tactic| walk_at "sim") => `(tactic| repeat' walk_at "sim1")
local macro_rules | `(tactic| walk_at "ra") => `(tactic| try simp only [ DI, vk, Yv, Ej, W5, DL, J8, aC, aOp, aUn, BB, Ji, aCB, Ym, aFz, aOw, DW, DP, aB, we, aOr, Ed, WZ, Ad, XT, Xi, yA, Yr, DN, Ag, Zy, W9, K2, W8, WS, asL, D7, DY, Ai, aiS, Ec, aiE, yW, K0, aI, aI0, aU, aIx, fOp, BU, D1, DU, Aa, fSl, DJ, Es, bI2, WQ, XJ, fCB, Ya, DK, Af, WN, Ea, W2, YD, aBM, Em, WT, QA, Qz, wq, V3, BD, X0, Dm, B5, B7, D4, Eb, D2, DR, D6, D3, K3, Jy, Option.map_some, Xv, Y3, Y1, Xb, Xe, KH, B1, B8, AY, BG, Bs, AU, Bi, AL, BC, Bq, AM, BJ, B6, Bw, BY, AJ, Ak, Bv, B9, BS, Dg, Ar, AB, Aq, Am, BQ, AZ, AH, Bj, Dc, Vo, Jx, zZ, kf, Wp, Jg, WY, Aj, AR, BP, Vd, VP, Vy, VI, VM, WL, Wc, K4, D0, BN, Dk, DE, Bd, Dt, Dj, Bm, A3, Be, DC, Dn, AQ, id, decide_true, decide_false, Bool.decide_eq_true, not_true_eq_false, not_false_eq_true, vE,
 List.getElem?_cons_zero, List.getElem?_cons_succ, Option.some.injEq, exists_eq_left', exists_eq_left, AV.d.injEq, AV.ref.injEq, Dat.int.injEq, Dat.bl.injEq, Dat.str.injEq, Dat.lst.injEq, Dat.tup.injEq, Dat.ty.injEq, List.cons.injEq, and_true, true_and, and_assoc, decide_eq_true_eq, Bool.not_eq_true', decide_eq_false_iff_not, Bool.false_eq_true, if_false, if_true, reduceIte, exists_and_left, exists_and_right, List.set_cons_zero, List.set_cons_succ, List.nil_append, List.cons_append, List.length_map, List.map_cons, List.map_nil, Nat.zero_le, Bool.not_true, Bool.not_false, Bool.true_eq_false, eq_self, List.length_cons, List.length_nil])
theorem yg (ns : List Int) (lo hi : Option Int) : vv (ns.map V.int) lo hi = List.map V.int ((ns.drop (HT.sIx ns.length 0 lo)).take (HT.sIx ns.length ns.length hi - HT.sIx ns.length 0 lo)) := by
 unfold vv
 rw [List.length_map, <- List.map_drop, <- List.map_take]
theorem kn (cs : List Int) (j : Nat) (v : Int) : (cs.map V.int).set j (.int v) = (cs.set j v).map V.int := by rw [List.map_set]
theorem zL {cs : List Int} {k : Int} (h0 : 0 <= k) (h1 : k < cs.length) : ixN (cs.map V.int).length k = some k.toNat /\ atI (cs.map V.int) k = some (.int (cs.getD k.toNat 0)) := by
 have hk : k.toNat < cs.length := by omega
 have e1 : ixN (cs.map V.int).length k = some k.toNat := by unfold ixN; rw [List.length_map, if_pos h0, if_pos h1]
 refine ⟨e1, ?_⟩
 unfold atI
 rw [e1]
 show (cs.map V.int)[k.toNat]? = _
 rw [List.getElem?_map, List.getD_eq_getElem?_getD, List.getElem?_eq_getElem hk]; rfl
theorem jk {ns : List Int} {i : Nat} {x : V} (h : (ns.map V.int)[i]? = some x) : x = .int (ns.getD i 0) /\ i < ns.length := by
 rw [List.getElem?_map] at h
 cases e : ns[i]? with
 | none => rw [e] at h; cases h
 | some v =>
  rw [e] at h
  cases h
  exact ⟨by rw [List.getD_eq_getElem?_getD, e]; rfl, (List.getElem?_eq_some_iff.mp e).1⟩
theorem Kp.un {bs : List Addr} {p : Addr} {H H' : Hp} (h : Kp (p :: bs) H H') (hp : H p = none) : Kp bs H H' := fun c o n e => h c o (by
 intro z
 rcases List.mem_cons.mp z with z | z
 ·subst z; rw [hp] at e; cases e
 ·exact n z) e
noncomputable def rfs (rs : List (Addr × List Int)) : List V := rs.map fun r => V.ref r.1
noncomputable abbrev Z6 : Stmt := top 16
theorem Ja : zA ["_law_box_here", "_law_many", "_law_once", "_law_found"] ["_law_box_here", "_law_many"] (zj Z6) := ⟨rfl, rfl, rfl, by decide +kernel, rfl, by decide +kernel, by decide +kernel⟩
noncomputable def jW : Sp := fun vs H Q _ => ∃ (b : Addr) (many : Int) (N : Nat), vs = [.ref b, .int many] /\ Bx H b N /\ N < 1000000000 /\ 0 < many /\ many < 1073741824 /\ ∀ r H', Kp [b] H H' -> Bx H' b (N + 1) -> 0 <= r -> r < many -> Q (.int r) H'
theorem WG (a : At K mg "_law_take" Z6) (B : Blt mg) : Df P w K mg base "_law_take" ["_law_box_here", "_law_many"] 1 jW := by
 refine jt (k := 0) a Ja (fun _ _ _ _ _ _ us hl => match us, hl with | [_, _], _ => rfl) (fun vs H Q E h => ?_) (fun f cdv A outer s H vs Q E hr h => ?_)
 ·obtain ⟨b, m, N, rfl, _⟩ := h; rfl
 obtain ⟨b, m, N, rfl, ⟨x, y, z, hb, hx, hy, hy', hz, hz'⟩, hN, hm, hm', q⟩ := h
 have sc := Ja
 refine ⟨_, (zc (qc (zI WM (zQ zO (pv 0) zd (fun _ _ => rfl)) zd (zJ _)) (zc (jc (zl wz rfl B.divmod JX (za (zQ zO (pv 0) zd (fun _ _ => rfl)) (za (pv 1) zb))) (kC (K := K) 2 rfl rfl (ql (qV (pv 0) zd qa) (ql (zE (i := 3) sc.nd rfl (by first | exact Or.inl rfl | exact Or.inr rfl)) kr))))
  (zi (zx (pv 3)))) zF)
  (zc (jc (zm zK (zQ zO (pv 0) zd (fun _ _ => rfl)) zd) (qV (pv 0) zd qa))
  (zc (zy (i := 2) sc.nd rfl (by first | exact Or.inl rfl | exact Or.inr rfl) (zm qt (zm qP (zm zK (zQ zO (pv 0) zd (fun _ _ => rfl)) (zm qP zd (zQ zO (pv 0) zd (fun _ _ => rfl)))) (zm zK zd (zQ zO (pv 0) zd (fun _ _ => rfl)))) zd))
  (zc (jc (zm qt (zm zK (zm qP (pv 2) (zm zK (zm qt (pv 2) zd) zd)) (zQ zO (pv 0) zd (fun _ _ => rfl))) zd) (qV (pv 0) zd qa))
  (zi (zx (zm qt (zm kc (zm qt (zm qP (zQ zO (pv 0) zd (fun _ _ => rfl)) (zm zK (zm qt (zQ zO (pv 0) zd (fun _ _ => rfl)) zd) zd)) zd) zd) (pv 1)))))))), ?_⟩
 rw [show start ["_law_box_here", "_law_many", "_law_once", "_law_found"] [V.ref b, V.int m] = [some (.ref b), some (.int m), none, none] from rfl]
 walk_at "rd"
 walk_at "xs"
 refine kR (fun c => ?_) (fun c => ?_)
 ·walk_at "xs"
  refine fun p hp => ?_
  walk_at "xs"
  refine q _ _ ((Kp.new _ hp).trans (Kp.set _ (by simp))) ⟨_, _, _, zf, Int.ediv_nonneg hx (by omega), hy, hy', hz, by omega⟩ (qQ x hm).1 (qQ x hm).2
 ·walk_at "xs"
  refine q _ _ ((Kp.set _ (by simp)).trans (Kp.set _ (by simp))) ⟨_, _, _, zf, hx, ?_, ?_, ?_, ?_⟩ (qQ _ hm).1 (qQ _ hm).2
  ·exact (qQ _ (by decide)).1
  ·exact Int.lt_trans (qQ _ (by decide)).2 (by decide)
  ·omega
  ·omega
noncomputable abbrev Yw : Stmt := top 15
theorem Xg : zA ["_law_script", "_law_k", "_law_cell"] ["_law_script", "_law_k"] (zj Yw) := ⟨rfl, rfl, rfl, by decide +kernel, rfl, by decide +kernel, by decide +kernel⟩
noncomputable def W0 : Sp := fun vs H Q _ => ∃ (a : Addr) (k : Int) (cs : List Int), vs = [.ref a, .int k] /\ H a = some (il cs) /\ 0 <= k /\ k <= 1000 /\ cs.length <= 1000 /\ ∀ p H', Kp [] H H' -> H p = none -> Bx H' p 0 -> Q (.ref p) H'
theorem V4 {cs : List Int} {k : Int} (h0 : 0 <= k) : ∃ c : Int, atI (cs.map V.int ++ List.replicate (k + 1).toNat (V.int 0)) k = some (.int c) := by
 have e : cs.map V.int ++ List.replicate (k + 1).toNat (V.int 0) = (cs ++ List.replicate (k + 1).toNat 0).map V.int := by simp
 have ek : k = ((k.toNat : Nat) : Int) := by omega
 have hk : k.toNat < (cs ++ List.replicate (k + 1).toNat (0 : Int)).length := by rw [List.length_append, List.length_replicate]; omega
 refine ⟨(cs ++ List.replicate (k + 1).toNat 0)[k.toNat], ?_⟩
 rw [e]
 have q : atI ((cs ++ List.replicate (k + 1).toNat (0 : Int)).map V.int) ((k.toNat : Nat) : Int) = some (.int (cs ++ List.replicate (k + 1).toNat 0)[k.toNat]) := V2 (by rw [List.getElem?_map, List.getElem?_eq_getElem hk] <;> rfl)
 rw [<- ek] at q
 exact q
theorem A8 (a : At K mg "_law_box" Yw) (B : Blt mg) : Df P w K mg base "_law_box" ["_law_script", "_law_k"] 1 W0 := by
 refine jt (k := 0) a Xg (fun _ _ _ _ _ _ us hl => match us, hl with | [_, _], _ => rfl) (fun vs H Q E h => ?_) (fun f cdv A outer s H vs Q E hr h => ?_)
 ·obtain ⟨a, k, cs, rfl, _⟩ := h; rfl
 obtain ⟨a, k, cs, rfl, ha, hk, hk', hcs, q⟩ := h
 have sc := Xg
 have hsl := hsl
 refine ⟨_, (zc (zy (i := 2) sc.nd rfl (by first | exact Or.inl rfl | exact Or.inr rfl) (zQ zO (zm vM (pv 0) (zm XB (zP (za zd zb)) (zm zK (pv 1) zd))) (pv 1) (fun _ _ => rfl)))
  (zi (zx (zP (za (zm qP (zl Zx rfl B.abs KL (za (pv 2) zb)) (zp kP rfl B.int yw (za (j5 Eg (zl Zx rfl B.abs KL (za (pv 2) zb)) (zm YZ zd zd) (zJ _)) zb))) (za (zm qt (zm qP (zm zK (zm zK (zm qt (pv 2) zd) (zm qP zd (pv 1))) zd) zd) zd) (za zd zb))))))), ?_⟩
 rw [show start ["_law_script", "_law_k", "_law_cell"] [V.ref a, V.int k] = [some (.ref a), some (.int k), none] from rfl]
 walk_at "rd"
 walk_at "xs"
 intro p1 hp1
 walk_at "xs"
 intro p2 hp2
 walk_at "xs"
 intro p3 hp3
 simp only [Br] at hp3 ⊢
 obtain ⟨c, hc⟩ := V4 (cs := cs) hk
 walk_at "xs"
 intro p4 hp4
 refine q _ _ (by walk_at "kp") (by walk_at "fr") ⟨_, _, _, zf, ?_, ?_, ?_, ?_, ?_⟩
 ·exact Int.mul_nonneg (by split <;> omega) (b01 _)
 ·exact (qQ _ (by decide)).1
 ·exact Int.lt_trans (qQ _ (by decide)).2 (by decide)
 ·decide
 ·decide
noncomputable abbrev xX : Stmt := top 17
theorem vc : zA ["_law_script", "_law_many", "_law_cells", "_law_k", "_law_cell"] ["_law_script", "_law_many"] (zj xX) := ⟨rfl, rfl, rfl, by decide +kernel, rfl, by decide +kernel, by decide +kernel⟩
noncomputable def wA (K : PySem.W.Frag) : Sp := fun vs H Q _ => ∃ (a : Addr) (m : Int) (ns : List Int), vs = [.ref a, .int m] /\ SqL K H a (ns.map V.int) /\ 0 < m /\ m <= 60 /\ ns.length <= 63 /\ ∀ p H' cs, Kp [] H H' -> H p = none -> H' p = some (il cs) -> cs.length <= 1000 -> Q (.ref p) H'
theorem JP (a : At K mg "_law_folded" xX) (B : Blt mg) : Df P w K mg base "_law_folded" ["_law_script", "_law_many"] 1 (wA K) := by
 refine jt (k := 0) a vc (fun _ _ _ _ _ _ us hl => match us, hl with | [_, _], _ => rfl) (fun vs H Q E h => ?_) (fun f cdv A outer s H vs Q E hr h => ?_)
 ·obtain ⟨a, k, cs, rfl, _⟩ := h; rfl
 obtain ⟨a, m, ns, rfl, ha, hm, hm', hns, q⟩ := h
 obtain ⟨M, rfl⟩ : ∃ M : Nat, m = M := ⟨m.toNat, by omega⟩
 have sc := vc
 have hsl := hsl
 refine ⟨_, (zc (zy (i := 2) sc.nd rfl (by first | exact Or.inl rfl | exact Or.inr rfl) (zp je rfl B.list qi (za (jD ka (pv 0) xH (jL (pv 1))) zb)))
  (zc (qA PassesOwn.never rfl (Y5 rfl B.enumerate (za (jD ka (pv 0) (jL (pv 1)) (jL zd)) zb)) (kC (K := K) 2 rfl rfl (ql (zE (i := 3) sc.nd rfl (by first | exact Or.inl rfl | exact Or.inr rfl)) (ql (zE (i := 4) sc.nd rfl (by first | exact Or.inl rfl | exact Or.inr rfl)) kr))) (zi (jc (zm zK (zQ zO (pv 2) (zm qt (pv 3) (pv 1)) (fun _ _ => rfl)) (zm qP (pv 4) (zm zK (pv 3) zd))) (qV (pv 2) (zm qt (pv 3) (pv 1)) qa))))
  (zi (zx (pv 2))))), ?_⟩
 rw [show start ["_law_script", "_law_many", "_law_cells", "_law_k", "_law_cell"] [V.ref a, V.int M] = [some (.ref a), some (.int M), none, none, none] from rfl]
 walk_at "rd"
 walk_at "xs"
 intro p1 hp1
 rw [yg]
 walk_at "xs"
 intro p2 hp2
 walk_at "xs"
 intro p3 hp3
 rw [yg]
 have e63 : (63 : Int) = ((63 : Nat) : Int) := rfl
 simp only [HT.sIx_none, HT.sIx_nat, e63, List.drop_zero, Nat.sub_zero] at hp2 hp3 ⊢
 walk_at "xs"
 generalize hc0 : ns.take (min M ns.length) = c0 at hp2 hp3 ⊢
 generalize hd0 : (ns.drop (min M ns.length)).take (min 63 ns.length - min M ns.length) = d0 at hp2 hp3 ⊢
 have lc : c0.length = min M ns.length := by rw [<- hc0, List.length_take]; omega
 have ld : d0.length <= ns.length - M := by rw [<- hd0, List.length_take, List.length_drop]; omega
 have n23 : p2 ≠ p3 := by walk_at "ne"
 refine VC (xs := d0.map V.int) (fun i τ H' => ∃ u v cs, τ = [some (.ref a), some (.int M), some (.ref p2), u, v] /\ Kp [p2] (upd (upd (upd H p1 (HO.lst (List.map V.int c0))) p2 (HO.lst (List.map V.int c0))) p3 (HO.lst (List.map V.int d0))) H' /\ H' p2 = some (il cs) /\ cs.length = c0.length) ?_ ?_ ?_ ?_
 ·exact ⟨none, none, c0, rfl, Kp.refl, by walk_at "hp", rfl⟩
 ·rintro i τ H' _ ⟨u, v, cs, rfl, kp, _⟩
  exact SqL.of (kp _ _ (by simp [Ne.symm n23]) (by walk_at "hp"))
 ·rintro i x pp τ H' hx hpp ⟨u, v, cs, rfl, kp, hcs, hl⟩
  obtain ⟨rfl, hi⟩ := jk hx
  have b1 := qQ (i : Int) hm
  obtain ⟨g1, g2⟩ := zL (cs := cs) (k := (i : Int) % (M : Int)) b1.1 (by omega)
  have hcs' : upd H' pp (HO.tup [V.int i, V.int (d0.getD i 0)]) p2 = some (il cs) := by walk_at "hp"
  walk_at "rd"
  walk_at "xs"
  refine ⟨(kp.trans (Kp.new _ hpp)).trans (Kp.set _ (by simp)), _, zf.trans (congrArg some (congrArg HO.lst (kn _ _ _))), by rw [List.length_set]; exact hl⟩
 ·rintro τ H' ⟨u, v, cs, rfl, kp, hcs, hl⟩
  walk_at "rd"
  refine q _ _ cs (fun c o hc hh => kp c o ?_ ((((Kp.new _ hp1).trans (Kp.new _ hp2)).trans (Kp.new _ hp3)) c o hc hh)) (by walk_at "fr") hcs (by omega)
  have : c ≠ p2 := jI (ky hp2 (Kp.new _ hp1)) hh
  simpa using this
noncomputable abbrev wa : List Int := [0, 1, 2, 3, 4, 5, 6, 7, 4, 5, 6, 7]
noncomputable abbrev xS : Stmt := top 23
theorem yN : zA ["_law_box_here", "_law_most", "_law_few"] ["_law_box_here", "_law_most"] (zj xS) := ⟨rfl, rfl, rfl, by decide +kernel, rfl, by decide +kernel, by decide +kernel⟩
noncomputable def Zn : Sp := fun vs H Q _ => ∃ (b : Addr) (m : Int) (N : Nat), vs = [.ref b, .int m] /\ Bx H b N /\ N < 100000000 /\ 24 <= m /\ m <= 1000 /\ ∀ r H', Kp [b] H H' -> Bx H' b (N + 10) -> 0 <= r -> r <= m -> Q (.int r) H'
theorem J1 (a : At K mg "_law_length" xS) (B : Blt mg) (D_law_take : Df P w K mg base "_law_take" ["_law_box_here", "_law_many"] 1 jW) : Df P w K mg base "_law_length" ["_law_box_here", "_law_most"] 2 Zn := by
 refine jt (k := 1) a yN (fun _ _ _ _ _ _ us hl => match us, hl with | [_, _], _ => rfl) (fun vs H Q E h => ?_) (fun f cdv A outer s H vs Q E hr h => ?_)
 ·obtain ⟨a, k, cs, rfl, _⟩ := h; rfl
 obtain ⟨b, m, N, rfl, hb, hN, hm, hm', q⟩ := h
 have sc := yN
 have hsl := hsl
 refine' ⟨_, zc (qc (zI kI (zD D_law_take hr rfl (za (pv 0) (za zd zb))) zd (zJ _)) (zi (zx (zm jA (pv 1) (zD D_law_take hr rfl (za (pv 0) (za (zl (JI rfl) rfl B.max Bz (za zd (za (zm kc (pv 1) zd) zb))) zb)))))) zF) (zc _ _), ?_⟩
 rotate_left 2
 ·refine' zy (i := 2) _ _ _ _ _ _
  rotate_left 1
  ·exact sc.nd
  ·rfl
  ·first | exact Or.inl rfl | exact Or.inr rfl
  ·refine' zQ _ _ _ _
   rotate_left 3
   ·exact zO
   ·refine' zP _
    rotate_left 1
    refine' Qn (is := [0, 1, 2, 3, 4, 5, 6, 7, 4, 5, 6, 7]) _
    rfl
   ·exact (zD D_law_take hr rfl (za (pv 0) (za zd zb)))
   ·exact (fun _ _ => rfl)
  ·rfl
  ·first | exact .inl rfl | exact .inr rfl | assumption
 ·refine' zi _
  rotate_left 1
  refine' zx _
  rotate_left 1
  refine' zQ _ _ _ _
  rotate_left 3
  ·exact zO
  ·refine' zP _
   rotate_left 1
   refine' za _ _ _
   rotate_left 2
   ·exact pv 2
   ·exact (za (zm zK zd (zD D_law_take hr rfl (za (pv 0) (za zd zb)))) zb)
   ·rfl
  ·exact (zp kP rfl B.int yw (za (j5 kI (zD D_law_take hr rfl (za (pv 0) (za zd zb))) zd (zJ _)) zb))
  ·exact (fun _ _ => rfl)
 rw [show start ["_law_box_here", "_law_most", "_law_few"] [V.ref b, V.int m] = [some (.ref b), some (.int m), none] from rfl]
 walk_at "rd"
 refine ⟨b, 16, N, rfl, hb, by omega, by decide, by decide, fun r1 H1 k1 b1 l1 u1 => ⟨rfl, ?_⟩⟩
 walk_at "rd"
 refine kR (fun c => ?_) (fun c => ?_)
 ·walk_at "xs"
  refine ⟨b, _, _, rfl, b1, by omega, by split <;> omega, by split <;> omega, fun r2 H2 k2 b2 l2 u2 => ⟨_, rfl, ?_⟩⟩
  refine q _ _ (k1.trans k2) (b2.mono (by omega)) ?_ ?_
  ·split at u2 <;> omega
  ·omega
 ·walk_at "xs"
  intro p1 hp1
  refine ⟨b, 12, _, rfl, b1.new hp1, by omega, by decide, by decide, fun r2 H2 k2 b2 l2 u2 => ?_⟩
  have hne : p1 ≠ b := by obtain ⟨_, _, _, h, _⟩ := b1; exact Ne.symm (ze h hp1)
  have h2 := k2 p1 _ (by simpa using hne) zf
  obtain ⟨e1, e2⟩ := zL (cs := wa) (k := r2) l2 (by simpa using u2)
  refine ⟨_, _, rfl, SqL.of h2, _, e2, b, 17, _, rfl, b2, by omega, by decide, by decide, fun r3 H3 k3 b3 l3 u3 => ?_⟩
  have hv : 0 <= wa.getD r2.toNat 0 /\ wa.getD r2.toNat 0 <= (24 : Int) := by
   have : ∀ j : Nat, 0 <= wa.getD j 0 /\ wa.getD j 0 <= (24 : Int) := by
    intro j
    by_cases hj : j < 12
    ·have hd : ∀ j : Nat, j < 12 -> 0 <= wa.getD j 0 /\ wa.getD j 0 <= (24 : Int) := by decide
     exact hd j hj
    ·have e : wa.getD j (0 : Int) = 0 := by rw [List.getD_eq_getElem?_getD, List.getElem?_eq_none (by simpa using hj)]; rfl
     rw [e]; decide
   exact this _
  refine ⟨_, rfl, by show 2 <= sizeLine; decide, fun p2 hp2 => ?_⟩
  refine ⟨b, 6, _, rfl, b3.new hp2, by omega, by decide, by decide, fun r4 H4 k4 b4 l4 u4 => ⟨rfl, ?_⟩⟩
  have hne2 : p2 ≠ b := by obtain ⟨_, _, _, h, _⟩ := b3; exact Ne.symm (ze h hp2)
  have h4 := k4 p2 _ (by simpa using hne2) zf
  have fin : ∀ r, 0 <= r -> r <= 24 -> Q (.int r) H4 := fun r g1 g2 => by
   refine q r H4 ?_ (b4.mono (by omega)) g1 (by omega)
   exact (((k1.trans (Kp.new _ hp1)).trans k2).trans k3).trans ((Kp.new _ hp2).trans k4)
  by_cases c4 : r4 = 0
  ·subst c4
   exact ⟨_, SqL.of h4, _, rfl, fin _ (by omega) (by omega)⟩
  ·rw [if_neg (fun z => c4 (V.int.inj z))]
   exact ⟨_, SqL.of h4, _, rfl, fin _ hv.1 hv.2⟩
noncomputable abbrev jY : Stmt := top 18
theorem xl : zA ["_law_box_here", "_law_n", "_law_row", "_law_k"] ["_law_box_here", "_law_n"] (zj jY) := ⟨rfl, rfl, rfl, by decide +kernel, rfl, by decide +kernel, by decide +kernel⟩
noncomputable def jd : Sp := fun vs H Q _ => ∃ (b : Addr) (n N : Nat), vs = [.ref b, .int n] /\ Bx H b N /\ N < 10000000 /\ n <= 1000 /\ ∀ p H' ns, Kp [b] H H' -> H p = none -> Bx H' b (N + 1000) -> H' p = some (il ns) -> zq n ns -> Q (.ref p) H'
theorem Vw (ns : List Int) (i : Nat) (v : Int) : (ns.map V.int).take i ++ V.int v :: (ns.map V.int).drop i = (ns.take i ++ v :: ns.drop i).map V.int := by simp [List.map_take, List.map_drop]
theorem Zt (a : At K mg "_law_shuffled" jY) (B : Blt mg) (D_law_take : Df P w K mg base "_law_take" ["_law_box_here", "_law_many"] 1 jW) : Df P w K mg base "_law_shuffled" ["_law_box_here", "_law_n"] 2 jd := by
 refine jt (k := 1) a xl (fun _ _ _ _ _ _ us hl => match us, hl with | [_, _], _ => rfl) (fun vs H Q E h => ?_) (fun f cdv A outer s H vs Q E hr h => ?_)
 ·obtain ⟨a, k, cs, rfl, _⟩ := h; rfl
 obtain ⟨b, n, N, rfl, hb, hN, hn, q⟩ := h
 have sc := xl
 have hsl := hsl
 refine ⟨_, (zc (zy (i := 2) sc.nd rfl (by first | exact Or.inl rfl | exact Or.inr rfl) (zP zb))
  (zc (qA PassesOwn.never rfl (qh rfl B.range (za (pv 1) zb)) (zE (i := 3) sc.nd rfl (by first | exact Or.inl rfl | exact Or.inr rfl)) (zi (qp (xk PySem.F.plainAttrs_list PySem.F.slot_list_insert PySem.F.type_list_insert xj (pv 2) (za (zD D_law_take hr rfl (za (pv 0) (za (zm zK (pv 3) zd) zb))) (za (pv 3) zb))))))
  (zi (zx (pv 2))))), ?_⟩
 rw [show start ["_law_box_here", "_law_n", "_law_row", "_law_k"] [V.ref b, V.int n] = [some (.ref b), some (.int n), none, none] from rfl]
 walk_at "rd"
 walk_at "xs"
 intro p hp
 walk_at "xs"
 have hne : b ≠ p := hb.ne hp
 rw [Int.toNat_natCast]
 refine j7 (fun i τ H' => ∃ u ns, τ = [some (.ref b), some (.int n), some (.ref p), u] /\ Kp [p, b] (upd H p (.lst [])) H' /\ Bx H' b (N + i) /\ H' p = some (il ns) /\ zq i ns) ?_ ?_ ?_
 ·exact ⟨none, [], rfl, Kp.refl, hb.new hp, zf, zq.nil⟩
 ·rintro i τ H' hi ⟨u, ns, rfl, kp, b1, hns, ho⟩
  walk_at "rd"
  refine ⟨.inl ⟨rfl, _, SqL.of hns⟩, b, _, N + i, rfl, b1, by omega, by omega, by omega, fun r H2 k2 b2 l2 u2 => ?_⟩
  have h2 := k2 p _ (by simpa using Ne.symm hne) hns
  have ol := ho.1
  refine ⟨_, _, rfl, h2, l2, by rw [List.length_map, ol]; omega, by rw [List.length_map, ol]; omega, (kp.trans (k2.mono (by simp))).trans (Kp.set _ (by simp)), ?_, _, zf.trans (by rw [show (0 : Int) + (i : Int) = i by omega, Vw]), ho.insert _⟩
  exact b2.keep (Kp.set (bs := [p]) _ (by simp)) (by simpa using hne)
 ·rintro τ H' ⟨u, ns, rfl, kp, b1, hns, ho⟩
  walk_at "rd"
  exact q p H' ns (Kp.drop1 hp kp) hp (b1.mono (by omega)) hns ho
noncomputable abbrev xU : Stmt := top 19
theorem va : zA ["_law_box_here", "_law_n", "_law_many", "_law_row", "_law_order_here", "_law_cuts", "_law_begin", "_law_end", "_law_k"] ["_law_box_here", "_law_n", "_law_many"] (zj xU) := ⟨rfl, rfl, rfl, by decide +kernel, rfl, by decide +kernel, by decide +kernel⟩
noncomputable def Zj : Sp := fun vs H Q _ => ∃ (b : Addr) (n m N : Nat), vs = [.ref b, .int n, .int m] /\ Bx H b N /\ N < 5000000 /\ 2 <= n /\ n <= 1000 /\ 1 <= m /\ m <= 10 /\ ∀ p H' ns, Kp [b] H H' -> H p = none -> Bx H' b (N + 2000) -> H' p = some (il ns) -> zq n ns -> Q (.ref p) H'
noncomputable def v9 (n : Nat) (row os : List Int) (c : Nat) : Prop := os.length = n /\ (∃ ν : Nat -> Nat, (∀ j, j < c -> ν j < c) /\ (∀ j k, j < c -> k < c -> ν j = ν k -> j = k) /\ ∀ j, j < c -> os.getD (row.getD j 0).toNat 0 = row.getD (ν j) 0) /\ ∀ j, c <= j -> j < n -> os.getD (row.getD j 0).toNat 0 = row.getD j 0
theorem v9.start {n : Nat} {row : List Int} (ho : zq n row) : v9 n row (zU 0 1 n) 0 := by
 refine ⟨zw 0 1 n, ⟨id, (fun j hj => absurd hj (Nat.not_lt_zero _)), (fun j k hj => absurd hj (Nat.not_lt_zero _)), (fun j hj => absurd hj (Nat.not_lt_zero _))⟩, fun j _ hj => ?_⟩
 have := ho.getD hj
 rw [qy n (by omega)]; omega
theorem v9.fin {n : Nat} {row os : List Int} (ho : zq n row) (h : v9 n row os n) : zq n os := by
 obtain ⟨l, ⟨ν, h1, h2, h3⟩, _⟩ := h
 refine qY l (fun i hi => ?_) (fun i k hi hk e => ?_)
 ·obtain ⟨j, hj, e⟩ := ho.ex hi
  have := h3 j hj
  rw [e, Int.toNat_natCast] at this
  rw [this]; exact ho.getD (h1 j hj)
 ·obtain ⟨j, hj, e1⟩ := ho.ex hi
  obtain ⟨j', hj', e2⟩ := ho.ex hk
  have a := h3 j hj
  have b := h3 j' hj'
  rw [e1, Int.toNat_natCast] at a
  rw [e2, Int.toNat_natCast] at b
  have := h2 j j' hj hj' (ho.inj (h1 j hj) (h1 j' hj') (by rw [<- a, <- b, e]))
  subst this
  omega
noncomputable def yq (n : Nat) (row os : List Int) (c e t : Nat) : Prop := os.length = n /\ (∃ ν : Nat -> Nat, (∀ j, j < c -> ν j < c) /\ (∀ j k, j < c -> k < c -> ν j = ν k -> j = k) /\ ∀ j, j < c -> os.getD (row.getD j 0).toNat 0 = row.getD (ν j) 0) /\ (∀ j, c <= j -> j < c + t -> os.getD (row.getD j 0).toNat 0 = row.getD (if j + 1 = e then c else j + 1) 0) /\ ∀ j, c + t <= j -> j < n -> os.getD (row.getD j 0).toNat 0 = row.getD j 0
theorem v9.go {n : Nat} {row os : List Int} {c : Nat} (e : Nat) (h : v9 n row os c) : yq n row os c e 0 := ⟨h.1, h.2.1, fun j h1 h2 => by omega, fun j h1 h2 => h.2.2 j (by omega) h2⟩
theorem yq.step {n : Nat} {row os : List Int} {c e t : Nat} (ho : zq n row) (h : yq n row os c e t) (ht : c + t < e) (he : e <= n) : yq n row (os.set (row.getD (c + t) 0).toNat (row.getD (if c + t + 1 = e then c else c + t + 1) 0)) c e (t + 1) := by
 obtain ⟨l, ⟨ν, h1, h2, h3⟩, h4, h5⟩ := h
 have gt := ho.getD (i := c + t) (by omega)
 have g : ∀ j, j < n -> (os.set (row.getD (c + t) 0).toNat (row.getD (if c + t + 1 = e then c else c + t + 1) 0)).getD (row.getD j 0).toNat 0 = if j = c + t then row.getD (if c + t + 1 = e then c else c + t + 1) 0 else os.getD (row.getD j 0).toNat 0 := fun j hj => by
  have gj := ho.getD hj
  rw [jC (by omega)]
  by_cases z : j = c + t
  ·subst z; rw [if_pos rfl, if_pos rfl]
  ·rw [if_neg z, if_neg]
   intro z'
   exact z (ho.inj hj (by omega) (by omega))
 refine ⟨by rw [List.length_set, l], ⟨ν, h1, h2, fun j hj => ?_⟩, fun j j1 j2 => ?_, fun j j1 j2 => ?_⟩
 ·rw [g j (by omega), if_neg (by omega)]; exact h3 j hj
 ·rw [g j (by omega)]
  by_cases z : j = c + t
  ·rw [if_pos z, z]
  ·rw [if_neg z]; exact h4 j j1 (by omega)
 ·rw [g j j2, if_neg (by omega)]; exact h5 j (by omega) j2
theorem yq.done {n : Nat} {row os : List Int} {c e : Nat} (h : yq n row os c e (e - c)) (hc : c <= e) : v9 n row os e := by
 obtain ⟨l, ⟨ν, h1, h2, h3⟩, h4, h5⟩ := h
 refine ⟨l, ⟨fun j => if j < c then ν j else if j + 1 = e then c else j + 1, fun j hj => ?_, fun j k hj hk z => ?_, fun j hj => ?_⟩, fun j j1 j2 => h5 j (by omega) j2⟩
 ·dsimp only
  split
  ·have := h1 j (by assumption); omega
  ·split <;> omega
 ·dsimp only at z
  by_cases a : j < c
  ·rw [if_pos a] at z
   have := h1 j a
   by_cases b : k < c
   ·rw [if_pos b] at z; exact h2 j k a b z
   ·rw [if_neg b] at z; split at z <;> omega
  ·rw [if_neg a] at z
   by_cases b : k < c
   ·rw [if_pos b] at z
    have := h1 k b
    split at z <;> omega
   ·rw [if_neg b] at z
    split at z <;> split at z <;> omega
 ·dsimp only
  by_cases a : j < c
  ·rw [if_pos a]; exact h3 j a
  ·rw [if_neg a]; exact h4 j (by omega) (by omega)
theorem vp {cs : List Int} (hp : cs.Pairwise (· <= ·)) (h0 : (0 : Int) ∈ cs) (hb : ∀ x ∈ cs, 0 <= x) : cs.getD 0 0 = 0 := by
 cases cs with
 | nil => rfl
 | cons x r =>
  show x = 0
  have := hb x List.mem_cons_self
  rcases List.mem_cons.mp h0 with e | e
  ·exact e.symm
  ·have := (List.pairwise_cons.mp hp).1 0 e; omega
theorem Zr {cs : List Int} {n : Int} (hp : cs.Pairwise (· <= ·)) (h0 : n ∈ cs) (hb : ∀ x ∈ cs, x <= n) : cs.getD (cs.length - 1) 0 = n := by
 obtain ⟨i, hi, e⟩ := List.mem_iff_getElem.mp h0
 have hl : cs.length - 1 < cs.length := by omega
 rw [zY hl]
 have h1 := hb _ (List.getElem_mem hl)
 by_cases z : i = cs.length - 1
 ·subst z; exact e
 ·have := List.pairwise_iff_getElem.mp hp i (cs.length - 1) hi hl (by omega); omega
theorem wc {cs : List Int} (hp : cs.Pairwise (· <= ·)) {i : Nat} (hi : i + 1 < cs.length) : cs.getD i 0 <= cs.getD (i + 1) 0 := by
 rw [zY (by omega), zY hi]
 exact List.pairwise_iff_getElem.mp hp i (i + 1) (by omega) hi (by omega)
theorem EH (cs : List Int) : vv (cs.map V.int) (some 1) none = List.map V.int ((cs.drop (min 1 cs.length)).take (cs.length - min 1 cs.length)) := by
 rw [yg, show (1 : Int) = ((1 : Nat) : Int) from rfl, HT.sIx_nat, HT.sIx_none]
theorem YQ {k b e : Int} (h1 : b <= k) (h2 : k < e) : b + (k + 1 - b) % (e - b) = if k + 1 = e then b else k + 1 := by
 by_cases z : k + 1 = e
 ·rw [if_pos z, show k + 1 - b = e - b by omega, Int.emod_self]; omega
 ·rw [if_neg z, Int.emod_eq_of_lt (by omega) (by omega)]; omega
theorem Jz (a : At K mg "_law_ringed" xU) (B : Blt mg) (D_law_take : Df P w K mg base "_law_take" ["_law_box_here", "_law_many"] 2 jW) (D_law_shuffled : Df P w K mg base "_law_shuffled" ["_law_box_here", "_law_n"] 2 jd) : Df P w K mg base "_law_ringed" ["_law_box_here", "_law_n", "_law_many"] 3 Zj := by
 refine jt (k := 2) a va (fun _ _ _ _ _ _ us hl => match us, hl with | [_, _, _], _ => rfl) (fun vs H Q E h => ?_) (fun f cdv A outer s H vs Q E hr h => ?_)
 ·obtain ⟨b, n, m, N, rfl, _⟩ := h; rfl
 obtain ⟨b, n, m, N, rfl, hb, hN, hn2, hn, hm1, hm, q⟩ := h
 have sc := va
 have hsl := hsl
 refine ⟨_, (zc (zy (i := 3) sc.nd rfl (by first | exact Or.inl rfl | exact Or.inr rfl) (zD D_law_shuffled hr rfl (za (pv 0) (za (pv 1) zb))))
  (zc (zy (i := 4) sc.nd rfl (by first | exact Or.inl rfl | exact Or.inr rfl) (zp (zT rfl) rfl B.list qi (za (zp qo rfl B.range qO (za (pv 1) zb)) zb)))
  (zc (zy (i := 5) sc.nd rfl (by first | exact Or.inl rfl | exact Or.inr rfl) (zl vO rfl B.sorted J9 (za (zm vM (zP (za zd (za (pv 1) zb))) (kE (ts := [8]) rfl rfl (qh rfl B.range (za (zm jA (pv 2) zd) zb)) (fun _ _ _ _ => (zE (i := 8) sc.nd rfl (by first | exact Or.inl rfl | exact Or.inr rfl))) (fun _ _ _ _ => jP) (fun _ _ _ _ => (zD D_law_take hr rfl (za (pv 0) (za (zm zK (pv 1) zd) zb)))))) zb)))
  (zc (qA PassesOwn.never rfl (BE rfl B.zip (za (pv 5) (za (jD ka (pv 5) (jL zd) xH) zb))) (kC (K := K) 2 rfl rfl (ql (zE (i := 6) sc.nd rfl (by first | exact Or.inl rfl | exact Or.inr rfl)) (ql (zE (i := 7) sc.nd rfl (by first | exact Or.inl rfl | exact Or.inr rfl)) kr))) (zi (qA PassesOwn.never rfl (yM rfl B.range (za (pv 6) (za (pv 7) zb))) (zE (i := 8) sc.nd rfl (by first | exact Or.inl rfl | exact Or.inr rfl)) (zi (jc (zQ zO (pv 3) (zm zK (pv 6) (zm qt (zm jA (zm zK (pv 8) zd) (pv 6)) (zm jA (pv 7) (pv 6)))) (fun _ _ => rfl)) (qV (pv 4) (zQ zO (pv 3) (pv 8) (fun _ _ => rfl)) qa))))))
  (zi (zx (pv 4))))))), ?_⟩
 rw [show start ["_law_box_here", "_law_n", "_law_many", "_law_row", "_law_order_here", "_law_cuts", "_law_begin", "_law_end", "_law_k"] [V.ref b, V.int n, V.int m] = [some (.ref b), some (.int n), some (.int m), none, none, none, none, none, none] from rfl]
 walk_at "rd"
 refine ⟨b, n, N, rfl, hb, by omega, by omega, fun p1 H1 row k1 hp1 b1 h1 ho => ?_⟩
 walk_at "rd"
 walk_at "xs"
 intro p2 hp2
 refine ⟨0, n, 1, zf, small_one (by omega) (by omega) (by omega) (by omega), n, by rw [rangeSize_one]; split <;> omega, by omega, fun p3 hp3 => ?_⟩
 walk_at "xs"
 intro p4 hp4
 walk_at "xs"
 intro D hD
 have ol := ho.1
 have bG : Bx (upd (upd (upd H1 p2 (qZ p2 0 n 1)) p3 (il (zU 0 1 n))) p4 (.lst [.int 0, .int n])) b (N + 1000) := ((b1.new hp2).new hp3).new hp4
 have nbD : b ≠ D := bG.ne hD
 have h3G : upd (upd (upd H1 p2 (qZ p2 0 n 1)) p3 (il (zU 0 1 n))) p4 (.lst [.int 0, .int n]) p3 = some (il (zU 0 1 n)) := by walk_at "hp"
 have h4G : upd (upd (upd H1 p2 (qZ p2 0 n 1)) p3 (il (zU 0 1 n))) p4 (.lst [.int 0, .int n]) p4 = some (.lst [.int 0, .int n]) := zf
 have h1G : upd (upd (upd H1 p2 (qZ p2 0 n 1)) p3 (il (zU 0 1 n))) p4 (.lst [.int 0, .int n]) p1 = some (il row) := by walk_at "hp"
 have kG : Kp [] H1 (upd (upd (upd H1 p2 (qZ p2 0 n 1)) p3 (il (zU 0 1 n))) p4 (.lst [.int 0, .int n])) := by walk_at "kp"
 have hn3 : H1 p3 = none := by walk_at "fr"
 have nb1 : b ≠ p1 := hb.ne hp1
 have nb3 : b ≠ p3 := b1.ne hn3
 generalize upd (upd (upd H1 p2 (qZ p2 0 n 1)) p3 (il (zU 0 1 n))) p4 (.lst [.int 0, .int n]) = G at hD bG h3G h4G h1G kG ⊢
 have n3D : p3 ≠ D := ze h3G hD
 have n4D : p4 ≠ D := ze h4G hD
 have n1D : p1 ≠ D := ze h1G hD
 have nb4 : b ≠ p4 := fun z => by
  obtain ⟨x, y, zz, e, _⟩ := bG
  rw [z, h4G] at e; cases e
 rw [show ((m : Int) - 1).toNat = m - 1 by omega]
 refine kg (fun i τ H' => ∃ u ts, τ = [some (.ref b), some (.int n), some (.int m), some (.ref p1), some (.ref p3), none, none, none, u] /\ Kp [D, b] (upd G D (.lst [])) H' /\ Bx H' b (N + 1000 + i) /\ H' D = some (il ts) /\ ts.length = i /\ ∀ t ∈ ts, 0 <= t /\ t <= (n : Int)) ?_ ?_ ?_
 ·exact ⟨none, [], rfl, Kp.refl, bG.new hD, zf, rfl, fun t ht => nomatch ht⟩
 ·rintro i τ H' hi ⟨u, ts, rfl, kp, b', hts, hl, hbd⟩
  walk_at "rd"
  refine ⟨b, _, _, rfl, b', by omega, by omega, by omega, fun r H2 k2 b2 l2 u2 => ?_⟩
  have h2 := k2 D _ (by simpa using Ne.symm nbD) hts
  refine ⟨_, h2, by rw [List.length_map]; omega, ((kp.trans (k2.mono (by simp))).trans (Kp.set _ (by simp))), b2.keep (Kp.set (bs := [D]) _ (by simp)) (by simpa using nbD), ts ++ [r], zf.trans (congrArg some (congrArg HO.lst (by rw [List.map_append]; rfl))), by rw [List.length_append, hl]; rfl, fun t ht => ?_⟩
  rcases List.mem_append.mp ht with z | z
  ·exact hbd t z
  ·have : t = r := by simpa using z
   subst this; omega
 ·rintro τ H' ⟨u, ts, rfl, kp, b', hts, hl, hbd⟩
  have kD : Kp [b] G H' := Kp.drop1 hD kp
  have g3 := kD _ _ (by simpa using Ne.symm nb3) h3G
  have g4 := kD _ _ (by simpa using Ne.symm nb4) h4G
  have g1 := kD _ _ (by simpa using Ne.symm nb1) h1G
  refine ⟨D, rfl, _, g4, _, hts, by rw [List.length_map]; show 2 + _ <= _; omega, fun p6 hp6 => ?_⟩
  refine ⟨0 :: (n : Int) :: ts, SqL.of (zf.trans rfl), by rw [List.length_cons, List.length_cons]; omega, fun p7 cs hp7 pm pw => ?_⟩
  refine ⟨_, SqL.of zf, fun p8 hp8 => ?_⟩
  have lcs : cs.length = m + 1 := by rw [pm.length_eq, List.length_cons, List.length_cons]; omega
  rw [EH, lcs]
  generalize hd : (cs.drop (min 1 (m + 1))).take (m + 1 - min 1 (m + 1)) = d
  have ld : d.length = m := by rw [<- hd, List.length_take, List.length_drop]; omega
  have gd : ∀ i, i < m -> d.getD i 0 = cs.getD (i + 1) 0 := fun i hi => by
   rw [<- hd, List.getD_eq_getElem?_getD, List.getElem?_take, if_pos (by omega), List.getElem?_drop, List.getD_eq_getElem?_getD]
   congr 2; omega
  have bcs : ∀ x ∈ cs, 0 <= x /\ x <= (n : Int) := fun x hx => by
   have := pm.mem_iff.mp hx
   rcases List.mem_cons.mp this with z | z
   ·omega
   ·rcases List.mem_cons.mp z with z | z
    ·omega
    ·exact hbd x z
  have c0 := vp pw (pm.mem_iff.mpr List.mem_cons_self) (fun x hx => (bcs x hx).1)
  have cn := Zr pw (pm.mem_iff.mpr (List.mem_cons_of_mem _ List.mem_cons_self)) (fun x hx => (bcs x hx).2)
  rw [lcs, Nat.add_sub_cancel] at cn
  have cb : ∀ i, i <= m -> 0 <= cs.getD i 0 /\ cs.getD i 0 <= (n : Int) := fun i hi => by
   rw [zY (by omega)]; exact bcs _ (List.getElem_mem _)
  have n36 : p3 ≠ p6 := ze g3 hp6
  have h36 : upd H' p6 (HO.lst ([V.int 0, V.int n] ++ List.map V.int ts)) p3 = some (il (zU 0 1 n)) := (zh n36).trans g3
  have n37 : p3 ≠ p7 := ze h36 hp7
  have n16 : p1 ≠ p6 := ze g1 hp6
  have h16 : upd H' p6 (HO.lst ([V.int 0, V.int n] ++ List.map V.int ts)) p1 = some (il row) := (zh n16).trans g1
  have n17 : p1 ≠ p7 := ze h16 hp7
  have n78 : p7 ≠ p8 := ze zf hp8
  have g83 : upd (upd (upd H' p6 (HO.lst ([V.int 0, V.int n] ++ List.map V.int ts))) p7 (HO.lst (List.map V.int cs))) p8 (HO.lst (List.map V.int d)) p3 = some (il (zU 0 1 n)) := by walk_at "hp"
  have g81 : upd (upd (upd H' p6 (HO.lst ([V.int 0, V.int n] ++ List.map V.int ts))) p7 (HO.lst (List.map V.int cs))) p8 (HO.lst (List.map V.int d)) p1 = some (il row) := by walk_at "hp"
  have g87 : upd (upd (upd H' p6 (HO.lst ([V.int 0, V.int n] ++ List.map V.int ts))) p7 (HO.lst (List.map V.int cs))) p8 (HO.lst (List.map V.int d)) p7 = some (il cs) := by walk_at "hp"
  have g88 : upd (upd (upd H' p6 (HO.lst ([V.int 0, V.int n] ++ List.map V.int ts))) p7 (HO.lst (List.map V.int cs))) p8 (HO.lst (List.map V.int d)) p8 = some (il d) := zf
  have k8 : Kp [] H' (upd (upd (upd H' p6 (HO.lst ([V.int 0, V.int n] ++ List.map V.int ts))) p7 (HO.lst (List.map V.int cs))) p8 (HO.lst (List.map V.int d))) := by walk_at "kp"
  refine ⟨⟨_, SqL.of g87⟩, ⟨_, SqL.of g88⟩, ?_⟩
  generalize upd (upd (upd H' p6 (HO.lst ([V.int 0, V.int n] ++ List.map V.int ts))) p7 (HO.lst (List.map V.int cs))) p8 (HO.lst (List.map V.int d)) = G8 at g83 g81 g87 g88 k8 ⊢
  have n38 : p3 ≠ p8 := fun z => by
   have : H' p3 ≠ none := by rw [g3]; simp
   exact this (by
    have := ky hp8 (((Kp.new (bs := []) (HO.lst ([V.int 0, V.int n] ++ List.map V.int ts)) hp6).trans (Kp.new (HO.lst (List.map V.int cs)) hp7)))
    rw [z]; exact this)
  have n13 : p1 ≠ p3 := ze h1 hn3
  refine VQ (xs := cs.map V.int) (ys := d.map V.int) (fun i τ H2 => ∃ u v x os, τ = [some (.ref b), some (.int n), some (.int m), some (.ref p1), some (.ref p3), some (.ref p7), u, v, x] /\ Kp [p3] G8 H2 /\ H2 p3 = some (il os) /\ v9 n row os (cs.getD i 0).toNat) ?_ ?_ ?_ ?_ ?_
  ·rw [List.length_map, List.length_map]; omega
  ·refine ⟨none, none, none, zU 0 1 n, rfl, Kp.refl, g83, ?_⟩
   rw [c0]; exact v9.start ho
  ·rintro i τ H2 _ ⟨u, v, x, os, rfl, kp2, _⟩
   exact ⟨SqL.of (kp2 _ _ (by simpa using Ne.symm n37) g87), SqL.of (kp2 _ _ (by simpa using Ne.symm n38) g88)⟩
  ·rintro i x y pp τ H2 hx hy hpp ⟨u, v, x', os, rfl, kp2, hos, gone⟩
   obtain ⟨rfl, hi⟩ := jk hx
   obtain ⟨rfl, hi'⟩ := jk hy
   have him : i < m := by omega
   rw [gd i him]
   have q1 := cb i (by omega)
   have q2 := cb (i + 1) (by omega)
   have q3 := wc pw (i := i) (by omega)
   generalize cs.getD (i + 1) 0 = ei at q2 q3 ⊢
   generalize cs.getD i 0 = ci at q1 q3 gone ⊢
   obtain ⟨c, rfl⟩ : ∃ c : Nat, ci = c := ⟨ci.toNat, by omega⟩
   obtain ⟨e, rfl⟩ : ∃ e : Nat, ei = e := ⟨ei.toNat, by omega⟩
   rw [Int.toNat_natCast] at gone ⊢
   walk_at "rd"
   walk_at "xs"
   rw [show ((e : Int) - (c : Int)).toNat = e - c by omega]
   have hos' : upd H2 pp (HO.tup [V.int c, V.int e]) p3 = some (il os) := by walk_at "hp"
   refine j7 (fun t τ H4 => ∃ x os', τ = [some (.ref b), some (.int n), some (.int m), some (.ref p1), some (.ref p3), some (.ref p7), some (.int c), some (.int e), x] /\ Kp [p3] (upd H2 pp (HO.tup [V.int c, V.int e])) H4 /\ H4 p3 = some (il os') /\ yq n row os' c e t) ?_ ?_ ?_
   ·exact ⟨_, os, rfl, Kp.refl, hos', gone.go e⟩
   ·rintro t τ H4 ht ⟨x2, os2, rfl, kp4, hos2, going⟩
    have hrow : H4 p1 = some (il row) := kp4 _ _ (by simpa using n13) (Kp.new (bs := []) _ hpp _ _ (by simp) (kp2 _ _ (by simpa using n13) g81))
    have gl := going.1
    have gt := ho.getD (i := c + t) (by omega)
    have mn := YQ (k := (c : Int) + t) (b := c) (e := e) (by omega) (by omega)
    obtain ⟨_, a1⟩ := zL (cs := row) (k := (c : Int) + ((c : Int) + t + 1 - c) % ((e : Int) - c)) (by rw [mn]; split <;> omega) (by rw [mn]; split <;> omega)
    obtain ⟨_, a2⟩ := zL (cs := row) (k := (c : Int) + t) (by omega) (by omega)
    rw [show ((c : Int) + t).toNat = c + t by omega] at a2
    have e3 : ((c : Int) + ((c : Int) + t + 1 - c) % ((e : Int) - c)).toNat = if c + t + 1 = e then c else c + t + 1 := by
     rw [mn]; split <;> split <;> omega
    rw [e3] at a1
    have f1 : ixN (List.map V.int os2).length (row.getD (c + t) 0) = some (row.getD (c + t) 0).toNat := (zL (cs := os2) gt.1 (by omega)).1
    have st := going.step ho (by omega) (by omega)
    walk_at "rd"
    walk_at "xs"
    exact ⟨kp4.trans (Kp.set _ (by simp)), _, zf.trans (congrArg some (congrArg HO.lst (kn _ _ _))), st⟩
   ·rintro τ H4 ⟨x2, os2, rfl, kp4, hos2, going⟩
    walk_at "rd"
    exact ⟨⟨_, rfl⟩, (kp2.trans (Kp.new _ hpp)).trans kp4, os2, hos2, going.done (by omega)⟩
  ·rintro τ H2 ⟨u, v, x, os, rfl, kp2, hos, gone⟩
   walk_at "rd"
   rw [List.length_map, ld, cn, Int.toNat_natCast] at gone
   refine q p3 H2 os ?_ ?_ (((b'.keep k8 (by simp)).keep kp2 (by simpa using nb3)).mono (by omega)) hos (gone.fin ho)
   ·intro c o hc hh
    have a1 := k1 c o hc hh
    have c3 : c ≠ p3 := ze a1 hn3
    exact kp2 c o (by simpa using c3) (k8 c o (by simp) (kD c o hc (kG c o (by simp) a1)))
   ·cases z : H p3 with
    | none => rfl
    | some o => exact absurd (k1 p3 o (by simpa using Ne.symm nb3) z) (by rw [hn3]; simp)
noncomputable abbrev jz : Stmt := top 20
theorem kz : zA ["_law_box_here", "_law_n", "_law_order_here", "_law_row", "_law_k", "_law_one", "_law_other"] ["_law_box_here", "_law_n"] (zj jz) := ⟨rfl, rfl, rfl, by decide +kernel, rfl, by decide +kernel, by decide +kernel⟩
noncomputable def Yi : Sp := fun vs H Q _ => ∃ (b : Addr) (n N : Nat), vs = [.ref b, .int n] /\ Bx H b N /\ N < 5000000 /\ 2 <= n /\ n <= 1000 /\ ∀ p H' ns, Kp [b] H H' -> H p = none -> Bx H' b (N + 2000) -> H' p = some (il ns) -> zq n ns -> Q (.ref p) H'
theorem zq.swap {n : Nat} {os : List Int} (h : zq n os) {x y : Nat} (hx : x < n) (hy : y < n) (ne : x ≠ y) (ex : os.getD x 0 = (x : Int)) (ey : os.getD y 0 = (y : Int)) : zq n ((os.set x (y : Int)).set y (x : Int)) := by
 have l := h.1
 have g : ∀ i, ((os.set x (y : Int)).set y (x : Int)).getD i 0 = if i = y then (x : Int) else if i = x then (y : Int) else os.getD i 0 := fun i => by
  rw [jC (by rw [List.length_set]; omega), jC (by omega)]
 refine qY (by rw [List.length_set, List.length_set, l]) (fun i hi => ?_) (fun i k hi hk e => ?_)
 ·rw [g]
  split
  ·omega
  ·split
   ·omega
   ·exact h.getD hi
 ·rw [g, g] at e
  by_cases i1 : i = y
  ·rw [if_pos i1] at e
   by_cases k1 : k = y
   ·omega
   ·rw [if_neg k1] at e
    by_cases k2 : k = x
    ·rw [if_pos k2] at e; omega
    ·rw [if_neg k2, <- ex] at e
     exact absurd (h.inj hx hk e).symm k2
  ·rw [if_neg i1] at e
   by_cases i2 : i = x
   ·rw [if_pos i2] at e
    by_cases k1 : k = y
    ·rw [if_pos k1] at e; omega
    ·rw [if_neg k1] at e
     by_cases k2 : k = x
     ·omega
     ·rw [if_neg k2, <- ey] at e
      exact absurd (h.inj hy hk e).symm k1
   ·rw [if_neg i2] at e
    by_cases k1 : k = y
    ·rw [if_pos k1, <- ex] at e
     exact absurd (h.inj hi hx e) i2
    ·rw [if_neg k1] at e
     by_cases k2 : k = x
     ·rw [if_pos k2, <- ey] at e
      exact absurd (h.inj hi hy e) i1
     ·rw [if_neg k2] at e
      exact h.inj hi hk e
theorem vP {j : Int} (h : 0 <= j) : Builtin.Range.rangeSize 0 j 1 = (j.toNat : Int) := by rw [rangeSize_one]; split <;> omega
theorem vy (a : At K mg "_law_exchanged" jz) (B : Blt mg) (D_law_take : Df P w K mg base "_law_take" ["_law_box_here", "_law_many"] 2 jW) (D_law_shuffled : Df P w K mg base "_law_shuffled" ["_law_box_here", "_law_n"] 2 jd) : Df P w K mg base "_law_exchanged" ["_law_box_here", "_law_n"] 3 Yi := by
 refine jt (k := 2) a kz (fun _ _ _ _ _ _ us hl => match us, hl with | [_, _], _ => rfl) (fun vs H Q E h => ?_) (fun f cdv A outer s H vs Q E hr h => ?_)
 ·obtain ⟨a, k, cs, rfl, _⟩ := h; rfl
 obtain ⟨b, n, N, rfl, hb, hN, hn2, hn, q⟩ := h
 have sc := kz
 have hsl := hsl
 refine ⟨_, (zc (zy (i := 2) sc.nd rfl (by first | exact Or.inl rfl | exact Or.inr rfl) (zp (zT rfl) rfl B.list qi (za (zp qo rfl B.range qO (za (pv 1) zb)) zb)))
  (zc (zy (i := 3) sc.nd rfl (by first | exact Or.inl rfl | exact Or.inr rfl) (zD D_law_shuffled hr rfl (za (pv 0) (za (pv 1) zb))))
  (zc (qA PassesOwn.never rfl (qh rfl B.range (za (zD D_law_take hr rfl (za (pv 0) (za (zm zK (zm kc (pv 1) zd) zd) zb))) zb)) (zE (i := 4) sc.nd rfl (by first | exact Or.inl rfl | exact Or.inr rfl)) (zc (XC (i := 5) (j := 6) rfl sc.nd rfl rfl (by decide) rfl rfl (za (zQ zO (pv 3) (zm qP zd (pv 4)) (fun _ _ => rfl)) (za (zQ zO (pv 3) (zm zK (zm qP zd (pv 4)) zd) (fun _ _ => rfl)) zb)) rfl)
  (zi (jc (Qm (za (pv 6) (za (pv 5) zb))) (kC (K := K) 2 rfl rfl (ql (qV (pv 2) (pv 5) qa) (ql (qV (pv 2) (pv 6) qa) kr)))))))
  (zi (zx (pv 2)))))), ?_⟩
 rw [show start ["_law_box_here", "_law_n", "_law_order_here", "_law_row", "_law_k", "_law_one", "_law_other"] [V.ref b, V.int n] = [some (.ref b), some (.int n), none, none, none, none, none] from rfl]
 walk_at "rd"
 walk_at "xs"
 intro p1 hp1
 refine ⟨0, n, 1, zf, small_one (by omega) (by omega) (by omega) (by omega), n, vP (by omega), by omega, fun p2 hp2 => ?_⟩
 have hn2' : H p2 = none := by walk_at "fr"
 have b2 : Bx (upd (upd H p1 (qZ p1 0 n 1)) p2 (il (zU 0 1 n))) b N := (hb.new hp1).new hp2
 refine ⟨b, n, N, rfl, b2, by omega, by omega, fun p3 H3 row k3 hp3 b3 hrow ho => ?_⟩
 walk_at "rd"
 walk_at "xs"
 refine ⟨b, _, _, rfl, b3, by omega, by omega, by omega, fun m H4 k4 b4 l4 u4 => ?_⟩
 refine ⟨m, rfl, by omega, by omega, ?_⟩
 have nb2 : p2 ≠ b := by obtain ⟨o, e⟩ := hb.there; exact Ne.symm (ze e hn2')
 have nb3 : p3 ≠ b := by obtain ⟨o, e⟩ := b2.there; exact Ne.symm (ze e hp3)
 have n23 : p2 ≠ p3 := ze zf hp3
 have h32 : H3 p2 = some (il (zU 0 1 n)) := k3 _ _ (by simpa using nb2) zf
 have h42 : H4 p2 = some (il (zU 0 1 n)) := k4 _ _ (by simpa using nb2) h32
 have h43 : H4 p3 = some (il row) := k4 _ _ (by simpa using nb3) hrow
 refine j7 (fun i τ H' => ∃ u v x os, τ = [some (.ref b), some (.int n), some (.ref p2), some (.ref p3), u, v, x] /\ Kp [p2] H4 H' /\ H' p2 = some (il os) /\ zq n os /\ ∀ j : Nat, 2 * i <= j -> j < n -> os.getD (row.getD j 0).toNat 0 = row.getD j 0) ?_ ?_ ?_
 ·refine ⟨none, none, none, zU 0 1 n, rfl, Kp.refl, h42, zq.rng n, fun j _ hj => ?_⟩
  have := ho.getD hj
  rw [qy n (by omega)]; omega
 ·rintro i τ H' hi ⟨u, v, x, os, rfl, kp, hos, oo, hst⟩
  have h3 : H' p3 = some (il row) := kp _ _ (by simpa using Ne.symm n23) h43
  have ol := ho.1
  have ool := oo.1
  have g0 := ho.getD (i := 2 * i) (by omega)
  have g1 := ho.getD (i := 2 * i + 1) (by omega)
  obtain ⟨_, e1⟩ := zL (cs := row) (k := 2 * (0 + (i : Int))) (by omega) (by omega)
  obtain ⟨_, e2⟩ := zL (cs := row) (k := 2 * (0 + (i : Int)) + 1) (by omega) (by omega)
  rw [show (2 * (0 + (i : Int))).toNat = 2 * i by omega] at e1
  rw [show (2 * (0 + (i : Int)) + 1).toNat = 2 * i + 1 by omega] at e2
  have f1 : ixN (List.map V.int os).length (row.getD (2 * i) 0) = some (row.getD (2 * i) 0).toNat := (zL (cs := os) g0.1 (by omega)).1
  have f2 : ixN ((List.map V.int os).set (row.getD (2 * i) 0).toNat (V.int (row.getD (2 * i + 1) 0))).length (row.getD (2 * i + 1) 0) = some (row.getD (2 * i + 1) 0).toNat := by rw [List.length_set]; exact (zL (cs := os) g1.1 (by omega)).1
  walk_at "rd"
  walk_at "xs"
  intro p hp
  have np : p2 ≠ p := ze hos hp
  refine ⟨_, SqT.of zf, rfl, _, _, rfl, _, rfl, _, (zh np).trans hos, _, f1, _, _, rfl, _, rfl, _, zf, _, f2, rfl, ?_⟩
  have s0 := hst (2 * i) (by omega) (by omega)
  have s1 := hst (2 * i + 1) (by omega) (by omega)
  have ne01 : (row.getD (2 * i) 0).toNat ≠ (row.getD (2 * i + 1) 0).toNat := fun z => by
   have := ho.inj (i := 2 * i) (j := 2 * i + 1) (by omega) (by omega) (by omega)
   omega
  have sw := zq.swap oo (x := (row.getD (2 * i) 0).toNat) (y := (row.getD (2 * i + 1) 0).toNat) (by omega) (by omega) ne01 (by omega) (by omega)
  rw [Int.toNat_of_nonneg g0.1, Int.toNat_of_nonneg g1.1] at sw
  refine ⟨((kp.trans (Kp.new _ hp)).trans (Kp.set _ (by simp))).trans (Kp.set _ (by simp)), _, zf.trans (congrArg some (congrArg HO.lst (by rw [kn, kn]))), sw, fun j hj1 hj2 => ?_⟩
  have gj := ho.getD (i := j) hj2
  rw [jC (by rw [List.length_set]; omega), jC (by omega), if_neg, if_neg]
  ·exact hst j (by omega) hj2
  ·intro z
   have := ho.inj (i := j) (j := 2 * i) hj2 (by omega) (by omega)
   omega
  ·intro z
   have := ho.inj (i := j) (j := 2 * i + 1) hj2 (by omega) (by omega)
   omega
 ·rintro τ H' ⟨u, v, x, os, rfl, kp, hos, oo, hst⟩
  walk_at "rd"
  refine q p2 H' os ?_ hn2' ((b4.keep kp (by simpa using Ne.symm nb2)).mono (by omega)) hos oo
  intro c o hc hh
  have c2 : c ≠ p2 := ze hh hn2'
  exact kp c o (by simpa using c2) (k4 c o hc (k3 c o hc (((Kp.new (bs := []) _ hp1).trans (Kp.new _ hp2)) c o (by simp) hh)))
noncomputable abbrev vZ : Stmt := top 21
theorem Zc : zA ["_law_n", "_law_rows", "_law_columns", "_law_place"] ["_law_n", "_law_rows"] (zj vZ) := ⟨rfl, rfl, rfl, by decide +kernel, rfl, by decide +kernel, by decide +kernel⟩
noncomputable def Q1 : Sp := fun vs H Q _ => ∃ (n r c : Nat), vs = [.int n, .int r] /\ n = r * c /\ 1 <= r /\ 1 <= c /\ n <= 1000 /\ ∀ p H' ns, Kp [] H H' -> H p = none -> H' p = some (il ns) -> zq n ns -> Q (.ref p) H'
noncomputable def yB (r c n : Nat) : List Int := (List.range n).map fun (i : Nat) => (i : Int) % (c : Int) * (r : Int) + (i : Int) / (c : Int)
theorem JH {r c n i : Nat} (h : i < n) : (yB r c n).getD i 0 = (i : Int) % (c : Int) * (r : Int) + (i : Int) / (c : Int) := by
 rw [zY (by simp [yB]; exact h)]; simp [yB]
theorem YW {r c n : Nat} (h : n = r * c) (hr : 1 <= r) (hc : 1 <= c) : zq n (yB r c n) := by
 have key : ∀ i : Nat, i < n -> (i / c < r /\ i % c < c /\ (yB r c n).getD i 0 = ((i % c * r + i / c : Nat) : Int)) := fun i hi => by
  refine ⟨?_, Nat.mod_lt _ hc, ?_⟩
  ·rw [Nat.div_lt_iff_lt_mul hc]; omega
  ·rw [JH hi]; simp
 have bd : ∀ i : Nat, i < n -> i % c * r + i / c < n := fun i hi => by
  obtain ⟨h1, h2, _⟩ := key i hi
  have : (i % c + 1) * r <= c * r := Nat.mul_le_mul_right r h2
  have e : c * r = n := by rw [h, Nat.mul_comm]
  have e2 : (i % c + 1) * r = i % c * r + r := Nat.succ_mul _ _
  omega
 refine qY (by simp [yB]) (fun i hi => ?_) (fun i k hi hk e => ?_)
 ·obtain ⟨h1, h2, h3⟩ := key i hi
  have := bd i hi
  rw [h3]; exact ⟨Int.natCast_nonneg _, Int.ofNat_lt.mpr this⟩
 ·obtain ⟨h1, h2, h3⟩ := key i hi
  obtain ⟨k1, k2, k3⟩ := key k hk
  rw [h3, k3] at e
  have e' : i % c * r + i / c = k % c * r + k / c := by omega
  have d1 : (i % c * r + i / c) / r = i % c := by rw [Nat.add_comm, Nat.add_mul_div_right _ _ hr, Nat.div_eq_of_lt h1, Nat.zero_add]
  have d2 : (k % c * r + k / c) / r = k % c := by rw [Nat.add_comm, Nat.add_mul_div_right _ _ hr, Nat.div_eq_of_lt k1, Nat.zero_add]
  have m : i % c = k % c := by rw [<- d1, <- d2, e']
  have d : i / c = k / c := by rw [m] at e'; omega
  rw [<- Nat.div_add_mod i c, <- Nat.div_add_mod k c, m, d]
theorem YR (a : At K mg "_law_table" vZ) (B : Blt mg) : Df P w K mg base "_law_table" ["_law_n", "_law_rows"] 1 Q1 := by
 refine jt (k := 0) a Zc (fun _ _ _ _ _ _ us hl => match us, hl with | [_, _], _ => rfl) (fun vs H Q E h => ?_) (fun f cdv A outer s H vs Q E hr h => ?_)
 ·obtain ⟨n, r, c, rfl, _⟩ := h; rfl
 obtain ⟨n, r, c, rfl, hn, hr1, hc1, hz, q⟩ := h
 have sc := Zc
 have hsl := hsl
 have hrn : r <= n := by rw [hn]; exact Nat.le_mul_of_pos_right r hc1
 have hcn : c <= n := by rw [hn]; exact Nat.le_mul_of_pos_left c hr1
 have ec : (n : Int) / (r : Int) = (c : Int) := by
  rw [hn]; push_cast; exact Int.mul_ediv_cancel_left _ (by omega)
 refine ⟨_, (zc (zy (i := 2) sc.nd rfl (by first | exact Or.inl rfl | exact Or.inr rfl) (zm kc (pv 0) (pv 1)))
  (zi (zx (kE (ts := [3]) rfl rfl (qh rfl B.range (za (pv 0) zb)) (fun _ _ _ _ => (zE (i := 3) sc.nd rfl (by first | exact Or.inl rfl | exact Or.inr rfl))) (fun _ _ _ _ => jP) (fun _ _ _ _ => (zm zK (zm qP (zm qt (pv 3) (pv 2)) (pv 1)) (zm kc (pv 3) (pv 2)))))))), ?_⟩
 rw [show start ["_law_n", "_law_rows", "_law_columns", "_law_place"] [V.int n, V.int r] = [some (.int n), some (.int r), none, none] from rfl]
 walk_at "rd"
 walk_at "xs"
 intro D hD
 rw [Int.toNat_natCast, ec]
 refine kg (fun i τ H' => ∃ u, τ = [some (.int n), some (.int r), some (.int c), u] /\ Kp [D] (upd H D (.lst [])) H' /\ H' D = some (il (yB r c i))) ?_ ?_ ?_
 ·exact ⟨none, rfl, Kp.refl, zf⟩
 ·rintro i τ H' hi ⟨u, rfl, kp, hd⟩
  have m1 := qQ (0 + (i : Int)) (show (0 : Int) < c by omega)
  walk_at "rd"
  walk_at "xs"
  refine ⟨by rw [List.length_map]; simp [yB]; omega, kp.trans (Kp.set _ (by simp)), zf.trans (congrArg some (congrArg HO.lst ?_))⟩
  show _ = List.map V.int (yB r c (i + 1))
  unfold yB
  rw [List.range_succ, List.map_append, List.map_append, Int.zero_add]; rfl
 ·rintro τ H' ⟨u, rfl, kp, hd⟩
  exact q D H' _ (Kp.drop1 hD kp) hD hd (YW hn hr1 hc1)
noncomputable abbrev vG : Stmt := top 22
theorem wZ : zA ["_law_box_here", "_law_n", "_law_way", "_law_begin", "_law_by", "_law_some", "_law_k", "_law_rows"] ["_law_box_here", "_law_n"] (zj vG) := ⟨rfl, rfl, rfl, by decide +kernel, rfl, by decide +kernel, by decide +kernel⟩
noncomputable def QS : Sp := fun vs H Q _ => ∃ (b : Addr) (n N : Nat), vs = [.ref b, .int n] /\ Bx H b N /\ N < 1000000 /\ n <= 1000 /\ ∀ p H' ns, Kp [b] H H' -> H p = none -> Bx H' b (N + 3000) -> H' p = some (il ns) -> zq n ns -> Q (.ref p) H'
theorem Xu {n : Nat} (hn : 0 < n) (by' : Int) : zq n ((List.range n).map fun (i : Nat) => ((i : Int) + by') % (n : Int)) := by
  have g : ∀ i, i < n -> ((List.range n).map fun (i : Nat) => ((i : Int) + by') % (n : Int)).getD i 0 = ((i : Int) + by') % (n : Int) := fun i hi => by
    rw [zY (by simp; exact hi)]; simp
  refine qY (by simp) (fun i hi => ?_) (fun i k hi hk e => ?_)
  · rw [g i hi]; exact qQ _ (by omega)
  · rw [g i hi, g k hk] at e
    have h1 := Int.emod_emod_of_dvd
    have d : ((i : Int) - (k : Int)) % (n : Int) = 0 := by
      have := Int.emod_eq_emod_iff_emod_sub_eq_zero.mp e
      rw [show (i : Int) + by' - ((k : Int) + by') = (i : Int) - k by omega] at this
      exact this
    obtain ⟨z, hz⟩ := Int.dvd_of_emod_eq_zero d
    by_cases z0 : z = 0
    · rw [z0, Int.mul_zero] at hz; omega
    · have : (n : Int) <= (n : Int) * z \/ (n : Int) * z <= -(n : Int) := by
        rcases Int.lt_or_gt_of_ne z0 with h | h
        · right
          have := Int.mul_le_mul_of_nonneg_left (show z <= -1 by omega) (show (0 : Int) <= n by omega)
          omega
        · left
          have := Int.mul_le_mul_of_nonneg_left (show 1 <= z by omega) (show (0 : Int) <= n by omega)
          omega
      omega
theorem JA {n b : Nat} (h : b <= n) : zq n (zU 0 1 b ++ zU ((n : Int) - 1) (-1) (n - b)) := by
 have g : ∀ i, i < n -> (zU 0 1 b ++ zU ((n : Int) - 1) (-1) (n - b)).getD i 0 = if i < b then (i : Int) else (n : Int) - 1 - ((i - b : Nat) : Int) := fun i hi => by
  by_cases z : i < b
  ·rw [if_pos z, List.getD_eq_getElem?_getD, List.getElem?_append_left (by rw [zw]; exact z), <- List.getD_eq_getElem?_getD, qy b z]
  ·rw [if_neg z, List.getD_eq_getElem?_getD, List.getElem?_append_right (by rw [zw]; omega), zw, <- List.getD_eq_getElem?_getD, zY (by rw [zw]; omega)]
   simp [zU]; omega
 refine qY (by rw [List.length_append, zw, zw]; omega) (fun i hi => ?_) (fun i k hi hk e => ?_)
 ·rw [g i hi]; split <;> omega
 ·rw [g i hi, g k hk] at e
  split at e <;> split at e <;> omega
theorem WJ {n b : Nat} (h : b <= n) : Builtin.Range.rangeSize ((n : Int) - 1) ((b : Int) - 1) (-1) = ((n - b : Nat) : Int) := by
 unfold Builtin.Range.rangeSize
 rw [if_neg (by decide)]
 split
 ·rw [show (-(-1) : Int) = 1 from rfl, Int.ediv_one]; omega
 ·omega
theorem Qg {n b : Nat} (h : n <= 1000) (hb : b <= 1000) : Builtin.Range.small ((n : Int) - 1) ((b : Int) - 1) (-1) = true := by
 unfold Builtin.Range.small
 unfold Builtin.Range.rangeSize
 simp only [Builtin.Range.rangeFitsLong, Bool.and_eq_true, Bool.or_eq_true, decide_eq_true_eq, beq_iff_eq, show ¬ (-1 : Int) > 0 by decide, if_false, Int.neg_neg, Int.ediv_one]
 split <;> omega
theorem Ye (a : At K mg "_law_order" vG) (B : Blt mg) (D_law_take : Df P w K mg base "_law_take" ["_law_box_here", "_law_many"] 3 jW) (D_law_shuffled : Df P w K mg base "_law_shuffled" ["_law_box_here", "_law_n"] 3 jd) (D_law_ringed : Df P w K mg base "_law_ringed" ["_law_box_here", "_law_n", "_law_many"] 3 Zj)
  (D_law_exchanged : Df P w K mg base "_law_exchanged" ["_law_box_here", "_law_n"] 3 Yi) (D_law_table : Df P w K mg base "_law_table" ["_law_n", "_law_rows"] 3 Q1) : Df P w K mg base "_law_order" ["_law_box_here", "_law_n"] 4 QS := by
 refine jt (k := 3) a wZ (fun _ _ _ _ _ _ us hl => match us, hl with | [_, _], _ => rfl) (fun vs H Q E h => ?_) (fun f cdv A outer s H vs Q E hr h => ?_)
 ·obtain ⟨b, n, N, rfl, _⟩ := h; rfl
 obtain ⟨b, n, N, rfl, hb, hN, hn, q⟩ := h
 have sc := wZ
 have hsl := hsl
 refine ⟨_, (zc (zy (i := 2) sc.nd rfl (by first | exact Or.inl rfl | exact Or.inr rfl) (zD D_law_take hr rfl (za (pv 0) (za zd zb))))
  (zc (qc (PW.pt (yG (zI Zi (pv 1) zd (zJ _)) (kK (zI kI (pv 2) zd (zJ _))))) (zi (zx (zp (zT rfl) rfl B.list qi (za (zp qo rfl B.range qO (za (pv 1) zb)) zb)))) zF)
  (zc (qc (zI Zi (pv 2) zd (zJ _)) (zi (zx (zD D_law_shuffled hr rfl (za (pv 0) (za (pv 1) zb))))) zF)
  (zc (qc (zI kI (pv 2) zd (zJ _)) (zi (zx (zD D_law_ringed hr rfl (za (pv 0) (za (pv 1) (za zd zb)))))) zF)
  (zc (qc (zI kI (pv 2) zd (zJ _)) (zi (zx (zD D_law_ringed hr rfl (za (pv 0) (za (pv 1) (za (zm zK zd (zD D_law_take hr rfl (za (pv 0) (za zd zb)))) zb)))))) zF)
  (zc (qc (zI kI (pv 2) zd (zJ _)) (zi (zx (zD D_law_exchanged hr rfl (za (pv 0) (za (pv 1) zb))))) zF)
  (zc (qc (zI kI (pv 2) zd (zJ _)) (zc (zy (i := 4) sc.nd rfl (by first | exact Or.inl rfl | exact Or.inr rfl) (zD D_law_take hr rfl (za (pv 0) (za (pv 1) zb))))
  (zi (zx (kE (ts := [6]) rfl rfl (qh rfl B.range (za (pv 1) zb)) (fun _ _ _ _ => (zE (i := 6) sc.nd rfl (by first | exact Or.inl rfl | exact Or.inr rfl))) (fun _ _ _ _ => jP) (fun _ _ _ _ => (zm qt (zm zK (pv 6) (pv 4)) (pv 1))))))) zF)
  (zc (qc (zI kI (pv 2) zd (zJ _)) (zc (QB (j := 5) rfl sc.nd rfl (by first | exact Or.inl rfl | exact Or.inr rfl) (ts := [7]) rfl (yM rfl B.range (za zd (za (zm zK (pv 1) zd) zb))) (fun _ _ _ _ => (zE (i := 7) sc.nd rfl (by first | exact Or.inl rfl | exact Or.inr rfl))) (fun _ _ _ _ => VJ (zI kI (zm qt (pv 1) (pv 7)) zd (zJ _))) (fun _ _ _ _ => (pv 7)))
  (zi (zx (zD D_law_table hr rfl (za (pv 1) (za (zQ zO (pv 5) (zD D_law_take hr rfl (za (pv 0) (za (zl zn rfl B.len zV (za (pv 5) zb)) zb))) (fun _ _ => rfl)) zb)))))) zF)
  (zc (zy (i := 3) sc.nd rfl (by first | exact Or.inl rfl | exact Or.inr rfl) (zD D_law_take hr rfl (za (pv 0) (za (pv 1) zb))))
  (zi (zx (zm vM (zp (zT rfl) rfl B.list qi (za (zp qo rfl B.range qO (za (pv 3) zb)) zb)) (zp (zT rfl) rfl B.list qi (za (zp wG rfl B.range qO (za (zm jA (pv 1) zd) (za (zm jA (pv 3) zd) (za (Xf ZU zd) zb)))) zb)))))))))))))), ?_⟩
 rw [show start ["_law_box_here", "_law_n", "_law_way", "_law_begin", "_law_by", "_law_some", "_law_k", "_law_rows"] [V.ref b, V.int n] = [some (.ref b), some (.int n), none, none, none, none, none, none] from rfl]
 walk_at "rd"
 refine ⟨b, 9, N, rfl, hb, by omega, by decide, by decide, fun way H1 k1 b1 l1 u1 => ?_⟩
 have fr : ∀ p, H1 p = none -> H p = none := fun p hp => by
  cases z : H p with
  | none => rfl
  | some o =>
   by_cases pb : p = b
   ·subst pb; obtain ⟨o', e⟩ := b1.there; rw [e] at hp; cases hp
   ·exact absurd (k1 p o (by simpa using pb) z) (by rw [hp]; simp)
 have bx : ∀ p, H1 p = none -> b ≠ p := fun p hp => b1.ne hp
 have rr : ∀ p, H1 p = none -> ∃ x x_1 x_2, upd H1 p (qZ p 0 (n : Int) 1) p = some (qZ p x x_1 x_2) /\ Builtin.Range.small x x_1 x_2 = true /\ ∃ x_3 : Nat, Builtin.Range.rangeSize x x_1 x_2 = (x_3 : Int) /\ x_3 <= 100000 /\
   ∀ l, upd H1 p (qZ p 0 (n : Int) 1) l = none -> Q (V.ref l) (upd (upd H1 p (qZ p 0 (n : Int) 1)) l (HO.lst (List.map V.int (zU x x_2 x_3)))) := fun p hp => by
  refine ⟨0, n, 1, zf, small_one (by omega) (by omega) (by omega) (by omega), n, vP (by omega), by omega, fun l hl => ?_⟩
  have hl1 : H1 l = none := ky hl (Kp.new _ hp)
  exact q l _ _ (k1.trans ((Kp.new _ hp).trans (Kp.new _ hl))) (fr l hl1) (((b1.new hp).new hl).mono (by omega)) zf (zq.rng n)
 refine kR (fun c => rr) (fun c => ⟨rfl, kR (fun c => rr) (fun c8 => ⟨way, rfl, ?_⟩)⟩)
 refine kR (fun c => ?_) (fun c2 => ⟨rfl, kR (fun c => ?_) (fun c => ⟨rfl, kR (fun c => ?_) (fun c => ⟨rfl, kR (fun c => ?_) (fun c => ⟨rfl, kR (fun c => ?_) (fun c => ⟨rfl, kR (fun c => ?_) (fun c => ?_)⟩)⟩)⟩)⟩)⟩)
 ·exact ⟨b, n, N + 1, rfl, b1, by omega, hn, fun p H' ns k hp b' h' ho => q p H' ns (k1.trans k) (fr p hp) (b'.mono (by omega)) h' ho⟩
 ·exact ⟨b, n, 1, N + 1, rfl, b1, by omega, by omega, hn, by omega, by omega, fun p H' ns k hp b' h' ho => q p H' ns (k1.trans k) (fr p hp) (b'.mono (by omega)) h' ho⟩
 ·refine ⟨b, 4, _, rfl, b1, by omega, by decide, by decide, fun r H2 k2 b2 l2 u2 => ⟨_, rfl, ?_⟩⟩
  have fr2 : ∀ p, H2 p = none -> H p = none := fun p hp => by
   cases z : H p with
   | none => rfl
   | some o =>
    by_cases pb : p = b
    ·subst pb; obtain ⟨o', e⟩ := b2.there; rw [e] at hp; cases hp
    ·exact absurd (k2 p o (by simpa using pb) (k1 p o (by simpa using pb) z)) (by rw [hp]; simp)
  refine ⟨b, n, (2 + r).toNat, _, ?_, b2, by omega, by omega, hn, by omega, by omega, fun p H' ns k hp b' h' ho => q p H' ns ((k1.trans k2).trans k) (fr2 p hp) (b'.mono (by omega)) h' ho⟩
  rw [show (((2 + r).toNat : Nat) : Int) = 2 + r by omega]
 ·exact ⟨b, n, N + 1, rfl, b1, by omega, by omega, hn, fun p H' ns k hp b' h' ho => q p H' ns (k1.trans k) (fr p hp) (b'.mono (by omega)) h' ho⟩
 ·refine ⟨b, _, _, rfl, b1, by omega, by omega, by omega, fun r H2 k2 b2 l2 u2 => ⟨by omega, by omega, fun D hD => ?_⟩⟩
  have fr2 : ∀ p, H2 p = none -> H p = none := fun p hp => by
   cases z : H p with
   | none => rfl
   | some o =>
    by_cases pb : p = b
    ·subst pb; obtain ⟨o', e⟩ := b2.there; rw [e] at hp; cases hp
    ·exact absurd (k2 p o (by simpa using pb) (k1 p o (by simpa using pb) z)) (by rw [hp]; simp)
  rw [Int.toNat_natCast]
  refine kg (fun i τ H' => ∃ u, τ = [some (.ref b), some (.int n), some (.int way), none, some (.int r), none, u, none] /\ Kp [D] (upd H2 D (.lst [])) H' /\ H' D = some (il ((List.range i).map fun (i : Nat) => ((i : Int) + r) % (n : Int)))) ?_ ?_ ?_
  ·exact ⟨none, rfl, Kp.refl, zf⟩
  ·rintro i τ H' hi ⟨u, rfl, kp, hd⟩
   walk_at "rd"
   walk_at "xs"
   refine ⟨by rw [List.length_map, List.length_map, List.length_range]; omega, kp.trans (Kp.set _ (by simp)), zf.trans (congrArg some (congrArg HO.lst ?_))⟩
   rw [List.range_succ, List.map_append, List.map_append, Int.zero_add]; rfl
  ·rintro τ H' ⟨u, rfl, kp, hd⟩
   exact q D H' _ ((k1.trans k2).trans ((Kp.drop1 hD kp).mono (by simp))) (fr2 D hD) ((b2.kp (Kp.drop1 hD kp)).mono (by omega)) hd (Xu (by omega) r)
 ·refine ⟨by decide, by decide, by omega, by omega, fun D hD => ?_⟩
  rw [show ((n : Int) + 1 - 1).toNat = n by omega]
  have nbD := bx D hD
  refine kg (fun i τ H' => ∃ u ts, τ = [some (.ref b), some (.int n), some (.int way), none, none, none, none, u] /\ Kp [D] (upd H1 D (.lst [])) H' /\ H' D = some (il ts) /\ ts.length <= i /\ (1 <= i -> 1 <= ts.length) /\ ∀ t ∈ ts, 1 <= t /\ t <= (n : Int) /\ (n : Int) % t = 0) ?_ ?_ ?_
  ·exact ⟨none, [], rfl, Kp.refl, zf, Nat.le_refl _, (fun h => absurd h (by decide)), fun t ht => nomatch ht⟩
  ·rintro i τ H' hi ⟨u, ts, rfl, kp, hd, hl, hl1, hbd⟩
   walk_at "rd"
   refine ⟨by omega, rfl, kR (fun c => ?_) (fun c => ?_)⟩
   ·refine ⟨_, hd, by rw [List.length_map]; omega, kp.trans (Kp.set _ (by simp)), ts ++ [1 + (i : Int)], zf.trans (congrArg some (congrArg HO.lst (by rw [List.map_append]; rfl))), by rw [List.length_append, List.length_singleton]; omega, fun _ => by rw [List.length_append, List.length_singleton]; omega, fun t ht => ?_⟩
    rcases List.mem_append.mp ht with z | z
    ·exact hbd t z
    ·have : t = 1 + (i : Int) := by simpa using z
     subst this
     exact ⟨by omega, by omega, c⟩
   ·refine ⟨kp, ts, hd, by omega, fun _ => ?_, hbd⟩
    by_cases z : i = 0
    ·subst z
     exact absurd (by show (n : Int) % (1 + 0) = 0; rw [Int.add_zero, Int.emod_one]) c
    ·exact hl1 (by omega)
  ·rintro τ H' ⟨u, ts, rfl, kp, hd, hl, hl1, hbd⟩
   have kD := Kp.drop1 hD kp
   have l1' := hl1 (by omega)
   refine ⟨D, rfl, _, .inl (SqL.of hd), b, _, N + 1, rfl, b1.kp kD, by omega, by rw [List.length_map]; omega, by rw [List.length_map]; omega, fun r H2 k2 b2 l2 u2 => ?_⟩
   rw [List.length_map] at u2
   obtain ⟨e1, e2⟩ := zL (cs := ts) (k := r) l2 u2
   have hd2 := k2 _ _ (by simpa using Ne.symm nbD) hd
   have hm : ts.getD r.toNat 0 ∈ ts := by rw [zY (by omega)]; exact List.getElem_mem _
   obtain ⟨t1, t2, t3⟩ := hbd _ hm
   refine ⟨D, rfl, _, _, rfl, SqL.of hd2, _, e2, ?_⟩
   generalize ts.getD r.toNat 0 = t at t1 t2 t3
   obtain ⟨T, rfl⟩ : ∃ T : Nat, t = T := ⟨t.toNat, by omega⟩
   have dv : T ∣ n := Int.natCast_dvd_natCast.mp (Int.dvd_of_emod_eq_zero t3)
   obtain ⟨C, hC⟩ := dv
   refine ⟨n, T, C, rfl, hC, by omega, ?_, hn, fun p H3 ns k3 hp3 h3 ho => ?_⟩
   ·rcases Nat.eq_zero_or_pos C with z | z
    ·rw [z, Nat.mul_zero] at hC; omega
    ·exact z
   ·refine q p H3 ns (((k1.trans (kD.mono (by simp))).trans k2).trans (k3.mono (by simp))) ?_ ((b2.kp k3).mono (by omega)) h3 ho
    cases z : H p with
    | none => rfl
    | some o =>
     by_cases pb : p = b
     ·subst pb; obtain ⟨o', e⟩ := b2.there; rw [e] at hp3; cases hp3
     ·exact absurd (k2 p o (by simpa using pb) (kD p o (by simp) (k1 p o (by simpa using pb) z))) (by rw [hp3]; simp)
 ·refine ⟨b, _, _, rfl, b1, by omega, by omega, by omega, fun r H2 k2 b2 l2 u2 => ?_⟩
  obtain ⟨R, rfl⟩ : ∃ R : Nat, r = R := ⟨r.toNat, by omega⟩
  have fr2 : ∀ p, H2 p = none -> H p = none := fun p hp => by
   cases z : H p with
   | none => rfl
   | some o =>
    by_cases pb : p = b
    ·subst pb; obtain ⟨o', e⟩ := b2.there; rw [e] at hp; cases hp
    ·exact absurd (k2 p o (by simpa using pb) (k1 p o (by simpa using pb) z)) (by rw [hp]; simp)
  refine ⟨_, rfl, fun p hp => ⟨0, R, 1, zf, small_one (by omega) (by omega) (by omega) (by omega), R, vP (by omega), by omega, fun l hl => ?_⟩⟩
  refine ⟨_, rfl, by decide, by decide, fun p1 hp1 => ⟨_, _, _, zf, Qg hn (by omega), n - R, WJ (by omega), by omega, fun l1 hl1 => ?_⟩⟩
  walk_at "xs"
  intro p2 hp2
  refine q p2 _ (zU 0 1 R ++ zU ((n : Int) - 1) (-1) (n - R)) ?_ ?_ ?_ (zf.trans (congrArg some (congrArg HO.lst (by rw [List.map_append])))) (JA (by omega))
  ·exact (k1.trans k2).trans (by walk_at "kp")
  ·exact fr2 p2 (by walk_at "fr")
  ·exact (b2.kp (by walk_at "kp")).mono (by omega)
theorem EE {t : TE} (h : ME t) : MT (tB t) := fun _ _ _ _ hq q => h _ _ _ _ (fun _ _ ⟨k, e, z⟩ => ⟨k, e, hq _ _ z⟩) q
theorem Wj {ta tb : TE} (ha : ME ta) (hb : ME tb) : ME (v6 ta tb) := fun _ _ _ _ hq h => ha _ _ _ _ (fun _ _ h1 => hb _ _ _ _ (fun _ _ ⟨a, o, e, g, z⟩ => ⟨a, o, e, g, hq _ _ z⟩) h1) h
theorem w6 {n : Nat} {os : List Int} (h : zq n os) {p : Int} (p0 : 0 <= p) (p1 : p < n) {M j k : Nat} (hM : ju os p M) (hj : j <= M) (hk : k < j) (e : itn os k p = itn os j p) : j = M := by
 have e2 : itn os (j - k) p = p := by
  have b := jh h p0 p1 (j - k)
  refine (xK h p0 p1 b.1 b.2 k ?_).symm
  rw [<- qU, show k + (j - k) = j by omega]
  exact e
 rcases Nat.lt_or_ge (j - k) M with z | z
 ·exact absurd e2 (hM.2.2 (j - k) (by omega) z)
 ·omega
noncomputable abbrev yp : Stmt := top 25
theorem yX : zA ["_law_order_here", "_law_found", "_law_met", "_law_place", "_law_ring", "_law_at"] ["_law_order_here"] (zj yp) := ⟨rfl, rfl, rfl, by decide +kernel, rfl, by decide +kernel, by decide +kernel⟩
noncomputable def wC (K : PySem.W.Frag) : Sp := fun vs H Q _ => ∃ (a : Addr) (n : Nat) (os : List Int), vs = [.ref a] /\ SqL K H a (os.map V.int) /\ zq n os /\ n <= 1000 /\
 ∀ p H' rs, Kp [] H H' -> H p = none -> H' p = some (.lst (rfs rs)) -> (∀ r ∈ rs, H r.1 = none /\ r.1 ≠ p /\ H' r.1 = some (il r.2)) -> rs.map (·.2) = zG os n -> Q (.ref p) H'
theorem J0 (a : At K mg "_law_rings" yp) (B : Blt mg) : Df P w K mg base "_law_rings" ["_law_order_here"] 1 (wC K) := by
  refine jt (k := 0) a yX (fun _ _ _ _ _ _ us hl => match us, hl with | [_], _ => rfl) (fun vs H Q E h => ?_) (fun f cdv A outer s H vs Q E hr h => ?_)
  · obtain ⟨a, _, _, rfl, _⟩ := h; rfl
  obtain ⟨a, n, os, rfl, ha, ho, hn, q⟩ := h
  have sc := yX
  have hsz : sizeLine = 16777216 := sizeLine_eq
  have ol := ho.1
  refine ⟨_, (zc (zy (i := 1) sc.nd rfl (by first | exact Or.inl rfl | exact Or.inr rfl) (zP zb))
    (zc (zy (i := 2) sc.nd rfl (by first | exact Or.inl rfl | exact Or.inr rfl) XZ)
    (zc (qA PassesOwn.never rfl (qh rfl B.range (za (zl zn rfl B.len zV (za (pv 0) zb)) zb)) (zE (i := 3) sc.nd rfl (by first | exact Or.inl rfl | exact Or.inr rfl)) (zc (zy (i := 4) sc.nd rfl (by first | exact Or.inl rfl | exact Or.inr rfl) (zP zb))
    (zc (zy (i := 5) sc.nd rfl (by first | exact Or.inl rfl | exact Or.inr rfl) (pv 3))
    (zc (YT PassesOwn.never (Al (Kl (W4 hr) (pv 5) (pv 2))) (zc (VS (W4 hr) (pv 2) (pv 5) jr rfl)
    (zc (qp (xk PySem.F.plainAttrs_list PySem.F.slot_list_append PySem.F.type_list_append qX (pv 4) (za (pv 5) zb)))
    (zi (zy (i := 5) sc.nd rfl (by first | exact Or.inl rfl | exact Or.inr rfl) (zQ zO (pv 0) (pv 5) (fun _ _ => rfl)))))))
    (zi (qc (zI WM (zl zn rfl B.len zV (za (pv 4) zb)) zd (zJ _)) (zi (qp (xk PySem.F.plainAttrs_list PySem.F.slot_list_append PySem.F.type_list_append qX (pv 1) (za (pv 4) zb)))) zF))))))
    (zi (zx (pv 1)))))), ?_⟩
  rw [show start ["_law_order_here", "_law_found", "_law_met", "_law_place", "_law_ring", "_law_at"] [V.ref a] = [some (.ref a), none, none, none, none, none] from rfl]
  walk_at "rd"
  refine ⟨Nat.zero_le _, fun pf hpf pm hpm => ?_⟩
  have kH := (Kp.new (bs := []) (HO.lst []) hpf).trans (Kp.new (HO.dK []) hpm)
  have npm : H pm = none := (Kp.new (bs := []) _ hpf).free hpm
  have hpf0 := (Kp.new (bs := []) (HO.dK []) hpm) pf _ (by simp) (zf (H := H) (o := HO.lst []))
  have hpm0 := zf (H := upd H pf (HO.lst [])) (a := pm) (o := HO.dK [])
  have nsf : pm ≠ pf := Ne.symm (ze zf hpm)
  generalize upd (upd H pf (HO.lst [])) pm (HO.dK []) = H0 at *
  refine ⟨_, .inl (yf ha kH), ?_⟩
  rw [List.length_map, ol]
  refine ⟨by omega, by omega, ?_⟩
  rw [Int.toNat_natCast]
  refine j7 (fun i τ G => ∃ (x3 x4 x5 : Option V) (kvs : List (Key × V)) (rs : List (Addr × List Int)), τ = [some (.ref a), some (.ref pf), some (.ref pm), x3, x4, x5] /\ Kp [pm, pf] H0 G /\ G pm = some (.dK kvs) /\ kvs.length <= i * 1000 /\ (∀ x : Nat, x < n -> ((qI kvs (Sum.inl (x : Int))).isSome = true ↔ qG os i (x : Int))) /\ G pf = some (.lst (rfs rs)) /\ (∀ r ∈ rs, H r.1 = none /\ r.1 ≠ pf /\ r.1 ≠ pm /\ G r.1 = some (il r.2)) /\ rs.map (·.2) = zG os i) ?_ ?_ ?_
  · refine ⟨none, none, none, [], [], rfl, Kp.refl, hpm0, by simp, fun x hx => ?_, hpf0, fun r hr => (nomatch hr), rfl⟩
    constructor
    · intro z; simp [qI] at z
    · rintro ⟨q, hq, _⟩; omega
  · rintro i τ G hi ⟨x3, x4, x5, kvs, rs, rfl, kG, gm, lk, hs, gf, hr, er⟩
    have kHG : Kp [] H G := Kp.un (Kp.un ((kH.mono (by simp)).trans kG) npm) hpf
    have lrs : rs.length <= i := by
      have := qx os i
      rw [<- er, List.length_map] at this
      exact this
    obtain ⟨M, hM, hMn⟩ := kM ho (p := (i : Int)) (by omega) (by omega)
    rw [Int.zero_add]
    walk_at "rd"
    refine ⟨Nat.zero_le _, fun pr hpr => ?_⟩
    have gm1 := (Kp.new (bs := []) (HO.lst []) hpr) _ _ (by simp) gm
    have gf1 := (Kp.new (bs := []) (HO.lst []) hpr) _ _ (by simp) gf
    have gr1 := zf (H := G) (a := pr) (o := HO.lst [])
    have nrm : pr ≠ pm := Ne.symm (ze gm hpr)
    have nrf : pr ≠ pf := Ne.symm (ze gf hpr)
    refine YH (fun τ G' => ∃ (j : Nat) (kvs' : List (Key × V)), τ = [some (.ref a), some (.ref pf), some (.ref pm), some (.int (i : Int)), some (.ref pr), some (.int (itn os j (i : Int)))] /\ Kp [pm, pr] (upd G pr (.lst [])) G' /\ G' pm = some (.dK kvs') /\ kvs'.length <= i * 1000 + j /\ G' pr = some (il (itl os (i : Int) j)) /\ j <= M /\ (∀ x : Nat, x < n -> ((qI kvs' (Sum.inl (x : Int))).isSome = true ↔ qG os i (x : Int) \/ ∃ k, k < j /\ itn os k (i : Int) = (x : Int))) /\ (1 <= j -> ¬ qG os i (i : Int)))
      (fun _ H' => match H' pr with | some (.lst xs) => M + 1 - xs.length | _ => 0) ?_ ?_ (EE (Wj Xq Xq))
    · exact ⟨0, kvs, rfl, Kp.refl, gm1, by omega, gr1, Nat.zero_le _, fun x hx => by rw [hs x hx]; simp, fun z => by omega⟩
    · rintro τ G' ⟨j, kvs', rfl, kp, gm', lk', gr', jM, hx', hns⟩
      have bd := jh ho (p := (i : Int)) (by omega) (by omega) j
      have kpG : Kp [pm] G G' := Kp.drop1 hpr (kp.mono (bs' := [pr, pm]) (by intro b hb; simp at hb ⊢; exact hb.symm))
      have k1 : Kp [] H G' := Kp.un ((kHG.mono (bs' := [pm]) (by simp)).trans kpG) npm
      have npr : H pr = none := kHG.free hpr
      obtain ⟨vn, hvn⟩ : ∃ vn : Nat, itn os j (i : Int) = vn := ⟨(itn os j (i : Int)).toNat, by omega⟩
      have hv := hx' vn (by omega)
      walk_at "rd"
      refine ⟨_, Yg.k (k := Sum.inl (itn os j (i : Int))) gm', ?_⟩
      rw [hvn]
      refine kR (fun c => ?_) (fun c => ?_)
      · have hno : ¬ (qG os i (vn : Int) \/ ∃ k, k < j /\ itn os k (i : Int) = (vn : Int)) := by rw [<- hv, c]; simp
        have jM' : j < M := by
          rcases Nat.lt_or_ge j M with z | z
          · exact z
          · have e : j = M := by omega
            subst e
            exact absurd (.inr ⟨0, hM.1, by show (i : Int) = vn; rw [<- hvn, hM.2.1]⟩) hno
        obtain ⟨g1, g2⟩ := zL (cs := os) (k := (vn : Int)) (by omega) (by omega)
        have nmr : pm ≠ pr := Ne.symm nrm
        have gr2 : upd G' pm (.dK (jR kvs' (Sum.inl (vn : Int)) (.bl true))) pr = some (il (itl os (i : Int) j)) := (zh nrm).trans gr'
        have kX := (kp.trans (Kp.set (.dK (jR kvs' (Sum.inl (vn : Int)) (.bl true))) (by simp : pm ∈ [pm, pr]))).trans (Kp.set (HO.lst (List.map V.int (itl os (i : Int) j) ++ [V.int (vn : Int)])) (by simp : pr ∈ [pm, pr]))
        have kHX := Kp.un (Kp.un (((k1.mono (bs' := [pm, pr]) (by simp)).trans (Kp.set (.dK (jR kvs' (Sum.inl (vn : Int)) (.bl true))) (by simp : pm ∈ [pm, pr]))).trans (Kp.set (HO.lst (List.map V.int (itl os (i : Int) j) ++ [V.int (vn : Int)])) (by simp : pr ∈ [pm, pr]))) npm) npr
        have lp := jF kvs' (Sum.inl (vn : Int)) (V.bl true)
        refine ⟨_, XN.k (k := Sum.inl (vn : Int)) gm' (by omega), .inl ⟨rfl, _, SqL.of gr2⟩, _, gr2, by rw [List.length_map, qM]; omega, _, yf ha kHX, _, g2, ⟨j + 1, ?_, kX, _, (zh nmr).trans zf, by omega, ?_, by omega, ?_, ?_⟩, ?_⟩
        · show _ = V.int (os.getD (itn os j (i : Int)).toNat 0)
          rw [hvn]
        · rw [XO, hvn]
          exact zf.trans (congrArg some (congrArg HO.lst (by rw [List.map_append]; rfl)))
        · intro x hx
          rw [X9]
          by_cases e : x = vn
          · subst e
            rw [if_pos rfl]
            simp only [Option.isSome_some, true_iff]
            exact .inr ⟨j, by omega, hvn⟩
          · rw [if_neg (fun z => e (by have := Sum.inl.inj z; omega)), hx' x hx]
            constructor
            · rintro (z | ⟨k, hk, e2⟩)
              · exact .inl z
              · exact .inr ⟨k, by omega, e2⟩
            · rintro (z | ⟨k, hk, e2⟩)
              · exact .inl z
              · by_cases kj : k = j
                · subst kj; exact absurd (by omega) e
                · exact .inr ⟨k, by omega, e2⟩
        · intro _ s
          rcases Nat.eq_zero_or_pos j with z | z
          · subst z
            exact hno (.inl (by rw [<- hvn]; exact s))
          · exact hns z s
        · rw [zf, gr']
          show M + 1 - (List.map V.int (itl os (i : Int) j) ++ [V.int (vn : Int)]).length < M + 1 - (List.map V.int (itl os (i : Int) j)).length
          rw [List.length_append, List.length_map, qM]
          show M + 1 - (j + 1) < M + 1 - j
          omega
      · have c' : (qI kvs' (Sum.inl (vn : Int))).isSome = true := by
          cases z : (qI kvs' (Sum.inl (vn : Int))).isSome with
          | true => rfl
          | false => exact absurd z c
        have hin := hv.mp c'
        have gf' := kpG _ _ (by simpa using Ne.symm nsf) gf
        have kp2 : Kp [pm, pf] H0 G' := kG.trans (kpG.mono (by simp))
        have hr' : ∀ r ∈ rs, H r.1 = none /\ r.1 ≠ pf /\ r.1 ≠ pm /\ G' r.1 = some (il r.2) := fun r hr0 => by
          obtain ⟨z1, z2, z3, z4⟩ := hr r hr0
          exact ⟨z1, z2, z3, kpG _ _ (by simpa using z3) z4⟩
        rcases Nat.eq_zero_or_pos j with z | z
        · subst z
          have hsi : qG os i (i : Int) := by
            rcases hin with y | ⟨k, hk, _⟩
            · rw [<- hvn] at y; exact y
            · omega
          refine ⟨_, .inl (SqL.of gr'), ?_⟩
          rw [if_neg (by simp [itl])]
          refine ⟨⟨_, rfl⟩, kp2, kvs', gm', by omega, fun x hx => by rw [hx' x hx, qG.step ho hi hsi]; simp, rs, gf', hr', ?_⟩
          show _ = zG os i ++ _
          rw [if_neg (fun y => wt.mp y.1 hsi), List.append_nil, er]
        · have hn' := hns z
          have hnS : ¬ qG os i (vn : Int) := qG.apart ho hi hn' ⟨j, hvn⟩
          obtain ⟨k, hk, e⟩ := hin.resolve_left hnS
          have jeq : j = M := w6 ho (by omega) (by omega) hM jM hk (e.trans hvn.symm)
          subst jeq
          have hring : qu os (i : Int) = itl os (i : Int) j := by unfold qu; rw [hM.per]
          have hs'' : ∀ x : Nat, x < n -> ((qI kvs' (Sum.inl (x : Int))).isSome = true ↔ qG os (i + 1) (x : Int)) := fun x hx => by
            rw [hx' x hx, qG.succ, Rch.mem_ring hM, xI]
          have hL : Zl os i := wt.mpr hn'
          refine ⟨_, .inl (SqL.of gr'), kR (fun c1 => ?_) (fun c1 => ?_)⟩
          · have hpe : 1 < per os (i : Int) := by rw [hM.per]; rw [List.length_map, qM] at c1; omega
            refine ⟨.inl ⟨rfl, _, SqL.of gf'⟩, _, gf', by unfold rfs; rw [List.length_map]; omega, ⟨_, rfl⟩, kp2.trans (Kp.set _ (by simp)), kvs', (zh nsf).trans gm', by omega, hs'', rs ++ [(pr, qu os (i : Int))], ?_, fun r hr0 => ?_, ?_⟩
            · refine zf.trans (congrArg some (congrArg HO.lst ?_))
              unfold rfs; rw [List.map_append]; rfl
            · rcases List.mem_append.mp hr0 with y | y
              · obtain ⟨z1, z2, z3, z4⟩ := hr' r y
                exact ⟨z1, z2, z3, (zh z2).trans z4⟩
              · rw [List.mem_singleton.mp y]
                refine ⟨npr, nrf, nrm, (zh nrf).trans ?_⟩
                show _ = some (il (qu os (i : Int)))
                rw [hring]; exact gr'
            · show _ = zG os i ++ _
              rw [if_pos ⟨hL, hpe⟩, List.map_append, er]
              rfl
          · have hpe : ¬ 1 < per os (i : Int) := by rw [hM.per]; rw [List.length_map, qM] at c1; omega
            refine ⟨⟨_, rfl⟩, kp2, kvs', gm', by omega, hs'', rs, gf', hr', ?_⟩
            show _ = zG os i ++ _
            rw [if_neg (fun y => hpe y.2), List.append_nil, er]
  · rintro τ G ⟨x3, x4, x5, kvs, rs, rfl, kG, gm, lk, hs, gf, hr, er⟩
    have kHG : Kp [] H G := Kp.un (Kp.un ((kH.mono (by simp)).trans kG) npm) hpf
    walk_at "rd"
    exact q _ _ rs kHG hpf gf (fun r hr0 => ⟨(hr r hr0).1, (hr r hr0).2.1, (hr r hr0).2.2.2⟩) er
noncomputable def YN : ASp := fun xs M Q => ∃ (b : Addr) (many : Int) (N : Nat), xs = [.ref b, .d (.int many)] /\ BxM M b N /\ N < 1000000000 /\ 0 < many /\ many < 1073741824 /\ ∀ r M', BxS M M' b (N + 1) -> 0 <= r -> r < many -> Q (.d (.int r)) M'
theorem WB (vs : List V) (H : Hp) (Q : VK) (E : XK) (h : cSp YN vs H Q E) : jW vs H Q E := by
 obtain ⟨xs, M, O, Q', w, r, ⟨b, many, N, rfl, hb, h1, h2, h3, q⟩, k⟩ := h
 obtain ⟨v, u, rfl, rv, ru⟩ := jn r
 rw [zH ru, rv.1]
 refine ⟨b, many, N, rfl, hb.bx w, h1, h2, h3, fun r H' kp hb' r0 r1 => ?_⟩
 obtain ⟨M', s, e, w'⟩ := Qc w hb kp hb'
 exact k _ _ _ _ _ (q r M' s r0 r1) e w' .int
noncomputable def DV : ASp := fun xs M Q => ∃ (x : AV) (k : Int) (cs : List Int), xs = [x, .d (.int k)] /\ qB x M = some (cs.map fun i => .d (.int i)) /\ 0 <= k /\ k <= 1000 /\ cs.length <= 1000 /\ ∀ p o, M p = none -> BxM (mup M p o) p 0 -> Q (.ref p) (mup M p o)
theorem DA (vs : List V) (H : Hp) (Q : VK) (E : XK) (h : cSp DV vs H Q E) : W0 vs H Q E := by
 obtain ⟨xs, M, O, Q', w, r, ⟨x, n, cs, rfl, hx, h1, h2, h3, q⟩, k⟩ := h
 obtain ⟨v, u, rfl, rv, ru⟩ := jn r
 rw [zH ru]
 obtain ⟨a, rfl, ha⟩ := wm w rv hx
 refine ⟨a, n, cs, rfl, ha, h1, h2, h3, fun p H' kp hp hb' => ?_⟩
 obtain ⟨x', y', z', g1, g2⟩ := hb'
 obtain ⟨e1, w1⟩ := Z0 w kp
 have fr := w.fresh hp
 have e2 := Ext.owned (O' := yo O p) (p := p) w ⟨fun a o h e => ⟨(e1.fix a o h e).1, fun z => z.elim (ze e hp) h⟩, fun a h e => ⟨(e1.prv a h e).1, .inr h, e⟩, fun _ h => h⟩ hp (.lst ([x', y', z'].map fun i => .d (.int i)))
 refine k _ _ _ _ _ (q p _ fr.2 ⟨x', y', z', zk, g2⟩) e2 (Zf (O := yo O p) (xs := [V.int x', V.int y', V.int z']) ⟨fun a o h => ?_, fun a h => .inr (w1.own a h), fun a h => ?_⟩ (.inl rfl) fr.2 g1 (ZZ [x', y', z'])) ⟨rfl, by rw [zk]; exact fun z => nomatch z⟩
 ·have e3 : Ext H O M H' (yo O p) M := ⟨fun a o h e => ⟨(e1.fix a o h e).1, fun z => z.elim (ze e hp) h⟩, fun a h e => ⟨(e1.prv a h e).1, .inr h, e⟩, fun _ h => h⟩
  refine qw.ext e3 ?_ (w.mo a o h)
  obtain ⟨u, hu, _⟩ := w.al a (w.own a (qT h))
  rw [hu]; exact kp a u (by simp) hu
 ·rcases h with rfl | h
  ·exact ⟨_, g1, fun xs z => nomatch z⟩
  ·exact w1.al a h
noncomputable def Jb (K : PySem.W.Frag) : ASp := fun xs M Q => ∃ (m : Int) (ns : List Int), xs = [.d (.scr K ns), .d (.int m)] /\ 0 < m /\ m <= 60 /\ ns.length <= 63 /\ ∀ cs : List Int, cs.length <= 1000 -> Q (.d (.lst (cs.map .int))) M
theorem JZ (vs : List V) (H : Hp) (Q : VK) (E : XK) (h : cSp (Jb K) vs H Q E) : wA K vs H Q E := by
 obtain ⟨xs, M, O, Q', w, r, ⟨m, ns, rfl, h1, h2, h3, q⟩, k⟩ := h
 obtain ⟨v, u, rfl, rv, ru⟩ := jn r
 rw [zH ru]
 obtain ⟨a, rfl, ha⟩ := QU rv
 refine ⟨a, m, ns, rfl, ha, h1, h2, h3, fun p H' cs kp hp hc lc => ?_⟩
 obtain ⟨e1, w1⟩ := Z0 w kp
 exact k _ _ _ _ _ (q cs lc) e1 w1 (yt (w.fresh hp).1 hc)
noncomputable def QT : ASp := fun xs M Q => ∃ (b : Addr) (m : Int) (N : Nat), xs = [.ref b, .d (.int m)] /\ BxM M b N /\ N < 100000000 /\ 24 <= m /\ m <= 1000 /\ ∀ r M', BxS M M' b (N + 10) -> 0 <= r -> r <= m -> Q (.d (.int r)) M'
theorem JL (vs : List V) (H : Hp) (Q : VK) (E : XK) (h : cSp QT vs H Q E) : Zn vs H Q E := by
 obtain ⟨xs, M, O, Q', w, r, ⟨b, many, N, rfl, hb, h1, h2, h3, q⟩, k⟩ := h
 obtain ⟨v, u, rfl, rv, ru⟩ := jn r
 rw [zH ru, rv.1]
 refine ⟨b, many, N, rfl, hb.bx w, h1, h2, h3, fun r H' kp hb' r0 r1 => ?_⟩
 obtain ⟨M', s, e, w'⟩ := Qc w hb kp hb'
 exact k _ _ _ _ _ (q r M' s r0 r1) e w' .int
noncomputable def YL : ASp := fun xs M Q => ∃ (b : Addr) (n N : Nat), xs = [.ref b, .d (.int n)] /\ BxM M b N /\ N < 1000000 /\ n <= 1000 /\ ∀ os M', BxS M M' b (N + 3000) -> zq n os -> Q (.d (.lst (os.map .int))) M'
theorem Yj (vs : List V) (H : Hp) (Q : VK) (E : XK) (h : cSp YL vs H Q E) : QS vs H Q E := by
 obtain ⟨xs, M, O, Q', w, r, ⟨b, n, N, rfl, hb, h1, h2, q⟩, k⟩ := h
 obtain ⟨v, u, rfl, rv, ru⟩ := jn r
 rw [zH ru, rv.1]
 refine ⟨b, n, N, rfl, hb.bx w, h1, h2, fun p H' ns kp hp hb' hq ho => ?_⟩
 obtain ⟨M', s, e, w'⟩ := Qc w hb kp hb'
 exact k _ _ _ _ _ (q ns M' s ho) e w' (yt (w.fresh hp).1 hq)
noncomputable def Ex : Dat -> Option (List Dat)
 | .lst l => some l
 | .tup l => some l
 | _ => none
theorem Eu {x : AV} {M : MH} {d : Dat} (h : yx x M = some d) (hd : dp d <= 100) : ∃ t, tyA x M = some t /\ xC t ["list", "tuple"] = some (Ex d).isSome := by
 cases d with
 | lst l => exact ⟨_, (XD h).2.2.1, Xe⟩
 | tup l => rw [ja h (fun _ z => nomatch z)]; exact ⟨_, rfl, KH⟩
 | non => rw [ja h (fun _ z => nomatch z)]; exact ⟨_, rfl, Xb⟩
 | bl b => rw [ja h (fun _ z => nomatch z)]; exact ⟨_, rfl, Y3⟩
 | int b => rw [ja h (fun _ z => nomatch z)]; exact ⟨_, rfl, Xv⟩
 | str b => rw [ja h (fun _ z => nomatch z)]; exact ⟨_, rfl, Y1⟩
 | ty t => rw [dp] at hd; omega
 | rng _ _ _ => rw [dp] at hd; omega
 | scr _ _ => rw [dp] at hd; omega
noncomputable abbrev kN : Stmt := top 10
theorem xZ : zA ["n"] ["n"] (zj kN) := ⟨rfl, rfl, rfl, by decide +kernel, rfl, by decide +kernel, by decide +kernel⟩
noncomputable def yK : ASp := fun xs M Q => ∃ n : Nat, xs = [.d (.int n)] /\ n <= 1000 /\ ∀ p, M p = none -> Q (.ref p) (mup M p (.lst ((zU 0 1 n).map fun i => .d (.int i))))
theorem wW (a : At K mg "staying" kN) (B : Blt mg) : Df P w K mg base "staying" ["n"] 1 (cSp yK) := by
 refine dfA (k := 0) a xZ (fun _ _ _ _ _ _ us hl => match us, hl with | [_], _ => rfl) (fun xs M Q h => ?_) (fun f cdv A outer s H E hr => ?_)
 ·obtain ⟨_, rfl, _⟩ := h; rfl
 have sc := xZ
 have hsl := hsl
 refine ⟨_, (zi (zx (v7 (zp (zT rfl) rfl B.list qi (za (zp qo rfl B.range qO (za (pv 0) zb)) zb))))), ?_⟩
 refine ex2 (by walk_at "sim") ?_
 rintro xs M Q ⟨n, rfl, hn, q⟩
 rw [show qz ["n"] [.d (.int n)] = [some (.d (.int n))] from rfl]
 walk_at "ra"
 refine ⟨_, _, _, rfl, small_one (by omega) (by omega) (by omega) (by omega), n, by rw [rangeSize_one]; split <;> omega, by omega, fun p hp _ => ?_⟩
 exact ⟨_, _, VT (Fr.refl.mup hp _) hp zk (kf _), q p hp⟩
noncomputable abbrev jV : Stmt := top 9
theorem xu : zA ["thing", "n"] ["thing", "n"] (zj jV) := ⟨rfl, rfl, rfl, by decide +kernel, rfl, by decide +kernel, by decide +kernel⟩
noncomputable def kq (d : Dat) (n : Int) : Bool := match d with
 | .int i => decide (0 <= i /\ i < n)
 | _ => false
noncomputable def Zu : ASp := fun xs M Q => ∃ (d : Dat) (n : Int), xs = [.d d, .d (.int n)] /\ dp d <= 100 /\ Q (.d (.bl (kq d n))) M
theorem Zb (a : At K mg "is_place" jV) (B : Blt mg) : Df P w K mg base "is_place" ["thing", "n"] 1 (cSp Zu) := by
 refine dfA (k := 0) a xu (fun _ _ _ _ _ _ us hl => match us, hl with | [_, _], _ => rfl) (fun xs M Q h => ?_) (fun f cdv A outer s H E hr => ?_)
 ·obtain ⟨_, _, rfl, _⟩ := h; rfl
 have sc := xu
 have hsl := hsl
 refine ⟨_, (zc (qc (PW.pt (yG (jf (zl qH rfl B.isinstance zB (za (pv 0) (za (qE (v := .ty "bool") rfl B.bool QL rfl) zb))) (fun _ => rfl)) (kK (xM (jf (zl qH rfl B.isinstance zB (za (pv 0) (za (qE (v := .ty "int") rfl B.int yw rfl) zb))) (fun _ => rfl)))))) (zi (zx jr)) zF)
  (zi (zx (K9 Ek Zi zd (pv 0) (pv 1))))), ?_⟩
 refine ex2 (by walk_at "sim") ?_
 rintro xs M Q ⟨d, n, rfl, hd, q⟩
 rw [show qz ["thing", "n"] [.d d, .d (.int n)] = [some (.d d), some (.d (.int n))] from rfl]
 have fin := fun b => QP (M0 := M) Fr.refl (.bl b)
 cases d with
 | non => walk_at "ra"; exact ⟨_, _, fin _, q⟩
 | bl b => walk_at "ra"; exact ⟨_, _, fin _, q⟩
 | str b => walk_at "ra"; exact ⟨_, _, fin _, q⟩
 | lst b => walk_at "ra"; exact ⟨_, _, fin _, q⟩
 | tup b => walk_at "ra"; exact ⟨_, _, fin _, q⟩
 | int i =>
  walk_at "ra"
  have q : Q (.d (.bl (decide (0 <= i /\ i < n)))) M := q
  by_cases c : 0 <= i
  ·rw [if_pos c]
   rw [show decide (0 <= i /\ i < n) = decide (i < n) by simp [c]] at q
   walk_at "ra"
   exact ⟨_, _, fin _, q⟩
  ·rw [if_neg c]
   rw [show decide (0 <= i /\ i < n) = false by simp [c]] at q
   walk_at "ra"
   exact ⟨_, _, fin _, q⟩
 | ty _ => rw [dp] at hd; omega
 | rng _ _ _ => rw [dp] at hd; omega
 | scr _ _ => rw [dp] at hd; omega
theorem QE {M : MH} {p : Addr} {o : MO} (h : M p = some o) : mup M p o = M := by
 funext q
 unfold mup
 split
 ·rename_i z; rw [z, h]
 ·rfl
noncomputable abbrev blA (bs : List Bool) : List AV := bs.map fun b => AV.d (.bl b)
theorem VA {bs : List Bool} {r : Addr} : AV.ref r ∉ blA bs := fun h => by
 obtain ⟨b, _, z⟩ := List.mem_map.mp h
 cases z
theorem Q9 {M : MH} {p : Addr} {l : List AV} {cs : List Bool} (h : M p = some (.lst l)) {d : Dat} : ww M (mup M p (.lst (blA cs))) (.d d) (.d d) (mup M p (.lst (blA cs))) := by
 refine ⟨fun q => .inl rfl, fun q o e => ?_, .inl ⟨rfl, fun p z => nomatch z⟩⟩
 by_cases c : q = p
 ·subst c
  rw [zk] at e
  cases e
  exact .inr fun r hr => absurd hr VA
 ·rw [zu c] at e; exact .inl e
noncomputable def mk0 (bs : List Bool) (d : Dat) : Option (List Bool) := match d with
 | .int k => if 0 <= k /\ k < (bs.length : Int) /\ bs.getD k.toNat true = false then some (bs.set k.toNat true) else none
 | _ => none
noncomputable def mk1 : List Bool -> List Dat -> Option (List Bool)
 | bs, [] => some bs
 | bs, d :: r => match mk0 bs d with
  | some cs => mk1 cs r
  | none => none
theorem v8 : ∀ (bs : List Bool) (a b : List Dat), mk1 bs (a ++ b) = match mk1 bs a with | some cs => mk1 cs b | none => none
 | bs, [], b => rfl
 | bs, d :: a, b => by
  show (match mk0 bs d with | some cs => mk1 cs (a ++ b) | none => none) = match (match mk0 bs d with | some cs => mk1 cs a | none => none) with | some cs => mk1 cs b | none => none
  cases mk0 bs d with
  | none => rfl
  | some cs => exact v8 cs a b
theorem Q3 {bs cs : List Bool} {d : Dat} (h : mk0 bs d = some cs) : cs.length = bs.length := by
 cases d with
 | int k =>
  unfold mk0 at h
  dsimp only at h
  split at h
  ·cases h; exact List.length_set
  ·cases h
 | _ => cases h
theorem vS : ∀ {l : List Dat} {bs cs : List Bool}, mk1 bs l = some cs -> cs.length = bs.length
 | [], bs, cs, h => by cases h; rfl
 | d :: r, bs, cs, h => by
  unfold mk1 at h
  cases e : mk0 bs d with
  | none => rw [e] at h; cases h
  | some ds => rw [e] at h; rw [vS h, Q3 e]
theorem Jf {bs cs : List Bool} {l : List Dat} {i : Nat} {d : Dat} (h : mk1 bs (l.take i) = some cs) (hd : l[i]? = some d) (hb : mk0 cs d = none) : mk1 bs l = none := by
 have hi := (List.getElem?_eq_some_iff.mp hd).1
 have e : l = l.take i ++ d :: l.drop (i + 1) := by
  rw [<- (List.getElem?_eq_some_iff.mp hd).2, <- List.drop_eq_getElem_cons hi, List.take_append_drop]
 rw [e, v8, h]
 show (match mk0 cs d with | some cs => mk1 cs _ | none => none) = none
 rw [hb]
theorem XY {bs cs ds : List Bool} {l : List Dat} {i : Nat} {d : Dat} (h : mk1 bs (l.take i) = some cs) (hd : l[i]? = some d) (hb : mk0 cs d = some ds) : mk1 bs (l.take (i + 1)) = some ds := by
 rw [List.take_succ, hd, v8, h]
 show (match mk0 cs d with | some cs => mk1 cs [] | none => none) = some ds
 rw [hb]; rfl
noncomputable def sqD (x : Dat) : Option (List Dat) := match x with
 | .lst l => some l
 | .tup l => some l
 | _ => none
theorem qf {x : Dat} {l : List Dat} (h : sqD x = some l) (M : MH) : qS (.d x) M = some (l.map .d) := by
 cases x <;> first | (cases h; rfl) | cases h
noncomputable def YG (C : Addr) : ZG := fun xs M Q E => ∃ (x : Dat) (l : List Dat) (p : Addr) (bs : List Bool), xs = [.d x, .ref p] /\ sqD x = some l /\ M p = some (.lst (blA bs)) /\ l.length <= 1000 /\ (∀ d ∈ l, dp d <= 50) /\ bs.length <= 1000 /\
 (2 <= l.length -> ∀ cs, mk1 bs l = some cs -> Q (.d .non) (mup M p (.lst (blA cs)))) /\ (l.length < 2 \/ mk1 bs l = none -> ∀ cs : List Bool, E C [] (mup M p (.lst (blA cs))))
noncomputable abbrev vm : Stmt := top 12
theorem wV : zA ["ring", "seen", "place"] ["ring", "seen"] (zj vm) := ⟨rfl, rfl, rfl, by decide +kernel, rfl, by decide +kernel, by decide +kernel⟩
theorem Kx (a : At K mg "mark_ring" vm) (B : Blt mg) {cBadRing : Addr} (XI_BadRing : PySem.W.excIn K cBadRing Y9 "ValueError.__new__" = true) (XG_BadRing : mg "BadRing" = some (.ref cBadRing)) (D_is_place : Df P w K mg base "is_place" ["thing", "n"] 1 (cSp Zu)) : DfX P w K mg base "mark_ring" ["ring", "seen"] 2 (yD (YG cBadRing)) := by
 refine En (k := 1) a wV (fun _ _ _ _ _ _ us hl => match us, hl with | [_, _], _ => rfl) (fun xs M Q E h => ?_) (fun f cdv A outer s H HX OX MX E1 hr hD => ?_)
 ·obtain ⟨_, _, _, _, rfl, _⟩ := h; rfl
 have sc := wV
 have hsl := hsl
 refine ⟨_, (zc (qc (zI Zi (zl zn rfl B.len zV (za (pv 0) zb)) zd (zJ _)) (zi (xR hD rfl XI_BadRing rfl XG_BadRing (za vU zb))) zF)
  (zi (qA hD.po rfl (yV (pv 0)) (zE (i := 2) sc.nd rfl (by first | exact Or.inl rfl | exact Or.inr rfl)) (zc (qc (xM (jf (zD D_is_place hr rfl (za (pv 2) (za (zl zn rfl B.len zV (za (pv 1) zb)) zb))) (fun _ => rfl))) (zi (xR hD rfl XI_BadRing rfl XG_BadRing (za vU zb))) zF)
  (zc (qc (jf (zQ jq (pv 1) (pv 2) (fun _ _ => rfl)) (fun _ => rfl)) (zi (xR hD rfl XI_BadRing rfl XG_BadRing (za vU zb))) zF)
  (zi (jc jr (qV (pv 1) (pv 2) qa)))))))), ?_⟩
 refine exX (by walk_at "sim") ?_
 rintro xs Q E0 rfl ⟨x, l, p, bs, rfl, hx, hp, ll, hdp, lb, q, qe⟩
 rw [show qz ["ring", "seen", "place"] [.d x, .ref p] = [some (.d x), some (.ref p), none] from rfl]
 have rs : ∀ cs : List Bool, (l.length < 2 \/ mk1 bs l = none) -> exA MX E0 cBadRing [] (mup MX p (.lst (blA cs))) := fun cs h => ⟨_, Q9 hp, qe h cs⟩
 refine zv fun r hr0 => ?_
 walk_at "ra"
 refine ⟨_, qf hx MX, ?_⟩
 rw [List.length_map]
 by_cases c2 : l.length < 2
 ·rw [if_pos (by omega)]
  have := rs bs (.inl c2)
  rw [QE hp] at this
  exact ⟨by omega, this⟩
 rw [if_neg (by omega)]
 subst hr0
 walk_at "ra"
 refine ⟨_, qf hx MX, ?_⟩
 refine ⟨fun i ρ M' => ∃ (u : Option AV) (cs : List Bool), ρ = [some (.d x), some (.ref p), u] /\ M' = mup MX p (.lst (blA cs)) /\ mk1 bs (l.take i) = some cs, ⟨none, bs, rfl, (QE hp).symm, rfl⟩, ?_, ?_⟩
 ·rintro i y ρ M' hy ⟨u, cs, rfl, rfl, hc⟩
  rw [List.getElem?_map] at hy
  cases e : l[i]? with
  | none => rw [e] at hy; cases hy
  | some d =>
   rw [e] at hy
   cases hy
   have lc := vS hc
   refine ⟨qf hx _, ?_⟩
   show yA _ _ _ _ _ _
   walk_at "ra"
   refine ⟨_, zM zk, _, _, rfl, Nat.le_trans (hdp d (List.mem_of_getElem? e)) (by decide), ?_⟩
   walk_at "ra"
   by_cases hpl : kq d (cs.length : Int) = false
   ·rw [if_pos hpl]
    refine ⟨by omega, rs cs (.inr (Jf hc e ?_))⟩
    cases d with
    | int k =>
     unfold mk0
     dsimp only
     rw [if_neg]
     intro z
     have : kq (.int k) (cs.length : Int) = true := by show decide _ = true; rw [decide_eq_true_eq]; exact ⟨z.1, z.2.1⟩
     rw [hpl] at this; cases this
    | _ => rfl
   ·rw [if_neg hpl]
    obtain ⟨k, rfl, k0, k1⟩ : ∃ k : Int, d = .int k /\ 0 <= k /\ k < (cs.length : Int) := by
     cases d with
     | int k =>
      have : kq (.int k) (cs.length : Int) = true := by cases z : kq (.int k) (cs.length : Int) with | true => rfl | false => exact absurd z hpl
      have : decide (0 <= k /\ k < (cs.length : Int)) = true := this
      rw [decide_eq_true_eq] at this
      exact ⟨k, rfl, this⟩
     | _ => exact absurd rfl hpl
    obtain ⟨n, rfl⟩ : ∃ n : Nat, k = n := ⟨k.toNat, by omega⟩
    have hn : n < cs.length := by omega
    have a1 : atI (blA cs) (n : Int) = some (.d (.bl cs[n])) := by
     unfold atI
     rw [List.length_map, jl (by omega) (by omega)]
     show (cs.map fun b => AV.d (.bl b))[(n : Int).toNat]? = _
     rw [Int.toNat_natCast, List.getElem?_map, List.getElem?_eq_getElem hn]; rfl
    have gd : cs.getD (n : Int).toNat true = cs[n] := by rw [Int.toNat_natCast, List.getD_eq_getElem?_getD, List.getElem?_eq_getElem hn]; rfl
    refine ⟨_, zM zk, _, rfl, _, a1, _, rfl, ?_⟩
    by_cases cb : cs[n] = true
    ·rw [if_pos cb]
     refine ⟨by omega, rs cs (.inr (Jf hc e ?_))⟩
     unfold mk0
     dsimp only
     rw [if_neg]
     intro z
     rw [gd, cb] at z
     exact absurd z.2.2 (by decide)
    ·rw [if_neg cb]
     refine ⟨_, _, rfl, zk, n, by rw [List.length_map, jl (by omega) (by omega)]; rfl, cs.set n true, by unfold blA; rw [List.map_set], XY hc e ?_⟩
     unfold mk0
     dsimp only
     rw [if_pos ⟨by omega, by omega, by rw [gd]; cases z : cs[n] with | true => exact absurd z cb | false => rfl⟩, Int.toNat_natCast]
 ·rintro ρ M' ⟨u, cs, rfl, rfl, hc⟩
  refine ⟨qf hx _, ?_⟩
  walk_at "ra"
  rw [List.length_map, List.take_length] at hc
  exact ⟨_, _, Q9 hp, q (by omega) cs hc⟩
noncomputable def zR {α β : Type} (f : β -> α -> Option β) : β -> List α -> Option β
 | b, [] => some b
 | b, a :: r => match f b a with
  | some c => zR f c r
  | none => none
theorem kW {α β : Type} (f : β -> α -> Option β) : ∀ (b : β) (x y : List α), zR f b (x ++ y) = match zR f b x with | some c => zR f c y | none => none
 | b, [], y => rfl
 | b, a :: x, y => by
  show (match f b a with | some c => zR f c (x ++ y) | none => none) = match (match f b a with | some c => zR f c x | none => none) with | some c => zR f c y | none => none
  cases f b a with
  | none => rfl
  | some c => exact kW f c x y
theorem Jm {α β : Type} {f : β -> α -> Option β} {b c : β} {l : List α} {i : Nat} {d : α} (h : zR f b (l.take i) = some c) (hd : l[i]? = some d) (hb : f c d = none) : zR f b l = none := by
 have hi := (List.getElem?_eq_some_iff.mp hd).1
 have e : l = l.take i ++ d :: l.drop (i + 1) := by
  rw [<- (List.getElem?_eq_some_iff.mp hd).2, <- List.drop_eq_getElem_cons hi, List.take_append_drop]
 rw [e, kW, h]
 show (match f c d with | some c => zR f c _ | none => none) = none
 rw [hb]
theorem ZF {α β : Type} {f : β -> α -> Option β} {b c e : β} {l : List α} {i : Nat} {d : α} (h : zR f b (l.take i) = some c) (hd : l[i]? = some d) (hb : f c d = some e) : zR f b (l.take (i + 1)) = some e := by
 rw [List.take_succ, hd, kW, h]
 show (match f c d with | some c => zR f c [] | none => none) = some e
 rw [hb]; rfl
noncomputable def DO : Dat -> Int
 | .int k => k
 | _ => 0
noncomputable def prn (l : List Dat) : Nat -> List Dat -> List Dat
 | 0, os => os
 | j + 1, os => (prn l j os).set (DO (l.getD (if j = 0 then l.length - 1 else j - 1) .non)).toNat (l.getD j .non)
theorem ku (l : List Dat) : ∀ (j : Nat) (os : List Dat), (prn l j os).length = os.length
 | 0, os => rfl
 | j + 1, os => by unfold prn; rw [List.length_set, ku l j os]
noncomputable def obs (st : List Bool × List Dat) (l : List Dat) : Option (List Bool × List Dat) := if l.length < 2 then none else match mk1 st.1 l with
 | some cs => some (cs, prn l l.length st.2)
 | none => none
noncomputable def ob0 (n : Nat) : List Bool × List Dat := (List.replicate n false, (zU 0 1 n).map .int)
theorem wM : ∀ {l : List Dat} {bs cs : List Bool}, mk1 bs l = some cs -> ∀ d ∈ l, ∃ k : Nat, d = .int k /\ k < bs.length
 | [], _, _, _, d, hd => by simp at hd
 | a :: r, bs, cs, h, d, hd => by
  unfold mk1 at h
  cases e : mk0 bs a with
  | none => rw [e] at h; cases h
  | some ds =>
   rw [e] at h
   rcases List.mem_cons.mp hd with rfl | hd
   ·cases d with
    | int k =>
     unfold mk0 at e
     dsimp only at e
     split at e
     ·rename_i z; exact ⟨k.toNat, by rw [Int.toNat_of_nonneg z.1], by omega⟩
     ·cases e
    | _ => cases e
   ·obtain ⟨k, e1, e2⟩ := wM h d hd
    exact ⟨k, e1, by rw [Q3 e] at e2; exact e2⟩
theorem Qy {st st' : List Bool × List Dat} {l : List Dat} (h : obs st l = some st') : st'.1.length = st.1.length /\ st'.2.length = st.2.length := by
 unfold obs at h
 split at h
 ·cases h
 ·cases e : mk1 st.1 l with
  | none => rw [e] at h; cases h
  | some cs => rw [e] at h; cases h; exact ⟨vS e, ku _ _ _⟩
theorem Q2 {n : Nat} : ∀ {ls : List (List Dat)} {st st' : List Bool × List Dat}, zR obs st ls = some st' -> st.1.length = n /\ st.2.length = n -> st'.1.length = n /\ st'.2.length = n
 | [], st, st', h, k => by cases h; exact k
 | l :: r, st, st', h, k => by
  unfold zR at h
  cases e : obs st l with
  | none => rw [e] at h; cases h
  | some s2 => rw [e] at h; exact Q2 h (by have := Qy e; omega)
theorem YA {M : MH} {p q : Addr} {a b c : MO} (h : q ≠ p) : mup (mup (mup M p a) q b) p c = mup (mup M p c) q b := by
 funext z
 unfold mup
 by_cases c1 : z = p
 ·subst c1
  have e1 : z ≠ q := fun e => h e.symm
  rw [if_pos rfl, if_neg e1, if_pos rfl]
 ·by_cases c2 : z = q
  ·rw [if_neg c1, if_pos c2, if_pos c2]
  ·rw [if_neg c1, if_neg c2, if_neg c1, if_neg c2, if_neg c1]
noncomputable def jN (C : Addr) : ZG := fun xs M Q E => ∃ (n : Nat) (x : Dat) (rl : List Dat) (ls : List (List Dat)), xs = [.d (.int n), .d x] /\ sqD x = some rl /\ rl.map sqD = ls.map some /\ n <= 1000 /\ ls.length <= 1000 /\ (∀ l ∈ ls, l.length <= 1000 /\ ∀ d ∈ l, dp d <= 50) /\
 (∀ st, zR obs (ob0 n) ls = some st -> ∀ p, M p = none -> Q (.ref p) (mup M p (.lst (st.2.map .d)))) /\ (zR obs (ob0 n) ls = none -> E C [] M)
noncomputable abbrev kU : Stmt := top 13
theorem yk : zA ["n", "rings_told", "order", "seen", "ring", "at", "place"] ["n", "rings_told"] (zj kU) := ⟨rfl, rfl, rfl, by decide +kernel, rfl, by decide +kernel, by decide +kernel⟩
theorem ZS (a : At K mg "order_by" kU) (B : Blt mg) {cBadRing : Addr} (XI_BadRing : PySem.W.excIn K cBadRing Y9 "ValueError.__new__" = true) (XG_BadRing : mg "BadRing" = some (.ref cBadRing)) (D_staying_o : Df P w K mg base "staying" ["n"] 2 (cSp yK)) (DX_mark_ring : DfX P w K mg base "mark_ring" ["ring", "seen"] 2 (yD (YG cBadRing))) : DfX P w K mg base "order_by" ["n", "rings_told"] 3 (yD (jN cBadRing)) := by
 refine En (k := 2) a yk (fun _ _ _ _ _ _ us hl => match us, hl with | [_, _], _ => rfl) (fun xs M Q E h => ?_) (fun f cdv A outer s H HX OX MX E1 hr hD => ?_)
 ·obtain ⟨_, _, _, _, rfl, _⟩ := h; rfl
 have sc := yk
 have hsl := hsl
 refine ⟨_, (zc (zy (i := 2) sc.nd rfl (by first | exact Or.inl rfl | exact Or.inr rfl) (zD D_staying_o hr rfl (za (pv 0) zb)))
  (zc (zy (i := 3) sc.nd rfl (by first | exact Or.inl rfl | exact Or.inr rfl) (v7 (zm XB (zP (za jr zb)) (pv 0))))
  (zc (qA hD.po rfl (yV (pv 1)) (zE (i := 4) sc.nd rfl (by first | exact Or.inl rfl | exact Or.inr rfl)) (zc (qp (QR DX_mark_ring hr rfl hD.passX (za (pv 4) (za (pv 3) zb))))
  (zi (qA hD.po rfl (Jq rfl B.enumerate (za (pv 4) zb)) (kC (K := K) 2 rfl rfl (ql (zE (i := 5) sc.nd rfl (by first | exact Or.inl rfl | exact Or.inr rfl)) (ql (zE (i := 6) sc.nd rfl (by first | exact Or.inl rfl | exact Or.inr rfl)) kr))) (zi (jc (pv 6) (qV (pv 2) (zQ jq (pv 4) (zm jA (pv 5) zd) (fun _ _ => rfl)) qa)))))))
  (zi (zx (pv 2)))))), ?_⟩
 refine exX (by walk_at "sim") ?_
 rintro xs Q E0 rfl ⟨n, x, rl, ls, rfl, hx, hls, hn, hl, hdp, q, qe⟩
 rw [show qz ["n", "rings_told", "order", "seen", "ring", "at", "place"] [.d (.int n), .d x] = [some (.d (.int n)), some (.d x), none, none, none, none, none] from rfl]
 refine zv fun r hr0 => ?_
 walk_at "ra"
 refine ⟨n, rfl, hn, fun p hp => ?_⟩
 subst hr0
 refine zv fun r hr0 => ?_
 walk_at "ra"
 refine ⟨by omega, by omega, by omega, by omega, fun s0 hs0 hs1 => ?_⟩
 subst hr0
 have e0 : (List.replicate ((n : Int).toNat) [AV.d (Dat.bl false)]).flatten = blA (List.replicate n false) := by rw [Br, Int.toNat_natCast]; simp
 rw [e0]
 have hsp : s0 ≠ p := fun z => by rw [z, zk] at hs1; cases hs1
 have hM0 : MX s0 = none := by rw [zu hsp] at hs1; exact hs1
 refine zv fun r hr0 => ?_
 walk_at "ra"
 refine ⟨_, qf hx _, ?_⟩
 have lls : rl.length = ls.length := by simpa using congrArg List.length hls
 have st0 : ((ob0 n).2.map AV.d) = (zU 0 1 n).map fun i => AV.d (.int i) := by unfold ob0; rw [List.map_map]; rfl
 refine ⟨fun i ρ M' => ∃ (u v w : Option AV) (st : List Bool × List Dat), ρ = [some (.d (.int n)), some (.d x), some (.ref p), some (.ref s0), u, v, w] /\ M' = mup (mup MX p (.lst (st.2.map .d))) s0 (.lst (blA st.1)) /\ zR obs (ob0 n) (ls.take i) = some st, ⟨none, none, none, ob0 n, rfl, by rw [st0]; rfl, rfl⟩, ?_, ?_⟩
 ·rintro i y ρ M' hy ⟨u, v, w, st, rfl, rfl, hf⟩
  rw [List.getElem?_map] at hy
  cases e : rl[i]? with
  | none => rw [e] at hy; cases hy
  | some rg =>
   rw [e] at hy
   cases hy
   obtain ⟨l, el, hsq⟩ : ∃ l, ls[i]? = some l /\ sqD rg = some l := by
    have := congrArg (fun z : List (Option (List Dat)) => z[i]?) hls
    simp only [List.getElem?_map, e, Option.map_some] at this
    cases z : ls[i]? with
    | none => rw [z] at this; cases this
    | some l => rw [z] at this; exact ⟨l, rfl, Option.some.inj this⟩
   obtain ⟨ll, hd50⟩ := hdp l (List.mem_of_getElem? el)
   have sl := Q2 (n := n) hf ⟨by simp [ob0], by simp [ob0, zw]⟩
   refine ⟨qf hx _, ?_⟩
   show yA _ _ _ _ _ _
   refine zv fun r2 hr2 => ?_
   walk_at "ra"
   refine ⟨rg, l, s0, st.1, rfl, hsq, zk, ll, hd50, by omega, fun l2 cs hcs => ?_, fun hb cs => ?_⟩
   ·subst hr2
    rw [vE]
    walk_at "ra"
    have hob : obs st l = some (cs, prn l l.length st.2) := by unfold obs; rw [if_neg (by omega), hcs]
    have his := wM hcs
    refine ⟨_, qf hsq _, l, zZ l, ?_⟩
    refine ⟨fun j ρ M' => ∃ (v w : Option AV), ρ = [some (.d (.int n)), some (.d x), some (.ref p), some (.ref s0), some (.d rg), v, w] /\ M' = mup (mup MX p (.lst ((prn l j st.2).map .d))) s0 (.lst (blA cs)), ⟨_, _, rfl, rfl⟩, ?_, ?_⟩
    ·rintro j y ρ M' hy ⟨v, w, rfl, rfl⟩
     obtain ⟨d, hd, rfl⟩ := kQ hy
     have hj := (List.getElem?_eq_some_iff.mp hd).1
     obtain ⟨k, rfl, hk⟩ := his d (List.mem_of_getElem? hd)
     refine ⟨qf hsq _, ?_⟩
     walk_at "ra"
     obtain ⟨k2, ek2, hk2⟩ : ∃ k2 : Nat, l.getD (if j = 0 then l.length - 1 else j - 1) .non = .int k2 /\ k2 < st.1.length := by
      have hlt : (if j = 0 then l.length - 1 else j - 1) < l.length := by split <;> omega
      rw [List.getD_eq_getElem?_getD, List.getElem?_eq_getElem hlt]
      exact his _ (List.getElem_mem hlt)
     have a1 : atI (l.map AV.d) ((j : Int) - 1) = some (.d (.int k2)) := by
      have hlt : (if j = 0 then l.length - 1 else j - 1) < l.length := by split <;> omega
      unfold atI
      have : ixN (l.map AV.d).length ((j : Int) - 1) = some (if j = 0 then l.length - 1 else j - 1) := by
       rw [List.length_map]
       by_cases c : j = 0
       ·rw [if_pos c]
        unfold ixN
        rw [if_neg (by omega), if_pos (by omega)]
        congr 1
        omega
       ·rw [if_neg c, jl (by omega) (by omega)]
        congr 1
        omega
      rw [this]
      show (l.map AV.d)[(if j = 0 then l.length - 1 else j - 1)]? = _
      rw [List.getElem?_map, List.getElem?_eq_getElem hlt]
      rw [List.getD_eq_getElem?_getD, List.getElem?_eq_getElem hlt] at ek2
      exact congrArg (fun d => some (AV.d d)) ek2
     refine ⟨_, qf hsq _, _, a1, _, _, rfl, by rw [zu (Ne.symm hsp), zk], k2, by rw [List.length_map, ku, jl (by omega) (by omega)]; rfl, ?_⟩
     rw [YA hsp]
     congr 2
     show _ = MO.lst _
     congr 1
     show _ = List.map AV.d ((prn l j st.2).set _ _)
     rw [List.map_set, ek2, List.getD_eq_getElem?_getD, hd]
     rfl
    ·rintro ρ M' ⟨v, w, rfl, rfl⟩
     refine ⟨qf hsq _, ?_⟩
     dsimp only
     exact ⟨⟨_, _, _, rfl⟩, (cs, prn l l.length st.2), by rw [jK], ZF hf el hob⟩
   ·refine ⟨MX, ?_, qe ?_⟩
    ·rw [vE]
     exact QP ((Fr.refl.mup hp _).mup hM0 _) .non
    ·refine Jm hf el ?_
     unfold obs
     rcases hb with hb | hb
     ·rw [if_pos hb]
     ·split
      ·rfl
      ·rw [hb]
 ·rintro ρ M' ⟨u, v, w, st, rfl, rfl, hf⟩
  refine ⟨qf hx _, ?_⟩
  subst hr0
  walk_at "ra"
  rw [List.length_map, lls, List.take_length] at hf
  refine ⟨_, _, ?_, q st hf p hp⟩
  refine ⟨fun z => ?_, fun z o ez => ?_, .inl ⟨rfl, fun z ez => by cases ez; rw [zk]; exact fun z => nomatch z⟩⟩
  ·by_cases c1 : z = s0
   ·refine .inr ⟨by rw [c1]; exact hM0, by rw [c1, zu hsp]; exact hM0⟩
   ·exact .inl (by rw [zu c1])
  ·by_cases c1 : z = p
   ·rw [c1, zk] at ez
    cases ez
    exact .inr fun r hr => absurd hr (vK (zZ st.2) r)
   ·rw [zu c1] at ez; exact .inl ez
noncomputable abbrev j6 : Stmt := top 24
theorem xN : zA ["_law_found", "_law_due", "_law_k"] ["_law_found", "_law_due"] (zj j6) := ⟨rfl, rfl, rfl, by decide +kernel, rfl, by decide +kernel, by decide +kernel⟩
noncomputable def eqA (M : MH) : Nat -> AV -> Dat -> Prop
 | 0, x, d => x = .d d
 | n + 1, x, d => x = .d d \/ ∃ q l ds, x = .ref q /\ M q = some (.lst l) /\ d = .lst ds /\ l.length = ds.length /\ ∀ (i : Nat) a b, l[i]? = some a -> ds[i]? = some b -> eqA M n a b
inductive wU : Nat -> Dat -> Prop
 | int {n : Nat} {i : Int} : wU n (.int i)
 | lst {n : Nat} {l : List Dat} : l.length <= 1000 -> (∀ d ∈ l, wU n d) -> wU (n + 1) (.lst l)
 | tup {n : Nat} {l : List Dat} : l.length <= 1000 -> (∀ d ∈ l, wU n d) -> wU (n + 1) (.tup l)
theorem wv {M : MH} {d : Dat} : ∀ n, eqA M n (.d d) d
 | 0 => rfl
 | _ + 1 => .inl rfl
theorem Q6 {M : MH} {n : Nat} {x : AV} {i : Int} (h : eqA M n x (.int i)) : x = .d (.int i) := by
 cases n with
 | zero => exact h
 | succ n =>
  rcases h with h | ⟨_, _, _, _, _, z, _⟩
  ·exact h
  ·cases z
theorem Q0 {M : MH} {n : Nat} {x : AV} {l : List Dat} (h : eqA M n x (.tup l)) : x = .d (.tup l) := by
 cases n with
 | zero => exact h
 | succ n =>
  rcases h with h | ⟨_, _, _, _, _, z, _⟩
  ·exact h
  ·cases z
theorem QX {M : MH} {n : Nat} {x : AV} {l : List Dat} (h : eqA M (n + 1) x (.lst l)) : ∃ m, qS x M = some m /\ qB x M = some m /\ tyA x M = some "list" /\ m.length = l.length /\ ∀ (i : Nat) a b, m[i]? = some a -> l[i]? = some b -> eqA M n a b := by
  rcases h with rfl | ⟨q, m, ds, rfl, hm, e, hl, hi⟩
  · exact ⟨_, rfl, rfl, rfl, by rw [List.length_map], fun i a b e1 e2 => by
      rw [List.getElem?_map, e2] at e1
      cases e1
      exact wv n⟩
  · cases e
    exact ⟨m, zM hm, qq hm, by unfold tyA; dsimp only; rw [hm], hl, hi⟩
noncomputable def kY (n : Nat) : ASp := fun xs M Q => ∃ (x y : AV) (d : Dat), xs = [x, y] /\ eqA M n x d /\ eqA M n y d /\ wU n d /\ n <= 20 /\ Q (.d (.bl true)) M
theorem QJ {x y : AV} {M : MH} {l : List Dat} {mx my : List AV} {n : Nat} {sp : ASp} (hsp : ∀ xs M Q, kY n xs M Q -> sp xs M Q) {N : List AV -> ASt -> MH -> Prop} (hl : l.length <= 1000) (hd : ∀ d ∈ l, wU n d) (hn : n <= 20) (x1 : qS x M = some mx) (x4 : mx.length = l.length) (x5 : ∀ (i : Nat) a b, mx[i]? = some a -> l[i]? = some b -> eqA M n a b)
  (y1 : qS y M = some my) (y4 : my.length = l.length) (y5 : ∀ (i : Nat) a b, my[i]? = some a -> l[i]? = some b -> eqA M n a b) {u : Option AV} (hN : ∀ ρ, N (l.map fun _ => AV.d (.bl true)) ρ M) :
  K7 (Zy 2) we (yW (Ym sp (Ji (aOp (aIx qS) (J8 0) (J8 2)) (Ji (aOp (aIx qS) (J8 1) (J8 2)) BB)))) (fun _ => True) N (wI 0 1 l.length) [] [some x, some y, u] M := by
 refine VN (fun (o : Option AV) => [some x, some y, o]) (fun _ => .d (.bl true)) ⟨u, rfl⟩ trivial (by rw [kF]; omega) (fun o i z Q hz q => ?_) fun o => by
  have e : (List.range (wI 0 1 l.length).length).map (fun _ => AV.d (.bl true)) = l.map fun _ => AV.d (.bl true) := by rw [List.map_const', List.map_const', List.length_range, kF]
  rw [e]; exact hN _
 obtain ⟨hi, rfl⟩ := j9 hz
 walk_at "ra"
 have ax : atI mx (0 + (i : Int) * 1) = some mx[i] := by
  unfold atI
  rw [jl (by omega) (by omega), show (0 + (i : Int) * 1).toNat = i by omega]
  exact List.getElem?_eq_getElem (by omega)
 have ay : atI my (0 + (i : Int) * 1) = some my[i] := by
  unfold atI
  rw [jl (by omega) (by omega), show (0 + (i : Int) * 1).toNat = i by omega]
  exact List.getElem?_eq_getElem (by omega)
 refine ⟨_, x1, _, ax, _, y1, _, ay, hsp _ _ _ ⟨_, _, l[i], rfl, x5 i _ _ (List.getElem?_eq_getElem (by omega)) (List.getElem?_eq_getElem hi), y5 i _ _ (List.getElem?_eq_getElem (by omega)) (List.getElem?_eq_getElem hi), hd _ (List.getElem_mem hi), hn, q _⟩⟩
theorem yZ {l : List Dat} : ∃ bs : List Bool, (l.map fun _ => Dat.bl true) = bs.map Dat.bl /\ (l.map fun _ => AV.d (Dat.bl true)) = bs.map (fun b => AV.d (.bl b)) /\ bs.all id = true := ⟨l.map fun _ => true, by rw [List.map_map]; rfl, by rw [List.map_map]; rfl, by simp⟩
noncomputable def Et : ASp := fun _ _ _ => False
theorem A0 (a : At K mg "_law_same" j6) : Df P w K mg base "_law_same" ["_law_found", "_law_due"] 1 (cSp Et) :=
 jt (k := 0) a xN (fun _ _ _ _ _ _ us hl => match us, hl with | [_, _], _ => rfl) (fun vs H Q E h => by obtain ⟨_, _, _, _, _, _, h, _⟩ := h; exact h.elim) (fun f cdv A outer s H vs Q E hr h => by obtain ⟨_, _, _, _, _, _, h, _⟩ := h; exact h.elim)
theorem Zg (a : At K mg "_law_same" j6) (B : Blt mg) (Ball : mg "all" = none) {kk : Nat} (n : Nat) {sp : ASp} (hsp : ∀ xs M Q, 1 <= n -> kY (n - 1) xs M Q -> sp xs M Q) (D_law_same : Df P w K mg base "_law_same" ["_law_found", "_law_due"] kk (cSp sp)) : Df P w K mg base "_law_same" ["_law_found", "_law_due"] (kk + 1) (cSp (kY n)) := by
 refine dfA (k := kk) a xN (fun _ _ _ _ _ _ us hl => match us, hl with | [_, _], _ => rfl) (fun xs M Q h => ?_) (fun f cdv A outer s H E hr => ?_)
 ·obtain ⟨_, _, _, rfl, _⟩ := h; rfl
 have sc := xN
 have hsl := hsl
 have hs2 : 0 + 1 + 1 <= sizeLine := by omega
 refine ⟨_, (zc (qc (jf (zl Js rfl B.isinstance zB (za (pv 1) (za (Qm (za (qE (v := .ty "list") rfl B.list qi rfl) (za (qE (v := .ty "tuple") rfl B.tuple jw rfl) zb))) zb))) (fun _ => rfl)) (zc (qc (PW.pt (yG (zI (vw hr.units) (zl qH rfl B.isinstance zB (za (pv 0) (za (qE (v := .ty "list") rfl B.list qi rfl) zb))) (zl qH rfl B.isinstance zB (za (pv 1) (za (qE (v := .ty "list") rfl B.list qi rfl) zb))) (zJ _)) (kK (zI (vw hr.units) (zl qH rfl B.isinstance zB (za (pv 0) (za (qE (v := .ty "tuple") rfl B.tuple jw rfl) zb))) (zl qH rfl B.isinstance zB (za (pv 1) (za (qE (v := .ty "tuple") rfl B.tuple jw rfl) zb))) (zJ _))))) (zi (zx jr)) zF)
  (zi (zx (vD (j5 (xb hr.units) (zl zn rfl B.len zV (za (pv 0) zb)) (zl zn rfl B.len zV (za (pv 1) zb)) (zJ _)) (Zz (zl (JE rfl) rfl Ball AC (za (kE (ts := [2]) rfl rfl (qh rfl B.range (za (zl zn rfl B.len zV (za (pv 1) zb)) zb)) (fun _ _ _ _ => (zE (i := 2) sc.nd rfl (by first | exact Or.inl rfl | exact Or.inr rfl))) (fun _ _ _ _ => jP) (fun _ _ _ _ => (zD D_law_same hr rfl (za (zQ (KU (K := K) rfl) (pv 0) (pv 2) (fun _ _ => rfl)) (za (zQ (KU (K := K) rfl) (pv 1) (pv 2) (fun _ _ => rfl)) zb))))) zb))))))) zF)
  (zi (zx (vD (zl qH rfl B.isinstance zB (za (pv 0) (za (qE (v := .ty "int") rfl B.int yw rfl) zb))) (vD (BL (zl qH rfl B.isinstance zB (za (pv 0) (za (qE (v := .ty "bool") rfl B.bool QL rfl) zb)))) (Zz (j5 (xb hr.units) (pv 0) (pv 1) (zJ _)))))))), ?_⟩
 refine ex2 (by walk_at "sim") ?_
 rintro xs M Q ⟨x, y, d, rfl, hx, hy, hd, hn, q⟩
 rw [show qz ["_law_found", "_law_due", "_law_k"] [x, y] = [some x, some y, none] from rfl]
 have fin := QP (M0 := M) Fr.refl (.bl true)
 cases hd with
 | int => obtain rfl := Q6 hx; obtain rfl := Q6 hy; walk_at "ra"; exact ⟨hs2, _, _, fin, q⟩
 | @tup n l hl hi =>
  obtain rfl := Q0 hx
  obtain rfl := Q0 hy
  walk_at "ra"
  refine ⟨hs2, by omega, by omega, ?_⟩
  have it : ∀ (i : Nat) (a : AV) (b : Dat), (l.map AV.d)[i]? = some a -> l[i]? = some b -> eqA M n a b := fun i a b e1 e2 => by rw [List.getElem?_map, e2] at e1; cases e1; exact wv n
  rw [Int.toNat_natCast]
  refine QJ (n := n) (fun xs M Q h => hsp xs M Q (by omega) h) hl hi (by omega) rfl (by rw [List.length_map]) it rfl (by rw [List.length_map]) it fun ρ => ?_
  obtain ⟨bs, b1, b2, b3⟩ := yZ (l := l)
  refine ⟨l.map fun _ => .bl true, ?_, bs, by rw [List.map_map]; exact b2, ?_⟩
  ·rw [<- zZ (l.map fun _ => Dat.bl true), List.map_map]; rfl
  ·rw [b3]; exact ⟨_, _, fin, q⟩
 | @lst n l hl hi =>
  obtain ⟨mx, x1, x2, x3, x4, x5⟩ := QX hx
  obtain ⟨my, y1, y2, y3, y4, y5⟩ := QX hy
  walk_at "ra"
  simp only [x3, y3]
  walk_at "ra"
  refine ⟨hs2, mx, x1, my, y1, ?_⟩
  rw [if_pos (by omega)]
  refine ⟨my, y1, by omega, by omega, ?_⟩
  rw [Int.toNat_natCast, y4]
  refine QJ (n := n) (fun xs M Q h => hsp xs M Q (by omega) h) hl hi (by omega) x1 x4 x5 y1 y4 y5 fun ρ => ?_
  obtain ⟨bs, b1, b2, b3⟩ := yZ (l := l)
  refine ⟨l.map fun _ => .bl true, ?_, bs, by rw [List.map_map]; exact b2, ?_⟩
  ·rw [<- zZ (l.map fun _ => Dat.bl true), List.map_map]; rfl
  ·rw [b3]; exact ⟨_, _, fin, q⟩
theorem yO (a : At K mg "_law_same" j6) (B : Blt mg) (Ball : mg "all" = none) : ∀ n, Df P w K mg base "_law_same" ["_law_found", "_law_due"] (n + 2) (cSp (kY n))
 | 0 => Zg a B Ball 0 (sp := Et) (fun _ _ _ h => absurd h (by omega)) (A0 a)
 | n + 1 => Zg a B Ball (n + 1) (sp := kY n) (fun _ _ _ _ h => h) (yO a B Ball n)
noncomputable def Qv : ASp := fun xs M Q => ∃ (x : AV) (n : Nat) (os : List Int), xs = [x] /\ qB x M = some (os.map fun i => .d (.int i)) /\ zq n os /\ n <= 1000 /\ Q (.d (.lst ((zG os n).map ilD))) M
theorem JR (vs : List V) (H : Hp) (Q : VK) (E : XK) (h : cSp Qv vs H Q E) : wC K vs H Q E := by
 obtain ⟨xs, M, O, Q', w, r, ⟨x, n, os, rfl, hx, ho, hn, q⟩, k⟩ := h
 obtain ⟨v, rfl, rv⟩ := qJ r
 obtain ⟨a, rfl, ha⟩ := wm w rv hx
 refine ⟨a, n, os, rfl, SqL.of ha, ho, hn, fun p H' rs kp hp h1 h2 er => ?_⟩
 obtain ⟨e1, w1⟩ := Z0 w kp
 refine k _ _ _ _ _ q e1 w1 (Rep.lst (w.fresh hp).1 h1 (by rw [<- er]; unfold rfs; simp) fun i x d i1 i2 => ?_)
 rw [<- er] at i2
 unfold rfs at i1
 rw [List.getElem?_map] at i1 i2
 rw [List.getElem?_map] at i2
 cases e : rs[i]? with
 | none => rw [e] at i1; cases i1
 | some y =>
  rw [e] at i1 i2
  cases i1; cases i2
  have := h2 y (List.mem_of_getElem? e)
  exact yt (w.fresh this.1).1 this.2.2
theorem xf {os : List Int} {r : List Int} : ∀ {i : Nat}, r ∈ zG os i -> ∃ p : Nat, p < i /\ r = qu os (p : Int)
 | 0, h => by simp [zG] at h
 | i + 1, h => by
  unfold zG at h
  rcases List.mem_append.mp h with z | z
  ·obtain ⟨p, hp, e⟩ := xf z
   exact ⟨p, by omega, e⟩
  ·by_cases c : Zl os i /\ 1 < per os (i : Int)
   ·rw [if_pos c] at z
    exact ⟨i, by omega, List.mem_singleton.mp z⟩
   ·rw [if_neg c] at z; cases z
theorem WF {n : Nat} {os : List Int} (h : zq n os) {r : List Int} (hr : r ∈ zG os n) : ∀ x ∈ r, 0 <= x /\ x < (n : Int) := by
 obtain ⟨p, hp, e⟩ := xf hr
 subst e
 intro x hx
 obtain ⟨k, _, ek⟩ := xI.mp hx
 rw [<- ek]
 exact jh h (by omega) (by omega) k
theorem Km {n : Nat} {os : List Int} (h : zq n os) {r : List Int} (hr : r ∈ zG os n) {k : Nat} (hk : k < r.length) : os.getD (r.getD k 0).toNat 0 = if k + 1 = r.length then r.getD 0 0 else r.getD (k + 1) 0 := by
 obtain ⟨p, hp, e⟩ := xf hr
 obtain ⟨M, hM, _⟩ := kM h (p := (p : Int)) (by omega) (by omega)
 have hM1 := hM.1
 unfold qu at e
 rw [hM.per] at e
 have lr : r.length = M := by rw [e, qM]
 have cg : ∀ k, k < M -> r.getD k 0 = itn os k (p : Int) := fun k hk => by
  rw [e, List.getD_eq_getElem?_getD]
  unfold itl
  rw [List.getElem?_map, List.getElem?_range hk]; rfl
 rw [lr] at hk ⊢
 rw [cg k hk]
 show itn os (k + 1) (p : Int) = _
 split
 ·rename_i z
  rw [z, hM.2.1, cg 0 (by omega)]; rfl
 ·rw [cg (k + 1) (by omega)]
theorem yv {n : Nat} {os : List Int} (h : zq n os) {p : Nat} (hp : p < n) {x : Int} : x ∈ qu os (p : Int) ↔ Rch os (p : Int) x := by
 obtain ⟨m, hm, _⟩ := kM h (p := (p : Int)) (by omega) (by omega)
 unfold qu
 rw [hm.per]
 exact (Rch.mem_ring hm).symm
theorem JY {n : Nat} {os : List Int} (h : zq n os) {p : Nat} (hp : p < n) : (qu os (p : Int)).Nodup := by
 obtain ⟨m, hm, _⟩ := kM h (p := (p : Int)) (by omega) (by omega)
 unfold qu
 rw [hm.per]
 exact J2 h (by omega) (by omega) hm
theorem xQ {n : Nat} {os : List Int} (h : zq n os) : ∀ i, i <= n -> (zG os i).flatten.Nodup /\ ∀ x ∈ (zG os i).flatten, qG os i x
 | 0, _ => by simp [zG]
 | i + 1, hi => by
  obtain ⟨n1, s1⟩ := xQ h i (by omega)
  unfold zG
  by_cases c : Zl os i /\ 1 < per os (i : Int)
  ·rw [if_pos c, List.flatten_append, List.flatten_singleton]
   refine ⟨List.nodup_append.mpr ⟨n1, JY h (by omega), fun a ha b hb e => ?_⟩, fun x hx => ?_⟩
   ·subst e
    obtain ⟨q, hq, r⟩ := s1 a ha
    have r2 := (yv h (by omega)).mp hb
    have a0 := r2
    exact c.1 q hq (r.trans (r2.symm h (by omega) (by omega)))
   ·rcases List.mem_append.mp hx with z | z
    ·exact qG.succ.mpr (.inl (s1 x z))
    ·exact qG.succ.mpr (.inr ((yv h (by omega)).mp z))
  ·rw [if_neg c, List.append_nil]
   exact ⟨n1, fun x hx => qG.succ.mpr (.inl (s1 x hx))⟩
structure QM (n : Nat) (os : List Int) (rs : List (List Int)) : Prop where
 len : ∀ r ∈ rs, 2 <= r.length /\ r.length <= n
 bd : ∀ r ∈ rs, ∀ x ∈ r, 0 <= x /\ x < (n : Int)
 nx : ∀ r ∈ rs, ∀ k, k < r.length -> os.getD (r.getD k 0).toNat 0 = r.getD ((k + 1) % r.length) 0
 nd : rs.flatten.Nodup
 st : ∀ x : Nat, x < n -> (x : Int) ∉ rs.flatten -> os.getD x 0 = (x : Int)
theorem ZI {n : Nat} {os : List Int} (h : zq n os) : QM n os (zG os n) := by
 refine ⟨fun r hr => ?_, fun r hr => WF h hr, fun r hr k hk => ?_, (xQ h n (Nat.le_refl n)).1, fun x hx hn => ?_⟩
 ·have := xV h (Nat.le_refl n) hr; omega
 ·rw [Km h hr hk]
  by_cases c : k + 1 = r.length
  ·rw [if_pos c, c, Nat.mod_self]
  ·rw [if_neg c, Nat.mod_eq_of_lt (by omega)]
 ·rcases v0 h hx with ⟨r, hr, hm⟩ | hp
  ·exact absurd (List.mem_flatten.mpr ⟨r, hr, hm⟩) hn
  ·have : os.getD ((x : Int)).toNat 0 = (x : Int) := hp.2.1
   rw [Int.toNat_natCast] at this; exact this
noncomputable def wL (a b : List Int) : Prop := ∃ k, k < b.length /\ a = b.drop k ++ b.take k
theorem wr {b : List Int} {k j : Nat} (hk : k < b.length) (hj : j < b.length) : (b.drop k ++ b.take k).getD j 0 = b.getD ((j + k) % b.length) 0 := by
 rw [List.getD_eq_getElem?_getD, List.getD_eq_getElem?_getD]
 by_cases c : j < b.length - k
 ·rw [List.getElem?_append_left (by rw [List.length_drop]; exact c), List.getElem?_drop, Nat.mod_eq_of_lt (by omega), Nat.add_comm]
 ·rw [List.getElem?_append_right (by rw [List.length_drop]; omega), List.length_drop, List.getElem?_take_of_lt (by omega)]
  congr 2
  rw [Nat.mod_eq_sub_mod (by omega), Nat.mod_eq_of_lt (by omega)]
  omega
theorem QQ {a b : List Int} (h : wL a b) : a.length = b.length := by
 obtain ⟨k, hk, rfl⟩ := h
 rw [List.length_append, List.length_drop, List.length_take]; omega
theorem wF {a b : List Int} (h : wL a b) : a.Perm b := by
 obtain ⟨k, hk, rfl⟩ := h
 exact List.perm_append_comm.trans (by rw [List.take_append_drop])
theorem Jt {n : Nat} {os : List Int} {rs rs' : List (List Int)} (g : QM n os rs) (h1 : ∀ r' ∈ rs', ∃ r ∈ rs, wL r' r) (h2 : rs'.flatten.Perm rs.flatten) : QM n os rs' := by
 refine ⟨fun r' hr' => ?_, fun r' hr' x hx => ?_, fun r' hr' k hk => ?_, h2.nodup_iff.mpr g.nd, fun x hx hn => g.st x hx fun z => hn (h2.mem_iff.mpr z)⟩
 ·obtain ⟨r, hr, ro⟩ := h1 r' hr'
  rw [QQ ro]; exact g.len r hr
 ·obtain ⟨r, hr, ro⟩ := h1 r' hr'
  exact g.bd r hr x ((wF ro).mem_iff.mp hx)
 ·obtain ⟨r, hr, ro⟩ := h1 r' hr'
  have rl := QQ ro
  obtain ⟨j, hj, rfl⟩ := ro
  rw [rl] at hk ⊢
  have hl := (g.len r hr).1
  rw [wr hj hk, wr hj (Nat.mod_lt _ (by omega)), g.nx r hr _ (Nat.mod_lt _ (by omega))]
  congr 1
  rw [Nat.mod_add_mod, Nat.mod_add_mod]
  congr 1
  omega
theorem Ys : ∀ {l : List Int} {bs : List Bool}, l.Nodup -> (∀ x ∈ l, 0 <= x /\ x < (bs.length : Int) /\ bs.getD x.toNat true = false) -> ∃ cs, mk1 bs (l.map .int) = some cs /\ cs.length = bs.length /\ ∀ i : Nat, i < bs.length -> (cs.getD i true = false ↔ bs.getD i true = false /\ (i : Int) ∉ l)
 | [], bs, _, _ => ⟨bs, rfl, rfl, fun i _ => by simp⟩
 | x :: r, bs, nd, hb => by
  obtain ⟨x0, x1, x2⟩ := hb x List.mem_cons_self
  have nd' := List.nodup_cons.mp nd
  obtain ⟨cs, h1, h2, h3⟩ := Ys (l := r) (bs := bs.set x.toNat true) nd'.2 fun y hy => by
   obtain ⟨y0, y1, y2⟩ := hb y (List.mem_cons_of_mem _ hy)
   refine ⟨y0, by rw [List.length_set]; exact y1, ?_⟩
   have : y ≠ x := fun e => nd'.1 (by rw [<- e]; exact hy)
   rw [List.getD_eq_getElem?_getD, List.getElem?_set_ne (by omega), <- List.getD_eq_getElem?_getD]; exact y2
  refine ⟨cs, ?_, by rw [h2, List.length_set], fun i hi => ?_⟩
  ·show (match mk0 bs (.int x) with | some cs => mk1 cs (r.map .int) | none => none) = some cs
   have : mk0 bs (.int x) = some (bs.set x.toNat true) := by unfold mk0; dsimp only; rw [if_pos ⟨x0, x1, x2⟩]
   rw [this]; exact h1
  ·rw [h3 i (by rw [List.length_set]; exact hi)]
   by_cases c : x.toNat = i
   ·have e : (bs.set x.toNat true).getD i true = true := by rw [List.getD_eq_getElem?_getD, c, List.getElem?_set_self hi]; rfl
    have m : (i : Int) ∈ x :: r := by rw [show (i : Int) = x by omega]; exact List.mem_cons_self
    rw [e]
    exact ⟨fun z => absurd z.1 (by decide), fun z => absurd m z.2⟩
   ·have e : (bs.set x.toNat true).getD i true = bs.getD i true := by rw [List.getD_eq_getElem?_getD, List.getElem?_set_ne c, <- List.getD_eq_getElem?_getD]
    rw [e]
    refine and_congr_right fun _ => ?_
    rw [List.mem_cons, not_or]
    exact ⟨fun z => ⟨fun y => c (by omega), z⟩, fun z => z.2⟩
theorem kZ {l : List Int} {i : Nat} (h : i < l.length) : (l.map Dat.int).getD i .non = .int (l.getD i 0) := by
 rw [List.getD_eq_getElem?_getD, List.getElem?_map, List.getElem?_eq_getElem h, List.getD_eq_getElem?_getD, List.getElem?_eq_getElem h]; rfl
theorem QV {n : Nat} {os : List Int} {l : List Int} (hl : 2 <= l.length) (hb : ∀ x ∈ l, 0 <= x /\ x < (n : Int)) (nx : ∀ k, k < l.length -> os.getD (l.getD k 0).toNat 0 = l.getD ((k + 1) % l.length) 0) {os' : List Dat} (ho : os'.length = n) :
  ∀ j, j <= l.length -> ∀ x : Nat, x < n -> (prn (l.map .int) j os').getD x .non = if (∃ k, k < j /\ l.getD (if k = 0 then l.length - 1 else k - 1) 0 = (x : Int)) then .int (os.getD x 0) else os'.getD x .non
 | 0, _, x, _ => by rw [if_neg (by rintro ⟨k, hk, _⟩; omega)]; rfl
 | j + 1, hj, x, hx => by
  have ih := QV hl hb nx ho j (by omega) x hx
  have pl : (if j = 0 then l.length - 1 else j - 1) < l.length := by split <;> omega
  have gi := hb _ (List.getElem_mem pl)
  have ge : l.getD (if j = 0 then l.length - 1 else j - 1) 0 = l[(if j = 0 then l.length - 1 else j - 1)] := by rw [List.getD_eq_getElem?_getD, List.getElem?_eq_getElem pl]; rfl
  rw [<- ge] at gi
  unfold prn
  rw [List.length_map, kZ pl, kZ (by omega)]
  show ((prn (l.map .int) j os').set (l.getD (if j = 0 then l.length - 1 else j - 1) 0).toNat _).getD x .non = _
  by_cases c : l.getD (if j = 0 then l.length - 1 else j - 1) 0 = (x : Int)
  ·rw [if_pos (show ∃ k, k < j + 1 /\ l.getD (if k = 0 then l.length - 1 else k - 1) 0 = (x : Int) from ⟨j, by omega, c⟩), c, Int.toNat_natCast, List.getD_eq_getElem?_getD, List.getElem?_set_self (by rw [ku, ho]; exact hx)]
   have := nx _ pl
   rw [c, Int.toNat_natCast] at this
   have em : ((if j = 0 then l.length - 1 else j - 1) + 1) % l.length = j := by
    by_cases z : j = 0
    ·rw [if_pos z, z, Nat.sub_add_cancel (by omega), Nat.mod_self]
    ·rw [if_neg z, Nat.sub_add_cancel (by omega), Nat.mod_eq_of_lt (by omega)]
   rw [em] at this
   rw [this]; rfl
  ·rw [List.getD_eq_getElem?_getD, List.getElem?_set_ne (by omega), <- List.getD_eq_getElem?_getD, ih]
   by_cases c2 : ∃ k, k < j /\ l.getD (if k = 0 then l.length - 1 else k - 1) 0 = (x : Int)
   ·rw [if_pos c2, if_pos (let ⟨k, h1, h2⟩ := c2; ⟨k, by omega, h2⟩)]
   ·rw [if_neg c2, if_neg]
    rintro ⟨k, h1, h2⟩
    by_cases e : k = j
    ·subst e; exact c h2
    ·exact c2 ⟨k, by omega, h2⟩
theorem Q4 {l : List Int} (hl : 2 <= l.length) (x : Nat) : (∃ k, k < l.length /\ l.getD (if k = 0 then l.length - 1 else k - 1) 0 = (x : Int)) ↔ (x : Int) ∈ l := by
 constructor
 ·rintro ⟨k, hk, e⟩
  have pl : (if k = 0 then l.length - 1 else k - 1) < l.length := by split <;> omega
  rw [List.getD_eq_getElem?_getD, List.getElem?_eq_getElem pl] at e
  rw [<- e]; exact List.getElem_mem pl
 ·intro h
  obtain ⟨i, hi, e⟩ := List.getElem_of_mem h
  refine ⟨(i + 1) % l.length, Nat.mod_lt _ (by omega), ?_⟩
  have : (if (i + 1) % l.length = 0 then l.length - 1 else (i + 1) % l.length - 1) = i := by
   by_cases c : i + 1 = l.length
   ·rw [c, Nat.mod_self, if_pos rfl]; omega
   ·rw [Nat.mod_eq_of_lt (by omega), if_neg (by omega)]; omega
  rw [this, List.getD_eq_getElem?_getD, List.getElem?_eq_getElem hi]; exact e
noncomputable abbrev dIs (rs : List (List Int)) : List (List Dat) := rs.map fun r => r.map .int
theorem QW {n : Nat} {os : List Int} : ∀ {rs : List (List Int)} {bs : List Bool} {o : List Dat} {D : List Int}, bs.length = n -> o.length = n -> (∀ r ∈ rs, 2 <= r.length) -> (∀ r ∈ rs, ∀ x ∈ r, 0 <= x /\ x < (n : Int)) -> (∀ r ∈ rs, ∀ k, k < r.length -> os.getD (r.getD k 0).toNat 0 = r.getD ((k + 1) % r.length) 0) -> (D ++ rs.flatten).Nodup ->
  (∀ i : Nat, i < n -> (bs.getD i true = false ↔ (i : Int) ∉ D)) -> (∀ x : Nat, x < n -> o.getD x .non = if (x : Int) ∈ D then .int (os.getD x 0) else .int x) ->
  ∃ st, zR obs (bs, o) (dIs rs) = some st /\ st.2.length = n /\ ∀ x : Nat, x < n -> st.2.getD x .non = if (x : Int) ∈ D ++ rs.flatten then .int (os.getD x 0) else .int x
 | [], bs, o, D, hb, ho, _, _, _, _, _, h2 => ⟨(bs, o), rfl, ho, fun x hx => by rw [List.flatten_nil, List.append_nil]; exact h2 x hx⟩
 | r :: rs, bs, o, D, hb, ho, hl, hbd, hnx, nd, h1, h2 => by
  have hl0 := hl r List.mem_cons_self
  have hbd0 := hbd r List.mem_cons_self
  have hnx0 := hnx r List.mem_cons_self
  rw [List.flatten_cons, <- List.append_assoc] at nd
  have nd1 := (List.nodup_append.mp nd).1
  have ndr := (List.nodup_append.mp nd1).2.1
  have dj := (List.nodup_append.mp nd1).2.2
  obtain ⟨cs, c1, c2, c3⟩ := Ys (l := r) (bs := bs) ndr fun x hx => by
   have := hbd0 x hx
   refine ⟨this.1, by omega, ?_⟩
   refine (h1 x.toNat (by omega)).mpr fun z => ?_
   rw [Int.toNat_of_nonneg this.1] at z
   exact dj x z x hx rfl
  obtain ⟨st, e1, e2, e3⟩ := QW (rs := rs) (bs := cs) (o := prn (r.map .int) (r.map Dat.int).length o) (D := D ++ r) (by omega) (by rw [ku]; exact ho) (fun r' hr' => hl r' (List.mem_cons_of_mem _ hr')) (fun r' hr' => hbd r' (List.mem_cons_of_mem _ hr')) (fun r' hr' => hnx r' (List.mem_cons_of_mem _ hr')) nd
   (fun i hi => by rw [c3 i (by omega), h1 i hi, List.mem_append, not_or])
   (fun x hx => by
    rw [List.length_map, QV (os := os) hl0 hbd0 hnx0 ho _ (Nat.le_refl _) x hx]
    by_cases c : (x : Int) ∈ r
    ·rw [if_pos ((Q4 hl0 x).mpr c), if_pos (List.mem_append_right _ c)]
    ·rw [if_neg (fun z => c ((Q4 hl0 x).mp z)), h2 x hx]
     by_cases d : (x : Int) ∈ D
     ·rw [if_pos d, if_pos (List.mem_append_left _ d)]
     ·rw [if_neg d, if_neg (fun z => (List.mem_append.mp z).elim d c)])
  refine ⟨st, ?_, e2, fun x hx => ?_⟩
  ·have : obs (bs, o) (r.map .int) = some (cs, prn (r.map .int) (r.map Dat.int).length o) := by unfold obs; rw [if_neg (by rw [List.length_map]; omega), c1]
   rw [show dIs (r :: rs) = r.map .int :: dIs rs from rfl]
   unfold zR
   rw [this]; exact e1
  ·rw [e3 x hx, List.flatten_cons, List.append_assoc]
theorem Wu {n : Nat} {os : List Int} {rs : List (List Int)} (h : zq n os) (g : QM n os rs) : ∃ st, zR obs (ob0 n) (dIs rs) = some st /\ st.2 = os.map .int := by
 obtain ⟨st, e1, e2, e3⟩ := QW (n := n) (os := os) (rs := rs) (bs := List.replicate n false) (o := (zU 0 1 n).map .int) (D := []) (by simp) (by rw [List.length_map, zw]) (fun r hr => (g.len r hr).1) g.bd g.nx (by rw [List.nil_append]; exact g.nd)
  (fun i hi => by rw [List.getD_eq_getElem?_getD, List.getElem?_replicate, if_pos hi]; simp)
  (fun x hx => by rw [if_neg (by simp), kZ (by rw [zw]; exact hx), qy n hx])
 refine ⟨st, e1, ?_⟩
 refine List.ext_getElem (by rw [e2, List.length_map, h.1]) fun x h1 h2 => ?_
 have := e3 x (by omega)
 rw [List.nil_append, List.getD_eq_getElem?_getD, List.getElem?_eq_getElem h1] at this
 have this : st.2[x] = _ := this
 rw [this, List.getElem_map]
 have eo : os.getD x 0 = os[x]'(by rw [h.1]; omega) := by rw [List.getD_eq_getElem?_getD, List.getElem?_eq_getElem (by rw [h.1]; omega)]; rfl
 by_cases c : (x : Int) ∈ rs.flatten
 ·rw [if_pos c, eo]
 ·rw [if_neg c, <- eo, g.st x (by omega) c]
theorem Yz {bs cs : List Bool} {d : Dat} (h : mk0 bs d = some cs) : ∃ k : Nat, d = .int k /\ k < bs.length /\ bs.getD k true = false /\ cs = bs.set k true := by
 cases d with
 | int k =>
  unfold mk0 at h
  dsimp only at h
  split at h
  ·rename_i z
   cases h
   exact ⟨k.toNat, by rw [Int.toNat_of_nonneg z.1], by omega, z.2.2, rfl⟩
  ·cases h
 | _ => cases h
theorem Za : ∀ {l : List Dat} {bs cs : List Bool}, mk1 bs l = some cs -> l.Nodup /\ (∀ d ∈ l, ∃ k : Nat, d = .int k /\ k < bs.length /\ bs.getD k true = false) /\ (∀ k : Nat, bs.getD k true = true -> cs.getD k true = true) /\ ∀ k : Nat, Dat.int k ∈ l -> cs.getD k true = true
 | [], bs, cs, h => by cases h; exact ⟨.nil, by simp, fun _ h => h, by simp⟩
 | d :: r, bs, cs, h => by
  unfold mk1 at h
  cases e : mk0 bs d with
  | none => rw [e] at h; cases h
  | some b2 =>
   rw [e] at h
   obtain ⟨k, rfl, k1, k2, rfl⟩ := Yz e
   obtain ⟨n1, n2, n3, n4⟩ := Za h
   have gk : (bs.set k true).getD k true = true := by rw [List.getD_eq_getElem?_getD, List.getElem?_set_self k1]; rfl
   have gm : ∀ j : Nat, bs.getD j true = true -> (bs.set k true).getD j true = true := fun j hj => by
    by_cases c : k = j
    ·rw [<- c]; exact gk
    ·rw [List.getD_eq_getElem?_getD, List.getElem?_set_ne c, <- List.getD_eq_getElem?_getD]; exact hj
   refine ⟨List.nodup_cons.mpr ⟨fun z => ?_, n1⟩, fun x hx => ?_, fun j hj => n3 j (gm j hj), fun j hj => ?_⟩
   ·obtain ⟨j, ej, _, j2⟩ := n2 _ z
    have : k = j := by injection ej with ej; omega
    rw [<- this, gk] at j2; cases j2
   ·rcases List.mem_cons.mp hx with rfl | hx
    ·exact ⟨k, rfl, k1, k2⟩
    ·obtain ⟨j, ej, j1, j2⟩ := n2 x hx
     refine ⟨j, ej, by rw [List.length_set] at j1; exact j1, ?_⟩
     cases z : bs.getD j true with
     | false => rfl
     | true => rw [gm j z] at j2; cases j2
   ·rcases List.mem_cons.mp hj with ej | hj
    ·have : j = k := by injection ej with ej; omega
     rw [this]; exact n3 k gk
    ·exact n4 j hj
theorem Qx {n : Nat} : ∀ {ls : List (List Dat)} {st st' : List Bool × List Dat}, st.1.length = n -> zR obs st ls = some st' -> (∀ l ∈ ls, 2 <= l.length /\ ∀ d ∈ l, ∃ k : Nat, d = .int k /\ k < n /\ st.1.getD k true = false) /\ ls.flatten.Nodup
 | [], st, st', _, _ => ⟨by simp, by simp⟩
 | l :: r, st, st', hn, h => by
  unfold zR at h
  cases e : obs st l with
  | none => rw [e] at h; cases h
  | some s2 =>
   rw [e] at h
   have ls := Qy e
   obtain ⟨i1, i2⟩ := Qx (n := n) (by omega) h
   unfold obs at e
   split at e
   ·cases e
   ·rename_i l2
    cases e1 : mk1 st.1 l with
    | none => rw [e1] at e; cases e
    | some cs =>
     rw [e1] at e
     cases e
     obtain ⟨m1, m2, m3, m4⟩ := Za e1
     have back : ∀ j : Nat, cs.getD j true = false -> st.1.getD j true = false := fun j hj => by
      cases z : st.1.getD j true with
      | false => rfl
      | true => rw [m3 j z] at hj; cases hj
     refine ⟨fun x hx => ?_, ?_⟩
     ·rcases List.mem_cons.mp hx with rfl | hx
      ·exact ⟨by omega, fun d hd => by obtain ⟨k, a, b, c⟩ := m2 d hd; exact ⟨k, a, by omega, c⟩⟩
      ·obtain ⟨a, b⟩ := i1 x hx
       exact ⟨a, fun d hd => by obtain ⟨k, a, b, c⟩ := b d hd; exact ⟨k, a, b, back k c⟩⟩
     ·rw [List.flatten_cons]
      refine List.nodup_append.mpr ⟨m1, i2, fun a ha b hb e => ?_⟩
      subst e
      obtain ⟨y, hy, hay⟩ := List.mem_flatten.mp hb
      obtain ⟨k, rfl, _, k2⟩ := (i1 y hy).2 a hay
      have := m4 k ha
      rw [this] at k2; cases k2
theorem QG {n : Nat} {ls : List (List Dat)} (h : ¬ ((∀ l ∈ ls, 2 <= l.length /\ ∀ d ∈ l, ∃ k : Nat, d = .int k /\ k < n) /\ ls.flatten.Nodup)) : zR obs (ob0 n) ls = none := by
 cases e : zR obs (ob0 n) ls with
 | none => rfl
 | some st =>
  obtain ⟨a, b⟩ := Qx (n := n) (by simp [ob0]) e
  exact absurd ⟨fun l hl => ⟨(a l hl).1, fun d hd => let ⟨k, x, y, _⟩ := (a l hl).2 d hd; ⟨k, x, y⟩⟩, b⟩ h
noncomputable def Jj : ASp := fun xs M Q => ∃ (b : Addr) (N : Nat) (rs : List (List Int)), xs = [.ref b, .d (.lst (rs.map ilD))] /\ BxM M b N /\ N < 100000 /\ rs.length <= 1000 /\ (∀ r ∈ rs, 0 < r.length /\ r.length <= 1000) /\ ∀ (rs' : List (List Int)) M', BxS M M' b (N + 2 * rs.length) -> (∀ r' ∈ rs', ∃ r ∈ rs, wL r' r) -> rs'.flatten.Perm rs.flatten -> rs'.length = rs.length -> Q (.d (.lst (rs'.map ilD))) M'
noncomputable abbrev jZ : Stmt := top 27
theorem xp : zA ["_law_box_here", "_law_rings_told", "_law_made", "_law_ring", "_law_at"] ["_law_box_here", "_law_rings_told"] (zj jZ) := ⟨rfl, rfl, rfl, by decide +kernel, rfl, by decide +kernel, by decide +kernel⟩
theorem Zd (a : At K mg "_law_turned" jZ) (B : Blt mg) (D_law_take : Df P w K mg base "_law_take" ["_law_box_here", "_law_many"] 1 (cSp YN)) : Df P w K mg base "_law_turned" ["_law_box_here", "_law_rings_told"] 2 (cSp Jj) := by
 refine dfA (k := 1) a xp (fun _ _ _ _ _ _ us hl => match us, hl with | [_, _], _ => rfl) (fun xs M Q h => ?_) (fun f cdv A outer s H E hr => ?_)
 ·obtain ⟨_, _, _, rfl, _⟩ := h; rfl
 have sc := xp
 have hsl := hsl
 refine ⟨_, (zc (zy (i := 2) sc.nd rfl (by first | exact Or.inl rfl | exact Or.inr rfl) (v7 (zP zb)))
  (zc (qA PassesOwn.never rfl (yV (pv 1)) (zE (i := 3) sc.nd rfl (by first | exact Or.inl rfl | exact Or.inr rfl)) (zc (zy (i := 4) sc.nd rfl (by first | exact Or.inl rfl | exact Or.inr rfl) (zD D_law_take hr rfl (za (pv 0) (za (zl zn rfl B.len zV (za (pv 3) zb)) zb))))
  (zi (qp (xk PySem.F.plainAttrs_list PySem.F.slot_list_insert PySem.F.type_list_insert xj (pv 2) (za (zD D_law_take hr rfl (za (pv 0) (za (zm zK (zl zn rfl B.len zV (za (pv 2) zb)) zd) zb))) (za (zm vM (jD ka (pv 3) (jL (pv 4)) xH) (jD ka (pv 3) xH (jL (pv 4)))) zb)))))))
  (zi (zx (pv 2))))), ?_⟩
 refine ex2 (by walk_at "sim") ?_
 rintro xs M Q ⟨b, N, rs, rfl, hb, hN, hl, hr2, q⟩
 rw [show qz ["_law_box_here", "_law_rings_told", "_law_made", "_law_ring", "_law_at"] [.ref b, .d (.lst (rs.map ilD))] = [some (.ref b), some (.d (.lst (rs.map ilD))), none, none, none] from rfl]
 refine zv fun r hr0 => ?_
 walk_at "ra"
 intro p hp _
 subst hr0
 refine zv fun r hr0 => ?_
 walk_at "ra"
 have sb0 := SB.refl hb
 have hpb := (sb0.new hp).2
 refine ⟨fun i ρ M' => ∃ (u v : Option AV) (rs' : List (List Int)), ρ = [some (.ref b), some (.d (.lst (rs.map ilD))), some (.ref p), u, v] /\ SB M M' b (N + 2 * i) /\ M' p = some (.lst (rs'.map fun r => .d (ilD r))) /\ (∀ r' ∈ rs', ∃ r ∈ rs, wL r' r) /\ rs'.flatten.Perm (rs.take i).flatten /\ rs'.length = i, ⟨none, none, [], rfl, sb0.put hp hpb _, zk, by simp, by simp, rfl⟩, ?_, ?_⟩
 ·rintro i y ρ M' hy ⟨u, v, rs', rfl, sb, hp', h1, h2, h3⟩
  rw [List.getElem?_map, List.getElem?_map] at hy
  cases e : rs[i]? with
  | none => rw [e] at hy; cases hy
  | some g =>
   rw [e] at hy
   cases hy
   have hi := (List.getElem?_eq_some_iff.mp e).1
   have hg := List.mem_of_getElem? e
   obtain ⟨g0, g1⟩ := hr2 g hg
   refine ⟨trivial, ?_⟩
   show yA _ _ _ _ _ _
   refine zv fun r2 hr2 => ?_
   walk_at "ra"
   refine ⟨b, g.length, _, rfl, sb.bx, by omega, by omega, by omega, fun k M2 s2 k0 k1 => ?_⟩
   obtain ⟨k, rfl⟩ : ∃ j : Nat, k = j := ⟨k.toNat, by omega⟩
   have sb2 := sb.go s2
   subst hr2
   walk_at "ra"
   have hm := (s2.at hpb).trans hp'
   refine ⟨⟨_, qq hm⟩, _, zM hm, b, (i : Int) + 1, _, by rw [List.length_map, h3], sb2.bx, by omega, by omega, by omega, fun j M3 s3 j0 j1 => ?_⟩
   obtain ⟨j, rfl⟩ : ∃ z : Nat, j = z := ⟨j.toNat, by omega⟩
   have sb3 := sb2.go s3
   refine ⟨_, Kg _ _, _, WC _ _, ?_, _, Wr _ _, _, _, rfl, (s3.at hpb).trans hm, by omega, by rw [List.length_map]; omega, ?_, ⟨_, rfl⟩, (sb3.put hp hpb _).mono (by omega), rs'.take j ++ (g.drop k ++ g.take k) :: rs'.drop j, ?_, ?_, ?_, ?_⟩
   ·rw [List.length_map, List.length_map, List.length_drop, List.length_take]; omega
   ·rw [List.length_map]; omega
   ·rw [zk, Int.toNat_natCast, List.map_append, List.map_cons, List.map_take, List.map_drop]
    show some (MO.lst (_ ++ AV.d (.lst _) :: _)) = some (MO.lst (_ ++ AV.d (.lst _) :: _))
    rw [List.map_append]
    simp only [List.map_take, List.map_drop]
   ·intro r' hr'
    rcases List.mem_append.mp hr' with z | z
    ·exact h1 r' (List.mem_of_mem_take z)
    ·rcases List.mem_cons.mp z with rfl | z
     ·exact ⟨g, hg, k, by omega, rfl⟩
     ·exact h1 r' (List.mem_of_mem_drop z)
   ·rw [List.take_succ, e, List.flatten_append, List.flatten_append, List.flatten_cons]
    have p1 : (g.drop k ++ g.take k).Perm g := wF ⟨k, by omega, rfl⟩
    have p2 : (rs'.take j).flatten ++ (rs'.drop j).flatten = rs'.flatten := by rw [<- List.flatten_append, List.take_append_drop]
    have p3 : ((rs'.take j).flatten ++ ((g.drop k ++ g.take k) ++ (rs'.drop j).flatten)).Perm (((rs'.take j).flatten ++ (rs'.drop j).flatten) ++ (g.drop k ++ g.take k)) := by
     rw [List.append_assoc (rs'.take j).flatten]
     exact List.Perm.append_left _ List.perm_append_comm
    rw [p2] at p3
    refine p3.trans ?_
    show (rs'.flatten ++ (g.drop k ++ g.take k)).Perm ((rs.take i).flatten ++ [g].flatten)
    rw [List.flatten_singleton]
    exact h2.append p1
   ·rw [List.length_append, List.length_cons, List.length_take, List.length_drop]; omega
 ·rintro ρ M' ⟨u, v, rs', rfl, sb, hp', h1, h2, h3⟩
  refine ⟨trivial, ?_⟩
  subst hr0
  walk_at "ra"
  have e : (rs'.map fun r => AV.d (ilD r)) = (rs'.map ilD).map .d := by rw [List.map_map]; rfl
  rw [e] at hp'
  rw [List.length_map, List.length_map] at *
  rw [List.take_length] at h2
  exact sb.frz hp hpb hp' (zZ _) fun M' s => q rs' M' s h1 h2 h3
theorem SB.dee {M0 M : MH} {b : Addr} {N : Nat} {Q : AK} {x : AV} {d : Dat} (s : SB M0 M b N) (h : ∀ M', BxS M0 M' b N -> Dee M M' x d) (q : ∀ M', BxS M0 M' b N -> Q (.d d) M') : rtA M0 Q x M := by
 obtain ⟨M'', f, t⟩ := s.fin d
 exact ⟨_, M'', ⟨f.sub, f.cl, .inr (.inr ⟨d, h M'' t, rfl⟩)⟩, q M'' t⟩
noncomputable def BtD (d : Dat) : Prop := Sh 100 d /\ dp d <= 30
noncomputable def J4 (n : Nat) : List (List Dat) := [[], [.int 0], [.int 0, .int n], [.int (-1), .int 0], [.int 0, .int 0], [.non, .int 0], [.int 0, .str (Str.ofString "1")], [.bl false, .int (1 - if (n : Int) < 2 then 1 else 0)], [.int (10 ^ Int.toNat 18), .int 0], [.lst [.int 0], .int 0]]
theorem qD {i : Int} (h : i.natAbs < 10 ^ 20) : BtD (.int i) := ⟨(Ds h).mono (by decide), by rw [K4]; omega⟩
theorem Dx {n : Nat} (hn : n <= 200) : ∀ l ∈ J4 n, l.length <= 2 /\ ∀ d ∈ l, BtD d := by
 have s1 : BtD .non := ⟨⟨by decide +kernel, by decide +kernel⟩, by decide +kernel⟩
 have s2 : BtD (.bl false) := ⟨⟨by decide +kernel, by decide +kernel⟩, by decide +kernel⟩
 have s3 : BtD (.str (Str.ofString "1")) := ⟨⟨by decide +kernel, by decide +kernel⟩, by decide +kernel⟩
 have s4 : BtD (.lst [.int 0]) := ⟨⟨by decide +kernel, by decide +kernel⟩, by decide +kernel⟩
 have i0 : BtD (.int 0) := qD (by decide)
 have i1 : BtD (.int (-1)) := qD (by decide)
 have i2 : BtD (.int n) := qD (Nat.lt_of_le_of_lt (show _ <= 200 by omega) (by decide))
 have i3 : BtD (.int (1 - if (n : Int) < 2 then 1 else 0)) := qD (Nat.lt_of_le_of_lt (show _ <= 1 by split <;> decide) (by decide))
 have i4 : BtD (.int (10 ^ Int.toNat 18)) := qD (by decide +kernel)
 intro l hl
 unfold J4 at hl
 simp only [List.mem_cons, List.not_mem_nil, or_false] at hl
 rcases hl with rfl | rfl | rfl | rfl | rfl | rfl | rfl | rfl | rfl | rfl <;> refine ⟨Nat.le_of_ble_eq_true rfl, fun d hd => ?_⟩ <;> simp only [List.mem_cons, List.not_mem_nil, or_false] at hd <;> first | exact hd.elim | (rcases hd with rfl | rfl <;> assumption) | (rw [hd]; assumption)
theorem BA {n : Nat} (hn : n <= 200) : ∀ l ∈ J4 n, ¬ (2 <= l.length /\ (∀ d ∈ l, ∃ k : Nat, d = .int k /\ k < n) /\ l.Nodup) := by
 intro l hl
 unfold J4 at hl
 simp only [List.mem_cons, List.not_mem_nil, or_false] at hl
 rintro ⟨h1, h2, h3⟩
 rcases hl with rfl | rfl | rfl | rfl | rfl | rfl | rfl | rfl | rfl | rfl
 ·simp at h1
 ·simp at h1
 ·obtain ⟨k, e, hk⟩ := h2 (.int n) (by simp)
  injection e with e; omega
 ·obtain ⟨k, e, hk⟩ := h2 (.int (-1)) (by simp)
  injection e with e; omega
 ·simp at h3
 ·obtain ⟨k, e, hk⟩ := h2 .non (by simp)
  cases e
 ·obtain ⟨k, e, hk⟩ := h2 (.str _) (List.mem_cons_of_mem _ List.mem_cons_self)
  cases e
 ·obtain ⟨k, e, hk⟩ := h2 (.bl false) (by simp)
  cases e
 ·obtain ⟨k, e, hk⟩ := h2 _ List.mem_cons_self
  injection e with e
  have : (10 : Int) ^ Int.toNat 18 = 1000000000000000000 := by decide
  rw [this] at e
  omega
 ·obtain ⟨k, e, hk⟩ := h2 _ List.mem_cons_self
  cases e
structure QsM (M0 M : MH) (b : Addr) (N : Nat) (zs : List (Addr × List Dat)) : Prop where
 sb : SB M0 M b N
 nd : (zs.map (·.1)).Nodup
 at_ : ∀ z ∈ zs, M z.1 = some (.lst (z.2.map .d)) /\ M0 z.1 = none
theorem QsM.go {M0 M M' : MH} {b : Addr} {N N' : Nat} {zs : List (Addr × List Dat)} (h : QsM M0 M b N zs) (t : BxS M M' b N') : QsM M0 M' b N' zs :=
 ⟨h.sb.go t, h.nd, fun z hz => ⟨(t.at fun e => h.sb.b0 (by rw [<- e]; exact (h.at_ z hz).2)).trans (h.at_ z hz).1, (h.at_ z hz).2⟩⟩
theorem QsM.new {M0 M : MH} {b p : Addr} {N : Nat} {zs : List (Addr × List Dat)} (h : QsM M0 M b N zs) (hp : M p = none) (o : MO) : QsM M0 (mup M p o) b N zs := by
 obtain ⟨p0, pb⟩ := h.sb.new hp
 refine ⟨h.sb.put p0 pb o, h.nd, fun z hz => ⟨?_, (h.at_ z hz).2⟩⟩
 rw [zu (fun e => by rw [<- e, (h.at_ z hz).1] at hp; cases hp)]
 exact (h.at_ z hz).1
theorem QsM.snoc {M0 M : MH} {b q : Addr} {N : Nat} {zs : List (Addr × List Dat)} (h : QsM M0 M b N zs) (hq : M q = none) (d : List Dat) : QsM M0 (mup M q (.lst (d.map .d))) b N (zs ++ [(q, d)]) := by
 have k := h.new hq (.lst (d.map .d))
 refine ⟨k.sb, ?_, fun z hz => ?_⟩
 ·rw [List.map_append]
  refine List.nodup_append.mpr ⟨h.nd, by simp, fun a ha c hc e => ?_⟩
  obtain ⟨z, hz, rfl⟩ := List.mem_map.mp ha
  rw [List.map_singleton, List.mem_singleton] at hc
  have := (h.at_ z hz).1
  rw [e, hc, hq] at this
  cases this
 ·rcases List.mem_append.mp hz with hz | hz
  ·exact k.at_ z hz
  ·rw [List.mem_singleton.mp hz]
   exact ⟨zk, (h.sb.new hq).1⟩
theorem QsM.set {M0 M : MH} {b : Addr} {N j : Nat} {zs : List (Addr × List Dat)} {z : Addr × List Dat} (h : QsM M0 M b N zs) (hj : zs[j]? = some z) (d : List Dat) : QsM M0 (mup M z.1 (.lst (d.map .d))) b N (zs.set j (z.1, d)) /\ (zs.set j (z.1, d)).map (fun y => AV.ref y.1) = zs.map fun y => AV.ref y.1 := by
 have hz := List.mem_of_getElem? hj
 have hlt := (List.getElem?_eq_some_iff.mp hj).1
 have ef : ∀ {β : Type} (f : Addr -> β), (zs.set j (z.1, d)).map (fun y => f y.1) = zs.map fun y => f y.1 := fun f => by
  refine List.ext_getElem? fun i => ?_
  rw [List.getElem?_map, List.getElem?_map]
  by_cases c : j = i
  ·subst c; rw [List.getElem?_set_self hlt, hj]; rfl
  ·rw [List.getElem?_set_ne c]
 refine ⟨⟨h.sb.put (h.at_ z hz).2 (fun e => h.sb.b0 (by rw [<- e]; exact (h.at_ z hz).2)) _, (ef id).symm ▸ h.nd, fun y hy => ?_⟩, ef AV.ref⟩
 obtain ⟨i, hi⟩ := List.getElem?_of_mem hy
 by_cases c : j = i
 ·subst c
  rw [List.getElem?_set_self hlt] at hi
  cases hi
  exact ⟨zk, (h.at_ z hz).2⟩
 ·rw [List.getElem?_set_ne c] at hi
  have hy' := List.mem_of_getElem? hi
  refine ⟨?_, (h.at_ y hy').2⟩
  rw [zu, (h.at_ y hy').1]
  intro e
  have a1 : (zs.map (·.1))[i]? = some y.1 := by rw [List.getElem?_map, hi]; rfl
  have a2 : (zs.map (·.1))[j]? = some y.1 := by rw [List.getElem?_map, hj, e]; rfl
  exact c ((List.getElem?_inj (List.getElem?_eq_some_iff.mp a2).1 h.nd).mp (a2.trans a1.symm))
theorem ZC {M0 M M' : MH} {b p : Addr} {N : Nat} {ys : List (AV × List Dat)} (b0 : M0 b ≠ none) (hp : M p = some (.lst (ys.map (·.1)))) (p0 : M0 p = none) (hy : ∀ y ∈ ys, y.1 = .d (.lst y.2) \/ ∃ q, y.1 = .ref q /\ M q = some (.lst (y.2.map .d)) /\ M0 q = none) (t : BxS M0 M' b N) : Dee M M' (.ref p) (.lst (ys.map fun y => .lst y.2)) := by
 have no : ∀ q, M0 q = none -> M' q = none := fun q h => (t.at fun e => b0 (by rw [<- e]; exact h)).trans h
 refine Dee.lst hp (no p p0) (by rw [List.length_map, List.length_map]) fun i a c ha hc => ?_
 rw [List.getElem?_map] at ha hc
 cases e : ys[i]? with
 | none => rw [e] at ha; cases ha
 | some y =>
  rw [e] at ha hc
  cases ha; cases hc
  show Dee M M' y.1 (.lst y.2)
  rcases hy y (List.mem_of_getElem? e) with z | ⟨q, z, h1, h2⟩
  ·rw [z]; exact .d
  ·rw [z]
   refine Dee.lst h1 (no q h2) (by rw [List.length_map]) fun i a c ha hc => ?_
   rw [List.getElem?_map, hc] at ha
   cases ha
   exact .d
theorem Qd {n : Nat} {ls : List (List Dat)} {l : List Dat} (hl : l ∈ ls) (h : ¬ (2 <= l.length /\ (∀ d ∈ l, ∃ k : Nat, d = .int k /\ k < n) /\ l.Nodup)) : zR obs (ob0 n) ls = none :=
 QG fun z => h ⟨(z.1 l hl).1, (z.1 l hl).2, (List.pairwise_flatten.mp z.2).1 l hl⟩
theorem KO {n : Nat} {ls : List (List Dat)} {l : List Dat} (hl : l ∈ ls) (h : 2 <= l.length) : zR obs (ob0 n) (ls ++ [l]) = none := QG fun z => by
 have := z.2
 rw [List.flatten_append, List.flatten_singleton] at this
 obtain ⟨d, hd⟩ : ∃ d, d ∈ l := ⟨l[0], List.getElem_mem (by omega)⟩
 exact (List.nodup_append.mp this).2.2 d (List.mem_flatten.mpr ⟨l, hl, hd⟩) d hd rfl
theorem Wg {a b : Prop} [Decidable a] [Decidable b] {X Y : Prop} (h : if a \/ b then X else Y) : if a then X else if b then X else Y := by
 by_cases c : a
 ·rw [if_pos (.inl c)] at h; rw [if_pos c]; exact h
 ·by_cases d : b
  ·rw [if_pos (.inr d)] at h; rw [if_neg c, if_pos d]; exact h
  ·rw [if_neg (fun z => z.elim c d)] at h; rw [if_neg c, if_neg d]; exact h
theorem V6 {α : Type} {l : List α} {k : Nat} {x y : α} (h : y ∈ l.take k ++ x :: l.drop k) : y = x \/ y ∈ l := by
 rcases List.mem_append.mp h with z | z
 ·exact .inr (List.mem_of_mem_take z)
 ·rcases List.mem_cons.mp z with z | z
  ·exact .inl z
  ·exact .inr (List.mem_of_mem_drop z)
noncomputable def W7 : ASp := fun xs M Q => ∃ (b : Addr) (N n : Nat) (rs : List (List Int)), xs = [.ref b, .d (.int n), .d (.lst (rs.map ilD))] /\ BxM M b N /\ N < 100000 /\ n <= 200 /\ rs.length <= 200 /\ (∀ r ∈ rs, 2 <= r.length /\ r.length <= 200 /\ ∀ x ∈ r, 0 <= x /\ x < n) /\
 ∀ (ls : List (List Dat)) M', BxS M M' b (N + 5) -> zR obs (ob0 n) ls = none -> ls.length <= 201 -> (∀ l ∈ ls, l.length <= 201 /\ ∀ d ∈ l, BtD d) -> Q (.d (.lst (ls.map .lst))) M'
noncomputable abbrev yb : Stmt := top 28
theorem vi : zA ["_law_box_here", "_law_n", "_law_rings_told", "_law_bad", "_law_made", "_law_way", "_law_at", "_law_ring"] ["_law_box_here", "_law_n", "_law_rings_told"] (zj yb) := ⟨rfl, rfl, rfl, by decide +kernel, rfl, by decide +kernel, by decide +kernel⟩
theorem Ki (a : At K mg "_law_bent" yb) (B : Blt mg) (D_law_take : Df P w K mg base "_law_take" ["_law_box_here", "_law_many"] 1 (cSp YN)) : Df P w K mg base "_law_bent" ["_law_box_here", "_law_n", "_law_rings_told"] 2 (cSp W7) := by
 refine dfA (k := 1) a vi (fun _ _ _ _ _ _ us hl => match us, hl with | [_, _, _], _ => rfl) (fun xs M Q h => ?_) (fun f cdv A outer s H E hr => ?_)
 ·obtain ⟨_, _, _, _, rfl, _⟩ := h; rfl
 have sc := vi
 have hsl := hsl
 refine' ⟨_, ?q0, ?qr⟩
 (case q0 =>
  refine' zc ?q1 ?q2
  (case q1 =>
   refine' zy (i := 3) ?q3 ?q4 ?q5 ?q6
   (case q3 => exact sc.nd)
   (case q4 => exact rfl)
   (case q5 => exact (by first | exact Or.inl rfl | exact Or.inr rfl))
   (case q6 =>
    refine' zP ?q7
    (case q7 =>
     refine' za ?q8 ?q9
     (case q8 => exact (zP zb))
     (case q9 =>
      refine' za ?q10 ?q11
      (case q10 => exact (zP (za zd zb)))
      (case q11 =>
       refine' za ?q12 ?q13
       (case q12 => exact (zP (za zd (za (pv 1) zb))))
       (case q13 =>
        refine' za ?q14 ?q15
        (case q14 => exact (zP (za (Xf ZU zd) (za zd zb))))
        (case q15 =>
         refine' za ?q16 ?q17
         (case q16 => exact (zP (za zd (za zd zb))))
         (case q17 =>
          refine' za ?q18 ?q19
          (case q18 => exact (zP (za Qh (za zd zb))))
          (case q19 =>
           refine' za ?q20 ?q21
           (case q20 => exact (zP (za zd (za vU zb))))
           (case q21 =>
            refine' za ?q22 ?q23
            (case q22 => exact (zP (za jr (za (zm jA zd (zp kP rfl B.int yw (za (j5 Zi (pv 1) zd (zJ _)) zb))) zb))))
            (case q23 =>
             refine' za ?q24 ?q25
             (case q24 => exact (zP (za (zm YZ zd zd) (za zd zb))))
             (case q25 =>
              refine' za ?q26 ?q27
              (case q26 => exact (zP (za (zP (za zd zb)) (za zd zb))))
              (case q27 => exact zb)))))))))))))
  (case q2 => exact (zc (BF (QB (j := 4) rfl sc.nd rfl (by first | exact Or.inl rfl | exact Or.inr rfl) (ts := [7]) rfl (yV (pv 2)) (fun _ _ _ _ => (zE (i := 7) sc.nd rfl (by first | exact Or.inl rfl | exact Or.inr rfl))) (fun _ _ _ _ => jP) (fun _ _ _ _ => (v7 (zp (yz (K := K) rfl) rfl B.list qi (za (pv 7) zb)))))) (zc (zy (i := 5) sc.nd rfl (by first | exact Or.inl rfl | exact Or.inr rfl) (zD D_law_take hr rfl (za (pv 0) (za zd zb)))) (zc (qc (PW.pt (yG (zI (VV (K := K) rfl hr.units) (pv 4) (zP zb) (zJ _)) (kK (zI (xb hr.units) (pv 5) zd (zJ _))))) (zc (qp (xk PySem.F.plainAttrs_list PySem.F.slot_list_insert PySem.F.type_list_insert xj (pv 4) (za (zD D_law_take hr rfl (za (pv 0) (za (zm zK (zl zn rfl B.len zV (za (pv 4) zb)) zd) zb))) (za (zQ jq (pv 3) (zD D_law_take hr rfl (za (pv 0) (za zd zb))) (fun _ _ => rfl)) zb)))) (zi (zx (pv 4)))) zF) (zc (zy (i := 6) sc.nd rfl (by first | exact Or.inl rfl | exact Or.inr rfl) (zD D_law_take hr rfl (za (pv 0) (za (zl zn rfl B.len zV (za (pv 4) zb)) zb)))) (zc (qc (zI (xb hr.units) (pv 5) zd (zJ _)) (zi (qp (xk PySem.F.plainAttrs_list PySem.F.slot_list_append PySem.F.type_list_append qX (pv 4) (za (zp je rfl B.list qi (za (zQ jq (pv 4) (pv 6) (fun _ _ => rfl)) zb)) zb)))) zF) (zc (qc (zI (xb hr.units) (pv 5) zd (zJ _)) (zi (qp (xk PySem.F.plainAttrs_list PySem.F.slot_list_append PySem.F.type_list_append qX (zQ jq (pv 4) (pv 6) (fun _ _ => rfl)) (za (zQ jq (zQ jq (pv 4) (pv 6) (fun _ _ => rfl)) (zD D_law_take hr rfl (za (pv 0) (za (zl zn rfl B.len zV (za (zQ jq (pv 4) (pv 6) (fun _ _ => rfl)) zb)) zb))) (fun _ _ => rfl)) zb)))) zF) (zc (qc (zI (xb hr.units) (pv 5) zd (zJ _)) (zi (jc (zQ jq (zP (za (pv 1) (za (Xf ZU zd) (za jr (za Qh (za (zm zK (pv 1) zd) zb)))))) (zD D_law_take hr rfl (za (pv 0) (za zd zb))) (fun _ _ => rfl)) (qV (zQ jq (pv 4) (pv 6) (fun _ _ => rfl)) (zD D_law_take hr rfl (za (pv 0) (za (zl zn rfl B.len zV (za (zQ jq (pv 4) (pv 6) (fun _ _ => rfl)) zb)) zb))) qa))) zF) (zi (zx (pv 4))))))))))))
 refine ex2 (by walk_at "sim") ?_
 rintro xs M Q ⟨b, N, n, rs, rfl, hb, hN, hn, hl, hr2, q⟩
 rw [show qz ["_law_box_here", "_law_n", "_law_rings_told", "_law_bad", "_law_made", "_law_way", "_law_at", "_law_ring"] [.ref b, .d (.int n), .d (.lst (rs.map ilD))] = [some (.ref b), some (.d (.int n)), some (.d (.lst (rs.map ilD))), none, none, none, none, none] from rfl]
 refine zv fun r hr0 => ?_
 walk_at "ra"
 refine ⟨by omega, by omega, by omega, by omega, by omega, by omega, by omega, ⟨by decide, by decide, by decide⟩, by omega, by omega, by omega, by omega, ?_⟩
 subst hr0
 refine zv fun r hr0 => ?_
 walk_at "ra"
 refine ⟨fun i acc ρ M' => ∃ (u : Option AV) (zs : List (Addr × List Dat)), ρ = [some (.ref b), some (.d (.int n)), some (.d (.lst (rs.map ilD))), some (.d (.lst ((J4 n).map .lst))), none, none, none, u] /\ acc = zs.map (fun z => AV.ref z.1) /\ QsM M M' b N zs /\ zs.map (·.2) = (rs.take i).map (fun r => r.map .int), ⟨none, [], rfl, rfl, ⟨SB.refl hb, .nil, by simp⟩, rfl⟩, ?_, ?_⟩
 ·rintro i y acc ρ M' hy ⟨u, zs, rfl, rfl, hq, hz⟩
  rw [List.getElem?_map, List.getElem?_map] at hy
  cases e : rs[i]? with
  | none => rw [e] at hy; cases hy
  | some g =>
   rw [e] at hy
   cases hy
   have hi := (List.getElem?_eq_some_iff.mp e).1
   refine ⟨trivial, ?_⟩
   walk_at "ra"
   intro q hq0 _
   have lz : zs.length = i := by
    have := congrArg List.length hz
    rw [List.length_map, List.length_map, List.length_take] at this
    omega
   refine ⟨by omega, zs ++ [(q, g.map .int)], by rw [List.map_append]; rfl, ?_, ?_⟩
   ·have := hq.snoc hq0 (g.map .int)
    rw [Jg] at this
    exact this
   ·rw [List.map_append, hz, List.take_succ, e, List.map_append]; rfl
 ·rintro acc ρ M' ⟨u, zs, rfl, rfl, hq, hz⟩
  refine ⟨trivial, ?_⟩
  rw [List.length_map, List.length_map, List.take_length] at hz
  dsimp only
  intro p _ hp
  subst hr0
  refine zv fun r hr0 => ?_
  walk_at "ra"
  have lz : zs.length = rs.length := by simpa using congrArg List.length hz
  obtain ⟨p0, pb⟩ := hq.sb.new hp
  have pz : ∀ z ∈ zs, z.1 ≠ p := fun z h e => by have := (hq.at_ z h).1; rw [e, hp] at this; cases this
  have hq := hq.new hp (.lst (zs.map fun z => AV.ref z.1))
  have hm := zk (M := M') (a := p) (o := .lst (zs.map fun z => AV.ref z.1))
  generalize mup M' p (.lst (zs.map fun z => AV.ref z.1)) = M1 at *
  refine ⟨b, 4, _, rfl, hq.sb.bx, by omega, by omega, by omega, fun way M2 s2 w0 w1 => ?_⟩
  have hq := hq.go s2
  have hm := (s2.at pb).trans hm
  subst hr0
  refine zv fun r hr0 => ?_
  walk_at "ra"
  have hrl : ∀ z ∈ zs, 2 <= z.2.length /\ z.2.length <= 200 /\ ∀ d ∈ z.2, BtD d := fun z h => by
   have : z.2 ∈ zs.map (·.2) := List.mem_map_of_mem h
   rw [hz] at this
   obtain ⟨g, hg, e⟩ := List.mem_map.mp this
   obtain ⟨g1, g2, g3⟩ := hr2 g hg
   rw [<- e, List.length_map]
   refine ⟨g1, g2, fun d hd => ?_⟩
   obtain ⟨x, hx, rfl⟩ := List.mem_map.mp hd
   have := g3 x hx
   exact qD (Nat.lt_of_le_of_lt (show _ <= 200 by omega) (by decide))
  have hys : ∀ z ∈ zs, ((AV.ref z.1, z.2) : AV × List Dat).1 = .d (.lst z.2) \/ ∃ q, ((AV.ref z.1, z.2) : AV × List Dat).1 = .ref q /\ M2 q = some (.lst (z.2.map .d)) /\ M q = none := fun z h => .inr ⟨_, rfl, hq.at_ z h⟩
  refine ⟨_, qq hm, Wg ?_⟩
  by_cases c : (zs.map fun z => AV.ref z.1).isEmpty = true \/ way = 0
  ·rw [if_pos c]
   refine ⟨⟨_, qq hm⟩, _, zM hm, b, (zs.length : Int) + 1, _, by rw [List.length_map], hq.sb.bx, by omega, by omega, by omega, fun k M3 s3 k0 k1 => ?_⟩
   obtain ⟨k, rfl⟩ : ∃ z : Nat, k = z := ⟨k.toNat, by omega⟩
   have hq := hq.go s3
   refine ⟨b, 10, _, rfl, hq.sb.bx, by omega, by omega, by omega, fun j M4 s4 j0 j1 => ?_⟩
   have hq := hq.go s4
   have hm := (s4.at pb).trans ((s3.at pb).trans hm)
   obtain ⟨d, hd, ed⟩ := A4 (l := (J4 n).map .lst) (i := j) j0 j1
   obtain ⟨l, hl2, rfl⟩ := List.mem_map.mp hd
   obtain ⟨l1, l2⟩ := Dx hn l hl2
   refine ⟨_, rfl, _, ed, _, _, rfl, hm, by omega, by rw [List.length_map]; omega, by rw [List.length_map]; omega, ?_⟩
   rw [Int.toNat_natCast]
   have e : ((zs.map fun z => AV.ref z.1).take k ++ AV.d (.lst l) :: (zs.map fun z => AV.ref z.1).drop k) = ((zs.map fun z => (AV.ref z.1, z.2)).take k ++ (AV.d (.lst l), l) :: (zs.map fun z => (AV.ref z.1, z.2)).drop k).map (·.1) := by
    rw [List.map_append, List.map_cons, List.map_take, List.map_drop, List.map_map]; rfl
   rw [e]
   have hbt : ∀ y ∈ ((zs.map fun z => (AV.ref z.1, z.2)).take k ++ (AV.d (.lst l), l) :: (zs.map fun z => (AV.ref z.1, z.2)).drop k), (y.2.length <= 201 /\ ∀ d ∈ y.2, BtD d) /\ (y.1 = .d (.lst y.2) \/ ∃ q, y.1 = .ref q /\ mup M4 p (.lst (((zs.map fun z => (AV.ref z.1, z.2)).take k ++ (AV.d (.lst l), l) :: (zs.map fun z => (AV.ref z.1, z.2)).drop k).map (·.1))) q = some (.lst (y.2.map .d)) /\ M q = none) := fun y hy => by
    rcases V6 hy with rfl | hy
    ·exact ⟨⟨Nat.le_trans l1 (by decide), l2⟩, .inl rfl⟩
    ·obtain ⟨z, hz, rfl⟩ := List.mem_map.mp hy
     obtain ⟨z1, z2, z3⟩ := hrl z hz
     exact ⟨⟨Nat.le_trans z2 (by decide), z3⟩, .inr ⟨_, rfl, by rw [zu (pz z hz)]; exact (hq.at_ z hz).1, (hq.at_ z hz).2⟩⟩
   refine SB.dee ((hq.sb.put p0 pb _).mono (show _ <= N + 5 by omega)) (fun M' t => ZC hq.sb.b0 zk p0 (fun y hy => (hbt y hy).2) t) fun M' t => ?_
   have := q (((zs.map fun z => (AV.ref z.1, z.2)).take k ++ (AV.d (.lst l), l) :: (zs.map fun z => (AV.ref z.1, z.2)).drop k).map (·.2)) M' t (Qd (l := l) ?_ (BA hn l hl2)) ?_ ?_
   ·rw [List.map_map] at this; exact this
   ·exact List.mem_map.mpr ⟨(AV.d (.lst l), l), by simp, rfl⟩
   ·rw [List.length_map, List.length_append, List.length_cons, List.length_take, List.length_drop, List.length_map]; omega
   ·intro l' hl'
    obtain ⟨y, hy, rfl⟩ := List.mem_map.mp hl'
    exact (hbt y hy).1
  ·rw [if_neg c]
   have ne : zs.length ≠ 0 := fun z => c (.inl (by rw [List.length_eq_zero_iff.mp z]; rfl))
   have w0' : way ≠ 0 := fun z => c (.inr z)
   subst hr0
   refine zv fun r hr0 => ?_
   walk_at "ra"
   refine ⟨_, zM hm, b, zs.length, _, by rw [List.length_map], hq.sb.bx, by omega, by omega, by omega, fun at_ M3 s3 a0 a1 => ?_⟩
   obtain ⟨at_, rfl⟩ : ∃ z : Nat, at_ = z := ⟨at_.toNat, by omega⟩
   have hq := hq.go s3
   have hm := (s3.at pb).trans hm
   clear hys
   have ha : at_ < zs.length := by omega
   have hz1 : zs[at_]? = some zs[at_] := List.getElem?_eq_getElem ha
   generalize zs[at_] = z1 at hz1
   have hzm := List.mem_of_getElem? hz1
   obtain ⟨z1a, z1b, z1c⟩ := hrl z1 hzm
   have az : atI (zs.map fun z => AV.ref z.1) (at_ : Int) = some (.ref z1.1) := by
    unfold atI
    rw [jl (by omega) (by rw [List.length_map]; omega), Int.toNat_natCast]
    show (zs.map fun z => AV.ref z.1)[at_]? = _
    rw [List.getElem?_map, hz1]; rfl
   have hz1m := (hq.at_ z1 hzm).1
   have fin : ∀ (M9 : MH) (zs' : List (Addr × List Dat)) (N' : Nat), QsM M M9 b N' zs' -> N' <= N + 5 -> M9 p = some (.lst (zs'.map fun z => AV.ref z.1)) -> zR obs (ob0 n) (zs'.map (·.2)) = none -> zs'.length <= 201 -> (∀ z ∈ zs', z.2.length <= 201 /\ ∀ d ∈ z.2, BtD d) -> rtA M Q (.ref p) M9 := fun M9 zs' N' hq hN' hm hf hl' hb' => by
    have e : (zs'.map fun z => AV.ref z.1) = (zs'.map fun z => (AV.ref z.1, z.2)).map (·.1) := by rw [List.map_map]; rfl
    rw [e] at hm
    refine SB.dee (hq.sb.mono hN') (fun M' t => ZC hq.sb.b0 hm p0 (fun y hy => ?_) t) fun M' t => ?_
    ·obtain ⟨z, hz, rfl⟩ := List.mem_map.mp hy
     exact .inr ⟨_, rfl, hq.at_ z hz⟩
    ·rw [List.map_map]
     have := q (zs'.map (·.2)) M' t hf (by rw [List.length_map]; exact hl') (fun l hl => by obtain ⟨z, hz, rfl⟩ := List.mem_map.mp hl; exact hb' z hz)
     rw [List.map_map] at this
     exact this
   have bset : ∀ (d' : List Dat), d'.length <= 201 -> (∀ d ∈ d', BtD d) -> ∀ z ∈ zs.set at_ (z1.1, d'), z.2.length <= 201 /\ ∀ d ∈ z.2, BtD d := fun d' h1 h2 z hz => by
    rcases List.mem_or_eq_of_mem_set hz with hz | rfl
    ·obtain ⟨_, b2, b3⟩ := hrl z hz; exact ⟨Nat.le_trans b2 (by decide), b3⟩
    ·exact ⟨h1, h2⟩
   have mset : ∀ (d' : List Dat), d' ∈ (zs.set at_ (z1.1, d')).map (·.2) := fun d' => List.mem_map.mpr ⟨(z1.1, d'), List.mem_set ha _, rfl⟩
   subst hr0
   obtain rfl | rfl | rfl : way = 1 \/ way = 2 \/ way = 3 := by omega
   ·walk_at "ra"
    refine ⟨⟨_, qq hm⟩, _, zM hm, _, az, _, zM hz1m, _, zZ _, _, hm, by rw [List.length_map]; omega, ?_⟩
    rw [if_neg (by decide), if_neg (by decide)]
    have e : ((zs.map fun z => AV.ref z.1) ++ [AV.d (.lst z1.2)]) = ((zs.map fun z => (AV.ref z.1, z.2)) ++ [(AV.d (.lst z1.2), z1.2)]).map (·.1) := by
     rw [List.map_append, List.map_map]; rfl
    rw [e]
    have hbt : ∀ y ∈ ((zs.map fun z => (AV.ref z.1, z.2)) ++ [(AV.d (.lst z1.2), z1.2)]), (y.2.length <= 201 /\ ∀ d ∈ y.2, BtD d) /\ (y.1 = .d (.lst y.2) \/ ∃ q, y.1 = .ref q /\ mup M3 p (.lst (((zs.map fun z => (AV.ref z.1, z.2)) ++ [(AV.d (.lst z1.2), z1.2)]).map (·.1))) q = some (.lst (y.2.map .d)) /\ M q = none) := fun y hy => by
     rcases List.mem_append.mp hy with hy | hy
     ·obtain ⟨z, hz, rfl⟩ := List.mem_map.mp hy
      obtain ⟨_, b2, b3⟩ := hrl z hz
      exact ⟨⟨Nat.le_trans b2 (by decide), b3⟩, .inr ⟨_, rfl, by rw [zu (pz z hz)]; exact (hq.at_ z hz).1, (hq.at_ z hz).2⟩⟩
     ·rw [List.mem_singleton.mp hy]
      exact ⟨⟨Nat.le_trans z1b (by decide), z1c⟩, .inl rfl⟩
    refine SB.dee ((hq.sb.put p0 pb _).mono (show _ <= N + 5 by omega)) (fun M' t => ZC hq.sb.b0 zk p0 (fun y hy => (hbt y hy).2) t) fun M' t => ?_
    have := q (((zs.map fun z => (AV.ref z.1, z.2)) ++ [(AV.d (.lst z1.2), z1.2)]).map (·.2)) M' t ?_ ?_ ?_
    ·rw [List.map_map] at this; exact this
    ·rw [List.map_append, List.map_map]
     exact KO (List.mem_map.mpr ⟨z1, hzm, rfl⟩) z1a
    ·rw [List.length_map, List.length_append, List.length_map, List.length_singleton]; omega
    ·intro l' hl'
     obtain ⟨y, hy, rfl⟩ := List.mem_map.mp hl'
     exact (hbt y hy).1
   ·walk_at "ra"
    rw [if_neg (by decide)]
    refine ⟨_, zM hm, _, az, ⟨_, qq hz1m⟩, _, zM hm, _, az, _, zM hm, _, az, _, zM hz1m, b, z1.2.length, _, by rw [List.length_map], hq.sb.bx, by omega, by omega, by omega, fun j M4 s4 j0 j1 => ?_⟩
    have hq := hq.go s4
    have hm := (s4.at pb).trans hm
    have hz1m := (hq.at_ z1 hzm).1
    obtain ⟨d, hd, ed⟩ := A4 j0 j1
    refine ⟨_, zM hz1m, _, rfl, _, ed, _, rfl, _, hz1m, by rw [List.length_map]; omega, ?_⟩
    rw [if_neg (by decide)]
    rw [show z1.2.map AV.d ++ [AV.d d] = (z1.2 ++ [d]).map .d by rw [List.map_append]; rfl]
    obtain ⟨hq', he⟩ := hq.set hz1 (z1.2 ++ [d])
    refine fin _ _ _ hq' (by omega) (by rw [zu (Ne.symm (pz z1 hzm)), he]; exact hm) (Qd (mset _) fun z => ?_) (by rw [List.length_set]; omega) (bset _ (by rw [List.length_append, List.length_singleton]; omega) fun x hx => ?_)
    ·exact (List.nodup_append.mp z.2.2).2.2 d hd d (by simp) rfl
    ·rcases List.mem_append.mp hx with hx | hx
     ·exact z1c x hx
     ·rw [List.mem_singleton.mp hx]; exact z1c d hd
   ·walk_at "ra"
    rw [if_neg (by decide), if_neg (by decide)]
    refine ⟨by omega, b, 5, _, rfl, hq.sb.bx, by omega, by omega, by omega, fun j M4 s4 j0 j1 => ?_⟩
    have hq := hq.go s4
    have hm := (s4.at pb).trans hm
    have hz1m := (hq.at_ z1 hzm).1
    obtain ⟨d, hd, ed⟩ := A4 (l := [.int n, .int (-1), .bl true, .non, .int ((n : Int) + 5)]) (i := j) j0 j1
    refine ⟨_, rfl, _, ed, _, zM hm, _, az, _, zM hm, _, az, _, zM hz1m, b, z1.2.length, _, by rw [List.length_map], hq.sb.bx, by omega, by omega, by omega, fun i M5 s5 i0 i1 => ?_⟩
    have hq := hq.go s5
    have hm := (s5.at pb).trans hm
    have hz1m := (hq.at_ z1 hzm).1
    have dbad : BtD d /\ ¬ ∃ k : Nat, d = .int k /\ k < n := by
     simp only [List.mem_cons, List.not_mem_nil, or_false] at hd
     rcases hd with rfl | rfl | rfl | rfl | rfl
     ·exact ⟨qD (Nat.lt_of_le_of_lt (show _ <= 200 by omega) (by decide)), fun ⟨k, e, hk⟩ => by injection e with e; omega⟩
     ·exact ⟨qD (by decide), fun ⟨k, e, hk⟩ => by injection e with e; omega⟩
     ·exact ⟨⟨⟨by decide +kernel, by decide +kernel⟩, by decide +kernel⟩, fun ⟨k, e, hk⟩ => by cases e⟩
     ·exact ⟨⟨⟨by decide +kernel, by decide +kernel⟩, by decide +kernel⟩, fun ⟨k, e, hk⟩ => by cases e⟩
     ·exact ⟨qD (Nat.lt_of_le_of_lt (show _ <= 205 by omega) (by decide)), fun ⟨k, e, hk⟩ => by injection e with e; omega⟩
    refine ⟨_, rfl, _, _, rfl, hz1m, i.toNat, jl i0 (by rw [List.length_map]; exact i1), ?_⟩
    rw [<- List.map_set]
    obtain ⟨hq', he⟩ := hq.set hz1 (z1.2.set i.toNat d)
    refine fin _ _ _ hq' (by omega) (by rw [zu (Ne.symm (pz z1 hzm)), he]; exact hm) (Qd (mset _) fun z => dbad.2 (z.2.1 d (List.mem_set (by omega) _))) (by rw [List.length_set]; omega) (bset _ (by rw [List.length_set]; omega) fun x hx => ?_)
    rcases List.mem_or_eq_of_mem_set hx with hx | rfl
    ·exact z1c x hx
    ·exact dbad.1
theorem wg {ls : List (List Dat)} (h1 : ls.length <= 201) (h2 : ∀ l ∈ ls, l.length <= 201 /\ ∀ d ∈ l, BtD d) : Sh 5000000 (.lst (ls.map .lst)) /\ dp (.lst (ls.map .lst)) <= 40 := by
 refine ⟨(YE (n := 201) (b := 201 * 100 + 2 * 201 + 3) (by rw [List.length_map]; exact h1) fun x hx => ?_).mono (by omega), ?_⟩
 ·obtain ⟨l, hl, rfl⟩ := List.mem_map.mp hx
  exact YE (h2 l hl).1 fun d hd => ((h2 l hl).2 d hd).1
 ·rw [dp]
  have : dps (ls.map .lst) <= 31 := Kv fun d hd => by
   obtain ⟨l, hl, rfl⟩ := List.mem_map.mp hd
   rw [dp]
   have := Kv (l := l) (n := 30) fun d hd => ((h2 l hl).2 d hd).2
   omega
  omega
structure DH (K : PySem.W.Frag) (cT cR cD cP cW cN cO : Addr) : Prop where
 x : WI K cR
 t : PySem.W.exmOne K (.ref cR) (.ref cT) = some true
 o : PySem.W.kitAny K (.ref cR) [.ref cD, .ref cP, .ref cW, .ref cN, .ref cO] = some false
 i : PySem.W.kitAny K (.ref cR) [.ref cR] = some true
 v : PySem.W.kitAny K (.ref cR) [.type "ValueError"] = some true
noncomputable def Zm : ASp := fun xs M Q => ∃ (n : Nat) (ls : List (List Dat)), xs = [.d (.int n), .d (.lst (ls.map .lst))] /\ n <= 1000 /\ ls.length <= 201 /\ (∀ l ∈ ls, l.length <= 201 /\ ∀ d ∈ l, BtD d) /\ zR obs (ob0 n) ls = none /\ Q (.d (.bl true)) M
noncomputable abbrev j3 : Stmt := top 26
theorem xr : zA ["_law_n", "_law_rings_told", "_law_caught", "_law_kept", "error"] ["_law_n", "_law_rings_told"] (zj j3) := ⟨rfl, rfl, rfl, by decide +kernel, rfl, by decide +kernel, by decide +kernel⟩
theorem wl (a : At K mg "_law_refused" j3) (B : Blt mg) (BValueError : mg "ValueError" = none) {cTurnError : Addr} (XG_TurnError : mg "TurnError" = some (.ref cTurnError)) {cBadRing : Addr} (XG_BadRing : mg "BadRing" = some (.ref cBadRing)) {cBadDeed : Addr} (XG_BadDeed : mg "BadDeed" = some (.ref cBadDeed)) {cBadPlan : Addr} (XG_BadPlan : mg "BadPlan" = some (.ref cBadPlan)) {cBadRow : Addr} (XG_BadRow : mg "BadRow" = some (.ref cBadRow)) {cNoMatch : Addr} (XG_NoMatch : mg "NoMatch" = some (.ref cNoMatch)) {cNotDone : Addr} (XG_NotDone : mg "NotDone" = some (.ref cNotDone)) (DX_order_by : DfX P w K mg base "order_by" ["n", "rings_told"] 3 (yD (jN cBadRing))) (X2 : DH K cTurnError cBadRing cBadDeed cBadPlan cBadRow cNoMatch cNotDone) : Df P w K mg base "_law_refused" ["_law_n", "_law_rings_told"] 4 (cSp Zm) := by
 refine dfA (k := 3) a xr (fun _ _ _ _ _ _ us hl => match us, hl with | [_, _], _ => rfl) (fun xs M Q h => ?_) (fun f cdv A outer s H E hr => ?_)
 ·obtain ⟨_, _, rfl, _⟩ := h; rfl
 have sc := xr
 have hsl := hsl
 refine ⟨_, (zc (XC (i := 2) (j := 3) rfl sc.nd rfl rfl (by decide) rfl rfl (za Qh (za (zp (jQ hr.gd hr.units) rfl B.str vV (za (pv 1) zb)) zb)) rfl)
  (zc (Xx (K := K) (i := 4) rfl rfl rfl rfl sc.nd rfl rfl rfl XG_TurnError (fun pins xe Eh hP => (zi (qp (QR DX_order_by hr rfl hP (za (pv 0) (za (pv 1) zb)))))) (fun x => (zi (zy (i := 2) sc.nd rfl (by first | exact Or.inl rfl | exact Or.inr rfl) (pv 4)))))
  (zc (qc (PW.pt (yG (jf (Yk (K := K) rfl (pv 2) rfl B.isinstance (.own rfl XG_BadDeed (by decide) (.own rfl XG_BadPlan (by decide) (.own rfl XG_BadRow (by decide) (.own rfl XG_NoMatch (by decide) (.own rfl XG_NotDone (by decide) .nil))))) (Nat.le_trans (show _ <= 1000 by show 5 <= 1000; decide) (Nat.le_of_lt (vg (Nat.le_refl _))))) (fun _ => rfl)) (kK (zI (vw hr.units) (zp (jQ hr.gd hr.units) rfl B.str vV (za (pv 1) zb)) (pv 3) (zJ _))))) (zi (zx jr)) zF)
  (zi (zx (vD (Jc (K := K) rfl (pv 2) rfl B.isinstance (.own rfl XG_BadRing (by decide) .nil)) (Zz (Jc (K := K) rfl (pv 2) rfl B.isinstance (.blt rfl BValueError PyProof.Rows.Boot.«ValueError» (by decide) (by decide) .nil))))))))), ?_⟩
 refine ex2 (by walk_at "sim") ?_
 rintro xs M Q ⟨n, ls, rfl, hn, hl, hb, hf, q⟩
 rw [show qz ["_law_n", "_law_rings_told", "_law_caught", "_law_kept", "error"] [.d (.int n), .d (.lst (ls.map .lst))] = [some (.d (.int n)), some (.d (.lst (ls.map .lst))), none, none, none] from rfl]
 obtain ⟨s1, s2⟩ := wg hl hb
 refine zv fun r hr0 => ?_
 walk_at "ra"
 have hss : (pdD (Dat.lst (ls.map .lst))).shown.length <= sizeLine := by rw [sizeLine_eq]; exact Nat.le_trans s1.l (by decide)
 refine ⟨.inl ⟨_, rfl⟩, s2, s1.s, hss, ?_⟩
 subst hr0
 refine zv fun r hr0 => ?_
 walk_at "ra"
 refine ⟨n, .lst (ls.map .lst), ls.map .lst, ls, rfl, rfl, by rw [List.map_map]; exact List.map_congr_left fun l _ => rfl, hn, by omega, fun l h => ⟨by have := (hb l h).1; omega, fun d hd => by have := ((hb l h).2 d hd).2; omega⟩, fun st hst => absurd (hst.symm.trans hf) (by simp), fun _ => ⟨X2.t, fun z hz => ?_⟩⟩
 subst hr0
 walk_at "ra"
 refine ⟨_, ⟨_, zk⟩, X2.x, _, X2.o, ?_⟩
 rw [if_neg (by decide)]
 refine ⟨.inl ⟨_, rfl⟩, s2, s1.s, hss, ?_⟩
 refine ⟨_, ⟨_, zk⟩, X2.x, _, X2.i, ?_⟩
 rw [if_pos rfl]
 refine ⟨_, ⟨_, zk⟩, X2.x, _, X2.v, ?_⟩
 exact D9 (Fr.refl.mup hz _) q
noncomputable abbrev X3 : Stmt := top 29
theorem Xd : zA ["_law_script", "_law_cells", "_law_k", "_law_box_here", "_law_order_here", "_law_handed", "_law_kept", "_law_some", "_law_turn", "_law_found", "_law_ring"] ["_law_script"] (zj X3) := ⟨rfl, rfl, rfl, by decide +kernel, rfl, by decide +kernel, by decide +kernel⟩
noncomputable def Qu (K : PySem.W.Frag) : Sp := fun vs H Q _ => ∃ (a : Addr) (ns : List Int), vs = [.ref a] /\ SqL K H a (ns.map V.int) /\ ns.length <= 63 /\ ∀ H', Q (.bl true) H'
noncomputable def Ep (K : PySem.W.Frag) : ASp := fun xs M Q => ∃ ns : List Int, xs = [.d (.scr K ns)] /\ ns.length <= 63 /\ Q (.d (.bl true)) M
theorem sp_law (vs : List V) (H : Hp) (Q : VK) (E : XK) (h : Qu K vs H Q E) : cSp (Ep K) vs H Q E := by
 obtain ⟨a, ns, rfl, ha, hn, q⟩ := h
 refine ⟨[.d (.scr K ns)], fun _ => none, fun _ => False, fun x _ => x = .d (.bl true), ⟨(fun a o e => nomatch e), (fun a h => h rfl), fun a h => h.elim⟩, .cons (Wy (fun _ z => z) ha) .nil, ⟨ns, rfl, hn, rfl⟩, fun x M' v H' O' hx _ _ r => ?_⟩
 subst hx
 rw [jH r]
 exact q H'
theorem qx (os : List Int) : ∀ i, (zG os i).length <= i
 | 0 => by simp [zG]
 | i + 1 => by
  have := qx os i
  unfold zG
  rw [List.length_append]
  split
  ·rw [List.length_singleton]; omega
  ·rw [List.length_nil]; omega
theorem QO {M : MH} {q : Addr} {ds : List Dat} {n : Nat} (h : M q = some (.lst (ds.map .d))) : eqA M (n + 1) (.ref q) (.lst ds) :=
 .inr ⟨q, _, ds, rfl, h, rfl, by rw [List.length_map], fun i a b e1 e2 => by rw [List.getElem?_map, e2] at e1; cases e1; exact wv n⟩
theorem yR {n : Nat} {os : List Int} (h : os.length <= 1000) : wU (n + 1) (ilD os) := .lst (by rw [List.length_map]; exact h) fun d hd => by
 obtain ⟨i, _, rfl⟩ := List.mem_map.mp hd
 exact .int
noncomputable def tpA : AV -> AV
 | .d (.lst l) => .d (.tup l)
 | x => x
theorem AW (a : At K mg "law" X3) (B : Blt mg) (D_law_box : Df P w K mg base "_law_box" ["_law_script", "_law_k"] 19 (cSp DV)) (D_law_folded : Df P w K mg base "_law_folded" ["_law_script", "_law_many"] 19 (cSp (Jb K))) (D_law_length : Df P w K mg base "_law_length" ["_law_box_here", "_law_most"] 19 (cSp QT)) (D_law_order : Df P w K mg base "_law_order" ["_law_box_here", "_law_n"] 19 (cSp YL))
    (D_law_rings : Df P w K mg base "_law_rings" ["_law_order_here"] 19 (cSp Qv)) (D_law_turned : Df P w K mg base "_law_turned" ["_law_box_here", "_law_rings_told"] 19 (cSp Jj)) (D_law_same : Df P w K mg base "_law_same" ["_law_found", "_law_due"] 19 (cSp (kY 4))) {cBadRing : Addr} (DX_order_by_o : DfX P w K mg base "order_by" ["n", "rings_told"] 19 (yD (jN cBadRing))) (DX_order_by : DfX P w K mg base "order_by" ["n", "rings_told"] 19 (yD (jN cBadRing)))
    (D_law_bent : Df P w K mg base "_law_bent" ["_law_box_here", "_law_n", "_law_rings_told"] 19 (cSp W7)) (D_law_refused : Df P w K mg base "_law_refused" ["_law_n", "_law_rings_told"] 19 (cSp Zm)) :
    Df P w K mg base "law" ["_law_script"] 20 (cSp (Ep K)) := by
  refine dfA (k := 19) a Xd (fun _ _ _ _ _ _ us hl => match us, hl with | [_], _ => rfl) (fun xs M Q h => ?_) (fun f cdv A outer s H E hr => ?_)
  · obtain ⟨_, rfl, _⟩ := h; rfl
  have sc := Xd
  have hsl := hsl
  refine ⟨_, (zc (zy (i := 1) sc.nd rfl (by first | exact Or.inl rfl | exact Or.inr rfl) (zD D_law_folded hr rfl (za (pv 0) (za zd zb))))
    (zc (qA PassesOwn.never rfl (qh rfl B.range (za (zm zK (zl (Kb rfl) rfl B.min Dp (za zd (za (Vv (zl zn rfl B.len zV (za (pv 0) zb))) zb))) zd) zb)) (zE (i := 2) sc.nd rfl (by first | exact Or.inl rfl | exact Or.inr rfl)) (zc (zy (i := 3) sc.nd rfl (by first | exact Or.inl rfl | exact Or.inr rfl) (zD D_law_box hr rfl (za (pv 1) (za (pv 2) zb))))
    (zc (zy (i := 4) sc.nd rfl (by first | exact Or.inl rfl | exact Or.inr rfl) (zD D_law_order hr rfl (za (pv 3) (za (zD D_law_length hr rfl (za (pv 3) (za zd zb))) zb))))
    (zc (zy (i := 5) sc.nd rfl (by first | exact Or.inl rfl | exact Or.inr rfl) (zD D_law_turned hr rfl (za (pv 3) (za (zD D_law_rings hr rfl (za (pv 4) zb)) zb))))
    (zc (zy (i := 6) sc.nd rfl (by first | exact Or.inl rfl | exact Or.inr rfl) (zp (jQ hr.gd hr.units) rfl B.str vV (za (pv 5) zb)))
    (zc (qA PassesOwn.never rfl (yV (Qm (za (pv 5) (za (zp jT rfl B.tuple jw (za (kE (ts := [10]) rfl rfl (yV (pv 5)) (fun _ _ _ _ => (zE (i := 10) sc.nd rfl (by first | exact Or.inl rfl | exact Or.inr rfl))) (fun _ _ _ _ => jP) (fun _ _ _ _ => (zp (yd (K := K) rfl) rfl B.tuple jw (za (pv 10) zb)))) zb)) zb)))) (zE (i := 7) sc.nd rfl (by first | exact Or.inl rfl | exact Or.inr rfl)) (zi (qA PassesOwn.never rfl (qh rfl B.range (za zd zb)) (zE (i := 8) sc.nd rfl (by first | exact Or.inl rfl | exact Or.inr rfl)) (zc (zy (i := 9) sc.nd rfl (by first | exact Or.inl rfl | exact Or.inr rfl) (QR DX_order_by_o hr rfl Xs (za (zl zn rfl B.len zV (za (pv 4) zb)) (za (pv 7) zb))))
    (zc (qc (PW.pt (yG (xM (jf (zD D_law_same hr rfl (za (pv 9) (za (pv 4) zb))) (fun _ => rfl))) (kK (zI (vw hr.units) (zp (jQ hr.gd hr.units) rfl B.str vV (za (pv 5) zb)) (pv 6) (zJ _))))) (zi (zx jr)) zF)
    (zc (qp (Bk PySem.F.plainAttrs_list PySem.F.slot_list_reverse PySem.F.type_list_reverse ZQ (pv 9)))
    (zi (qp (xk PySem.F.plainAttrs_list PySem.F.slot_list_append PySem.F.type_list_append qX (pv 9) (za zd zb))))))))))
    (zc (qc (xM (jf (zD D_law_same hr rfl (za (QR DX_order_by_o hr rfl Xs (za (zl zn rfl B.len zV (za (pv 4) zb)) (za (zP zb) zb))) (za (zp (zT rfl) rfl B.list qi (za (zp qo rfl B.range qO (za (zl zn rfl B.len zV (za (pv 4) zb)) zb)) zb)) zb))) (fun _ => rfl))) (zi (zx jr)) zF)
    (zi (qc (xM (jf (zD D_law_refused hr rfl (za (zl zn rfl B.len zV (za (pv 4) zb)) (za (zD D_law_bent hr rfl (za (pv 3) (za (zl zn rfl B.len zV (za (pv 4) zb)) (za (pv 5) zb)))) zb))) (fun _ => rfl))) (zi (zx jr)) zF)))))))))
    (zi (zx jr)))), ?_⟩
  refine ex2 (by walk_at "sim") ?_
  rintro xs M Q ⟨ns, rfl, hn, q⟩
  rw [show qz ["_law_script", "_law_cells", "_law_k", "_law_box_here", "_law_order_here", "_law_handed", "_law_kept", "_law_some", "_law_turn", "_law_found", "_law_ring"] [.d (.scr K ns)] = [some (.d (.scr K ns)), none, none, none, none, none, none, none, none, none, none] from rfl]
  refine zv fun r hr0 => ?_
  walk_at "ra"
  refine ⟨8, ns, rfl, by omega, by omega, hn, fun cs lc => ?_⟩
  subst hr0
  refine zv fun r hr0 => ?_
  walk_at "ra"
  refine ⟨ns, rfl, by split <;> omega, by split <;> omega, ?_⟩
  refine ⟨fun i ρ M' => (∃ x2 x3 x4 x5 x6 x7 x8 x9 x10, ρ = [some (.d (.scr K ns)), some (.d (ilD cs)), x2, x3, x4, x5, x6, x7, x8, x9, x10]) /\ Fr M M', ⟨⟨_, _, _, _, _, _, _, _, _, rfl⟩, Fr.refl⟩, ?_, ?_⟩
  · rintro i y ρ M1 hy ⟨⟨x2, x3, x4, x5, x6, x7, x8, x9, x10, rfl⟩, f1⟩
    obtain ⟨hi, rfl⟩ := j9 hy
    have hi' : (i : Int) <= 100 := by
      have : (i : Int) < (if (ns.length : Int) < 8 then (ns.length : Int) else 8) + 1 := by omega
      split at this <;> omega
    refine ⟨trivial, ?_⟩
    rw [Int.zero_add, Int.mul_one]
    show yA _ _ _ _ _ _
    refine zv fun r2 hr2 => ?_
    walk_at "ra"
    refine ⟨_, i, cs, rfl, QC _ _, by omega, by omega, by omega, fun b o hb bx => ?_⟩
    have b0 := f1.non hb
    have f2 := f1.mup b0 o
    have sb := SB.refl bx
    generalize mup M1 b o = M2 at *
    subst hr2
    refine zv fun r2 hr2 => ?_
    walk_at "ra"
    refine ⟨b, 200, 0, rfl, sb.bx, by omega, by omega, by omega, fun n M3 s3 n0 n1 => ?_⟩
    have sb := sb.go s3
    obtain ⟨n, rfl⟩ : ∃ k : Nat, n = k := ⟨n.toNat, by omega⟩
    refine ⟨b, n, _, rfl, sb.bx, by omega, by omega, fun os M4 s4 ho => ?_⟩
    have sb := sb.go s4
    have lo := ho.1
    subst hr2
    refine zv fun r2 hr2 => ?_
    walk_at "ra"
    have g0 := ZI ho
    refine ⟨_, n, os, rfl, QC _ _, ho, by omega, b, _, zG os n, rfl, sb.bx, by omega, by have := qx os n; omega, fun r hr => by have := g0.len r hr; omega, fun rs M5 s5 h1 h2 h3 => ?_⟩
    have sb := sb.go s5
    have g := Jt g0 h1 h2
    have lrs := qx os n
    have sb := sb.mono (show _ <= 4000 by omega)
    obtain ⟨st, st1, st2⟩ := Wu ho g
    have bt : ∀ l ∈ dIs rs, l.length <= 201 /\ ∀ d ∈ l, BtD d := fun l hl => by
      obtain ⟨r, hr, rfl⟩ := List.mem_map.mp hl
      have := g.len r hr
      refine ⟨by rw [List.length_map]; omega, fun d hd => ?_⟩
      obtain ⟨x, hx, rfl⟩ := List.mem_map.mp hd
      have := g.bd r hr x hx
      exact qD (Nat.lt_of_le_of_lt (show _ <= 200 by omega) (by decide))
    obtain ⟨sh1, sh2⟩ := wg (ls := dIs rs) (by rw [List.length_map]; omega) bt
    have eil : rs.map ilD = (dIs rs).map .lst := by rw [List.map_map]; rfl
    rw [eil]
    have hss : (pdD (Dat.lst ((dIs rs).map .lst))).shown.length <= sizeLine := by rw [sizeLine_eq]; exact Nat.le_trans sh1.l (by decide)
    subst hr2
    refine zv fun r2 hr2 => ?_
    walk_at "ra"
    refine ⟨.inl ⟨_, rfl⟩, sh2, sh1.s, hss, ?_⟩
    subst hr2
    refine zv fun r2 hr2 => ?_
    walk_at "ra"
    refine A7 (fun (o : Option AV) => [some (.d (.scr K ns)), some (.d (ilD cs)), some (.d (.int i)), some (.ref b), some (.d (ilD os)), some (.d (.lst ((dIs rs).map .lst))), some (.d (.str (shD (.lst ((dIs rs).map .lst))))), x7, x8, x9, o]) tpA ⟨_, rfl⟩ trivial (by simp only [List.length_map]; omega) (fun o x Q hx q => ?_) fun o => ?_
    · obtain ⟨d, hd, rfl⟩ := List.mem_map.mp hx
      obtain ⟨l, hl, rfl⟩ := List.mem_map.mp hd
      walk_at "ra"
      exact q (some (AV.d (Dat.lst l)))
    · have etp : (((dIs rs).map Dat.lst).map AV.d).map tpA = ((dIs rs).map Dat.tup).map AV.d := by
        simp only [List.map_map]; exact List.map_congr_left fun _ _ => rfl
      refine ⟨(dIs rs).map .tup, by rw [etp]; exact zZ _, by omega, ?_⟩
      refine ⟨fun j ρ M' => (∃ x7 x8 x9 x10, ρ = [some (.d (.scr K ns)), some (.d (ilD cs)), some (.d (.int i)), some (.ref b), some (.d (ilD os)), some (.d (.lst ((dIs rs).map .lst))), some (.d (.str (shD (.lst ((dIs rs).map .lst))))), x7, x8, x9, x10]) /\ SB M2 M' b 4000, ⟨⟨_, _, _, _, rfl⟩, sb⟩, ?_, ?_⟩
      · rintro j y ρ M' hy ⟨⟨y7, y8, y9, y10, rfl⟩, sb⟩
        refine ⟨trivial, ?_⟩
        obtain ⟨x, rl, rfl, hx, hrl⟩ : ∃ (x : Dat) (rl : List Dat), y = .d x /\ sqD x = some rl /\ rl.map sqD = (dIs rs).map some := by
          match j, hy with
          | 0, hy => cases hy; exact ⟨_, _, rfl, rfl, by rw [List.map_map]; exact List.map_congr_left fun _ _ => rfl⟩
          | 1, hy => cases hy; exact ⟨_, _, rfl, rfl, by rw [List.map_map]; exact List.map_congr_left fun _ _ => rfl⟩
        walk_at "ra"
        refine ⟨by omega, by omega, ?_⟩
        refine ⟨fun k ρ M' => (∃ x8 x9, ρ = [some (.d (.scr K ns)), some (.d (ilD cs)), some (.d (.int i)), some (.ref b), some (.d (ilD os)), some (.d (.lst ((dIs rs).map .lst))), some (.d (.str (shD (.lst ((dIs rs).map .lst))))), some (.d x), x8, x9, y10]) /\ SB M2 M' b 4000, ⟨⟨_, _, rfl⟩, sb⟩, ?_, ?_⟩
        · rintro k y ρ M' hy ⟨⟨z8, z9, rfl⟩, sb⟩
          obtain ⟨hk, rfl⟩ := j9 hy
          refine ⟨trivial, ?_⟩
          show yA _ _ _ _ _ _
          refine zv fun r3 hr3 => ?_
          walk_at "ra"
          rw [lo]
          refine ⟨n, x, rl, dIs rs, rfl, hx, hrl, by omega, by rw [List.length_map]; omega, fun l hl => ⟨by have := (bt l hl).1; omega, fun d hd => by have := ((bt l hl).2 d hd).2; omega⟩, fun st' hst p hp => ?_, fun z => absurd (z.symm.trans st1) (by simp)⟩
          obtain rfl : st = st' := Option.some.inj (st1.symm.trans hst)
          rw [st2]
          have hp1 := zk (M := M') (a := p) (o := .lst ((os.map Dat.int).map .d))
          obtain ⟨hp20, hp2b⟩ := sb.new hp
          have sb := sb.put hp20 hp2b (.lst ((os.map Dat.int).map .d))
          generalize mup M' p (.lst ((os.map Dat.int).map .d)) = M6 at *
          subst hr3
          walk_at "ra"
          refine ⟨_, _, ilD os, rfl, QO hp1, wv _, yR (by omega), by omega, _, rfl, ?_⟩
          rw [if_neg (by decide)]
          refine ⟨.inl ⟨_, rfl⟩, sh2, sh1.s, hss, ⟨_, qq hp1⟩, _, hp1, ⟨_, qq zk⟩, _, zk, ?_, ⟨_, rfl⟩, sb.put hp20 hp2b _⟩
          rw [List.length_reverse, List.length_map, List.length_map]; omega
        · rintro ρ M' ⟨⟨z8, z9, rfl⟩, sb⟩
          refine ⟨trivial, ?_⟩
          exact ⟨⟨_, _, _, _, rfl⟩, sb⟩
      · rintro ρ M' ⟨⟨y7, y8, y9, y10, rfl⟩, sb⟩
        refine ⟨trivial, ?_⟩
        subst hr2
        dsimp only
        refine zv fun r2 hr2 => ?_
        walk_at "ra"
        rw [lo]
        refine ⟨n, .lst [], [], [], rfl, rfl, rfl, by omega, by decide, by simp, fun st' hst p hp => ?_, fun z => by cases z⟩
        obtain rfl : ob0 n = st' := Option.some.inj hst
        have hp1 := zk (M := M') (a := p) (o := .lst ((ob0 n).2.map .d))
        obtain ⟨hp20, hp2b⟩ := sb.new hp
        have sb := sb.put hp20 hp2b (.lst ((ob0 n).2.map .d))
        generalize mup M' p (.lst ((ob0 n).2.map .d)) = M6 at *
        refine ⟨_, _, _, rfl, small_one (by omega) (by omega) (by omega) (by omega), n, by rw [rangeSize_one]; split <;> omega, by omega, _, _, ilD (zU 0 1 n), rfl, QO hp1, wv _, yR (by rw [zw]; omega), by omega, _, rfl, ?_⟩
        rw [if_neg (by decide)]
        subst hr2
        walk_at "ra"
        rw [lo]
        refine ⟨b, _, n, rs, by rw [eil], sb.bx, by omega, by omega, by omega, fun r hr => ⟨(g.len r hr).1, by have := (g.len r hr).2; omega, g.bd r hr⟩, fun ls M7 s7 hf hl hb' => ?_⟩
        have sb := sb.go s7
        refine ⟨n, ls, rfl, by omega, hl, hb', hf, _, rfl, ?_⟩
        rw [if_neg (by decide)]
        exact ⟨⟨_, rfl⟩, SB.frm f2 b0 sb⟩
  · rintro ρ M' ⟨⟨x2, x3, x4, x5, x6, x7, x8, x9, x10, rfl⟩, f1⟩
    refine ⟨trivial, ?_⟩
    subst hr0
    walk_at "ra"
    exact D9 f1 q
end
theorem all_mk {l : PySem.W.OpenLaw} {w : World} {K : PySem.W.Frag} {h : Heap} {mg : Str -> Option Value} {fa cTurnError cBadRing cBadDeed cBadPlan cBadRow cNoMatch cNotDone : Addr} {cdN : ClassData} (X : K.In h) (G : h.Ns mainGlobals mg) (hfa : mg "law" = some (.ref fa)) (a : At K mg "law" X3) (B : Blt mg) (Ball : mg "all" = none) (BValueError : mg "ValueError" = none)
  (a__law_take : At K mg "_law_take" Z6) (a__law_box : At K mg "_law_box" Yw) (a__law_folded : At K mg "_law_folded" xX) (a__law_length : At K mg "_law_length" xS) (a__law_shuffled : At K mg "_law_shuffled" jY) (a__law_ringed : At K mg "_law_ringed" xU) (a__law_exchanged : At K mg "_law_exchanged" jz) (a__law_table : At K mg "_law_table" vZ) (a__law_order : At K mg "_law_order" vG) (a__law_same : At K mg "_law_same" j6) (a__law_rings : At K mg "_law_rings" yp) (a_is_place : At K mg "is_place" jV) (a_staying : At K mg "staying" kN) (a_mark_ring : At K mg "mark_ring" vm) (a_order_by : At K mg "order_by" kU) (a__law_turned : At K mg "_law_turned" jZ) (a__law_bent : At K mg "_law_bent" yb) (a__law_refused : At K mg "_law_refused" j3)
  (ag_TurnError : PySem.W.nsIn K mainGlobals "TurnError" = some (some (.ref cTurnError)))
  (ag_BadRing : PySem.W.nsIn K mainGlobals "BadRing" = some (some (.ref cBadRing)))
  (ag_BadDeed : PySem.W.nsIn K mainGlobals "BadDeed" = some (some (.ref cBadDeed)))
  (ag_BadPlan : PySem.W.nsIn K mainGlobals "BadPlan" = some (some (.ref cBadPlan)))
  (ag_BadRow : PySem.W.nsIn K mainGlobals "BadRow" = some (some (.ref cBadRow)))
  (ag_NoMatch : PySem.W.nsIn K mainGlobals "NoMatch" = some (some (.ref cNoMatch)))
  (ag_NotDone : PySem.W.nsIn K mainGlobals "NotDone" = some (some (.ref cNotDone)))
  (XI_BadRing : PySem.W.excIn K cBadRing Y9 "ValueError.__new__" = true)
  (xbx : PySem.W.subIn K (.ref cBadRing) (.type "BaseException") = some true)
  (xga : PySem.W.findIn K (.ref cBadRing) "__getattribute__" = some (some (.builtin "BaseException.__getattribute__")))
  (xgt : PySem.W.findIn K (.ref cBadRing) "__getattr__" = some none)
  (xcl : PySem.W.findIn K (.ref cBadRing) "__class__" = some (some (.builtin "object.__class__")))
  (xgs : PySem.W.specialIn K (.builtin "object.__class__") "__get__" = some (some (.builtin "getset_descriptor.__get__")))
  (xtk : PySem.W.takesIn K (.builtin "object.__class__") = some true)
  (xmo : PySem.W.mroIn K cBadRing (.type "object") = some true)
  (xis : PySem.W.clsIn K cBadRing = some cdN)
  (xt : PySem.W.exmOne K (.ref cBadRing) (.ref cTurnError) = some true)
  (xo : PySem.W.kitAny K (.ref cBadRing) [.ref cBadDeed, .ref cBadPlan, .ref cBadRow, .ref cNoMatch, .ref cNotDone] = some false)
  (xi : PySem.W.kitAny K (.ref cBadRing) [.ref cBadRing] = some true)
  (xv : PySem.W.kitAny K (.ref cBadRing) [.type "ValueError"] = some true)
  : ∃ fd : FuncData, (∀ (s : Shared) (v : Value), BindsTo s fd ⟨[v], []⟩ [("_law_script", v)]) /\ ∀ base : Heap, K.In base -> base.Ns mainGlobals mg -> jv l.prog w K mg base CX0 20 fa fd ["_law_script"] (Qu K) := by
 obtain ⟨f, fd, F, m⟩ := id a
 obtain rfl : fa = f := by rw [hfa] at m; cases m; rfl
 obtain ⟨oc, od, kV, doc, pm, an, cdv, ct, osl, e, lk, hcd⟩ := F.ex
 refine ⟨fd, fun s v => ?_, fun base _ _ => ?_⟩
 ·subst e; exact .of_eq rfl
 ·have T := WG (P := l.prog) (w := w) (base := base) a__law_take B
  have XG_TurnError := PySem.W.mg_of X G ag_TurnError
  have XG_BadRing := PySem.W.mg_of X G ag_BadRing
  have XG_BadDeed := PySem.W.mg_of X G ag_BadDeed
  have XG_BadPlan := PySem.W.mg_of X G ag_BadPlan
  have XG_BadRow := PySem.W.mg_of X G ag_BadRow
  have XG_NoMatch := PySem.W.mg_of X G ag_NoMatch
  have XG_NotDone := PySem.W.mg_of X G ag_NotDone
  have sh := Zt (P := l.prog) (w := w) (base := base) a__law_shuffled B T
  have od := Ye (P := l.prog) (w := w) (base := base) a__law_order B (T.mono (by decide)) (sh.mono (by decide)) (Jz a__law_ringed B (T.mono (by decide)) sh) (vy a__law_exchanged B (T.mono (by decide)) sh) ((YR a__law_table B).mono (by decide))
  have X2 : DH K cTurnError cBadRing cBadDeed cBadPlan cBadRow cNoMatch cNotDone := ⟨⟨xbx, xga, xgt, xcl, xgs, xtk, xmo, by rw [xis]; rfl⟩, xt, xo, xi, xv⟩
  have ob := ZS (P := l.prog) (w := w) (base := base) a_order_by B XI_BadRing XG_BadRing ((wW a_staying B).mono (by decide)) (Kx a_mark_ring B XI_BadRing XG_BadRing (Zb a_is_place B))
  have rf := wl (P := l.prog) (w := w) (base := base) a__law_refused B BValueError XG_TurnError XG_BadRing XG_BadDeed XG_BadPlan XG_BadRow XG_NoMatch XG_NotDone ob X2
  have tk := T.imp' WB
  have L := AW (P := l.prog) (w := w) (base := base) a B (((A8 a__law_box B).imp' DA).mono (by decide)) (((JP a__law_folded B).imp' JZ).mono (by decide)) (((J1 a__law_length B T).imp' JL).mono (by decide)) ((od.imp' Yj).mono (by decide)) (((J0 a__law_rings B).imp' JR).mono (by decide)) ((Zd a__law_turned B tk).mono (by decide)) ((yO a__law_same B Ball 4).mono (by decide)) (ob.mono (by decide)) (ob.mono (by decide)) ((Ki a__law_bent B tk).mono (by decide)) (rf.mono (by decide))
  exact (L.imp' (sp_law (K := K))).fn m lk
theorem walk {l : PySem.W.OpenLaw} {q : Program} {loose : List Str} {XP : (Str -> Option Value) -> Heap -> Prop} {YP : World -> Heap -> Prop} {d : DefRec} {K : Params -> PySem.W.Frag} (hn : l.most = some 63) (hdf : d.params.defaults = [])
  (hY : ∀ (w : World) (h : Heap), YP w h -> (K w.params).In h)
  (F : ∀ (w : World) (mg : Str -> Option Value) (fa : Addr) (h : Heap), (K w.params).In h -> h.Ns mainGlobals mg -> mg d.name = some (.ref fa) ->
   ∃ fd : FuncData, (∀ (s : Shared) (u : Value), BindsTo s fd ⟨[u], []⟩ [("_law_script", u)]) /\ ∀ base : Heap, (K w.params).In base -> base.Ns mainGlobals mg -> jv l.prog w (K w.params) mg base CX0 20 fa fd ["_law_script"] (Qu (K w.params))) :
  PySem.W.WalkO q loose XP YP l.row.toRowW d [] (fun f vs => PySem.call f vs) :=
 L2.walk_of (n := 63) (k := 20) (x := "_law_script") (CX := fun _ => CX0) (sp := fun w => Qu (K w.params)) hn (by decide) hdf ⟨rfl, rfl, by decide, by decide⟩ hY F (fun _ _ a ns hl _ hS => ⟨a, ns, rfl, hS, hl, fun _ => rfl⟩) fun _ _ _ _ _ z => z
end Ot
theorem PySem.W.Fast.te10463586546817620516 : True := trivial
theorem PySem.W.Fast.te16453201003572030423 : True := trivial
theorem PySem.W.Fast.te17458308585008155597 : True := trivial
namespace PySem.W.Fast
def tw9345105319410622823 := ()
def tw17644665702958203930 := ()
def tw7650425734644653615 := ()
def tw8325960580680158627 := ()
def tw1419535498151113692 := ()
def tw8199023135124404642 := ()
def tw12694269984300694544 := ()
def tw7009780384681436833 := ()
def tw15966928063516205464 := ()
def tw6523588939636454560 := ()
def tw6905615914678639594 := ()
def tw9834294709132512145 := ()
def tw16411556546564746073 := ()
def tw12585551983066766050 := ()
def tw12428778556323566561 := ()
def tw5138825751113266856 := ()
def tw2339923240005652066 := ()
def tw12348450800755122123 := ()
def tw11756215451488038443 := ()
def tw1852543870900808771 := ()
def tw11744638021379031898 := ()
def tw3130031248525232924 := ()
def tw16321661693646201692 := ()
def tw2927585991612839986 := ()
def tw16500922172461793756 := ()
def tw8433273283560823795 := ()
def tw2512155064390742615 := ()
def tw3333761320962212724 := ()
def tw16873944352518109121 := ()
def tw13215366094101887447 := ()
def tw439848613030633206 := ()
def tw17215862356202496365 := ()
def tw5480962745027429819 := ()
def tw12815692627813808904 := ()
def tw14244415343635680095 := ()
def tw8003089210642972640 := ()
def tw17218668013388940833 := ()
def tw8812403032950990498 := ()
def tw8395492229329691073 := ()
def tw10765573757064114435 := ()
def tw13487094598525696530 := ()
def tw12086586593791924868 := ()
def tw9144646980560993489 := ()
def tw7885618528287369775 := ()
def tw18109421641841265904 := ()
def tw10669855477177179833 := ()
def tw7821560616323478894 := ()
def tw11322464309674830726 := ()
def tw7984279164297722069 := ()
def tw1114349739004806599 := ()
def tw15697519281890433442 := ()
def tw10796707508615862129 := ()
def tw4053328209061472271 := ()
def tw8770556187028765578 := ()
def tw15772587840713387370 := ()
def tw11657863604925925844 := ()
def tw1313933682591301716 := ()
def tw13314126315003630140 := ()
def tw12912448124100225149 := ()
def tw6257061222464307040 := ()
def tw221820418165347882 := ()
def tw8831020376840031670 := ()
def tw3185685323138348951 := ()
def tw14461325362658433939 := ()
def tw5726736496775923803 := ()
def tw10732241896190491373 := ()
def tw7602978743816841917 := ()
def tw2871176756697372787 := ()
def tw756757545192873146 := ()
def tw10690198135674145730 := ()
def tw15606490291769497469 := ()
def tw9577129145952289106 := ()
def tw18399493602785900609 := ()
def tw10780822095384804183 := ()
def tw4711851612225916225 := ()
def tw601898526306918109 := ()
def tw873326325907091670 := ()
def tw18229311686843492461 := ()
def tw13623163727717213839 := ()
def tw2036619437244213511 := ()
def tw1728088904369940190 := ()
def tw976961286914338161 := ()
def tw9152229319776724663 := ()
def tw155150818837585335 := ()
def tw11059232024955195336 := ()
def tw18374762476838395723 := ()
def tw13735592351118027851 := ()
def tw8799262431147288529 := ()
def tw10965859220414063620 := ()
def tw16380313591666144500 := ()
def tw7429128497189528290 := ()
def tw12355765311377227819 := ()
def tw4922429976135429046 := ()
def tw10287876859859473472 := ()
def tw115297932932027247 := ()
def tw2776229173701793459 := ()
def tw12393266763667479999 := ()
def tw6248500496753184156 := ()
def tw17641710346500150147 := ()
def tw15860170959511928098 := ()
def tw12166941512927657165 := ()
def tw12350925866425904039 := ()
def tw14685759774526465819 := ()
def tw14806984097090412771 := ()
def tw45356451392108894 := ()
def tw6361006224419609561 := ()
def tw9999343272721496302 := ()
def tw17004267709496706201 := ()
def tw5752877822429562102 := ()
def tw3768445057329839781 := ()
def tw10108179431836482530 := ()
def tw15869030121721056159 := ()
def tw6375410714811736789 := ()
def tw11990790012267049818 := ()
def tw1711836491587493797 := ()
def tw8342839322620353472 := ()
def tw11326767544953532442 := ()
def tw12890028910850103609 := ()
def tw3671399969395572293 := ()
def tw15688218438484301537 := ()
def tw10847684213948625340 := ()
def tw13601682234406720388 := ()
def tw6410284604609483783 := ()
def tw4843753216747554085 := ()
def tw17896513466704487771 := ()
def tw8455928606063486301 := ()
def tw4689099608145913046 := ()
def tw11418268285567618889 := ()
def tw15151206521575006412 := ()
def tw16602542555190302392 := ()
def tw12761528582015488000 := ()
def tw4520845125837970077 := ()
def tw9040868083463806811 := ()
def tw4107167473727120812 := ()
def tw13000318194462771592 := ()
def tw1222018139088096371 := ()
def tw1277194551449048935 := ()
def tw1287634692242091169 := ()
def tw16268262978686467753 := ()
def tw4690882011224162101 := ()
def tw243852912543461520 := ()
def tw10462950141907763692 := ()
def tw18167897838289049015 := ()
def tw8010742331427044346 := ()
def tw17711222707838715595 := ()
def tw6499475946317126315 := ()
def tw17858699676753131358 := ()
def tw5844639183641284386 := ()
def tw9834405663396148787 := ()
def tw7383275768422890526 := ()
def tw18096010032873010383 := ()
def tw9918160775091897518 := ()
def tw1308218741437513063 := ()
def tw8032006342205087674 := ()
def tw16594481704271006778 := ()
def tw1767537114624092994 := ()
def tw9818858574647598229 := ()
def tw8882590693054731934 := ()
def tw11614963237966941184 := ()
def tw6001930998772515519 := ()
def tw8450810354403180809 := ()
def tw15529638463903451230 := ()
def tw1483263110585646293 := ()
def tw11836811459898825412 := ()
def tw13278397764400907495 := ()
def tw14024288738130463192 := ()
def tw2451942282006680103 := ()
def tw8855634253051698408 := ()
def tw4103361289006434579 := ()
def tw13000283678210873905 := ()
def tw3927553602249773524 := ()
def tw9238327355587698573 := ()
def tw12951784442829351572 := ()
def tw14716854893363639242 := ()
def tw2761679358209898166 := ()
def tw6540119491696734593 := ()
def tw985333089610239500 := ()
def tw16144347233951739197 := ()
def tw2504312948220244841 := ()
def tw14186095212238239208 := ()
def tw11011618412471987562 := ()
def tw15888404465905204850 := ()
def tw3172829285261088272 := ()
def tw16605353765901607169 := ()
def tw10630007593024233025 := ()
def tw12799151742003347862 := ()
def tw4498444379015681666 := ()
def tw10444872333550721852 := ()
def tw15264015075928493480 := ()
def tw6107682042781071634 := ()
def tw16495605444009171186 := ()
def tw489127614850191382 := ()
def tw16625893215890104899 := ()
def tw18329843111162369898 := ()
def tw16583526632241664604 := ()
def tw9952687311762606960 := ()
def tw12817965887451685947 := ()
def tw14934828847652020114 := ()
def tw12659366439062514453 := ()
def tw8210432833153856372 := ()
def tw3376102261193737967 := ()
def tw12692765086248224399 := ()
def tw18349025055219810058 := ()
def tw17667119136217260796 := ()
def tw12093089211901220889 := ()
def tw15125905020725605892 := ()
def tw4965423626978973983 := ()
def tw11097825314641485762 := ()
def tw10346504200249402828 := ()
def tw17163221712047449433 := ()
def tw9674158697036484426 := ()
def tw5004512101994835048 := ()
def tw10849975525495926756 := ()
def tw5967266087010413637 := ()
def tw14533571018303665063 := ()
def tw14605301485455810986 := ()
def tw15975837444488227916 := ()
def tw1444259234748698767 := ()
def tw4710217492848908679 := ()
def tw581804406856326421 := ()
def tw467989514133916230 := ()
def tw6180492435468144695 := ()
def tw17428128225319407690 := ()
def tw6523831681140821259 := ()
def tw11444769187378742610 := ()
def tw13880905173662963036 := ()
def tw12628818865283349830 := ()
def tw16253119624816126648 := ()
def tw3694508249730222179 := ()
def tw5501610708049148296 := ()
def tw8162853245165528579 := ()
def tw10869366278042162208 := ()
def tw600511018412553952 := ()
def tw263177829689469910 := ()
def tw17067093142079457468 := ()
def tw473573956195518836 := ()
def tw11760155213772561634 := ()
def tw9823863432636313024 := ()
def tw11541716663145384342 := ()
def tw3031942910600344729 := ()
def tw10495434913522331125 := ()
def tw1546060846758880019 := ()
def tw7135186295996331334 := ()
def tw14005694528811026892 := ()
def tw13772087895609864392 := ()
def tw12248720373824966165 := ()
def tw2551762679304314909 := ()
end PySem.W.Fast
open PySem PySem.W PyProof.Rows
set_option maxRecDepth 100000 in
set_option maxHeartbeats 0 in
theorem PySem.Challenge.cw_ownturn_k06_orders_by_rings_holds : PySem.Challenge.rw_ownturn_k06_orders_by_rings.Holds := by
 w_on; o_law; k_head; (case hw => w_witness2)
 k_fill
 refine Ot.walk (l := PySem.Challenge.rw_ownturn_k06_orders_by_rings) rfl rfl (fun w h Y => PySem.W.kIn_of Y) ?F
 case F =>
  intro w mg fa h KX G hmg
  refine' Ot.all_mk KX G hmg (L2.at_mk KX G ?a0 ?l0 ?c0 ?k0) (L2.blt_mk KX G ?z1 ?z2 ?z3 ?z4 ?z5 ?z6 ?z7 ?z8 ?z9 ?z10 ?z11 ?z12 ?z13 ?z14 ?z15 ?z16) (PySem.W.mg_none_of KX G ?zall) (PySem.W.mg_none_of KX G ?zValueError) (L2.at_mk KX G ?a1 ?l1 ?c1 ?k1) (L2.at_mk KX G ?a2 ?l2 ?c2 ?k2) (L2.at_mk KX G ?a3 ?l3 ?c3 ?k3) (L2.at_mk KX G ?a4 ?l4 ?c4 ?k4) (L2.at_mk KX G ?a5 ?l5 ?c5 ?k5) (L2.at_mk KX G ?a6 ?l6 ?c6 ?k6) (L2.at_mk KX G ?a7 ?l7 ?c7 ?k7) (L2.at_mk KX G ?a8 ?l8 ?c8 ?k8) (L2.at_mk KX G ?a9 ?l9 ?c9 ?k9) (L2.at_mk KX G ?a10 ?l10 ?c10 ?k10) (L2.at_mk KX G ?a11 ?l11 ?c11 ?k11) (L2.at_mk KX G ?a12 ?l12 ?c12 ?k12) (L2.at_mk KX G ?a13 ?l13 ?c13 ?k13) (L2.at_mk KX G ?a14 ?l14 ?c14 ?k14) (L2.at_mk KX G ?a15 ?l15 ?c15 ?k15) (L2.at_mk KX G ?a16 ?l16 ?c16 ?k16) (L2.at_mk KX G ?a17 ?l17 ?c17 ?k17) (L2.at_mk KX G ?a18 ?l18 ?c18 ?k18) ?xgTurnError ?xgBadRing ?xgBadDeed ?xgBadPlan ?xgBadRow ?xgNoMatch ?xgNotDone ?xiBadRing ?xfxbx ?xfxga ?xfxgt ?xfxcl ?xfxgs ?xfxtk ?xfxmo ?xfxis ?xfxt ?xfxo ?xfxi ?xfxv
  (case xgTurnError => k_is)
  (case xgBadRing => k_is)
  (case xgBadDeed => k_is)
  (case xgBadPlan => k_is)
  (case xgBadRow => k_is)
  (case xgNoMatch => k_is)
  (case xgNotDone => k_is)
  (case xiBadRing => k_exc)
  (case xfxbx => first | k_is | kit_is | kts_exm)
  (case xfxga => first | k_is | kit_is | kts_exm)
  (case xfxgt => first | k_is | kit_is | kts_exm)
  (case xfxcl => first | k_is | kit_is | kts_exm)
  (case xfxgs => first | k_is | kit_is | kts_exm)
  (case xfxtk => first | k_is | kit_is | kts_exm)
  (case xfxmo => first | k_is | kit_is | kts_exm)
  (case xfxis => first | k_is | kit_is | kts_exm)
  (case xfxt => first | k_is | kit_is | kts_exm)
  (case xfxo => first | k_is | kit_is | kts_exm)
  (case xfxi => first | k_is | kit_is | kts_exm)
  (case xfxv => first | k_is | kit_is | kts_exm)
  (case a0 => k_is); (case l0 => k_is); (case c0 => k_is); (case k0 => k_is)
  (case a1 => k_is); (case l1 => k_is); (case c1 => k_is); (case k1 => k_is)
  (case a2 => k_is); (case l2 => k_is); (case c2 => k_is); (case k2 => k_is)
  (case a3 => k_is); (case l3 => k_is); (case c3 => k_is); (case k3 => k_is)
  (case a4 => k_is); (case l4 => k_is); (case c4 => k_is); (case k4 => k_is)
  (case a5 => k_is); (case l5 => k_is); (case c5 => k_is); (case k5 => k_is)
  (case a6 => k_is); (case l6 => k_is); (case c6 => k_is); (case k6 => k_is)
  (case a7 => k_is); (case l7 => k_is); (case c7 => k_is); (case k7 => k_is)
  (case a8 => k_is); (case l8 => k_is); (case c8 => k_is); (case k8 => k_is)
  (case a9 => k_is); (case l9 => k_is); (case c9 => k_is); (case k9 => k_is)
  (case a10 => k_is); (case l10 => k_is); (case c10 => k_is); (case k10 => k_is)
  (case a11 => k_is); (case l11 => k_is); (case c11 => k_is); (case k11 => k_is)
  (case a12 => k_is); (case l12 => k_is); (case c12 => k_is); (case k12 => k_is)
  (case a13 => k_is); (case l13 => k_is); (case c13 => k_is); (case k13 => k_is)
  (case a14 => k_is); (case l14 => k_is); (case c14 => k_is); (case k14 => k_is)
  (case a15 => k_is); (case l15 => k_is); (case c15 => k_is); (case k15 => k_is)
  (case a16 => k_is); (case l16 => k_is); (case c16 => k_is); (case k16 => k_is)
  (case a17 => k_is); (case l17 => k_is); (case c17 => k_is); (case k17 => k_is)
  (case a18 => k_is); (case l18 => k_is); (case c18 => k_is); (case k18 => k_is)
  (case zall => k_is)
  (case zValueError => k_is)
  (case z1 => k_is)
  (case z2 => k_is)
  (case z3 => k_is)
  (case z4 => k_is)
  (case z5 => k_is)
  (case z6 => k_is)
  (case z7 => k_is)
  (case z8 => k_is)
  (case z9 => k_is)
  (case z10 => k_is)
  (case z11 => k_is)
  (case z12 => k_is)
  (case z13 => k_is)
  (case z14 => k_is)
  (case z15 => k_is)
  (case z16 => k_is)
