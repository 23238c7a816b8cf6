import PyProof.Rows.All
import Wide.All
import OpenK.AllK
import Wide.FinOn
import Lean
import PyProof.EqAt
import PyProof.EqKinds
import PyProof.TupleCall
import PyProof.ExcInit
import PyProof.ExcClass3
import PyProof.InstStoreFacts
import KE.KIsAll
import KE.KTryMore
import PyProof.ExcBaseAll.ValueError
import PyProof.ExcArgsOwn
import KE.RegKIsAll
import KE.RegKTryMore
import PySem.Challenge.RW_ownturn_k09_deeds_refused
set_option compiler.extract_closed false
set_option Elab.async false
set_option linter.all false
set_option maxRecDepth 100000
namespace L2
open PySem PySem.Spec PyProof.Rows
noncomputable abbrev Key := Sum Int Str
noncomputable def yZ : Key -> Value -> Bool
 | .inl k, v => Value.isInt k v
 | .inr x, v => Value.isStrOf x v
noncomputable def FQ (w : World) : Key -> Int
 | .inl k => hashInt k
 | .inr x => hashStr w x
theorem qa : ∀ {k : Key} {v : Value}, yZ k v = true -> (∃ i t, k = Sum.inl i /\ v = Value.int i t) \/ (∃ x t, k = Sum.inr x /\ v = Value.str x t)
 | .inl i, v, h => by
  obtain ⟨t, e⟩ := Value.isInt_shape (k := i) (v := v) h
  exact .inl ⟨i, t, rfl, e⟩
 | .inr x, v, h => by
  obtain ⟨t, e⟩ := Value.isStrOf_shape (x := x) (v := v) h
  exact .inr ⟨x, t, rfl, e⟩
theorem JR (i : Int) (t : Tok) : yZ (.inl i) (.int i t) = true := by simp [yZ, Value.isInt]
theorem Kb (x : Str) (t : Tok) : yZ (.inr x) (.str x t) = true := by simp [yZ, Value.isStrOf]
theorem Dr (a b : Int) : decide ((Sum.inl a : Key) = Sum.inl b) = (a == b) := by
 by_cases e : a = b
 ·subst e; simp
 ·have h : ¬ (Sum.inl a : Key) = Sum.inl b := fun q => e (Sum.inl.inj q)
  rw [decide_eq_false h]
  exact (beq_eq_false_iff_ne.mpr e).symm
theorem B9 (a b : Str) : decide ((Sum.inr a : Key) = Sum.inr b) = decide (a = b) := by
 by_cases e : a = b
 ·subst e; simp
 ·have h : ¬ (Sum.inr a : Key) = Sum.inr b := fun q => e (Sum.inr.inj q)
  rw [decide_eq_false h, decide_eq_false e]
theorem Bq (a : Int) (b : Str) : decide ((Sum.inl a : Key) = Sum.inr b) = false := decide_eq_false (fun q => nomatch q)
theorem Ec (a : Str) (b : Int) : decide ((Sum.inr a : Key) = Sum.inl b) = false := decide_eq_false (fun q => nomatch q)
noncomputable def qX (prog : Program) (w : World) : PySem.KeyKind prog w Key where
 is := yZ
 hash := FQ w
 inj := fun v a b ha hb => by
  rcases qa ha with ⟨i, t, rfl, rfl⟩ | ⟨x, t, rfl, rfl⟩
  ·rcases qa hb with ⟨j, u, rfl, e⟩ | ⟨y, u, rfl, e⟩
   ·injection e with e1 _; rw [e1]
   ·exact nomatch e
  ·rcases qa hb with ⟨j, u, rfl, e⟩ | ⟨y, u, rfl, e⟩
   ·exact nomatch e
   ·injection e with e1 _; rw [e1]
 byValue := fun k v h => by
  rcases qa h with ⟨i, t, rfl, rfl⟩ | ⟨x, t, rfl, rfl⟩ <;> rfl
 pyHash := fun hv h => by
  rcases qa hv with ⟨i, t, rfl, rfl⟩ | ⟨x, t, rfl, rfl⟩
  ·exact wpAny_pyHash_int h
  ·exact wpAny_pyHash_str h
 eqBool := fun hu hv h => by
  rcases qa hu with ⟨i, t, rfl, rfl⟩ | ⟨x, t, rfl, rfl⟩
  ·rcases qa hv with ⟨j, u, rfl, rfl⟩ | ⟨y, u, rfl, rfl⟩
   ·rw [Dr] at h; exact wpAny_eqBool_int h
   ·rw [Bq] at h; exact SeqAt.EqAt.int_str i t y u _ _ _ _ h
  ·rcases qa hv with ⟨j, u, rfl, rfl⟩ | ⟨y, u, rfl, rfl⟩
   ·rw [Ec] at h; exact SeqAt.EqAt.str_int x t j u _ _ _ _ h
   ·rw [B9] at h; exact wpAny_eqBool_str h
 «strs» := fun k x t v h => by
  rcases qa h with ⟨i, u, rfl, e⟩ | ⟨y, u, rfl, e⟩
  ·exact nomatch e
  ·injection e with e1 _
   subst e1
   cases v <;> rfl
theorem wD (prog : Program) (w : World) (i : Int) (t : Tok) : (qX prog w).is (.inl i) (.int i t) = true := JR i t
theorem wB (prog : Program) (w : World) (x : Str) (t : Tok) : (qX prog w).is (.inr x) (.str x t) = true := Kb x t
end L2
namespace L2
open PySem PySem.Spec PyProof.Rows
inductive V where
 | non | bl (b : Bool) | int (i : Int) | str (x : Str) | byt (b : Array UInt8) | flt (b : UInt64) | ref (a : Addr) | ty (n : String)
 deriving DecidableEq
noncomputable def zA : V -> Value -> Prop
 | .non, u => u = Value.none
 | .bl b, u => u = Value.bool b
 | .int i, u => ∃ t, u = Value.int i t
 | .str x, u => ∃ t, u = Value.str x t
 | .byt b, u => ∃ t, u = Value.bytes b t
 | .flt b, u => ∃ t, u = Value.float b t
 | .ref a, u => u = Value.ref a
 | .ty n, u => u = Value.type n
noncomputable abbrev zB : List V -> List Value -> Prop := Paired zA
theorem zB.length {xs : List V} {us : List Value} (r : zB xs us) : xs.length = us.length := Paired.length r
theorem zB.get : ∀ {xs : List V} {us : List Value} {i : Nat} {x : V}, zB xs us -> xs[i]? = some x -> ∃ u, us[i]? = some u /\ zA x u
 | _, _, _, _, .nil, e => by simp at e
 | _, _, 0, _, .cons r _, e => by simp at e; subst e; exact ⟨_, rfl, r⟩
 | _, _, i + 1, x, .cons _ t, e => by
  obtain ⟨u, h1, h2⟩ := zB.get (i := i) (x := x) t (by simpa using e)
  exact ⟨u, by simpa using h1, h2⟩
theorem zB.set {x : V} {u : Value} (r : zA x u) : ∀ {xs : List V} {us : List Value} (i : Nat), zB xs us -> zB (xs.set i x) (us.set i u)
 | _, _, _, .nil => .nil
 | _, _, 0, .cons _ t => .cons r t
 | _, _, i + 1, .cons q t => .cons q (zB.set r i t)
theorem zB.append : ∀ {xs ys : List V} {us ws : List Value}, zB xs us -> zB ys ws -> zB (xs ++ ys) (us ++ ws)
 | _, _, _, _, .nil, s => s
 | _, _, _, _, .cons r t, s => .cons r (zB.append t s)
theorem zB.take : ∀ {xs : List V} {us : List Value} (n : Nat), zB xs us -> zB (xs.take n) (us.take n)
 | _, _, 0, _ => .nil
 | _, _, _ + 1, .nil => .nil
 | _, _, n + 1, .cons r t => .cons r (zB.take n t)
theorem zB.drop : ∀ {xs : List V} {us : List Value} (n : Nat), zB xs us -> zB (xs.drop n) (us.drop n)
 | _, _, 0, r => r
 | _, _, _ + 1, .nil => .nil
 | _, _, n + 1, .cons _ t => zB.drop n t
noncomputable def kB : Option V -> Option Value -> Prop
 | some v, some u => zA v u
 | none, none => True
 | _, _ => False
noncomputable def KV {κ : Type} : List (κ × V) -> List (κ × Value) -> Prop := Paired fun (p : κ × V) (q : κ × Value) => p.1 = q.1 /\ zA p.2 q.2
noncomputable def kV : Key -> V
 | .inl i => .int i
 | .inr x => .str x
inductive HO where
  | lst (xs : List V)
  | tup (xs : List V)
  | dK (kvs : List (Key × V)) | dT (kvs : List (List Key × V))
  | set (S : Int -> Bool) (n : Nat)
  | ins (C dx : Addr) (fs : List (Str × V))
  | own (x : Addr)
  | xd (fs : List (Str × V))
  | met (f x : Addr)
  | rng (lo hi : Int)
  | frz (o : Obj) (u : HO)
  | tbl (ps : Array Value)
  | ext (φ : Heap -> Prop)
noncomputable abbrev Hp := Addr -> Option HO
noncomputable def upd (H : Hp) (a : Addr) (o : HO) : Hp := fun b => if b = a then some o else H b
theorem ze {H : Hp} {a : Addr} {o : HO} : upd H a o a = some o := by unfold upd; rw [if_pos rfl]
theorem zg {H : Hp} {a b : Addr} {o : HO} (h : b ≠ a) : upd H a o b = H b := by unfold upd; rw [if_neg h]
theorem Jx {H : Hp} {a : Addr} {o u : HO} : upd (upd H a o) a u = upd H a u := by
 funext b; unfold upd; split <;> rfl
theorem Ji {H : Hp} {a b : Addr} {o u : HO} (h : H a = some o) (h' : H b = some u) (d : o ≠ u) : a ≠ b := by
 intro e; subst e; rw [h] at h'; exact d (Option.some.inj h')
theorem zk {H : Hp} {a b : Addr} {o : HO} (h : H a = some o) (h' : H b = none) : a ≠ b := by
 intro e; subst e; rw [h] at h'; cases h'
noncomputable def wd (h : Heap) (a : Addr) (items : Array Value) : Prop := ∃ o, h.get? a = some o /\ o.cls = .type "tuple" /\ (∃ n, o.data = .seq items n) /\ o.dict = none
theorem wd.is {h : Heap} {a : Addr} {items : Array Value} (x : wd h a items) : IsTup h a items := let ⟨o, e, c, n, _⟩ := x; ⟨o, e, c, n⟩
theorem wd.lt {h : Heap} {a : Addr} {items : Array Value} (x : wd h a items) : a < h.objs.size := x.is.lt
theorem wd.new (h : Heap) (items : Array Value) : wd (h.push { cls := .type "tuple", data := .seq items }) h.objs.size items := ⟨_, Heap.get?_push_size _ rfl, rfl, ⟨_, rfl⟩, rfl⟩
section
variable (P : Program) (w : World)
noncomputable def zP (H : Hp) (h : Heap) (a : Addr) : HO -> Prop
  | .lst xs => xs.length <= sizeLine /\ ∃ (its : List Value) (n : Nat), zB xs its /\ h.get? a = some { cls := .type "list", data := .seq its.toArray n }
  | .tup xs => xs.length <= sizeLine /\ ∃ its : List Value, zB xs its /\ wd h a its.toArray
  | .dK kvs => kvs.length <= sizeLine /\ (a == sysModules) = false /\ ∃ vs, KV kvs vs /\ h.DictOf (qX P w) a vs
  | .dT kvs => kvs.length <= sizeLine /\ (a == sysModules) = false /\ ∃ xs : List (List Key × Addr × Value),
      Paired (fun (p : List Key × V) (q : List Key × Addr × Value) => p.1 = q.1 /\ H q.2.1 = some (.tup (p.1.map kV)) /\ zA p.2 q.2.2) kvs xs /\
      ∃ o es ep, h.get? a = some o /\ o.ExactDict /\ o.data = .dict es ep /\ es.toList = xs.map (entryOfKey (tupleKind (qX P w))) /\ (xs.map (·.1)).Nodup
  | .set S n => h.SetOf (intKind P w) a S n
  | .ins C dx fs => H dx = some (.own a) /\ fs.length <= 1000 /\ dx ≠ a /\ h.get? a = some (PySem.W.instObj C dx) /\
      ∃ mA, h.Ns1 dx mA /\ (∀ f, kB (fs.lookup f) (mA f)) /\ PySem.Within mA (fs.map (·.1))
  | .own _ => ∃ o, h.get? a = some o
  | .xd fs => ∃ mA, h.Ns1 a mA /\ ∀ f, kB (fs.lookup f) (mA f)
  | .rng lo hi => ∃ t u v, h.get? a = some { cls := .type "range", data := .fields #[.int lo t, .int hi u, .int 1 v] }
  | .frz o u => h.get? a = some o /\ zP H h a u
  | .tbl ps => h.get? a = some { cls := .none, data := .fields ps }
  | .met f x => h.get? a = some (PySem.W.methodObj (.ref f) (.ref x))
  | .ext φ => φ h /\ (∃ o, h.get? a = some o) /\ ∀ h1 h2 : Heap, φ h1 -> (∀ o, h1.get? a = some o -> h2.get? a = some o) -> φ h2
noncomputable def HOk (H : Hp) (h : Heap) : Prop := ∀ a o, H a = some o -> zP P w H h a o
end
section
variable {P : Program} {w : World} {H H' : Hp} {h h' : Heap} {a : Addr} {o : HO}
theorem zP.lt (x : zP P w H h a o) : a < h.objs.size := by
 cases o with
 | lst xs => obtain ⟨_, _, _, _, e⟩ := x; exact Heap.lt_size e
 | tup xs => obtain ⟨_, _, _, p⟩ := x; exact p.lt
 | dK kvs => obtain ⟨_, _, _, _, o, _, _, e, _⟩ := x; exact Heap.lt_size e
 | dT kvs => obtain ⟨_, _, _, _, o, _, _, e, _⟩ := x; exact Heap.lt_size e
 | set S n => obtain ⟨o, _, _, _, e, _⟩ := x; exact Heap.lt_size e
 | ins C dx fs => obtain ⟨_, _, _, e, _⟩ := x; exact Heap.lt_size e
 | own y => obtain ⟨_, e⟩ := x; exact Heap.lt_size e
 | xd fs => obtain ⟨_, ⟨_, _, _, e, _⟩, _⟩ := x; exact Heap.lt_size e
 | rng lo hi => obtain ⟨_, _, _, e⟩ := x; exact Heap.lt_size e
 | frz ob u => obtain ⟨e, _⟩ := x; exact Heap.lt_size e
 | tbl ps => exact Heap.lt_size (show h.get? a = some _ from x)
 | met f y => exact Heap.lt_size (show h.get? a = some _ from x)
 | ext φ => obtain ⟨_, ⟨_, e⟩, _⟩ := x; exact Heap.lt_size e
theorem Paired.mapP {α β : Type} {F G : α -> β -> Prop} : ∀ {l₁ : List α} {l₂ : List β}, Paired F l₁ l₂ -> (∀ a b, F a b -> G a b) -> Paired G l₁ l₂
 | _, _, .nil, _ => .nil
 | _, _, .cons r t, f => .cons (f _ _ r) (Paired.mapP t f)
theorem zP.stay (x : zP P w H h a o) (k : ∀ b u, (b = a \/ H b = some (.own a)) -> h.get? b = some u -> h'.get? b = some u)
  (ho : ∀ b, H b = some (.own a) -> H' b = some (.own a)) (ht : ∀ b xs, H b = some (.tup xs) -> H' b = some (.tup xs)) : zP P w H' h' a o := by
 induction o with
 | lst xs => obtain ⟨z, its, n, r, e⟩ := x; exact ⟨z, its, n, r, k _ _ (.inl rfl) e⟩
 | tup xs => obtain ⟨z, its, r, ob, e, c⟩ := x; exact ⟨z, its, r, ob, k _ _ (.inl rfl) e, c⟩
 | dK kvs => obtain ⟨z, y, vs, r, ob, es, ep, e, c⟩ := x; exact ⟨z, y, vs, r, ob, es, ep, k _ _ (.inl rfl) e, c⟩
 | dT kvs =>
  obtain ⟨z, y, xs, r, ob, es, ep, e, c⟩ := x
  exact ⟨z, y, xs, Paired.mapP r fun p q z => ⟨z.1, ht _ _ z.2.1, z.2.2⟩, ob, es, ep, k _ _ (.inl rfl) e, c⟩
 | set S n => obtain ⟨ob, es, ep, t, e, c⟩ := x; exact ⟨ob, es, ep, t, k _ _ (.inl rfl) e, c⟩
 | ins C dx fs =>
  obtain ⟨d, z, ne, e, mA, ⟨od, es, ep, e2, c⟩, r⟩ := x
  exact ⟨ho _ d, z, ne, k _ _ (.inl rfl) e, mA, ⟨od, es, ep, k _ _ (.inr d) e2, c⟩, r⟩
 | own y => obtain ⟨ob, e⟩ := x; exact ⟨ob, k _ _ (.inl rfl) e⟩
 | xd fs => obtain ⟨mA, ⟨od, es, ep, e, c⟩, r⟩ := x; exact ⟨mA, ⟨od, es, ep, k _ _ (.inl rfl) e, c⟩, r⟩
 | rng lo hi => obtain ⟨t, u, v, e⟩ := x; exact ⟨t, u, v, k _ _ (.inl rfl) e⟩
 | frz ob u ih => obtain ⟨e, q⟩ := x; exact ⟨k _ _ (.inl rfl) e, ih q⟩
 | tbl ps =>
  have e : h.get? a = some { cls := .none, data := .fields ps } := x
  show h'.get? a = some { cls := .none, data := .fields ps }
  exact k a _ (.inl rfl) e
 | met f y =>
  have e : h.get? a = some (PySem.W.methodObj (.ref f) (.ref y)) := x
  show h'.get? a = some (PySem.W.methodObj (.ref f) (.ref y))
  exact k a _ (.inl rfl) e
 | ext φ => obtain ⟨p, ⟨o, e⟩, st⟩ := x; exact ⟨st _ _ p fun o q => k _ _ (.inl rfl) q, ⟨o, k _ _ (.inl rfl) e⟩, st⟩
theorem HOk.lt (x : HOk P w H h) (e : H a = some o) : a < h.objs.size := (x a o e).lt
theorem HOk.fresh (x : HOk P w H h) (e : h.objs.size <= a) : H a = none := by
 cases q : H a with
 | none => rfl
 | some u => exact absurd (Nat.lt_of_lt_of_le (x.lt q) e) (Nat.lt_irrefl _)
theorem HOk.kept (x : HOk P w H h) (k : ∀ b u, h.get? b = some u -> h'.get? b = some u) : HOk P w H h' := fun a o e =>
 (x a o e).stay (fun b u _ q => k b u q) (fun _ q => q) fun _ _ q => q
theorem HOk.laid (x : HOk P w H h) (k : ∀ b u, h.get? b = some u -> h'.get? b = some u) (hp : h.objs.size <= a) (new : zP P w (upd H a o) h' a o) : HOk P w (upd H a o) h' := fun b u e => by
 have hn := x.fresh hp
 by_cases hb : b = a
 ·subst hb; rw [ze] at e; cases e; exact new
 ·rw [zg hb] at e
  exact (x b u e).stay (fun c v _ q => k c v q) (fun c q => by rw [zg (zk q hn)]; exact q) fun c xs q => by rw [zg (zk q hn)]; exact q
end
noncomputable def Rd (H : Hp) (a : Addr) (u : HO) : Prop := H a = some u \/ ∃ o, H a = some (.frz o u)
theorem Rd.ok {P : Program} {w : World} {H : Hp} {h : Heap} {a : Addr} {u : HO} (r : Rd H a u) (x : HOk P w H h) : zP P w H h a u := by
 rcases r with r | ⟨o, r⟩
 ·exact x a u r
 ·obtain ⟨_, q⟩ := x a _ r
  exact q
noncomputable def Mut : Option HO -> Prop
 | some (.lst _) => True
 | some (.dK _) => True
 | some (.dT _) => True
 | some (.set _ _) => True
 | some (.ins _ _ _) => True
 | some (.ext _) => True
 | _ => False
section
variable {P : Program} {w : World} {H : Hp} {h h' : Heap} {x e : Addr} {o' : HO}
theorem HOk.write (ok : HOk P w H h) (mu : Mut (H x)) (he : e = x \/ H e = some (.own x)) (k : ∀ b u, b ≠ e -> h.get? b = some u -> h'.get? b = some u) (heo : ∃ u, h'.get? e = some u)
    (new : zP P w (upd H x o') h' x o') : HOk P w (upd H x o') h' := fun b u q => by
  have nown : ∀ c y, H c = some (.own y) -> c ≠ x := fun c y r z => by subst z; rw [r] at mu; exact mu
  have ntup : ∀ c xs, H c = some (.tup xs) -> c ≠ x := fun c xs r z => by subst z; rw [r] at mu; exact mu
  by_cases hb : b = x
  · subst hb; rw [ze] at q; cases q; exact new
  · rw [zg hb] at q
    by_cases hbe : b = e
    · have q' : H b = some (.own x) := by
        rcases he with z | z
        · exact absurd (hbe.trans z) hb
        · rw [hbe]; exact z
      rw [q] at q'; cases q'
      obtain ⟨v, hv⟩ := heo
      exact ⟨v, by rw [hbe]; exact hv⟩
    · refine (ok b u q).stay (fun c v hc r => k c v ?_ r) (fun c r => by rw [zg (nown c b r)]; exact r) fun c xs r => by rw [zg (ntup c xs r)]; exact r
      rcases hc with rfl | hc
      · exact hbe
      · rintro rfl
        rcases he with z | z
        · exact nown c b hc z
        · rw [hc] at z; cases z; exact hb rfl
end
structure Un (fs ex : List Addr) (H H' : Hp) (h h' : Heap) : Prop where
 keep : ∀ b o, h.get? b = some o -> H b = none -> b ∉ fs -> b ∉ ex -> h'.get? b = some o
 slot : ∀ b o, h.get? b = some o -> H b = none -> b ∈ fs -> b ∉ ex -> ∃ sl, h'.get? b = some { o with slots := sl }
 free : ∀ b o, h.get? b = some o -> H b = none -> b ∉ ex -> H' b = none
 there : ∀ b o, h.get? b = some o -> b ∉ ex -> ∃ o', h'.get? b = some o'
 tups : ∀ b xs, H b = some (.tup xs) -> H' b = some (.tup xs)
 frzs : ∀ b o u, H b = some (.frz o u) -> H' b = some (.frz o u)
 tbls : ∀ b ps, H b = some (.tbl ps) -> ∃ more, H' b = some (.tbl (ps ++ more))
section
variable {fs fs' ex ex' : List Addr} {H H1 H2 : Hp} {h h1 h2 h' : Heap} {a x e : Addr} {o : HO}
theorem Un.any (u : Un fs ex H H1 h h1) {b : Addr} {ob : Obj} (q : h.get? b = some ob) (n : H b = none) (hx : b ∉ ex) : ∃ sl, h1.get? b = some { ob with slots := sl } := by
 by_cases hb : b ∈ fs
 ·exact u.slot b ob q n hb hx
 ·exact ⟨ob.slots, u.keep b ob q n hb hx⟩
theorem Un.kept (k : ∀ b u, h.get? b = some u -> h'.get? b = some u) : Un fs ex H H h h' :=
 ⟨fun b ob q _ _ _ => k b ob q, fun b ob q _ _ _ => ⟨ob.slots, k b ob q⟩, fun _ _ _ n _ => n, fun b ob q _ => ⟨ob, k b ob q⟩, fun _ _ q => q, fun _ _ _ q => q, fun _ ps q => ⟨#[], by rw [q]; simp⟩⟩
theorem Un.refl : Un fs ex H H h h := Un.kept fun _ _ q => q
theorem Un.laid (k : ∀ b u, h.get? b = some u -> h'.get? b = some u) (hp : h.objs.size <= a) (hn : H a = none) : Un fs ex H (upd H a o) h h' where
 keep := fun b u q _ _ _ => k b u q
 slot := fun b u q _ _ _ => ⟨u.slots, k b u q⟩
 free := fun b u q n _ => by rw [zg (Nat.ne_of_lt (Nat.lt_of_lt_of_le (Heap.lt_size q) hp))]; exact n
 there := fun b u q _ => ⟨u, k b u q⟩
 tups := fun b xs q => by rw [zg (zk q hn)]; exact q
 frzs := fun b u xs q => by rw [zg (zk q hn)]; exact q
 tbls := fun b ps q => ⟨#[], by rw [zg (zk q hn), q]; simp⟩
theorem Un.write (mu : Mut (H x)) (he : e = x \/ H e = some (.own x)) (k : ∀ b u, b ≠ e -> h.get? b = some u -> h'.get? b = some u) (heo : ∃ u, h'.get? e = some u) : Un fs ex H (upd H x o) h h' := by
 have hx : ∀ b, H b = none -> b ≠ x := fun b n z => by subst z; rw [n] at mu; exact mu
 have hb : ∀ b, H b = none -> b ≠ e := fun b n z => by
  subst z
  rcases he with r | r
  ·exact hx b n r
  ·rw [n] at r; cases r
 have hm : ∀ b u, H b = some u -> ¬ Mut (some u) -> b ≠ x := fun b u q nm z => by subst z; rw [q] at mu; exact nm mu
 refine ⟨fun b u q n _ _ => k b u (hb b n) q, fun b u q n _ _ => ⟨u.slots, k b u (hb b n) q⟩, fun b u q n _ => by rw [zg (hx b n)]; exact n, fun b u q _ => ?_,
  fun b xs q => by rw [zg (hm b _ q fun z => z)]; exact q, fun b u xs q => by rw [zg (hm b _ q fun z => z)]; exact q, fun b ps q => ⟨#[], by rw [zg (hm b _ q fun z => z), q]; simp⟩⟩
 by_cases hbe : b = e
 ·subst hbe; exact heo
 ·exact ⟨u, k b u hbe q⟩
end
noncomputable def trk (h : Heap) (H : Hp) : List Addr := (List.range h.objs.size).filter fun a => (H a).isSome
noncomputable def vF (h : Heap) (H : Hp) : Heap := PySem.W.hideAll h (trk h H)
theorem JF (h : Heap) (H : Hp) : (vF h H).objs.size = h.objs.size := PySem.W.hideAll_size _ _
theorem YO {h : Heap} {H : Hp} {b : Addr} {o : Obj} (e : h.get? b = some o) (n : H b = none) : (vF h H).get? b = some o :=
 PySem.W.hideAll_get _ e fun hm => by
  have q : (H b).isSome = true := (List.mem_filter.mp hm).2
  rw [n] at q; simp at q
theorem VJ {h : Heap} {H : Hp} {b : Addr} {o : Obj} (e : (vF h H).get? b = some o) : h.get? b = some o /\ H b = none := by
 have e' : h.get? b = some o := PySem.W.of_hideAll (trk h H) e
 refine ⟨e', ?_⟩
 cases q : H b with
 | none => rfl
 | some x =>
  have hm : b ∈ trk h H := List.mem_filter.mpr ⟨List.mem_range.mpr (Heap.lt_size e'), by simp [q]⟩
  have z : (vF h H).get? b = none := PySem.W.hideAll_none (trk h H) hm
  rw [z] at e; cases e
noncomputable def VD (g h : Heap) (L : Addr) : List (Addr × Obj) := (List.range h.objs.size).filterMap fun a => if a = L \/ (g.get? a).isSome = true then none else (h.get? a).map fun o => (a, o)
noncomputable def qm (g h : Heap) (L d : Addr) : List (Addr × Obj) := (VD g h L).filter fun p => decide (p.1 ≠ d)
end L2
namespace L2
open PySem PySem.Spec PyProof.Rows
structure Mod (K : PySem.W.Frag) (mg : Str -> Option Value) (base : Heap) : Prop where
 kin : K.In base
 glob : base.Ns mainGlobals mg
 blt : ∃ mb, base.Ns builtinsNs mb /\ ∀ x : Str, x ≠ "__name__" -> mb x = bootBuiltins x
 nolimit : base.NoLimit
structure Cx where
 prog : Program
 w : World
 K : PySem.W.Frag
 mg : Str -> Option Value
 base : Heap
 A : Around
 N : List Str
 s₀ : Shared
 H₀ : Hp
 env : Env
 outer : List Env
 stack : List Env
 ex : List Addr
 fn : Str -> Bool
 calm : Bool
 pn : List (Addr × Obj)
 xe : Value -> Shared -> Prop
noncomputable def frs (l : List Env) : List Addr := l.filterMap (·.frame)
noncomputable abbrev Cx.fs (X : Cx) : List Addr := frs X.outer
noncomputable def Vis (sc : Scope) (x : Str) : Prop := sc.names.lookup x = some .local \/ sc.names.lookup x = some .cell \/ sc.names.lookup x = some .free
noncomputable def Loc (sc : Scope) (x : Str) : Prop := sc.names.lookup x = some .local \/ sc.names.lookup x = some .cell
noncomputable def FL (env : Env) (h : Heap) (m : Str -> Option Value) (x : Str) (u : Value) : Prop :=
 (env.kindOf x = some .local /\ m x = some u) \/ ((env.kindOf x = some .cell \/ env.kindOf x = some .free) /\ ∃ c, env.cells.lookup x = some c /\ h.IsCell c (some u))
structure Cx.Ok (X : Cx) : Prop where
 mod : Mod X.K X.mg X.base
 kind : X.env.scope.kind = .function
 glob : X.env.globals = mainGlobals
 blt : X.env.builtins = builtinsNs
 above : X.s₀.heap.objs.size <= X.env.locals
 inj : ∀ x y c, X.env.cells.lookup x = some c -> X.env.cells.lookup y = some c -> x = y
 has : ∀ x, (X.env.kindOf x = some .cell \/ X.env.kindOf x = some .free) -> ∃ c, X.env.cells.lookup x = some c
 cab : ∀ x c, X.fn x = true -> X.env.cells.lookup x = some c -> X.s₀.heap.objs.size <= c
 hd : X.calm = true -> X.A.handled = none
 frames : X.A.frames = some X.stack
 stk : X.stack = X.outer \/ (X.stack = X.env :: X.outer /\ X.env.frame = some X.env.locals)
 exf : ∀ b ∈ X.ex, b ≠ X.env.locals /\ ∀ x c, X.env.cells.lookup x = some c -> c ≠ b
 bs : ∀ b o, X.base.get? b = some o -> X.s₀.heap.get? b = some o /\ X.H₀ b = none
 bsz : X.base.objs.size <= X.s₀.heap.objs.size
 noex : ∀ b o, X.base.get? b = some o -> b ∉ X.ex
 exfs : ∀ b ∈ X.ex, b ∉ X.fs
 funs : X.s₀.heap.FunFrames X.base X.outer
 frf : ∀ b ∈ X.fs, X.H₀ b = none
structure Inv (X : Cx) (pins : List (Addr × Obj)) (σ : List (Option V)) (H : Hp) (s : Shared) : Prop where
 ok : X.Ok
 os : s.os = X.s₀.os
 bare : AllBare s.gens
 base : Un X.fs X.ex X.H₀ H X.s₀.heap s.heap
 loc : ∃ m, s.heap.Ns X.env.locals m /\ ∀ (i : Nat) (x : Str) (v : V), X.N[i]? = some x -> σ[i]? = some (some v) -> Vis X.env.scope x -> ∃ u, zA v u /\ FL X.env s.heap m x u
 cell : ∀ x c, X.env.cells.lookup x = some c -> ∃ v, s.heap.IsCell c v
 free : H X.env.locals = none
 freeC : ∀ x c, X.env.cells.lookup x = some c -> H c = none
 pin : ∀ p ∈ X.pn ++ pins, s.heap.get? p.1 = some p.2 /\ H p.1 = none /\ p.1 ≠ X.env.locals /\ p.1 ∉ X.fs /\ ∀ v, p.2.data ≠ .cell v
 hok : HOk X.prog X.w H s.heap
 len : σ.length = X.N.length
section
variable {X : Cx} {pins : List (Addr × Obj)} {σ : List (Option V)} {H H' : Hp} {s : Shared} {h' : Heap}
theorem Cx.Ok.nofr (ok : X.Ok) {b : Addr} {o : Obj} (e : X.base.get? b = some o) : b ∉ X.fs := fun hb => by
 have := (ok.funs.mem hb).1
 rw [e] at this; cases this
theorem Inv.bs (I : Inv X pins σ H s) : ∀ b o, X.base.get? b = some o -> s.heap.get? b = some o /\ H b = none := fun b o e =>
 ⟨I.base.keep b o (I.ok.bs b o e).1 (I.ok.bs b o e).2 (I.ok.nofr e) (I.ok.noex b o e), I.base.free b o (I.ok.bs b o e).1 (I.ok.bs b o e).2 (I.ok.noex b o e)⟩
theorem Inv.bk (I : Inv X pins σ H s) : ∀ b o, X.base.get? b = some o -> s.heap.get? b = some o := fun b o e => (I.bs b o e).1
theorem Inv.mod (I : Inv X pins σ H s) : Mod X.K X.mg X.base := I.ok.mod
theorem Inv.kIn (I : Inv X pins σ H s) : X.K.In s.heap := I.ok.mod.kin.keeps I.bk
theorem Inv.lt (I : Inv X pins σ H s) : X.env.locals < s.heap.objs.size := let ⟨_, hn, _⟩ := I.loc; hn.lt
theorem Inv.sz (I : Inv X pins σ H s) : X.s₀.heap.objs.size <= s.heap.objs.size := Nat.le_trans I.ok.above (Nat.le_of_lt I.lt)
theorem Inv.nofs (I : Inv X pins σ H s) {a : Addr} (h : s.heap.objs.size <= a) : a ∉ X.fs := fun hb => by
 obtain ⟨_, o, ho, _⟩ := I.ok.funs.mem hb
 exact absurd (Nat.lt_of_lt_of_le (Heap.lt_size ho) (Nat.le_trans I.sz h)) (Nat.lt_irrefl _)
theorem Inv.cne (I : Inv X pins σ H s) : ∀ x c, X.env.cells.lookup x = some c -> c ≠ X.env.locals := fun x c e z => by
 obtain ⟨v, o, ho, hd⟩ := I.cell x c e
 obtain ⟨m, ⟨o', es, ep, ho', hd', _⟩, _⟩ := I.loc
 rw [z, ho'] at ho; cases ho; rw [hd'] at hd; cases hd
theorem Inv.funs (I : Inv X pins σ H s) : s.heap.FunFrames X.base X.outer := by
 have all : ∀ (l : List Env), (∀ b ∈ frs l, b ∈ X.fs) -> X.s₀.heap.FunFrames X.base l -> s.heap.FunFrames X.base l := by
  intro l
  induction l with
  | nil => intro _ _; trivial
  | cons env r ih =>
   intro hs hl
   obtain ⟨hk, ⟨L, o, hf, hn, ho, hd⟩, hr⟩ := hl
   have hL : L ∈ X.fs := hs L (by unfold frs; rw [List.filterMap_cons, hf]; exact List.mem_cons_self)
   obtain ⟨sl, e⟩ := I.base.slot L o ho (I.ok.frf L hL) hL fun z => I.ok.exfs L z hL
   exact ⟨hk, ⟨L, _, hf, hn, e, hd⟩, ih (fun b hb => hs b (by unfold frs; rw [List.filterMap_cons, hf]; exact List.mem_cons_of_mem _ hb)) hr⟩
 exact all X.outer (fun _ hb => hb) I.ok.funs
theorem Inv.stack (I : Inv X pins σ H s) : s.heap.FunFrames X.base X.stack := by
 rcases I.ok.stk with e | ⟨e, hf⟩
 ·rw [e]; exact I.funs
 ·rw [e]
  obtain ⟨m, hn, _⟩ := I.loc
  refine .cons (by rw [I.ok.kind]; decide) hf hn ?_ I.funs
  exact Heap.get?_none_of_le (Nat.le_trans I.ok.bsz I.ok.above)
theorem Inv.stkSub (I : Inv X pins σ H s) : ∀ b ∈ frs X.stack, b ∈ X.env.locals :: X.fs := fun b hb => by
 rcases I.ok.stk with e | ⟨e, hf⟩
 ·rw [e] at hb; exact List.mem_cons_of_mem _ hb
 ·rw [e] at hb
  unfold frs at hb
  rw [List.filterMap_cons, hf] at hb
  exact hb
theorem Inv.stkFree (I : Inv X pins σ H s) : ∀ b ∈ frs X.stack, H b = none := fun b hb => by
 rcases List.mem_cons.mp (I.stkSub b hb) with e | hb
 ·rw [e]; exact I.free
 ·obtain ⟨_, o, ho, _⟩ := I.ok.funs.mem hb
  exact I.base.free b o ho (I.ok.frf b hb) fun z => I.ok.exfs b z hb
theorem Inv.step {g' : Array GenState} {t' : Nat} {d' : Drawn} {ch : List Addr} (I : Inv X pins σ H s)
  (hch : ∀ b ∈ ch, (b ∈ X.ex \/ X.s₀.heap.objs.size <= b) /\ b ≠ X.env.locals /\ (∀ x c, X.env.cells.lookup x = some c -> c ≠ b) /\ ∀ p ∈ X.pn ++ pins, p.1 ≠ b)
  (keep : ∀ b o, b ≠ X.env.locals -> b ∉ X.fs -> b ∉ ch -> s.heap.get? b = some o -> H b = none -> h'.get? b = some o)
  (slot : ∀ b o, b ≠ X.env.locals -> b ∈ X.fs -> b ∉ ch -> s.heap.get? b = some o -> H b = none -> ∃ sl, h'.get? b = some { o with slots := sl }) (free : ∀ b o, b ∉ ch -> s.heap.get? b = some o -> H b = none -> H' b = none)
  (there : ∀ b o, b ∉ ch -> s.heap.get? b = some o -> ∃ o', h'.get? b = some o')
  (tups : ∀ b xs, H b = some (.tup xs) -> H' b = some (.tup xs)) (frzs : ∀ b o u, H b = some (.frz o u) -> H' b = some (.frz o u)) (tbls : ∀ b ps, H b = some (.tbl ps) -> ∃ more, H' b = some (.tbl (ps ++ more)))
  (ns : ∀ m, s.heap.Ns X.env.locals m -> h'.Ns X.env.locals m) (hok : HOk X.prog X.w H' h') (hg : AllBare g') :
  Inv X pins σ H' { s with heap := h', gens := g', drawn := d', toks := t' } := by
 have neL : ∀ b o, X.s₀.heap.get? b = some o -> b ≠ X.env.locals := fun b o e => Nat.ne_of_lt (Nat.lt_of_lt_of_le (Heap.lt_size e) I.ok.above)
 have neC : ∀ b o, X.s₀.heap.get? b = some o -> b ∉ X.ex -> b ∉ ch := fun b o e hx hb => by
  rcases (hch b hb).1 with z | z
  ·exact hx z
  ·exact absurd (Nat.lt_of_lt_of_le (Heap.lt_size e) z) (Nat.lt_irrefl _)
 have cellK : ∀ x c, X.env.cells.lookup x = some c -> ∀ v, s.heap.IsCell c v -> h'.IsCell c v := fun x c e v ⟨o, ho, hd⟩ => by
  have nch : c ∉ ch := fun z => (hch c z).2.2.1 x c e rfl
  by_cases hc : c ∈ X.fs
  ·obtain ⟨sl, q⟩ := slot c o (I.cne x c e) hc nch ho (I.freeC x c e)
   exact ⟨_, q, hd⟩
  ·exact ⟨o, keep c o (I.cne x c e) hc nch ho (I.freeC x c e), hd⟩
 refine ⟨I.ok, I.os, hg, ⟨fun b o e n hb hx => ?_, fun b o e n hb hx => ?_, fun b o e n hx => ?_, fun b o e hx => ?_, fun b xs e => tups b xs (I.base.tups b xs e), fun b o xs e => frzs b o xs (I.base.frzs b o xs e), fun b ps e => ?_⟩, ?_, fun x c e => ?_, ?_, fun x c e => ?_, fun p hp => ?_, hok, I.len⟩
 ·exact keep b o (neL b o e) hb (neC b o e hx) (I.base.keep b o e n hb hx) (I.base.free b o e n hx)
 ·obtain ⟨sl, e1⟩ := I.base.slot b o e n hb hx
  obtain ⟨sl', e2⟩ := slot b _ (neL b o e) hb (neC b o e hx) e1 (I.base.free b o e n hx)
  exact ⟨sl', e2⟩
 ·obtain ⟨o', e1⟩ := I.base.there b o e hx
  exact free b o' (neC b o e hx) e1 (I.base.free b o e n hx)
 ·obtain ⟨o', e1⟩ := I.base.there b o e hx
  exact there b o' (neC b o e hx) e1
 ·obtain ⟨m1, e1⟩ := I.base.tbls b ps e
  obtain ⟨m2, e2⟩ := tbls b _ e1
  exact ⟨m1 ++ m2, by rw [e2, Array.append_assoc]⟩
 ·obtain ⟨m, hn, hl⟩ := I.loc
  refine ⟨m, ns m hn, fun i x v e1 e2 e3 => ?_⟩
  obtain ⟨u, r, l⟩ := hl i x v e1 e2 e3
  refine ⟨u, r, ?_⟩
  rcases l with l | ⟨k, c, e, z⟩
  ·exact .inl l
  ·exact .inr ⟨k, c, e, cellK x c e _ z⟩
 ·obtain ⟨v, z⟩ := I.cell x c e
  exact ⟨v, cellK x c e v z⟩
 ·obtain ⟨m, ⟨o, _, _, ho, _⟩, _⟩ := I.loc
  exact free _ o (fun z => (hch _ z).2.1 rfl) ho I.free
 ·obtain ⟨v, o, ho, hd⟩ := I.cell x c e
  exact free c o (fun z => (hch c z).2.2.1 x c e rfl) ho (I.freeC x c e)
 ·obtain ⟨e, n, ne, nf, d⟩ := I.pin p hp
  have nch : p.1 ∉ ch := fun z => (hch p.1 z).2.2.2 p hp rfl
  exact ⟨keep p.1 p.2 ne nf nch e n, free p.1 p.2 nch e n, ne, nf, d⟩
theorem Inv.un {t' : Nat} (I : Inv X pins σ H s) (u : Un X.fs [] H H' s.heap h') (hok : HOk X.prog X.w H' h') : Inv X pins σ H' { s with heap := h', toks := t' } := by
 obtain ⟨m, ⟨o, es, ep, ho, r⟩, _⟩ := id I.loc
 obtain ⟨sl, hL⟩ := u.any ho I.free (by simp)
 exact I.step (g' := s.gens) (d' := s.drawn) (ch := []) (fun _ z => nomatch z) (fun b o _ hb _ e n => u.keep b o e n hb (by simp)) (fun b o _ hb _ e n => u.slot b o e n hb (by simp)) (fun b o _ e n => u.free b o e n (by simp)) (fun b o _ e => u.there b o e (by simp)) u.tups u.frzs u.tbls (fun m' hm => by
  obtain ⟨o', es', ep', ho', r'⟩ := hm
  rw [ho] at ho'; cases ho'
  exact ⟨_, es', ep', hL, r'⟩) hok I.bare
theorem Inv.call {g' : Array GenState} {t' : Nat} {d' : Drawn} {ch : List Addr} (I : Inv X pins σ H s) (u : Un (frs X.stack) ch H H' s.heap h') (hok : HOk X.prog X.w H' h') (hg : AllBare g')
  (hch : ∀ b ∈ ch, (b ∈ X.ex \/ X.s₀.heap.objs.size <= b) /\ b ≠ X.env.locals /\ (∀ x c, X.env.cells.lookup x = some c -> c ≠ b) /\ ∀ p ∈ X.pn ++ pins, p.1 ≠ b) :
  Inv X pins σ H' { s with heap := h', gens := g', drawn := d', toks := t' } := by
 obtain ⟨m, ⟨o, es, ep, ho, r⟩, _⟩ := id I.loc
 obtain ⟨sl, hL⟩ := u.any ho I.free fun z => (hch _ z).2.1 rfl
 exact I.step (ch := ch) hch (fun b o hL hb hc e n => u.keep b o e n (fun z => (List.mem_cons.mp (I.stkSub b z)).elim hL hb) hc) (fun b o _ _ hc e n => u.any e n hc) (fun b o hc e n => u.free b o e n hc) (fun b o hc e => u.there b o e hc) u.tups u.frzs u.tbls (fun m' hm => by
  obtain ⟨o', es', ep', ho', r'⟩ := hm
  rw [ho] at ho'; cases ho'
  exact ⟨_, es', ep', hL, r'⟩) hok hg
theorem Inv.turned {t' : Nat} {it : Addr} (I : Inv X pins σ H s) (k : ∀ b o, b ≠ it -> s.heap.get? b = some o -> h'.get? b = some o) (hn : H it = none) (hL : it ≠ X.env.locals)
  (h1 : it ∈ X.ex \/ X.s₀.heap.objs.size <= it) (h2 : ∀ x c, X.env.cells.lookup x = some c -> c ≠ it) (h3 : ∀ p ∈ X.pn ++ pins, p.1 ≠ it) : Inv X pins σ H { s with heap := h', toks := t' } := by
 have nit : ∀ b u, H b = some u -> b ≠ it := fun b u e z => by rw [z, hn] at e; cases e
 refine I.step (g' := s.gens) (d' := s.drawn) (ch := [it]) (fun b hb => ?_) (fun b o _ _ hc e _ => k b o (fun z => hc (by simp [z])) e) (fun b o _ _ hc e _ => ⟨o.slots, k b o (fun z => hc (by simp [z])) e⟩) (fun _ _ _ _ n => n)
  (fun b o hc e => ⟨o, k b o (fun z => hc (by simp [z])) e⟩) (fun _ _ e => e) (fun _ _ _ e => e) (fun b ps e => ⟨#[], by rw [e]; simp⟩) (fun m hm => ?_) (fun b u e => ?_) I.bare
 ·have e : b = it := by simpa using hb
  subst e
  exact ⟨h1, hL, h2, h3⟩
 ·obtain ⟨o, es, ep, ho, r⟩ := hm
  exact ⟨o, es, ep, k _ o (Ne.symm hL) ho, r⟩
 ·refine (I.hok b u e).stay (fun c v hc q => k c v ?_ q) (fun _ q => q) fun _ _ q => q
  rcases hc with z | z
  ·rw [z]; exact nit b u e
  ·exact nit c _ z
theorem Inv.tok (I : Inv X pins σ H s) (t : Nat) : Inv X pins σ H { s with toks := t } := I.un (h' := s.heap) (t' := t) Un.refl I.hok
theorem Inv.kept {t' : Nat} (I : Inv X pins σ H s) (k : ∀ b u, s.heap.get? b = some u -> h'.get? b = some u) : Inv X pins σ H { s with heap := h', toks := t' } := I.un (Un.kept k) (I.hok.kept k)
theorem Inv.laid {a : Addr} {o : HO} {t' : Nat} (I : Inv X pins σ H s) (k : ∀ b u, s.heap.get? b = some u -> h'.get? b = some u) (hp : s.heap.objs.size <= a) (new : zP X.prog X.w (upd H a o) h' a o) :
  Inv X pins σ (upd H a o) { s with heap := h', toks := t' } := I.un (Un.laid k hp (I.hok.fresh hp)) (I.hok.laid k hp new)
theorem Inv.write {x e : Addr} {o : HO} {t' : Nat} (I : Inv X pins σ H s) (mu : Mut (H x)) (he : e = x \/ H e = some (.own x)) (k : ∀ b u, b ≠ e -> s.heap.get? b = some u -> h'.get? b = some u) (heo : ∃ u, h'.get? e = some u)
  (new : zP X.prog X.w (upd H x o) h' x o) : Inv X pins σ (upd H x o) { s with heap := h', toks := t' } := I.un (Un.write mu he k heo) (I.hok.write mu he k heo new)
theorem Inv.pins_of {pins' : List (Addr × Obj)} (I : Inv X pins σ H s) (h : ∀ p ∈ pins', s.heap.get? p.1 = some p.2 /\ H p.1 = none /\ p.1 ≠ X.env.locals /\ p.1 ∉ X.fs /\ ∀ v, p.2.data ≠ .cell v) : Inv X pins' σ H s :=
 ⟨I.ok, I.os, I.bare, I.base, I.loc, I.cell, I.free, I.freeC, fun p hp => (List.mem_append.mp hp).elim (fun z => I.pin p (List.mem_append_left _ z)) (h p), I.hok, I.len⟩
theorem yd {N : List Str} (hN : N.Nodup) {i j : Nat} {x : Str} (a : N[i]? = some x) (b : N[j]? = some x) : i = j := by
 obtain ⟨h1, e1⟩ := List.getElem?_eq_some_iff.mp a
 obtain ⟨h2, e2⟩ := List.getElem?_eq_some_iff.mp b
 exact (List.getElem_inj hN).mp (e1.trans e2.symm)
theorem vy {M : Model} {A : Around} {E : Value -> Shared -> Prop} {i : Nat} {x : Str} {v : V} {u : Value} {Q : Unit -> Shared -> Prop} (I : Inv X pins σ H s) (hN : X.N.Nodup) (hi : X.N[i]? = some x) (hx : Loc X.env.scope x) (r : zA v u)
    (h : ∀ s', Inv X pins (σ.set i (some v)) H s' -> (∃ a, Heap.SameBut a s.heap s'.heap /\ (a = X.env.locals \/ X.env.cells.lookup x = some a)) -> Q () s') (hf : X.fn x = true \/ X.env.scope.names.lookup x = some .local := by first | exact .inl rfl | exact .inr rfl | assumption) : wpAny M A (storeName X.env x u) Q E s := by
  obtain ⟨m, hn, hl⟩ := id I.loc
  have hcls : (X.env.scope.kind == .class || (X.env.scope.kind == .module && X.env.locals != X.env.globals)) = false := by rw [I.ok.kind]; rfl
  have hiσ : i < σ.length := by rw [I.len]; exact (List.getElem?_eq_some_iff.mp hi).1
  have cne := I.cne
  have tracked : ∀ {a : Addr} {h' : Heap}, (∃ o, s.heap.get? a = some o /\ H a = none) -> Heap.SameBut a s.heap h' -> HOk X.prog X.w H h' := fun {a h'} ha hs b ob e => by
    obtain ⟨_, _, hfree⟩ := ha
    refine (I.hok b ob e).stay (fun c w' hc q => (hs.2 c ?_).trans q) (fun _ q => q) fun _ _ q => q
    rintro rfl
    rcases hc with rfl | hc
    · rw [hfree] at e; cases e
    · rw [hfree] at hc; cases hc
  rcases hx with hk | hk
  · refine wpAny_storeName_local hk hn (fun h' hn' hs => ?_) hcls
    obtain ⟨oL, _, _, hoL, _⟩ := id hn
    refine h _ ⟨I.ok, I.os, I.bare, ⟨fun b o e n hb hx => ?_, fun b o e n hb hx => ?_, I.base.free, fun b o e hx => ?_, I.base.tups, I.base.frzs, I.base.tbls⟩, ⟨_, hn', fun j y v' e1 e2 e3 => ?_⟩, fun y c e => ?_, I.free, I.freeC, fun p hp => ?_, tracked ⟨oL, hoL, I.free⟩ hs, by simpa using I.len⟩ ⟨_, hs, .inl rfl⟩
    · exact (hs.2 b (Nat.ne_of_lt (Nat.lt_of_lt_of_le (Heap.lt_size e) I.ok.above))).trans (I.base.keep b o e n hb hx)
    · obtain ⟨sl, e1⟩ := I.base.slot b o e n hb hx
      exact ⟨sl, (hs.2 b (Nat.ne_of_lt (Nat.lt_of_lt_of_le (Heap.lt_size e) I.ok.above))).trans e1⟩
    · obtain ⟨o', e1⟩ := I.base.there b o e hx
      exact ⟨o', (hs.2 b (Nat.ne_of_lt (Nat.lt_of_lt_of_le (Heap.lt_size e) I.ok.above))).trans e1⟩
    · by_cases hj : j = i
      · subst hj
        rw [hi] at e1; cases e1
        rw [List.getElem?_set_self hiσ] at e2
        cases e2
        exact ⟨u, r, .inl ⟨hk, by simp⟩⟩
      · rw [List.getElem?_set_ne (Ne.symm hj)] at e2
        obtain ⟨u', r', q⟩ := hl j y v' e1 e2 e3
        refine ⟨u', r', ?_⟩
        rcases q with ⟨k, e⟩ | ⟨k, c, e, z⟩
        · refine .inl ⟨k, ?_⟩
          have : y ≠ x := fun e => hj (yd hN e1 (e ▸ hi))
          simp [this, e]
        · exact .inr ⟨k, c, e, z.sameBut hs (cne y c e)⟩
    · obtain ⟨w', z⟩ := I.cell y c e
      exact ⟨w', z.sameBut hs (cne y c e)⟩
    · obtain ⟨e, n, ne, nf, d⟩ := I.pin p hp
      exact ⟨(hs.2 p.1 ne).trans e, n, ne, nf, d⟩
  · have hfn : X.fn x = true := by
      rcases hf with z | z
      · exact z
      · rw [z] at hk; cases hk
    obtain ⟨c, hc⟩ := I.ok.has x (.inl hk)
    obtain ⟨w', z⟩ := I.cell x c hc
    refine wpAny_storeName_cell I.ok.kind hk hc z (fun h' hc' hs => ?_)
    obtain ⟨oc, hoc, hocd⟩ := id z
    refine h { s with heap := h' } ⟨I.ok, I.os, I.bare, ⟨fun b o e n hb hx => ?_, fun b o e n hb hx => ?_, I.base.free, fun b o e hx => ?_, I.base.tups, I.base.frzs, I.base.tbls⟩, ⟨m, hn.sameBut hs (Ne.symm (cne x c hc)), fun j y v' e1 e2 e3 => ?_⟩, fun y c' e => ?_, I.free, I.freeC, fun p hp => ?_, tracked ⟨oc, hoc, I.freeC x c hc⟩ hs, by simpa using I.len⟩ ⟨c, hs, .inr hc⟩
    · exact (hs.2 b (Nat.ne_of_lt (Nat.lt_of_lt_of_le (Heap.lt_size e) (I.ok.cab x c hfn hc)))).trans (I.base.keep b o e n hb hx)
    · obtain ⟨sl, e1⟩ := I.base.slot b o e n hb hx
      exact ⟨sl, (hs.2 b (Nat.ne_of_lt (Nat.lt_of_lt_of_le (Heap.lt_size e) (I.ok.cab x c hfn hc)))).trans e1⟩
    · obtain ⟨o', e1⟩ := I.base.there b o e hx
      exact ⟨o', (hs.2 b (Nat.ne_of_lt (Nat.lt_of_lt_of_le (Heap.lt_size e) (I.ok.cab x c hfn hc)))).trans e1⟩
    · by_cases hj : j = i
      · subst hj
        rw [hi] at e1; cases e1
        rw [List.getElem?_set_self hiσ] at e2
        cases e2
        exact ⟨u, r, .inr ⟨.inl hk, c, hc, hc'⟩⟩
      · rw [List.getElem?_set_ne (Ne.symm hj)] at e2
        obtain ⟨u', r', q⟩ := hl j y v' e1 e2 e3
        refine ⟨u', r', ?_⟩
        rcases q with q | ⟨k, c', e, z'⟩
        · exact .inl q
        · refine .inr ⟨k, c', e, z'.sameBut hs ?_⟩
          rintro rfl
          exact hj (yd hN e1 (I.ok.inj _ _ _ e hc ▸ hi))
    · by_cases hcc : c' = c
      · subst hcc; exact ⟨_, hc'⟩
      · obtain ⟨w2, z2⟩ := I.cell y c' e
        exact ⟨w2, z2.sameBut hs hcc⟩
    · obtain ⟨e, n, ne, nf, d⟩ := I.pin p hp
      refine ⟨(hs.2 p.1 ?_).trans e, n, ne, nf, d⟩
      intro q
      rw [q, hoc] at e
      have q' : oc = p.2 := Option.some.inj e
      exact d w' (by rw [<- q']; exact hocd)
theorem qS {M : Model} {A : Around} {E : Value -> Shared -> Prop} {i : Nat} {x : Str} {v : V} {u : Value} {Q : Unit -> Shared -> Prop} (I : Inv X pins σ H s) (hN : X.N.Nodup) (hi : X.N[i]? = some x) (hx : Loc X.env.scope x) (r : zA v u)
  (h : ∀ s', Inv X pins (σ.set i (some v)) H s' -> Q () s') (hf : X.fn x = true \/ X.env.scope.names.lookup x = some .local := by first | exact .inl rfl | exact .inr rfl | assumption) : wpAny M A (storeName X.env x u) Q E s :=
 vy I hN hi hx r (fun s' I' _ => h s' I') hf
theorem Inv.call' {s' : Shared} {ch : List Addr} (I : Inv X pins σ H s) (ho : s'.os = s.os) (u : Un (frs X.stack) ch H H' s.heap s'.heap) (hok : HOk X.prog X.w H' s'.heap) (hg : AllBare s'.gens)
  (hch : ∀ b ∈ ch, (b ∈ X.ex \/ X.s₀.heap.objs.size <= b) /\ b ≠ X.env.locals /\ (∀ x c, X.env.cells.lookup x = some c -> c ≠ b) /\ ∀ p ∈ X.pn ++ pins, p.1 ≠ b) : Inv X pins σ H' s' := by
 obtain ⟨h', g', d', t', o'⟩ := s'
 have e : o' = s.os := ho
 subst e
 exact I.call (g' := g') (t' := t') (d' := d') u hok hg hch
end
noncomputable abbrev XK := Value -> Option Addr -> Hp -> Prop
noncomputable abbrev St := List (Option V)
noncomputable abbrev VK := V -> Hp -> Prop
noncomputable abbrev TE := St -> Hp -> VK -> Prop
noncomputable abbrev TT := St -> Hp -> (Bool -> Hp -> Prop) -> Prop
noncomputable abbrev TA := St -> Hp -> (List V -> Hp -> Prop) -> Prop
structure jB where
 nx : St -> Hp -> Prop
 rt : VK
 bk : St -> Hp -> Prop := fun _ _ => False
 ct : St -> Hp -> Prop := fun _ _ => False
noncomputable abbrev TS := jB -> St -> Hp -> Prop
noncomputable def EP (X : Cx) (pins : List (Addr × Obj)) (σ : St) (Q : VK) (u : Value) (s' : Shared) : Prop := ∃ v H', Inv X pins σ H' s' /\ zA v u /\ Q v H'
noncomputable def TP (X : Cx) (pins : List (Addr × Obj)) (σ : St) (Q : Bool -> Hp -> Prop) (b : Bool) (s' : Shared) : Prop := ∃ H', Inv X pins σ H' s' /\ Q b H'
noncomputable def AP (X : Cx) (pins : List (Addr × Obj)) (σ : St) (Q : List V -> Hp -> Prop) (us : List Value) (s' : Shared) : Prop := ∃ vs H', Inv X pins σ H' s' /\ zB vs us /\ Q vs H'
noncomputable def SP (X : Cx) (pins : List (Addr × Obj)) (D : jB) (f : Flow) (s' : Shared) : Prop :=
 match f with
 | .next => ∃ σ' H', Inv X pins σ' H' s' /\ D.nx σ' H'
 | .brk => ∃ σ' H', Inv X pins σ' H' s' /\ D.bk σ' H'
 | .cont => ∃ σ' H', Inv X pins σ' H' s' /\ D.ct σ' H'
 | .ret u => ∃ v σ' H', Inv X pins σ' H' s' /\ zA v u /\ D.rt v H'
noncomputable def PE (X : Cx) (e : Expr) (t : TE) : Prop :=
 ∀ (pins : List (Addr × Obj)) (s : Shared) (σ : St) (H : Hp) (Q : VK), Inv X pins σ H s -> t σ H Q -> wpAny (model X.prog X.w) X.A (eval e X.env) (EP X pins σ Q) X.xe s
noncomputable def PT (X : Cx) (e : Expr) (t : TT) : Prop :=
 ∀ (pins : List (Addr × Obj)) (s : Shared) (σ : St) (H : Hp) (Q : Bool -> Hp -> Prop), Inv X pins σ H s -> t σ H Q -> wpAny (model X.prog X.w) X.A (isTrue e X.env (eval e X.env)) (TP X pins σ Q) X.xe s
noncomputable def PW (X : Cx) (e : Expr) (t : TT) : Prop :=
 ∀ (whole : Sem Value) (pins : List (Addr × Obj)) (s : Shared) (σ : St) (H : Hp) (Q : Bool -> Hp -> Prop), Inv X pins σ H s -> t σ H Q -> wpAny (model X.prog X.w) X.A (isTrue e X.env whole) (TP X pins σ Q) X.xe s
theorem PW.pt {X : Cx} {e : Expr} {t : TT} (h : PW X e t) : PT X e t := h _
noncomputable def PA (X : Cx) (es : List Expr) (t : TA) : Prop :=
 ∀ (pos : Pos) (pins : List (Addr × Obj)) (s : Shared) (σ : St) (H : Hp) (Q : List V -> Hp -> Prop), Inv X pins σ H s -> t σ H Q -> wpAny (model X.prog X.w) X.A (spliced (backTo pos (starEach es X.env))) (AP X pins σ Q) X.xe s
noncomputable def PS (X : Cx) (st : Stmt) (t : TS) : Prop :=
 ∀ (pins : List (Addr × Obj)) (s : Shared) (σ : St) (H : Hp) (D : jB), Inv X pins σ H s -> t D σ H -> wpAny (model X.prog X.w) X.A (exec st X.env) (SP X pins D) X.xe s
noncomputable def PSs (X : Cx) (st : List Stmt) (t : TS) : Prop :=
 ∀ (pins : List (Addr × Obj)) (s : Shared) (σ : St) (H : Hp) (D : jB), Inv X pins σ H s -> t D σ H -> wpAny (model X.prog X.w) X.A (execs st X.env) (SP X pins D) X.xe s
theorem thn {α : Type} {t : Sem α} {Q Q' : α -> Shared -> Prop} {M : Model} {A : Around} {E : Value -> Shared -> Prop} {s : Shared} (h : wpAny M A t Q E s) (hQ : ∀ a s, Q a s -> Q' a s) : wpAny M A t Q' E s := wpAny_mono h hQ fun _ _ x => x
end L2
namespace L2
open PySem PySem.Spec PyProof.Rows
section
variable {X : Cx}
theorem bin {a b : Expr} {ta tb : TE} (ha : PE X a ta) (hb : PE X b tb) {pins : List (Addr × Obj)} {s : Shared} {σ : St} {H : Hp} {R : V -> V -> Hp -> Prop} (I : Inv X pins σ H s) (h : ta σ H fun x H1 => tb σ H1 fun y H2 => R x y H2)
  {α : Type} {Q : α -> Shared -> Prop} {f : Value -> Value -> Sem α}
  (hf : ∀ v u s2 x y H2, Inv X pins σ H2 s2 -> zA x v -> zA y u -> R x y H2 -> wpAny (model X.prog X.w) X.A (f v u) Q X.xe s2) :
  wpAny (model X.prog X.w) X.A (eval a X.env) (fun v s₁ => wpAny (model X.prog X.w) X.A (eval b X.env) (fun u s₂ => wpAny (model X.prog X.w) X.A (f v u) Q X.xe s₂) X.xe s₁) X.xe s := by
 refine thn (ha pins s σ H _ I h) fun v s1 ⟨x, H1, I1, r1, q1⟩ => ?_
 refine thn (hb pins s1 σ H1 _ I1 q1) fun u s2 ⟨y, H2, I2, r2, q2⟩ => ?_
 exact hf v u s2 x y H2 I2 r1 r2 q2
noncomputable def VH (i : Nat) : TE := fun σ H Q => ∃ v, σ[i]? = some (some v) /\ Q v H
noncomputable def tC (v : V) : TE := fun _ H Q => Q v H
theorem Ej {i : Nat} {x : Str} {pos : Pos} (hN : X.N[i]? = some x) (hv : Vis X.env.scope x) (hd : (x == ("__debug__" : Str)) = false := by decide) (hcd : (x == ("__classdict__" : Str)) = false := by decide) : PE X (.Name x pos) (VH i) := by
 intro pins s σ H Q I h
 obtain ⟨v, e, h⟩ := h
 obtain ⟨m, hn, hl⟩ := I.loc
 obtain ⟨u, r, l⟩ := hl i x v hN e hv
 have fin : EP X pins σ Q u s := ⟨v, H, I, r, h⟩
 rcases l with ⟨hk, hm⟩ | ⟨hk, c, hc, hcell⟩
 ·exact wpAny_Name (wpAny_loadName_local I.ok.kind hk hn hm fin) hd
 ·rcases hk with hk | hk
  ·exact wpAny_Name (wpAny_loadName_cell I.ok.kind hk hc hcell fin) hd
  ·exact wpAny_Name (wpAny_loadName_free I.ok.kind hk hc hcell fin hcd) hd
theorem zd {i j pos} : PE X (.Constant (.int i) j pos) (tC (.int i)) := fun _ _ _ H _ I h => wpAny_Constant_int ⟨.int i, H, I.tok _, ⟨_, rfl⟩, h⟩
theorem kh {b j pos} : PE X (.Constant (.bool b) j pos) (tC (.bl b)) := fun _ _ _ H _ I h => Constant_bool ⟨.bl b, H, I, rfl, h⟩
theorem zJ {j pos} : PE X (.Constant .none j pos) (tC .non) := fun _ _ _ H _ I h => Constant_none ⟨.non, H, I, rfl, h⟩
theorem zn {x j pos} : PE X (.Constant (.str x) j pos) (tC (.str x)) := fun _ _ _ H _ I h => Calls.Constant_str ⟨.str x, H, I.tok _, ⟨_, rfl⟩, h⟩
noncomputable def Gl (X : Cx) (x : Str) : Prop := X.env.kindOf x = some .globalImplicit
theorem jG {E : Value -> Shared -> Prop} {pins : List (Addr × Obj)} {s : Shared} {σ : St} {H : Hp} {x : Str} {u : Value} {pos : Pos} {Q : Value -> Shared -> Prop} (I : Inv X pins σ H s) (hg : Gl X x) (hm : X.mg x = some u) (h : Q u s)
  (hd : (x == ("__debug__" : Str)) = false := by decide) : wpAny (model X.prog X.w) X.A (eval (.Name x pos) X.env) Q E s :=
 Calls.Name_function_global I.ok.kind hg (Calls.loadGlobal_global (by rw [I.ok.glob]; exact I.mod.glob.keeps I.bk) hm h) hd
theorem jq {E : Value -> Shared -> Prop} {pins : List (Addr × Obj)} {s : Shared} {σ : St} {H : Hp} {x : Str} {u : Value} {pos : Pos} {Q : Value -> Shared -> Prop} (I : Inv X pins σ H s) (hg : Gl X x) (hm : X.mg x = none) (hv : bootBuiltins x = some u) (h : Q u s)
  (hn : x ≠ "__name__" := by decide) (hd : (x == ("__debug__" : Str)) = false := by decide) : wpAny (model X.prog X.w) X.A (eval (.Name x pos) X.env) Q E s := by
 obtain ⟨mb, h1, h2⟩ := I.mod.blt
 exact Calls.Name_function_global I.ok.kind hg (Calls.loadGlobal_builtin (by rw [I.ok.glob]; exact I.mod.glob.keeps I.bk) hm (by rw [I.ok.blt]; exact h1.keeps I.bk) ((h2 x hn).trans hv) h) hd
theorem zS {x : Str} {v : V} {u : Value} {pos : Pos} (hg : Gl X x) (hm : X.mg x = none) (hv : bootBuiltins x = some u) (r : zA v u) (hn : x ≠ "__name__" := by decide) (hd : (x == ("__debug__" : Str)) = false := by decide) : PE X (.Name x pos) (tC v) :=
 fun _ _ _ H _ I h => jq I hg hm hv ⟨v, H, I, r, h⟩ hn hd
variable {a b : Expr} {ta tb : TE} {pos : Pos}
noncomputable def PC (X : Cx) (op : CmpOp) (a b : Expr) (t : TE) : Prop :=
 ∀ (pins : List (Addr × Obj)) (s : Shared) (σ : St) (H : Hp) (Q : VK), Inv X pins σ H s -> t σ H Q ->
  wpAny (model X.prog X.w) X.A (eval a X.env) (fun v s₁ => wpAny (model X.prog X.w) X.A (eval b X.env) (fun u s₂ => wpAny (model X.prog X.w) X.A (compareOp op v u) (EP X pins σ Q) X.xe s₂) X.xe s₁) X.xe s
theorem KJ (b : Expr) {op : CmpOp} (h : op ≠ .In) (h2 : op ≠ .NotIn) : behindInMarks op b = false := by
 have e1 : (op == CmpOp.In) = false := by cases op <;> first | rfl | exact absurd rfl h
 have e2 : (op == CmpOp.NotIn) = false := by cases op <;> first | rfl | exact absurd rfl h2
 cases b <;> simp [behindInMarks, e1, e2]
noncomputable def tB (t : TE) : TT := fun σ H Q => t σ H fun x H1 => ∃ c, x = .bl c /\ Q c H1
theorem FT {op : CmpOp} {t : TE} (h : PC X op a b t) (h1 : behindInMarks op b = false := by first | exact KJ _ (by decide) (by decide) | rfl) : PT X (.Compare a [op] [b] pos) (tB t) := by
 intro pins s σ H Q I hw
 refine wpAny_isTrue_Compare1 (thn (h pins s σ H _ I hw) fun v s1 h1 => thn h1 fun u s2 h2 => thn h2 fun c s3 ⟨x, H1, I1, r1, q1⟩ => ?_) h1
 obtain ⟨d, rfl, q⟩ := q1
 cases r1
 exact wpAny_truthy_bool ⟨H1, I1, q⟩
theorem qC {e : Expr} {t : TE} (h : PE X e t) (he : ∀ whole, isTrue e X.env whole = (do let v <- whole; standAt e.pos; holding [v] (truthy v)) := by intro _; rfl) : PT X e (tB t) := by
 intro pins s σ H Q I hw
 refine isTrue_plain (thn (h pins s σ H _ I hw) fun v s1 ⟨x, H1, I1, r1, q1⟩ => ?_) (he _)
 obtain ⟨d, rfl, q⟩ := q1
 cases r1
 exact wpAny_truthy_bool ⟨H1, I1, q⟩
variable {tA tB' : TT} {qm : List Expr}
noncomputable def EB (t u : TT) : TT := fun σ H Q => t σ H fun c H1 => if c = true then u σ H1 Q else Q false H1
noncomputable def tOr (t u : TT) : TT := fun σ H Q => t σ H fun c H1 => if c = true then Q true H1 else u σ H1 Q
noncomputable def DI (t : TT) : TT := fun σ H Q => t σ H fun c H1 => Q (!c) H1
theorem j4 (ha : PT X a tA) : PW X (.BoolOp .And [a] pos) tA := by
 intro wh pins s σ H Q I h
 refine isTrue_and (thn (ha pins s σ H Q I h) fun c s1 e => ?_)
 cases c with
 | true => exact isTrue_and_nil e
 | false => exact e
theorem jc (ha : PT X a tA) : PW X (.BoolOp .Or [a] pos) tA := by
 intro wh pins s σ H Q I h
 refine isTrue_or (thn (ha pins s σ H Q I h) fun c s1 e => ?_)
 cases c with
 | false => exact isTrue_or_nil e
 | true => exact e
theorem xB (ha : PT X a tA) (hb : PW X (.BoolOp .And (b :: qm) pos) tB') : PW X (.BoolOp .And (a :: b :: qm) pos) (EB tA tB') := by
 intro wh pins s σ H Q I h
 refine isTrue_and (thn (ha pins s σ H _ I h) fun c s1 ⟨H1, I1, q1⟩ => ?_)
 cases c with
 | true => exact hb wh pins s1 σ H1 Q I1 q1
 | false => exact ⟨H1, I1, q1⟩
theorem jt (ha : PT X a tA) (hb : PW X (.BoolOp .Or (b :: qm) pos) tB') : PW X (.BoolOp .Or (a :: b :: qm) pos) (tOr tA tB') := by
 intro wh pins s σ H Q I h
 refine isTrue_or (thn (ha pins s σ H _ I h) fun c s1 ⟨H1, I1, q1⟩ => ?_)
 cases c with
 | true => exact ⟨H1, I1, q1⟩
 | false => exact hb wh pins s1 σ H1 Q I1 q1
theorem ji (ha : PT X a tA) : PT X (.UnaryOp .Not a pos) (DI tA) := by
 intro pins s σ H Q I h
 exact isTrue_not (ha pins s σ H (fun c H1 => Q (!c) H1) I h)
noncomputable def Vs (ta tb : TE) : TE := fun σ H Q => ta σ H fun x H1 => ∃ c, x = .bl c /\ if c = true then tb σ H1 Q else Q (.bl false) H1
theorem Qv {op} {t : TE} (h : PE X a t) : PE X (.BoolOp op [a] pos) t := fun pins s σ H Q I hw => BoolOp_one (h pins s σ H Q I hw)
theorem wl (ha : PE X a ta) (hb : PE X (.BoolOp .And (b :: qm) pos) tb) : PE X (.BoolOp .And (a :: b :: qm) pos) (Vs ta tb) := by
 intro pins s σ H Q I h
 refine BoolOp_and (thn (ha pins s σ H _ I h) fun v s1 ⟨x, H1, I1, r1, q1⟩ => ?_)
 obtain ⟨c, rfl, q1⟩ := q1
 cases r1
 refine wpAny_truthy_bool ?_
 cases c with
 | true => exact hb pins s1 σ H1 Q I1 q1
 | false => exact ⟨.bl false, H1, I1, rfl, q1⟩
noncomputable def tIf (t : TT) (ta tb : TE) : TE := fun σ H Q => t σ H fun c H1 => if c = true then ta σ H1 Q else tb σ H1 Q
theorem kQ {c : Expr} (hc : PT X c tA) (ha : PE X a ta) (hb : PE X b tb) : PE X (.IfExp c a b pos) (tIf tA ta tb) := by
 intro pins s σ H Q I h
 refine wpAny_IfExp (thn (hc pins s σ H _ I h) fun d s1 ⟨H1, I1, q1⟩ => ?_)
 cases d with
 | true => exact ha pins s1 σ H1 Q I1 q1
 | false => exact hb pins s1 σ H1 Q I1 q1
end
end L2
namespace L2
open PySem PySem.Spec PyProof.Rows
noncomputable def SqL (K : PySem.W.Frag) (H : Hp) (a : Addr) (xs : List V) : Prop :=
 Rd H a (.lst xs) \/
  ∃ (o : Obj) (its : Array Value) (n : Nat), K.lookup a = some o /\ o.cls = .type "list" /\ o.dict = none /\ o.data = .seq its n /\ its.size <= sizeLine /\ zB xs its.toList
noncomputable def SqT (K : PySem.W.Frag) (H : Hp) (a : Addr) (xs : List V) : Prop :=
 Rd H a (.tup xs) \/
  ∃ (o : Obj) (its : Array Value) (n : Nat), K.lookup a = some o /\ o.cls = .type "tuple" /\ o.data = .seq its n /\ its.size <= sizeLine /\ zB xs its.toList
noncomputable def FV : Value -> Option V
 | .none => some .non
 | .bool b => some (.bl b)
 | .int i _ => some (.int i)
 | .str x _ => some (.str x)
 | .bytes b _ => some (.byt b)
 | .float b _ => some (.flt b)
 | .ref a => some (.ref a)
 | .type n => some (.ty n)
 | _ => none
theorem zA.abs {x : V} {u : Value} (r : zA x u) : FV u = some x := by
 cases x with
 | non => cases r; rfl
 | bl _ => cases r; rfl
 | int _ => obtain ⟨t, rfl⟩ := r; rfl
 | str _ => obtain ⟨t, rfl⟩ := r; rfl
 | byt _ => obtain ⟨t, rfl⟩ := r; rfl
 | flt _ => obtain ⟨t, rfl⟩ := r; rfl
 | ref _ => cases r; rfl
 | ty _ => cases r; rfl
theorem zA.inj {x y : V} {u : Value} (r : zA x u) (q : zA y u) : x = y := Option.some.inj (r.abs.symm.trans q.abs)
theorem zB.inj : ∀ {xs ys : List V} {us : List Value}, zB xs us -> zB ys us -> xs = ys
 | _, _, _, .nil, .nil => rfl
 | _, _, _, .cons r t, .cons r' t' => by rw [r.inj r', zB.inj t t']
section
variable {X : Cx} {pins : List (Addr × Obj)} {σ : St} {H : Hp} {s : Shared} {a : Addr} {xs ys : List V}
theorem SqL.of {K : PySem.W.Frag} (h : H a = some (.lst xs)) : SqL K H a xs := .inl (.inl h)
theorem SqT.of {K : PySem.W.Frag} (h : H a = some (.tup xs)) : SqT K H a xs := .inl (.inl h)
theorem Inv.list (I : Inv X pins σ H s) (h : SqL X.K H a xs) : ∃ its : List Value, zB xs its /\ PlainL s.heap a its.toArray /\ xs.length <= sizeLine := by
 rcases h with h | ⟨o, its, n, hk, hc, hd, hs, hz, r⟩
 ·obtain ⟨z, its, n, r, e⟩ := h.ok I.hok
  exact ⟨its, r, ⟨_, n, e, rfl, rfl, rfl⟩, z⟩
 ·refine ⟨its.toList, r, ⟨o, n, I.kIn a o hk, hc, hd, by simpa using hs⟩, ?_⟩
  have e := r.length
  simp only [Array.length_toList] at e
  omega
theorem Inv.tuple (I : Inv X pins σ H s) (h : SqT X.K H a xs) : ∃ its : List Value, zB xs its /\ IsTup s.heap a its.toArray /\ xs.length <= sizeLine := by
 rcases h with h | ⟨o, its, n, hk, hc, hs, hz, r⟩
 ·obtain ⟨z, its, r, p⟩ := h.ok I.hok
  exact ⟨its, r, p.is, z⟩
 ·refine ⟨its.toList, r, ⟨o, I.kIn a o hk, hc, n, by simpa using hs⟩, ?_⟩
  have e := r.length
  simp only [Array.length_toList] at e
  omega
theorem Inv.list_inj (I : Inv X pins σ H s) (h : SqL X.K H a xs) (h' : SqL X.K H a ys) : xs = ys := by
 obtain ⟨its, r, ⟨o, n, e, _, _, d⟩, _⟩ := I.list h
 obtain ⟨its', r', ⟨o', n', e', _, _, d'⟩, _⟩ := I.list h'
 rw [e] at e'; cases e'
 rw [d] at d'
 injection d' with d1 _
 have : its = its' := by simpa using congrArg Array.toList d1
 subst this
 exact r.inj r'
theorem Inv.tuple_inj (I : Inv X pins σ H s) (h : SqT X.K H a xs) (h' : SqT X.K H a ys) : xs = ys := by
 obtain ⟨its, r, ⟨o, e, _, n, d⟩, _⟩ := I.tuple h
 obtain ⟨its', r', ⟨o', e', _, n', d'⟩, _⟩ := I.tuple h'
 rw [e] at e'; cases e'
 rw [d] at d'
 injection d' with d1 _
 have : its = its' := by simpa using congrArg Array.toList d1
 subst this
 exact r.inj r'
end
noncomputable abbrev Cx.wish (X : Cx) (E : Value -> Shared -> Prop) : Cx := { X with xe := E }
noncomputable abbrev Cx.nox (X : Cx) : Cx := X.wish fun _ _ => False
theorem Cx.Ok.wish {X : Cx} (ok : X.Ok) (E : Value -> Shared -> Prop) : (X.wish E).Ok :=
 ⟨ok.mod, ok.kind, ok.glob, ok.blt, ok.above, ok.inj, ok.has, ok.cab, ok.hd, ok.frames, ok.stk, ok.exf, ok.bs, ok.bsz, ok.noex, ok.exfs, ok.funs, ok.frf⟩
theorem Cx.Ok.unwish {X : Cx} {E : Value -> Shared -> Prop} (ok : (X.wish E).Ok) : X.Ok :=
 ⟨ok.mod, ok.kind, ok.glob, ok.blt, ok.above, ok.inj, ok.has, ok.cab, ok.hd, ok.frames, ok.stk, ok.exf, ok.bs, ok.bsz, ok.noex, ok.exfs, ok.funs, ok.frf⟩
section
variable {X : Cx} {pins : List (Addr × Obj)} {σ : St} {H : Hp} {s : Shared} {E : Value -> Shared -> Prop}
theorem Inv.wish (I : Inv X pins σ H s) (E : Value -> Shared -> Prop) : Inv (X.wish E) pins σ H s := ⟨I.ok.wish E, I.os, I.bare, I.base, I.loc, I.cell, I.free, I.freeC, I.pin, I.hok, I.len⟩
theorem Inv.unwish (I : Inv (X.wish E) pins σ H s) : Inv X pins σ H s := ⟨I.ok.unwish, I.os, I.bare, I.base, I.loc, I.cell, I.free, I.freeC, I.pin, I.hok, I.len⟩
theorem SP.unwish {D : jB} {f : Flow} {s' : Shared} (h : SP (X.wish E) pins D f s') : SP X pins D f s' := by
 cases f with
 | next => obtain ⟨σ', H', I, q⟩ := h; exact ⟨σ', H', I.unwish, q⟩
 | brk => obtain ⟨σ', H', I, q⟩ := h; exact ⟨σ', H', I.unwish, q⟩
 | cont => obtain ⟨σ', H', I, q⟩ := h; exact ⟨σ', H', I.unwish, q⟩
 | ret u => obtain ⟨v, σ', H', I, r, q⟩ := h; exact ⟨v, σ', H', I.unwish, r, q⟩
theorem PSs.nox {st : List Stmt} {t : TS} (h : PSs X.nox st t) : PSs X st t := fun pins s σ H D I hw =>
 wpAny_mono (h pins s σ H D (I.wish _) hw) (fun _ _ q => q.unwish) fun _ _ z => False.elim z
end
section
variable {X : Cx} {st : Stmt} {qm : List Stmt} {t u : TS} {e : Expr} {te : TE} {pos : Pos}
noncomputable def Xf : TS := fun D σ H => D.nx σ H
noncomputable def v6 (t u : TS) : TS := fun D σ H => t { D with nx := u D } σ H
theorem zx : PSs X [] Xf := fun _ _ σ H _ I h => wpAny_execs_nil ⟨σ, H, I, h⟩
theorem zc (h1 : PS X st t) (h2 : PSs X qm u) : PSs X (st :: qm) (v6 t u) := by
 intro pins s σ H D I h
 refine wpAny_execs_cons (thn (h1 pins s σ H { D with nx := u D } I h) fun f s1 q => ?_)
 cases f with
 | next =>
  obtain ⟨σ', H', I', q⟩ := q
  exact h2 pins s1 σ' H' D I' q
 | ret v => exact q
 | brk => exact q
 | cont => exact q
theorem zh (h1 : PS X st t) : PSs X [st] t := by
 intro pins s σ H D I h
 refine wpAny_execs_cons (thn (h1 pins s σ H D I h) fun f s1 q => ?_)
 cases f with
 | next => exact wpAny_execs_nil q
 | ret v => exact q
 | brk => exact q
 | cont => exact q
theorem Inv.quiet {pins : List (Addr × Obj)} {σ : St} {H : Hp} {s : Shared} (I : Inv X pins σ H s) : interactive X.env = false := by simp [interactive, I.ok.kind]
noncomputable def QD (te : TE) : TS := fun D σ H => te σ H fun _ H1 => D.nx σ H1
theorem qW (he : PE X e te) (hs : swapsWith e none pos.line X.env = pure false := by rfl) : PS X (.Expr e pos) (QD te) := by
 intro pins s σ H D I h
 exact wpAny_Expr_any (thn (he pins s σ H _ I h) fun v s1 ⟨x, H1, I1, r1, q1⟩ => ⟨σ, H1, I1, q1⟩) I.quiet hs
noncomputable def Wk (te : TE) : TS := fun D σ H => te σ H D.rt
theorem zD (he : PE X e te) : PS X (.Return (some e) pos) (Wk te) := by
 intro pins s σ H D I h
 exact wpAny_Return_some (thn (he pins s σ H _ I h) fun v s1 ⟨x, H1, I1, r1, q1⟩ => ⟨x, σ, H1, I1, r1, q1⟩)
noncomputable def WE (c : TT) (t u : TS) : TS := fun D σ H => c σ H fun b H1 => if b = true then t D σ H1 else u D σ H1
theorem zI {c : Expr} {a b : List Stmt} {tc : TT} (hc : PT X c tc) (ha : PSs X a t) (hb : PSs X b u) : PS X (.If c a b pos) (WE tc t u) := by
 intro pins s σ H D I h
 refine wpAny_If (thn (hc pins s σ H _ I h) fun d s1 ⟨H1, I1, q1⟩ => ?_)
 cases d with
 | true => exact ha pins s1 σ H1 D I1 q1
 | false => exact hb pins s1 σ H1 D I1 q1
end
noncomputable abbrev TG := V -> St -> Hp -> (St -> Hp -> Prop) -> Prop
noncomputable abbrev TGs := List V -> St -> Hp -> (St -> Hp -> Prop) -> Prop
noncomputable def PG (X : Cx) (target : Expr) (t : TG) : Prop :=
 ∀ (pins : List (Addr × Obj)) (s : Shared) (σ : St) (H : Hp) (v : V) (u : Value) (Q : St -> Hp -> Prop), Inv X pins σ H s -> zA v u -> t v σ H Q ->
  wpAny (model X.prog X.w) X.A (assign target X.env u) (fun _ s' => ∃ σ' H', Inv X pins σ' H' s' /\ Q σ' H') X.xe s
noncomputable def PGs (X : Cx) (ts : List Expr) (t : TGs) : Prop :=
 ∀ (pins : List (Addr × Obj)) (s : Shared) (σ : St) (H : Hp) (vs : List V) (us : List Value) (Q : St -> Hp -> Prop), Inv X pins σ H s -> zB vs us -> t vs σ H Q ->
  wpAny (model X.prog X.w) X.A (assignInOrder ((assignEach ts X.env).map (·.2)) us) (fun _ s' => ∃ σ' H', Inv X pins σ' H' s' /\ Q σ' H') X.xe s
noncomputable abbrev ww := V -> V -> V -> Hp -> (Hp -> Prop) -> Prop
noncomputable def W3 (X : Cx) (t : ww) : Prop :=
 ∀ (pins : List (Addr × Obj)) (s : Shared) (σ : St) (H : Hp) (o i v : V) (ov iv u : Value) (Q : Hp -> Prop), Inv X pins σ H s -> zA o ov -> zA i iv -> zA v u -> t o i v H Q ->
  wpAny (model X.prog X.w) X.A (setItem ov iv u) (fun _ s' => ∃ H', Inv X pins σ H' s' /\ Q H') X.xe s
noncomputable abbrev TIp := V -> V -> Hp -> VK -> Prop
noncomputable def PIp (X : Cx) (op : Operator) (t : TIp) : Prop :=
 ∀ (pins : List (Addr × Obj)) (s : Shared) (σ : St) (H : Hp) (x y : V) (v u : Value) (Q : VK), Inv X pins σ H s -> zA x v -> zA y u -> t x y H Q ->
  wpAny (model X.prog X.w) X.A (inplaceOp op v u) (EP X pins σ Q) X.xe s
section
variable {X : Cx} {pos : Pos}
noncomputable def wG (i : Nat) : TG := fun v σ H Q => Q (σ.set i (some v)) H
theorem zQ {i : Nat} {x : Str} (hN : X.N.Nodup) (hi : X.N[i]? = some x) (hx : Loc X.env.scope x) (hf : X.fn x = true \/ X.env.scope.names.lookup x = some .local := by first | exact .inl rfl | exact .inr rfl | assumption) : PG X (.Name x pos) (wG i) := by
 intro pins s σ H v u Q I r h
 exact wpAny_assign_Name (qS I hN hi hx r (fun s' I' => ⟨_, H, I', h⟩) hf)
noncomputable def Bg : TGs := fun vs σ H Q => vs = [] /\ Q σ H
noncomputable def X7 (t : TG) (u : TGs) : TGs := fun vs σ H Q => ∃ v r, vs = v :: r /\ t v σ H fun σ' H' => u r σ' H' Q
theorem jn : PGs X [] Bg := by
 intro pins s σ H vs us Q I r h
 obtain ⟨e, h⟩ := h
 subst e
 cases r
 exact assignInOrder_nil ⟨σ, H, I, h⟩
theorem zT {e : Expr} {es : List Expr} {t : TG} {u : TGs} (h1 : PG X e t) (h2 : PGs X es u)
  (hs : (assignEach (e :: es) X.env).map (·.2) = assign e X.env :: (assignEach es X.env).map (·.2) := by rfl) : PGs X (e :: es) (X7 t u) := by
 intro pins s σ H vs us Q I r h
 obtain ⟨v, vr, e1, h⟩ := h
 subst e1
 cases r with
 | cons r rr =>
  rw [hs]
  refine assignInOrder_cons (thn (h1 pins s σ H _ _ _ I r h) fun _ s1 ⟨σ1, H1, I1, q1⟩ => ?_)
  exact h2 pins s1 σ1 H1 _ _ Q I1 rr q1
noncomputable def Wd (K : PySem.W.Frag) (n : Nat) (t : TGs) : TG := fun v σ H Q => ∃ a xs, v = .ref a /\ SqT K H a xs /\ xs.length = n /\ t xs σ H Q
theorem Da {es : List Expr} {k : Nat} {t : TGs} {n : Nat} (hc : X.calm = true) (h : PGs X es t)
  (hn : (assignEach es X.env).length = n := by rfl) (hst : (assignEach es X.env).findIdx? (·.1) = none := by rfl) : PG X (.Tuple es k pos) (Wd X.K n t) := by
 intro pins s σ H v u Q I r hw
 obtain ⟨a, xs, e1, hq, hl, hw⟩ := hw
 subst e1
 cases r
 obtain ⟨its, rv, ht, hz⟩ := I.tuple hq
 refine assign_Tuple_tuple (I.ok.hd hc) ht (by simp [hn, <- hl, rv.length]) hst fun h' hx => ?_
 have I1 : Inv X pins σ H { s with heap := h' } := I.kept (t' := s.toks) fun b o e => hx b o (Nat.ne_of_lt (Heap.lt_size e)) e
 exact h pins _ σ H xs _ Q I1 (by simpa using rv) hw
noncomputable def Bo (to ti : TE) (t : ww) : TG := fun v σ H Q => to σ H fun o H1 => ti σ H1 fun i H2 => t o i v H2 fun H3 => Q σ H3
theorem qx {o i : Expr} {to ti : TE} {t : ww} (ho : PE X o to) (hi : PE X i ti) (hs : W3 X t)
  (ha : ∀ v, assign (.Subscript o i pos) X.env v = (do
   let ov <- holding [v] (eval o X.env)
   let iv <- holding [v, ov] (eval i X.env)
   standAt pos
   holding [v, ov, iv] (setItem ov iv v)
   release [v, ov, iv] []) := by intro _; rfl) : PG X (.Subscript o i pos) (Bo to ti t) := by
 intro pins s σ H v u Q I r h
 rw [ha]
 refine wpAny_bind (wpAny_holding (thn (ho pins s σ H _ I h) fun ov s1 ⟨x, H1, I1, r1, q1⟩ => ?_))
 refine wpAny_bind (wpAny_holding (thn (hi pins s1 σ H1 _ I1 q1) fun iv s2 ⟨y, H2, I2, r2, q2⟩ => ?_))
 refine wpAny_bind (wpAny_standAt (wpAny_bind (wpAny_holding (thn (hs pins s2 σ H2 x y v ov iv u _ I2 r1 r2 r q2) fun _ s3 ⟨H3, I3, q3⟩ => ?_))))
 exact wpAny_release ⟨σ, H3, I3, q3⟩
noncomputable def JM (te : TE) (g : TG) : TS := fun D σ H => te σ H fun x H1 => g x σ H1 D.nx
theorem qA {tg e : Expr} {te : TE} {g : TG} (he : PE X e te) (hg : PG X tg g) (hs : swapsWithSole [tg] e pos.line X.env = pure false := by rfl) (hw : swappedStores [tg] e X.env = pure none := by rfl)
  (h1 : (assignEach [tg] X.env).map (·.2) = [assign tg X.env] := by rfl) : PS X (.Assign [tg] e pos) (JM te g) := by
 intro pins s σ H D I h
 refine wpAny_Assign_stores (thn (he pins s σ H _ I h) fun v s1 ⟨x, H1, I1, r1, q1⟩ => ?_) hs hw
 rw [h1]
 exact thn (hg pins s1 σ H1 x v _ I1 r1 q1) fun _ s2 q => q
theorem zL {i : Nat} {x : Str} {e : Expr} {te : TE} {pos' : Pos} (hN : X.N.Nodup) (hi : X.N[i]? = some x) (hx : Loc X.env.scope x) (he : PE X e te) (hs : swapsWith e (some (.Name x pos')) pos.line X.env = pure false := by rfl) (hf : X.fn x = true \/ X.env.scope.names.lookup x = some .local := by first | exact .inl rfl | exact .inr rfl | assumption) :
  PS X (.Assign [.Name x pos'] e pos) (JM te (wG i)) := by
 intro pins s σ H D I h
 refine wpAny_Assign_Name (thn (he pins s σ H _ I h) fun v s1 ⟨y, H1, I1, r1, q1⟩ => ?_) hs
 exact qS I1 hN hi hx r1 (fun s2 I2 => ⟨_, H1, I2, q1⟩) hf
noncomputable def EH (i j : Nat) (ta : TA) : TS := fun D σ H => ta σ H fun vs H1 => ∃ v w, vs = [v, w] /\ D.nx ((σ.set i (some v)).set j (some w)) H1
theorem XU {i j : Nat} {x y : Str} {a b : Expr} {ta : TA} {px py pt : Pos} {kt k2 pt2} (hc : X.calm = true) (hN : X.N.Nodup) (hi : X.N[i]? = some x) (hj : X.N[j]? = some y) (hij : i ≠ j)
  (hx : X.env.scope.names.lookup x = some .local) (hy : X.env.scope.names.lookup y = some .local) (ha : PA X [a, b] ta)
  (hw : swappedStores [.Tuple [.Name x px, .Name y py] kt pt] (.Tuple [a, b] k2 pt2) X.env = pure (some [x, y]))
  (hs : swapsWithSole [.Tuple [.Name x px, .Name y py] kt pt] (.Tuple [a, b] k2 pt2) pos.line X.env = pure false := by rfl) :
  PS X (.Assign [.Tuple [.Name x px, .Name y py] kt pt] (.Tuple [a, b] k2 pt2) pos) (EH i j ta) := by
 intro pins s σ H D I h
 rw [exec_Assign_arm]
 refine wpAny_bind (wpAny_standAt ?_)
 rw [hs]
 refine wpAny_bind (wpAny_pure ?_)
 rw [if_neg (by decide)]
 refine wpAny_bind (Tuple_ (thn (ha _ pins s σ H _ I h) fun us s1 ⟨vs, H1, I1, r1, q1⟩ => ?_))
 obtain ⟨v, w, e1, q1⟩ := q1
 subst e1
 obtain ⟨u1, u2, rfl, rv, rw'⟩ : ∃ u1 u2, us = [u1, u2] /\ zA v u1 /\ zA w u2 := by
  cases r1 with
  | cons p q =>
   cases q with
   | cons p' q' =>
    cases q'
    exact ⟨_, _, rfl, p, p'⟩
 refine wpAny_newObj_type ?_ (by show 2 <= sizeLine; decide)
 have I2 : Inv X pins σ H1 { s1 with heap := s1.heap.push { cls := .type "tuple", data := .seq [u1, u2].toArray } } := I1.kept (t' := s1.toks) fun b o e => Heap.get?_push_of_some _ e
 rw [hw]
 refine wpAny_bind (wpAny_pure ?_)
 show wpAny (model X.prog X.w) X.A (do rule "assign.swapped-stores"; let items <- unpackItems (.ref s1.heap.objs.size) 2 none; assignInOrder [fun v => bindName X.env y v, fun v => bindName X.env x v] items.reverse; pure Flow.next) _ _ _
 refine wpAny_bind (wpAny_rule (wpAny_bind (unpackItems_tuple (items := #[u1, u2]) (I.ok.hd hc) (IsTup.new s1.heap _) fun h' hx' => ?_)))
 have I3 := I2.kept (h' := h') (t' := s1.toks) fun b o e => hx' b o (Nat.ne_of_lt (Heap.lt_size e)) e
 show wpAny _ _ (assignInOrder [fun v => bindName X.env y v, fun v => bindName X.env x v] [u2, u1] >>= fun _ => pure Flow.next) _ _ _
 refine wpAny_bind (assignInOrder_cons (wpAny_bindName (qS I3 hN hj (.inl hy) rw' (fun s2 I4 => ?_) (.inr hy))))
 refine assignInOrder_cons (wpAny_bindName (qS I4 hN hi (.inl hx) rv (fun s3 I5 => assignInOrder_nil (wpAny_pure ?_)) (.inr hx)))
 rw [List.set_comm _ _ (Ne.symm hij)] at I5
 exact ⟨_, H1, I5, q1⟩
noncomputable def Vp (to ti te : TE) (tget : V -> V -> Hp -> VK -> Prop) (tip : TIp) (tset : ww) : TS := fun D σ H => to σ H fun o H1 => ti σ H1 fun i H2 => tget o i H2 fun x H3 => te σ H3 fun y H4 => tip x y H4 fun z H5 => tset o i z H5 fun H6 => D.nx σ H6
noncomputable def Fz (X : Cx) (t : V -> V -> Hp -> VK -> Prop) : Prop :=
 ∀ (pins : List (Addr × Obj)) (s : Shared) (σ : St) (H : Hp) (o i : V) (ov iv : Value) (Q : VK), Inv X pins σ H s -> zA o ov -> zA i iv -> t o i H Q ->
  wpAny (model X.prog X.w) X.A (getItem ov iv) (EP X pins σ Q) X.xe s
theorem xU {o i e : Expr} {to ti te : TE} {tget : V -> V -> Hp -> VK -> Prop} {tip : TIp} {tset : ww} {op : Operator} {tpos : Pos} (ho : PE X o to) (hi : PE X i ti) (hg : Fz X tget) (he : PE X e te) (hp : PIp X op tip) (hs : W3 X tset)
  (ha : ∀ ov iv new, augStore i ov iv new = (do holding [new, ov, iv] (setItem ov iv new); release [new, ov, iv] []; pure .next) := by intros; rfl) : PS X (.AugAssign (.Subscript o i tpos) op e pos) (Vp to ti te tget tip tset) := by
 intro pins s σ H D I h
 refine wpAny_AugAssign_SubscriptAny (thn (ho pins s σ H _ I h) fun ov s1 ⟨x1, H1, I1, r1, q1⟩ => ?_) ha
 refine thn (hi pins s1 σ H1 _ I1 q1) fun iv s2 ⟨x2, H2, I2, r2, q2⟩ => ?_
 refine thn (hg pins s2 σ H2 x1 x2 ov iv _ I2 r1 r2 q2) fun old s3 ⟨x3, H3, I3, r3, q3⟩ => ?_
 refine thn (he pins s3 σ H3 _ I3 q3) fun v s4 ⟨x4, H4, I4, r4, q4⟩ => ?_
 refine thn (hp pins s4 σ H4 x3 x4 old v _ I4 r3 r4 q4) fun new s5 ⟨x5, H5, I5, r5, q5⟩ => ?_
 exact thn (hs pins s5 σ H5 x1 x2 x5 ov iv new _ I5 r1 r2 r5 q5) fun _ s6 ⟨H6, I6, q6⟩ => ⟨σ, H6, I6, q6⟩
noncomputable def ipI (f : Int -> Int -> Int) : TIp := fun x y H Q => ∃ i j, x = .int i /\ y = .int j /\ Q (.int (f i j)) H
theorem vP : PIp X .Add (ipI fun i j => i + j) := by
 intro pins s σ H x y v u Q I r1 r2 h
 obtain ⟨i, j, e1, e2, q⟩ := h
 subst e1; subst e2
 obtain ⟨t, rfl⟩ := r1
 obtain ⟨t', rfl⟩ := r2
 exact iadd_int ⟨.int _, H, I.tok _, ⟨_, rfl⟩, q⟩
end
section
variable {X : Cx} {pos : Pos}
end
structure It where
 go : Nat -> Hp -> Prop
 yld : Nat -> Hp -> V -> Hp -> Prop
 stop : Nat -> Hp -> Prop
noncomputable def xO (X : Cx) (pins : List (Addr × Obj)) (H : Hp) (b : Addr) : Prop :=
 H b = none /\ b ≠ X.env.locals /\ b ∉ X.fs /\ (b ∈ X.ex \/ X.s₀.heap.objs.size <= b) /\ (∀ x c, X.env.cells.lookup x = some c -> c ≠ b) /\ ∀ p ∈ X.pn ++ pins, p.1 ≠ b
theorem Inv.fpOk {X : Cx} {pins : List (Addr × Obj)} {σ : St} {H H' : Hp} {s : Shared} {b : Addr} (I : Inv X pins σ H s) (hb : s.heap.objs.size <= b) (hn : H' b = none) : xO X pins H' b := by
 refine ⟨hn, Nat.ne_of_gt (Nat.lt_of_lt_of_le I.lt hb), I.nofs hb, .inr (Nat.le_trans I.sz hb), fun x c e z => ?_, fun p hp z => ?_⟩
 ·obtain ⟨v, q⟩ := I.cell x c e
  exact absurd (Nat.lt_of_lt_of_le q.lt (by rw [z]; exact hb)) (Nat.lt_irrefl _)
 ·exact absurd (Nat.lt_of_lt_of_le (Heap.lt_size (I.pin p hp).1) (by rw [z]; exact hb)) (Nat.lt_irrefl _)
structure Z0 (P : Program) (w : World) (K : PySem.W.Frag) (tg : Expr) (J : It) (fp : List Addr) (it : Addr) (tn : Nat -> Heap -> Prop) : Prop where
 mem : it ∈ fp
 obj : ∀ i h, tn i h -> ∀ b ∈ fp, ∃ o, h.get? b = some o /\ ∀ v, o.data ≠ .cell v
 keep : ∀ i h h', tn i h -> (∀ b ∈ fp, ∀ o, h.get? b = some o -> h'.get? b = some o) -> tn i h'
 item : ∀ (X : Cx), X.prog = P -> X.w = w -> X.K = K -> X.calm = true -> ∀ (i : Nat) (pins : List (Addr × Obj)) (s : Shared) (σ : St) (H : Hp) (E : Value -> Shared -> Prop), Inv X pins σ H s -> (∀ b ∈ fp, xO X pins H b) -> tn i s.heap -> J.go i H ->
  wpAny (model P w) X.A (pyNext (.ref it)) (fun r s1 => ∃ u, r = some u /\
   wpAny (model P w) X.A (letOwnedTupleGo tg (.ref it) u) (fun _ s2 => ∃ x H', Inv X pins σ H' s2 /\ zA x u /\ J.yld i H x H' /\ tn (i + 1) s2.heap /\ ∀ b ∈ fp, H' b = none) E s1) E s
 done : ∀ (X : Cx), X.prog = P -> X.w = w -> X.K = K -> X.calm = true -> ∀ (i : Nat) (pins : List (Addr × Obj)) (s : Shared) (σ : St) (H : Hp) (E : Value -> Shared -> Prop), Inv X pins σ H s -> (∀ b ∈ fp, xO X pins H b) -> tn i s.heap -> J.stop i H ->
  wpAny (model P w) X.A (pyNext (.ref it)) (fun r s1 => r = none /\ Inv X pins σ H s1) E s
 self : ∀ (A : Around) (i : Nat) (s : Shared) (Q : Value -> Shared -> Prop) (E : Value -> Shared -> Prop), tn i s.heap -> Q (.ref it) s -> wpAny (model P w) A (pyIter (.ref it)) Q E s
noncomputable abbrev TI := St -> Hp -> (It -> Hp -> Prop) -> Prop
noncomputable def PIE (X : Cx) (pins : List (Addr × Obj)) (σ : St) (tg : Expr) (R : It -> Hp -> Prop) (itv : Value) (s2 : Shared) : Prop :=
 ∃ (it : Addr) (fp : List Addr) (tn : Nat -> Heap -> Prop) (J : It) (H' : Hp), itv = .ref it /\ Inv X pins σ H' s2 /\ Z0 X.prog X.w X.K tg J fp it tn /\ tn 0 s2.heap /\ (∀ b ∈ fp, xO X pins H' b) /\ R J H'
noncomputable def PI (X : Cx) (tg iter : Expr) (wi : TI) : Prop :=
 ∀ (pins : List (Addr × Obj)) (s : Shared) (σ : St) (H : Hp) (R : It -> Hp -> Prop), Inv X pins σ H s -> wi σ H R ->
  wpAny (model X.prog X.w) X.A (eval iter X.env) (fun v s1 => wpAny (model X.prog X.w) X.A (pyIter v) (PIE X pins σ tg R) X.xe s1) X.xe s
theorem YQ {M : Model} {A : Around} {E : Value -> Shared -> Prop} {s : Shared} {tg : Expr} {it : Addr} {u : Value} {o : Obj} {n : String} {vs : Array Value} {Q : Unit -> Shared -> Prop} (ho : s.heap.get? it = some o) (hc : o.cls = .type n) (hd : o.data = .fields vs)
    (hn : ["enumerate", "zip", "dict_itemiterator", "dict_reverseitemiterator", "odict_iterator", "itertools.zip_longest", "itertools.pairwise"].contains n = false) (hQ : Q () s) : wpAny M A (letOwnedTupleGo tg (.ref it) u) Q E s := by
  unfold letOwnedTupleGo
  cases tg <;> first
    | exact wpAny_pure hQ
    | (cases u <;> first
        | exact wpAny_pure hQ
        | (refine wpAny_bind (wpAny_load ho ?_)
           rw [hc, hd]
           show wpAny M A (if (["enumerate", "zip", "dict_itemiterator", "dict_reverseitemiterator", "odict_iterator", "itertools.zip_longest", "itertools.pairwise"].contains n && vs[0]? == some (rawInt _)) = true then _ else _) Q E s
           rw [if_neg (by intro h; rw [hn, Bool.false_and] at h; cases h)]
           exact wpAny_pure hQ))
noncomputable def Itl (K : PySem.W.Frag) (a : Addr) : It :=
 ⟨fun i H => ∃ xs x, SqL K H a xs /\ xs[i]? = some x, fun i H x H' => H' = H /\ ∀ xs, SqL K H a xs -> xs[i]? = some x, fun i H => ∃ xs, SqL K H a xs /\ xs.length <= i⟩
noncomputable def Itt (K : PySem.W.Frag) (a : Addr) : It :=
 ⟨fun i H => ∃ xs x, SqT K H a xs /\ xs[i]? = some x, fun i H x H' => H' = H /\ ∀ xs, SqT K H a xs -> xs[i]? = some x, fun i H => ∃ xs, SqT K H a xs /\ xs.length <= i⟩
noncomputable def Itr (lo : Int) (n : Nat) : It := ⟨fun i _ => i < n, fun i H x H' => H' = H /\ x = .int (lo + i), fun i _ => n <= i⟩
theorem J9 {P : Program} {w : World} {K : PySem.W.Frag} {tg : Expr} (a it : Addr) : Z0 P w K tg (Itl K a) [it] it (fun i h => h.IsListIter it a i) where
 mem := by simp
 obj := fun i h st b hb => by
  have e : b = it := by simpa using hb
  subst e
  obtain ⟨o, e, c, d⟩ := st
  exact ⟨o, e, fun v z => by rw [d] at z; cases z⟩
 keep := fun i h h' st k => st.at fun o e => k it (by simp) o e
 item := by
  intro X hP hw hK hc i pins s σ H E I hf st hg
  subst hP hw hK
  obtain ⟨xs, x, hq, hx⟩ := hg
  obtain ⟨its, rv, p, hz⟩ := I.list hq
  obtain ⟨u, hu, ru⟩ := rv.get hx
  obtain ⟨f0, f1, f2, f3, f4, f5⟩ := hf it (by simp)
  refine wpAny_pyNext_list_item st p.isList (x := u) (by simpa using hu) fun h' st' sb => ?_
  have I1 : Inv X pins σ H { s with heap := h' } := I.turned (t' := s.toks) (fun b o hb e => (sb.2 b hb).trans e) f0 f1 f3 f4 f5
  obtain ⟨o, e, c, d⟩ := id st'
  exact ⟨u, rfl, YQ (s := { s with heap := h' }) e c d (by decide) ⟨x, H, I1, ru, ⟨rfl, fun ys hy => by rw [I.list_inj hy hq]; exact hx⟩, st', fun b hb => (hf b hb).1⟩⟩
 done := by
  intro X hP hw hK hc i pins s σ H E I hf st hg
  subst hP hw hK
  obtain ⟨xs, hq, hx⟩ := hg
  obtain ⟨its, rv, p, hz⟩ := I.list hq
  obtain ⟨f0, f1, f2, f3, f4, f5⟩ := hf it (by simp)
  have hl := rv.length
  exact wpAny_pyNext_list_end (I.ok.hd hc) st p.isList (by simp; omega) fun h' eb => ⟨rfl, I.turned (t' := s.toks) (fun b o hb e => eb b o hb e) f0 f1 f3 f4 f5⟩
 self := fun _ _ _ _ _ st h => wpAny_pyIter_listiter st h
theorem ZN {P : Program} {w : World} {K : PySem.W.Frag} {tg : Expr} (a it : Addr) : Z0 P w K tg (Itt K a) [it] it (fun i h => h.IsTupleIter it a i) where
 mem := by simp
 obj := fun i h st b hb => by
  have e : b = it := by simpa using hb
  subst e
  obtain ⟨o, e, c, d⟩ := st
  exact ⟨o, e, fun v z => by rw [d] at z; cases z⟩
 keep := fun i h h' st k => st.at fun o e => k it (by simp) o e
 item := by
  intro X hP hw hK hc i pins s σ H E I hf st hg
  subst hP hw hK
  obtain ⟨xs, x, hq, hx⟩ := hg
  obtain ⟨its, rv, p, hz⟩ := I.tuple hq
  obtain ⟨u, hu, ru⟩ := rv.get hx
  obtain ⟨f0, f1, f2, f3, f4, f5⟩ := hf it (by simp)
  refine wpAny_pyNext_tuple_item st (show s.heap.IsTuple a its.toArray from p) (x := u) (by simpa using hu) fun h' st' sb => ?_
  have I1 : Inv X pins σ H { s with heap := h' } := I.turned (t' := s.toks) (fun b o hb e => (sb.2 b hb).trans e) f0 f1 f3 f4 f5
  obtain ⟨o, e, c, d⟩ := id st'
  exact ⟨u, rfl, YQ (s := { s with heap := h' }) e c d (by decide) ⟨x, H, I1, ru, ⟨rfl, fun ys hy => by rw [I.tuple_inj hy hq]; exact hx⟩, st', fun b hb => (hf b hb).1⟩⟩
 done := by
  intro X hP hw hK hc i pins s σ H E I hf st hg
  subst hP hw hK
  obtain ⟨xs, hq, hx⟩ := hg
  obtain ⟨its, rv, p, hz⟩ := I.tuple hq
  obtain ⟨f0, f1, f2, f3, f4, f5⟩ := hf it (by simp)
  have hl := rv.length
  exact wpAny_pyNext_tuple_end (I.ok.hd hc) st (show s.heap.IsTuple a its.toArray from p) (by simp; omega) fun h' eb => ⟨rfl, I.turned (t' := s.toks) (fun b o hb e => eb b o hb e) f0 f1 f3 f4 f5⟩
 self := fun _ _ _ _ _ st h => wpAny_pyIter_tupleiter st h
theorem ZD {P : Program} {w : World} {K : PySem.W.Frag} {tg : Expr} (it : Addr) (lo : Int) (n : Nat) : Z0 P w K tg (Itr lo n) [it] it (fun i h => IsRangeIter h it (lo + (i : Nat) * 1) ((n : Int) - (i : Nat)) 1) where
 mem := by simp
 obj := fun i h st b hb => by
  have e : b = it := by simpa using hb
  subst e
  exact ⟨_, st, fun v z => by
   have z' : Data.fields _ = Data.cell v := z
   cases z'⟩
 keep := fun i h h' st k => k it (by simp) _ st
 item := by
  intro X hP hw hK hc i pins s σ H E I hf st hg
  subst hP hw hK
  obtain ⟨f0, f1, f2, f3, f4, f5⟩ := hf it (by simp)
  have W := Walks.range (prog := X.prog) (w := X.w) (I.ok.hd hc) it lo 1 n
  refine W.item i s _ _ hg st fun v h' tk hv st' kk => ?_
  obtain ⟨t, rfl⟩ := hv
  have I1 : Inv X pins σ H { s with heap := h', toks := tk } := I.turned (fun b o hb e => kk b o (by simpa using hb) e) f0 f1 f3 f4 f5
  refine ⟨_, rfl, YQ (s := { s with heap := h', toks := tk }) (n := "range_iterator") st' rfl rfl (by decide) ⟨.int (lo + i), H, I1, ⟨t, ?_⟩, ⟨rfl, rfl⟩, st', fun b hb => (hf b hb).1⟩⟩
  rw [Int.mul_one]
 done := by
  intro X hP hw hK hc i pins s σ H E I hf st hg
  subst hP hw hK
  obtain ⟨f0, f1, f2, f3, f4, f5⟩ := hf it (by simp)
  exact wpAny_pyNext_range_end (I.ok.hd hc) st (by have : n <= i := hg; omega) fun h' eb => ⟨rfl, I.turned (t' := s.toks) (fun b o hb e => eb b o hb e) f0 f1 f3 f4 f5⟩
 self := fun _ _ _ _ _ st h => wpAny_pyIter_rangeiter st h
end L2
namespace L2
open PySem PySem.Spec PyProof.Rows
section
variable {X : Cx} {tg : Expr}
theorem KL {pins : List (Addr × Obj)} {σ : St} {H : Hp} {s : Shared} {R : It -> Hp -> Prop} {E : Value -> Shared -> Prop} {lo hi : Int} {t u v : Tok} {tk : Nat} (I : Inv X pins σ H s) (h1 : -(2 ^ 62) <= lo) (h2 : lo < 2 ^ 62) (h3 : -(2 ^ 62) <= hi) (h4 : hi < 2 ^ 62)
  (q : R (Itr lo (hi - lo).toNat) H) : wpAny (model X.prog X.w) X.A (pyIter (.ref s.heap.objs.size)) (PIE X pins σ tg R) E { s with heap := s.heap.push { cls := .type "range", data := .fields #[.int lo t, .int hi u, .int 1 v] }, toks := tk } := by
 refine wpAny_pyIter_range (IsRange.new ..) (small_one h1 h2 h3 h4) ?_
 have I1 : Inv X pins σ H { s with heap := s.heap.push { cls := .type "range", data := .fields #[.int lo t, .int hi u, .int 1 v] }, toks := tk } := I.kept fun b o e => Heap.get?_push_of_some _ e
 refine ⟨(s.heap.push { cls := .type "range", data := .fields #[.int lo t, .int hi u, .int 1 v] }).objs.size, [(s.heap.push { cls := .type "range", data := .fields #[.int lo t, .int hi u, .int 1 v] }).objs.size], _, _, H, rfl,
  I1.kept (t' := tk) fun b o e => Heap.get?_push_of_some _ e, ZD _ lo (hi - lo).toNat, ?_, fun b hb => ?_, q⟩
 ·have e1 : lo + ((0 : Nat) : Int) * 1 = lo := by simp
  have e2 : (((hi - lo).toNat : Nat) : Int) - ((0 : Nat) : Int) = Builtin.Range.rangeSize lo hi 1 := by rw [rangeSize_one]; split <;> omega
  show IsRangeIter _ _ (lo + ((0 : Nat) : Int) * 1) ((((hi - lo).toNat : Nat) : Int) - ((0 : Nat) : Int)) 1
  rw [e1, e2]
  exact Heap.get?_push_size _ rfl
 ·have e : b = (s.heap.push { cls := .type "range", data := .fields #[.int lo t, .int hi u, .int 1 v] }).objs.size := by simpa using hb
  subst e
  exact I1.fpOk (Nat.le_refl _) (I1.hok.fresh (Nat.le_refl _))
noncomputable def Yk (ta : TA) : TI := fun σ H R => ta σ H fun vs H1 => ∃ j : Int, vs = [.int j] /\ -(2 ^ 62) <= j /\ j < 2 ^ 62 /\ R (Itr 0 j.toNat) H1
theorem jw {a : Expr} {ta : TA} {p pos : Pos} (hg : Gl X "range") (hm : X.mg "range" = none) (ha : PA X [a] ta) (hs : starEach [a] X.env = [(false, eval a X.env)] := by rfl) : PI X tg (.Call (.Name "range" p) [a] [] pos) (Yk ta) := by
 intro pins s σ H R I h
 refine Call_ (jq I hg hm boot_range (PyProof.Rows.callWith_type1 (thn (ha pos pins s σ H _ I h) fun us s1 ⟨vs, H1, I1, r1, q1⟩ => ?_) hs rfl))
 obtain ⟨j, e, q1, q2, q⟩ := q1
 subst e
 cases r1 with
 | cons r rr =>
  cases rr
  obtain ⟨t, rfl⟩ := r
  exact call_range_1 (KL I1 (by omega) (by omega) q1 q2 (by simpa using q))
noncomputable def Dj (wi : TI) (g : TG) (tb : TS) : TS := fun D σ H => wi σ H fun J H1 => ∃ W : Nat -> Nat -> St -> Hp -> Prop, (∃ m, W 0 m σ H1) /\ ∀ i m σ H, W i m σ H ->
 (J.stop i H /\ D.nx σ H) \/ (J.go i H /\ ∃ N : St -> Hp -> Prop, (∀ σ' H', N σ' H' -> ∃ m', m' < m /\ W (i + 1) m' σ' H') /\ ∀ x H', J.yld i H x H' -> g x σ H' fun σ2 H2 => tb { D with nx := N, ct := N, bk := D.nx } σ2 H2)
noncomputable def yJ (fp : List Addr) (h : Heap) : List (Addr × Obj) := fp.filterMap fun b => (h.get? b).map fun o => (b, o)
theorem jA {fp : List Addr} {h : Heap} {b : Addr} {o : Obj} (hb : b ∈ fp) (e : h.get? b = some o) : (b, o) ∈ yJ fp h := List.mem_filterMap.mpr ⟨b, hb, by rw [e]; rfl⟩
theorem Kf {fp : List Addr} {h : Heap} {p : Addr × Obj} (hp : p ∈ yJ fp h) : p.1 ∈ fp /\ h.get? p.1 = some p.2 := by
 obtain ⟨b, hb, e⟩ := List.mem_filterMap.mp hp
 cases q : h.get? b with
 | none => rw [q] at e; cases e
 | some o =>
  rw [q] at e
  have e' : (b, o) = p := Option.some.inj e
  subst e'
  exact ⟨hb, q⟩
theorem Inv.pinned {pins : List (Addr × Obj)} {σ : St} {H : Hp} {s : Shared} {fp : List Addr} (I : Inv X pins σ H s) (hf : ∀ b ∈ fp, xO X pins H b) (ho : ∀ b ∈ fp, ∃ o, s.heap.get? b = some o /\ ∀ v, o.data ≠ .cell v) : Inv X (pins ++ yJ fp s.heap) σ H s :=
 I.pins_of fun p hp => (List.mem_append.mp hp).elim (fun z => I.pin p (List.mem_append_right _ z)) fun z => by
  obtain ⟨hb, e⟩ := Kf z
  obtain ⟨f0, f1, f2, _⟩ := hf p.1 hb
  obtain ⟨o, e', d⟩ := ho p.1 hb
  rw [e] at e'; cases e'
  exact ⟨e, f0, f1, f2, d⟩
theorem Inv.unpinned {pins pl : List (Addr × Obj)} {σ : St} {H : Hp} {s : Shared} (I : Inv X (pins ++ pl) σ H s) : Inv X pins σ H s := I.pins_of fun p hp => I.pin p (List.mem_append_right _ (List.mem_append_left _ hp))
theorem xj {iter : Expr} {body : List Stmt} {wi : TI} {g : TG} {tb : TS} {pos : Pos} (hp : PassesOwn (model X.prog X.w) X.A X.env X.xe) (hc : X.calm = true) (hi : PI X tg iter wi) (hg : PG X tg g) (hb : PSs X body tb)
  (hs : ∀ x, foldedSetIterable iter X.env x = pure x := by intro _; rfl) : PS X (.For tg iter body [] pos) (Dj wi g tb) := by
 intro pins s σ H D I h
 refine wpAny_For (thn (hi pins s σ H _ I h) fun v s1 h1 => thn h1 fun itv s2 h2 => ?_) hs
 obtain ⟨it, fp, tn, J, H2, e, I2, T, st2, f2, W, ⟨m0, w0⟩, turn⟩ := h2
 subst e
 have stat : ∀ {H' : Hp}, (∀ b ∈ fp, H' b = none) -> ∀ b ∈ fp, xO X pins H' b := fun hn b hb => ⟨hn b hb, (f2 b hb).2⟩
 refine codeAny_forLoop_any (fun n s' => ∃ i σ' H', Inv X pins σ' H' s' /\ tn i s'.heap /\ (∀ b ∈ fp, H' b = none) /\ W i n σ' H') ?_ m0 ⟨0, σ, H2, I2, st2, fun b hb => (f2 b hb).1, w0⟩
 rintro n s3 ⟨i, σ3, H3, I3, st3, fr3, w3⟩
 rcases turn i n σ3 H3 w3 with ⟨stop, qn⟩ | ⟨go, N, hN, step⟩
 ·refine wpAny_passesOwn hp (thn (T.done X rfl rfl rfl hc i pins s3 σ3 H3 X.xe I3 (stat fr3) st3 stop) fun r s4 ⟨hr, I4⟩ => ?_)
  subst hr
  exact wpAny_execs_nil ⟨σ3, H3, I4, qn⟩
 ·refine wpAny_passesOwn hp (thn (T.item X rfl rfl rfl hc i pins s3 σ3 H3 X.xe I3 (stat fr3) st3 go) fun r s4 ⟨u, hr, h4⟩ => ?_)
  subst hr
  refine wpAny_passesOwn hp (thn h4 fun _ s5 ⟨x, H5, I5, r5, y5, st5, fr5⟩ => ?_)
  have I5' := I5.pinned (stat fr5) (T.obj _ _ st5)
  refine wpAny_passesOwn hp (thn (hg _ s5 σ3 H5 x u _ I5' r5 (step x H5 y5)) fun _ s6 ⟨σ6, H6, I6, q6⟩ => ?_)
  refine wpAny_passesOwn hp (thn (hb _ s6 σ6 H6 _ I6 q6) fun f s7 q7 => ?_)
  have again : ∀ {σ7 : St} {H7 : Hp}, Inv X (pins ++ yJ fp s5.heap) σ7 H7 s7 -> N σ7 H7 -> ∃ m, m < n /\ ∃ i σ' H', Inv X pins σ' H' s7 /\ tn i s7.heap /\ (∀ b ∈ fp, H' b = none) /\ W i m σ' H' := fun {σ7 H7} I7 n7 => by
   obtain ⟨m', hm, w7⟩ := hN σ7 H7 n7
   refine ⟨m', hm, i + 1, σ7, H7, I7.unpinned, T.keep _ _ _ st5 fun b hb o e => (I7.pin (b, o) (List.mem_append_right _ (List.mem_append_right _ (jA hb e)))).1, fun b hb => ?_, w7⟩
   obtain ⟨o, e, d⟩ := T.obj _ _ st5 b hb
   exact (I7.pin (b, o) (List.mem_append_right _ (List.mem_append_right _ (jA hb e)))).2.1
  cases f with
  | next => obtain ⟨σ7, H7, I7, n7⟩ := q7; exact again I7 n7
  | cont => obtain ⟨σ7, H7, I7, n7⟩ := q7; exact again I7 n7
  | brk => obtain ⟨σ7, H7, I7, q7⟩ := q7; exact ⟨σ7, H7, I7.unpinned, q7⟩
  | ret v => obtain ⟨x7, σ7, H7, I7, r7, q7⟩ := q7; exact ⟨x7, σ7, H7, I7.unpinned, r7, q7⟩
end
end L2
namespace L2
open PySem PySem.Spec PyProof.Rows
noncomputable abbrev R2 := V -> V -> Hp -> VK -> Prop
noncomputable def OpR (X : Cx) (f : Value -> Value -> Sem Value) (r : R2) : Prop :=
 ∀ (pins : List (Addr × Obj)) (s : Shared) (σ : St) (H : Hp) (x y : V) (v u : Value) (Q : VK), Inv X pins σ H s -> zA x v -> zA y u -> r x y H Q ->
  wpAny (model X.prog X.w) X.A (f v u) (EP X pins σ Q) X.xe s
noncomputable def UnR (X : Cx) (f : Value -> Sem Value) (r : V -> Hp -> VK -> Prop) : Prop :=
 ∀ (pins : List (Addr × Obj)) (s : Shared) (σ : St) (H : Hp) (x : V) (v : Value) (Q : VK), Inv X pins σ H s -> zA x v -> r x H Q ->
  wpAny (model X.prog X.w) X.A (f v) (EP X pins σ Q) X.xe s
noncomputable def jg (X : Cx) (f : Value) (r : List V -> Hp -> VK -> Prop) : Prop :=
 ∀ (pins : List (Addr × Obj)) (s : Shared) (σ : St) (H : Hp) (xs : List V) (us : List Value) (Q : VK), Inv X pins σ H s -> zB xs us -> r xs H Q ->
  wpAny (model X.prog X.w) X.A (call f us) (EP X pins σ Q) X.xe s
noncomputable def tOp (r : R2) (ta tb : TE) : TE := fun σ H Q => ta σ H fun x H1 => tb σ H1 fun y H2 => r x y H2 Q
noncomputable def tUn (r : V -> Hp -> VK -> Prop) (ta : TE) : TE := fun σ H Q => ta σ H fun x H1 => r x H1 Q
noncomputable def rI (C : Int -> Int -> Prop) (g : Int -> Int -> V) : R2 := fun x y H Q => ∃ i j, x = .int i /\ y = .int j /\ C i j /\ Q (g i j) H
noncomputable def rI0 (g : Int -> Int -> V) : R2 := fun x y H Q => ∃ i j, x = .int i /\ y = .int j /\ Q (g i j) H
noncomputable def rU (g : Int -> V) : V -> Hp -> VK -> Prop := fun x H Q => ∃ i, x = .int i /\ Q (g i) H
section
variable {X : Cx} {a b c : Expr} {ta tb tc : TE} {pos : Pos}
theorem Es (ha : PE X a ta) (hb : PE X b tb) {pins : List (Addr × Obj)} {s : Shared} {σ : St} {H : Hp} {R : V -> V -> Hp -> Prop} (I : Inv X pins σ H s)
  (h : ta σ H fun x H1 => tb σ H1 fun y H2 => R x y H2) {Q : Value -> Shared -> Prop} {f : Value -> Value -> Sem Value}
  (hf : ∀ v u s2 x y H2, Inv X pins σ H2 s2 -> zA x v -> zA y u -> R x y H2 -> wpAny (model X.prog X.w) X.A (f v u) Q X.xe s2) :
  wpAny (model X.prog X.w) X.A (eval a X.env) (fun v s₁ => wpAny (model X.prog X.w) X.A (eval b X.env) (fun u s₂ => wpAny (model X.prog X.w) X.A (f v u) Q X.xe s₂) X.xe s₁) X.xe s := by
 refine thn (ha pins s σ H _ I h) fun v s1 ⟨x, H1, I1, r1, q1⟩ => ?_
 refine thn (hb pins s1 σ H1 _ I1 q1) fun u s2 ⟨y, H2, I2, r2, q2⟩ => ?_
 exact hf v u s2 x y H2 I2 r1 r2 q2
theorem zz {op : Operator} {r : R2} (ho : OpR X (binaryOp op) r) (ha : PE X a ta) (hb : PE X b tb) : PE X (.BinOp a op b pos) (tOp r ta tb) := by
 intro pins s σ H Q I h
 exact wpAny_BinOp (Es ha hb I h fun v u s2 x y H2 I2 rx ry q => ho pins s2 σ H2 x y v u Q I2 rx ry q)
theorem AW {op : UnaryOp} {r : V -> Hp -> VK -> Prop} (ho : UnR X (unaryOp op) r) (ha : PE X a ta) : PE X (.UnaryOp op a pos) (tUn r ta) := by
 intro pins s σ H Q I h
 exact UnaryOp_ (thn (ha pins s σ H _ I h) fun v s1 ⟨x, H1, I1, r1, q1⟩ => ho pins s1 σ H1 x v Q I1 r1 q1)
theorem opI {f : Value -> Value -> Sem Value} {C : Int -> Int -> Prop} {g : Int -> Int -> Int}
  (rule : ∀ (i j : Int) (t u : Tok) (s : Shared) (Q : Value -> Shared -> Prop) (E : Value -> Shared -> Prop), C i j -> Q (.int (g i j) s.toks) { s with toks := s.toks + 1 } -> wpAny (model X.prog X.w) X.A (f (.int i t) (.int j u)) Q E s) :
  OpR X f (rI C fun i j => .int (g i j)) := by
 intro pins s σ H x y v u Q I rx ry h
 obtain ⟨i, j, rfl, rfl, hc, q⟩ := h
 obtain ⟨t, rfl⟩ := rx
 obtain ⟨t', rfl⟩ := ry
 exact rule i j t t' s _ _ hc ⟨.int (g i j), H, I.tok _, ⟨_, rfl⟩, q⟩
theorem FI {f : Value -> Value -> Sem Value} {g : Int -> Int -> Int}
  (rule : ∀ (i j : Int) (t u : Tok) (s : Shared) (Q : Value -> Shared -> Prop) (E : Value -> Shared -> Prop), Q (.int (g i j) s.toks) { s with toks := s.toks + 1 } -> wpAny (model X.prog X.w) X.A (f (.int i t) (.int j u)) Q E s) :
  OpR X f (rI0 fun i j => .int (g i j)) := by
 intro pins s σ H x y v u Q I rx ry h
 obtain ⟨i, j, rfl, rfl, q⟩ := h
 obtain ⟨t, rfl⟩ := rx
 obtain ⟨t', rfl⟩ := ry
 exact rule i j t t' s _ _ ⟨.int (g i j), H, I.tok _, ⟨_, rfl⟩, q⟩
theorem W4 {f : Value -> Value -> Sem Value} {g : Int -> Int -> Bool}
  (rule : ∀ (i j : Int) (t u : Tok) (s : Shared) (Q : Value -> Shared -> Prop) (E : Value -> Shared -> Prop), Q (.bool (g i j)) s -> wpAny (model X.prog X.w) X.A (f (.int i t) (.int j u)) Q E s) :
  OpR X f (rI0 fun i j => .bl (g i j)) := by
 intro pins s σ H x y v u Q I rx ry h
 obtain ⟨i, j, rfl, rfl, q⟩ := h
 obtain ⟨t, rfl⟩ := rx
 obtain ⟨t', rfl⟩ := ry
 exact rule i j t t' s _ _ ⟨.bl (g i j), H, I, rfl, q⟩
noncomputable def D7 (i j : Int) : Prop := 0 < j /\ j < 1073741824
noncomputable def FW (i j : Int) : Prop := 0 <= j /\ j <= 1000000 /\ i.natAbs < 2 ^ 64
noncomputable def YF (i j : Int) : Prop := (-(2 ^ 64) < i /\ i < 2 ^ 64) \/ (-(2 ^ 64) < j /\ j < 2 ^ 64)
theorem YF.ok {i j : Int} (h : YF i j) : IntMulOk i j := by
 rcases h with ⟨h1, h2⟩ | ⟨h1, h2⟩
 ·exact .of_left (intBits_le_64 h1 h2)
 ·exact .of_right (intBits_le_64 h1 h2)
theorem qv : OpR X (binaryOp .Add) (rI0 fun i j => .int (i + j)) := FI fun _ _ _ _ _ _ _ q => add_int q
theorem kC : OpR X (binaryOp .Sub) (rI0 fun i j => .int (i - j)) := FI fun _ _ _ _ _ _ _ q => sub_int q
theorem jN : OpR X (binaryOp .Mult) (rI YF fun i j => .int (i * j)) := opI fun _ _ _ _ _ _ _ hc q => mul_int q hc.ok
theorem QA : OpR X (binaryOp .FloorDiv) (rI D7 fun i j => .int (i / j)) := opI fun i j _ _ _ _ _ hc q => by
 have h1 : (0 : Int) < j := hc.1
 have h2 : j < 1073741824 := hc.2
 exact floordiv_int (by omega) (by rw [Int.fdiv_eq_ediv_of_nonneg i (by omega)]; exact q) (.inl (PyProof.noPylong_small (by omega)))
theorem jo : OpR X (binaryOp .Mod) (rI (fun _ j => 0 < j) fun i j => .int (i % j)) := opI fun i j _ _ _ _ _ hc q => by
 have h1 : (0 : Int) < j := hc
 exact mod_int' (by omega) (by rw [Int.fmod_eq_emod_of_nonneg i (by omega)]; exact q)
theorem Y1 : OpR X (binaryOp .Pow) (rI FW fun i j => .int (i ^ j.toNat)) := opI fun _ _ _ _ _ _ _ hc q => pow_int_small hc.1 hc.2.1 hc.2.2 q
theorem unI {f : Value -> Sem Value} {g : Int -> Int}
  (rule : ∀ (i : Int) (t : Tok) (s : Shared) (Q : Value -> Shared -> Prop) (E : Value -> Shared -> Prop), Q (.int (g i) s.toks) { s with toks := s.toks + 1 } -> wpAny (model X.prog X.w) X.A (f (.int i t)) Q E s) :
  UnR X f (rU fun i => .int (g i)) := by
 intro pins s σ H x v Q I rx h
 obtain ⟨i, rfl, q⟩ := h
 obtain ⟨t, rfl⟩ := rx
 exact rule i t s _ _ ⟨.int (g i), H, I.tok _, ⟨_, rfl⟩, q⟩
theorem Yc : UnR X (unaryOp .USub) (rU fun i => .int (-i)) := unI fun _ _ _ _ _ q => neg_int q
end
noncomputable def FX : V -> V -> Bool
 | .non, .non => true | .non, .int _ => true | .int _, .non => true | .non, .bl _ => true | .bl _, .non => true | .non, .str _ => true | .str _, .non => true
 | .int _, .int _ => true | .bl _, .bl _ => true | .str _, .str _ => true | .byt _, .byt _ => true
 | .int _, .str _ => true | .str _, .int _ => true | .bl _, .str _ => true | .str _, .bl _ => true
 | _, _ => false
noncomputable def rEq : R2 := fun x y H Q => FX x y = true /\ Q (.bl (decide (x = y))) H
theorem VG {i j : Int} : decide (V.int i = V.int j) = (i == j) := by
 rw [Bool.eq_iff_iff]
 simp
theorem DM {i j : Bool} : decide (V.bl i = V.bl j) = (i == j) := by
 rw [Bool.eq_iff_iff]
 simp
theorem W2 {i j : Str} : decide (V.str i = V.str j) = (i == j) := by
 rw [Bool.eq_iff_iff]
 simp
theorem We {i j : Array UInt8} : decide (V.byt i = V.byt j) = (i.toList == j.toList) := by
 rw [Bool.eq_iff_iff]
 cases i
 cases j
 simp
section
variable {X : Cx} {a b c : Expr} {ta tb tc : TE} {pos : Pos}
theorem qo {pins : List (Addr × Obj)} {σ : St} {H : Hp} {s : Shared} {Q : VK} {k k' : Bool} (I : Inv X pins σ H s) (q : Q (.bl k) H) (e : k = k') : EP X pins σ Q (.bool k') s := by
 subst e
 exact ⟨.bl k, H, I, rfl, q⟩
theorem yX : OpR X (compareOp .Eq) rEq := by
 intro pins s σ H x y v u Q I rx ry h
 obtain ⟨hs, q⟩ := h
 cases x with
 | non =>
  cases rx
  cases y with
  | non => cases ry; exact PySem.EqNone.eq_none_none (qo I q (by simp))
  | bl j => cases ry; exact PySem.EqNone.eq_none_bool (qo I q (by simp))
  | int j => obtain ⟨t', rfl⟩ := ry; exact PySem.EqNone.eq_none_int (qo I q (by simp))
  | str j => obtain ⟨t', rfl⟩ := ry; exact PySem.EqNone.eq_none_str (qo I q (by simp))
  | _ => exact absurd (show false = true from hs) Bool.false_ne_true
 | bl i =>
  cases rx
  cases y with
  | non => cases ry; exact PySem.EqNone.eq_bool_none (qo I q (by simp))
  | bl j => cases ry; exact eq_bool (qo I q DM)
  | str j => obtain ⟨t', rfl⟩ := ry; exact PySem.EqMixed.eq_bool_str (qo I q (by simp))
  | _ => exact absurd (show false = true from hs) Bool.false_ne_true
 | int i =>
  obtain ⟨t, rfl⟩ := rx
  cases y with
  | non => cases ry; exact PySem.EqNone.eq_int_none (qo I q (by simp))
  | int j => obtain ⟨t', rfl⟩ := ry; exact eq_int (qo I q VG)
  | str j => obtain ⟨t', rfl⟩ := ry; exact PySem.EqMixed.eq_int_str (qo I q (by simp))
  | _ => exact absurd (show false = true from hs) Bool.false_ne_true
 | str i =>
  obtain ⟨t, rfl⟩ := rx
  cases y with
  | non => cases ry; exact PySem.EqNone.eq_str_none (qo I q (by simp))
  | bl j => cases ry; exact PySem.EqMixed.eq_str_bool (qo I q (by simp))
  | int j => obtain ⟨t', rfl⟩ := ry; exact PySem.EqMixed.eq_str_int (qo I q (by simp))
  | str j => obtain ⟨t', rfl⟩ := ry; exact eq_str (qo I q W2)
  | _ => exact absurd (show false = true from hs) Bool.false_ne_true
 | byt i =>
  obtain ⟨t, rfl⟩ := rx
  cases y with
  | byt j => obtain ⟨t', rfl⟩ := ry; exact PySem.W.eq_bytes (qo I q We)
  | _ => exact absurd (show false = true from hs) Bool.false_ne_true
 | _ => cases y <;> exact absurd (show false = true from hs) Bool.false_ne_true
theorem Ar : OpR X (compareOp .Lt) (rI0 fun i j => .bl (decide (i < j))) := W4 fun _ _ _ _ _ _ _ q => lt_int q
theorem AB : OpR X (compareOp .LtE) (rI0 fun i j => .bl (decide (i <= j))) := W4 fun _ _ _ _ _ _ _ q => le_int q
theorem Ak : OpR X (compareOp .Gt) (rI0 fun i j => .bl (decide (j < i))) := W4 fun _ _ _ _ _ _ _ q => gt_int q
theorem ET : OpR X (compareOp .GtE) (rI0 fun i j => .bl (decide (j <= i))) := W4 fun _ _ _ _ _ _ _ q => ge_int q
theorem jD : OpR X (compareOp .Is) (fun x y H Q => y = .non /\ Q (.bl (decide (x = .non))) H) := by
 intro pins s σ H x y v u Q I rx ry h
 obtain ⟨rfl, q⟩ := h
 cases ry
 refine is_none_gen (qo I q ?_)
 cases x <;> first
  | (cases rx; rfl)
  | (obtain ⟨t, rfl⟩ := rx; rfl)
theorem qY : OpR X (compareOp .IsNot) (fun x y H Q => y = .non /\ Q (.bl (!decide (x = .non))) H) := by
 intro pins s σ H x y v u Q I rx ry h
 obtain ⟨rfl, q⟩ := h
 cases ry
 refine isnot_none_gen (qo I q ?_)
 cases x <;> first
  | (cases rx; rfl)
  | (obtain ⟨t, rfl⟩ := rx; rfl)
theorem zu (b : Expr) {op : CmpOp} (h : op ≠ .In := by decide) (h2 : op ≠ .NotIn := by decide) : behindInMarks op b = false := by
 have e1 : (op == CmpOp.In) = false := by cases op <;> first | rfl | exact absurd rfl h
 have e2 : (op == CmpOp.NotIn) = false := by cases op <;> first | rfl | exact absurd rfl h2
 cases b <;> simp [behindInMarks, e1, e2]
theorem qU {op : CmpOp} {r : R2} (ho : OpR X (compareOp op) r) (ha : PE X a ta) (hb : PE X b tb) (hm : behindInMarks op b = false) : PE X (.Compare a [op] [b] pos) (tOp r ta tb) := by
 intro pins s σ H Q I h
 exact wpAny_Compare1 (Es ha hb I h fun v u s2 x y H2 I2 rx ry q => ho pins s2 σ H2 x y v u Q I2 rx ry q) hm
noncomputable def QB (t : TE) : TT := fun σ H Q => t σ H fun x H' => ∃ k, x = .bl k /\ Q k H'
theorem zo {op : CmpOp} {r : R2} (ho : OpR X (compareOp op) r) (ha : PE X a ta) (hb : PE X b tb) (hm : behindInMarks op b = false) : PT X (.Compare a [op] [b] pos) (QB (tOp r ta tb)) := by
 intro pins s σ H Q I h
 refine wpAny_isTrue_Compare1 (thn (ha pins s σ H _ I h) fun v s1 ⟨x, H1, I1, r1, q1⟩ => thn (hb pins s1 σ H1 _ I1 q1) fun u s2 ⟨y, H2, I2, r2, q2⟩ =>
  thn (ho pins s2 σ H2 x y v u _ I2 r1 r2 q2) fun c s3 ⟨z, H3, I3, r3, k, e, q3⟩ => ?_) hm
 subst e
 cases r3
 exact wpAny_truthy_bool ⟨H3, I3, q3⟩
noncomputable def Qn (r r' : R2) (ta tb tc : TE) : TE := fun σ H Q => ta σ H fun x H1 => tb σ H1 fun y H2 => r x y H2 fun z H3 => ∃ k, z = .bl k /\
 (if k = true then tc σ H3 fun w' H4 => r' y w' H4 Q else Q (.bl false) H3)
theorem YL {op op' : CmpOp} {r r' : R2} (ho : OpR X (compareOp op) r) (ho' : OpR X (compareOp op') r') (ha : PE X a ta) (hb : PE X b tb) (hc : PE X c tc)
  (hm : lastMarks [op, op'] [b, c] = false := by with_unfolding_all rfl) : PE X (.Compare a [op, op'] [b, c] pos) (Qn r r' ta tb tc) := by
 intro pins s σ H Q I h
 refine Compare_chain (thn (ha pins s σ H _ I h) fun v s1 ⟨x, H1, I1, r1, q1⟩ => chain_link (thn (hb pins s1 σ H1 _ I1 q1) fun u s2 ⟨y, H2, I2, r2, q2⟩ =>
  thn (ho pins s2 σ H2 x y v u _ I2 r1 r2 q2) fun d s3 ⟨z, H3, I3, r3, k, e, q3⟩ => ?_)) hm
 subst e
 cases r3
 refine wpAny_truthy_bool ?_
 cases k with
 | false => exact ite_ff ⟨.bl false, H3, I3, rfl, q3⟩
 | true => exact ite_tt (chain_last (thn (hc pins s3 σ H3 _ I3 q3) fun w' s4 ⟨z', H4, I4, r4, q4⟩ => ho' pins s4 σ H4 y z' u w' Q I4 r2 r4 q4))
theorem YX {op op' : CmpOp} {r r' : R2} (ho : OpR X (compareOp op) r) (ho' : OpR X (compareOp op') r') (ha : PE X a ta) (hb : PE X b tb) (hc : PE X c tc)
  (hm : lastMarks [op, op'] [b, c] = false := by with_unfolding_all rfl) : PT X (.Compare a [op, op'] [b, c] pos) (QB (Qn r r' ta tb tc)) := by
 intro pins s σ H Q I h
 refine isTrue_chain (thn (ha pins s σ H _ I h) fun v s1 ⟨x, H1, I1, r1, q1⟩ => test_link (thn (hb pins s1 σ H1 _ I1 q1) fun u s2 ⟨y, H2, I2, r2, q2⟩ =>
  thn (ho pins s2 σ H2 x y v u _ I2 r1 r2 q2) fun d s3 ⟨z, H3, I3, r3, k, e, q3⟩ => ?_)) hm
 subst e
 cases r3
 refine wpAny_truthy_bool ?_
 cases k with
 | false =>
  obtain ⟨k', e', q'⟩ := q3
  cases e'
  exact ite_ff ⟨H3, I3, q'⟩
 | true =>
  refine ite_tt (test_last (thn (hc pins s3 σ H3 _ I3 q3) fun w' s4 ⟨z', H4, I4, r4, q4⟩ => thn (ho' pins s4 σ H4 y z' u w' _ I4 r2 r4 q4) fun d' s5 ⟨z2, H5, I5, r5, k2, e2, q5⟩ => ?_))
  subst e2
  cases r5
  exact wpAny_truthy_bool ⟨H5, I5, q5⟩
theorem yL : (sizeLine : Nat) < 2 ^ 63 := by rw [sizeLine_eq]; decide
theorem kg {x : V} {us : List Value} (r : zB [x] us) : ∃ u, us = [u] /\ zA x u := by
 cases r with
 | cons r1 r2 => cases r2; exact ⟨_, rfl, r1⟩
theorem wL {x y : V} {us : List Value} (r : zB [x, y] us) : ∃ u w', us = [u, w'] /\ zA x u /\ zA y w' := by
 cases r with
 | cons r1 r2 =>
  cases r2 with
  | cons r3 r4 => cases r4; exact ⟨_, _, rfl, r1, r3⟩
theorem Zy : jg X (.builtin "abs") (fun xs H Q => ∃ i, xs = [.int i] /\ Q (.int (if i < 0 then -i else i)) H) := by
 intro pins s σ H xs us Q I r h
 obtain ⟨i, rfl, q⟩ := h
 obtain ⟨u, rfl, t, rfl⟩ := kg r
 exact call_abs_int fun u tk => ⟨.int (if i < 0 then -i else i), H, I.tok _, ⟨_, rfl⟩, q⟩
theorem vt (hc : X.calm = true) : jg X (.builtin "max") (fun xs H Q => ∃ i j, xs = [.int i, .int j] /\ Q (.int (if j > i then j else i)) H) := by
 intro pins s σ H xs us Q I r h
 obtain ⟨i, j, rfl, q⟩ := h
 obtain ⟨u, w', rfl, ⟨t, rfl⟩, ⟨t', rfl⟩⟩ := wL r
 refine max_two_ints (I.ok.hd hc) fun h' tk k => ⟨_, H, I.kept k, ?_, q⟩
 by_cases hj : j > i
 ·rw [if_pos hj, if_pos hj]; exact ⟨_, rfl⟩
 ·rw [if_neg hj, if_neg hj]; exact ⟨_, rfl⟩
theorem J8 : jg X (.type "int") (fun xs H Q => (∃ i, xs = [.int i] /\ Q (.int i) H) \/ ∃ k, xs = [.bl k] /\ Q (.int (if k then 1 else 0)) H) := by
 intro pins s σ H xs us Q I r h
 rcases h with ⟨i, rfl, q⟩ | ⟨k, rfl, q⟩
 ·obtain ⟨u, rfl, t, rfl⟩ := kg r
  exact call_int_int ⟨.int i, H, I, ⟨_, rfl⟩, q⟩
 ·obtain ⟨u, rfl, r1⟩ := kg r
  cases r1
  exact call_int_bool ⟨.int (if k then 1 else 0), H, I.tok _, ⟨_, rfl⟩, q⟩
theorem wy : jg X (.builtin "divmod") (fun xs H Q => ∃ i j, xs = [.int i, .int j] /\ D7 i j /\ ∀ p, H p = none -> Q (.ref p) (upd H p (.tup [.int (i / j), .int (i % j)]))) := by
 intro pins s σ H xs us Q I r h
 obtain ⟨i, j, rfl, ⟨h1, h2⟩, q⟩ := h
 obtain ⟨u, w', rfl, ⟨t, rfl⟩, ⟨t', rfl⟩⟩ := wL r
 refine divmod_int (by omega) ?_ (.inl (PyProof.noPylong_small (by omega)))
 rw [Int.fdiv_eq_ediv_of_nonneg i (by omega), Int.fmod_eq_emod_of_nonneg i (by omega)]
 have hn : H s.heap.objs.size = none := I.hok.fresh (Nat.le_refl _)
 refine ⟨.ref s.heap.objs.size, _, ?_, rfl, q _ hn⟩
 refine I.laid (fun b o e => Heap.get?_push_of_some _ e) (Nat.le_refl _) ⟨by simp only [List.length_cons, List.length_nil]; rw [sizeLine_eq]; decide, [.int (i / j) s.toks, .int (i % j) (s.toks + 1)], .cons ⟨_, rfl⟩ (.cons ⟨_, rfl⟩ .nil), ?_⟩
 exact ⟨_, Heap.get?_push_size s.heap rfl, rfl, ⟨0, rfl⟩, rfl⟩
end
end L2
namespace L2
open PySem PySem.Spec PyProof.Rows
structure Qb (h : Heap) (x dx C : Addr) (mA : Str -> Option Value) : Prop where
 obj : h.get? x = some (PySem.W.instObj C dx)
 ns : h.Ns1 dx mA
 ne : dx ≠ x
theorem vB {h : Heap} {dx : Addr} {mA : Str -> Option Value} (n : h.Ns1 dx mA) : ∃ od, h.get? dx = some od /\ ∀ name, PySem.W.lookIn name od = some (mA name) := by
 obtain ⟨o, es, ep, ho, hd, hk, _, hm⟩ := n
 refine ⟨o, ho, fun name => ?_⟩
 have e := hm name
 unfold nsFind findBy at e
 rw [<- Array.find?_toList] at e
 unfold PySem.W.lookIn
 rw [hd]
 dsimp only
 split
 ·rename_i y q
  rw [q] at e
  exact congrArg some e
 ·rename_i q
  rw [q] at e
  have a : es.toList.any (·.refKey) = false := by
   rw [List.any_eq_false]
   intro y hy
   obtain ⟨z, t, hkey⟩ := hk y (Array.mem_toList_iff.mp hy)
   simp [DictEntry.refKey, hkey]
  have a' : ¬ es.toList.any (·.refKey) = true := by rw [a]; exact Bool.false_ne_true
  rw [if_neg a']
  exact congrArg some e
theorem Qb.look {h : Heap} {x dx C : Addr} {mA : Str -> Option Value} (I : Qb h x dx C mA) : ∃ od, PySem.W.InstAt h x (PySem.W.instObj C dx) C (some od) /\ ∀ name, PySem.W.lookIn name od = some (mA name) :=
 let ⟨od, ho, hl⟩ := vB I.ns
 ⟨od, ⟨I.obj, rfl, rfl, ho⟩, hl⟩
section
variable {prog : Program} {w : World} {A : Around} {E : Value -> Shared -> Prop} {s : Shared} {K : PySem.W.Frag} {x dx C f : Addr} {mA : Str -> Option Value} {name : Str} {v : Value}
theorem Wz {expr : Bool} {Q : Value -> Shared -> Prop} (X : K.In s.heap) (I : Qb s.heap x dx C mA) (hg : PySem.W.plainGet K C name = true) (hh : PySem.W.hasDictIn K C = true)
  (ha : PySem.W.findIn K (.ref C) name = some none) (hv : mA name = some v) (hv' : PySem.W.handedIn v = true) (h : Q v { s with toks := s.toks + 1 }) :
  wpAny (model prog w) A (getAttr (.ref x) name expr) Q E s := by
 obtain ⟨od, J, hl⟩ := I.look
 exact PySem.W.get_value X J (PySem.W.plainGet_of hg).1 (PySem.W.findObj_own hh ha rfl (by rw [hl, hv])) hv' h
theorem KH {pl : Sem Bool} {Q : Value × List Value -> Shared -> Prop} (X : K.In s.heap) (I : Qb s.heap x dx C mA) (hg : PySem.W.plainGet K C name = true)
  (hf : PySem.W.findIn K (.ref C) name = some (some (.ref f))) (ht : PySem.W.isFn K (.ref f) = true) (hv : mA name = none) (h : Q (.ref f, [.ref x]) s) :
  wpAny (model prog w) A (getMethod (.ref x) name pl) Q E s := by
 obtain ⟨od, J, hl⟩ := I.look
 exact PySem.W.method_fn X J (PySem.W.plainGet_of hg).1 (PySem.W.plainGet_of hg).2 hf (beq_iff_eq.mp ht) (by show (PySem.W.lookIn name od).map (·.isSome) = some false; rw [hl, hv]; rfl) h
theorem vI {ns : List Str} {Q : Unit -> Shared -> Prop} (X : K.In s.heap) (I : Qb s.heap x dx C mA)
  (hs : PySem.W.findIn K (.ref C) "__setattr__" = some (some (.builtin "object.__setattr__"))) (hp : PySem.W.plainOver K C = true) (ht : PySem.W.takerIn K C name = some none) (hh : PySem.W.hasDictIn K C = true)
  (hw : PySem.Within mA ns) (hsz : ns.length <= sizeLine)
  (h : ∀ h', Qb h' x dx C (fun y => if y = name then some v else mA y) -> Heap.SameBut dx s.heap h' -> Q () { s with heap := h', toks := s.toks + 2 }) :
  wpAny (model prog w) A (setAttr (.ref x) name v) Q E s := by
 obtain ⟨od, J, hl⟩ := I.look
 refine PySem.W.set_plain X J hs (PySem.W.osa_open (s := { s with toks := s.toks + 1 }) (r := none) X J hp ht fun b => ?_)
 obtain ⟨cd, hc, hd'⟩ := PySem.W.any_some hh
 have hx : s.heap.get? x = some ⟨.ref C, some dx, .plain, #[]⟩ := I.obj
 refine wpAny_bind (wpAny_pure (wpAny_bind (wpAny_bind (wpAny_loadPart hx (wpAny_bind (PySem.W.Looks.here (s := { s with toks := s.toks + 1 }) (PySem.W.looks_clsIn X hc) ?_))))))
 rw [hd']
 refine wpAny_pure (a := some dx) (wpAny_bind (wpAny_pure (wpAny_bind ?_)))
 refine wpAny_nsSet1 (s := { s with toks := s.toks + 1 }) I.ns fun h' hn2 hs2 => ?_
 obtain ⟨oD, esD, epD, hoD, hdD, hcD⟩ := hn2.count (PySem.Within.cons name v hw)
 refine wpAny_bind (wpAny_lookBehind hoD (by rw [hdD]; exact pastItsLine_dict (Nat.le_trans hcD (by rw [List.length_cons]; omega))) ?_)
 exact wpAny_pure (h _ ⟨(hs2.2 _ (Ne.symm I.ne)).trans I.obj, hn2, I.ne⟩ hs2)
theorem Y9 {R : Result -> Shared -> Prop} {vs : List Value} {kw : List (Str × Value)} (X : K.In s.heap) (hm : PySem.W.makesIn K C = true)
  (hi : PySem.W.findIn K (.ref C) "__init__" = some (some (.ref f))) (hf : PySem.W.typeIn K (.ref f) = some (.type "function"))
  (h : codeAny (model prog w) (A.under (.builtin "type.__call__" ⟨.ref C :: vs, kw⟩)) (.call (.ref f) ⟨.ref (s.heap.objs.size + 1) :: vs, kw⟩) (PySem.W.InitBack (s.heap.objs.size + 1) R)
   { s with heap := (s.heap.push PySem.W.emptyDict).push (PySem.W.instObj C s.heap.objs.size) }) :
  codeAny (model prog w) A (.call (.ref C) ⟨vs, kw⟩) R s := by
 obtain ⟨hh, g, d, t, os⟩ := s
 exact PySem.W.make_core (PySem.W.makes_of X hm) (PySem.W.looks_findIn X hi) (fun self => PySem.W.bind_fn X self hf) (.inl rfl) h
end
noncomputable def jj (f : Str) (v : V) : List (Str × V) -> List (Str × V)
 | [] => [(f, v)]
 | (g, x) :: r => if g = f then (g, v) :: r else (g, x) :: jj f v r
theorem jm (f g : Str) (v : V) : ∀ fs : List (Str × V), (jj f v fs).lookup g = if g = f then some v else fs.lookup g
 | [] => by
  show List.lookup g [(f, v)] = _
  by_cases h : g = f
  ·have hb : (g == f) = true := beq_iff_eq.mpr h
   simp only [List.lookup, hb, if_pos h]
  ·have hb : (g == f) = false := beq_eq_false_iff_ne.mpr h
   simp only [List.lookup, hb, if_neg h]
 | (k, x) :: r => by
  have ih := jm f g v r
  rw [show jj f v ((k, x) :: r) = (if k = f then (k, v) :: r else (k, x) :: jj f v r) from rfl]
  by_cases hk : k = f
  ·rw [if_pos hk]
   by_cases h : g = k
   ·have hb : (g == k) = true := beq_iff_eq.mpr h
    simp only [List.lookup, hb, if_pos (h.trans hk)]
   ·have hb : (g == k) = false := beq_eq_false_iff_ne.mpr h
    simp only [List.lookup, hb, if_neg (fun e : g = f => h (e.trans hk.symm))]
  ·rw [if_neg hk]
   by_cases h : g = k
   ·have hb : (g == k) = true := beq_iff_eq.mpr h
    simp only [List.lookup, hb, if_neg (fun e : g = f => hk (h.symm.trans e))]
   ·have hb : (g == k) = false := beq_eq_false_iff_ne.mpr h
    simp only [List.lookup, hb]
    exact ih
theorem jy (f : Str) (v : V) : ∀ fs : List (Str × V), f ∈ (jj f v fs).map (·.1) /\ ∀ g, g ∈ fs.map (·.1) -> g ∈ (jj f v fs).map (·.1)
 | [] => ⟨by simp [jj], fun g h => by simp at h⟩
 | (k, x) :: r => by
  obtain ⟨i1, i2⟩ := jy f v r
  rw [show jj f v ((k, x) :: r) = (if k = f then (k, v) :: r else (k, x) :: jj f v r) from rfl]
  by_cases hk : k = f
  ·rw [if_pos hk]
   subst hk
   exact ⟨by simp, fun g h => by simpa using h⟩
  ·rw [if_neg hk]
   refine ⟨?_, fun g h => ?_⟩
   ·rw [List.map_cons]
    exact List.mem_cons_of_mem _ i1
   ·rw [List.map_cons] at h ⊢
    rcases List.mem_cons.mp h with e | e
    ·exact List.mem_cons.mpr (.inl e)
    ·exact List.mem_cons_of_mem _ (i2 g e)
theorem xK (f : Str) (v : V) : ∀ fs : List (Str × V), (jj f v fs).length <= fs.length + 1
 | [] => by simp [jj]
 | (k, x) :: r => by
  have ih := xK f v r
  rw [show jj f v ((k, x) :: r) = (if k = f then (k, v) :: r else (k, x) :: jj f v r) from rfl]
  by_cases hk : k = f
  ·rw [if_pos hk, List.length_cons, List.length_cons]; omega
  ·rw [if_neg hk, List.length_cons, List.length_cons]; omega
theorem kB.some_of {v : V} {o : Option Value} (r : kB (some v) o) : ∃ u, o = some u /\ zA v u := by
 cases o with
 | none => exact (show False from r).elim
 | some u => exact ⟨u, rfl, r⟩
theorem kB.none_of {o : Option Value} (r : kB none o) : o = none := by
 cases o with
 | none => rfl
 | some u => exact (show False from r).elim
theorem vm {v : V} {u : Value} (r : zA v u) : PySem.W.handedIn u = true := by
 cases v with
 | non => cases (show u = Value.none from r); rfl
 | bl b => cases (show u = Value.bool b from r); rfl
 | int i => obtain ⟨t, e⟩ := (show ∃ t, u = Value.int i t from r); cases e; rfl
 | str x => obtain ⟨t, e⟩ := (show ∃ t, u = Value.str x t from r); cases e; rfl
 | byt b => obtain ⟨t, e⟩ := (show ∃ t, u = Value.bytes b t from r); cases e; rfl
 | flt b => obtain ⟨t, e⟩ := (show ∃ t, u = Value.float b t from r); cases e; rfl
 | ref a => cases (show u = Value.ref a from r); rfl
 | ty n => cases (show u = Value.type n from r); rfl
section
variable {P : Program} {w : World} {H H' : Hp} {h h' : Heap} {a C dx : Addr} {fs fs' : List (Str × V)}
theorem xY (hok : HOk P w H h) (e : H a = some (.ins C dx fs)) : ∃ mA, Qb h a dx C mA /\ (∀ f, kB (fs.lookup f) (mA f)) /\ PySem.Within mA (fs.map (·.1)) /\ fs.length <= 1000 /\ H dx = some (.own a) := by
 obtain ⟨d, z, ne, ob, mA, n, r, q⟩ := (show zP P w H h a (.ins C dx fs) from hok a _ e)
 exact ⟨mA, ⟨ob, n, ne⟩, r, q, z, d⟩
end
structure Cls (K : PySem.W.Frag) (C : Addr) : Prop where
 pg : PySem.W.plainGet K C Str.empty = true
 hd : PySem.W.hasDictIn K C = true
 po : PySem.W.plainOver K C = true
 sa : PySem.W.findIn K (.ref C) "__setattr__" = some (some (.builtin "object.__setattr__"))
theorem Cls.get {K : PySem.W.Frag} {C : Addr} (c : Cls K C) (f : Str) : PySem.W.plainGet K C f = true := c.pg
noncomputable def jb (K : PySem.W.Frag) (C : Addr) (f : Str) : Prop := PySem.W.findIn K (.ref C) f = some none
theorem jb.taker {K : PySem.W.Frag} {C : Addr} {f : Str} (n : jb K C f) : PySem.W.takerIn K C f = some none := by
 unfold PySem.W.takerIn
 rw [show PySem.W.findIn K (.ref C) f = some none from n]
 rfl
structure Con (K : PySem.W.Frag) (C : Addr) (f : Str) (v : V) (u : Value) : Prop where
 at_ : PySem.W.findIn K (.ref C) f = some (some u)
 rel : zA v u
 get : PySem.W.specialIn K u "__get__" = some none
 cp : PySem.W.copiedNames.contains f = false
structure Z4 (K : PySem.W.Frag) (C : Addr) (m : Str) (f : Addr) : Prop where
 at_ : PySem.W.findIn K (.ref C) m = some (some (.ref f))
 fn : PySem.W.isFn K (.ref f) = true
 kp : PySem.W.keepIn K (.ref f) = true
section
variable {X : Cx} {pins : List (Addr × Obj)} {σ : St} {H : Hp} {s : Shared} {a C dx : Addr} {fs : List (Str × V)} {f : Str} {v : V} {A : Around} {E : Value -> Shared -> Prop}
theorem Z7 {b : Bool} {Q : Value -> Shared -> Prop} (I : Inv X pins σ H s) (e : H a = some (.ins C dx fs)) (c : Cls X.K C) (n : jb X.K C f) (l : fs.lookup f = some v)
  (h : ∀ u s', Inv X pins σ H s' -> zA v u -> Q u s') : wpAny (model X.prog X.w) A (getAttr (.ref a) f b) Q E s := by
 obtain ⟨mA, O, r, _, _, _⟩ := xY I.hok e
 obtain ⟨u, hu, ru⟩ := kB.some_of (v := v) (o := mA f) (by rw [<- l]; exact r f)
 exact Wz I.kIn O (c.get f) c.hd n hu (vm ru) (h u _ (I.tok _) ru)
theorem jC {m : Str} {g : Addr} {pl : Sem Bool} {Q : Value × List Value -> Shared -> Prop} (I : Inv X pins σ H s) (e : H a = some (.ins C dx fs)) (c : Cls X.K C) (k : Z4 X.K C m g) (l : fs.lookup m = none)
  (h : Q (.ref g, [.ref a]) s) : wpAny (model X.prog X.w) A (getMethod (.ref a) m pl) Q E s := by
 obtain ⟨mA, O, r, _, _, _⟩ := xY I.hok e
 have hn : mA m = none := kB.none_of (by rw [<- l]; exact r m)
 exact KH I.kIn O (c.get m) k.at_ k.fn hn h
theorem Qd {y : V} {u : Value} {Q : Unit -> Shared -> Prop} (I : Inv X pins σ H s) (e : H a = some (.ins C dx fs)) (c : Cls X.K C) (n : jb X.K C f) (hl : fs.length < 1000) (ry : zA y u)
  (h : ∀ s', Inv X pins σ (upd H a (.ins C dx (jj f y fs))) s' -> Q () s') : wpAny (model X.prog X.w) A (setAttr (.ref a) f u) Q E s := by
 obtain ⟨mA, O, r, wi, _, ho⟩ := xY I.hok e
 have hz : (fs.map (·.1)).length <= sizeLine := by rw [List.length_map, sizeLine_eq]; omega
 refine vI I.kIn O c.sa c.po n.taker c.hd wi hz fun h' O' sb => h _ ?_
 have hd : ∃ o, h'.get? dx = some o := let ⟨o, _, _, e', _⟩ := O'.ns; ⟨o, e'⟩
 refine I.write (x := a) (e := dx) (by rw [e]; exact True.intro) (.inr ho) (fun b q hb z => (sb.2 b hb).trans z) hd ?_
 refine ⟨by rw [zg O.ne]; exact ho, ?_, O.ne, O'.obj, _, O'.ns, fun g => ?_, fun g hg => ?_⟩
 ·have := xK f y fs; omega
 ·show kB ((jj f y fs).lookup g) (if g = f then some u else mA g)
  rw [jm]
  by_cases q : g = f
  ·rw [if_pos q, if_pos q]; exact ry
  ·rw [if_neg q, if_neg q]; exact r g
 ·by_cases q : g = f
  ·rw [q]; exact (jy f y fs).1
  ·refine (jy f y fs).2 g (wi g fun z => hg ?_)
   show (if g = f then some u else mA g) = none
   rw [if_neg q]; exact z
theorem Inv.made (I : Inv X pins σ H s) : Inv X pins σ (upd (upd H s.heap.objs.size (.own (s.heap.objs.size + 1))) (s.heap.objs.size + 1) (.ins C s.heap.objs.size []))
  { s with heap := (s.heap.push PySem.W.emptyDict).push (PySem.W.instObj C s.heap.objs.size) } := by
 have e1 : (s.heap.push PySem.W.emptyDict).get? s.heap.objs.size = some PySem.W.emptyDict := Heap.get?_push_size s.heap rfl
 have e2 : ((s.heap.push PySem.W.emptyDict).push (PySem.W.instObj C s.heap.objs.size)).get? (s.heap.objs.size + 1) = some (PySem.W.instObj C s.heap.objs.size) := by
  have := Heap.get?_push_size (s.heap.push PySem.W.emptyDict) (o := PySem.W.instObj C s.heap.objs.size) rfl
  rwa [Heap.size_push] at this
 have e3 : (s.heap.push PySem.W.emptyDict).Ns s.heap.objs.size (fun _ => none) := ⟨PySem.W.emptyDict, #[], _, e1, rfl, (fun e he => absurd he (by simp)), fun _ => rfl⟩
 have I1 := I.laid (a := s.heap.objs.size) (o := .own (s.heap.objs.size + 1)) (h' := s.heap.push PySem.W.emptyDict) (t' := s.toks) (fun b u q => Heap.get?_push_of_some _ q) (Nat.le_refl _) ⟨_, e1⟩
 refine I1.laid (a := s.heap.objs.size + 1) (o := .ins C s.heap.objs.size []) (t' := s.toks) (fun b u q => Heap.get?_push_of_some _ q) (Nat.le_of_eq (Heap.size_push _ _)) ?_
 have ne : s.heap.objs.size ≠ s.heap.objs.size + 1 := Nat.ne_of_lt (Nat.lt_succ_self _)
 refine ⟨by rw [zg ne, ze], Nat.zero_le _, ne, e2, fun _ => none, (Heap.Ns1.of_empty e3).at fun o q => Heap.get?_push_of_some _ q, fun _ => True.intro, fun y hy => absurd rfl hy⟩
theorem QG {prog : Program} {w : World} {env : Env} {e : Expr} {f : Str} {pos : Pos} {s : Shared} {Q : Value -> Shared -> Prop} (hb : attributeBase e f env (eval e env) = eval e env)
  (h : wpAny (model prog w) A (eval e env) (fun o s₁ => wpAny (model prog w) A (getAttr o f true) Q E s₁) E s) : wpAny (model prog w) A (eval (.Attribute e f pos) env) Q E s :=
 Attribute_any_ h (by rw [arm_eval_Attribute, hb])
end
noncomputable def Bu (K : PySem.W.Frag) (ta : TE) (f : Str) : TE := fun σ H Q => ta σ H fun x H1 => ∃ a C dx fs v, x = .ref a /\ H1 a = some (.ins C dx fs) /\ Cls K C /\ jb K C f /\ fs.lookup f = some v /\ Q v H1
noncomputable def WO (K : PySem.W.Frag) (ta tv : TE) (f : Str) : TS := fun D σ H => tv σ H fun y H1 => ta σ H1 fun x H2 => ∃ a C dx fs, x = .ref a /\ H2 a = some (.ins C dx fs) /\ Cls K C /\ jb K C f /\ fs.length < 1000 /\
 D.nx σ (upd H2 a (.ins C dx (jj f y fs)))
section
variable {X : Cx} {o e value : Expr} {f : Str} {pos pos' tpos : Pos} {ta tv : TE}
theorem zZ (he : PE X e ta) (hb : attributeBase e f X.env (eval e X.env) = eval e X.env) : PE X (.Attribute e f pos) (Bu X.K ta f) := by
 intro pins s σ H Q I h
 refine QG hb (thn (he pins s σ H _ I h) fun u s1 ⟨x, H1, I1, rx, a, C, dx, fs, v, ex, ea, c, n, l, q⟩ => ?_)
 subst ex
 obtain rfl : u = Value.ref a := rx
 exact Z7 I1 ea c n l fun u' s2 I2 ru => ⟨v, H1, I2, ru, q⟩
theorem yy (ha : PE X o ta) (hv : PE X value tv) (hs : swapsWith value (some (.Attribute o f pos')) pos.line X.env = pure false) : PS X (.Assign [.Attribute o f pos'] value pos) (WO X.K ta tv f) := by
 intro pins s σ H D I h
 refine plainObj_wpAny_Assign_Attribute (thn (hv pins s σ H _ I h) fun u s1 ⟨y, H1, I1, ry, q⟩ => thn (ha pins s1 σ H1 _ I1 q) fun ov s2 ⟨x, H2, I2, rx, a, C, dx, fs, ex, ea, c, n, l, q2⟩ => ?_) hs
 subst ex
 obtain rfl : ov = Value.ref a := rx
 exact Qd I2 ea c n l ry fun s3 I3 => ⟨σ, _, I3, q2⟩
theorem Bb {pl : Sem Bool} {m : Str} {apos : Pos} {args : List Expr} {pins : List (Addr × Obj)} {s : Shared} {σ : St} {H : Hp} {Q : Value -> Shared -> Prop} {te : TE} (he : PE X e te) (I : Inv X pins σ H s)
  (h : te σ H fun x H1 => ∃ a C dx fs g, x = .ref a /\ H1 a = some (.ins C dx fs) /\ Cls X.K C /\ Z4 X.K C m g /\ fs.lookup m = none /\
   ∀ s1, Inv X pins σ H1 s1 -> wpAny (model X.prog X.w) X.A (callWith pos (.ref g) [.ref a] (backTo pos (starEach args X.env)) (backToKw pos (keywordEach [] X.env))) Q X.xe s1)
  (ht : eval (.Call (.Attribute e m apos) args [] pos) X.env = (do
   let ov <- eval e X.env
   standAt apos.atName
   let (f, first) <- holding [ov] (getMethod ov m pl)
   callWith pos f first (backTo pos (starEach args X.env)) (backToKw pos (keywordEach [] X.env)))) :
  wpAny (model X.prog X.w) X.A (eval (.Call (.Attribute e m apos) args [] pos) X.env) Q X.xe s := by
 refine PySem.W.methodCall_KW (pl := pl) (thn (he pins s σ H _ I h) fun u s1 ⟨x, H1, I1, rx, a, C, dx, fs, g, ex, ea, c, k, l, q⟩ => ?_) ht
 subst ex
 obtain rfl : u = Value.ref a := rx
 exact jC I1 ea c k l (q s1 I1)
end
section
variable {X : Cx} {pins : List (Addr × Obj)} {σ : St} {H : Hp} {s : Shared} {A : Around} {E : Value -> Shared -> Prop} {Q : Value -> Shared -> Prop} {c : Value} {b : Bool}
inductive jM (K : PySem.W.Frag) (H : Hp) : V -> Value -> Prop where
  | non : jM K H .non (.type "NoneType")
  | bl (x : Bool) : jM K H (.bl x) (.type "bool")
  | int (i : Int) : jM K H (.int i) (.type "int")
  | str (x : Str) : jM K H (.str x) (.type "str")
  | flt (x : UInt64) : jM K H (.flt x) (.type "float")
  | lst {a : Addr} {xs : List V} (e : H a = some (.lst xs)) : jM K H (.ref a) (.type "list")
  | frz {a : Addr} {o : Obj} {xs : List V} (e : H a = some (.frz o (.lst xs))) : jM K H (.ref a) (.type "list")
  | tup {a : Addr} {xs : List V} (e : H a = some (.tup xs)) : jM K H (.ref a) (.type "tuple")
  | dK {a : Addr} {kvs : List (Key × V)} (e : H a = some (.dK kvs)) : jM K H (.ref a) (.type "dict")
  | dT {a : Addr} {kvs : List (List Key × V)} (e : H a = some (.dT kvs)) : jM K H (.ref a) (.type "dict")
  | ins {a C dx : Addr} {fs : List (Str × V)} (e : H a = some (.ins C dx fs)) (cl : Cls K C) (ha : PySem.W.findIn K (.ref C) "__class__" = some (some (.builtin "object.__class__")))
      (hn : PySem.W.specialIn K (.builtin "object.__class__") "__get__" = some (some (.builtin "getset_descriptor.__get__"))) (htk : PySem.W.takesIn K (.builtin "object.__class__") = some true)
      (hm : PySem.W.mroIn K C (.type "object") = some true) : jM K H (.ref a) (.ref C)
theorem Kr {x : V} {u t : Value} (I : Inv X pins σ H s) (rx : zA x u) (ty : jM X.K H x t) (e : PySem.W.kitOne X.K t c = some b) (h : ∀ tk, Q (.bool b) { s with toks := tk }) :
  wpAny (model X.prog X.w) A (call (.builtin "isinstance") [u, c]) Q E s := by
 cases ty with
 | non => cases (show u = Value.none from rx); exact PySem.W.kia_one PySem.W.kitx_none I.kIn True.intro e (fun z => nomatch z) h
 | bl y => cases (show u = Value.bool y from rx); exact PySem.W.kia_one PySem.W.kitx_bool I.kIn True.intro e (fun z => nomatch z) h
 | int i => obtain ⟨t, q⟩ := (show ∃ t, u = Value.int i t from rx); cases q; exact PySem.W.kia_one PySem.W.kitx_int I.kIn True.intro e (fun z => nomatch z) h
 | str y => obtain ⟨t, q⟩ := (show ∃ t, u = Value.str y t from rx); cases q; exact PySem.W.kia_one PySem.W.kitx_str I.kIn True.intro e (fun z => nomatch z) h
 | flt y => obtain ⟨t, q⟩ := (show ∃ t, u = Value.float y t from rx); cases q; exact PySem.W.kia_one PySem.W.kitx_float I.kIn True.intro e (fun z => nomatch z) h
 | @lst a xs ea =>
  cases (show u = Value.ref a from rx)
  obtain ⟨_, _, n, _, h1⟩ := (show zP X.prog X.w H s.heap a (.lst xs) from I.hok a _ ea)
  exact PySem.W.kia_one PySem.W.kitx_list I.kIn ⟨_, h1, rfl⟩ e (fun z => nomatch z) h
 | @frz a ob xs ea =>
  cases (show u = Value.ref a from rx)
  obtain ⟨_, _, _, n, _, h1⟩ := (show zP X.prog X.w H s.heap a (.frz ob (.lst xs)) from I.hok a _ ea)
  exact PySem.W.kia_one PySem.W.kitx_list I.kIn ⟨_, h1, rfl⟩ e (fun z => nomatch z) h
 | @tup a xs ea =>
  cases (show u = Value.ref a from rx)
  obtain ⟨_, _, _, p⟩ := (show zP X.prog X.w H s.heap a (.tup xs) from I.hok a _ ea)
  obtain ⟨o, h1, h2, _⟩ := p
  exact PySem.W.kia_one PySem.W.kitx_tuple I.kIn ⟨o, h1, h2⟩ e (fun z => nomatch z) h
 | @dK a kvs ea =>
  cases (show u = Value.ref a from rx)
  obtain ⟨_, _, vs, _, p⟩ := (show zP X.prog X.w H s.heap a (.dK kvs) from I.hok a _ ea)
  obtain ⟨o, es, ep, h1, h2, _⟩ := p
  exact PySem.W.kia_one PySem.W.kitx_dict I.kIn ⟨o, h1, h2.1⟩ e (fun z => nomatch z) h
 | @dT a kvs ea =>
  cases (show u = Value.ref a from rx)
  obtain ⟨_, _, xs, _, o, es, ep, h1, h2, _⟩ := (show zP X.prog X.w H s.heap a (.dT kvs) from I.hok a _ ea)
  exact PySem.W.kia_one PySem.W.kitx_dict I.kIn ⟨o, h1, h2.1⟩ e (fun z => nomatch z) h
 | @ins a C dx fs ea cl ha hn htk hm =>
  cases (show u = Value.ref a from rx)
  obtain ⟨mA, O, _⟩ := xY I.hok ea
  obtain ⟨od, J, _⟩ := O.look
  exact PySem.W.kia_one (PySem.W.kitx_own (cl.get _) cl.hd ha hn htk hm) I.kIn J e (fun z => nomatch z) h
end
end L2
namespace L2
open PySem PySem.Spec PyProof.Rows
structure qg (k : Nat) (A : Around) : Prop where
 hd : A.handled = none
 gd : A.guards = some []
 dp : A.depth + 3 * k + 5 < recursionLimit
 un : A.units + 16 * k + 200 < cLine
theorem qg.mono {j k : Nat} {A : Around} (r : qg k A) (h : j <= k) : qg j A := ⟨r.hd, r.gd, by have := r.dp; omega, by have := r.un; omega⟩
theorem qg.deeper {k : Nat} {A : Around} (r : qg (k + 1) A) (env : Env) : qg k (A.deeper env) :=
 ⟨r.hd, r.gd, by have := r.dp; show A.depth + 1 + 3 * k + 5 < _; omega, by have := r.un; show A.units + 3 + 16 * k + 200 < _; omega⟩
theorem ZE {A : Around} {C : Addr} {us : List Value} {kw : List (Str × Value)} : (A.under (.builtin "type.__call__" ⟨.ref C :: us, kw⟩)).depth = A.depth + 1 := by
 first | rfl | simp [Around.under, Code.weight, Code.isCreation, Code.isGuard, Code.isCaller, Code.frames, Code.isFrame, guardIds]
theorem ZT {A : Around} {C : Addr} {us : List Value} {kw : List (Str × Value)} : (A.under (.builtin "type.__call__" ⟨.ref C :: us, kw⟩)).units = A.units + 1 := by
 first | rfl | simp [Around.under, Code.cUnits, Code.frames, Code.isFrame]
theorem Zm {A : Around} {C : Addr} {us : List Value} {kw : List (Str × Value)} : (A.under (.builtin "type.__call__" ⟨.ref C :: us, kw⟩)).guards = A.guards := by
 first | rfl | (simp [Around.under, Code.guards, pushGuards, Code.isGuard, guardIds])
theorem qg.make {k : Nat} {A : Around} (r : qg (k + 1) A) (C : Addr) (us : List Value) (kw : List (Str × Value)) : qg k (A.under (.builtin "type.__call__" ⟨.ref C :: us, kw⟩)) :=
 ⟨r.hd, (Zm).trans r.gd, by have := r.dp; rw [ZE]; omega, by have := r.un; rw [ZT]; omega⟩
theorem qg.depth {k : Nat} {A : Around} (r : qg k A) : A.depth < recursionLimit := by have := r.dp; omega
theorem qg.units {k : Nat} {A : Around} (r : qg k A) : A.units + 64 < cLine := by have := r.un; omega
noncomputable def XE : TA := fun _ H Q => Q [] H
noncomputable def YK (ta : TE) (tr : TA) : TA := fun σ H Q => ta σ H fun x H1 => tr σ H1 fun xs H2 => Q (x :: xs) H2
section
variable {X : Cx} {e : Expr} {es : List Expr} {te : TE} {t : TA} {pos : Pos}
theorem zb : PA X [] XE := fun _ _ _ _ H Q I h => Calls.spliced_nil ⟨[], H, I, .nil, h⟩
theorem za (ha : PE X e te) (hr : PA X es t) (hs : starEach (e :: es) X.env = (false, eval e X.env) :: starEach es X.env := by rfl) : PA X (e :: es) (YK te t) := by
 intro pos pins s σ H Q I h
 rw [hs]
 show wpAny _ _ (spliced ((false, eval e X.env) :: backTo pos (starEach es X.env))) _ _ s
 refine Calls.spliced_cons (thn (ha pins s σ H _ I h) fun u s1 ⟨x, H1, I1, r1, q1⟩ => ?_)
 exact thn (hr pos pins s1 σ H1 _ I1 q1) fun us s2 ⟨xs, H2, I2, r2, q2⟩ => ⟨x :: xs, H2, I2, .cons r1 r2, q2⟩
noncomputable def BD (t : TA) : TE := fun σ H Q => t σ H fun xs H1 => xs.length <= sizeLine /\ ∀ p, H1 p = none -> Q (.ref p) (upd H1 p (.tup xs))
noncomputable def D1 (t : TA) : TE := fun σ H Q => t σ H fun xs H1 => xs.length <= sizeLine /\ ∀ p, H1 p = none -> Q (.ref p) (upd H1 p (.lst xs))
theorem zC {x1} (h : PA X es t) : PE X (.Tuple es x1 pos) (BD t) := by
 intro pins s σ H Q I hq
 refine wpAny_Tuple_spliced (thn (h pos pins s σ H _ I hq) fun us s1 ⟨xs, H1, I1, r, z, q⟩ => ⟨by rw [<- r.length]; exact z, ?_⟩)
 have hf : H1 s1.heap.objs.size = none := I1.hok.fresh (Nat.le_refl _)
 refine ⟨.ref s1.heap.objs.size, upd H1 s1.heap.objs.size (.tup xs), I1.laid (t' := s1.toks) (fun b u e => Heap.get?_push_of_some _ e) (Nat.le_refl _) ?_, rfl, q _ hf⟩
 exact ⟨z, us, r, ⟨_, Heap.get?_push_size _ rfl, rfl, ⟨_, rfl⟩, rfl⟩⟩
theorem zM (h : PA X es t) : PE X (.List es pos) (D1 t) := by
 intro pins s σ H Q I hq
 refine wpAny_List_spliced (thn (h pos pins s σ H _ I hq) fun us s1 ⟨xs, H1, I1, r, z, q⟩ => ⟨by rw [<- r.length]; exact z, ?_⟩)
 have hf : H1 s1.heap.objs.size = none := I1.hok.fresh (Nat.le_refl _)
 refine ⟨.ref s1.heap.objs.size, upd H1 s1.heap.objs.size (.lst xs), I1.laid (t' := s1.toks) (fun b u e => Heap.get?_push_of_some _ e) (Nat.le_refl _) ?_, rfl, q _ hf⟩
 exact ⟨z, us, 0, r, Heap.get?_push_size _ rfl⟩
end
noncomputable abbrev Sp := List V -> Hp -> VK -> XK -> Prop
noncomputable abbrev CXT := List Env -> Hp -> Shared -> XK -> Value -> Shared -> Prop
structure ZY (P : Program) (w : World) (K : PySem.W.Frag) (mg : Str -> Option Value) (base : Heap) (A : Around) (outer : List Env) (s : Shared) (H : Hp) : Prop where
 frames : A.frames = some outer
 mod : Mod K mg base
 bs : ∀ b o, base.get? b = some o -> s.heap.get? b = some o /\ H b = none
 bsz : base.objs.size <= s.heap.objs.size
 funs : s.heap.FunFrames base outer
 frf : ∀ b ∈ frs outer, H b = none
 hok : HOk P w H s.heap
 bare : AllBare s.gens
noncomputable def CE (outer : List Env) (P : Program) (w : World) (H : Hp) (s : Shared) (Q : VK) (u : Value) (s' : Shared) : Prop :=
 ∃ v H', s'.os = s.os /\ AllBare s'.gens /\ Un (frs outer) [] H H' s.heap s'.heap /\ HOk P w H' s'.heap /\ zA v u /\ Q v H'
noncomputable def CR (CX : CXT) (outer : List Env) (P : Program) (w : World) (H : Hp) (s : Shared) (Q : VK) (E : XK) (r : Result) (s' : Shared) : Prop :=
 match r with
 | .ok (.ret u) => CE outer P w H s Q u s'
 | .ok _ => False
 | .error e => CX outer H s E e s'
structure qT (P : Program) (w : World) (K : PySem.W.Frag) (mg : Str -> Option Value) (base : Heap) (CX : CXT) (k : Nat) (f : Addr) (fd : FuncData) (ps : List Str) (sp : Sp) : Prop where
 len : ∀ vs H Q E, sp vs H Q E -> vs.length = ps.length
 run : ∀ (A : Around) (outer : List Env) (s : Shared) (H : Hp) (args : Args) (us : List Value) (vs : List V) (Q : VK) (E : XK), qg k A -> ZY P w K mg base A outer s H -> BindsTo s fd args (ps.zip us) -> zB vs us -> sp vs H Q E ->
  codeAny (model P w) A (.call (.ref f) args) (CR CX outer P w H s Q E) s
theorem qT.mono {P : Program} {w : World} {K : PySem.W.Frag} {mg : Str -> Option Value} {base : Heap} {CX : CXT} {j k : Nat} {f : Addr} {fd : FuncData} {ps : List Str} {sp : Sp} (F : qT P w K mg base CX j f fd ps sp) (h : j <= k) :
  qT P w K mg base CX k f fd ps sp := ⟨F.len, fun A outer s H args us vs Q E hr => F.run A outer s H args us vs Q E (hr.mono h)⟩
theorem qT.imp {P : Program} {w : World} {K : PySem.W.Frag} {mg : Str -> Option Value} {base : Heap} {CX : CXT} {k : Nat} {f : Addr} {fd : FuncData} {ps : List Str} {sp sp' : Sp} (F : qT P w K mg base CX k f fd ps sp)
  (h : ∀ vs H Q E, sp' vs H Q E -> sp vs H Q E) : qT P w K mg base CX k f fd ps sp' :=
 ⟨fun vs H Q E q => F.len vs H Q E (h _ _ _ _ q), fun A outer s H args us vs Q E hr he hb hv hs => F.run A outer s H args us vs Q E hr he hb hv (h _ _ _ _ hs)⟩
theorem ZY.make {P : Program} {w : World} {K : PySem.W.Frag} {mg : Str -> Option Value} {base : Heap} {A : Around} {outer : List Env} {s : Shared} {H : Hp} (e : ZY P w K mg base A outer s H) (C : Addr) (us : List Value) (kw : List (Str × Value)) :
  ZY P w K mg base (A.under (.builtin "type.__call__" ⟨.ref C :: us, kw⟩)) outer s H := ⟨by first | exact e.frames | (simpa [Around.under, Code.envs, Code.isFrame, pushEnvs] using e.frames), e.mod, e.bs, e.bsz, e.funs, e.frf, e.hok, e.bare⟩
section
variable {X : Cx} {pins : List (Addr × Obj)} {σ : St} {H : Hp} {s s' : Shared}
theorem Inv.env0 (I : Inv X pins σ H s) : ZY X.prog X.w X.K X.mg X.base X.A X.stack s H :=
 ⟨I.ok.frames, I.ok.mod, I.bs, Nat.le_trans I.ok.bsz I.sz, I.stack, I.stkFree, I.hok, I.bare⟩
theorem Inv.after {Q : VK} {u : Value} (I : Inv X pins σ H s) (h : CE X.stack X.prog X.w H s Q u s') : EP X pins σ Q u s' := by
 obtain ⟨v, H', os, bare, un, hok, r, q⟩ := h
 obtain ⟨hh, g, d, t, os'⟩ := s'
 obtain rfl : os' = s.os := os
 exact ⟨v, H', I.call (h' := hh) (g' := g) (d' := d) (t' := t) (ch := []) un hok bare (fun b z => absurd z (by simp)), r, q⟩
end
noncomputable def Q0 (sp : Sp) (dvs : List V) (E : XK) (t : TA) : TE := fun σ H Q => t σ H fun vs H1 => sp (vs ++ dvs) H1 Q E
noncomputable def vc (C : Addr) (m : Str) (sp : Sp) (dvs : List V) (E : XK) (ta : TE) (t : TA) : TE := fun σ H Q => ta σ H fun x H1 => ∃ a dx fs, x = .ref a /\ H1 a = some (.ins C dx fs) /\ fs.lookup m = none /\
 t σ H1 fun vs H2 => sp (x :: (vs ++ dvs)) H2 Q E
noncomputable def QQ (C : Addr) (sp : Sp) (dvs : List V) (E : XK) (t : TA) : TE := fun σ H Q => t σ H fun vs H1 => ∀ x dx, H1 x = none -> H1 dx = none -> dx ≠ x ->
 sp (.ref x :: (vs ++ dvs)) (upd (upd H1 dx (.own x)) x (.ins C dx [])) (fun v H2 => v = .non /\ Q (.ref x) H2) E
noncomputable def ja (K : PySem.W.Frag) (fd : FuncData) (ps : List Str) (ds : List Value) : Prop :=
 ∀ (s : Shared) (us : List Value), K.In s.heap -> (us ++ ds).length = ps.length -> BindsTo s fd ⟨us, []⟩ (ps.zip (us ++ ds))
theorem ja.all {K : PySem.W.Frag} {fd : FuncData} {ps : List Str} (h : ∀ us : List Value, us.length = ps.length -> bindArgs fd ⟨us, []⟩ = pure (ps.zip us)) : ja K fd ps [] := fun s us _ hl => by
 rw [List.append_nil] at hl ⊢
 exact .of_eq (h us hl)
noncomputable def jJ (CX : CXT) (X : Cx) (E : XK) : Prop := ∀ (pins : List (Addr × Obj)) (σ : St) (H : Hp) (s : Shared) (e : Value) (s' : Shared), Inv X pins σ H s -> CX X.stack H s E e s' -> X.xe e s'
section
variable {X : Cx} {CX : CXT} {k : Nat} {f C : Addr} {fd : FuncData} {ps : List Str} {sp : Sp} {dvs : List V} {ds : List Value} {E : XK} {x m : Str} {p pos apos : Pos} {e o : Expr} {es : List Expr} {ta : TE} {t : TA}
theorem ZZ {pins : List (Addr × Obj)} {σ : St} {H : Hp} {s : Shared} {Q : VK} {us : List Value} {vs : List V} (F : qT X.prog X.w X.K X.mg X.base CX k f fd ps sp) (hr : qg k X.A) (hb : ja X.K fd ps ds) (hd : zB dvs ds) (hx : jJ CX X E)
  (I : Inv X pins σ H s) (r : zB vs us) (h : sp (vs ++ dvs) H Q E) : wpAny (model X.prog X.w) X.A (call (.ref f) us) (EP X pins σ Q) X.xe s := by
 have r2 : zB (vs ++ dvs) (us ++ ds) := r.append hd
 have hl : (us ++ ds).length = ps.length := by rw [<- r2.length]; exact F.len _ _ _ _ h
 refine wpAny_call (codeAny_mono (F.run X.A X.stack s H ⟨us, []⟩ (us ++ ds) (vs ++ dvs) Q E hr I.env0 (hb s us I.kIn hl) r2 h) fun r s' hq => ?_)
 cases r with
 | error e => exact hx pins σ H s e s' I hq
 | ok fl =>
  cases fl with
  | ret u => exact I.after hq
  | next => exact False.elim hq
  | brk => exact False.elim hq
  | cont => exact False.elim hq
theorem Ai (F : qT X.prog X.w X.K X.mg X.base CX k f fd ps sp) (hr : qg k X.A) (hg : Gl X x) (hm : X.mg x = some (.ref f)) (hk : PySem.W.keepIn X.K (.ref f) = true) (hb : ja X.K fd ps ds) (hd : zB dvs ds) (hx : jJ CX X E)
  (ha : PA X (e :: es) t) (hdb : (x == ("__debug__" : Str)) = false := by decide) (he : starEach (e :: es) X.env = (false, eval e X.env) :: starEach es X.env := by rfl) (hpl : (backTo pos (starEach es X.env)).any (·.1) = false := by rfl) :
  PE X (.Call (.Name x p) (e :: es) [] pos) (Q0 sp dvs E t) := by
 intro pins s σ H Q I h
 refine wpAny_Call_Name_kw (jG I hg hm ?_ hdb)
 refine PySem.W.callWith_K (h₀ := X.base) I.ok.mod.kin hk (thn (ha pos pins s σ H _ I h) fun us s1 ⟨vs, H1, I1, r, q⟩ => ⟨I1.kIn, ?_⟩) he hpl
 exact ZZ F hr hb hd hx I1 r q
theorem Wr {pl : Sem Bool} (he : PE X o ta) (c : Cls X.K C) (hm : Z4 X.K C m f) (F : qT X.prog X.w X.K X.mg X.base CX k f fd ps sp) (hr : qg k X.A) (hb : ja X.K fd ps ds) (hd : zB dvs ds) (hx : jJ CX X E) (ha : PA X (e :: es) t)
  (hst : starEach (e :: es) X.env = (false, eval e X.env) :: starEach es X.env := by rfl) (hpl : (backTo pos (starEach es X.env)).any (·.1) = false := by rfl)
  (ht : eval (.Call (.Attribute o m apos) (e :: es) [] pos) X.env = (do
   let ov <- eval o X.env
   standAt apos.atName
   let (f, first) <- holding [ov] (getMethod ov m pl)
   callWith pos f first (backTo pos (starEach (e :: es) X.env)) (backToKw pos (keywordEach [] X.env))) := by rfl) :
  PE X (.Call (.Attribute o m apos) (e :: es) [] pos) (vc C m sp dvs E ta t) := by
 intro pins s σ H Q I h
 refine PySem.W.methodCall_KW (pl := pl) (thn (he pins s σ H _ I h) fun u s1 ⟨x, H1, I1, rx, a, dx, fs, ex, ea, l, q⟩ => ?_) ht
 subst ex
 obtain rfl : u = Value.ref a := rx
 refine jC I1 ea c hm l ?_
 refine PySem.W.callWith_K (first := [.ref a]) (h₀ := X.base) I.ok.mod.kin hm.kp (thn (ha pos pins s1 σ H1 _ I1 q) fun us s2 ⟨vs, H2, I2, r, q2⟩ => ⟨I2.kIn, ?_⟩) hst hpl
 exact ZZ (us := .ref a :: us) (vs := .ref a :: vs) F hr hb hd hx I2 (.cons rfl r) q2
theorem XQ {pl : Sem Bool} (he : PE X o ta) (c : Cls X.K C) (hm : Z4 X.K C m f) (F : qT X.prog X.w X.K X.mg X.base CX k f fd ps sp) (hr : qg k X.A) (hb : ja X.K fd ps ds) (hd : zB dvs ds) (hx : jJ CX X E)
  (ht : eval (.Call (.Attribute o m apos) [] [] pos) X.env = (do
   let ov <- eval o X.env
   standAt apos.atName
   let (f, first) <- holding [ov] (getMethod ov m pl)
   callWith pos f first (backTo pos (starEach [] X.env)) (backToKw pos (keywordEach [] X.env))) := by rfl) :
  PE X (.Call (.Attribute o m apos) [] [] pos) (vc C m sp dvs E ta XE) := by
 intro pins s σ H Q I h
 refine PySem.W.methodCall_KW (pl := pl) (thn (he pins s σ H _ I h) fun u s1 ⟨x, H1, I1, rx, a, dx, fs, ex, ea, l, q⟩ => ?_) ht
 subst ex
 obtain rfl : u = Value.ref a := rx
 refine jC I1 ea c hm l ?_
 exact PySem.W.callWith_K0 (first := [.ref a]) I1.kIn hm.kp (ZZ (us := [.ref a]) (vs := [.ref a]) F hr hb hd hx I1 (.cons rfl .nil) q)
structure Mk (K : PySem.W.Frag) (C f : Addr) : Prop where
 makes : PySem.W.makesIn K C = true
 init : PySem.W.findIn K (.ref C) "__init__" = some (some (.ref f))
 fn : PySem.W.isFn K (.ref f) = true
 kp : PySem.W.keepIn K (.ref C) = true
theorem Xl {pins : List (Addr × Obj)} {σ : St} {H : Hp} {s : Shared} {Q : VK} {us : List Value} {vs : List V} (M : Mk X.K C f) (F : qT X.prog X.w X.K X.mg X.base CX k f fd ps sp) (hr : qg (k + 1) X.A) (hb : ja X.K fd ps ds) (hd : zB dvs ds)
  (hx : jJ CX X E) (I : Inv X pins σ H s) (r : zB vs us)
  (h : ∀ x dx, H x = none -> H dx = none -> dx ≠ x -> sp (.ref x :: (vs ++ dvs)) (upd (upd H dx (.own x)) x (.ins C dx [])) (fun v H2 => v = .non /\ Q (.ref x) H2) E) :
  wpAny (model X.prog X.w) X.A (call (.ref C) us) (EP X pins σ Q) X.xe s := by
 have hq := h (s.heap.objs.size + 1) s.heap.objs.size (I.hok.fresh (Nat.le_succ _)) (I.hok.fresh (Nat.le_refl _)) (Nat.ne_of_lt (Nat.lt_succ_self _))
 have I2 := Inv.made (C := C) I
 have r2 : zB (V.ref (s.heap.objs.size + 1) :: (vs ++ dvs)) (Value.ref (s.heap.objs.size + 1) :: (us ++ ds)) := .cons rfl (r.append hd)
 have hl : (Value.ref (s.heap.objs.size + 1) :: us ++ ds).length = ps.length := by
  have e := r2.length
  rw [F.len _ _ _ _ hq] at e
  exact e.symm
 refine wpAny_call (Y9 (f := f) I.kIn M.makes M.init (beq_iff_eq.mp M.fn) (codeAny_mono (F.run _ X.stack _ _ ⟨Value.ref (s.heap.objs.size + 1) :: us, []⟩ (Value.ref (s.heap.objs.size + 1) :: (us ++ ds)) _ _ E (hr.make C us [])
  (I2.env0.make C us []) (hb _ (Value.ref (s.heap.objs.size + 1) :: us) I2.kIn hl) r2 hq) fun r s' hq' => ?_))
 cases r with
 | error e => exact hx pins σ _ _ e s' I2 hq'
 | ok fl =>
  cases fl with
  | ret u =>
   obtain ⟨v, H', I3, rv, ev, q3⟩ := I2.after hq'
   subst ev
   exact ⟨rv, ⟨V.ref (s.heap.objs.size + 1), H', I3, rfl, q3⟩⟩
  | next => exact False.elim hq'
  | brk => exact False.elim hq'
  | cont => exact False.elim hq'
theorem WB (M : Mk X.K C f) (F : qT X.prog X.w X.K X.mg X.base CX k f fd ps sp) (hr : qg (k + 1) X.A) (hg : Gl X x) (hm : X.mg x = some (.ref C)) (hb : ja X.K fd ps ds) (hd : zB dvs ds) (hx : jJ CX X E)
  (ha : PA X (e :: es) t) (hdb : (x == ("__debug__" : Str)) = false := by decide) (he : starEach (e :: es) X.env = (false, eval e X.env) :: starEach es X.env := by rfl) (hpl : (backTo pos (starEach es X.env)).any (·.1) = false := by rfl) :
  PE X (.Call (.Name x p) (e :: es) [] pos) (QQ C sp dvs E t) := by
 intro pins s σ H Q I h
 refine wpAny_Call_Name_kw (jG I hg hm ?_ hdb)
 refine PySem.W.callWith_K (h₀ := X.base) I.ok.mod.kin M.kp (thn (ha pos pins s σ H _ I h) fun us s1 ⟨vs, H1, I1, r, q⟩ => ⟨I1.kIn, ?_⟩) he hpl
 exact Xl M F hr hb hd hx I1 r q
end
section
variable {X : Cx} {CX : CXT} {k : Nat} {f C : Addr} {fd : FuncData} {ps ks : List Str} {sp : Sp} {E : XK} {x m : Str} {p pos apos kpos : Pos} {e o : Expr} {es : List Expr} {kws : List Keyword} {te ta : TE} {t tk : TA} {nm : Option Str}
structure FR (K : PySem.W.Frag) (fd : FuncData) (ps ks : List Str) (g : List Value -> List Value -> List Value) (gV : List V -> List V -> List V) : Prop where
 to : ∀ (s : Shared) (us ws : List Value), K.In s.heap -> (g us ws).length = ps.length -> BindsTo s fd ⟨us, ks.zip ws⟩ (ps.zip (g us ws))
 rel : ∀ {vs : List V} {us : List Value} {zs : List V} {ws : List Value}, zB vs us -> zB zs ws -> zB (gV vs zs) (g us ws)
variable {g : List Value -> List Value -> List Value} {gV : List V -> List V -> List V}
end
structure zy (N P : List Str) (sc : Scope) : Prop where
 kind : sc.kind = .function
 co : sc.isCoroutine = false
 gen : sc.isGenerator = false
 nd : N.Nodup
 pre : N.take P.length = P
 par : ∀ x ∈ P, sc.names.lookup x = some .local \/ sc.names.lookup x = some .cell
 nofree : ∀ y ∈ sc.names, y.2 ≠ .free
theorem vg {kindOf : Str -> Option NameKind} {x : Str} : ∀ {binds : List (Str × Value)} {m : Str -> Option Value}, (∀ v, (x, v) ∉ binds) -> bindL kindOf binds m x = m x
 | [], _, _ => rfl
 | (n, v) :: r, m, h => by
  unfold bindL
  rw [vg fun w hw => h w (List.mem_cons_of_mem _ hw)]
  split
  ·have : x ≠ n := by rintro rfl; exact h v List.mem_cons_self
   simp [this]
  ·rfl
theorem vA {kindOf : Str -> Option NameKind} {x : Str} : ∀ {binds : List (Str × Value)} {m : Str -> Option Value}, (∀ v, (x, v) ∉ binds) -> bindC kindOf binds m x = m x
 | [], _, _ => rfl
 | (n, v) :: r, m, h => by
  unfold bindC
  rw [vA fun w hw => h w (List.mem_cons_of_mem _ hw)]
  split
  ·rfl
  ·have : x ≠ n := by rintro rfl; exact h v List.mem_cons_self
   simp [this]
theorem vw {kindOf : Str -> Option NameKind} {x : Str} {v : Value} : ∀ {P : List Str} {vs : List Value} {i : Nat} {m : Str -> Option Value}, P.Nodup -> P[i]? = some x -> vs[i]? = some v -> kindOf x = some .local ->
  bindL kindOf (P.zip vs) m x = some v
 | [], _, _, _, _, h, _, _ => by simp at h
 | _ :: _, [], _, _, _, _, h, _ => by simp at h
 | p :: P, w :: vs, 0, m, nd, h1, h2, hk => by
  simp at h1 h2; subst h1; subst h2
  show bindL kindOf ((p, w) :: P.zip vs) m p = _
  unfold bindL
  rw [vg fun v hv => (List.nodup_cons.mp nd).1 (List.of_mem_zip hv).1, if_pos hk]
  simp
 | p :: P, w :: vs, i + 1, m, nd, h1, h2, hk => by
  show bindL kindOf ((p, w) :: P.zip vs) m x = _
  unfold bindL
  exact vw (i := i) (List.nodup_cons.mp nd).2 (by simpa using h1) (by simpa using h2) hk
theorem vx {kindOf : Str -> Option NameKind} {x : Str} {v : Value} : ∀ {P : List Str} {vs : List Value} {i : Nat} {m : Str -> Option Value}, P.Nodup -> P[i]? = some x -> vs[i]? = some v -> kindOf x ≠ some .local ->
  bindC kindOf (P.zip vs) m x = some v
 | [], _, _, _, _, h, _, _ => by simp at h
 | _ :: _, [], _, _, _, _, h, _ => by simp at h
 | p :: P, w :: vs, 0, m, nd, h1, h2, hk => by
  simp at h1 h2; subst h1; subst h2
  show bindC kindOf ((p, w) :: P.zip vs) m p = _
  unfold bindC
  rw [vA fun v hv => (List.nodup_cons.mp nd).1 (List.of_mem_zip hv).1, if_neg hk]
  simp
 | p :: P, w :: vs, i + 1, m, nd, h1, h2, hk => by
  show bindC kindOf ((p, w) :: P.zip vs) m x = _
  unfold bindC
  exact vx (i := i) (List.nodup_cons.mp nd).2 (by simpa using h1) (by simpa using h2) hk
noncomputable def qF (N : List Str) (vs : List V) : St := vs.map some ++ List.replicate (N.length - vs.length) none
noncomputable def j9 (CX : CXT) (P : Program) (w : World) (K : PySem.W.Frag) (mg : Str -> Option Value) (base : Heap) (N : List Str) (qual : Str) (scope : Scope) (f : Addr) (cd : Value) (A : Around) (outer : List Env) (s : Shared) (H : Hp) (E : XK) : Cx where
 prog := P
 w := w
 K := K
 mg := mg
 base := base
 A := A.deeper (envOfC qual scope s.heap.objs.size f cd)
 N := N
 s₀ := s
 H₀ := H
 env := envOfC qual scope s.heap.objs.size f cd
 outer := outer
 stack := envOfC qual scope s.heap.objs.size f cd :: outer
 ex := []
 calm := true
 fn := fun _ => true
 pn := []
 xe := fun e s' => wpAny (model P w) (A.deeper (envOfC qual scope s.heap.objs.size f cd)) (leaving (envOfC qual scope s.heap.objs.size f cd) e) (fun _ s'' => CX outer H s E e s'') (fun e' s'' => CX outer H s E e' s'') s'
theorem Zq {sc : Scope} {n : Nat} {x : Str} (h : sc.names.lookup x = some .cell) : ∃ c, (cellsFrom n sc.names []).lookup x = some c := by
 have q := PySem.W.cellsFrom_some sc.names n [] (.inl h)
 exact Option.isSome_iff_exists.mp q
theorem JS {CX : CXT} {P : Program} {w : World} {K : PySem.W.Frag} {mg : Str -> Option Value} {base : Heap} {N ps : List Str} {qual : Str} {scope : Scope} {f : Addr} {cd : Value} {A : Around} {outer : List Env} {s s1 : Shared} {H : Hp} {E : XK} {us : List Value} {vs : List V}
    (S : zy N ps scope) (hd : A.handled = none) (e0 : ZY P w K mg base A outer s H) (hl : vs.length = ps.length) (r : zB vs us)
    (x : InCallC s s.heap.objs.size (bindL (envOfC qual scope s.heap.objs.size f cd).kindOf (ps.zip us) fun _ => none) (cellsFrom (s.heap.objs.size + 1) scope.names []) (bindC (envOfC qual scope s.heap.objs.size f cd).kindOf (ps.zip us) fun _ => none) s1) :
    Inv (j9 CX P w K mg base N qual scope f cd A outer s H E) [] (qF N vs) H s1 := by
  have hpl : ps.length <= N.length := by have := congrArg List.length S.pre; rw [List.length_take] at this; omega
  obtain ⟨h1, tk, rfl, hk⟩ := x.done
  have noA : ∀ b : Addr, b ∉ (j9 CX P w K mg base N qual scope f cd A outer s H E).ex := fun b z => absurd (show b ∈ ([] : List Addr) from z) (by simp)
  refine ⟨⟨e0.mod, S.kind, rfl, rfl, Nat.le_refl _, fun y z c h1 h2 => ?_, fun y hy => ?_, fun y c _ h => ?_, fun _ => hd, Around.frames_deeper e0.frames, .inr ⟨rfl, rfl⟩, fun b z => absurd z (noA b), e0.bs, e0.bsz, fun b _ _ => noA b, fun b z => absurd z (noA b), e0.funs, e0.frf⟩,
    rfl, e0.bare, Un.kept hk, ⟨_, x.toInCall.ns, fun i y v h1 h2 h3 => ?_⟩, fun y c h => ⟨_, x.cell y c h⟩, e0.hok.fresh (Nat.le_refl _), fun y c h => ?_, fun p hp => absurd (show p ∈ ([] : List (Addr × Obj)) from hp) (by simp), e0.hok.kept hk, ?_⟩
  · exact name_of_addr x.apart (PySem.mem_of_lookup h1) (PySem.mem_of_lookup h2)
  · have hy : scope.names.lookup y = some .cell \/ scope.names.lookup y = some .free := hy
    rcases hy with hy | hy
    · exact Zq hy
    · exact absurd rfl (S.nofree _ (PySem.mem_of_lookup hy))
  · exact Nat.le_of_lt (x.above y c (PySem.mem_of_lookup h))
  · have hi : i < vs.length := by
      unfold qF at h2
      by_cases hi : i < vs.length
      · exact hi
      · rw [List.getElem?_append_right (by simpa using hi)] at h2
        rw [List.getElem?_replicate] at h2
        split at h2 <;> cases h2
    have ha : vs[i]? = some v := by
      unfold qF at h2
      rw [List.getElem?_append_left (by simpa using hi), List.getElem?_map] at h2
      cases e : vs[i]? with
      | none => rw [e] at h2; cases h2
      | some a => rw [e] at h2; cases h2; rfl
    obtain ⟨u, hu, rv⟩ := r.get ha
    have hp : ps[i]? = some y := by
      rw [<- S.pre, List.getElem?_take_of_lt (by omega)]; exact h1
    have ndP : ps.Nodup := by rw [<- S.pre]; exact S.nd.sublist (List.take_sublist _ _)
    refine ⟨u, rv, ?_⟩
    rcases S.par y (List.mem_of_getElem? hp) with k | k
    · exact .inl ⟨k, vw ndP hp hu k⟩
    · obtain ⟨c, e⟩ := Zq (n := s.heap.objs.size + 1) k
      refine .inr ⟨.inl k, c, e, ?_⟩
      have q := x.cell y c e
      rw [vx ndP hp hu (by show scope.names.lookup y ≠ _; rw [k]; decide)] at q
      exact q
  · exact e0.hok.fresh (Nat.le_of_lt (x.above y c (PySem.mem_of_lookup h)))
  · unfold qF
    show _ = N.length
    rw [List.length_append, List.length_map, List.length_replicate]
    omega
theorem AJ {CX : CXT} {P : Program} {w : World} {K : PySem.W.Frag} {mg : Str -> Option Value} {base : Heap} {k : Nat} {f : Addr} {name qual : Str} {params : Arguments} {body : List Stmt} {scope : Scope} {dV kV doc pm cdv ct oc : Value} {an od : Option Addr}
  {osl : Array (Option Value)} {N ps : List Str} {sp : Sp} (lk : K.lookup f = some ⟨oc, od, .func (PySem.W.fnOf name qual params body scope dV kV doc pm an cdv ct), osl⟩) (hcd : PySem.W.codeIn K cdv qual = true) (S : zy N ps scope)
  (len : ∀ vs H Q E, sp vs H Q E -> vs.length = ps.length)
  (hbody : ∀ (A : Around) (outer : List Env) (s : Shared) (H : Hp) (vs : List V) (Q : VK) (E : XK), qg k (A.deeper (envOfC qual scope s.heap.objs.size f cdv)) -> sp vs H Q E ->
   ∃ t, PSs (j9 CX P w K mg base N qual scope f cdv A outer s H E) body t /\ t { nx := fun _ H' => Q .non H', rt := Q } (qF N vs) H) :
  qT P w K mg base CX (k + 1) f (PySem.W.fnOf name qual params body scope dV kV doc pm an cdv ct) ps sp := by
 refine ⟨len, fun A outer s H args us vs Q E hr e0 hb r hsp => ?_⟩
 have hl := len _ _ _ _ hsp
 have KX : K.In s.heap := e0.mod.kin.keeps fun b o e => (e0.bs b o e).1
 have lim : s.heap.NoLimit := e0.mod.nolimit.keeps fun b o e => (e0.bs b o e).1
 have hkind : ∀ y ∈ ps.zip us, scope.names.lookup y.1 = some .local \/ (scope.names.lookup y.1 = some .cell /\ ((cellsFrom (s.heap.objs.size + 1) scope.names []).lookup y.1).isSome = true) := fun ⟨n, v⟩ hy => by
  rcases S.par n (List.of_mem_zip hy).1 with q | q
  ·exact .inl q
  ·exact .inr ⟨q, PySem.W.cellsFrom_some _ _ _ (.inl q)⟩
 refine codeAny_call_function hr.depth (KX _ _ lk) rfl S.co S.gen rfl (PySem.W.codeRec_of KX hcd) (hb _ _ _ _ ?_)
 refine wpAny_newFunctionEnv_cells S.kind hkind fun env he s1 x => ?_
 subst he
 refine ⟨lim.keeps x.toInCall.keep, codeAny_func ?_⟩
 obtain ⟨t, ht, hq⟩ := hbody A outer s H vs Q E (hr.deeper _) hsp
 have I : Inv (j9 CX P w K mg base N qual scope f cdv A outer s H E) [] (qF N vs) H s1 := JS S hr.hd e0 hl r x
 refine wpAny_mono (ht [] s1 (qF N vs) H _ I hq) (fun fl s' hs => ?_) fun e s' hs => hs
 have fin : ∀ {σ' : St} {H' : Hp} {v : V} {u : Value}, Inv (j9 CX P w K mg base N qual scope f cdv A outer s H E) [] σ' H' s' -> zA v u -> Q v H' -> CE outer P w H s Q u s' :=
  fun {σ' H' v u} J rv q => ⟨v, H', J.os, J.bare, J.base, J.hok, rv, q⟩
 cases fl with
 | ret u =>
  obtain ⟨v, σ', H', J, rv, q⟩ := hs
  exact fin J rv q
 | next =>
  obtain ⟨σ', H', J, q⟩ := hs
  exact fin (v := V.non) (u := Value.none) J rfl q
 | brk =>
  obtain ⟨_, _, _, q⟩ := hs
  exact False.elim q
 | cont =>
  obtain ⟨_, _, _, q⟩ := hs
  exact False.elim q
end L2
namespace L2
open PySem PySem.Spec PyProof.Rows
section
variable {X : Cx} {x : Str} {p pos : Pos} {e : Expr} {es : List Expr} {t : TA} {id T : String} {r : List V -> Hp -> VK -> Prop}
noncomputable def tCB (r : List V -> Hp -> VK -> Prop) (t : TA) : TE := fun σ H Q => t σ H fun vs H1 => r vs H1 Q
theorem zm (hc : jg X (.builtin id) r) (hg : Gl X x) (hm : X.mg x = none) (hv : bootBuiltins x = some (.builtin id)) (ha : PA X (e :: es) t) (hn : x ≠ "__name__" := by decide) (hdb : (x == ("__debug__" : Str)) = false := by decide)
  (he : starEach (e :: es) X.env = (false, eval e X.env) :: starEach es X.env := by rfl) (hpl : (backTo pos (starEach es X.env)).any (·.1) = false := by rfl) : PE X (.Call (.Name x p) (e :: es) [] pos) (tCB r t) := by
 intro pins s σ H Q I h
 refine wpAny_Call_Name_kw (jq I hg hm hv ?_ hn hdb)
 exact PyProof.Rows.callWith_builtin1 (thn (ha pos pins s σ H _ I h) fun us s1 ⟨vs, H1, I1, r1, q1⟩ => hc pins s1 σ H1 vs us Q I1 r1 q1) he hpl
theorem zR (hc : jg X (.type T) r) (hg : Gl X x) (hm : X.mg x = none) (hv : bootBuiltins x = some (.type T)) (ha : PA X (e :: es) t) (hn : x ≠ "__name__" := by decide) (hdb : (x == ("__debug__" : Str)) = false := by decide)
  (he : starEach (e :: es) X.env = (false, eval e X.env) :: starEach es X.env := by rfl) (hpl : (backTo pos (starEach es X.env)).any (·.1) = false := by rfl) : PE X (.Call (.Name x p) (e :: es) [] pos) (tCB r t) := by
 intro pins s σ H Q I h
 refine wpAny_Call_Name_kw (jq I hg hm hv ?_ hn hdb)
 exact PyProof.Rows.callWith_type1 (thn (ha pos pins s σ H _ I h) fun us s1 ⟨vs, H1, I1, r1, q1⟩ => hc pins s1 σ H1 vs us Q I1 r1 q1) he hpl
end
end L2
namespace HT
open PySem PyProof.Rows
section
open PySem.SeqAt
open PySem.AutoSeq1 (wpAny_loadPart')
open PySem.MeetsSeq PySem.MeetsSeq2 PySem.MeetsSeq3
end
section
variable {prog : Program} {w : World} {A : Around} {E : Value -> Shared -> Prop} {s : Shared}
noncomputable def sIx (n d : Nat) : Option Int -> Nat
 | none => d
 | some v => if v < 0 then (v + (n : Int)).toNat else min v.toNat n
theorem sIx_none (n d : Nat) : sIx n d none = d := rfl
theorem sIx_nat (n d k : Nat) : sIx n d (some (k : Int)) = min k n := by
 show (if (k : Int) < 0 then ((k : Int) + (n : Int)).toNat else min (k : Int).toNat n) = min k n
 rw [if_neg (by omega), Int.toNat_natCast]
theorem Dy (n d : Nat) (hd : d <= n) (o : Option Int) : sIx n d o <= n := by
 cases o with
 | none => exact hd
 | some v =>
  show (if v < 0 then (v + (n : Int)).toNat else min v.toNat n) <= n
  by_cases hv : v < 0
  ·rw [if_pos hv]; omega
  ·rw [if_neg hv]; exact Nat.min_le_right _ _
theorem QP (v : Int) (n d : Nat) : (if v < 0 then max (v + (n : Int)) 0 else min v (n : Int)) = ((sIx n d (some v) : Nat) : Int) := by
 show (if v < 0 then max (v + (n : Int)) 0 else min v (n : Int)) = (((if v < 0 then (v + (n : Int)).toNat else min v.toNat n) : Nat) : Int)
 by_cases hv : v < 0
 ·simp only [if_pos hv]; omega
 ·simp only [if_neg hv]; omega
theorem Qu (lo hi : Option Int) (n : Nat) : Builtin.Slice.sliceAdjust lo hi 1 (n : Int) = (((sIx n 0 lo : Nat) : Int), ((sIx n n hi : Nat) : Int)) := by
 have h1 : ¬ ((1 : Int) < 0) := by omega
 unfold Builtin.Slice.sliceAdjust
 simp only [h1, if_false]
 refine Prod.ext ?_ ?_
 ·cases lo with
  | none => rfl
  | some v => exact QP v n 0
 ·cases hi with
  | none => rfl
  | some v => exact QP v n n
theorem Qc (i j : Nat) : Builtin.Slice.slicePlaces (i : Int) (j : Int) 1 = j - i := by
 unfold Builtin.Slice.slicePlaces
 have h1 : (1 : Int) > 0 := by omega
 simp only [h1, if_true, Int.ediv_one]
 split <;> omega
theorem yG {v : Value} {o : Option Int} {Q : Option Int -> Shared -> Prop} (p : IsPart v o) (h : Q o s) : wpAny (model prog w) A (Builtin.Slice.slicePartIndex v) Q E s := by
 cases p with
 | none => exact slicePart_none h
 | int i t => exact slicePart_int h
theorem xw {sl : Addr} {vl vu : Value} {lo hi : Option Int} {n : Nat} {Q : Int × Int × Nat -> Shared -> Prop} (hs : s.heap.IsSliceOf sl vl vu .none) (pl : IsPart vl lo) (pu : IsPart vu hi)
  (h : Q (((sIx n 0 lo : Nat) : Int), 1, sIx n n hi - sIx n 0 lo) s) : wpAny (model prog w) A (Builtin.Slice.sliceApplied (.ref sl) (pure (n : Int))) Q E s := by
 obtain ⟨os, hos, hcs, hds⟩ := id hs
 unfold Builtin.Slice.sliceApplied Builtin.Slice.sliceFields
 refine wpAny_bind (wpAny_bind (wpAny_field hos hds (x := vl) rfl (wpAny_bind (wpAny_field hos hds (x := vu) rfl (wpAny_bind (wpAny_field hos hds (x := .none) rfl (wpAny_pure ?_)))))))
 refine wpAny_bind (slicePart_none ?_)
 show wpAny _ _ (if ((1 : Int) == 0) = true then _ else _) _ _ s
 rw [if_neg (by decide)]
 refine wpAny_bind (yG pl (wpAny_bind (yG pu (wpAny_bind (wpAny_pure ?_)))))
 show wpAny _ _ (match Builtin.Slice.sliceAdjust lo hi 1 (n : Int) with | (lo, hi) => pure (lo, (1 : Int), Builtin.Slice.slicePlaces lo hi 1)) _ _ s
 rw [Qu lo hi n]
 show wpAny _ _ (pure (((sIx n 0 lo : Nat) : Int), (1 : Int), Builtin.Slice.slicePlaces ((sIx n 0 lo : Nat) : Int) ((sIx n n hi : Nat) : Int) 1)) _ _ s
 rw [Qc]
 exact wpAny_pure h
theorem XA (xs : Array Value) (i k : Nat) : ((List.range k).filterMap fun (m : Nat) => xs[((i : Int) + (m : Int) * 1).toNat]?).toArray = ((xs.toList.drop i).take k).toArray := by
 have e : (fun (m : Nat) => xs[((i : Int) + (m : Int) * 1).toNat]?) = fun m => xs[i + m]? := by
  funext m
  have : ((i : Int) + (m : Int) * 1).toNat = i + m := by omega
  rw [this]
 rw [e]
 have := pick_run xs i k
 rw [List.filterMap_map] at this
 have e2 : ((fun x => xs[x]?) ∘ fun x => i + x) = fun m => xs[i + m]? := rfl
 rw [e2] at this
 rw [this]
theorem getItem_tuple_cut {t sl : Addr} {items : Array Value} {vl vu : Value} {lo hi : Option Int} {Q : Value -> Shared -> Prop} (ht : IsTup s.heap t items) (hs : s.heap.IsSliceOf sl vl vu .none) (pl : IsPart vl lo) (pu : IsPart vu hi)
  (hw : ¬ (sIx items.size 0 lo = 0 /\ sIx items.size items.size hi = items.size))
  (h : Q (.ref s.heap.objs.size) { s with heap := s.heap.push { cls := .type "tuple", data := .seq ((items.toList.drop (sIx items.size 0 lo)).take (sIx items.size items.size hi - sIx items.size 0 lo)).toArray } })
  (hsz : items.size <= sizeLine) : wpAny (model prog w) A (getItem (.ref t) (.ref sl)) Q E s := by
 have htake : sizeOk (.seq ((items.toList.drop (sIx items.size 0 lo)).take (sIx items.size items.size hi - sIx items.size 0 lo)).toArray) := by
  show ((items.toList.drop (sIx items.size 0 lo)).take (sIx items.size items.size hi - sIx items.size 0 lo)).toArray.size <= sizeLine
  rw [List.size_toArray, List.length_take, List.length_drop, Array.length_toList]
  omega
 have hj : sIx items.size items.size hi <= items.size := Dy _ _ (Nat.le_refl _) hi
 obtain ⟨os, hos, hcs, hds⟩ := id hs
 have hTs : s.TypeIs (.ref sl) "slice" := ⟨os, hos, hcs⟩
 unfold getItem
 try with_reducible refine wpAny_holding ?_
 first | refine wpAny_bind (wpAny_pure ?_) | skip
 refine wpAny_bind (wpAny_sequenceKey ht.typeIs (by decide) ?_)
 refine wpAny_bind (wpAny_callSpecial?_slot (name := Str.ofString "__getitem__") ht.typeIs PyProof.Rows.slot_tuple_getitem
  (wpAny_call_entry PyProof.Rows.slot_tuple_getitem ht.typeIs entry_tuple_getitem ?_ (args_tuple_getitem _ _)))
 show wpAny _ _ (Builtin.Tuple.tupleItemsOf (.ref t) >>= _) _ _ s
 refine wpAny_bind (tupleItemsOf_ ht ?_)
 refine wpAny_bind (wpAny_typeOf hTs ?_)
 rw [if_pos (by decide)]
 refine wpAny_bind (xw hs pl pu ?_)
 have hno : ¬ ((((sIx items.size 0 lo : Nat) : Int) == 0 && (1 : Int) == 1 && (sIx items.size items.size hi - sIx items.size 0 lo) == items.size) = true) := by
  intro q
  rw [Bool.and_eq_true, Bool.and_eq_true] at q
  have q1 : ((sIx items.size 0 lo : Nat) : Int) = 0 := eq_of_beq q.1.1
  have q2 : sIx items.size items.size hi - sIx items.size 0 lo = items.size := eq_of_beq q.2
  exact hw ⟨by omega, by omega⟩
 show wpAny _ _ (if (((sIx items.size 0 lo : Nat) : Int) == 0 && (1 : Int) == 1 && (sIx items.size items.size hi - sIx items.size 0 lo) == items.size) = true then _ else _) _ _ s
 rw [if_neg hno, XA]
 first
  | exact wpAny_bind (m := Builtin.Tuple.tupleExact _) (wpAny_newObj_type (wpAny_pure ⟨_, rfl, wpAny_pure h⟩) htake)
  | exact wpAny_bind (m := Builtin.Tuple.tupleExact _) (wpAny_newObj_type (wpAny_bind (wpAny_pure (wpAny_pure ⟨_, rfl, wpAny_pure h⟩))) htake)
  | exact wpAny_bind (wpAny_bind (m := Builtin.Tuple.tupleExact _) (wpAny_newObj_type (wpAny_pure (wpAny_pure ⟨_, rfl, wpAny_pure h⟩)) htake))
  | exact wpAny_bind (wpAny_bind (m := Builtin.Tuple.tupleExact _) (wpAny_newObj_type (wpAny_pure ⟨_, rfl, wpAny_pure h⟩) htake))
end
end HT
namespace L2
open PySem PySem.Spec PyProof.Rows
noncomputable abbrev TO := St -> Hp -> (Option Int -> Hp -> Prop) -> Prop
noncomputable def PO (X : Cx) (e : Option Expr) (t : TO) : Prop :=
 ∀ (pins : List (Addr × Obj)) (s : Shared) (σ : St) (H : Hp) (Q : Option Int -> Hp -> Prop), Inv X pins σ H s -> t σ H Q ->
  wpAny (model X.prog X.w) X.A (evalPart e X.env) (fun u s' => ∃ o H', Inv X pins σ H' s' /\ IsPart u o /\ Q o H') X.xe s
noncomputable def wn : TO := fun _ H Q => Q none H
noncomputable def X4 (t : TE) : TO := fun σ H Q => t σ H fun x H1 => ∃ i, x = .int i /\ Q (some i) H1
theorem yq {ns : List Int} : ∀ {us : List Value}, zB (ns.map V.int) us -> IntsAre us ns := by
 induction ns with
 | nil => intro us r; rw [List.map_nil] at r; cases r; exact .nil
 | cons n ns ih =>
  intro us r
  rw [List.map_cons] at r
  cases r with
  | cons r1 r2 =>
   obtain ⟨t, e⟩ := r1
   subst e
   exact .cons n t (ih r2)
section
variable {X : Cx} {e : Expr} {te : TE} {lo hi : Option Expr} {tl th : TO} {pos p2 : Pos}
theorem kZ : PO X none wn := by
 intro pins s σ H Q I h
 rw [evalPart_none]
 exact wpAny_pure ⟨none, H, I, .none, h⟩
theorem qV (h : PE X e te) : PO X (some e) (X4 te) := by
 intro pins s σ H Q I hw
 rw [evalPart_some]
 refine thn (h pins s σ H _ I hw) fun u s1 ⟨x, H1, I1, r1, q1⟩ => ?_
 obtain ⟨i, rfl, q⟩ := q1
 obtain ⟨t, rfl⟩ := r1
 exact ⟨some i, H1, I1, .int i t, q⟩
noncomputable def SlR (X : Cx) (r : V -> Option Int -> Option Int -> Hp -> VK -> Prop) : Prop :=
 ∀ (pins : List (Addr × Obj)) (s : Shared) (σ : St) (H : Hp) (x : V) (v vl vu : Value) (lo hi : Option Int) (sl : Addr) (Q : VK), Inv X pins σ H s -> zA x v -> s.heap.IsSliceOf sl vl vu .none -> IsPart vl lo -> IsPart vu hi -> r x lo hi H Q ->
  ∃ T id, typeLookup (.type T) "__getitem__" = pure (some (.builtin id)) /\ s.TypeIs v T /\ wpAny (model X.prog X.w) X.A (getItem v (.ref sl)) (EP X pins σ Q) X.xe s
noncomputable def tSl (r : V -> Option Int -> Option Int -> Hp -> VK -> Prop) (te : TE) (tl th : TO) : TE := fun σ H Q => te σ H fun x H1 => tl σ H1 fun l H2 => th σ H2 fun u H3 => r x l u H3 Q
theorem qZ {r : V -> Option Int -> Option Int -> Hp -> VK -> Prop} (hr : SlR X r) (he : PE X e te) (hl : PO X lo tl) (hu : PO X hi th) : PE X (.Subscript e (.Slice lo hi none p2) pos) (tSl r te tl th) := by
 intro pins s σ H Q I h
 refine Subscript_ (thn (he pins s σ H _ I h) fun v s1 ⟨x, H1, I1, r1, q1⟩ => ?_)
 refine wpAny_Slice (thn (hl pins s1 σ H1 _ I1 q1) fun vl s2 ⟨l, H2, I2, pl, q2⟩ => thn (hu pins s2 σ H2 _ I2 q2) fun vu s3 ⟨u, H3, I3, pu, q3⟩ => ?_)
 rw [evalPart_none]
 refine wpAny_pure ?_
 have I4 : Inv X pins σ H3 { s3 with heap := s3.heap.push { cls := .type "slice", data := .fields #[vl, vu, .none] } } := I3.kept (t' := s3.toks) fun b ob q => Heap.get?_push_of_some _ q
 obtain ⟨T, id, hT, ht, hg⟩ := hr pins { s3 with heap := s3.heap.push { cls := .type "slice", data := .fields #[vl, vu, .none] } } σ H3 x v vl vu l u s3.heap.objs.size Q I4 r1 (Heap.IsSliceOf.new ..) pl pu q3
 show wpAny (model X.prog X.w) X.A (subscriptTail e (.Slice lo hi none p2) v (.ref s3.heap.objs.size)) (EP X pins σ Q) X.xe { s3 with heap := s3.heap.push { cls := .type "slice", data := .fields #[vl, vu, .none] } }
 exact tail_any (ops := [.ref s3.heap.objs.size, v]) ht hT hg (by with_unfolding_all rfl)
noncomputable def yQ (xs : List V) (lo hi : Option Int) : List V := (xs.drop (HT.sIx xs.length 0 lo)).take (HT.sIx xs.length xs.length hi - HT.sIx xs.length 0 lo)
theorem xG (xs : List V) (lo hi : Option Int) : (yQ xs lo hi).length <= xs.length := by
 unfold yQ
 rw [List.length_take, List.length_drop]
 omega
noncomputable def EM (K : PySem.W.Frag) : V -> Option Int -> Option Int -> Hp -> VK -> Prop := fun x lo hi H Q => ∃ a xs, x = .ref a /\ SqT K H a xs /\
 ¬ (HT.sIx xs.length 0 lo = 0 /\ HT.sIx xs.length xs.length hi = xs.length) /\ ∀ p, H p = none -> Q (.ref p) (upd H p (.tup (yQ xs lo hi)))
theorem yC : SlR X (EM X.K) := by
 intro pins s σ H x v vl vu lo hi sl Q I rx hs pl pu h
 obtain ⟨a, xs, rfl, hx, hw, q⟩ := h
 cases rx
 obtain ⟨its, r, ht, hz⟩ := I.tuple hx
 have hlen : its.toArray.size = xs.length := by rw [List.size_toArray]; exact r.length.symm
 refine ⟨"tuple", _, PyProof.Rows.slot_tuple_getitem.lookup, ht.typeIs, ?_⟩
 refine HT.getItem_tuple_cut ht hs pl pu (by rw [hlen]; exact hw) ?_ (by rw [hlen]; exact hz)
 rw [hlen]
 refine ⟨.ref s.heap.objs.size, _, I.laid (t' := s.toks) (o := .tup (yQ xs lo hi)) (fun b ob q => Heap.get?_push_of_some _ q) (Nat.le_refl _) ?_, rfl, q _ (I.hok.fresh (Nat.le_refl _))⟩
 exact ⟨Nat.le_trans (xG xs lo hi) hz, _, (r.drop (HT.sIx xs.length 0 lo)).take (HT.sIx xs.length xs.length hi - HT.sIx xs.length 0 lo), wd.new _ _⟩
end
end L2
namespace L2
open PySem PySem.Spec PyProof.Rows
noncomputable def ixN (n : Nat) (i : Int) : Option Nat := if 0 <= i then (if i < n then some i.toNat else none) else if -(n : Int) <= i then some (i + n).toNat else none
noncomputable def atI {α : Type} (xs : List α) (i : Int) : Option α := (ixN xs.length i).bind fun j => xs[j]?
theorem QY {n : Nat} {i : Int} {j : Nat} (h : ixN n i = some j) : seqIndex? i n = some j /\ j < n /\ -(n : Int) <= i /\ i < n := by
 unfold ixN at h
 by_cases h0 : 0 <= i
 ·rw [if_pos h0] at h
  by_cases h1 : i < n
  ·rw [if_pos h1] at h
   have e : i.toNat = j := Option.some.inj h
   exact ⟨by rw [seqIndex_of h0 h1, e], by omega, by omega, h1⟩
  ·rw [if_neg h1] at h; cases h
 ·rw [if_neg h0] at h
  by_cases h1 : -(n : Int) <= i
  ·rw [if_pos h1] at h
   have e : (i + n).toNat = j := Option.some.inj h
   exact ⟨by rw [seqIndex_neg (by omega) h1, e], by omega, h1, by omega⟩
  ·rw [if_neg h1] at h; cases h
theorem vW {α : Type} {xs : List α} {i : Int} {v : α} (h : atI xs i = some v) : ∃ j, seqIndex? i xs.length = some j /\ xs[j]? = some v /\ j < xs.length /\ -(xs.length : Int) <= i /\ i < xs.length := by
 unfold atI at h
 cases e : ixN xs.length i with
 | none => rw [e] at h; cases h
 | some j =>
  rw [e] at h
  obtain ⟨h1, h2, h3, h4⟩ := QY e
  exact ⟨j, h1, h, h2, h3, h4⟩
theorem vU {α : Type} {xs : List α} {j : Nat} {v : α} (h : xs[j]? = some v) : atI xs (j : Int) = some v := by
 have hj : j < xs.length := (List.getElem?_eq_some_iff.mp h).1
 have e : ixN xs.length (j : Int) = some j := by
  unfold ixN
  rw [if_pos (by omega), if_pos (by omega)]; simp
 unfold atI; rw [e]; exact h
noncomputable def VI (b : Expr) : Prop := ∀ o i, subscripted b false o i = operate [o, i] (getItem o i)
noncomputable def IxR (X : Cx) (r : R2) : Prop :=
 ∀ (value slice : Expr) (pins : List (Addr × Obj)) (s : Shared) (σ : St) (H : Hp) (x y : V) (v u : Value) (Q : VK), Inv X pins σ H s -> zA x v -> zA y u -> r x y H Q ->
  subscripted slice false v u = operate [v, u] (getItem v u) -> wpAny (model X.prog X.w) X.A (subscriptTail value slice v u) (EP X pins σ Q) X.xe s
noncomputable def MtR (X : Cx) (id : String) (r : V -> List V -> Hp -> VK -> Prop) : Prop :=
 ∀ (pins : List (Addr × Obj)) (s : Shared) (σ : St) (H : Hp) (x : V) (xs : List V) (v : Value) (us : List Value) (Q : VK), Inv X pins σ H s -> zA x v -> zB xs us -> r x xs H Q ->
  wpAny (model X.prog X.w) X.A (call (.builtin id) (v :: us)) (EP X pins σ Q) X.xe s
section
variable {X : Cx} {a b : Expr} {ta tb : TE} {pos : Pos}
theorem zw {r : R2} (hr : IxR X r) (ha : PE X a ta) (hb : PE X b tb) (hs : VI b) : PE X (.Subscript a b pos) (tOp r ta tb) := by
 intro pins s σ H Q I h
 exact Subscript_ (Es ha hb I h fun v u s2 x y H2 I2 rx ry q => hr a b pins s2 σ H2 x y v u Q I2 rx ry q (hs _ _))
noncomputable def Yd (K : PySem.W.Frag) : R2 := fun x y H Q => ∃ p xs i v, x = .ref p /\ y = .int i /\ SqL K H p xs /\ atI xs i = some v /\ Q v H
noncomputable def Fe (K : PySem.W.Frag) : R2 := fun x y H Q => ∃ p xs i v, x = .ref p /\ y = .int i /\ SqT K H p xs /\ atI xs i = some v /\ Q v H
theorem zH : IxR X (Yd X.K) := by
  intro value slice pins s σ H x y v u Q I rx ry h hs
  obtain ⟨p, xs, i, z, rfl, rfl, hq, he, q⟩ := h
  cases rx
  obtain ⟨t, rfl⟩ := ry
  obtain ⟨its, r, pl, hz⟩ := I.list hq
  obtain ⟨j, h1, h2, h3, h4, h5⟩ := vW he
  obtain ⟨w, ew, rw'⟩ := r.get h2
  have hl := r.length
  have hn := yL
  have fin : EP X pins σ Q w s := ⟨z, H, I, rw', q⟩
  by_cases h0 : 0 <= i
  · have hj : i.toNat = j := by
      rw [seqIndex_of h0 h5] at h1
      exact Option.some.inj h1
    exact item_listR pl.isList h0 (by omega) (by rw [hj]; simpa using ew) fin hs
  · have hj : (i + (its.toArray.size : Int)).toNat = j := by
      rw [seqIndex_neg (by omega) h4] at h1
      rw [List.size_toArray, <- hl]
      exact Option.some.inj h1
    exact subscriptTail_builtinR (x := w) pl.isList.typeIs slot_list_getitem.lookup
      (wpAny_getItem_list_neg (Q := fun r s' => r = w /\ EP X pins σ Q r s') pl.isList (by omega) (by rw [List.size_toArray] <;> omega) (by omega) (by rw [hj]; simpa using ew) ⟨rfl, fin⟩) hs
theorem qE : IxR X (Fe X.K) := by
 intro value slice pins s σ H x y v u Q I rx ry h hs
 obtain ⟨p, xs, i, z, rfl, rfl, hq, he, q⟩ := h
 cases rx
 obtain ⟨t, rfl⟩ := ry
 obtain ⟨its, r, pl, hz⟩ := I.tuple hq
 obtain ⟨j, h1, h2, h3, h4, h5⟩ := vW he
 obtain ⟨w, ew, rw'⟩ := r.get h2
 have hl := r.length
 have hn := yL
 have fin : EP X pins σ Q w s := ⟨z, H, I, rw', q⟩
 exact subscriptTail_builtinR (x := w) pl.typeIs slot_tuple_getitem.lookup
  (getItem_tuple (j := j) (Q := fun r s' => r = w /\ EP X pins σ Q r s') pl (by omega) (by omega) (by rw [List.size_toArray, <- hl]; exact h1) (by simpa using ew) ⟨rfl, fin⟩) hs
theorem ZX (its : List Value) (n j : Nat) (u : Value) : Obj.mapSeq (·.setIfInBounds j u) { cls := .type "list", data := .seq its.toArray n } = { cls := .type "list", data := .seq (its.set j u).toArray n } := by
 simp [Obj.mapSeq]
theorem Inv.lst {pins : List (Addr × Obj)} {σ : St} {H : Hp} {s : Shared} {p : Addr} {xs : List V} (I : Inv X pins σ H s) (h : H p = some (.lst xs)) :
  ∃ (its : List Value) (n : Nat), zB xs its /\ s.heap.get? p = some { cls := .type "list", data := .seq its.toArray n } /\ xs.length <= sizeLine := by
 obtain ⟨z, its, n, r, e⟩ := I.hok p _ h
 exact ⟨its, n, r, e, z⟩
theorem Inv.lstUpd {pins : List (Addr × Obj)} {σ : St} {H : Hp} {s : Shared} {p : Addr} {xs ys : List V} {its its' : List Value} {n n' : Nat} {f : Obj -> Obj} (I : Inv X pins σ H s) (h : H p = some (.lst xs))
  (ho : s.heap.get? p = some { cls := .type "list", data := .seq its.toArray n }) (hf : f { cls := .type "list", data := .seq its.toArray n } = { cls := .type "list", data := .seq its'.toArray n' }) (r : zB ys its') (hz : ys.length <= sizeLine) (t : Nat) :
  Inv X pins σ (upd H p (.lst ys)) { s with heap := s.heap.update p f, toks := t } := by
 have e : (s.heap.update p f).get? p = some { cls := .type "list", data := .seq its'.toArray n' } := by
  rw [Heap.get?_update_self f ho (by rw [hf] <;> rfl), hf]
 refine I.write (x := p) (e := p) (by rw [h]; trivial) (.inl rfl) (fun b u hb q => (Heap.get?_update_other _ _ (Ne.symm hb)).trans q) ⟨_, e⟩ ?_
 exact ⟨hz, its', n', r, e⟩
noncomputable def A9 : V -> V -> V -> Hp -> (Hp -> Prop) -> Prop := fun o i v H Q => ∃ p xs k j, o = .ref p /\ i = .int k /\ H p = some (.lst xs) /\ ixN xs.length k = some j /\ Q (upd H p (.lst (xs.set j v)))
theorem Xb : W3 X A9 := by
  intro pins s σ H o i v ov iv u Q I ro ri rv h
  obtain ⟨p, xs, k, j, rfl, rfl, hp, hj, q⟩ := h
  cases ro
  obtain ⟨t, rfl⟩ := ri
  obtain ⟨its, n, r, ho, hz⟩ := I.lst hp
  obtain ⟨h1, h2, h3, h4⟩ := QY hj
  have hl := r.length
  have hn := yL
  have I' : Inv X pins σ (upd H p (.lst (xs.set j v))) { s with heap := s.heap.update p (Obj.mapSeq (·.setIfInBounds j u)) } :=
    I.lstUpd hp ho (ZX its n j u) (r.set rv j) (by rw [List.length_set]; exact hz) s.toks
  by_cases h0 : 0 <= k
  · have hk : k.toNat = j := by
      rw [seqIndex_of h0 h4] at h1
      exact Option.some.inj h1
    exact PySem.W.ki_setAt ho h0 (by omega) (by rw [List.size_toArray, <- hl]; exact h4) (by rw [hk]; exact ⟨_, I', q⟩)
  · have hk : (k + (its.toArray.size : Int)).toNat = j := by
      rw [seqIndex_neg (by omega) h3] at h1
      rw [List.size_toArray, <- hl]
      exact Option.some.inj h1
    exact PySem.W.ki_setBack ho (by omega) (by rw [List.size_toArray, <- hl]; exact h3) (by omega) (by rw [hk]; exact ⟨_, I', q⟩)
theorem vJ (lo hi : Option Int) (n : Nat) : (sliceBounds lo hi none n).1 = ((HT.sIx n 0 lo : Nat) : Int) /\ (sliceBounds lo hi none n).2.1 = ((HT.sIx n n hi : Nat) : Int) /\ (sliceBounds lo hi none n).2.2 = 1 := by
 refine ⟨?_, ?_, rfl⟩
 ·cases lo with
  | none => simp [sliceBounds, HT.sIx]
  | some i =>
   simp only [sliceBounds, HT.sIx, Option.getD_none, show (1 : Int) > 0 by decide, if_true]
   by_cases h : i < 0
   ·simp only [h, if_true] <;> omega
   ·simp only [h, if_false] <;> omega
 ·cases hi with
  | none => simp [sliceBounds, HT.sIx]
  | some i =>
   simp only [sliceBounds, HT.sIx, Option.getD_none, show (1 : Int) > 0 by decide, if_true]
   by_cases h : i < 0
   ·simp only [h, if_true] <;> omega
   ·simp only [h, if_false] <;> omega
theorem yO (its : List Value) (lo hi : Option Int) : slicePick its.toArray lo hi none = ((its.drop (HT.sIx its.length 0 lo)).take (HT.sIx its.length its.length hi - HT.sIx its.length 0 lo)).toArray := by
 obtain ⟨h1, h2, h3⟩ := vJ lo hi its.toArray.size
 unfold slicePick
 rw [h1, h2, h3]
 simp only [sliceRange_one, pick_run, List.size_toArray] <;> rfl
noncomputable def Fh (K : PySem.W.Frag) : V -> Option Int -> Option Int -> Hp -> VK -> Prop := fun x lo hi H Q => ∃ a xs, x = .ref a /\ SqL K H a xs /\ ∀ p, H p = none -> Q (.ref p) (upd H p (.lst (yQ xs lo hi)))
theorem Q9 : SlR X (Fh X.K) := by
 intro pins s σ H x v vl vu lo hi sl Q I rx hs pl pu h
 obtain ⟨a, xs, rfl, hx, q⟩ := h
 cases rx
 obtain ⟨its, r, ht, hz⟩ := I.list hx
 have hlen := r.length
 refine ⟨"list", _, slot_list_getitem.lookup, ht.isList.typeIs, ?_⟩
 refine wpAny_getItem_list_slice ht.isList hs pl pu .none (by simp) ?_ (by rw [List.size_toArray] <;> omega)
 rw [yO, <- hlen]
 refine ⟨.ref s.heap.objs.size, _, I.laid (t' := s.toks) (o := .lst (yQ xs lo hi)) (fun b ob q => Heap.get?_push_of_some _ q) (Nat.le_refl _) ?_, rfl, q _ (I.hok.fresh (Nat.le_refl _))⟩
 exact ⟨Nat.le_trans (xG xs lo hi) hz, _, 0, (r.drop (HT.sIx xs.length 0 lo)).take (HT.sIx xs.length xs.length hi - HT.sIx xs.length 0 lo), Heap.get?_push_size _ rfl⟩
noncomputable def ki : V -> Bool
 | .non => true
 | .bl _ => true
 | .int _ => true
 | .str _ => true
 | _ => false
noncomputable def eqV : V -> V -> Bool
 | .non, .non => true
 | .bl a, .bl b => a == b
 | .bl a, .int b => (if a then 1 else 0) == b
 | .int a, .bl b => a == (if b then 1 else 0)
 | .int a, .int b => a == b
 | .str a, .str b => a == b
 | _, _ => false
theorem BS {A : Around} {s : Shared} {y x : V} {u v : Value} (ry : zA y u) (rx : zA x v) (fy : ki y = true) (fx : ki x = true) : SeqAt.EqAt A s u v (eqV y x) := by
 cases y with
 | non =>
  cases ry
  cases x with
  | non => cases rx; exact SeqAt.EqAt.same _
  | bl b => cases rx; exact SeqAt.EqAt.none_bool b
  | int b => obtain ⟨t, rfl⟩ := rx; exact SeqAt.EqAt.none_int b t
  | str b => obtain ⟨t, rfl⟩ := rx; exact SeqAt.EqAt.none_str b t
  | _ => exact absurd (show false = true from fx) Bool.false_ne_true
 | bl a =>
  cases ry
  cases x with
  | non => cases rx; exact SeqAt.EqAt.bool_none a
  | bl b => cases rx; exact SeqAt.EqAt.bool_bool a b
  | int b => obtain ⟨t, rfl⟩ := rx; exact SeqAt.EqAt.bool_int a b t
  | str b => obtain ⟨t, rfl⟩ := rx; exact SeqAt.EqAt.bool_str a b t
  | _ => exact absurd (show false = true from fx) Bool.false_ne_true
 | int a =>
  obtain ⟨t', rfl⟩ := ry
  cases x with
  | non => cases rx; exact SeqAt.EqAt.int_none a t'
  | bl b => cases rx; exact SeqAt.EqAt.int_bool a t' b
  | int b => obtain ⟨t, rfl⟩ := rx; exact SeqAt.EqAt.int_int a t' b t
  | str b => obtain ⟨t, rfl⟩ := rx; exact SeqAt.EqAt.int_str a t' b t
  | _ => exact absurd (show false = true from fx) Bool.false_ne_true
 | str a =>
  obtain ⟨t', rfl⟩ := ry
  cases x with
  | non => cases rx; exact SeqAt.EqAt.str_none a t'
  | bl b => cases rx; exact SeqAt.EqAt.str_bool a t' b
  | int b => obtain ⟨t, rfl⟩ := rx; exact SeqAt.EqAt.str_int a t' b t
  | str b => obtain ⟨t, rfl⟩ := rx; exact SeqAt.EqAt.str_str a t' b t
  | _ => exact absurd (show false = true from fx) Bool.false_ne_true
 | _ => exact absurd (show false = true from fy) Bool.false_ne_true
noncomputable def eqU (x : V) (u : Value) : Bool := match u with
 | .none => eqV .non x
 | .bool b => eqV (.bl b) x
 | .int i _ => eqV (.int i) x
 | .str z _ => eqV (.str z) x
 | _ => false
theorem K3 {x y : V} {u : Value} (r : zA y u) (f : ki y = true) : eqU x u = eqV y x := by
 cases y with
 | non => cases r; rfl
 | bl b => cases r; rfl
 | int i => obtain ⟨t, rfl⟩ := r; rfl
 | str z => obtain ⟨t, rfl⟩ := r; rfl
 | _ => exact absurd (show false = true from f) Bool.false_ne_true
theorem kK {x : V} : ∀ {xs : List V} {us : List Value}, zB xs us -> xs.all ki = true -> us.any (eqU x) = xs.any fun y => eqV y x
 | _, _, .nil, _ => rfl
 | y :: xs, u :: us, .cons r t, f => by
  rw [List.all_cons, Bool.and_eq_true] at f
  rw [List.any_cons, List.any_cons, K3 r f.1, kK t f.2]
theorem jK {A : Around} {s : Shared} {x : V} {v : Value} (rx : zA x v) (fx : ki x = true) : ∀ {xs : List V} {us : List Value}, zB xs us -> xs.all ki = true -> ∀ u ∈ us, SeqAt.EqAt A s u v (eqU x u)
 | _, _, .nil, _ => fun u hu => by cases hu
 | y :: xs, u :: us, .cons r t, f => fun u' hu => by
  rw [List.all_cons, Bool.and_eq_true] at f
  rcases List.mem_cons.mp hu with rfl | hu
  ·rw [K3 r f.1]; exact BS r rx f.1 fx
  ·exact jK rx fx t f.2 u' hu
noncomputable def inV (x : V) (xs : List V) : Bool := xs.any fun y => eqV y x
noncomputable def rIn (K : PySem.W.Frag) (neg : Bool) : R2 := fun x y H Q => ∃ p xs, y = .ref p /\ (SqL K H p xs \/ SqT K H p xs) /\ ki x = true /\ xs.all ki = true /\ Q (.bl (if neg then !inV x xs else inV x xs)) H
theorem xy : OpR X (compareOp .In) (rIn X.K false) := by
 intro pins s σ H x y v u Q I rx ry h
 obtain ⟨p, xs, rfl, hq, fx, fs, q⟩ := h
 cases ry
 rcases hq with hq | hq
 ·obtain ⟨its, r, pl, hz⟩ := I.list hq
  refine SeqAt.in_listAt (eqU x) pl.isList (fun w hw => jK rx fx r fs w (by simpa using hw)) ⟨.bl _, H, I, rfl, ?_⟩
  rw [show its.toArray.any (eqU x) = its.any (eqU x) by simp, kK r fs]
  exact q
 ·obtain ⟨its, r, pl, hz⟩ := I.tuple hq
  refine SeqAt.in_tupleAt (eqU x) pl (fun w hw => jK rx fx r fs w (by simpa using hw)) ⟨.bl _, H, I, rfl, ?_⟩
  rw [show its.toArray.any (eqU x) = its.any (eqU x) by simp, kK r fs]
  exact q
theorem wc : OpR X (compareOp .NotIn) (rIn X.K true) := by
 intro pins s σ H x y v u Q I rx ry h
 obtain ⟨p, xs, rfl, hq, fx, fs, q⟩ := h
 cases ry
 rcases hq with hq | hq
 ·obtain ⟨its, r, pl, hz⟩ := I.list hq
  refine SeqAt.notIn_listAt (eqU x) pl.isList (fun w hw => jK rx fx r fs w (by simpa using hw)) ⟨.bl _, H, I, rfl, ?_⟩
  rw [show its.toArray.any (eqU x) = its.any (eqU x) by simp, kK r fs]
  exact q
 ·obtain ⟨its, r, pl, hz⟩ := I.tuple hq
  refine SeqAt.notIn_tupleAt (eqU x) pl (fun w hw => jK rx fx r fs w (by simpa using hw)) ⟨.bl _, H, I, rfl, ?_⟩
  rw [show its.toArray.any (eqU x) = its.any (eqU x) by simp, kK r fs]
  exact q
theorem zv : jg X (.builtin "len") (fun xs H Q => ∃ p ys, xs = [.ref p] /\ (SqL X.K H p ys \/ SqT X.K H p ys) /\ Q (.int ys.length) H) := by
 intro pins s σ H xs us Q I r h
 obtain ⟨p, ys, rfl, hq, q⟩ := h
 obtain ⟨u, rfl, rx⟩ := kg r
 cases rx
 have hn := yL
 rcases hq with hq | hq
 ·obtain ⟨its, r', pl, hz⟩ := I.list hq
  have hlen := r'.length
  exact Calls.call_len_list pl.isList (by simp only [List.size_toArray] <;> omega) ⟨.int ys.length, H, I.tok _, ⟨s.toks + 1, by rw [List.size_toArray, hlen]⟩, q⟩
 ·obtain ⟨its, r', pl, hz⟩ := I.tuple hq
  have hlen := r'.length
  exact len_tuple pl (by simp only [List.size_toArray] <;> omega) ⟨.int ys.length, H, I.tok _, ⟨s.toks + 1, by rw [List.size_toArray, hlen]⟩, q⟩
theorem kJ : jg X (.type "list") (fun xs H Q => ∃ p ys, xs = [.ref p] /\ (SqL X.K H p ys \/ SqT X.K H p ys) /\ ∀ l, H l = none -> Q (.ref l) (upd H l (.lst ys))) := by
 intro pins s σ H xs us Q I r h
 obtain ⟨p, ys, rfl, hq, q⟩ := h
 obtain ⟨u, rfl, rx⟩ := kg r
 cases rx
 have fin : ∀ (its : List Value), zB ys its -> ys.length <= sizeLine -> ∀ (h' : Heap) (c' : Nat), (∀ b o', s.heap.get? b = some o' -> h'.get? b = some o') ->
   h'.get? s.heap.objs.size = some { cls := .type "list", dict := none, data := .seq its.toArray c', slots := #[] } -> EP X pins σ Q (.ref s.heap.objs.size) { s with heap := h' } := fun its r' hz h' c' kp e =>
  ⟨.ref s.heap.objs.size, _, I.laid (t' := s.toks) kp (Nat.le_refl _) (show zP X.prog X.w _ h' _ (.lst ys) from ⟨hz, its, c', r', e⟩), rfl, q _ (I.hok.fresh (Nat.le_refl _))⟩
 rcases hq with hq | hq
 ·obtain ⟨its, r', pl, hz⟩ := I.list hq
  have hlen := r'.length
  obtain ⟨o, ho, hc, n, hd⟩ := pl.isList
  exact call_list_seq p (.inl rfl) ho hc hd (fun h' c' kp e => fin its r' hz h' c' kp e) (by simp only [List.size_toArray] <;> omega)
 ·obtain ⟨its, r', pl, hz⟩ := I.tuple hq
  have hlen := r'.length
  obtain ⟨o, ho, hc, n, hd⟩ := pl
  exact call_list_seq p (.inr rfl) ho hc hd (fun h' c' kp e => fin its r' hz h' c' kp e) (by simp only [List.size_toArray] <;> omega)
theorem qQ : jg X (.type "tuple") (fun xs H Q => ∃ p ys, xs = [.ref p] /\ ((SqL X.K H p ys /\ ∀ l, H l = none -> Q (.ref l) (upd H l (.tup ys))) \/ (SqT X.K H p ys /\ Q (.ref p) H))) := by
 intro pins s σ H xs us Q I r h
 obtain ⟨p, ys, rfl, h⟩ := h
 obtain ⟨u, rfl, rx⟩ := kg r
 cases rx
 rcases h with ⟨hq, q⟩ | ⟨hq, q⟩
 ·obtain ⟨its, r', pl, hz⟩ := I.list hq
  have hlen := r'.length
  refine call_tuple_list pl.isList (fun h' kp => ?_) (by simp only [List.size_toArray] <;> omega)
  have I1 : Inv X pins σ H { s with heap := h' } := I.kept (t' := s.toks) kp
  have I2 : Inv X pins σ (upd H h'.objs.size (.tup ys)) { s with heap := h'.push { cls := .type "tuple", data := .seq its.toArray } } :=
   I1.laid (t' := s.toks) (fun b o e => Heap.get?_push_of_some _ e) (Nat.le_refl _) (show zP X.prog X.w _ _ _ (.tup ys) from ⟨hz, its, r', wd.new _ _⟩)
  exact ⟨.ref h'.objs.size, _, I2, rfl, q _ (I1.hok.fresh (Nat.le_refl _))⟩
 ·obtain ⟨its, r', pl, hz⟩ := I.tuple hq
  exact call_tuple_same pl ⟨.ref p, H, I, rfl, q⟩
noncomputable def tyV (K : PySem.W.Frag) (T : String) (x : V) (H : Hp) : Prop := match x with
  | .str _ => T = "str"
  | .int _ => T = "int"
  | .ref p => (T = "list" /\ ∃ xs, SqL K H p xs) \/ (T = "tuple" /\ ((∃ xs, Rd H p (.tup xs)) \/ ∃ o, K.lookup p = some o /\ o.cls = .type "tuple" /\ o.dict = none)) \/
      (T = "dict" /\ ((∃ kvs, H p = some (.dK kvs)) \/ ∃ kvs, H p = some (.dT kvs))) \/ (T = "set" /\ ∃ S n, H p = some (.set S n))
  | _ => False
theorem B2 {pins : List (Addr × Obj)} {σ : St} {H : Hp} {s : Shared} {T : String} {x : V} {v : Value} (I : Inv X pins σ H s) (r : zA x v) (ty : tyV X.K T x H) :
    s.TypeIs v T /\ ∀ a, v = .ref a -> ∃ ob, s.heap.get? a = some ob /\ ob.dict = none := by
  cases x with
  | str z =>
    obtain ⟨t, rfl⟩ := r
    cases (show T = "str" from ty)
    exact ⟨typeIs_str s z t, fun _ e => nomatch e⟩
  | int i =>
    obtain ⟨t, rfl⟩ := r
    cases (show T = "int" from ty)
    exact ⟨typeIs_int s i t, fun _ e => nomatch e⟩
  | ref p =>
    cases r
    rcases ty with ⟨rfl, xs, hq⟩ | ⟨rfl, ⟨xs, hx⟩ | ⟨o, hk, hc, hd⟩⟩ | ⟨rfl, hk⟩ | ⟨rfl, S, n, hk⟩
    · obtain ⟨its, _, pl, _⟩ := I.list hq
      refine ⟨pl.isList.typeIs, fun a e => ?_⟩
      cases e
      obtain ⟨o, n, e, c, hd, _⟩ := pl
      exact ⟨o, e, hd⟩
    · obtain ⟨_, its, _, o, e, c, _, hd⟩ := hx.ok I.hok
      refine ⟨⟨o, e, c⟩, fun a e2 => ?_⟩
      cases e2
      exact ⟨o, e, hd⟩
    · refine ⟨⟨o, I.kIn p o hk, hc⟩, fun a e => ?_⟩
      cases e
      exact ⟨o, I.kIn _ o hk, hd⟩
    · have z : ∃ o, s.heap.get? p = some o /\ o.ExactDict := by
        rcases hk with ⟨kvs, hk⟩ | ⟨kvs, hk⟩
        · obtain ⟨_, _, _, _, o, _, _, e, ex, _⟩ := I.hok p _ hk
          exact ⟨o, e, ex⟩
        · obtain ⟨_, _, _, _, o, _, _, e, ex, _⟩ := I.hok p _ hk
          exact ⟨o, e, ex⟩
      obtain ⟨o, e, ex⟩ := z
      refine ⟨⟨o, e, ex.1⟩, fun a e2 => ?_⟩
      cases e2
      exact ⟨o, e, ex.2.1⟩
    · obtain ⟨o, _, _, _, e, ex, _⟩ := I.hok p _ hk
      refine ⟨⟨o, e, ex.1⟩, fun a e2 => ?_⟩
      cases e2
      exact ⟨o, e, ex.2.1⟩
  | _ => exact False.elim ty
noncomputable def tBM (K : PySem.W.Frag) (T : String) (r : V -> List V -> Hp -> VK -> Prop) (to : TE) (t : TA) : TE := fun σ H Q => to σ H fun x H1 => tyV K T x H1 /\ t σ H1 fun xs H2 => r x xs H2 Q
variable {o e : Expr} {es : List Expr} {to : TE} {t : TA} {name : Str} {apos cpos : Pos} {T id : String} {r : V -> List V -> Hp -> VK -> Prop}
theorem KN (pa : PlainAttrs T) (slot : Slot T name id) (hty : typeOf (.builtin id) = pure (.type "method_descriptor")) (hm : MtR X id r) (ho : PE X o to) (ha : PA X (e :: es) t)
  (hbase : attributeBase o name X.env (eval o X.env) = eval o X.env := by rfl)
  (hfew : ((backTo cpos (starEach (e :: es) X.env)).all (fun x => !x.1) && (backToKw cpos (keywordEach [] X.env)).all (fun x => x.1.isSome)
   && decide ((e :: es).length + ([] : List Keyword).length + (if ([] : List Keyword).isEmpty then 0 else 1) < 30)) = true := by rfl)
  (hline : (apos.endLine == cpos.line) = true := by rfl) (hs : starEach (e :: es) X.env = (false, eval e X.env) :: starEach es X.env := by rfl) (hplain : (backTo cpos (starEach es X.env)).any (·.1) = false := by rfl) :
  PE X (.Call (.Attribute o name apos) (e :: es) [] cpos) (tBM X.K T r to t) := by
 intro pins s σ H Q I h
 refine wpAny_Call_method_late hbase hfew hline rfl (thn (ho pins s σ H _ I h) fun v s1 ⟨x, H1, I1, r1, ty, q1⟩ => ?_)
 obtain ⟨h1, h2⟩ := B2 I1 r1 ty
 refine ⟨T, id, pa, slot, hty, h1, h2, ?_⟩
 have hA := ha cpos pins s1 σ H1 _ I1 q1
 rw [hs] at hA ⊢
 refine Calls.callWith_builtin (by show (false || (backTo cpos (starEach es X.env)).any (·.1)) = false; rw [hplain] <;> rfl) (Calls.evalArgs_plain ?_)
 exact thn hA fun us s2 ⟨vs, H2, I2, r2, q2⟩ => hm pins s2 σ H2 x vs v us Q I2 r1 r2 q2
/- xs.append(e), list.index on a module's tuple .. are MtR facts of 06m -/
end
end L2
namespace L2
open PySem PySem.Spec PyProof.Rows
noncomputable def MtM (X : Cx) (id : String) (r : V -> List V -> Hp -> VK -> Prop) : Prop :=
 ∀ (pins : List (Addr × Obj)) (s : Shared) (σ : St) (H : Hp) (x : V) (xs : List V) (v : Value) (us : List Value) (Q : VK), Inv X pins σ H s -> zA x v -> zB xs us -> r x xs H Q ->
  wpAny (model X.prog X.w) X.A (call (.builtin id) (v :: us)) (EP X pins σ Q) X.xe s
theorem zB.one : ∀ {x : V} {us : List Value}, zB [x] us -> ∃ u, us = [u] /\ zA x u
 | _, _, .cons r .nil => ⟨_, rfl, r⟩
theorem zB.dropLast {xs : List V} {us : List Value} (h : zB xs us) : zB xs.dropLast us.dropLast := by
 induction h with
 | nil => exact .nil
 | cons r t ih =>
  cases t with
  | nil => exact .nil
  | cons q t' => exact .cons r ih
theorem zB.rep {xs : List V} {us : List Value} (h : zB xs us) : ∀ k : Nat, zB (List.replicate k xs).flatten (List.replicate k us).flatten
 | 0 => .nil
 | k + 1 => by
  rw [List.replicate_succ, List.replicate_succ, List.flatten_cons, List.flatten_cons]
  exact zB.append h (zB.rep h k)
theorem yV (its : List Value) : ∀ (k : Nat) (acc : List Value),
  List.foldl (fun x1 x2 => x1 ++ x2) acc.toArray (List.replicate k its.toArray) = (acc ++ (List.replicate k its).flatten).toArray
 | 0, acc => by simp
 | k + 1, acc => by
  have e : acc.toArray ++ its.toArray = (acc ++ its).toArray := by simp
  have e2 : (acc ++ its) ++ (List.replicate k its).flatten = acc ++ (List.replicate (k + 1) its).flatten := by
   rw [List.replicate_succ, List.flatten_cons, List.append_assoc]
  rw [<- e2, <- yV its k (acc ++ its), <- e, List.replicate_succ, List.foldl_cons]
section
variable {X : Cx} {pins : List (Addr × Obj)} {σ : St} {H : Hp} {s : Shared} {l b : Addr} {xs ys zs : List V}
theorem Inv.lset {its its' : List Value} {n : Nat} {f : Array Value -> Array Value} {t' : Nat} (I : Inv X pins σ H s) (hH : H l = some (.lst xs))
  (e : s.heap.get? l = some { cls := .type "list", data := .seq its.toArray n }) (hf : f its.toArray = its'.toArray) (hv : zB ys its') (hz : ys.length <= sizeLine) :
  Inv X pins σ (upd H l (.lst ys)) { s with heap := s.heap.update l (Obj.mapSeq f), toks := t' } := by
 have q := PySem.IsL.update e f
 rw [hf] at q
 refine I.write (x := l) (e := l) (by rw [hH]; exact trivial) (.inl rfl) (fun b' u hb hu => (Heap.get?_update_other s.heap (Obj.mapSeq f) (Ne.symm hb)).trans hu) ⟨_, q⟩ ?_
 exact ⟨hz, its', _, hv, q⟩
theorem Inv.lnew {its : List Value} {t' : Nat} (I : Inv X pins σ H s) (hv : zB ys its) (hz : ys.length <= sizeLine) :
  Inv X pins σ (upd H s.heap.objs.size (.lst ys)) { s with heap := s.heap.push { cls := .type "list", data := .seq its.toArray }, toks := t' } :=
 I.laid (fun _ _ q => Heap.get?_push_of_some _ q) (Nat.le_refl _) ⟨hz, its, 0, hv, Heap.get?_push_size _ rfl⟩
theorem Inv.fresh (I : Inv X pins σ H s) : H s.heap.objs.size = none := I.hok.fresh (Nat.le_refl _)
theorem Inv.lstM (I : Inv X pins σ H s) (hH : H l = some (.lst xs)) : xs.length <= sizeLine /\ ∃ (its : List Value) (n : Nat), zB xs its /\ xs.length = its.length /\ s.heap.get? l = some { cls := .type "list", data := .seq its.toArray n } := by
 obtain ⟨z, its, n, r, e⟩ := I.hok l _ hH
 exact ⟨z, its, n, r, r.length, e⟩
theorem wN {n : Nat} (h : n <= sizeLine) : Builtin.List.listTooLong n = false := by
 unfold Builtin.List.listTooLong
 exact decide_eq_false (by omega)
end
section
variable {X : Cx}
noncomputable def wg : V -> List V -> Hp -> VK -> Prop := fun x vs H Q => ∃ l xs y, x = .ref l /\ vs = [y] /\ H l = some (.lst xs) /\ xs.length < sizeLine /\ Q .non (upd H l (.lst (xs ++ [y])))
theorem yU : MtM X "list.append" wg := by
 intro pins s σ H x vs v us Q I rx rv h
 obtain ⟨l, xs, y, rfl, rfl, hH, hz, q⟩ := h
 cases rx
 obtain ⟨u, rfl, ru⟩ := rv.one
 obtain ⟨z, its, n, r, hl, e⟩ := I.lstM hH
 refine call_meets F.slot_list_append ⟨_, e, rfl⟩ F.entry_list_append (F.args_list_append_2 _ _) (PySem.list_append l its.toArray n u (by rw [List.size_toArray]; omega)) ⟨e, ?_⟩
 refine ⟨.non, _, I.lset (its' := its ++ [u]) hH e (by simp) (r.append (.cons ru .nil)) ?_, rfl, q⟩
 rw [List.length_append, List.length_singleton]
 omega
noncomputable def Q8 : V -> List V -> Hp -> VK -> Prop := fun x vs H Q => ∃ l b xs zs, x = .ref l /\ vs = [.ref b] /\ H l = some (.lst xs) /\ H b = some (.lst zs) /\ xs.length + zs.length <= sizeLine /\ Q .non (upd H l (.lst (xs ++ zs)))
theorem EI : MtM X "list.extend" Q8 := by
 intro pins s σ H x vs v us Q I rx rv h
 obtain ⟨l, b, xs, zs, rfl, rfl, hH, hB, hz, q⟩ := h
 cases rx
 obtain ⟨u, rfl, ru⟩ := rv.one
 cases ru
 obtain ⟨z, its, n, r, hl, e⟩ := I.lstM hH
 obtain ⟨z2, its2, n2, r2, hl2, e2⟩ := I.lstM hB
 have hsz : its.toArray.size + its2.toArray.size <= sizeLine := by rw [List.size_toArray, List.size_toArray]; omega
 have hlong : ¬ (!its.toArray.isEmpty && Builtin.List.listTooLong (its.toArray.size + its2.toArray.size)) = true := by
  rw [wN hsz, Bool.and_false]
  exact Bool.false_ne_true
 refine call_meets F.slot_list_extend ⟨_, e, rfl⟩ F.entry_list_extend (F.args_list_extend_2 _ _)
  (AutoSeq1.list_extend_list_list_0 l its.toArray n b its2.toArray n2 hlong (by rw [List.size_toArray]; omega) (by omega)) ⟨e, e2, ?_⟩
 refine ⟨.non, _, I.lset (its' := its ++ its2) hH e (by simp) (r.append r2) ?_, rfl, q⟩
 rw [List.length_append]
 omega
noncomputable def Vy : R2 := fun x y H Q => ∃ l b xs zs, x = .ref l /\ y = .ref b /\ H l = some (.lst xs) /\ H b = some (.lst zs) /\ xs.length + zs.length <= sizeLine /\ ∀ p, H p = none -> Q (.ref p) (upd H p (.lst (xs ++ zs)))
theorem ku : OpR X (binaryOp .Add) Vy := by
 intro pins s σ H x y v u Q I rx ry h
 obtain ⟨l, b, xs, zs, rfl, rfl, hH, hB, hz, q⟩ := h
 cases rx
 cases ry
 obtain ⟨z, its, n, r, hl, e⟩ := I.lstM hH
 obtain ⟨z2, its2, n2, r2, hl2, e2⟩ := I.lstM hB
 refine PySem.P.add_list e e2 ?_ (by rw [List.size_toArray, List.size_toArray]; omega)
 have ea : its.toArray ++ its2.toArray = (its ++ its2).toArray := by simp
 rw [ea]
 exact ⟨.ref _, _, I.lnew (t' := s.toks) (r.append r2) (by rw [List.length_append]; omega), rfl, q _ I.fresh⟩
noncomputable def VT : R2 := fun x y H Q => ∃ l k xs, x = .ref l /\ y = .int k /\ H l = some (.lst xs) /\ -(2 ^ 63) <= k /\ k < 2 ^ 63 /\ xs.length * k.toNat <= sizeLine /\
 ∀ p, H p = none -> Q (.ref p) (upd H p (.lst (List.replicate k.toNat xs).flatten))
theorem VB {α : Type} (xs : List α) (k : Nat) : (List.replicate k xs).flatten.length = k * xs.length := by
 induction k with
 | zero => simp
 | succ k ih => rw [List.replicate_succ, List.flatten_cons, List.length_append, ih, Nat.succ_mul, Nat.add_comm]
theorem yI : OpR X (binaryOp .Mult) VT := by
 intro pins s σ H x y v u Q I rx ry h
 obtain ⟨l, k, xs, rfl, rfl, hH, h1, h2, hz, q⟩ := h
 cases rx
 obtain ⟨t, rfl⟩ := ry
 obtain ⟨z, its, n, r, hl, e⟩ := I.lstM hH
 have hlen : its.toArray.size * k.toNat <= sizeLine := by rw [List.size_toArray, <- hl]; exact hz
 have hcap : ¬ its.toArray.size * k.toNat > (2 ^ 63 - 1) / 8 := by
  have : (sizeLine : Nat) <= (2 ^ 63 - 1) / 8 := by decide
  omega
 have hfit : ¬ (!Builtin.List.listFitsIndex k) = true := by
  rw [fitsIndex_both h1 h2]
  exact Bool.false_ne_true
 have hlong : ¬ Builtin.List.listTooLong (its.toArray.size * k.toNat) = true := by
  rw [wN hlen]
  exact Bool.false_ne_true
 have hnew : List.foldl (fun x1 x2 => x1 ++ x2) #[] (List.replicate (if its.toArray.isEmpty = true then 0 else k.toNat) its.toArray) = (List.replicate k.toNat its).flatten.toArray := by
  have f0 : ∀ m : Nat, List.foldl (fun x1 x2 => x1 ++ x2) #[] (List.replicate m its.toArray) = (List.replicate m its).flatten.toArray := fun m => by
   have := yV its m []
   rw [List.nil_append] at this
   exact this
  rw [f0]
  cases its with
  | nil => simp
  | cons a r' => rw [if_neg (by simp)]
 refine wpAny_binaryOp_repeat_ref (T := "list") (U := "int") (by decide) ⟨_, e, rfl⟩ (fun s' => typeIs_int s' k t) noFill_list_mul F.fills_int_mul F.slot_int_rmul repeat_list F.slot_int_index.lookup
  (call_meets F.slot_int_rmul (typeIs_int s k t) F.entry_int_rmul (F.args_int_rmul_2 _ _) (int___rmul___int_list k t l its.toArray n)
   ⟨e, rfl, ⟨_, e, rfl⟩, call_meets F.slot_list_mul ⟨_, e, rfl⟩ F.entry_list_mul (F.args_list_mul_2 _ _) (AutoListH.list___mul___list_int_3 l its.toArray n k t hfit hcap hlong) ⟨e, ?_⟩⟩)
 rw [hnew]
 exact ⟨.ref _, _, I.lnew (t' := s.toks) (r.rep k.toNat) (by rw [VB, Nat.mul_comm]; exact hz), rfl, q _ I.fresh⟩
end
section
variable {prog : Program} {w : World} {A : Around} {E : Value -> Shared -> Prop} {s : Shared}
end
section
variable {X : Cx}
end
end L2
namespace Att
open PySem PySem.W PySem.Calls PyProof.Rows
theorem xN {P : Params} {h : Heap} : ∀ (ns : List Int) (vs : List Value), WellAll P h vs (ns.map WData.int) -> IntsAre vs ns := by
 intro ns
 induction ns with
 | nil =>
  intro vs w
  rw [List.map_nil] at w
  cases w
  exact .nil
 | cons n ns ih =>
  intro vs w
  rw [List.map_cons] at w
  cases w with
  | cons a b =>
   cases a
   exact .cons _ _ (ih _ b)
theorem J4 {l : OpenLaw} {n : Nat} (hn : l.most = some n) {P : Params} {h : Heap} {args : List WData} {vals : List Value}
  (hpre : l.row.toRowW.claim.pre args = true) (hwl : WellAll P h vals args) :
  ∃ a vs ns, vals = [Value.ref a] /\ args = [WData.list (ns.map WData.int)] /\ h.get? a = some { cls := .type "list", data := .seq vs.toArray } /\ IntsAre vs ns /\ ns.length <= n := by
 have hsh : WShape.hasAll [] args [.list .int] = true := (pre_splitW hpre).1
 have hc : l.pre.holds [] { args := args } = true := (pre_splitW hpre).2
 obtain ⟨d, r, rfl, h1, h2⟩ := hasAllW_cons hsh
 obtain rfl := hasAllW_nil h2
 obtain ⟨xs, rfl, h3⟩ := hasW_list h1
 obtain ⟨ns, rfl⟩ := items_int h3
 have hlen : ns.length <= n := by
  unfold OpenLaw.pre at hc
  have h4 : (WTm.not (.lt (.lit (.int (n : Int))) (.len (.arg 0)))).holds [] { args := [.list (ns.map .int)] } = true := by
   have h4 := (holds_andW hc).1
   rw [hn] at h4
   exact h4
  have h5 := condW_of h4 (w_not (w_lt w_lit (w_len_list (w_arg rfl))))
  rw [List.length_map] at h5
  refine Nat.le_of_not_lt fun q => ?_
  have q' : (n : Int) < ((ns.length : Nat) : Int) := by omega
  first
   | (rw [decide_eq_true q'] at h5; exact absurd h5 (by decide))
   | (simp at h5; omega)
 cases hwl with
 | cons w1 w2 =>
  cases w2
  cases w1 with
  | list ho hall => exact ⟨_, _, ns, rfl, rfl, ho, xN ns _ hall, hlen⟩
theorem Kk (l : OpenLaw) (args : List WData) : l.row.toRowW.claim.post args (.bool true) args = true :=
 postW_of (r := l.row.toRowW) (X := (true == true))
  (show WShape.has [] (.bool true) .bool = true by first | rfl | decide | simp [WShape.has, WShape.arms, WShape.armsAll])
  (show (WTm.eq .res (.lit (.bool true))).value [] { args := args, res := some (.bool true), after := args } = some (.bool (true == true)) from w_eq_bool (w_res rfl) w_lit) rfl
theorem attach_call {l : OpenLaw} {n : Nat} {q : Program} {loose : List Str} {XP : (Str -> Option Value) -> Heap -> Prop} {YP : World -> Heap -> Prop} {d : DefRec}
  (hn : l.most = some n) (hdf : d.params.defaults = [])
  (call : ∀ (w : World) (s₀ s₁ : Shared) (mg mb : Str -> Option Value) (fa : Addr) (o : Obj) (pm cd doc : Value) (a : Addr) (vs : List Value) (ns : List Int),
   Ground q loose [] XP w s₀ mg mb s₁.heap -> YP w s₁.heap ->
   s₁.heap.get? fa = some o -> o.data = .func (docDef d.name d.params d.body d.scope pm cd doc) -> s₁.heap.CodeRec cd d.name -> mg d.name = some (.ref fa) ->
   s₁.heap.get? a = some { cls := .type "list", data := .seq vs.toArray } -> IntsAre vs ns -> ns.length <= n -> s₁.gens = #[] ->
   codeAny (model l.prog w) callerA (.call (.ref fa) ⟨[.ref a], []⟩) (fun r s' => r = .ok (.ret (.bool true)) /\ OldK s₁.heap s'.heap /\ s'.os = s₁.os /\ AllBare s'.gens) s₁) :
  WalkO q loose XP YP l.row.toRowW d [] (fun f vs => PySem.call f vs) := by
 intro w s₀ s₁ mg mb G Y fa o pm cd doc dV kV ho hd hcd hD hmg hg args vals as hpre hlay hrd hwl hlo
 obtain rfl : dV = .none := Dflts.none hD hdf
 obtain rfl : kV = .none := Dflts.noKw hD
 obtain ⟨a, vs, ns, rfl, rfl, hobj, hints, hlen⟩ := J4 hn hpre hwl
 refine enter_call (codeAny_mono (call w s₀ s₁ mg mb fa o pm cd doc a vs ns G Y ho (fd_plain hd) hcd hmg hobj hints hlen hg) fun r s' hq => ?_)
 obtain ⟨rfl, h2, h3, h4⟩ := hq
 exact ⟨.inl ⟨.bool true, .bool true, [], rfl, fun _ => rfl, .bool true, Kk l _, fun _ => ⟨List.Pairwise.nil, fun _ hm => (nomatch hm)⟩⟩, h2, h3, h4⟩
section
variable {prog : Program} {w : World} {A : Around} {E : Value -> Shared -> Prop} {s : Shared} {K : Frag}
noncomputable def FU (h : Heap) (L d : Addr) : List (Addr × Obj) := (List.range h.objs.size).filterMap fun a => if a = L \/ a = d then none else (h.get? a).map fun o => (a, o)
end
end Att
namespace L2
open PySem PySem.Spec PyProof.Rows
theorem va : ∀ {vs : List Value} {ns : List Int}, IntsAre vs ns -> zB (ns.map V.int) vs
 | _, _, .nil => .nil
 | _, _, .cons n t h => .cons ⟨t, rfl⟩ (va h)
noncomputable def BW (H : Hp) : Prop := ∀ b, H b = none \/ ∃ o xs, H b = some (.frz o (.lst xs))
theorem Xu {P : Program} {w : World} {K : PySem.W.Frag} {mg mb : Str -> Option Value} {CX : CXT} {k : Nat} {fa a : Addr} {fd : FuncData} {x : Str} {sp : Sp} {s₁ : Shared} {vs : List Value} {ns : List Int}
  (KX : K.In s₁.heap) (hns : s₁.heap.Ns mainGlobals mg) (hb : s₁.heap.Ns builtinsNs mb) (hbb : ∀ x : Str, x ≠ "__name__" -> mb x = bootBuiltins x) (hlim : s₁.heap.NoLimit) (hg : s₁.gens = #[])
  (ha : s₁.heap.get? a = some { cls := .type "list", data := .seq vs.toArray }) (hi : IntsAre vs ns) (hl : ns.length <= sizeLine) (hr : qg k callerA)
  (F : ∀ base : Heap, K.In base -> base.Ns mainGlobals mg -> qT P w K mg base CX k fa fd [x] sp) (hbind : ∀ (s : Shared) (u : Value), BindsTo s fd ⟨[u], []⟩ [(x, u)])
  (hsp : ∀ H : Hp, BW H -> SqL K H a (ns.map V.int) -> sp [.ref a] H (fun v _ => v = .bl true) fun _ _ _ => False)
  (hCX : ∀ H e s', CX [] H s₁ (fun _ _ _ => False) e s' -> False) :
  codeAny (model P w) callerA (.call (.ref fa) ⟨[.ref a], []⟩) (fun r s' => r = .ok (.ret (.bool true)) /\ OldK s₁.heap s'.heap /\ s'.os = s₁.os /\ AllBare s'.gens) s₁ := by
 have rv := va hi
 have lenV := hi.length
 have core : ∀ H : Hp, BW H -> SqL K H a (ns.map V.int) -> HOk P w H s₁.heap -> (∀ b, H b ≠ none -> b = a) -> (H a ≠ none -> K.lookup a = none) ->
   codeAny (model P w) callerA (.call (.ref fa) ⟨[.ref a], []⟩) (fun r s' => r = .ok (.ret (.bool true)) /\ OldK s₁.heap s'.heap /\ s'.os = s₁.os /\ AllBare s'.gens) s₁ := by
  intro H hO hS hok hA hK
  have base_of : ∀ {b : Addr} {o : Obj}, s₁.heap.get? b = some o -> H b = none -> (vF s₁.heap H).get? b = some o := fun e n => YO e n
  have noA : ∀ {b : Addr} {o : Obj} {es : Array DictEntry} {ep : Nat}, s₁.heap.get? b = some o -> o.data = .dict es ep -> H b = none := fun {b o es ep} e d => by
   cases q : H b with
   | none => rfl
   | some u =>
    have e' : b = a := hA b (by rw [q]; simp)
    subst e'
    rw [ha] at e; cases e
    have d' : Data.seq vs.toArray _ = Data.dict es ep := d
    cases d'
  have nsK : ∀ {b : Addr} {m : Str -> Option Value}, s₁.heap.Ns b m -> (vF s₁.heap H).Ns b m := fun {b m} ⟨o, es, ep, e, d, r⟩ => ⟨o, es, ep, base_of e (noA e d), d, r⟩
  have hKb : K.In (vF s₁.heap H) := fun b o e => base_of (KX b o e) (by
   cases q : H b with
   | none => rfl
   | some u =>
    have e' : b = a := hA b (by rw [q]; simp)
    subst e'
    rw [hK (by rw [q]; simp)] at e; cases e)
  have hM : Mod K mg (vF s₁.heap H) := ⟨hKb, nsK hns, ⟨mb, nsK hb, hbb⟩, let ⟨mc, h1, h2⟩ := hlim; ⟨mc, nsK h1, h2⟩⟩
  have e0 : ZY P w K mg (vF s₁.heap H) callerA [] s₁ H := ⟨rfl, hM, fun b o e => VJ e, Nat.le_of_eq (JF _ _), trivial, fun b hb => absurd (show b ∈ ([] : List Addr) from hb) (by simp), hok, .of_eq hg⟩
  refine codeAny_mono ((F _ hKb (nsK hns)).run callerA [] s₁ H ⟨[.ref a], []⟩ [.ref a] [.ref a] _ _ hr e0 (hbind s₁ (.ref a)) (.cons rfl .nil) (hsp H hO hS)) fun r s' h => ?_
  cases r with
  | error e => exact (hCX H e s' h).elim
  | ok fl =>
   cases fl with
   | next => exact False.elim h
   | brk => exact False.elim h
   | cont => exact False.elim h
   | ret u =>
    obtain ⟨v, H', os, bare, un, hok', r', q⟩ := h
    have q' : v = .bl true := q
    subst q'
    obtain rfl : u = Value.bool true := r'
    refine ⟨rfl, OldK.of_keep fun b o e => ?_, os, bare⟩
    cases q : H b with
    | none => exact un.keep b o e q (by intro z; exact absurd (show b ∈ ([] : List Addr) from z) (by simp)) (by simp)
    | some u =>
     rcases hO b with z | ⟨ob, xs, z⟩
     ·rw [q] at z; cases z
     ·have z2 := un.frzs b ob _ z
      obtain ⟨e1, _⟩ := hok b _ z
      obtain ⟨e2, _⟩ := hok' b _ z2
      rw [e] at e1; cases e1
      exact e2
 cases hk : K.lookup a with
 | some o =>
  have e := KX a o hk
  rw [ha] at e
  cases e
  refine core (fun _ => none) (fun _ => .inl rfl) (.inr ⟨_, vs.toArray, _, hk, rfl, rfl, rfl, by rw [List.size_toArray, lenV]; exact hl, by simpa using rv⟩) (fun b u z => by have z' : (none : Option HO) = some u := z; cases z') (fun b z => absurd rfl z) fun z => absurd rfl z
 | none =>
  refine core (fun b => if b = a then some (.frz { cls := .type "list", data := .seq vs.toArray } (.lst (ns.map V.int))) else none) (fun b => ?_) (.inl (.inr ⟨{ cls := .type "list", data := .seq vs.toArray }, if_pos rfl⟩)) (fun b u z => ?_) (fun b z => ?_) fun _ => hk
  ·by_cases hb : b = a
   ·exact .inr ⟨_, _, if_pos hb⟩
   ·exact .inl (if_neg hb)
  ·by_cases hb : b = a
   ·have z' := (if_pos hb).symm.trans z
    cases z'
    subst hb
    exact ⟨ha, by rw [List.length_map]; exact hl, vs, _, rv, ha⟩
   ·have z' := (if_neg hb).symm.trans z
    cases z'
  ·by_cases hb : b = a
   ·exact hb
   ·exact absurd (if_neg hb) z
end L2
namespace L2
open PySem PySem.Spec PyProof.Rows
noncomputable abbrev KOf {K : PySem.W.Frag} {h : Heap} (_ : K.In h) : PySem.W.Frag := K
theorem walk_of {l : PySem.W.OpenLaw} {n k : Nat} {q : Program} {loose : List Str} {XP : (Str -> Option Value) -> Heap -> Prop} {YP : World -> Heap -> Prop} {d : DefRec} {K : Params -> PySem.W.Frag} {CX : World -> CXT} {sp : World -> Sp} {x : Str}
  (hn : l.most = some n) (hn2 : n <= sizeLine) (hdf : d.params.defaults = []) (hr : qg k callerA)
  (hY : ∀ (w : World) (h : Heap), YP w h -> (K w.params).In h)
  (F : ∀ (w : World) (mg : Str -> Option Value) (fa : Addr) (h : Heap), (K w.params).In h -> h.Ns mainGlobals mg -> mg d.name = some (.ref fa) ->
   ∃ fd : FuncData, (∀ (s : Shared) (u : Value), BindsTo s fd ⟨[u], []⟩ [(x, u)]) /\
    ∀ base : Heap, (K w.params).In base -> base.Ns mainGlobals mg -> qT l.prog w (K w.params) mg base (CX w) k fa fd [x] (sp w))
  (hsp : ∀ (w : World) (H : Hp) (a : Addr) (ns : List Int), ns.length <= n -> BW H -> SqL (K w.params) H a (ns.map V.int) -> sp w [.ref a] H (fun v _ => v = .bl true) fun _ _ _ => False)
  (hCX : ∀ (w : World) (H : Hp) (s : Shared) (e : Value) (s' : Shared), CX w [] H s (fun _ _ _ => False) e s' -> False) :
  PySem.W.WalkO q loose XP YP l.row.toRowW d [] (fun f vs => PySem.call f vs) := by
 refine Att.attach_call hn hdf fun w s₀ s₁ mg mb fa o pm cd doc a vs ns G Y ho hd hcd hmg hobj hints hlen hg => ?_
 have KX := hY w _ Y
 obtain ⟨fd, hb, hF⟩ := F w mg fa _ KX G.T.g hmg
 exact Xu KX G.T.g G.T.b G.T.builtins G.T.nolimit hg hobj hints (Nat.le_trans hlen hn2) hr hF hb (fun H hO hS => hsp w H a ns hlen hO hS) fun H e s' => hCX w H s₁ e s'
end L2
/- THE LAST THEOREM (shape; LID, My.* are yours):
   My.Adr: a structure of the addresses that your layer names (classes, functions); My.Txt K t: a structure (Prop) of the equations over K;
   My.txt_mk : {K} {implicit addresses ..} (e1 : nsIn K mainGlobals "law" = some (some (.ref f))) (e2 : K.lookup f = some ⟨oc, od, .func (fnOf "law" "law" params body scope dV kV doc pm an cdv ct), sl⟩) (e3 : codeIn K cdv "law" = true) .. : ∃ t, My.Txt K t
set_option maxRecDepth 100000 in
set_option maxHeartbeats 0 in
theorem PySem.Challenge.cw_LID_holds : PySem.Challenge.rw_LID.Holds := by
 w_on; o_law; k_head; (case hw => w_witness2)
 k_fill
 refine L2.walk_of (l := PySem.Challenge.rw_LID) (n := 63) (k := 40) (x := "script") (CX := fun w => ..) (sp := fun _ => My.sp_law) rfl (by decide) rfl ⟨rfl, by decide, by decide⟩ (fun w h Y => PySem.W.kIn_of Y) ?F ?S ?C
 case F =>
  intro w mg fa h KX G hmg
  have T : ∃ t, My.Txt (L2.KOf KX) t := by
   dsimp only [L2.KOf]                          -- K must stand as «<heap const> w.params» for k_is
   refine' My.txt_mk ?e1 ?e2 ?e3 ..
   (case e1 => PySem.W.k_is)                    -- in the order: a name -> its address -> its object -> its parts
   (case e2 => PySem.W.k_is)
   ..
  obtain ⟨t, T⟩ := T
  have e0 := hmg.symm.trans (PySem.W.mg_of KX G T.law)
  cases e0                                       -- fa is the law's own address
  exact ⟨_, fun s u => .of_eq rfl, fun base kb nb => My.law_fn T kb nb⟩     -- if «.of_eq rfl» comes too early: refine' ⟨_, ?b, fun base kb nb => My.law_fn T kb nb⟩; exact fun s u => .of_eq rfl
 case S => exact fun w H a ns hl hO hS => ..
 case C => exact ..
(the tactic k_is has no namespace: write k_is) -/
namespace L2
open PySem PySem.Spec PyProof.Rows
noncomputable def qI (s : Stmt) (j : Nat) : Stmt := match s with
 | .ClassDef _ _ _ body _ _ _ _ _ _ _ => body.getD j (.Pass ⟨0, 0, 0, 0⟩)
 | _ => .Pass ⟨0, 0, 0, 0⟩
noncomputable def qt (s : Stmt) : Arguments := match s with
 | .FunctionDef _ a _ _ _ _ _ _ _ _ => a
 | _ => { posonlyargs := [], args := [], vararg := none, kwonlyargs := [], kw_defaults := [], kwarg := none, defaults := [] }
noncomputable def zO (s : Stmt) : List Stmt := match s with
 | .FunctionDef _ _ b _ _ _ _ _ _ _ => b
 | _ => []
noncomputable def zi (s : Stmt) : Scope := match s with
 | .FunctionDef _ _ _ _ _ _ sc _ _ _ => sc
 | _ => { kind := .function, names := [], isGenerator := false, isCoroutine := false }
noncomputable abbrev CX0 : CXT := fun _ _ _ _ _ _ => False
noncomputable abbrev E0 : XK := fun _ _ _ => False
theorem Ja {X : Cx} : jJ CX0 X E0 := fun _ _ _ _ _ _ _ h => h.elim
structure Fun (K : PySem.W.Frag) (x qual : Str) (st : Stmt) (f : Addr) (fd : FuncData) : Prop where
 ex : ∃ (oc : Value) (od : Option Addr) (kV doc pm : Value) (an : Option Addr) (cdv ct : Value) (osl : Array (Option Value)),
  fd = PySem.W.fnOf x qual (qt st) (zO st) (zi st) .none kV doc pm an cdv ct /\ K.lookup f = some ⟨oc, od, .func fd, osl⟩ /\ PySem.W.codeIn K cdv qual = true
 kp : PySem.W.keepIn K (.ref f) = true
section
variable {P : Program} {w : World} {K : PySem.W.Frag} {mg : Str -> Option Value} {base : Heap}
theorem Fun.ok {x qual : Str} {st : Stmt} {f : Addr} {fd : FuncData} {N ps : List Str} {k : Nat} {sp : Sp} (F : Fun K x qual st f fd) (S : zy N ps (zi st)) (len : ∀ vs H Q E, sp vs H Q E -> vs.length = ps.length)
  (hbody : ∀ (cdv : Value) (A : Around) (outer : List Env) (s : Shared) (H : Hp) (vs : List V) (Q : VK) (E : XK), qg k (A.deeper (envOfC qual (zi st) s.heap.objs.size f cdv)) -> sp vs H Q E ->
   ∃ t, PSs (j9 CX0 P w K mg base N qual (zi st) f cdv A outer s H E).nox (zO st) t /\ t { nx := fun _ H' => Q .non H', rt := Q } (qF N vs) H) : qT P w K mg base CX0 (k + 1) f fd ps sp := by
 obtain ⟨oc, od, kV, doc, pm, an, cdv, ct, osl, rfl, lk, hcd⟩ := F.ex
 refine AJ lk hcd S len fun A outer s H vs Q E hr hsp => ?_
 obtain ⟨t, h, q⟩ := hbody cdv A outer s H vs Q E hr hsp
 exact ⟨t, h.nox, q⟩
theorem Fun.binds {x qual : Str} {st : Stmt} {f : Addr} {fd : FuncData} {ps : List Str} (F : Fun K x qual st f fd)
  (h : ∀ (kV doc pm : Value) (an : Option Addr) (cdv ct : Value) (us : List Value), us.length = ps.length -> bindArgs (PySem.W.fnOf x qual (qt st) (zO st) (zi st) .none kV doc pm an cdv ct) ⟨us, []⟩ = pure (ps.zip us)) : ja K fd ps [] := by
 obtain ⟨oc, od, kV, doc, pm, an, cdv, ct, osl, rfl, lk, hcd⟩ := F.ex
 exact .all (h kV doc pm an cdv ct)
theorem fun_mk {x qual : Str} {st : Stmt} {f : Addr} {oc : Value} {od an : Option Addr} {osl : Array (Option Value)} {kV doc pm cdv ct : Value} (l : K.lookup f = some ⟨oc, od, .func (PySem.W.fnOf x qual (qt st) (zO st) (zi st) .none kV doc pm an cdv ct), osl⟩)
  (c : PySem.W.codeIn K cdv qual = true) (k : PySem.W.keepIn K (.ref f) = true) : Fun K x qual st f (PySem.W.fnOf x qual (qt st) (zO st) (zi st) .none kV doc pm an cdv ct) := ⟨⟨oc, od, kV, doc, pm, an, cdv, ct, osl, rfl, l, c⟩, k⟩
end
theorem J1 {n : Nat} (h : n <= 1000) : n < sizeLine := Nat.lt_of_le_of_lt h (by decide)
section
variable {X : Cx}
theorem pv (i : Nat) {x : Str} {pos : Pos} (hN : X.N[i]? = some x := by rfl) (hv : Vis X.env.scope x := by first | exact Or.inl rfl | exact Or.inr (Or.inl rfl) | exact Or.inr (Or.inr rfl)) (hd : (x == ("__debug__" : Str)) = false := by decide)
  (hcd : (x == ("__classdict__" : Str)) = false := by decide) : PE X (.Name x pos) (VH i) := Ej hN hv hd hcd
end
theorem Bj {c A B : Prop} [Decidable c] (h1 : c -> A) (h2 : ¬ c -> B) : if c then A else B := by
 by_cases h : c
 ·rw [if_pos h]
  exact h1 h
 ·rw [if_neg h]
  exact h2 h
end L2
namespace L2
open PySem PySem.Spec PyProof.Rows
section
variable {κ : Type} [DecidableEq κ]
noncomputable def ym (kvs : List (κ × V)) (k : κ) : Option V := (kvs.find? fun kv => decide (kv.1 = k)).map (·.2)
theorem Y6 {p : κ × V} {r : List (κ × V)} {k : κ} (e : p.1 = k) : ym (p :: r) k = some p.2 := by simp [ym, List.find?_cons, e]
theorem Ya {p : κ × V} {r : List (κ × V)} {k : κ} (e : ¬ p.1 = k) : ym (p :: r) k = ym r k := by simp [ym, List.find?_cons, e]
theorem kB.getD {o : Option V} {u : Option Value} {d : V} {d' : Value} (r : kB o u) (rd : zA d d') : zA (o.getD d) (u.getD d') := by
 cases o with
 | none => cases u with
  | none => exact rd
  | some _ => exact (show False from r).elim
 | some _ => cases u with
  | none => exact (show False from r).elim
  | some _ => exact r
theorem KV.val {kvs : List (κ × V)} {vs : List (κ × Value)} (r : KV kvs vs) (k : κ) : kB (ym kvs k) (valueAt vs k) := by
 unfold KV at r
 induction r with
 | nil => exact True.intro
 | @cons p q ps qs h t ih =>
  obtain ⟨h1, h2⟩ := h
  by_cases e : p.1 = k
  ·have e' : q.1 = k := h1.symm.trans e
   have b : valueAt (q :: qs) k = some q.2 := by simp [valueAt, List.find?_cons, e']
   rw [Y6 e, b]; exact h2
  ·have e' : ¬ q.1 = k := fun z => e (h1.trans z)
   have b : valueAt (q :: qs) k = valueAt qs k := by simp [valueAt, List.find?_cons, e']
   rw [Ya e, b]; exact ih
end
theorem Fy {P : Program} {w : World} {k : Key} {u : Value} (r : zA (kV k) u) : (qX P w).is k u = true := by
 cases k with
 | inl i => obtain ⟨t, e⟩ := (show ∃ t, u = Value.int i t from r); subst e; exact wD P w i t
 | inr x => obtain ⟨t, e⟩ := (show ∃ t, u = Value.str x t from r); subst e; exact wB P w x t
section
variable {P : Program} {w : World} {H : Hp} {h : Heap} {a : Addr}
end
section
variable {X : Cx} {pins : List (Addr × Obj)} {σ : St} {H : Hp} {s : Shared} {a : Addr} {y v : V} {u r : Value} {o : Option V} {A : Around} {E : Value -> Shared -> Prop}
end
section
variable {X : Cx} {pins : List (Addr × Obj)} {σ : St} {H : Hp} {s : Shared} {a : Addr} {kvs : List (Key × V)} {k : Key} {u : Value} {A : Around} {E : Value -> Shared -> Prop}
end
section
variable {X : Cx} {o i e value : Expr} {pos pos' tpos : Pos} {td ty tv : TE}
end
section
variable {X : Cx} {pos : Pos}
end
structure M1 (X : Cx) (o : Expr) (m : Str) (apos : Pos) (e : Expr) (cpos : Pos) : Prop where
 base : attributeBase o m X.env (eval o X.env) = eval o X.env
 few : ((backTo cpos (starEach [e] X.env)).all (fun x => !x.1) && (backToKw cpos (keywordEach [] X.env)).all (fun x => x.1.isSome)
  && decide (([e] : List Expr).length + ([] : List Keyword).length + (if ([] : List Keyword).isEmpty then 0 else 1) < 30)) = true
 line : (apos.endLine == cpos.line) = true
 trees : backTo cpos (starEach [e] X.env) = [(false, eval e X.env)]
structure M2 (X : Cx) (o : Expr) (m : Str) (apos : Pos) (e f : Expr) (cpos : Pos) : Prop where
 base : attributeBase o m X.env (eval o X.env) = eval o X.env
 few : ((backTo cpos (starEach [e, f] X.env)).all (fun x => !x.1) && (backToKw cpos (keywordEach [] X.env)).all (fun x => x.1.isSome)
  && decide (([e, f] : List Expr).length + ([] : List Keyword).length + (if ([] : List Keyword).isEmpty then 0 else 1) < 30)) = true
 line : (apos.endLine == cpos.line) = true
 trees : backTo cpos (starEach [e, f] X.env) = [(false, eval e X.env), (false, eval f X.env)]
section
variable {X : Cx} {pins : List (Addr × Obj)} {σ : St} {H : Hp} {s : Shared} {a : Addr} {y d : V} {u r : Value} {o : Option V} {A : Around} {E : Value -> Shared -> Prop}
end
section
variable {X : Cx} {o e f : Expr} {apos cpos : Pos} {td ty tx : TE}
end
section
variable {X : Cx} {pins : List (Addr × Obj)} {σ : St} {H : Hp} {s : Shared} {a : Addr} {kvs : List (Key × V)} {A : Around} {E : Value -> Shared -> Prop}
end
section
variable {X : Cx} {pins : List (Addr × Obj)} {σ : St} {H : Hp} {s : Shared} {a : Addr} {y : V} {u : Value} {A : Around} {E : Value -> Shared -> Prop}
end
end L2
namespace L2
open PySem PySem.Spec PyProof.Rows
section
variable {κ : Type} [DecidableEq κ]
end
end L2
set_option Elab.async false
set_option linter.all false
set_option maxRecDepth 100000
set_option maxHeartbeats 4000000
namespace L2
open PySem PySem.Spec PyProof.Rows
noncomputable def Vq (N : List Str) (ts : List Nat) (sc : Scope) (kind : Str -> Option NameKind) : Bool :=
 sc.kind == .function && sc.names.all (fun y => y.2 != .cell && (y.2 != .local || sc.names.lookup y.1 == some .local) && (y.2 != .free || kind y.1 == some .cell || kind y.1 == some .free)) &&
  N.zipIdx.all (fun p => sc.names.lookup p.1 != some .local || ts.contains p.2)
noncomputable def qJ (cells : List (Str × Addr)) : List (Str × NameKind) -> List (Str × Addr) -> List (Str × Addr)
 | [], acc => acc
 | (n, k) :: r, acc => qJ cells r (if k = .free then (n, (cells.lookup n).getD 0) :: acc else acc)
theorem v7 {env : Env} : ∀ (names : List (Str × NameKind)) (acc : List (Str × Addr)), (∀ y ∈ names, y.2 = .free -> ∃ c, env.cells.lookup y.1 = some c) ->
  (forIn names acc fun (x : Str × NameKind) (cs : List (Str × Addr)) => (match x with | (name, kind) => if (kind == NameKind.free) = true then (do let c <- cellOf env name; pure (ForInStep.yield ((name, c) :: cs))) else pure (ForInStep.yield cs) : Sem (ForInStep (List (Str × Addr))))) = pure (qJ env.cells names acc)
 | [], acc, _ => rfl
 | (n, k) :: r, acc, h => by
  rw [List.forIn_cons]
  by_cases hk : k = .free
  ·subst hk
   obtain ⟨c, hc⟩ := h (n, .free) List.mem_cons_self rfl
   have e1 : cellOf env n = pure c := by unfold cellOf; rw [hc]
   simp only [beq_self_eq_true, if_true, e1, pure_bind]
   rw [v7 r _ fun y hy => h y (List.mem_cons_of_mem _ hy)]
   show _ = pure (qJ env.cells r (if NameKind.free = .free then _ else _))
   rw [if_pos rfl, hc]; rfl
  ·have hb : (k == NameKind.free) = false := by simpa using hk
   simp only [hb, Bool.false_eq_true, if_false, pure_bind]
   rw [v7 r _ fun y hy => h y (List.mem_cons_of_mem _ hy)]
   show _ = pure (qJ env.cells r (if k = .free then _ else _))
   rw [if_neg hk]
theorem xg {cells : List (Str × Addr)} : ∀ (names : List (Str × NameKind)) (acc : List (Str × Addr)), (∀ y ∈ names, y.2 = .free -> ∃ c, cells.lookup y.1 = some c) -> (∀ x c, acc.lookup x = some c -> cells.lookup x = some c) ->
    (∀ x c, (qJ cells names acc).lookup x = some c -> cells.lookup x = some c) /\ (∀ x c, acc.lookup x = some c -> ∃ c', (qJ cells names acc).lookup x = some c') /\ ∀ y ∈ names, y.2 = .free -> ∃ c, (qJ cells names acc).lookup y.1 = some c
  | [], acc, _, h2 => ⟨h2, fun x c e => ⟨c, e⟩, fun y hy => nomatch hy⟩
  | (n, k) :: r, acc, h1, h2 => by
    by_cases hk : k = .free
    · subst hk
      obtain ⟨c, hc⟩ := h1 (n, .free) List.mem_cons_self rfl
      have hc : cells.lookup n = some c := hc
      have e : qJ cells ((n, .free) :: r) acc = qJ cells r ((n, c) :: acc) := by
        show qJ cells r (if NameKind.free = .free then _ else _) = _
        rw [if_pos rfl, hc]; rfl
      rw [e]
      obtain ⟨q1, q2, q3⟩ := xg (cells := cells) r ((n, c) :: acc) (fun y hy => h1 y (List.mem_cons_of_mem _ hy)) (fun x c' e' => by
        rw [List.lookup_cons] at e'
        cases hx : x == n with
        | true => rw [hx] at e'; have : x = n := by simpa using hx
                  subst this; cases e'; exact hc
        | false => rw [hx] at e'; exact h2 x c' e')
      refine ⟨q1, fun x c' e' => ?_, fun y hy hf => ?_⟩
      · cases hx : x == n with
        | true => exact q2 x c (by rw [List.lookup_cons, hx])
        | false => exact q2 x c' (by rw [List.lookup_cons, hx]; exact e')
      · rcases List.mem_cons.mp hy with rfl | hy
        · exact q2 n c (by rw [List.lookup_cons, beq_self_eq_true])
        · exact q3 y hy hf
    · have e : qJ cells ((n, k) :: r) acc = qJ cells r acc := by
        show qJ cells r (if k = .free then _ else _) = _
        rw [if_neg hk]
      rw [e]
      obtain ⟨q1, q2, q3⟩ := xg (cells := cells) r acc (fun y hy => h1 y (List.mem_cons_of_mem _ hy)) h2
      refine ⟨q1, q2, fun y hy hf => ?_⟩
      rcases List.mem_cons.mp hy with rfl | hy
      · exact absurd hf hk
      · exact q3 y hy hf
theorem ZF {scope : Scope} {env : Env} (h : ∀ y ∈ scope.names, y.2 = .free -> ∃ c, env.cells.lookup y.1 = some c) :
  ∃ cl, closureFor scope env = pure cl /\ (∀ x c, cl.lookup x = some c -> env.cells.lookup x = some c) /\ ∀ y ∈ scope.names, y.2 = .free -> ∃ c, cl.lookup y.1 = some c := by
 obtain ⟨q1, _, q3⟩ := xg (cells := env.cells) scope.names [] h (fun x c e => nomatch e)
 refine ⟨qJ env.cells scope.names [], ?_, q1, q3⟩
 unfold closureFor
 have := v7 (env := env) scope.names [] h
 first
  | exact this
  | (simp only [bind_pure]; exact this)
  | (refine Eq.trans ?_ this; simp)
theorem kU {env : Env} : ∀ {names : List (Str × NameKind)} {x : Str}, (names.map fun (n, k) => if (k == NameKind.free && env.scope.kind == .function && env.kindOf n == some .cell) then (n, NameKind.cell) else (n, k)).lookup x =
  (names.lookup x).map fun k => if (k == NameKind.free && env.scope.kind == .function && env.kindOf x == some .cell) then NameKind.cell else k
 | [], _ => rfl
 | (n, k) :: r, x => by
  have ih := @kU env r x
  rw [List.map_cons]
  cases hx : x == n with
  | true =>
   have e : x = n := by simpa using hx
   subst e
   rw [List.lookup_cons (as := r), beq_self_eq_true]
   show List.lookup x ((if (k == NameKind.free && env.scope.kind == .function && env.kindOf x == some .cell) = true then (x, NameKind.cell) else (x, k)) :: _) = some _
   by_cases hc : (k == NameKind.free && env.scope.kind == .function && env.kindOf x == some .cell) = true
   ·rw [if_pos hc, List.lookup_cons, beq_self_eq_true]; dsimp only; rw [if_pos hc]
   ·rw [if_neg hc, List.lookup_cons, beq_self_eq_true]; dsimp only; rw [if_neg hc]
  | false =>
   rw [List.lookup_cons (as := r), hx]
   show List.lookup x ((if (k == NameKind.free && env.scope.kind == .function && env.kindOf n == some .cell) = true then (n, NameKind.cell) else (n, k)) :: _) = _
   by_cases hc : (k == NameKind.free && env.scope.kind == .function && env.kindOf n == some .cell) = true
   ·rw [if_pos hc, List.lookup_cons, hx]; exact ih
   ·rw [if_neg hc, List.lookup_cons, hx]; exact ih
noncomputable abbrev cxC (X : Cx) (scope : Scope) (cl : List (Str × Addr)) (s : Shared) (H : Hp) (fp : List Addr) : Cx :=
 { X with s₀ := s, H₀ := H, env := compEnvC scope cl s.heap.objs.size X.env, outer := X.stack, ex := fp, fn := fun _ => false, pn := [], xe := fun _ _ => False }
noncomputable def clr : List Nat -> St -> St
 | [], σ => σ
 | j :: r, σ => clr r (σ.set j none)
theorem QU : ∀ (ts : List Nat) (σ : St), (clr ts σ).length = σ.length
 | [], _ => rfl
 | j :: r, σ => by show (clr r (σ.set j none)).length = _; rw [QU r]; simp
theorem wQ : ∀ (ts : List Nat) (σ : St) (i : Nat) (v : V), (clr ts σ)[i]? = some (some v) -> i ∉ ts /\ σ[i]? = some (some v)
 | [], _, _, _, h => ⟨by simp, h⟩
 | j :: r, σ, i, v, h => by
  obtain ⟨h1, h2⟩ := wQ r (σ.set j none) i v h
  by_cases e : j = i
  ·subst e
   rw [List.getElem?_set] at h2
   simp at h2
  ·rw [List.getElem?_set_ne e] at h2
   exact ⟨by simp [h1, Ne.symm e], h2⟩
structure ScF (X : Cx) (ts : List Nat) (scope : Scope) : Prop where
 kind : scope.kind = .function
 cell : ∀ y ∈ scope.names, y.2 ≠ .cell
 loc : ∀ y ∈ scope.names, y.2 = .local -> scope.names.lookup y.1 = some .local
 free : ∀ y ∈ scope.names, y.2 = .free -> X.env.kindOf y.1 = some .cell \/ X.env.kindOf y.1 = some .free
 ts : ∀ (i : Nat) x, X.N[i]? = some x -> scope.names.lookup x = some .local -> i ∈ ts
theorem Ed {X : Cx} {ts : List Nat} {scope : Scope} (h : Vq X.N ts scope X.env.kindOf = true) : ScF X ts scope := by
  unfold Vq at h
  simp only [Bool.and_eq_true, List.all_eq_true, bne_iff_ne, ne_eq, Bool.or_eq_true, beq_iff_eq] at h
  obtain ⟨⟨h1, h2⟩, h3⟩ := h
  refine ⟨h1, fun y hy => (h2 y hy).1.1, fun y hy e => ?_, fun y hy e => ?_, fun i x e1 e2 => ?_⟩
  · rcases (h2 y hy).1.2 with z | z
    · exact absurd e z
    · exact z
  · rcases (h2 y hy).2 with (z | z) | z
    · exact absurd e z
    · exact .inl z
    · exact .inr z
  · have hm : (x, i) ∈ X.N.zipIdx := by
      rw [List.mem_zipIdx_iff_getElem?]; exact e1
    rcases h3 _ hm with z | z
    · exact absurd e2 z
    · simpa using z
section
variable {X : Cx} {ts : List Nat} {scope : Scope} {pins : List (Addr × Obj)} {σ : St} {H : Hp} {s : Shared} {fp : List Addr}
theorem Qk (I : Inv X pins σ H s) (S : ScF X ts scope) (hf : ∀ b ∈ fp, xO X pins H b) (hfl : ∀ b ∈ fp, b < s.heap.objs.size) {cl : List (Str × Addr)} (c1 : ∀ x c, cl.lookup x = some c -> X.env.cells.lookup x = some c)
  (c2 : ∀ y ∈ scope.names, y.2 = .free -> ∃ c, cl.lookup y.1 = some c) {h1 : Heap} {t1 : Nat} (hns : h1.Ns s.heap.objs.size (fun x => ([] : List (Str × Value)).reverse.lookup x))
  (hk : ∀ b o, s.heap.get? b = some o -> h1.get? b = some o) : Inv (cxC X scope cl s H fp) [] (clr ts σ) H { s with heap := h1, toks := t1 } := by
 have hlk : ∀ x, (relabel scope X.env).names.lookup x = (scope.names.lookup x).map fun k => if (k == NameKind.free && X.env.scope.kind == .function && X.env.kindOf x == some .cell) then NameKind.cell else k := fun x => kU
 have cfree : ∀ x, ((relabel scope X.env).names.lookup x = some .cell \/ (relabel scope X.env).names.lookup x = some .free) -> (x, NameKind.free) ∈ scope.names := fun x hx => by
  rw [hlk] at hx
  cases e : scope.names.lookup x with
  | none => rw [e] at hx; rcases hx with hx | hx <;> cases hx
  | some k =>
   have hm := mem_of_lookup_some e
   cases k with
   | free => exact hm
   | cell => exact absurd rfl (S.cell _ hm)
   | «local» => rw [e] at hx; rcases hx with hx | hx <;> cases hx
   | globalExplicit => rw [e] at hx; rcases hx with hx | hx <;> cases hx
   | globalImplicit => rw [e] at hx; rcases hx with hx | hx <;> cases hx
 have ccell : ∀ x c, cl.lookup x = some c -> ∃ v, s.heap.IsCell c v := fun x c e => I.cell x c (c1 x c e)
 have fpne : ∀ b ∈ fp, b ∉ frs X.stack := fun b hb z => by
  obtain ⟨_, f1, f2, _⟩ := hf b hb
  rcases List.mem_cons.mp (I.stkSub b z) with e | e
  ·exact f1 e
  ·exact f2 e
 refine ⟨⟨I.ok.mod, S.kind, I.ok.glob, I.ok.blt, Nat.le_refl _, fun x y c e1 e2 => I.ok.inj x y c (c1 x c e1) (c1 y c e2), fun x hx => c2 (x, .free) (cfree x hx) rfl, (fun x c hx => nomatch hx), I.ok.hd, I.ok.frames, .inl rfl, fun b hb => ⟨Nat.ne_of_lt (hfl b hb), fun x c e => (hf b hb).2.2.2.2.1 x c (c1 x c e)⟩,
  I.bs, Nat.le_trans I.ok.bsz I.sz, fun b o e hb => ?_, fpne, I.stack, I.stkFree⟩, rfl, I.bare, Un.kept hk, ⟨_, hns, fun i x v e1 e2 e3 => ?_⟩, fun x c e => ?_, I.hok.fresh (Nat.le_refl _), fun x c e => I.freeC x c (c1 x c e), fun p hp => absurd hp (by simp), I.hok.kept hk, by rw [QU]; exact I.len⟩
 ·rcases (hf b hb).2.2.2.1 with z | z
  ·exact I.ok.noex b o e z
  ·exact absurd (Nat.lt_of_lt_of_le (Heap.lt_size e) (Nat.le_trans I.ok.bsz z)) (Nat.lt_irrefl _)
 ·obtain ⟨nt, e2⟩ := wQ ts σ i v e2
  have e3' : (relabel scope X.env).names.lookup x = some .local \/ (relabel scope X.env).names.lookup x = some .cell \/ (relabel scope X.env).names.lookup x = some .free := e3
  rcases e3' with z | z
  ·rw [hlk] at z
   cases e : scope.names.lookup x with
   | none => rw [e] at z; cases z
   | some k =>
    rw [e] at z
    have z' : (if (k == NameKind.free && X.env.scope.kind == .function && X.env.kindOf x == some .cell) = true then NameKind.cell else k) = .local := Option.some.inj z
    split at z'
    ·cases z'
    ·subst z'
     exact absurd (S.ts i x e1 e) nt
  ·have hm := cfree x z
   obtain ⟨c, hc⟩ := c2 _ hm rfl
   obtain ⟨m, hn, hl⟩ := I.loc
   have vis : Vis X.env.scope x := by
    rcases S.free _ hm rfl with q | q
    ·exact .inr (.inl q)
    ·exact .inr (.inr q)
   obtain ⟨u, r, l⟩ := hl i x v e1 e2 vis
   refine ⟨u, r, .inr ⟨z, c, hc, ?_⟩⟩
   rcases l with ⟨q, _⟩ | ⟨_, c', hc', hcell⟩
   ·rcases S.free _ hm rfl with q' | q'
    ·rw [q'] at q; cases q
    ·rw [q'] at q; cases q
   ·rw [c1 x c hc] at hc'
    cases hc'
    obtain ⟨o, ho, hd⟩ := hcell
    exact ⟨o, hk _ _ ho, hd⟩
 ·obtain ⟨v, o, ho, hd⟩ := ccell x c e
  exact ⟨v, o, hk _ _ ho, hd⟩
end
section
variable {prog : Program} {w : World} {A : Around} {R : Result -> Shared -> Prop} {s : Shared}
theorem j8 {elt target iter : Expr} {ifs : List Expr} {scope : Scope} {pos : Pos} {it acc : Value} {env : Env} (I : Nat -> Shared -> Prop)
    (turn : ∀ n s, I n s -> wpAny (model prog w) A (pyNext it) (fun r s₁ => match r with
      | none => R (.ok .next) s₁
      | some v => wpAny (model prog w) A (letOwnedTupleGo target it v) (fun _ s₀ => wpAny (model prog w) A (assign target env v) (fun _ s₂ =>
          wpAny (model prog w) A (forIn ifs true fun c r => if r = true then do let ok <- isTrue c env (eval c env); pure (ForInStep.yield ok) else pure (ForInStep.yield r)) (fun ok s₃ =>
            if ok = true then wpAny (model prog w) A (eval elt env) (fun x s₄ =>
              wpAny (model prog w) A (call (.builtin "list.append") [acc, x]) (fun _ s₅ => ∃ m, m < n /\ I m s₅) (fun _ _ => False) s₄) (fun _ _ => False) s₃
            else ∃ m, m < n /\ I m s₃) (fun _ _ => False) s₂) (fun _ _ => False) s₀) (fun _ _ => False) s₁) (fun _ _ => False) s)
    (n : Nat) (h : I n s) :
    codeAny (model prog w) A (.compLoop (.ListComp elt [⟨target, iter, ifs, 0⟩] scope pos) 0 it acc env) R s := by
  refine codeAny_loop rfl I (fun n s hI => ?_) n h
  show wpAny _ A ((compTurn (.ListComp elt [⟨target, iter, ifs, 0⟩] scope pos) 0 it acc env).onRaise (fun x => do noteFrame x env; theTreesLotGoes x)) _ _ s
  refine wpAny_noted ?_
  rw [compTurn_list]
  refine wpAny_bind (wpAny_standAt (wpAny_bind (wpAny_mono (turn n s hI) (fun r s₁ h₁ => ?_) fun _ _ h' => h'.elim)))
  cases r with
  | none => exact wpAny_pure h₁
  | some v =>
    refine wpAny_bind (wpAny_mono h₁ (fun _ s₀ h₀ => ?_) fun _ _ h' => h'.elim)
    refine wpAny_bind (wpAny_mono h₀ (fun _ s₂ h₂ => wpAny_bind (wpAny_mono h₂ (fun ok s₃ h₃ => ?_) fun _ _ h' => h'.elim)) fun _ _ h' => h'.elim)
    cases ok with
    | false => exact wpAny_pure ⟨rfl, h₃⟩
    | true =>
      exact wpAny_bind (wpAny_bind (wpAny_mono h₃ (fun x s₄ h₄ => wpAny_bind (wpAny_mono h₄ (fun _ s₅ h₅ => wpAny_pure (wpAny_pure ⟨rfl, h₅⟩)) fun _ _ h' => h'.elim)) fun _ _ h' => h'.elim))
end
noncomputable def XW : TT := fun _ H Q => Q true H
noncomputable def PIf (X : Cx) (ifs : List Expr) (t : TT) : Prop :=
 ∀ (pins : List (Addr × Obj)) (s : Shared) (σ : St) (H : Hp) (Q : Bool -> Hp -> Prop), Inv X pins σ H s -> t σ H Q ->
  wpAny (model X.prog X.w) X.A (forIn ifs true fun c r => if r = true then do let ok <- isTrue c X.env (eval c X.env); pure (ForInStep.yield ok) else pure (ForInStep.yield r)) (TP X pins σ Q) X.xe s
theorem kW {X : Cx} : PIf X [] XW := fun _ _ _ H _ I h => wpAny_tests_nil ⟨H, I, h⟩
theorem Q6 {X : Cx} {c : Expr} {t : TT} (h : PT X c t) : PIf X [c] t := fun pins s σ H Q I hq => wpAny_tests_one (h pins s σ H Q I hq)
noncomputable def Zu (ts : List Nat) (wi : TI) (g : TG) (tt : TT) (te : TE) : TE := fun σ H Q => wi σ H fun J H1 => ∀ D, H1 D = none -> ∃ W : Nat -> Nat -> St -> Hp -> Prop, (∃ m, W 0 m (clr ts σ) (upd H1 D (.lst []))) /\ ∀ i m τ H2, W i m τ H2 ->
 (J.stop i H2 /\ Q (.ref D) H2) \/ (J.go i H2 /\ ∃ N : St -> Hp -> Prop, (∀ τ' H', N τ' H' -> ∃ m', m' < m /\ W (i + 1) m' τ' H') /\ ∀ x H', J.yld i H2 x H' -> g x τ H' fun τ2 H3 => tt τ2 H3 fun b H4 =>
  if b = true then te τ2 H4 fun v H5 => ∃ ys, H5 D = some (.lst ys) /\ ys.length < sizeLine /\ N τ2 (upd H5 D (.lst (ys ++ [v]))) else N τ2 H4)
section
variable {X : Cx} {ts : List Nat} {scope : Scope} {tg iter elt : Expr} {ifs : List Expr} {wi : TI} {g : TG} {tt : TT} {te : TE} {pos : Pos}
theorem Zc (hc : X.calm = true) (hsc : Vq X.N ts scope X.env.kindOf = true) (hi : PI X tg iter wi) (hg : ∀ cl s H fp, PG (cxC X scope cl s H fp) tg g) (ht : ∀ cl s H fp, PIf (cxC X scope cl s H fp) ifs tt) (he : ∀ cl s H fp, PE (cxC X scope cl s H fp) elt te)
  {pins : List (Addr × Obj)} {s : Shared} {σ : St} {H : Hp} {Q : VK} (I : Inv X pins σ H s) (h : Zu ts wi g tt te σ H Q) {use : Option (Value -> Sem Unit)} {Q' : Value -> Shared -> Prop}
  (fin : ∀ (D C : Addr) (H' : Hp) (s' : Shared), Inv X pins σ H' s' -> (∃ m, s'.heap.Ns C m) -> H' C = none -> C ≠ X.env.locals -> (∀ x c, X.env.cells.lookup x = some c -> c ≠ C) -> X.s₀.heap.objs.size <= C -> (∀ p ∈ X.pn ++ pins, p.1 ≠ C) -> C ∉ X.fs -> Q (.ref D) H' ->
   compPost (model X.prog X.w) X.A X.xe use Q' (.ref D) C (.ok .next) s')
  (hs : ∀ x, foldedSetIterable iter X.env x = pure x) :
  wpAny (model X.prog X.w) X.A (comprehension (.ListComp elt [⟨tg, iter, ifs, 0⟩] scope pos) scope X.env (firstIterPos [⟨tg, iter, ifs, 0⟩] pos) (newList []) false (eval iter X.env) use) Q' X.xe s := by
 have S := Ed hsc
 obtain ⟨cl, hcl, c1, c2⟩ := ZF (scope := scope) (env := X.env) fun y hy e => I.ok.has y.1 (S.free y hy e)
 refine wpAny_comprehension_free (use := use) rfl hs hcl S.kind S.loc ?_
 refine wpAny_mono (hi pins s σ H _ I h) (fun v s1 h1 => wpAny_mono h1 (fun itv s2 h2 => ?_) fun _ _ e => e) fun _ _ e => e
 obtain ⟨it, fp, tn, J, H2, e, I2, T, st2, f2, q2⟩ := h2
 subst e
 have hD : H2 s2.heap.objs.size = none := I2.hok.fresh (Nat.le_refl _)
 obtain ⟨W, ⟨m0, w0⟩, turn⟩ := q2 _ hD
 refine wpAny_newObj_type (wpAny_newFunctionEnv S.cell (by intro y hy; simp at hy) (fun h₁ hns₁ hsb₁ => ?_) S.kind)
 dsimp only at hns₁ hsb₁ ⊢
 generalize hh3 : s2.heap.push { cls := .type "list", dict := none, data := .seq ([] : List Value).toArray } = g3 at hns₁ hsb₁ ⊢
 have I3 : Inv X pins σ (upd H2 s2.heap.objs.size (.lst [])) { s2 with heap := g3 } := by
  rw [<- hh3]
  exact I2.laid (t' := s2.toks) (fun b u e => Heap.get?_push_of_some _ e) (Nat.le_refl _) ⟨Nat.zero_le _, [], _, .nil, Heap.get?_push_size _ rfl⟩
 have st3 : tn 0 g3 := T.keep _ _ _ st2 fun b _ o e => by rw [<- hh3]; exact Heap.get?_push_of_some _ e
 have lt2 : ∀ b ∈ fp, b < s2.heap.objs.size := fun b hb => by obtain ⟨o, e, _⟩ := T.obj _ _ st2 b hb; exact Heap.lt_size e
 have hsz3 : g3.objs.size = s2.heap.objs.size + 1 := by rw [<- hh3, Heap.size_push]
 have f3 : ∀ b ∈ fp, xO X pins (upd H2 s2.heap.objs.size (.lst [])) b := fun b hb => ⟨by rw [zg (Nat.ne_of_lt (lt2 b hb))]; exact (f2 b hb).1, (f2 b hb).2⟩
 have lt3 : ∀ b ∈ fp, b < g3.objs.size := fun b hb => by rw [hsz3]; exact Nat.lt_succ_of_lt (lt2 b hb)
 have old : ∀ b o, g3.get? b = some o -> h₁.get? b = some o := fun b o e => hsb₁.extBut b o (Nat.ne_of_lt (Heap.lt_size e)) (Heap.get?_push_of_some _ e)
 have hns : h₁.Ns g3.objs.size (fun x => ([] : List (Str × Value)).reverse.lookup x) := hns₁
 have I4 : ∀ t, Inv (cxC X scope cl { s2 with heap := g3 } (upd H2 s2.heap.objs.size (.lst [])) fp) [] (clr ts σ) (upd H2 s2.heap.objs.size (.lst [])) { s2 with heap := h₁, toks := t } := fun t => Qk I3 S f3 lt3 c1 c2 hns old
 have fpne : ∀ b ∈ fp, b ∉ frs X.stack := fun b hb z => by
  obtain ⟨_, f1, f2, _⟩ := f3 b hb
  rcases List.mem_cons.mp (I3.stkSub b z) with e | e
  ·exact f1 e
  ·exact f2 e
 have stat : ∀ {H' : Hp}, (∀ b ∈ fp, H' b = none) -> ∀ b ∈ fp, xO (cxC X scope cl { s2 with heap := g3 } (upd H2 s2.heap.objs.size (.lst [])) fp) [] H' b := fun hn b hb =>
  ⟨hn b hb, Nat.ne_of_lt (lt3 b hb), fpne b hb, .inl hb, fun x c e => (f2 b hb).2.2.2.2.1 x c (c1 x c e), fun p hp => absurd hp (by simp)⟩
 have loop : ∀ t, codeAny (model X.prog X.w) X.A (.compLoop (.ListComp elt [⟨tg, iter, ifs, 0⟩] scope pos) 0 (.ref it) (.ref s2.heap.objs.size) (compEnvC scope cl g3.objs.size X.env))
   (compPost (model X.prog X.w) X.A X.xe use Q' (.ref s2.heap.objs.size) g3.objs.size) { s2 with heap := h₁, toks := t } := by
  intro t
  refine j8 (fun n s' => ∃ i τ H', Inv (cxC X scope cl { s2 with heap := g3 } (upd H2 s2.heap.objs.size (.lst [])) fp) [] τ H' s' /\ tn i s'.heap /\ (∀ b ∈ fp, H' b = none) /\ W i n τ H') ?_ m0
   ⟨0, clr ts σ, _, I4 t, T.keep _ _ _ st3 fun b _ o e => old b o e, fun b hb => (f3 b hb).1, w0⟩
  rintro n s5 ⟨i, τ, H5, I5, st5, fr5, w5⟩
  rcases turn i n τ H5 w5 with ⟨stop, qn⟩ | ⟨go, N, hN, step⟩
  ·refine thn (T.done (cxC X scope cl { s2 with heap := g3 } (upd H2 s2.heap.objs.size (.lst [])) fp) rfl rfl rfl hc i [] s5 τ H5 _ I5 (stat fr5) st5 stop) fun r s6 ⟨hr, I6⟩ => ?_
   subst hr
   have base : Un (frs X.stack) fp (upd H2 s2.heap.objs.size (.lst [])) H5 g3 s6.heap := I6.base
   have J6 : Inv X pins σ H5 s6 := I3.call' (ch := fp) I6.os base I6.hok I6.bare fun b hb => ⟨(f3 b hb).2.2.2.1, (f3 b hb).2.1, (f3 b hb).2.2.2.2.1, (f3 b hb).2.2.2.2.2⟩
   obtain ⟨m6, n6, _⟩ := I6.loc
   have hC : g3.get? g3.objs.size = none := Heap.get?_none_of_le (Nat.le_refl _)
   refine fin _ g3.objs.size H5 s6 J6 ⟨m6, n6⟩ I6.free (Nat.ne_of_gt I3.lt) (fun x c e z => ?_) I3.sz (fun p hp z => ?_) (I3.nofs (Nat.le_refl _)) qn
   ·obtain ⟨v, q⟩ := I3.cell x c e
    exact absurd q.lt (by rw [z]; exact Nat.lt_irrefl _)
   ·exact absurd (Heap.lt_size (I3.pin p hp).1) (by rw [z]; exact Nat.lt_irrefl _)
  ·refine thn (T.item (cxC X scope cl { s2 with heap := g3 } (upd H2 s2.heap.objs.size (.lst [])) fp) rfl rfl rfl hc i [] s5 τ H5 _ I5 (stat fr5) st5 go) fun r s6 ⟨u, hr, h6⟩ => ?_
   subst hr
   refine thn h6 fun _ s7 ⟨x, H7, I7, r7, y7, st7, fr7⟩ => ?_
   have I7' := I7.pinned (stat fr7) (T.obj _ _ st7)
   refine thn (hg cl { s2 with heap := g3 } _ fp _ s7 τ H7 x u _ I7' r7 (step x H7 y7)) fun _ s8 ⟨τ8, H8, I8, q8⟩ => ?_
   refine thn (ht cl { s2 with heap := g3 } _ fp _ s8 τ8 H8 _ I8 q8) fun b s9 ⟨H9, I9, q9⟩ => ?_
   have again : ∀ {τ9 : St} {H9 : Hp} {s9 : Shared}, Inv (cxC X scope cl { s2 with heap := g3 } (upd H2 s2.heap.objs.size (.lst [])) fp) ([] ++ yJ fp s7.heap) τ9 H9 s9 -> N τ9 H9 ->
     ∃ m, m < n /\ ∃ i τ H', Inv (cxC X scope cl { s2 with heap := g3 } (upd H2 s2.heap.objs.size (.lst [])) fp) [] τ H' s9 /\ tn i s9.heap /\ (∀ b ∈ fp, H' b = none) /\ W i m τ H' := fun {τ9 H9 s9} I9 n9 => by
    obtain ⟨m', hm, w9⟩ := hN _ _ n9
    refine ⟨m', hm, i + 1, τ9, H9, I9.unpinned, T.keep _ _ _ st7 fun b hb o e => (I9.pin (b, o) (List.mem_append_right _ (List.mem_append_right _ (jA hb e)))).1, fun b hb => ?_, w9⟩
    obtain ⟨o, e, d⟩ := T.obj _ _ st7 b hb
    exact (I9.pin (b, o) (List.mem_append_right _ (List.mem_append_right _ (jA hb e)))).2.1
   cases b with
   | false =>
    rw [if_neg Bool.false_ne_true] at q9 ⊢
    exact again I9 q9
   | true =>
    rw [if_pos rfl] at q9 ⊢
    refine thn (he cl { s2 with heap := g3 } _ fp _ s9 τ8 H9 _ I9 q9) fun y s10 ⟨v, H10, I10, r10, ys, hys, hlen, n10⟩ => ?_
    exact thn (yU (X := cxC X scope cl { s2 with heap := g3 } (upd H2 s2.heap.objs.size (.lst [])) fp) _ s10 τ8 H10 (.ref s2.heap.objs.size) [v] (.ref s2.heap.objs.size) [y] (fun _ H11 => N τ8 H11) I10 rfl (.cons r10 .nil) ⟨_, ys, v, rfl, rfl, hys, hlen, n10⟩) fun _ s11 ⟨_, H11, I11, _, n11⟩ => again I11 n11
 have LW := loop (s2.toks + ([] : List (Str × Value)).length)
 exact codeAny_compStart_list LW (T.self _ 0 _ _ _ (T.keep _ _ _ st3 fun b _ o e => old b o e) LW)
end
end L2
set_option Elab.async false
set_option linter.all false
set_option maxRecDepth 100000
set_option maxHeartbeats 4000000
namespace L2
open PySem PySem.Spec PyProof.Rows
section
variable {X : Cx} {ts : List Nat} {scope : Scope} {tg iter elt : Expr} {ifs : List Expr} {wi : TI} {g : TG} {tt : TT} {te : TE} {pos : Pos}
theorem vS (hc : X.calm = true) (hsc : Vq X.N ts scope X.env.kindOf = true) (hi : PI X tg iter wi) (hg : ∀ cl s H fp, PG (cxC X scope cl s H fp) tg g) (ht : ∀ cl s H fp, PIf (cxC X scope cl s H fp) ifs tt) (he : ∀ cl s H fp, PE (cxC X scope cl s H fp) elt te)
  (hs : ∀ x, foldedSetIterable iter X.env x = pure x := by intro _; rfl) : PE X (.ListComp elt [⟨tg, iter, ifs, 0⟩] scope pos) (Zu ts wi g tt te) := by
 intro pins s σ H Q I h
 rw [eval_ListComp]
 refine Zc hc hsc hi hg ht he I h (use := none) (fun D C H' s' I' ⟨m, hn⟩ hC hL hce hsz hp hfs q => ⟨m, hn, fun h' hs' => ?_⟩) hs
 exact ⟨.ref D, H', I'.turned (t' := s'.toks) (it := C) (fun b o hb e => (hs'.2 b hb).trans e) hC hL (.inr hsz) hce hp, rfl, q⟩
theorem xR {j : Nat} {y : Str} {py spos : Pos} (hc : X.calm = true) (hN : X.N.Nodup) (hj : X.N[j]? = some y) (hy : Loc X.env.scope y) (hsc : Vq X.N ts scope X.env.kindOf = true) (hi : PI X tg iter wi) (hg : ∀ cl s H fp, PG (cxC X scope cl s H fp) tg g) (ht : ∀ cl s H fp, PIf (cxC X scope cl s H fp) ifs tt) (he : ∀ cl s H fp, PE (cxC X scope cl s H fp) elt te)
  (hsw : swapsWith (.ListComp elt [⟨tg, iter, ifs, 0⟩] scope pos) (some (.Name y py)) spos.line X.env = pure true := by rfl)
  (hs : ∀ x, foldedSetIterable iter X.env x = pure x := by intro _; rfl) (hf : X.fn y = true \/ X.env.scope.names.lookup y = some .local := by first | exact .inl rfl | exact .inr rfl | assumption) :
  PS X (.Assign [.Name y py] (.ListComp elt [⟨tg, iter, ifs, 0⟩] scope pos) spos) (JM (Zu ts wi g tt te) (wG j)) := by
 intro pins s σ H D I h
 rw [exec_Assign_Name_used _ _ _ _ hsw]
 refine wpAny_bind (wpAny_standAt (wpAny_bind ?_))
 show wpAny _ _ (do let _ <- comprehension (.ListComp elt [⟨tg, iter, ifs, 0⟩] scope pos) scope X.env _ (newList []) false (eval iter X.env) (some (assign (.Name y py) X.env))) _ _ s
 refine wpAny_bind (wpAny_mono (Zc hc hsc hi hg ht he I h (use := some (assign (.Name y py) X.env)) (Q' := fun _ s' => SP X pins D .next s') (fun D' C H' s' I' ⟨m, hn⟩ hC hL hce hsz hp hfs q => ?_) hs) (fun _ s' hq => wpAny_pure (wpAny_pure hq)) fun _ _ e => e)
 show wpAny _ _ (assign (.Name y py) X.env (.ref D')) _ _ _
 refine wpAny_assign_Name (vy (v := .ref D') I' hN hj hy rfl (fun s2 I2 ⟨a, hsb, ha⟩ => ?_) hf)
 have hCa : C ≠ a := by
  rcases ha with rfl | ha
  ·exact hL
  ·exact Ne.symm (hce y a ha)
 refine ⟨m, hn.sameBut hsb hCa, fun h' hs' => ?_⟩
 exact ⟨_, H', I2.turned (t' := s2.toks) (it := C) (fun b o hb e => (hs'.2 b hb).trans e) hC hL (.inr hsz) hce hp, q⟩
end
noncomputable def Ite (K : PySem.W.Frag) (a : Addr) : It :=
 ⟨fun i H => ∃ xs x, SqL K H a xs /\ xs[i]? = some x, fun i H y H' => ∃ p x, H p = none /\ y = .ref p /\ (∀ xs, SqL K H a xs -> xs[i]? = some x) /\ H' = upd H p (.tup [.int i, x]), fun i H => ∃ xs, SqL K H a xs /\ xs.length <= i⟩
theorem JX {P : Program} {w : World} {K : PySem.W.Frag} {es : List Expr} {kt : Nat} {tp : Pos} (a e it : Addr) (hei : e ≠ it) : Z0 P w K (.Tuple es kt tp) (Ite K a) [e, it] e (fun i h => (∃ old, IsEnum h e it (i : Nat) old) /\ h.IsListIter it a i) where
 mem := by simp
 obj := fun i h st b hb => by
  obtain ⟨⟨old, he⟩, ⟨o, e1, c, d⟩⟩ := st
  rcases List.mem_cons.mp hb with rfl | hb
  ·exact ⟨_, he, fun v z => by have z' : Data.fields _ = Data.cell v := z; cases z'⟩
  ·have e2 : b = it := by simpa using hb
   subst e2
   exact ⟨o, e1, fun v z => by rw [d] at z; cases z⟩
 keep := fun i h h' st k => by
  obtain ⟨⟨old, he⟩, st⟩ := st
  exact ⟨⟨old, k e (by simp) _ he⟩, st.at fun o e => k it (by simp) o e⟩
 item := by
  intro X hP hw hK hc i pins s σ H E I hf st hg
  subst hP hw hK
  obtain ⟨⟨old, he⟩, st⟩ := st
  obtain ⟨xs, x, hq, hx⟩ := hg
  obtain ⟨its, rv, p, hz⟩ := I.list hq
  obtain ⟨u, hu, ru⟩ := rv.get hx
  have fe := hf e (by simp)
  have fi := hf it (by simp)
  refine wpAny_pyNext_enum_item he st p.isList (x := u) (by simpa using hu) hei fun h1 heo hit1 ht1 hz1 hk1 => ?_
  refine ⟨.ref s.heap.objs.size, rfl, wpAny_letOwnedTupleGo_enum heo fun h2 he2 hs2 => ?_⟩
  replace hs2 : Heap.SameBut e h1 h2 := hs2
  have elt : e < s.heap.objs.size := Heap.lt_size he
  have hfr : H s.heap.objs.size = none := I.hok.fresh (Nat.le_refl _)
  have ht2 : h2.get? s.heap.objs.size = some { cls := .type "tuple", data := .seq #[.int i s.toks, u] } := (hs2.2 _ (Nat.ne_of_gt elt)).trans ht1
  have kk : ∀ b o, b ∉ [e, it] -> s.heap.get? b = some o -> h2.get? b = some o := fun b o hc q => by
   have n1 : b ≠ e := fun z => hc (by simp [z])
   have n2 : b ≠ it := fun z => hc (by simp [z])
   exact (hs2.2 b n1).trans (hk1 b o n1 n2 q)
  have nb : ∀ c v, H c = some v -> c ∉ [e, it] := fun c v z hm => by
   rcases List.mem_cons.mp hm with z' | z'
   ·rw [z', fe.1] at z; cases z
   ·have e2 : c = it := by simpa using z'
    rw [e2, fi.1] at z; cases z
  have I2 : Inv X pins σ (upd H s.heap.objs.size (.tup [.int i, x])) { s with heap := h2, toks := s.toks + 1 } := by
   refine I.step (g' := s.gens) (d' := s.drawn) (ch := [e, it]) (fun b hb => ?_) (fun b o _ _ hc q _ => kk b o hc q) (fun b o _ _ hc q _ => ⟨o.slots, kk b o hc q⟩) (fun b o _ q n => by rw [zg (Nat.ne_of_lt (Heap.lt_size q))]; exact n) (fun b o hc q => ⟨o, kk b o hc q⟩)
    (fun b xs q => by rw [zg (zk q hfr)]; exact q) (fun b o u q => by rw [zg (zk q hfr)]; exact q) (fun b ps q => ⟨#[], by rw [zg (zk q hfr), q]; simp⟩) (fun m hm => ?_) (fun b v q => ?_) I.bare
   ·rcases List.mem_cons.mp hb with z | hb
    ·rw [z]; exact ⟨fe.2.2.2.1, fe.2.1, fe.2.2.2.2.1, fe.2.2.2.2.2⟩
    ·have e2 : b = it := by simpa using hb
     rw [e2]; exact ⟨fi.2.2.2.1, fi.2.1, fi.2.2.2.2.1, fi.2.2.2.2.2⟩
   ·obtain ⟨o, es, ep, ho, r⟩ := hm
    exact ⟨o, es, ep, kk _ o (by simp [Ne.symm fe.2.1, Ne.symm fi.2.1]) ho, r⟩
   ·by_cases hb : b = s.heap.objs.size
    ·subst hb
     rw [ze] at q
     cases q
     exact ⟨by show 2 <= sizeLine; decide, [.int i s.toks, u], .cons ⟨_, rfl⟩ (.cons ru .nil), _, ht2, rfl, ⟨_, rfl⟩, rfl⟩
    ·rw [zg hb] at q
     refine (I.hok b v q).stay (fun c o hc q' => kk c o ?_ q') (fun c z => by rw [zg (zk z hfr)]; exact z) fun c xs z => by rw [zg (zk z hfr)]; exact z
     rcases hc with z | z
     ·rw [z]; exact nb b v q
     ·exact nb c _ z
  refine ⟨.ref s.heap.objs.size, _, I2, rfl, ⟨s.heap.objs.size, x, hfr, rfl, fun ys hy => by rw [I.list_inj hy hq]; exact hx, rfl⟩, ⟨⟨_, by simpa using he2⟩, hit1.extBut hs2.extBut (Ne.symm hei)⟩, fun b hb => ?_⟩
  have hlt : b < s.heap.objs.size := by
   rcases List.mem_cons.mp hb with rfl | hb
   ·exact elt
   ·have e2 : b = it := by simpa using hb
    subst e2
    obtain ⟨o, e1, _⟩ := st
    exact Heap.lt_size e1
  rw [zg (Nat.ne_of_lt hlt)]
  exact (hf b hb).1
 done := by
  intro X hP hw hK hc i pins s σ H E I hf st hg
  subst hP hw hK
  obtain ⟨⟨old, he⟩, st⟩ := st
  obtain ⟨xs, hq, hx⟩ := hg
  obtain ⟨its, rv, p, hz⟩ := I.list hq
  obtain ⟨f0, f1, f2, f3, f4, f5⟩ := hf it (by simp)
  have hl := rv.length
  exact wpAny_pyNext_enum_end (I.ok.hd hc) he st p.isList (by simp; omega) fun h' eb => ⟨rfl, I.turned (t' := s.toks) (fun b o hb e => eb b o hb e) f0 f1 f3 f4 f5⟩
 self := fun _ _ _ _ _ st h => by
  obtain ⟨⟨old, he⟩, _⟩ := st
  exact wpAny_pyIter_enum he h
end L2
set_option Elab.async false
set_option linter.all false
set_option maxRecDepth 100000
set_option maxHeartbeats 4000000
namespace L2
open PySem PySem.Spec PyProof.Rows
section
variable {X : Cx} {pins : List (Addr × Obj)} {σ : St} {H : Hp} {s : Shared}
theorem Inv.yieldTup {ch : List Addr} {h2 : Heap} {tk : Nat} {T : Addr} {xs : List V} {us : List Value} (I : Inv X pins σ H s) (hf : ∀ b ∈ ch, xO X pins H b) (kk : ∀ b o, b ∉ ch -> s.heap.get? b = some o -> h2.get? b = some o) (hT : s.heap.objs.size <= T)
  (ht2 : h2.get? T = some { cls := .type "tuple", data := .seq us.toArray }) (rv : zB xs us) (hz : xs.length <= sizeLine) : Inv X pins σ (upd H T (.tup xs)) { s with heap := h2, toks := tk } := by
 have hfr : H T = none := I.hok.fresh hT
 have nb : ∀ c v, H c = some v -> c ∉ ch := fun c v z hm => by rw [(hf c hm).1] at z; cases z
 refine I.step (g' := s.gens) (d' := s.drawn) (ch := ch) (fun b hb => ⟨(hf b hb).2.2.2.1, (hf b hb).2.1, (hf b hb).2.2.2.2.1, (hf b hb).2.2.2.2.2⟩) (fun b o _ _ hc q _ => kk b o hc q) (fun b o _ _ hc q _ => ⟨o.slots, kk b o hc q⟩)
  (fun b o _ q n => by rw [zg (Nat.ne_of_lt (Nat.lt_of_lt_of_le (Heap.lt_size q) hT))]; exact n) (fun b o hc q => ⟨o, kk b o hc q⟩)
  (fun b xs q => by rw [zg (zk q hfr)]; exact q) (fun b o u q => by rw [zg (zk q hfr)]; exact q) (fun b ps q => ⟨#[], by rw [zg (zk q hfr), q]; simp⟩) (fun m hm => ?_) (fun b v q => ?_) I.bare
 ·obtain ⟨o, es, ep, ho, r⟩ := hm
  exact ⟨o, es, ep, kk _ o (fun z => (hf _ z).2.1 rfl) ho, r⟩
 ·by_cases hb : b = T
  ·subst hb
   rw [ze] at q
   cases q
   exact ⟨hz, us, rv, _, ht2, rfl, ⟨_, rfl⟩, rfl⟩
  ·rw [zg hb] at q
   refine (I.hok b v q).stay (fun c o hc q' => kk c o ?_ q') (fun c z => by rw [zg (zk z hfr)]; exact z) fun c xs z => by rw [zg (zk z hfr)]; exact z
   rcases hc with z | z
   ·rw [z]; exact nb b v q
   ·exact nb c _ z
theorem Inv.turnedL {ch : List Addr} {h2 : Heap} {tk : Nat} (I : Inv X pins σ H s) (hf : ∀ b ∈ ch, xO X pins H b) (kk : ∀ b o, b ∉ ch -> s.heap.get? b = some o -> h2.get? b = some o) : Inv X pins σ H { s with heap := h2, toks := tk } := by
 have nb : ∀ c v, H c = some v -> c ∉ ch := fun c v z hm => by rw [(hf c hm).1] at z; cases z
 refine I.step (g' := s.gens) (d' := s.drawn) (ch := ch) (fun b hb => ⟨(hf b hb).2.2.2.1, (hf b hb).2.1, (hf b hb).2.2.2.2.1, (hf b hb).2.2.2.2.2⟩) (fun b o _ _ hc q _ => kk b o hc q) (fun b o _ _ hc q _ => ⟨o.slots, kk b o hc q⟩)
  (fun b o _ q n => n) (fun b o hc q => ⟨o, kk b o hc q⟩) (fun b xs q => q) (fun b o u q => q) (fun b ps q => ⟨#[], by rw [q]; simp⟩) (fun m hm => ?_) (fun b v q => ?_) I.bare
 ·obtain ⟨o, es, ep, ho, r⟩ := hm
  exact ⟨o, es, ep, kk _ o (fun z => (hf _ z).2.1 rfl) ho, r⟩
 ·refine (I.hok b v q).stay (fun c o hc q' => kk c o ?_ q') (fun c z => z) fun c xs z => z
  rcases hc with z | z
  ·rw [z]; exact nb b v q
  ·exact nb c _ z
end
noncomputable def Itz (K : PySem.W.Frag) (a b : Addr) : It :=
 ⟨fun i H => ∃ xs ys x y, SqL K H a xs /\ SqL K H b ys /\ xs[i]? = some x /\ ys[i]? = some y, fun i H z H' => ∃ p x y, H p = none /\ z = .ref p /\ (∀ xs, SqL K H a xs -> xs[i]? = some x) /\ (∀ ys, SqL K H b ys -> ys[i]? = some y) /\ H' = upd H p (.tup [x, y]),
  fun i H => ∃ xs ys, SqL K H a xs /\ SqL K H b ys /\ (xs.length <= i \/ ys.length <= i)⟩
theorem Vd {P : Program} {w : World} {K : PySem.W.Frag} {es : List Expr} {kt : Nat} {tp : Pos} (l1 l2 z TI TO i1 i2 : Addr) (D : ZipApart z TI TO i1 i2 l1 l2) :
  Z0 P w K (.Tuple es kt tp) (Itz K l1 l2) [z, TI, TO, i1, i2] z (fun i h => IsZip h z TI TO .none /\ IsPair h TI (.ref i1) (.ref i2) /\ (∃ a b, IsPair h TO a b) /\ h.IsListIter i1 l1 i /\ h.IsListIter i2 l2 i) where
 mem := by simp
 obj := fun i h st b hb => by
  obtain ⟨hz, hTI, ⟨a, c, hTO⟩, ⟨o1, e1, c1, d1⟩, ⟨o2, e2, c2, d2⟩⟩ := st
  simp only [List.mem_cons, List.not_mem_nil, or_false] at hb
  rcases hb with rfl | rfl | rfl | rfl | rfl
  ·exact ⟨_, hz, fun v q => by have q' : Data.fields _ = Data.cell v := q; cases q'⟩
  ·exact ⟨_, hTI, fun v q => by have q' : Data.seq _ _ = Data.cell v := q; cases q'⟩
  ·exact ⟨_, hTO, fun v q => by have q' : Data.seq _ _ = Data.cell v := q; cases q'⟩
  ·exact ⟨o1, e1, fun v q => by rw [d1] at q; cases q⟩
  ·exact ⟨o2, e2, fun v q => by rw [d2] at q; cases q⟩
 keep := fun i h h' st k => by
  obtain ⟨hz, hTI, ⟨a, c, hTO⟩, h1, h2⟩ := st
  exact ⟨k _ (by simp) _ hz, k _ (by simp) _ hTI, ⟨a, c, k _ (by simp) _ hTO⟩, h1.at fun o e => k _ (by simp) o e, h2.at fun o e => k _ (by simp) o e⟩
 item := by
  intro X hP hw hK hc i pins s σ H E I hf st hg
  subst hP hw hK
  obtain ⟨hz, hTI, ⟨a, c, hTO⟩, h1, h2⟩ := st
  obtain ⟨xs, ys, x, y, hq1, hq2, hx, hy⟩ := hg
  obtain ⟨its1, rv1, p1, hz1⟩ := I.list hq1
  obtain ⟨its2, rv2, p2, hz2⟩ := I.list hq2
  obtain ⟨u, hu, ru⟩ := rv1.get hx
  obtain ⟨v, hv, rvv⟩ := rv2.get hy
  refine wpAny_pyNext_zip_item D hz hTI hTO h1 h2 p1.isList p2.isList (x := u) (y := v) (by simpa using hu) (by simpa using hv) fun g1 b1 b2 b3 b4 b5 b6 hk => ?_
  refine ⟨.ref s.heap.objs.size, rfl, wpAny_letOwnedTupleGo_zip b1 fun g2 hz2' hs2 => ?_⟩
  replace hs2 : Heap.SameBut z g1 g2 := hs2
  have zlt : z < s.heap.objs.size := Heap.lt_size hz
  have I2 : Inv X pins σ (upd H s.heap.objs.size (.tup [x, y])) { s with heap := g2, toks := s.toks } := by
   refine I.yieldTup (us := [u, v]) hf (fun b o hb e => ?_) (Nat.le_refl _) ((hs2.2 _ (Nat.ne_of_gt zlt)).trans b5) (.cons ru (.cons rvv .nil)) (by show 2 <= sizeLine; decide)
   simp only [List.mem_cons, List.not_mem_nil, or_false, not_or] at hb
   exact (hs2.2 b hb.1).trans (hk b o hb.1 hb.2.2.1 hb.2.2.2.1 hb.2.2.2.2 e)
  refine ⟨.ref s.heap.objs.size, _, I2, rfl, ⟨s.heap.objs.size, x, y, I.hok.fresh (Nat.le_refl _), rfl, fun xs' h' => by rw [I.list_inj h' hq1]; exact hx, fun ys' h' => by rw [I.list_inj h' hq2]; exact hy, rfl⟩,
   ⟨hz2', (hs2.2 _ D.TIz).trans (hk _ _ D.TIz D.TITO D.TIi1 D.TIi2 hTI), ⟨_, _, (hs2.2 _ D.TOz).trans b2⟩, b3.extBut hs2.extBut D.i1z, b4.extBut hs2.extBut D.i2z⟩, fun b hb => ?_⟩
  have hlt : b < s.heap.objs.size := by
   simp only [List.mem_cons, List.not_mem_nil, or_false] at hb
   rcases hb with rfl | rfl | rfl | rfl | rfl
   ·exact zlt
   ·exact Heap.lt_size hTI
   ·exact Heap.lt_size hTO
   ·obtain ⟨o, e, _⟩ := h1; exact Heap.lt_size e
   ·obtain ⟨o, e, _⟩ := h2; exact Heap.lt_size e
  rw [zg (Nat.ne_of_lt hlt)]
  exact (hf b hb).1
 done := by
  intro X hP hw hK hc i pins s σ H E I hf st hg
  subst hP hw hK
  obtain ⟨hz, hTI, ⟨a, c, hTO⟩, h1, h2⟩ := st
  obtain ⟨xs, ys, hq1, hq2, hend⟩ := hg
  obtain ⟨its1, rv1, p1, hz1⟩ := I.list hq1
  obtain ⟨its2, rv2, p2, hz2⟩ := I.list hq2
  have l1 := rv1.length
  have l2 := rv2.length
  refine wpAny_pyNext_zip_end (I.ok.hd hc) D hz hTI hTO h1 h2 p1.isList p2.isList (by simp; omega) fun h' hk => ⟨rfl, I.turnedL (tk := s.toks) hf fun b o hb e => ?_⟩
  simp only [List.mem_cons, List.not_mem_nil, or_false, not_or] at hb
  exact hk b o hb.1 hb.2.2.1 hb.2.2.2.1 hb.2.2.2.2 e
 self := fun _ _ _ _ _ st h => wpAny_pyIter_zip st.1 h
theorem Qe : bootBuiltins "enumerate" = some (.type "enumerate") := by decide +kernel
theorem JD : bootBuiltins "zip" = some (.type "zip") := by decide +kernel
section
variable {X : Cx} {es : List Expr} {kt : Nat} {tp : Pos}
noncomputable def AX (K : PySem.W.Frag) (ta : TA) : TI := fun σ H R => ta σ H fun vs H1 => ∃ a, vs = [.ref a] /\ (∃ xs, SqL K H1 a xs) /\ R (Ite K a) H1
theorem V9 {e : Expr} {ta : TA} {p pos : Pos} (hg : Gl X "enumerate") (hm : X.mg "enumerate" = none) (ha : PA X [e] ta) (hs : starEach [e] X.env = [(false, eval e X.env)] := by rfl) :
  PI X (.Tuple es kt tp) (.Call (.Name "enumerate" p) [e] [] pos) (AX X.K ta) := by
 intro pins s σ H R I h
 refine Call_ (jq I hg hm (Qe) (PyProof.Rows.callWith_type1 (thn (ha pos pins s σ H _ I h) fun us s1 ⟨vs, H1, I1, r1, q1⟩ => ?_) hs rfl))
 obtain ⟨a, e, ⟨xs, hq⟩, q⟩ := q1
 subst e
 obtain ⟨u, rfl, ru⟩ := kg r1
 cases ru
 obtain ⟨its, rv, pl, hz⟩ := I1.list hq
 refine call_enumerate_list pl.isList fun h' he hit hsz hk => wpAny_pyIter_enum he ?_
 have I2 : Inv X pins σ H1 { s1 with heap := h' } := I1.kept (t' := s1.toks) hk
 refine ⟨s1.heap.objs.size + 1, [s1.heap.objs.size + 1, s1.heap.objs.size], _, _, H1, rfl, I2, JX a _ _ (Nat.succ_ne_self _), ⟨⟨_, he⟩, hit⟩, fun b hb => ?_, q⟩
 have hb' : s1.heap.objs.size <= b := by
  simp only [List.mem_cons, List.not_mem_nil, or_false] at hb
  rcases hb with rfl | rfl
  ·exact Nat.le_succ _
  ·exact Nat.le_refl _
 exact I1.fpOk hb' (I1.hok.fresh hb')
end
theorem X9 {K : PySem.W.Frag} {a : Addr} {xs : List V} {g : TG} {tb : TS} {D : jB} {σ : St} {H : Hp} (Pv : Nat -> St -> Hp -> Prop) (h0 : Pv 0 σ H) (hl : ∀ i σ H, i <= xs.length -> Pv i σ H -> SqL K H a xs)
  (hs : ∀ i x p σ H, xs[i]? = some x -> H p = none -> Pv i σ H -> g (.ref p) σ (upd H p (.tup [.int i, x])) fun σ2 H2 => tb { D with nx := Pv (i + 1), ct := Pv (i + 1), bk := D.nx } σ2 H2) (hd : ∀ σ H, Pv xs.length σ H -> D.nx σ H) :
  ∃ W : Nat -> Nat -> St -> Hp -> Prop, (∃ m, W 0 m σ H) /\ ∀ i m σ H, W i m σ H ->
   ((Ite K a).stop i H /\ D.nx σ H) \/ ((Ite K a).go i H /\ ∃ N : St -> Hp -> Prop, (∀ σ' H', N σ' H' -> ∃ m', m' < m /\ W (i + 1) m' σ' H') /\ ∀ x H', (Ite K a).yld i H x H' -> g x σ H' fun σ2 H2 => tb { D with nx := N, ct := N, bk := D.nx } σ2 H2) := by
 refine ⟨fun i m σ H => m = xs.length - i /\ i <= xs.length /\ Pv i σ H, ⟨xs.length, by simp, Nat.zero_le _, h0⟩, ?_⟩
 rintro i m σ H ⟨rfl, hi, p⟩
 have q := hl i σ H hi p
 by_cases hlt : i < xs.length
 ·refine .inr ⟨⟨xs, xs[i], q, by simp [hlt]⟩, Pv (i + 1), fun σ' H' p' => ⟨xs.length - (i + 1), by omega, rfl, hlt, p'⟩, fun x H' y => ?_⟩
  obtain ⟨pp, x', hp, rfl, y, rfl⟩ := y
  exact hs i x' pp σ _ (y xs q) hp p
 ·have e : i = xs.length := by omega
  subst e
  exact .inl ⟨⟨xs, q, Nat.le_refl _⟩, hd σ H p⟩
end L2
set_option Elab.async false
set_option linter.all false
set_option maxRecDepth 100000
set_option maxHeartbeats 4000000
namespace L2
open PySem PySem.Spec PyProof.Rows
noncomputable def wO (p : Addr) (a b c : Int) : HO := .ext fun h => ∃ t u v, h.get? p = some { cls := .type "range", data := .fields #[.int a t, .int b u, .int c v] }
theorem Em {P : Program} {w : World} {H : Hp} {h : Heap} {p : Addr} {a b c : Int} {t u v : Tok} (e : h.get? p = some { cls := .type "range", data := .fields #[.int a t, .int b u, .int c v] }) : zP P w H h p (wO p a b c) :=
 ⟨⟨t, u, v, e⟩, ⟨_, e⟩, fun h1 h2 ⟨t, u, v, q⟩ k => ⟨t, u, v, k _ q⟩⟩
noncomputable def qM (a c : Int) (n : Nat) : List Int := (List.range n).map fun (i : Nat) => a + (i : Int) * c
theorem jP (a c : Int) (n : Nat) : (qM a c n).length = n := by simp [qM]
theorem ZM {a c : Int} : ∀ {n : Nat} {acc : Array Value}, ItemsOf (fun (i : Nat) (v : Value) => ∃ t, v = Value.int (a + (i : Int) * c) t) acc n -> zB ((qM a c n).map V.int) acc.toList := by
 intro n acc ⟨hs, hi⟩
 have key : ∀ (k : Nat) (l : List Value), l.length = k -> (∀ (j : Nat) v, l[j]? = some v -> ∃ t, v = Value.int (a + (j : Int) * c) t) -> zB ((qM a c k).map V.int) l := by
  intro k
  induction k with
  | zero => intro l hl _; cases l with
   | nil => exact .nil
   | cons => simp at hl
  | succ k ih =>
   intro l hl hv
   obtain ⟨l', x, rfl⟩ : ∃ l' x, l = l' ++ [x] := ⟨l.dropLast, l.getLast (by intro e; rw [e] at hl; simp at hl), (List.dropLast_concat_getLast _).symm⟩
   have hl' : l'.length = k := by simpa using hl
   have e : (qM a c (k + 1)).map V.int = (qM a c k).map V.int ++ [.int (a + (k : Int) * c)] := by simp [qM, List.range_succ]
   rw [e]
   refine (ih l' hl' fun j v hj => hv j v ?_).append (.cons ?_ .nil)
   ·rw [List.getElem?_append_left (List.getElem?_eq_some_iff.mp hj).1]; exact hj
   ·obtain ⟨t, rfl⟩ := hv k x (by rw [List.getElem?_append_right (by omega), hl']; simp)
    exact ⟨t, rfl⟩
 exact key n acc.toList (by simpa using hs) fun j v hj => hi j v (by simpa using hj)
section
variable {X : Cx}
theorem xI : jg X (.type "range") (fun xs H Q => ∃ b : Int, xs = [.int b] /\ ∀ p, H p = none -> Q (.ref p) (upd H p (wO p 0 b 1))) := by
 intro pins s σ H xs us Q I r h
 obtain ⟨b, rfl, q⟩ := h
 obtain ⟨u, rfl, t, rfl⟩ := kg r
 refine call_range_1 ⟨.ref s.heap.objs.size, _, I.laid (fun b o e => Heap.get?_push_of_some _ e) (Nat.le_refl _) ?_, rfl, q _ (I.hok.fresh (Nat.le_refl _))⟩
 exact Em (Heap.get?_push_size _ rfl)
theorem kf (hc : X.calm = true) : jg X (.type "list") (fun xs H Q => ∃ p a b c n, xs = [.ref p] /\ H p = some (wO p a b c) /\ Builtin.Range.small a b c = true /\ Builtin.Range.rangeSize a b c = ((n : Nat) : Int) /\ n <= 100000 /\ ∀ l, H l = none -> Q (.ref l) (upd H l (.lst ((qM a c n).map V.int)))) := by
 intro pins s σ H xs us Q I r h
 obtain ⟨p, a, b, c, n, rfl, hp, hs, hn, hz, q⟩ := h
 obtain ⟨u, rfl, rx⟩ := kg r
 cases rx
 obtain ⟨⟨t, u, v, e⟩, _⟩ := (show zP X.prog X.w H s.heap p (wO p a b c) from I.hok _ _ hp)
 refine call_list_range (I.ok.hd hc) e hs hn (Nat.le_trans hz (by decide)) fun h' tk acc c' hk he hi => ?_
 refine ⟨.ref s.heap.objs.size, _, I.laid hk (Nat.le_refl _) (show zP X.prog X.w _ h' _ (.lst ((qM a c n).map V.int)) from ⟨?_, acc.toList, c', ZM hi, by simpa using he⟩), rfl, q _ (I.hok.fresh (Nat.le_refl _))⟩
 rw [List.length_map, jP]
 exact Nat.le_trans hz (by decide)
end
end L2
set_option Elab.async false
set_option linter.all false
set_option maxRecDepth 100000
set_option maxHeartbeats 4000000
namespace L2
open PySem PySem.Spec PyProof.Rows
section
variable {X : Cx}
noncomputable def FA (K : PySem.W.Frag) (f : Bool -> Bool) : R2 := fun x y H Q => ∃ p q ns ms, x = .ref p /\ y = .ref q /\ SqL K H p (List.map V.int ns) /\ SqL K H q (List.map V.int ms) /\ Q (.bl (f (decide (ns = ms)))) H
theorem wk (hu : X.A.units + 64 < cLine) : OpR X (compareOp .NotEq) (FA X.K not) := by
 intro pins s σ H x y v u Q I rx ry h
 obtain ⟨p, q, ns, ms, rfl, rfl, h1, h2, k⟩ := h
 cases rx
 cases ry
 obtain ⟨us, r1, p1, z1⟩ := I.list h1
 obtain ⟨ws, r2, p2, z2⟩ := I.list h2
 exact PySem.W.ke_ne_ints p1.isList p2.isList (yq r1) (yq r2) hu ⟨.bl _, H, I, rfl, k⟩
noncomputable def isT (t c : String) : Option Bool := if (Value.type t == Value.type c) = true then some true else if PySem.W.kitMeta c = true then (fastBuiltinMro t).map (·.contains (Value.type c)) else none
theorem Ju (K : PySem.W.Frag) (t c : String) : PySem.W.kitOne K (.type t) (.type c) = isT t c := rfl
noncomputable def yK (t : String) : List String -> Option Bool
 | [] => some false
 | c :: r => match isT t c with
  | some true => some true
  | some false => yK t r
  | none => none
theorem wA (K : PySem.W.Frag) (t : String) : ∀ cs : List String, PySem.W.kitAny K (.type t) (cs.map Value.type) = yK t cs
 | [] => rfl
 | c :: r => by
  show (match PySem.W.kitOne K (.type t) (.type c) with | some true => some true | some false => PySem.W.kitAny K (.type t) (r.map Value.type) | none => none) = _
  rw [Ju, wA K t r]; rfl
theorem zN : jg X (.builtin "isinstance") (fun xs H Q => ∃ x t c b, xs = [x, .ty c] /\ jM X.K H x (.type t) /\ isT t c = some b /\ Q (.bl b) H) := by
 intro pins s σ H xs us Q I r h
 obtain ⟨x, t, c, b, rfl, ty, e, q⟩ := h
 obtain ⟨u, v, rfl, ru, rv⟩ := wL r
 cases rv
 exact Kr I ru ty (by rw [Ju]; exact e) fun tk => ⟨.bl b, H, I.tok _, rfl, q⟩
theorem Zi : ∀ {cs : List String} {us : List Value}, zB (cs.map V.ty) us -> us = cs.map Value.type
 | [], _, .nil => rfl
 | c :: cs, _, .cons r t => by rw [Zi t]; cases r; rfl
theorem J0 : jg X (.builtin "isinstance") (fun xs H Q => ∃ x t p cs b, xs = [x, .ref p] /\ H p = some (.tup (List.map V.ty cs)) /\ jM X.K H x (.type t) /\ yK t cs = some b /\ Q (.bl b) H) := by
 intro pins s σ H xs us Q I r h
 obtain ⟨x, t, p, cs, b, rfl, hp, ty, e, q⟩ := h
 obtain ⟨u, v, rfl, rx, rv⟩ := wL r
 cases rv
 obtain ⟨_, its, rt, o, ho, hc, ⟨n, hd⟩, _⟩ := (show zP X.prog X.w H s.heap p (.tup (List.map V.ty cs)) from I.hok _ _ hp)
 obtain ⟨oc, od, odt, osl⟩ := o
 simp only at hc hd
 subst hc hd
 have e' : PySem.W.kitAny X.K (.type t) its = some b := by rw [Zi rt, wA]; exact e
 have fin : ∀ tk, EP X pins σ Q (.bool b) { s with toks := tk } := fun tk => ⟨.bl b, H, I.tok _, rfl, q⟩
 cases ty with
 | non => cases (show u = Value.none from rx); exact PySem.W.kia_tup PySem.W.kitx_none I.kIn True.intro ho e' (fun z => nomatch z) fin
 | bl y => cases (show u = Value.bool y from rx); exact PySem.W.kia_tup PySem.W.kitx_bool I.kIn True.intro ho e' (fun z => nomatch z) fin
 | int i => obtain ⟨t, q⟩ := (show ∃ t, u = Value.int i t from rx); cases q; exact PySem.W.kia_tup PySem.W.kitx_int I.kIn True.intro ho e' (fun z => nomatch z) fin
 | str y => obtain ⟨t, q⟩ := (show ∃ t, u = Value.str y t from rx); cases q; exact PySem.W.kia_tup PySem.W.kitx_str I.kIn True.intro ho e' (fun z => nomatch z) fin
 | flt y => obtain ⟨t, q⟩ := (show ∃ t, u = Value.float y t from rx); cases q; exact PySem.W.kia_tup PySem.W.kitx_float I.kIn True.intro ho e' (fun z => nomatch z) fin
 | @lst a xs ea =>
  cases (show u = Value.ref a from rx)
  obtain ⟨_, _, n, _, h1⟩ := (show zP X.prog X.w H s.heap a (.lst xs) from I.hok a _ ea)
  exact PySem.W.kia_tup PySem.W.kitx_list I.kIn ⟨_, h1, rfl⟩ ho e' (fun z => nomatch z) fin
 | @frz a ob xs ea =>
  cases (show u = Value.ref a from rx)
  obtain ⟨_, _, _, n, _, h1⟩ := (show zP X.prog X.w H s.heap a (.frz ob (.lst xs)) from I.hok a _ ea)
  exact PySem.W.kia_tup PySem.W.kitx_list I.kIn ⟨_, h1, rfl⟩ ho e' (fun z => nomatch z) fin
 | @tup a xs ea =>
  cases (show u = Value.ref a from rx)
  obtain ⟨_, _, _, p⟩ := (show zP X.prog X.w H s.heap a (.tup xs) from I.hok a _ ea)
  obtain ⟨o, h1, h2, _⟩ := p
  exact PySem.W.kia_tup PySem.W.kitx_tuple I.kIn ⟨o, h1, h2⟩ ho e' (fun z => nomatch z) fin
 | @dK a kvs ea =>
  cases (show u = Value.ref a from rx)
  obtain ⟨_, _, vs, _, p⟩ := (show zP X.prog X.w H s.heap a (.dK kvs) from I.hok a _ ea)
  obtain ⟨o, es, ep, h1, h2, _⟩ := p
  exact PySem.W.kia_tup PySem.W.kitx_dict I.kIn ⟨o, h1, h2.1⟩ ho e' (fun z => nomatch z) fin
 | @dT a kvs ea =>
  cases (show u = Value.ref a from rx)
  obtain ⟨_, _, xs, _, o, es, ep, h1, h2, _⟩ := (show zP X.prog X.w H s.heap a (.dT kvs) from I.hok a _ ea)
  exact PySem.W.kia_tup PySem.W.kitx_dict I.kIn ⟨o, h1, h2.1⟩ ho e' (fun z => nomatch z) fin
theorem Z2 {lo : Int} {n : Nat} {g : TG} {tt : TT} {te : TE} {Q : VK} {τ : St} {H1 : Hp} {D : Addr} (Pv : Nat -> St -> Hp -> Prop) (h0 : Pv 0 τ (upd H1 D (.lst [])))
  (hs : ∀ i τ H, i < n -> Pv i τ H -> g (.int (lo + i)) τ H fun τ2 H3 => tt τ2 H3 fun b H4 => if b = true then te τ2 H4 fun v H5 => ∃ ys, H5 D = some (.lst ys) /\ ys.length < sizeLine /\ Pv (i + 1) τ2 (upd H5 D (.lst (ys ++ [v]))) else Pv (i + 1) τ2 H4)
  (hd : ∀ τ H, Pv n τ H -> Q (.ref D) H) :
  ∃ W : Nat -> Nat -> St -> Hp -> Prop, (∃ m, W 0 m τ (upd H1 D (.lst []))) /\ ∀ i m τ H2, W i m τ H2 ->
   ((Itr lo n).stop i H2 /\ Q (.ref D) H2) \/ ((Itr lo n).go i H2 /\ ∃ N : St -> Hp -> Prop, (∀ τ' H', N τ' H' -> ∃ m', m' < m /\ W (i + 1) m' τ' H') /\ ∀ x H', (Itr lo n).yld i H2 x H' -> g x τ H' fun τ2 H3 => tt τ2 H3 fun b H4 =>
    if b = true then te τ2 H4 fun v H5 => ∃ ys, H5 D = some (.lst ys) /\ ys.length < sizeLine /\ N τ2 (upd H5 D (.lst (ys ++ [v]))) else N τ2 H4) := by
 refine ⟨fun i m τ H => m = n - i /\ i <= n /\ Pv i τ H, ⟨n, by simp, Nat.zero_le _, h0⟩, ?_⟩
 rintro i m τ H ⟨rfl, hi, p⟩
 by_cases hlt : i < n
 ·refine .inr ⟨hlt, Pv (i + 1), fun σ' H' p' => ⟨n - (i + 1), by omega, rfl, hlt, p'⟩, fun x H' y => ?_⟩
  obtain ⟨e, y⟩ := y
  subst e y
  exact hs i τ _ hlt p
 ·have e : i = n := by omega
  subst e
  exact .inl ⟨Nat.le_refl _, hd τ H p⟩
end
end L2
set_option Elab.async false
set_option linter.all false
set_option maxRecDepth 100000
set_option maxHeartbeats 4000000
namespace L2
open PySem PySem.Spec PyProof.Rows
noncomputable def At (K : PySem.W.Frag) (mg : Str -> Option Value) (x : Str) (st : Stmt) : Prop := ∃ f fd, Fun K x x st f fd /\ mg x = some (.ref f)
noncomputable def Df (P : Program) (w : World) (K : PySem.W.Frag) (mg : Str -> Option Value) (base : Heap) (x : Str) (ps : List Str) (k : Nat) (sp : Sp) : Prop :=
 ∃ f fd, qT P w K mg base CX0 k f fd ps sp /\ ja K fd ps [] /\ PySem.W.keepIn K (.ref f) = true /\ mg x = some (.ref f) /\ ∃ oc od osl, K.lookup f = some ⟨oc, od, .func fd, osl⟩
theorem Df.mono {P : Program} {w : World} {K : PySem.W.Frag} {mg : Str -> Option Value} {base : Heap} {x : Str} {ps : List Str} {j k : Nat} {sp : Sp} (D : Df P w K mg base x ps j sp) (h : j <= k) : Df P w K mg base x ps k sp :=
 let ⟨f, fd, F, r⟩ := D
 ⟨f, fd, F.mono h, r⟩
section
variable {X : Cx} {k : Nat} {x : Str} {ps : List Str} {sp : Sp} {p pos : Pos} {e : Expr} {es : List Expr} {t : TA}
theorem zX (D : Df X.prog X.w X.K X.mg X.base x ps k sp) (hr : qg k X.A) (hg : Gl X x) (ha : PA X (e :: es) t) (hdb : (x == ("__debug__" : Str)) = false := by decide)
  (he : starEach (e :: es) X.env = (false, eval e X.env) :: starEach es X.env := by rfl) (hpl : (backTo pos (starEach es X.env)).any (·.1) = false := by rfl) : PE X (.Call (.Name x p) (e :: es) [] pos) (Q0 sp [] E0 t) := by
 obtain ⟨f, fd, F, b, kp, m, _⟩ := D
 exact Ai F hr hg m kp b .nil Ja ha hdb he hpl
end
theorem xJ {P : Program} {w : World} {K : PySem.W.Frag} {mg : Str -> Option Value} {base : Heap} {x : Str} {st : Stmt} {N ps : List Str} {k : Nat} {sp : Sp} (a : At K mg x st) (S : zy N ps (zi st))
  (hb : ∀ (kV doc pm : Value) (an : Option Addr) (cdv ct : Value) (us : List Value), us.length = ps.length -> bindArgs (PySem.W.fnOf x x (qt st) (zO st) (zi st) .none kV doc pm an cdv ct) ⟨us, []⟩ = pure (ps.zip us))
  (len : ∀ vs H Q E, sp vs H Q E -> vs.length = ps.length)
  (hbody : ∀ (f : Addr) (cdv : Value) (A : Around) (outer : List Env) (s : Shared) (H : Hp) (vs : List V) (Q : VK) (E : XK), qg k (A.deeper (envOfC x (zi st) s.heap.objs.size f cdv)) -> sp vs H Q E ->
   ∃ t, PSs (j9 CX0 P w K mg base N x (zi st) f cdv A outer s H E).nox (zO st) t /\ t { nx := fun _ H' => Q .non H', rt := Q } (qF N vs) H) : Df P w K mg base x ps (k + 1) sp := by
 obtain ⟨f, fd, F, m⟩ := a
 obtain ⟨oc, od, kV, doc, pm, an, cdv, ct, osl, _, lk, _⟩ := id F.ex
 exact ⟨f, fd, F.ok S len fun cdv A outer s H vs Q E => hbody f cdv A outer s H vs Q E, F.binds hb, F.kp, m, oc, od, osl, lk⟩
theorem at_mk {K : PySem.W.Frag} {mg : Str -> Option Value} {h : Heap} {x : Str} {st : Stmt} {f : Addr} {oc : Value} {od an : Option Addr} {osl : Array (Option Value)} {kV doc pm cdv ct : Value} (X : K.In h) (G : h.Ns mainGlobals mg) (a : PySem.W.nsIn K mainGlobals x = some (some (.ref f)))
  (l : K.lookup f = some ⟨oc, od, .func (PySem.W.fnOf x x (qt st) (zO st) (zi st) .none kV doc pm an cdv ct), osl⟩) (c : PySem.W.codeIn K cdv x = true) (k : PySem.W.keepIn K (.ref f) = true) : At K mg x st := ⟨f, _, fun_mk l c k, PySem.W.mg_of X G a⟩
theorem Df.fn {P : Program} {w : World} {K : PySem.W.Frag} {mg : Str -> Option Value} {base : Heap} {x : Str} {ps : List Str} {k : Nat} {sp : Sp} {f : Addr} {fd : FuncData} {oc : Value} {od : Option Addr} {osl : Array (Option Value)} (D : Df P w K mg base x ps k sp) (m : mg x = some (.ref f)) (l : K.lookup f = some ⟨oc, od, .func fd, osl⟩) : qT P w K mg base CX0 k f fd ps sp := by
 obtain ⟨f', fd', F, _, _, m', oc', od', osl', l'⟩ := D
 rw [m] at m'
 cases m'
 rw [l] at l'
 cases l'
 exact F
structure Blt (mg : Str -> Option Value) : Prop where
 len : mg "len" = none
 range : mg "range" = none
 list : mg "list" = none
 tuple : mg "tuple" = none
 int : mg "int" = none
 bool : mg "bool" = none
 str : mg "str" = none
 abs : mg "abs" = none
 divmod : mg "divmod" = none
 enumerate : mg "enumerate" = none
 zip : mg "zip" = none
 sorted : mg "sorted" = none
 max : mg "max" = none
 min : mg "min" = none
 isinstance : mg "isinstance" = none
 all : mg "all" = none
theorem blt_mk {K : PySem.W.Frag} {mg : Str -> Option Value} {h : Heap} (X : K.In h) (G : h.Ns mainGlobals mg) (z1 : PySem.W.nsIn K mainGlobals "len" = some none) (z2 : PySem.W.nsIn K mainGlobals "range" = some none) (z3 : PySem.W.nsIn K mainGlobals "list" = some none) (z4 : PySem.W.nsIn K mainGlobals "tuple" = some none) (z5 : PySem.W.nsIn K mainGlobals "int" = some none) (z6 : PySem.W.nsIn K mainGlobals "bool" = some none) (z7 : PySem.W.nsIn K mainGlobals "str" = some none) (z8 : PySem.W.nsIn K mainGlobals "abs" = some none)
  (z9 : PySem.W.nsIn K mainGlobals "divmod" = some none) (z10 : PySem.W.nsIn K mainGlobals "enumerate" = some none) (z11 : PySem.W.nsIn K mainGlobals "zip" = some none) (z12 : PySem.W.nsIn K mainGlobals "sorted" = some none) (z13 : PySem.W.nsIn K mainGlobals "max" = some none) (z14 : PySem.W.nsIn K mainGlobals "min" = some none) (z15 : PySem.W.nsIn K mainGlobals "isinstance" = some none) (z16 : PySem.W.nsIn K mainGlobals "all" = some none) : Blt mg :=
 ⟨PySem.W.mg_none_of X G z1, PySem.W.mg_none_of X G z2, PySem.W.mg_none_of X G z3, PySem.W.mg_none_of X G z4, PySem.W.mg_none_of X G z5, PySem.W.mg_none_of X G z6, PySem.W.mg_none_of X G z7, PySem.W.mg_none_of X G z8, PySem.W.mg_none_of X G z9, PySem.W.mg_none_of X G z10, PySem.W.mg_none_of X G z11, PySem.W.mg_none_of X G z12, PySem.W.mg_none_of X G z13, PySem.W.mg_none_of X G z14, PySem.W.mg_none_of X G z15, PySem.W.mg_none_of X G z16⟩
theorem zq : bootBuiltins "isinstance" = some (.builtin "isinstance") := by decide +kernel
theorem Ys : bootBuiltins "abs" = some (.builtin "abs") := by decide +kernel
theorem Kl : bootBuiltins "divmod" = some (.builtin "divmod") := by decide +kernel
theorem K2 : bootBuiltins "max" = some (.builtin "max") := by decide +kernel
theorem qb : bootBuiltins "len" = some (.builtin "len") := by decide +kernel
theorem jH : bootBuiltins "list" = some (.type "list") := by decide +kernel
theorem qL : bootBuiltins "tuple" = some (.type "tuple") := by decide +kernel
theorem kz : bootBuiltins "int" = some (.type "int") := by decide +kernel
theorem xX : bootBuiltins "bool" = some (.type "bool") := by decide +kernel
theorem yj : bootBuiltins "str" = some (.type "str") := by decide +kernel
theorem wV : bootBuiltins "range" = some (.type "range") := by decide +kernel
noncomputable def Kp (bs : List Addr) (H H' : Hp) : Prop := ∀ c o, c ∉ bs -> H c = some o -> H' c = some o
theorem Kp.refl {bs : List Addr} {H : Hp} : Kp bs H H := fun _ _ _ h => h
theorem Kp.trans {bs : List Addr} {H H1 H2 : Hp} (a : Kp bs H H1) (b : Kp bs H1 H2) : Kp bs H H2 := fun c o n h => b c o n (a c o n h)
theorem Kp.new {bs : List Addr} {H : Hp} {p : Addr} (o : HO) (h : H p = none) : Kp bs H (upd H p o) := fun c u _ q => by rw [zg (zk q h)]; exact q
theorem Kp.set {bs : List Addr} {H : Hp} {p : Addr} (o : HO) (h : p ∈ bs) : Kp bs H (upd H p o) := fun c u n q => by have hne : c ≠ p := (fun e => n (by rw [e]; exact h)); rw [zg hne]; exact q
theorem Kp.mono {bs bs' : List Addr} {H H' : Hp} (a : Kp bs H H') (h : ∀ b ∈ bs, b ∈ bs') : Kp bs' H H' := fun c o n q => a c o (fun z => n (h c z)) q
theorem Kp.free {H H' : Hp} (e : Kp [] H H') {l : Addr} (h : H' l = Option.none) : H l = Option.none := by
 cases q : H l with
 | none => rfl
 | some o => rw [e l o (by simp) q] at h; cases h
noncomputable def Bx (H : Hp) (b : Addr) (N : Nat) : Prop := ∃ x y z : Int, H b = some (.lst [.int x, .int y, .int z]) /\ 0 <= x /\ 0 <= y /\ y < 2147483648 /\ 0 <= z /\ z <= N
noncomputable abbrev il (ns : List Int) : HO := .lst (ns.map V.int)
end L2
set_option Elab.async false
set_option linter.all false
set_option maxRecDepth 100000
set_option maxHeartbeats 4000000
namespace L2
open PySem PySem.Spec PyProof.Rows
theorem cxK {CX : CXT} {P : Program} {w : World} {K : PySem.W.Frag} {mg : Str -> Option Value} {base : Heap} {N : List Str} {qual : Str} {scope : Scope} {f : Addr} {cd : Value} {A : Around} {outer : List Env} {s : Shared} {H : Hp} {E : XK} :
  (j9 CX P w K mg base N qual scope f cd A outer s H E).K = K := rfl
noncomputable def Fj (J : It) (g : TG) (tb : TS) (D : jB) (σ : St) (H : Hp) : Prop := ∃ W : Nat -> Nat -> St -> Hp -> Prop, (∃ m, W 0 m σ H) /\ ∀ i m σ H, W i m σ H ->
 (J.stop i H /\ D.nx σ H) \/ (J.go i H /\ ∃ N : St -> Hp -> Prop, (∀ σ' H', N σ' H' -> ∃ m', m' < m /\ W (i + 1) m' σ' H') /\ ∀ x H', J.yld i H x H' -> g x σ H' fun σ2 H2 => tb { D with nx := N, ct := N, bk := D.nx } σ2 H2)
theorem QZ {wi : TI} {g : TG} {tb : TS} {D : jB} {σ : St} {H : Hp} : Dj wi g tb D σ H = wi σ H (fun J H1 => Fj J g tb D σ H1) := rfl
noncomputable def AC (J : It) (g : TG) (tt : TT) (te : TE) (D : Addr) (Q : VK) (τ : St) (H : Hp) : Prop := ∃ W : Nat -> Nat -> St -> Hp -> Prop, (∃ m, W 0 m τ H) /\ ∀ i m τ H2, W i m τ H2 ->
 (J.stop i H2 /\ Q (.ref D) H2) \/ (J.go i H2 /\ ∃ N : St -> Hp -> Prop, (∀ τ' H', N τ' H' -> ∃ m', m' < m /\ W (i + 1) m' τ' H') /\ ∀ x H', J.yld i H2 x H' -> g x τ H' fun τ2 H3 => tt τ2 H3 fun b H4 =>
  if b = true then te τ2 H4 fun v H5 => ∃ ys, H5 D = some (.lst ys) /\ ys.length < sizeLine /\ N τ2 (upd H5 D (.lst (ys ++ [v]))) else N τ2 H4)
theorem Yj {ts : List Nat} {wi : TI} {g : TG} {tt : TT} {te : TE} {σ : St} {H : Hp} {Q : VK} :
  Zu ts wi g tt te σ H Q = wi σ H (fun J H1 => ∀ D, H1 D = none -> AC J g tt te D Q (clr ts σ) (upd H1 D (.lst []))) := rfl
theorem VS {K : PySem.W.Frag} {a : Addr} {xs : List V} {g : TG} {tb : TS} {D : jB} {σ : St} {H : Hp} (Pv : Nat -> St -> Hp -> Prop) (h0 : Pv 0 σ H) (hl : ∀ i σ H, i <= xs.length -> Pv i σ H -> SqL K H a xs)
  (hs : ∀ i x p σ H, xs[i]? = some x -> H p = none -> Pv i σ H -> g (.ref p) σ (upd H p (.tup [.int i, x])) fun σ2 H2 => tb { D with nx := Pv (i + 1), ct := Pv (i + 1), bk := D.nx } σ2 H2) (hd : ∀ σ H, Pv xs.length σ H -> D.nx σ H) : Fj (Ite K a) g tb D σ H := X9 Pv h0 hl hs hd
theorem Zv {lo : Int} {n : Nat} {g : TG} {tt : TT} {te : TE} {Q : VK} {τ : St} {H1 : Hp} {D : Addr} (Pv : Nat -> St -> Hp -> Prop) (h0 : Pv 0 τ (upd H1 D (.lst [])))
  (hs : ∀ i τ H, i < n -> Pv i τ H -> g (.int (lo + i)) τ H fun τ2 H3 => tt τ2 H3 fun b H4 => if b = true then te τ2 H4 fun v H5 => ∃ ys, H5 D = some (.lst ys) /\ ys.length < sizeLine /\ Pv (i + 1) τ2 (upd H5 D (.lst (ys ++ [v]))) else Pv (i + 1) τ2 H4)
  (hd : ∀ τ H, Pv n τ H -> Q (.ref D) H) : AC (Itr lo n) g tt te D Q τ (upd H1 D (.lst [])) := Z2 Pv h0 hs hd
noncomputable def XO (i j k : Nat) (ta : TA) : TS := fun D σ H => ta σ H fun vs H1 => ∃ v w x, vs = [v, w, x] /\ D.nx (((σ.set i (some v)).set j (some w)).set k (some x)) H1
theorem W5 {X : Cx} {pos : Pos} {i j k : Nat} {x y z : Str} {a b c : Expr} {ta : TA} {px py pz pt : Pos} {kt k2 pt2} (hc : X.calm = true) (hN : X.N.Nodup) (hi : X.N[i]? = some x) (hj : X.N[j]? = some y) (hk : X.N[k]? = some z) (hij : i ≠ j) (hik : i ≠ k) (hjk : j ≠ k)
  (hx : X.env.scope.names.lookup x = some .local) (hy : X.env.scope.names.lookup y = some .local) (hz : X.env.scope.names.lookup z = some .local) (ha : PA X [a, b, c] ta)
  (hw : swappedStores [.Tuple [.Name x px, .Name y py, .Name z pz] kt pt] (.Tuple [a, b, c] k2 pt2) X.env = pure (some [x, y, z]))
  (hs : swapsWithSole [.Tuple [.Name x px, .Name y py, .Name z pz] kt pt] (.Tuple [a, b, c] k2 pt2) pos.line X.env = pure false := by rfl) :
  PS X (.Assign [.Tuple [.Name x px, .Name y py, .Name z pz] kt pt] (.Tuple [a, b, c] k2 pt2) pos) (XO i j k ta) := by
 intro pins s σ H D I h
 rw [exec_Assign_arm]
 refine wpAny_bind (wpAny_standAt ?_)
 rw [hs]
 refine wpAny_bind (wpAny_pure ?_)
 rw [if_neg (by decide)]
 refine wpAny_bind (Tuple_ (thn (ha _ pins s σ H _ I h) fun us s1 ⟨vs, H1, I1, r1, q1⟩ => ?_))
 obtain ⟨v, w, v3, e1, q1⟩ := q1
 subst e1
 obtain ⟨u1, u2, u3, rfl, rv, rw', r3⟩ : ∃ u1 u2 u3, us = [u1, u2, u3] /\ zA v u1 /\ zA w u2 /\ zA v3 u3 := by
  cases r1 with
  | cons p q =>
   cases q with
   | cons p' q' =>
    cases q' with
    | cons p'' q'' =>
     cases q''
     exact ⟨_, _, _, rfl, p, p', p''⟩
 refine wpAny_newObj_type ?_ (by show 3 <= sizeLine; decide)
 have I2 : Inv X pins σ H1 { s1 with heap := s1.heap.push { cls := .type "tuple", data := .seq [u1, u2, u3].toArray } } := I1.kept (t' := s1.toks) fun b o e => Heap.get?_push_of_some _ e
 rw [hw]
 refine wpAny_bind (wpAny_pure ?_)
 show wpAny (model X.prog X.w) X.A (do rule "assign.swapped-stores"; let items <- unpackItems (.ref s1.heap.objs.size) 3 none; assignInOrder [fun v => bindName X.env z v, fun v => bindName X.env y v, fun v => bindName X.env x v] items.reverse; pure Flow.next) _ _ _
 refine wpAny_bind (wpAny_rule (wpAny_bind (unpackItems_tuple (items := #[u1, u2, u3]) (I.ok.hd hc) (IsTup.new s1.heap _) fun h' hx' => ?_)))
 have I3 := I2.kept (h' := h') (t' := s1.toks) fun b o e => hx' b o (Nat.ne_of_lt (Heap.lt_size e)) e
 show wpAny _ _ (assignInOrder [fun v => bindName X.env z v, fun v => bindName X.env y v, fun v => bindName X.env x v] [u3, u2, u1] >>= fun _ => pure Flow.next) _ _ _
 refine wpAny_bind (assignInOrder_cons (wpAny_bindName (qS I3 hN hk (.inl hz) r3 (fun s2 I4 => ?_) (.inr hz))))
 refine assignInOrder_cons (wpAny_bindName (qS I4 hN hj (.inl hy) rw' (fun s3 I5 => ?_) (.inr hy)))
 refine assignInOrder_cons (wpAny_bindName (qS I5 hN hi (.inl hx) rv (fun s4 I6 => assignInOrder_nil (wpAny_pure ?_)) (.inr hx)))
 rw [List.set_comm _ _ (Ne.symm hij), List.set_comm _ _ (Ne.symm hik), List.set_comm _ _ (Ne.symm hjk)] at I6
 refine ⟨_, H1, ?_, q1⟩
 first | exact I6 | (rw [List.set_comm _ _ hij] at I6; exact I6) | (have e : ∀ τ : St, ((τ.set k (some v3)).set j (some w)).set i (some v) = ((τ.set i (some v)).set j (some w)).set k (some v3) := fun τ => by rw [List.set_comm _ _ (Ne.symm hij), List.set_comm _ _ (Ne.symm hik), List.set_comm _ _ (Ne.symm hjk)]; exact I6)
end L2
set_option Elab.async false
set_option linter.all false
set_option maxRecDepth 100000
set_option maxHeartbeats 4000000
namespace L2
open PySem PySem.Spec PyProof.Rows
noncomputable def Qo : List Expr -> Option (List Int)
 | [] => some []
 | .Constant (.int i) _ _ :: r => (Qo r).map (i :: ·)
 | _ => none
noncomputable def AM (is : List Int) : TA := fun _ H Q => Q (is.map V.int) H
theorem QS {X : Cx} : ∀ {es : List Expr} {is : List Int}, Qo es = some is -> PA X es (AM is)
 | [], is, h => by
  cases (show some [] = some is from h)
  exact zb
 | .Constant (.int i) k p :: r, is, h => by
  obtain ⟨js, e, rfl⟩ := Option.map_eq_some_iff.mp (show (Qo r).map (i :: ·) = some is from h)
  exact za (te := tC (.int i)) zd (QS e)
theorem jZ {X : Cx} : jg X (.type "int") (fun xs H Q => ∃ k, xs = [.bl k] /\ Q (.int (if k then 1 else 0)) H) := by
 intro pins s σ H xs us Q I r h
 exact J8 pins s σ H xs us Q I r (.inr h)
theorem Bx.mono {H : Hp} {b : Addr} {N M : Nat} (h : Bx H b N) (le : N <= M) : Bx H b M := let ⟨x, y, z, h1, h2, h3, h4, h5, h6⟩ := h; ⟨x, y, z, h1, h2, h3, h4, h5, by omega⟩
theorem Bx.new {H : Hp} {b p : Addr} {N : Nat} {o : HO} (h : Bx H b N) (hp : H p = none) : Bx (upd H p o) b N := let ⟨x, y, z, h1, r⟩ := h; ⟨x, y, z, (zg (zk h1 hp)).trans h1, r⟩
theorem Bx.kp {H H' : Hp} {b : Addr} {N : Nat} (h : Bx H b N) (k : Kp [] H H') : Bx H' b N := let ⟨x, y, z, h1, r⟩ := h; ⟨x, y, z, k _ _ (by simp) h1, r⟩
end L2
set_option Elab.async false
set_option linter.all false
set_option maxRecDepth 100000
set_option maxHeartbeats 4000000
namespace L2
open PySem PySem.Spec PyProof.Rows
theorem Kp.drop1 {bs : List Addr} {H H' : Hp} {p : Addr} {o : HO} (hp : H p = none) (k : Kp (p :: bs) (upd H p o) H') : Kp bs H H' := fun c u n h => by
 have hne : c ≠ p := zk h hp
 refine k c u ?_ ((zg hne).trans h)
 intro hm
 rcases List.mem_cons.mp hm with e | e
 ·exact hne e
 ·exact n e
theorem Bx.ne {H : Hp} {b p : Addr} {N : Nat} (h : Bx H b N) (hp : H p = none) : b ≠ p := let ⟨_, _, _, h1, _⟩ := h; zk h1 hp
noncomputable def Qw : V -> V -> V -> Hp -> (Hp -> Prop) -> Prop := fun o i v H Q => ∃ k, i = .int k /\ ∃ p, o = .ref p /\ ∃ xs, H p = some (.lst xs) /\ ∃ j, ixN xs.length k = some j /\ Q (upd H p (.lst (xs.set j v)))
section
variable {X : Cx}
theorem xx : MtR X "list.append" wg := yU
theorem jk {es : List Expr} {k : Nat} {t : TGs} {pos : Pos} {K : PySem.W.Frag} (n : Nat) (h : X.K = K) (hc : X.calm = true) (hs : PGs X es t) (hn : (assignEach es X.env).length = n := by rfl) (hst : (assignEach es X.env).findIdx? (·.1) = none := by rfl) : PG X (.Tuple es k pos) (Wd K n t) := h ▸ Da hc hs hn hst
theorem zE : W3 X Qw := by
 intro pins s σ H o i v ov iv u Q I ro ri rv h
 obtain ⟨k, e1, p, e2, xs, h1, j, h2, q⟩ := h
 exact Xb pins s σ H o i v ov iv u Q I ro ri rv ⟨p, xs, k, j, e2, e1, h1, h2, q⟩
theorem wu {K : PySem.W.Frag} (h : X.K = K) : IxR X (Yd K) := h ▸ zH
end
end L2
set_option Elab.async false
set_option linter.all false
set_option maxRecDepth 100000
set_option maxHeartbeats 4000000
namespace L2
open PySem PySem.Spec PyProof.Rows
end L2
set_option Elab.async false
set_option linter.all false
set_option maxRecDepth 100000
set_option maxHeartbeats 4000000
namespace L2
open PySem PySem.Spec PyProof.Rows
section
variable {X : Cx}
noncomputable def Jr (K : PySem.W.Frag) : R2 := fun x y H Q => ∃ p xs i v, x = .ref p /\ y = .int i /\ (SqL K H p xs \/ SqT K H p xs) /\ atI xs i = some v /\ Q v H
theorem z0 : IxR X (Jr X.K) := by
 intro value slice pins s σ H x y v u Q I rx ry h hs
 obtain ⟨p, xs, i, z, e1, e2, hq | hq, he, q⟩ := h
 ·exact zH value slice pins s σ H x y v u Q I rx ry ⟨p, xs, i, z, e1, e2, hq, he, q⟩ hs
 ·exact qE value slice pins s σ H x y v u Q I rx ry ⟨p, xs, i, z, e1, e2, hq, he, q⟩ hs
theorem Xz {K : PySem.W.Frag} (h : X.K = K) : IxR X (Jr K) := h ▸ z0
theorem Vm : bootBuiltins "all" = some (.builtin "all") := by decide +kernel
theorem yM : ∀ {bs : List Bool} {us : List Value}, zB (bs.map V.bl) us -> us = bs.map Value.bool
 | [], _, h => by cases h; rfl
 | b :: bs, _, h => by
  cases h with
  | cons r rs => cases r; rw [yM rs]; rfl
theorem Z9 (bs : List Bool) : ((List.range bs.length).all fun i => (bs[i]?).getD true) = bs.all id := by
 rw [Bool.eq_iff_iff, List.all_eq_true, List.all_eq_true]
 constructor
 ·intro h x hx
  obtain ⟨i, hi, rfl⟩ := List.getElem_of_mem hx
  have := h i (by simpa using hi)
  simpa [List.getElem?_eq_getElem hi] using this
 ·intro h i hi
  have hi' : i < bs.length := by simpa using hi
  simpa [List.getElem?_eq_getElem hi'] using h bs[i] (List.getElem_mem hi')
theorem y8 (hc : X.calm = true) : jg X (.builtin "all") (fun xs H Q => ∃ p bs, xs = [.ref p] /\ SqL X.K H p (List.map V.bl bs) /\ Q (.bl (bs.all id)) H) := by
  intro pins s σ H xs us Q I r h
  obtain ⟨p, bs, rfl, hq, q⟩ := h
  obtain ⟨u, rfl, rx⟩ := kg r
  cases rx
  obtain ⟨its, rv, pl, hz⟩ := I.list hq
  have hu := yM rv
  subst hu
  have hlt : p < s.heap.objs.size := by obtain ⟨_, e, _⟩ := pl.isList; exact Heap.lt_size e
  refine call_all_walk (wpAny_pyIter_list pl.isList ?_)
  refine ⟨s.heap.objs.size, [s.heap.objs.size, p], [s.heap.objs.size], (bs.map Value.bool).toArray.size, _, _, fun i => (bs[i]?).getD true, rfl, Walks.list (A := X.A.in1) (I.ok.hd hc) _ p (Nat.ne_of_lt hlt) (bs.map Value.bool).toArray,
    ⟨⟨_, Heap.get?_push_size _ rfl, rfl, rfl⟩, pl.isList.push _⟩, fun i v s' Q' E' hP hQ => ?_, fun h' tk hk => ?_⟩
  · have hP' : (bs.map Value.bool)[i]? = some v := by simpa using hP
    rw [List.getElem?_map] at hP'
    cases e : bs[i]? with
    | none => rw [e] at hP'; cases hP'
    | some b =>
      rw [e] at hP'
      cases hP'
      simp only [e, Option.getD_some] at hQ
      exact wpAny_truthy_bool hQ
  · have e : ((List.range (bs.map Value.bool).toArray.size).all fun i => (bs[i]?).getD true) = bs.all id := by
      rw [List.size_toArray, List.length_map]; exact Z9 bs
    rw [e]
    refine ⟨.bl (bs.all id), H, I.turnedL (ch := []) (tk := tk) (fun b hb => nomatch hb) (fun b o _ eb => ?_), rfl, q⟩
    exact hk b o (fun hm => by rw [List.mem_singleton.mp hm] at eb; exact Nat.lt_irrefl _ (Heap.lt_size eb)) (Heap.get?_push_of_some _ eb)
end
end L2
set_option Elab.async false
set_option linter.all false
set_option maxRecDepth 100000
set_option maxHeartbeats 4000000
namespace L2
open PySem PySem.Spec PyProof.Rows
end L2
set_option Elab.async false
set_option linter.all false
set_option maxRecDepth 100000
set_option maxHeartbeats 4000000
namespace L2
open PySem PySem.Spec PyProof.Rows
end L2
set_option Elab.async false
set_option linter.all false
set_option maxRecDepth 100000
set_option maxHeartbeats 4000000
namespace L2
open PySem PySem.Spec PyProof.Rows
section
variable {P : Program} {w : World} {A : Around} {E : Value -> Shared -> Prop} {s : Shared} {j t : Addr} {i : Nat} {its : Array Value} {Q : Value -> Shared -> Prop}
theorem kI {x : Value} (hj : s.heap.IsTupleIter j t i) (ht : s.heap.IsTuple t its) (hx : its[i]? = some x) (hQ : ∀ h', h'.IsTupleIter j t (i + 1) -> Heap.SameBut j s.heap h' -> Q x { s with heap := h' }) : wpAny (model P w) A (Builtin.SmallTypes.nextOf (.ref j)) Q E s := by
 obtain ⟨o, ho, hc, hd⟩ := id hj
 obtain ⟨ot, hot, _, nt, hdt⟩ := ht
 unfold Builtin.SmallTypes.nextOf
 refine wpAny_bind (wpAny_callSpecial?_slot (name := Str.ofString "__next__") hj.typeIs F.slot_tuple_iterator_next (wpAny_call_entry F.slot_tuple_iterator_next hj.typeIs F.entry_tuple_iterator_next ?_ (F.args_tuple_iterator_next_1 _)))
 refine wpAny_bind (m := field (.ref j) 0) (wpAny_field ho hd (x := .ref t) rfl ?_); show wpAny _ _ (if (Value.ref t == Value.none) = true then _ else _) _ _ s; rw [if_neg (show ¬ ((Value.ref t == Value.none) = true) from Bool.false_ne_true)]
 refine wpAny_bind (m := field (.ref j) 1) (wpAny_field ho hd (x := .int i 0) rfl ?_); refine wpAny_bind (m := seqItems? (.ref t)) (wpAny_seqItems hot hdt ?_); simp only [Int.toNat_natCast, hx]
 refine wpAny_bind (wpAny_setField ho hd (by simp) (wpAny_pure ⟨x, rfl, wpAny_pure (hQ _ ⟨_, Heap.get?_update_self _ ho (Obj.isFreed_of_fields (Obj.data_mapFields hd _)), (Obj.cls_mapFields ..).trans hc, by rw [Obj.data_mapFields hd]; simp [rawInt]⟩ (Heap.SameBut.update ..))⟩))
theorem wW (hh : A.handled = none) (hj : s.heap.IsTupleIter j t i) (ht : s.heap.IsTuple t its) (hx : its[i]? = none) (hE : ∀ h' e, Heap.ExtBut j s.heap h' -> (∃ o, h'.get? e = some o /\ o.cls = .type "StopIteration") -> E (.ref e) { s with heap := h' }) : wpAny (model P w) A (Builtin.SmallTypes.nextOf (.ref j)) Q E s := by
 obtain ⟨o, ho, hc, hd⟩ := id hj
 obtain ⟨ot, hot, _, nt, hdt⟩ := ht
 unfold Builtin.SmallTypes.nextOf
 refine wpAny_bind (wpAny_callSpecial?_slot (name := Str.ofString "__next__") hj.typeIs F.slot_tuple_iterator_next (wpAny_call_entry F.slot_tuple_iterator_next hj.typeIs F.entry_tuple_iterator_next ?_ (F.args_tuple_iterator_next_1 _)))
 refine wpAny_bind (m := field (.ref j) 0) (wpAny_field ho hd (x := .ref t) rfl ?_); show wpAny _ _ (if (Value.ref t == Value.none) = true then _ else _) _ _ s; rw [if_neg (show ¬ ((Value.ref t == Value.none) = true) from Bool.false_ne_true)]
 refine wpAny_bind (m := field (.ref j) 1) (wpAny_field ho hd (x := .int i 0) rfl ?_); refine wpAny_bind (m := seqItems? (.ref t)) (wpAny_seqItems hot hdt ?_); simp only [Int.toNat_natCast, hx]
 refine wpAny_bind (wpAny_rule (wpAny_bind (wpAny_setField ho hd (by simp) ?_))); refine wpAny_bind (m := newExc (.type "StopIteration") []) ?_; simp only [newExc, newTuple]; refine wpAny_bind (wpAny_newObj_type ?_ (by size_fits)); refine wpAny_bind (m := firstArgMember _ _) (wpAny_of_eq (a := Value.none) (by first | rfl | (simp only [firstArgMember]; rfl)) ?_); refine wpAny_newObj_type ?_ (by size_fits); simp only [raiseNew]; refine wpAny_bind (wpAny_handled ?_)
 (first | rw [show A.in1.handled = none from hh] | rw [hh]); refine wpAny_bind (wpAny_pure (wpAny_throw ?_)); exact hE _ _ (((Heap.SameBut.update ..).extBut.push _).push _) ⟨_, Heap.get?_push_size _ rfl, rfl⟩
end
open AutoSeq1 (wpAny_loadPart') in
section
variable {X : Cx} {es : List Expr} {kt : Nat} {tp : Pos}
end
end L2
set_option Elab.async false
set_option linter.all false
set_option maxRecDepth 100000
set_option maxHeartbeats 4000000
namespace L2
open PySem PySem.Spec PyProof.Rows
noncomputable def MR (r : R2) : Prop := ∀ x y H Q Q', (∀ z H1, Q z H1 -> Q' z H1) -> r x y H Q -> r x y H Q'
end L2
set_option Elab.async false
set_option linter.all false
set_option maxRecDepth 100000
set_option maxHeartbeats 4000000
namespace L2
open PySem PySem.Spec PyProof.Rows
end L2
set_option Elab.async false
set_option linter.all false
set_option maxRecDepth 100000
set_option maxHeartbeats 4000000
namespace L2
open PySem PySem.Spec PyProof.Rows
end L2
set_option Elab.async false
set_option linter.all false
set_option maxRecDepth 100000
set_option maxHeartbeats 4000000
namespace L2
open PySem PySem.Spec PyProof.Rows
noncomputable def iLT (K : PySem.W.Frag) (tl : TE) : TI := fun σ H R => tl σ H fun x H1 => ∃ a, x = .ref a /\ (((∃ xs, SqL K H1 a xs) /\ R (Itl K a) H1) \/ ((∃ xs, SqT K H1 a xs) /\ R (Itt K a) H1))
theorem vj {X : Cx} {tg : Expr} {l : Expr} {tl : TE} (hl : PE X l tl) : PI X tg l (iLT X.K tl) := by
 intro pins s σ H R I h
 refine thn (hl pins s σ H _ I h) fun v s1 ⟨x, H1, I1, r1, q1⟩ => ?_
 obtain ⟨a, e, q⟩ := q1
 subst e
 cases r1
 have fo : ∀ b ∈ [s1.heap.objs.size], xO X pins H1 b := fun b hb => by
  have e : b = s1.heap.objs.size := by simpa using hb
  subst e
  exact I1.fpOk (Nat.le_refl _) (I1.hok.fresh (Nat.le_refl _))
 rcases q with ⟨⟨xs, hq⟩, q⟩ | ⟨⟨xs, hq⟩, q⟩
 ·obtain ⟨its, rv, p, hz⟩ := I1.list hq
  refine wpAny_pyIter_list p.isList ?_
  exact ⟨s1.heap.objs.size, [s1.heap.objs.size], _, _, H1, rfl, I1.kept (t' := s1.toks) fun b o e => Heap.get?_push_of_some _ e, J9 a _, ⟨_, Heap.get?_push_size _ rfl, rfl, rfl⟩, fo, q⟩
 ·obtain ⟨its, rv, p, hz⟩ := I1.tuple hq
  refine wpAny_pyIter_tuple (show s1.heap.IsTuple a its.toArray from p) ?_
  exact ⟨s1.heap.objs.size, [s1.heap.objs.size], _, _, H1, rfl, I1.kept (t' := s1.toks) fun b o e => Heap.get?_push_of_some _ e, ZN a _, ⟨_, Heap.get?_push_size _ rfl, rfl, rfl⟩, fo, q⟩
end L2
set_option Elab.async false
set_option linter.all false
set_option maxRecDepth 100000
set_option maxHeartbeats 4000000
namespace L2
open PySem PySem.Spec PyProof.Rows
end L2
set_option Elab.async false
set_option linter.all false
set_option maxRecDepth 100000
set_option maxHeartbeats 4000000
namespace L2
open PySem PySem.Spec PyProof.Rows
section
variable {X : Cx}
end
end L2
set_option Elab.async false
set_option linter.all false
set_option maxRecDepth 100000
set_option maxHeartbeats 4000000
namespace L2
open PySem PySem.Spec PyProof.Rows
noncomputable def tfs (ps : List (Addr × List V)) : List V := ps.map fun r => V.ref r.1
section
variable {X : Cx}
end
end L2
set_option Elab.async false
set_option linter.all false
set_option maxRecDepth 100000
set_option maxHeartbeats 4000000
namespace L2
open PySem PySem.Spec PyProof.Rows
end L2
set_option Elab.async false
set_option linter.all false
set_option maxRecDepth 100000
set_option maxHeartbeats 4000000
namespace L2
open PySem PySem.Spec PyProof.Rows
section
variable {prog : Program} {w : World} {A : Around} {R : Result -> Shared -> Prop} {s : Shared}
end
noncomputable def CL (J : It) (g : TG) (tt : TT) (tr : St -> Hp -> (St -> Hp -> Prop) -> Prop) (N : St -> Hp -> Prop) (σ : St) (H : Hp) : Prop := ∃ W : Nat -> Nat -> St -> Hp -> Prop, (∃ m, W 0 m σ H) /\ ∀ i m τ H2, W i m τ H2 ->
 (J.stop i H2 /\ N τ H2) \/ (J.go i H2 /\ ∃ N1 : St -> Hp -> Prop, (∀ τ' H', N1 τ' H' -> ∃ m', m' < m /\ W (i + 1) m' τ' H') /\ ∀ x H', J.yld i H2 x H' -> g x τ H' fun τ2 H3 => tt τ2 H3 fun b H4 =>
  if b = true then tr τ2 H4 N1 else N1 τ2 H4)
noncomputable abbrev TR := St -> Hp -> (St -> Hp -> Prop) -> Prop
noncomputable def Qf (te : TE) (D : Addr) : TR := fun σ H N => te σ H fun v H5 => ∃ ys, H5 D = some (.lst ys) /\ ys.length < sizeLine /\ N σ (upd H5 D (.lst (ys ++ [v])))
noncomputable def BB (wi : TI) (g : TG) (tt : TT) (tr : Addr -> TR) (D : Addr) : TR := fun σ H N => wi σ H fun J H1 => CL J g tt (tr D) N σ H1
section
variable {C : Cx} {elt tg iter : Expr} {ifs : List Expr} {gens : List Comprehension} {scope : Scope} {pos : Pos} {d : Nat} {D : Addr} {g : TG} {tt : TT} {te : TE} {tr : TR}
end
noncomputable def Xc (ts : List Nat) (wi : TI) (g : TG) (tt : TT) (tr : Addr -> TR) : TE := fun σ H Q => wi σ H fun J H1 => ∀ D, H1 D = none -> CL J g tt (tr D) (fun _ H2 => Q (.ref D) H2) (clr ts σ) (upd H1 D (.lst []))
section
variable {X : Cx} {ts : List Nat} {scope : Scope} {tg iter elt : Expr} {ifs : List Expr} {qm : List Comprehension} {wi : TI} {g : TG} {tt : TT} {tr : Addr -> TR} {pos : Pos}
end
theorem JK {ts : List Nat} {wi : TI} {g : TG} {tt : TT} {tr : Addr -> TR} {σ : St} {H : Hp} {Q : VK} :
  Xc ts wi g tt tr σ H Q = wi σ H (fun J H1 => ∀ D, H1 D = none -> CL J g tt (tr D) (fun _ H2 => Q (.ref D) H2) (clr ts σ) (upd H1 D (.lst []))) := rfl
theorem JG {wi : TI} {g : TG} {tt : TT} {tr : Addr -> TR} {D : Addr} {σ : St} {H : Hp} {N : St -> Hp -> Prop} : BB wi g tt tr D σ H N = wi σ H (fun J H1 => CL J g tt (tr D) N σ H1) := rfl
theorem Kg {te : TE} {D : Addr} {σ : St} {H : Hp} {N : St -> Hp -> Prop} : Qf te D σ H N = te σ H (fun v H5 => ∃ ys, H5 D = some (.lst ys) /\ ys.length < sizeLine /\ N σ (upd H5 D (.lst (ys ++ [v])))) := rfl
end L2
set_option Elab.async false
set_option linter.all false
set_option maxRecDepth 100000
set_option maxHeartbeats 4000000
namespace L2
open PySem PySem.Spec PyProof.Rows
section
variable {P : Program} {w : World} {A : Around} {E : Value -> Shared -> Prop} {it l : Addr} {items : Array Value}
end
section
variable {X : Cx} {pos : Pos}
end
end L2
set_option Elab.async false
set_option linter.all false
set_option maxRecDepth 100000
set_option maxHeartbeats 4000000
namespace L2
open PySem PySem.Spec PyProof.Rows
noncomputable def rep (o : Nat) (G : List Int) : List Int := (List.range (o * G.length)).map fun (i : Nat) => ((i / G.length * G.length : Nat) : Int) + G.getD (i % G.length) 0
end L2
set_option Elab.async false
set_option linter.all false
set_option maxRecDepth 100000
set_option maxHeartbeats 4000000
namespace L2
open PySem PySem.Spec PyProof.Rows
section
variable {P : Program} {w : World} {A : Around} {E : Value -> Shared -> Prop} {s : Shared} {z TI TO i1 i2 l1 l2 : Addr} {k : Nat} {xs ys : Array Value} {x y a b : Value} {Q : Option Value -> Shared -> Prop}
theorem JL (D : ZipApart z TI TO i1 i2 l1 l2) (hz : IsZip s.heap z TI TO .none) (hTI : IsPair s.heap TI (.ref i1) (.ref i2)) (hTO : IsPair s.heap TO a b) (h1 : s.heap.IsTupleIter i1 l1 k) (h2 : s.heap.IsTupleIter i2 l2 k) (p1 : s.heap.IsTuple l1 xs) (p2 : s.heap.IsTuple l2 ys) (hx : xs[k]? = some x) (hy : ys[k]? = some y)
  (hQ : ∀ h', IsZip h' z TI TO (rawInt s.heap.objs.size) -> IsPair h' TO x y -> h'.IsTupleIter i1 l1 (k + 1) -> h'.IsTupleIter i2 l2 (k + 1) -> IsPair h' s.heap.objs.size x y -> h'.objs.size = s.heap.objs.size + 1 -> (∀ c o, c ≠ z -> c ≠ TO -> c ≠ i1 -> c ≠ i2 -> s.heap.get? c = some o -> h'.get? c = some o) -> Q (some (.ref s.heap.objs.size)) { s with heap := h' }) :
  wpAny (model P w) A (pyNext (.ref z)) Q E s := by
 have hT : s.TypeIs (.ref z) "zip" := ⟨_, hz, rfl⟩
 unfold pyNext
 refine wpAny_bind (wpAny_attempt (wpAny_callSpecial?_slot (name := Str.ofString "__next__") hT F.slot_zip_next (wpAny_call_entry F.slot_zip_next hT F.entry_zip_next ?_ (F.args_zip_next_1 _))))
 refine wpAny_bind (m := field (.ref z) 2) (wpAny_field hz rfl (x := .bool false) rfl ?_)
 refine wpAny_bind (m := field (.ref z) 3) (wpAny_field hz rfl (x := .ref TI) rfl ?_)
 refine wpAny_bind (m := seqItems? (.ref TI)) (wpAny_seqItems hTI rfl ?_)
 refine wpAny_bind (m := Builtin.SmallTypes.ownedTupleIsFree (.ref z)) ?_
 unfold Builtin.SmallTypes.ownedTupleIsFree
 refine wpAny_bind (wpAny_field hz rfl (x := .none) rfl (wpAny_pure ?_))
 refine wpAny_bind (m := rule "zip.__next__.owned-tuple-again") (wpAny_rule ?_)
 refine wpAny_bind (m := field (.ref z) 4) (wpAny_field hz rfl (x := .ref TO) rfl ?_)
 refine wpAny_bind (m := setField (.ref z) 0 .ellipsis) (wpAny_setField hz rfl (by simp) ?_)
 have sb1 := Heap.SameBut.update s.heap z (Obj.mapFields fun x_1 => x_1.setIfInBounds 0 Value.ellipsis)
 have g1 : (s.heap.update z (Obj.mapFields fun x_1 => x_1.setIfInBounds 0 Value.ellipsis)).get? z = some { cls := Value.type "zip", data := Data.fields #[.ellipsis, Value.bool false, Value.bool false, Value.ref TI, Value.ref TO] } := Heap.get?_update_self _ hz (Obj.isFreed_of_fields (Obj.data_mapFields rfl _))
 generalize s.heap.update z (Obj.mapFields fun x_1 => x_1.setIfInBounds 0 Value.ellipsis) = h1' at *
 refine wpAny_bind ?_
 rw [show (#[Value.ref i1, Value.ref i2].toList.zipIdx : List (Value × Nat)) = [(.ref i1, 0), (.ref i2, 1)] from rfl, List.forIn_cons]
 dsimp only
 have it1 : h1'.IsTupleIter i1 l1 k := by obtain ⟨o, ho, r⟩ := h1; exact ⟨o, (sb1.2 i1 D.i1z).trans ho, r⟩
 have tp1 : h1'.IsTuple l1 xs := by obtain ⟨o, ho, r⟩ := p1; exact ⟨o, (sb1.2 l1 D.l1z).trans ho, r⟩
 refine wpAny_bind (wpAny_bind (wpAny_onRaise ?_))
 show wpAny _ _ (Builtin.SmallTypes.nextOf (.ref i1) >>= fun v => pure (some v)) _ _ _
 refine wpAny_bind (kI it1 tp1 hx fun h2' it2 sb2 => wpAny_pure ?_)
 dsimp only
 have gTO2 : IsPair h2' TO a b := ((sb2.2 TO D.TOi1).trans (sb1.2 TO D.TOz)).trans hTO
 refine wpAny_bind (wpAny_seqItems gTO2 rfl ?_)
 dsimp only
 refine wpAny_bind (wpAny_updateSeq_pair gTO2 fun h3' g3 sb3 => ?_)
 refine wpAny_bind (wpAny_letGo (wpAny_pure ?_))
 dsimp only
 have g3' : IsPair h3' TO x b := g3
 have it3 : h3'.IsTupleIter i2 l2 k := by obtain ⟨o, ho, r⟩ := h2; exact ⟨o, (((sb3.2 i2 (Ne.symm D.TOi2)).trans (sb2.2 i2 (Ne.symm D.i12))).trans (sb1.2 i2 D.i2z)).trans ho, r⟩
 have tp3 : h3'.IsTuple l2 ys := by obtain ⟨o, ho, r⟩ := p2; exact ⟨o, (((sb3.2 l2 D.l2TO).trans (sb2.2 l2 D.l2i1)).trans (sb1.2 l2 D.l2z)).trans ho, r⟩
 rw [List.forIn_cons]
 refine wpAny_bind (wpAny_bind (wpAny_onRaise ?_))
 show wpAny _ _ (Builtin.SmallTypes.nextOf (.ref i2) >>= fun v => pure (some v)) _ _ _
 refine wpAny_bind (kI it3 tp3 hy fun h4' it4 sb4 => wpAny_pure ?_)
 dsimp only
 have gTO4 : IsPair h4' TO x b := (sb4.2 TO D.TOi2).trans g3'
 refine wpAny_bind (wpAny_seqItems gTO4 rfl ?_)
 dsimp only
 refine wpAny_bind (wpAny_updateSeq_pair gTO4 fun h5' g5 sb5 => ?_)
 refine wpAny_bind (wpAny_letGo (wpAny_pure ?_))
 dsimp only
 have g5' : IsPair h5' TO x y := g5
 rw [List.forIn_nil]
 refine wpAny_pure ?_
 dsimp only
 refine wpAny_bind (wpAny_seqItems g5' rfl ?_)
 dsimp only
 have sz5 : h5'.objs.size = s.heap.objs.size := ((((sb5.1).trans sb4.1).trans sb3.1).trans sb2.1).trans sb1.1
 refine wpAny_bind (wpAny_newTuple ?_ (by show 2 <= sizeLine; decide))
 have gz5 : h5'.get? z = some { cls := Value.type "zip", data := Data.fields #[.ellipsis, Value.bool false, Value.bool false, Value.ref TI, Value.ref TO] } := ((((sb5.2 z (Ne.symm D.TOz)).trans (sb4.2 z (Ne.symm D.i2z))).trans (sb3.2 z (Ne.symm D.TOz))).trans (sb2.2 z (Ne.symm D.i1z))).trans g1
 have zlt : z < h5'.objs.size := Heap.lt_size gz5
 have g6 : (h5'.push { cls := Value.type "tuple", data := Data.seq #[x, y] }).get? z = _ := Heap.get?_push_of_some _ gz5
 have n6 : (h5'.push { cls := Value.type "tuple", data := Data.seq #[x, y] }).get? h5'.objs.size = some { cls := Value.type "tuple", data := Data.seq #[x, y] } := Heap.get?_push_size _ rfl
 have ex6 : ∀ c o, h5'.get? c = some o -> (h5'.push { cls := Value.type "tuple", data := Data.seq #[x, y] }).get? c = some o := fun c o e => Heap.get?_push_of_some _ e
 have sz6 : (h5'.push { cls := Value.type "tuple", data := Data.seq #[x, y] }).objs.size = h5'.objs.size + 1 := Heap.size_push ..
 show wpAny _ _ (Builtin.SmallTypes.ownedTupleHandOut (.ref z) (.ref h5'.objs.size) >>= _) _ _ { s with heap := h5'.push { cls := Value.type "tuple", data := Data.seq #[x, y] } }
 generalize h5'.push { cls := Value.type "tuple", data := Data.seq #[x, y] } = h6' at *
 unfold Builtin.SmallTypes.ownedTupleHandOut
 refine wpAny_bind (wpAny_bind (wpAny_setField g6 rfl (by simp) (wpAny_setField (Heap.get?_update_self _ g6 (Obj.isFreed_of_fields (Obj.data_mapFields rfl _))) rfl (by simp) ?_)))
 have sb7 := Heap.SameBut.update h6' z (Obj.mapFields fun x_1 => x_1.setIfInBounds 0 (rawInt h5'.objs.size))
 have g7 : (h6'.update z (Obj.mapFields fun x_1 => x_1.setIfInBounds 0 (rawInt h5'.objs.size))).get? z = some { cls := Value.type "zip", data := Data.fields #[rawInt h5'.objs.size, Value.bool false, Value.bool false, Value.ref TI, Value.ref TO] } := Heap.get?_update_self _ g6 (Obj.isFreed_of_fields (Obj.data_mapFields rfl _))
 dsimp only
 generalize h6'.update z (Obj.mapFields fun x_1 => x_1.setIfInBounds 0 (rawInt h5'.objs.size)) = h7' at *
 have sb8 := Heap.SameBut.update h7' z (Obj.mapFields fun x_1 => x_1.setIfInBounds 1 (Value.bool false))
 have g8 : (h7'.update z (Obj.mapFields fun x_1 => x_1.setIfInBounds 1 (Value.bool false))).get? z = some { cls := Value.type "zip", data := Data.fields #[rawInt h5'.objs.size, Value.bool false, Value.bool false, Value.ref TI, Value.ref TO] } := Heap.get?_update_self _ g7 (Obj.isFreed_of_fields (Obj.data_mapFields rfl _))
 generalize h7'.update z (Obj.mapFields fun x_1 => x_1.setIfInBounds 1 (Value.bool false)) = h8' at *
 have far : ∀ c o, c ≠ z -> h6'.get? c = some o -> h8'.get? c = some o := fun c o hc e => ((sb8.2 c hc).trans (sb7.2 c hc)).trans e
 refine wpAny_pure ⟨_, rfl, wpAny_pure ?_⟩
 rw [sz5] at g8 n6 sz6 zlt ⊢
 refine hQ h8' g8 (far _ _ D.TOz (ex6 _ _ g5')) ?_ ?_ (far _ _ (Nat.ne_of_gt zlt) n6) (by rw [sb8.1, sb7.1, sz6]) fun c o c1 c2 c3 c4 e => ?_
 ·obtain ⟨o, ho, r⟩ := it2
  exact ⟨o, far _ _ D.i1z (ex6 _ _ (((sb5.2 i1 (Ne.symm D.TOi1)).trans (sb4.2 i1 D.i12)).trans ((sb3.2 i1 (Ne.symm D.TOi1)).trans ho))), r⟩
 ·obtain ⟨o, ho, r⟩ := it4
  exact ⟨o, far _ _ D.i2z (ex6 _ _ ((sb5.2 i2 (Ne.symm D.TOi2)).trans ho)), r⟩
 ·exact far _ _ c1 (ex6 _ _ ((sb5.2 c c2).trans ((sb4.2 c c4).trans ((sb3.2 c c2).trans ((sb2.2 c c3).trans ((sb1.2 c c1).trans e))))))
theorem Yw (hh : A.handled = none) (D : ZipApart z TI TO i1 i2 l1 l2) (hz : IsZip s.heap z TI TO .none) (hTI : IsPair s.heap TI (.ref i1) (.ref i2)) (h1 : s.heap.IsTupleIter i1 l1 k) (p1 : s.heap.IsTuple l1 xs) (hx : xs[k]? = none)
  (hQ : ∀ h', (∀ c o, c ≠ z -> c ≠ TO -> c ≠ i1 -> c ≠ i2 -> s.heap.get? c = some o -> h'.get? c = some o) -> Q none { s with heap := h' }) : wpAny (model P w) A (pyNext (.ref z)) Q E s := by
 have hT : s.TypeIs (.ref z) "zip" := ⟨_, hz, rfl⟩
 unfold pyNext
 refine wpAny_bind (wpAny_attempt (wpAny_callSpecial?_slot (name := Str.ofString "__next__") hT F.slot_zip_next (wpAny_call_entry F.slot_zip_next hT F.entry_zip_next ?_ (F.args_zip_next_1 _))))
 refine wpAny_bind (m := field (.ref z) 2) (wpAny_field hz rfl (x := .bool false) rfl ?_)
 refine wpAny_bind (m := field (.ref z) 3) (wpAny_field hz rfl (x := .ref TI) rfl ?_)
 refine wpAny_bind (m := seqItems? (.ref TI)) (wpAny_seqItems hTI rfl ?_)
 refine wpAny_bind (m := Builtin.SmallTypes.ownedTupleIsFree (.ref z)) ?_
 unfold Builtin.SmallTypes.ownedTupleIsFree
 refine wpAny_bind (wpAny_field hz rfl (x := .none) rfl (wpAny_pure ?_))
 refine wpAny_bind (m := rule "zip.__next__.owned-tuple-again") (wpAny_rule ?_)
 refine wpAny_bind (m := field (.ref z) 4) (wpAny_field hz rfl (x := .ref TO) rfl ?_)
 refine wpAny_bind (m := setField (.ref z) 0 .ellipsis) (wpAny_setField hz rfl (by simp) ?_)
 have sb1 := Heap.SameBut.update s.heap z (Obj.mapFields fun x_1 => x_1.setIfInBounds 0 Value.ellipsis)
 have g1 : (s.heap.update z (Obj.mapFields fun x_1 => x_1.setIfInBounds 0 Value.ellipsis)).get? z = some { cls := Value.type "zip", data := Data.fields #[.ellipsis, Value.bool false, Value.bool false, Value.ref TI, Value.ref TO] } := Heap.get?_update_self _ hz (Obj.isFreed_of_fields (Obj.data_mapFields rfl _))
 generalize s.heap.update z (Obj.mapFields fun x_1 => x_1.setIfInBounds 0 Value.ellipsis) = h1' at *
 refine wpAny_bind ?_
 rw [show (#[Value.ref i1, Value.ref i2].toList.zipIdx : List (Value × Nat)) = [(.ref i1, 0), (.ref i2, 1)] from rfl, List.forIn_cons]
 dsimp only
 have it1 : h1'.IsTupleIter i1 l1 k := by obtain ⟨o, ho, r⟩ := h1; exact ⟨o, (sb1.2 i1 D.i1z).trans ho, r⟩
 have tp1 : h1'.IsTuple l1 xs := by obtain ⟨o, ho, r⟩ := p1; exact ⟨o, (sb1.2 l1 D.l1z).trans ho, r⟩
 refine wpAny_bind (wpAny_bind (wpAny_onRaise ?_))
 show wpAny _ _ (Builtin.SmallTypes.nextOf (.ref i1) >>= fun v => pure (some v)) _ _ _
 refine wpAny_bind (wW (by first | exact hh | (show A.in1.handled = none; exact hh)) it1 tp1 hx fun h2' e ex2 ⟨oe, hoe, hce⟩ => ?_)
 have gz2 : h2'.get? z = some { cls := Value.type "zip", data := Data.fields #[.ellipsis, Value.bool false, Value.bool false, Value.ref TI, Value.ref TO] } := ex2 z _ (Ne.symm D.i1z) g1
 have hez : e ≠ z := by
  intro h
  subst h
  have hoe' : h2'.get? e = some oe := hoe
  rw [gz2] at hoe'
  cases hoe'
  exact absurd (show Value.type "zip" = Value.type "StopIteration" from hce) (by decide)
 refine wpAny_setField gz2 rfl (by simp) ?_
 have sb3 := Heap.SameBut.update h2' z (Obj.mapFields fun x_1 => x_1.setIfInBounds 0 Value.none)
 dsimp only
 generalize h2'.update z (Obj.mapFields fun x_1 => x_1.setIfInBounds 0 Value.none) = h3' at *
 refine wpAny_bind (wpAny_isInstance (T := "StopIteration") (b := true) ⟨oe, (sb3.2 e hez).trans hoe, hce⟩ isSubtype_stop ?_)
 refine wpAny_pure (hQ h3' fun c o c1 c2 c3 c4 ec => ?_)
 exact (sb3.2 c c1).trans (ex2 c o c3 ((sb1.2 c c1).trans ec))
end
open AutoSeq1 (wpAny_loadPart') in
theorem Y3 (l1 l2 : Addr) (xs ys : Array Value) (n1 n2 : Nat) (d1 d2 : Option Addr) (s1 s2 : Array (Option Value)) :
  Meets (Builtin.«zip.__new__» ⟨[.type "zip", .ref l1, .ref l2], []⟩) (fun _ R s => s.heap.get? l1 = some { cls := .type "tuple", dict := d1, data := .seq xs n1, slots := s1 } /\ s.heap.get? l2 = some { cls := .type "tuple", dict := d2, data := .seq ys n2, slots := s2 } /\
   ∀ g1 g2 g3 g4 g5, g1 = s.heap.push { cls := .type "tuple_iterator", data := .fields #[.ref l1, .int 0 0] } -> g2 = g1.push { cls := .type "tuple_iterator", data := .fields #[.ref l2, .int 0 0] } -> g3 = g2.push { cls := .type "tuple", data := .seq #[.ref s.heap.objs.size, .ref g1.objs.size] } -> g4 = g3.push { cls := .type "tuple", data := .seq #[.none, .none] } -> g5 = g4.push { cls := .type "zip", data := .fields #[.none, .bool false, .bool false, .ref g2.objs.size, .ref g3.objs.size] } -> R (.ok (.ret (.ref g4.objs.size))) { s with heap := g5 }) :=
 .of_wp fun prog w A R s h => by
  obtain ⟨hp, g, d, tk, os⟩ := s
  obtain ⟨hl1, hl2, h⟩ := h
  have hT1 : Heap.IsTuple (Shared.heap ⟨hp, g, d, tk, os⟩) l1 xs := ⟨_, hl1, rfl, n1, rfl⟩
  have hT2 : Heap.IsTuple (hp.push { cls := .type "tuple_iterator", data := .fields #[.ref l1, .int 0 0] }) l2 ys := ⟨_, Heap.get?_push_of_some _ hl2, rfl, n2, rfl⟩
  have hsub : isSubtype (Value.type "zip") (Value.type "zip") = pure true := by first | exact sub_zip | rfl
  wp_walk using wpAny_loadPart' hl1, wpAny_pyIter_tuple hT1, wpAny_pyIter_tuple hT2
  exact ⟨_, rfl, h _ _ _ _ _ rfl rfl rfl rfl rfl⟩
theorem Kc {P : Program} {w : World} {A : Around} {E : Value -> Shared -> Prop} {s : Shared} {l1 l2 : Addr} {xs ys : Array Value} {Q : Value -> Shared -> Prop} (hT1 : s.heap.IsTuple l1 xs) (hT2 : s.heap.IsTuple l2 ys)
  (h : ∀ h', IsZip h' (s.heap.objs.size + 4) (s.heap.objs.size + 2) (s.heap.objs.size + 3) .none -> IsPair h' (s.heap.objs.size + 2) (.ref s.heap.objs.size) (.ref (s.heap.objs.size + 1)) -> IsPair h' (s.heap.objs.size + 3) .none .none -> h'.IsTupleIter s.heap.objs.size l1 0 -> h'.IsTupleIter (s.heap.objs.size + 1) l2 0 -> (∀ b o, s.heap.get? b = some o -> h'.get? b = some o) -> Q (.ref (s.heap.objs.size + 4)) { s with heap := h' }) :
  wpAny (model P w) A (call (.type "zip") [.ref l1, .ref l2]) Q E s := by
 obtain ⟨⟨c1, d1, dt1, sl1⟩, hl1, hc1, n1, hd1⟩ := hT1
 replace hc1 : c1 = .type "tuple" := hc1
 replace hd1 : dt1 = .seq xs n1 := hd1
 subst hc1 hd1
 obtain ⟨⟨c2, d2, dt2, sl2⟩, hl2, hc2, n2, hd2⟩ := hT2
 replace hc2 : c2 = .type "tuple" := hc2
 replace hd2 : dt2 = .seq ys n2 := hd2
 subst hc2 hd2
 refine callType_new F.called_zip (by decide) (F.typeCall_zip_2 _ _) (F.newCall_zip_2 _ _) (fun obj => F.args_object_init_3 obj _ _) F.entry_zip_new (Y3 l1 l2 xs ys n1 n2 d1 d2 sl1 sl2) ⟨hl1, hl2, ?_⟩
 intro g1 g2 g3 g4 g5 e1 e2 e3 e4 e5
 have z1 : g1.objs.size = s.heap.objs.size + 1 := by rw [e1, Heap.size_push]
 have z2 : g2.objs.size = s.heap.objs.size + 2 := by rw [e2, Heap.size_push, z1]
 have z3 : g3.objs.size = s.heap.objs.size + 3 := by rw [e3, Heap.size_push, z2]
 have z4 : g4.objs.size = s.heap.objs.size + 4 := by rw [e4, Heap.size_push, z3]
 have k1 : ∀ b o, s.heap.get? b = some o -> g1.get? b = some o := fun b o x => by rw [e1]; exact Heap.get?_push_of_some _ x
 have k2 : ∀ b o, g1.get? b = some o -> g2.get? b = some o := fun b o x => by rw [e2]; exact Heap.get?_push_of_some _ x
 have k3 : ∀ b o, g2.get? b = some o -> g3.get? b = some o := fun b o x => by rw [e3]; exact Heap.get?_push_of_some _ x
 have k4 : ∀ b o, g3.get? b = some o -> g4.get? b = some o := fun b o x => by rw [e4]; exact Heap.get?_push_of_some _ x
 have k5 : ∀ b o, g4.get? b = some o -> g5.get? b = some o := fun b o x => by rw [e5]; exact Heap.get?_push_of_some _ x
 have p1 : g1.get? s.heap.objs.size = some { cls := .type "tuple_iterator", data := .fields #[.ref l1, .int 0 0] } := by rw [e1]; exact Heap.get?_push_size _ rfl
 have p2 : g2.get? (s.heap.objs.size + 1) = some { cls := .type "tuple_iterator", data := .fields #[.ref l2, .int 0 0] } := by
  have := Heap.get?_push_size g1 (o := { cls := .type "tuple_iterator", data := .fields #[.ref l2, .int 0 0] }) rfl
  rw [z1] at this; rw [e2]; exact this
 have p3 : g3.get? (s.heap.objs.size + 2) = some { cls := .type "tuple", data := .seq #[.ref s.heap.objs.size, .ref (s.heap.objs.size + 1)] } := by
  have := Heap.get?_push_size g2 (o := { cls := .type "tuple", data := .seq #[.ref s.heap.objs.size, .ref g1.objs.size] }) rfl
  rw [z2] at this; rw [e3, this, z1]
 have p4 : g4.get? (s.heap.objs.size + 3) = some { cls := .type "tuple", data := .seq #[.none, .none] } := by
  have := Heap.get?_push_size g3 (o := { cls := .type "tuple", data := .seq #[.none, .none] }) rfl
  rw [z3] at this; rw [e4, this]
 have p5 : g5.get? (s.heap.objs.size + 4) = some { cls := .type "zip", data := .fields #[.none, .bool false, .bool false, .ref (s.heap.objs.size + 2), .ref (s.heap.objs.size + 3)] } := by
  have := Heap.get?_push_size g4 (o := { cls := .type "zip", data := .fields #[.none, .bool false, .bool false, .ref g2.objs.size, .ref g3.objs.size] }) rfl
  rw [z4] at this; rw [e5, this, z2, z3]
 show _ /\ _
 rw [z4]
 exact ⟨⟨_, p5, rfl⟩, h _ p5 (k5 _ _ (k4 _ _ p3)) (k5 _ _ p4) ⟨_, k5 _ _ (k4 _ _ (k3 _ _ (k2 _ _ p1))), rfl, rfl⟩ ⟨_, k5 _ _ (k4 _ _ (k3 _ _ p2)), rfl, rfl⟩ fun b o x => k5 _ _ (k4 _ _ (k3 _ _ (k2 _ _ (k1 _ _ x))))⟩
noncomputable def DP (K : PySem.W.Frag) (a b : Addr) : It :=
 ⟨fun i H => ∃ xs ys x y, SqT K H a xs /\ SqT K H b ys /\ xs[i]? = some x /\ ys[i]? = some y, fun i H z H' => ∃ p x y, H p = none /\ z = .ref p /\ (∀ xs, SqT K H a xs -> xs[i]? = some x) /\ (∀ ys, SqT K H b ys -> ys[i]? = some y) /\ H' = upd H p (.tup [x, y]),
  fun i H => ∃ xs, SqT K H a xs /\ xs.length <= i⟩
theorem JV {P : Program} {w : World} {K : PySem.W.Frag} {es : List Expr} {kt : Nat} {tp : Pos} (l1 l2 z TI TO i1 i2 : Addr) (D : ZipApart z TI TO i1 i2 l1 l2) :
  Z0 P w K (.Tuple es kt tp) (DP K l1 l2) [z, TI, TO, i1, i2] z (fun i h => IsZip h z TI TO .none /\ IsPair h TI (.ref i1) (.ref i2) /\ (∃ a b, IsPair h TO a b) /\ h.IsTupleIter i1 l1 i /\ h.IsTupleIter i2 l2 i) where
 mem := by simp
 obj := fun i h st b hb => by
  obtain ⟨hz, hTI, ⟨a, c, hTO⟩, ⟨o1, e1, c1, d1⟩, ⟨o2, e2, c2, d2⟩⟩ := st
  simp only [List.mem_cons, List.not_mem_nil, or_false] at hb
  rcases hb with rfl | rfl | rfl | rfl | rfl
  ·exact ⟨_, hz, fun v q => by have q' : Data.fields _ = Data.cell v := q; cases q'⟩
  ·exact ⟨_, hTI, fun v q => by have q' : Data.seq _ _ = Data.cell v := q; cases q'⟩
  ·exact ⟨_, hTO, fun v q => by have q' : Data.seq _ _ = Data.cell v := q; cases q'⟩
  ·exact ⟨o1, e1, fun v q => by rw [d1] at q; cases q⟩
  ·exact ⟨o2, e2, fun v q => by rw [d2] at q; cases q⟩
 keep := fun i h h' st k => by
  obtain ⟨hz, hTI, ⟨a, c, hTO⟩, h1, h2⟩ := st
  exact ⟨k _ (by simp) _ hz, k _ (by simp) _ hTI, ⟨a, c, k _ (by simp) _ hTO⟩, h1.at fun o e => k _ (by simp) o e, h2.at fun o e => k _ (by simp) o e⟩
 item := by
  intro X hP hw hK hc i pins s σ H E I hf st hg
  subst hP hw hK
  obtain ⟨hz, hTI, ⟨a, c, hTO⟩, h1, h2⟩ := st
  obtain ⟨xs, ys, x, y, hq1, hq2, hx, hy⟩ := hg
  obtain ⟨its1, rv1, p1, hz1⟩ := I.tuple hq1
  obtain ⟨its2, rv2, p2, hz2⟩ := I.tuple hq2
  obtain ⟨u, hu, ru⟩ := rv1.get hx
  obtain ⟨v, hv, rvv⟩ := rv2.get hy
  refine JL D hz hTI hTO h1 h2 p1 p2 (x := u) (y := v) (by simpa using hu) (by simpa using hv) fun g1 b1 b2 b3 b4 b5 b6 hk => ?_
  refine ⟨.ref s.heap.objs.size, rfl, wpAny_letOwnedTupleGo_zip b1 fun g2 hz2' hs2 => ?_⟩
  replace hs2 : Heap.SameBut z g1 g2 := hs2
  have zlt : z < s.heap.objs.size := Heap.lt_size hz
  have I2 : Inv X pins σ (upd H s.heap.objs.size (.tup [x, y])) { s with heap := g2, toks := s.toks } := by
   refine I.yieldTup (us := [u, v]) hf (fun b o hb e => ?_) (Nat.le_refl _) ((hs2.2 _ (Nat.ne_of_gt zlt)).trans b5) (.cons ru (.cons rvv .nil)) (by show 2 <= sizeLine; decide)
   simp only [List.mem_cons, List.not_mem_nil, or_false, not_or] at hb
   exact (hs2.2 b hb.1).trans (hk b o hb.1 hb.2.2.1 hb.2.2.2.1 hb.2.2.2.2 e)
  refine ⟨.ref s.heap.objs.size, _, I2, rfl, ⟨s.heap.objs.size, x, y, I.hok.fresh (Nat.le_refl _), rfl, fun xs' h' => by rw [I.tuple_inj h' hq1]; exact hx, fun ys' h' => by rw [I.tuple_inj h' hq2]; exact hy, rfl⟩,
   ⟨hz2', (hs2.2 _ D.TIz).trans (hk _ _ D.TIz D.TITO D.TIi1 D.TIi2 hTI), ⟨_, _, (hs2.2 _ D.TOz).trans b2⟩, b3.extBut hs2.extBut D.i1z, b4.extBut hs2.extBut D.i2z⟩, fun b hb => ?_⟩
  have hlt : b < s.heap.objs.size := by
   simp only [List.mem_cons, List.not_mem_nil, or_false] at hb
   rcases hb with rfl | rfl | rfl | rfl | rfl
   ·exact zlt
   ·exact Heap.lt_size hTI
   ·exact Heap.lt_size hTO
   ·obtain ⟨o, e, _⟩ := h1; exact Heap.lt_size e
   ·obtain ⟨o, e, _⟩ := h2; exact Heap.lt_size e
  rw [zg (Nat.ne_of_lt hlt)]
  exact (hf b hb).1
 done := by
  intro X hP hw hK hc i pins s σ H E I hf st hg
  subst hP hw hK
  obtain ⟨hz, hTI, ⟨a, c, hTO⟩, h1, h2⟩ := st
  obtain ⟨xs, hq1, hend⟩ := hg
  obtain ⟨its1, rv1, p1, hz1⟩ := I.tuple hq1
  have l1 := rv1.length
  refine Yw (I.ok.hd hc) D hz hTI h1 p1 (by simp; omega) fun h' hk => ⟨rfl, I.turnedL (tk := s.toks) hf fun b o hb e => ?_⟩
  simp only [List.mem_cons, List.not_mem_nil, or_false, not_or] at hb
  exact hk b o hb.1 hb.2.2.1 hb.2.2.2.1 hb.2.2.2.2 e
 self := fun _ _ _ _ _ st h => wpAny_pyIter_zip st.1 h
section
variable {X : Cx} {es : List Expr} {kt : Nat} {tp : Pos}
noncomputable def Z8 (K : PySem.W.Frag) (ta : TA) : TI := fun σ H R => ta σ H fun vs H1 => ∃ a b, vs = [.ref a, .ref b] /\ (((∃ xs, SqL K H1 a xs) /\ (∃ ys, SqL K H1 b ys) /\ R (Itz K a b) H1) \/ ((∃ xs, SqT K H1 a xs) /\ (∃ ys, SqT K H1 b ys) /\ R (DP K a b) H1))
theorem Yg {e1 e2 : Expr} {ta : TA} {p pos : Pos} (hg : Gl X "zip") (hm : X.mg "zip" = none) (ha : PA X [e1, e2] ta) (hs : starEach [e1, e2] X.env = [(false, eval e1 X.env), (false, eval e2 X.env)] := by rfl) (hs2 : starEach [e2] X.env = [(false, eval e2 X.env)] := by rfl) :
  PI X (.Tuple es kt tp) (.Call (.Name "zip" p) [e1, e2] [] pos) (Z8 X.K ta) := by
 intro pins s σ H R I h
 refine Call_ (jq I hg hm JD (PyProof.Rows.callWith_type1 (thn (ha pos pins s σ H _ I h) fun us s1 ⟨vs, H1, I1, r1, q1⟩ => ?_) (by rw [hs, hs2]) (by rw [hs2]; rfl)))
 obtain ⟨a, b, e, q1⟩ := q1
 subst e
 obtain ⟨u, v, rfl, ru, rv⟩ := wL r1
 cases ru
 cases rv
 rcases q1 with ⟨⟨xs, hq1⟩, ⟨ys, hq2⟩, q⟩ | ⟨⟨xs, hq1⟩, ⟨ys, hq2⟩, q⟩
 ·obtain ⟨its1, rv1, p1, hz1⟩ := I1.list hq1
  obtain ⟨its2, rv2, p2, hz2⟩ := I1.list hq2
  have la : a < s1.heap.objs.size := by obtain ⟨o, e, _⟩ := p1.isList; exact Heap.lt_size e
  have lb : b < s1.heap.objs.size := by obtain ⟨o, e, _⟩ := p2.isList; exact Heap.lt_size e
  refine call_zip_2 p1.isList p2.isList fun h' b1 b2 b3 b4 b5 hsz hk => wpAny_pyIter_zip b1 ?_
  have I2 : Inv X pins σ H1 { s1 with heap := h' } := I1.kept (t' := s1.toks) hk
  refine ⟨s1.heap.objs.size + 4, [s1.heap.objs.size + 4, s1.heap.objs.size + 2, s1.heap.objs.size + 3, s1.heap.objs.size, s1.heap.objs.size + 1], _, _, H1, rfl, I2, Vd a b _ _ _ _ _ (zipApart_new la lb), ⟨b1, b2, ⟨_, _, b3⟩, b4, b5⟩, fun c hb => ?_, q⟩
  have hb' : s1.heap.objs.size <= c := by
   simp only [List.mem_cons, List.not_mem_nil, or_false] at hb
   rcases hb with rfl | rfl | rfl | rfl | rfl <;> first | exact Nat.le_refl _ | exact Nat.le_add_right _ _
  exact I1.fpOk hb' (I1.hok.fresh hb')
 ·obtain ⟨its1, rv1, p1, hz1⟩ := I1.tuple hq1
  obtain ⟨its2, rv2, p2, hz2⟩ := I1.tuple hq2
  have la : a < s1.heap.objs.size := by obtain ⟨o, e, _⟩ := p1; exact Heap.lt_size e
  have lb : b < s1.heap.objs.size := by obtain ⟨o, e, _⟩ := p2; exact Heap.lt_size e
  refine Kc p1 p2 fun h' b1 b2 b3 b4 b5 hk => wpAny_pyIter_zip b1 ?_
  have I2 : Inv X pins σ H1 { s1 with heap := h' } := I1.kept (t' := s1.toks) hk
  refine ⟨s1.heap.objs.size + 4, [s1.heap.objs.size + 4, s1.heap.objs.size + 2, s1.heap.objs.size + 3, s1.heap.objs.size, s1.heap.objs.size + 1], _, _, H1, rfl, I2, JV a b _ _ _ _ _ (zipApart_new la lb), ⟨b1, b2, ⟨_, _, b3⟩, b4, b5⟩, fun c hb => ?_, q⟩
  have hb' : s1.heap.objs.size <= c := by
   simp only [List.mem_cons, List.not_mem_nil, or_false] at hb
   rcases hb with rfl | rfl | rfl | rfl | rfl <;> first | exact Nat.le_refl _ | exact Nat.le_add_right _ _
  exact I1.fpOk hb' (I1.hok.fresh hb')
end
end L2
set_option Elab.async false
set_option linter.all false
set_option maxRecDepth 100000
set_option maxHeartbeats 4000000
namespace L2
open PySem PySem.Spec PyProof.Rows
section
variable {X : Cx} {e st : Expr} {te : TE} {lo hi : Option Expr} {tl th ts : TO} {p2 pos : Pos}
end
end L2
set_option Elab.async false
set_option linter.all false
set_option maxRecDepth 100000
set_option maxHeartbeats 4000000
namespace L2
open PySem PySem.Spec PyProof.Rows
end L2
set_option Elab.async false
set_option linter.all false
set_option maxRecDepth 100000
set_option maxHeartbeats 4000000
namespace L2
open PySem PySem.Spec PyProof.Rows
end L2
set_option Elab.async false
set_option linter.all false
set_option maxRecDepth 100000
set_option maxHeartbeats 4000000
namespace L2
open PySem PySem.Spec PyProof.Rows
end L2
set_option Elab.async false
set_option linter.all false
set_option maxRecDepth 100000
set_option maxHeartbeats 4000000
namespace L2
open PySem PySem.Spec PyProof.Rows
section
variable {X : Cx}
variable {o e : Expr} {es : List Expr} {to : TE} {t : TA} {name : Str} {apos cpos : Pos} {T id : String} {r : V -> List V -> Hp -> VK -> Prop} {K : PySem.W.Frag}
end
end L2
set_option Elab.async false
set_option linter.all false
set_option maxRecDepth 100000
set_option maxHeartbeats 4000000
namespace L2
open PySem PySem.Spec PyProof.Rows
section
variable {X : Cx} {tg : Expr}
end
inductive Dd where
 | take (p : Nat) | move (p g : Nat) | lay (g : Nat)
noncomputable abbrev RS := List (Option Int) × Option Int × List Int
noncomputable def inc (mv : List Int) (x : Int) : List Int := mv.set x.toNat (mv.getD x.toNat 0 + 1)
inductive Do : Dd -> RS -> RS -> Prop
 | take {p : Nat} {row : List (Option Int)} {mv : List Int} {x : Int} : row[p]? = some (some x) -> Do (.take p) (row, none, mv) (row.set p none, some x, inc mv x)
 | move {p g : Nat} {row : List (Option Int)} {h : Option Int} {mv : List Int} {x : Int} : row[p]? = some (some x) -> row[g]? = some none -> Do (.move p g) (row, h, mv) ((row.set p none).set g (some x), h, inc mv x)
 | lay {g : Nat} {row : List (Option Int)} {mv : List Int} {x : Int} : row[g]? = some none -> Do (.lay g) (row, some x, mv) (row.set g (some x), none, inc mv x)
inductive Dos : List Dd -> RS -> RS -> Prop
 | nil {s : RS} : Dos [] s s
 | cons {d : Dd} {l : List Dd} {s t u : RS} : Do d s t -> Dos l t u -> Dos (d :: l) s u
end L2
set_option Elab.async false
set_option linter.all false
set_option maxRecDepth 100000
set_option maxHeartbeats 4000000
namespace L2
open PySem PySem.Spec PyProof.Rows
section
variable {X : Cx} {K : PySem.W.Frag}
end
end L2
set_option Elab.async false
set_option linter.all false
set_option maxRecDepth 100000
set_option maxHeartbeats 4000000
namespace L2
open PySem PySem.Spec PyProof.Rows
section
variable {X : Cx}
end
end L2
set_option Elab.async false
set_option linter.all false
set_option maxRecDepth 100000
set_option maxHeartbeats 4000000
namespace L2
open PySem PySem.Spec PyProof.Rows
noncomputable def Ff (K : PySem.W.Frag) (f : Bool -> Bool) : R2 := fun x y H Q => ∃ p q xs, x = .ref p /\ y = .ref q /\ SqL K H p xs /\ SqL K H q [] /\ Q (.bl (f xs.isEmpty)) H
section
variable {X : Cx}
theorem B8 (hu : X.A.units + 64 < cLine) : OpR X (compareOp .NotEq) (Ff X.K not) := by
 intro pins s σ H x y v u Q I rx ry h
 obtain ⟨p, q, xs, rfl, rfl, h1, h2, k⟩ := h
 cases rx
 cases ry
 obtain ⟨us, r1, p1, z1⟩ := I.list h1
 obtain ⟨ws, r2, p2, z2⟩ := I.list h2
 have l1 := r1.length
 have l2 := r2.length
 have hw : ws = [] := List.length_eq_zero_iff.mp l2.symm
 subst hw
 cases xs with
 | nil =>
  have hus : us = [] := List.length_eq_zero_iff.mp l1.symm
  subst hus
  refine EqBoolInt.of_rcne (SeqAt.RcNeAt.lists (e := fun _ => true) p1.isList p2.isList rfl (by omega) (fun j h1' h2' => ?_)) ⟨.bl false, H, I, rfl, k⟩
  simp at h1'
 | cons a r =>
  refine EqBoolInt.of_rcne (SeqAt.RcNeAt.lists_lengths p1.isList p2.isList ?_ (by omega)) ⟨.bl true, H, I, rfl, k⟩
  rw [List.size_toArray, List.size_toArray, <- l1]
  rfl
end
section
variable {X : Cx} {e st : Expr} {te : TE} {ts : TO} {p2 pos : Pos}
end
end L2
set_option Elab.async false
set_option linter.all false
set_option maxRecDepth 100000
set_option maxHeartbeats 4000000
namespace L2
open PySem PySem.Spec PyProof.Rows
section
variable {X : Cx}
end
end L2
set_option Elab.async false
set_option linter.all false
set_option maxRecDepth 100000
set_option maxHeartbeats 4000000
namespace L2
open PySem PySem.Spec PyProof.Rows
noncomputable def AtM (K : PySem.W.Frag) (C : Addr) (m qual : Str) (st : Stmt) : Prop := ∃ f fd, Fun K m qual st f fd /\ Z4 K C m f
noncomputable def Dm (P : Program) (w : World) (K : PySem.W.Frag) (mg : Str -> Option Value) (base : Heap) (C : Addr) (m : Str) (ps : List Str) (k : Nat) (sp : Sp) : Prop :=
 ∃ f fd, qT P w K mg base CX0 k f fd ps sp /\ ja K fd ps [] /\ Z4 K C m f
theorem Dm.mono {P : Program} {w : World} {K : PySem.W.Frag} {mg : Str -> Option Value} {base : Heap} {C : Addr} {m : Str} {ps : List Str} {j k : Nat} {sp : Sp} (D : Dm P w K mg base C m ps j sp) (h : j <= k) : Dm P w K mg base C m ps k sp :=
 let ⟨f, fd, F, r⟩ := D
 ⟨f, fd, F.mono h, r⟩
theorem EE {P : Program} {w : World} {K : PySem.W.Frag} {mg : Str -> Option Value} {base : Heap} {C : Addr} {m qual : Str} {st : Stmt} {N ps : List Str} {k : Nat} {sp : Sp} (a : AtM K C m qual st) (S : zy N ps (zi st))
  (hb : ∀ (kV doc pm : Value) (an : Option Addr) (cdv ct : Value) (us : List Value), us.length = ps.length -> bindArgs (PySem.W.fnOf m qual (qt st) (zO st) (zi st) .none kV doc pm an cdv ct) ⟨us, []⟩ = pure (ps.zip us))
  (len : ∀ vs H Q E, sp vs H Q E -> vs.length = ps.length)
  (hbody : ∀ (f : Addr) (cdv : Value) (A : Around) (outer : List Env) (s : Shared) (H : Hp) (vs : List V) (Q : VK) (E : XK), qg k (A.deeper (envOfC qual (zi st) s.heap.objs.size f cdv)) -> sp vs H Q E ->
   ∃ t, PSs (j9 CX0 P w K mg base N qual (zi st) f cdv A outer s H E).nox (zO st) t /\ t { nx := fun _ H' => Q .non H', rt := Q } (qF N vs) H) : Dm P w K mg base C m ps (k + 1) sp := by
 obtain ⟨f, fd, F, mt⟩ := a
 exact ⟨f, fd, F.ok S len fun cdv A outer s H vs Q E => hbody f cdv A outer s H vs Q E, F.binds hb, mt⟩
section
variable {X : Cx} {k : Nat} {C : Addr} {m x : Str} {ps : List Str} {sp : Sp} {p pos apos : Pos} {o e : Expr} {es : List Expr} {t : TA} {to : TE}
theorem FY {pl : Sem Bool} (c : Cls X.K C) (D : Dm X.prog X.w X.K X.mg X.base C m ps k sp) (hr : qg k X.A) (ho : PE X o to) (ha : PA X (e :: es) t)
  (hst : starEach (e :: es) X.env = (false, eval e X.env) :: starEach es X.env := by rfl) (hpl : (backTo pos (starEach es X.env)).any (·.1) = false := by rfl)
  (ht : eval (.Call (.Attribute o m apos) (e :: es) [] pos) X.env = (do
   let ov <- eval o X.env
   standAt apos.atName
   let (f, first) <- holding [ov] (getMethod ov m pl)
   callWith pos f first (backTo pos (starEach (e :: es) X.env)) (backToKw pos (keywordEach [] X.env))) := by rfl) :
  PE X (.Call (.Attribute o m apos) (e :: es) [] pos) (vc C m sp [] E0 to t) := by
 obtain ⟨f, fd, F, b, mt⟩ := D
 exact Wr ho c mt F hr b .nil Ja ha hst hpl ht
theorem Qp {pl : Sem Bool} (c : Cls X.K C) (D : Dm X.prog X.w X.K X.mg X.base C m ps k sp) (hr : qg k X.A) (ho : PE X o to)
  (ht : eval (.Call (.Attribute o m apos) [] [] pos) X.env = (do
   let ov <- eval o X.env
   standAt apos.atName
   let (f, first) <- holding [ov] (getMethod ov m pl)
   callWith pos f first (backTo pos (starEach [] X.env)) (backToKw pos (keywordEach [] X.env))) := by rfl) :
  PE X (.Call (.Attribute o m apos) [] [] pos) (vc C m sp [] E0 to XE) := by
 obtain ⟨f, fd, F, b, mt⟩ := D
 exact XQ ho c mt F hr b .nil Ja ht
noncomputable def Mkr (P : Program) (w : World) (K : PySem.W.Frag) (mg : Str -> Option Value) (base : Heap) (x : Str) (C : Addr) (ps : List Str) (k : Nat) (sp : Sp) : Prop :=
 ∃ f fd, qT P w K mg base CX0 k f fd ps sp /\ ja K fd ps [] /\ Mk K C f /\ mg x = some (.ref C)
theorem Fv (D : Mkr X.prog X.w X.K X.mg X.base x C ps k sp) (hr : qg (k + 1) X.A) (hg : Gl X x) (ha : PA X (e :: es) t) (hdb : (x == ("__debug__" : Str)) = false := by decide)
  (he : starEach (e :: es) X.env = (false, eval e X.env) :: starEach es X.env := by rfl) (hpl : (backTo pos (starEach es X.env)).any (·.1) = false := by rfl) : PE X (.Call (.Name x p) (e :: es) [] pos) (QQ C sp [] E0 t) := by
 obtain ⟨f, fd, F, b, M, hm⟩ := D
 exact WB M F hr hg hm b .nil Ja ha hdb he hpl
end
structure KD (K : PySem.W.Frag) (w : World) (a : Addr) (kvs : List (Key × V)) : Prop where
 ex : ∃ es ep, K.lookup a = some ⟨.type "dict", none, .dict es ep, #[]⟩ /\ ∀ P : Program, PySem.KeysOf (qX P w) es /\ ∃ vs, KV kvs vs /\ Pairs (qX P w) es.toList vs /\ (vs.map (·.1)).Nodup
 ns : (a == sysModules) = false
theorem KD.at {X : Cx} {pins : List (Addr × Obj)} {σ : St} {H : Hp} {s : Shared} {a : Addr} {kvs : List (Key × V)} (d : KD X.K X.w a kvs) (I : Inv X pins σ H s) : ∃ vs, KV kvs vs /\ s.heap.DictOf (qX X.prog X.w) a vs := by
 obtain ⟨es, ep, hl, h⟩ := d.ex
 obtain ⟨h1, vs, r, h2, h3⟩ := h X.prog
 exact ⟨vs, r, _, es, ep, I.kIn a _ hl, ⟨rfl, rfl, rfl⟩, rfl, h1, h2, h3⟩
noncomputable def XX (kvs : List (Key × V)) (ty : TE) : TE := fun σ H Q => ty σ H fun y H2 => ∃ k, y = kV k /\ Q ((ym kvs k).getD .non) H2
section
variable {X : Cx} {e : Expr} {ty : TE} {p apos cpos : Pos} {x : Str} {a : Addr} {kvs : List (Key × V)}
theorem Wg (d : KD X.K X.w a kvs) (hg : Gl X x) (hm : X.mg x = some (.ref a)) (he : PE X e ty) (m : M1 X (.Name x p) "get" apos e cpos) (hdb : (x == ("__debug__" : Str)) = false := by decide) : PE X (.Call (.Attribute (.Name x p) "get" apos) [e] [] cpos) (XX kvs ty) := by
 intro pins s σ H Q I h
 refine wpAny_Call_method m.base m.few m.line PySem.F.plainAttrs_dict PySem.F.slot_dict_get PySem.F.type_dict_get (jG I hg hm ?_ hdb)
 obtain ⟨vs0, _, dd0⟩ := d.at I
 refine ⟨dd0.typeIs, fun b q => ?_, ?_⟩
 ·cases q
  obtain ⟨ob, _, _, h1, h2, _⟩ := dd0
  exact ⟨ob, h1, h2.2.1⟩
 rw [m.trees]
 refine Calls.callWith_builtin rfl (Calls.evalArgs_plain (Calls.spliced_cons (thn (he pins s σ H _ I h) fun iv s2 ⟨y, H2, I2, ry, k, ey, q2⟩ => Calls.spliced_nil ?_)))
 subst ey
 obtain ⟨vs, rel, dd⟩ := d.at I2
 refine call_meetsIn PySem.F.slot_dict_get dd.typeIs PySem.F.entry_dict_get (PySem.F.args_dict_get_2 _ _) (meets_dict_get (qX X.prog X.w) a (Fy ry) d.ns) ⟨_, dd.mapOf, ?_⟩
 refine ⟨(ym kvs k).getD .non, H2, I2.tok _, ?_, q2⟩
 exact (rel.val k).getD rfl
end
end L2
set_option Elab.async false
set_option linter.all false
set_option maxRecDepth 100000
set_option maxHeartbeats 4000000
namespace L2
open PySem PySem.Spec PyProof.Rows
section
variable {X : Cx}
theorem j3 : Fz X (Yd X.K) := by
  intro pins s σ H x y v u Q I rx ry h
  obtain ⟨p, xs, i, z, rfl, rfl, hq, he, q⟩ := h
  cases rx
  obtain ⟨t, rfl⟩ := ry
  obtain ⟨its, r, pl, hz⟩ := I.list hq
  obtain ⟨j, h1, h2, h3, h4, h5⟩ := vW he
  obtain ⟨w, ew, rw'⟩ := r.get h2
  have hl := r.length
  have hn := yL
  have fin : EP X pins σ Q w s := ⟨z, H, I, rw', q⟩
  by_cases h0 : 0 <= i
  · have hj : i.toNat = j := by
      rw [seqIndex_of h0 h5] at h1
      exact Option.some.inj h1
    exact wpAny_getItem_list pl.isList h0 (by omega) (by rw [hj]; simpa using ew) fin
  · have hj : (i + (its.toArray.size : Int)).toNat = j := by
      rw [seqIndex_neg (by omega) h4] at h1
      rw [List.size_toArray, <- hl]
      exact Option.some.inj h1
    exact wpAny_getItem_list_neg pl.isList (by omega) (by rw [List.size_toArray] <;> omega) (by omega) (by rw [hj]; simpa using ew) fin
end
theorem atm_mk {K : PySem.W.Frag} {C f : Addr} {m qual : Str} {st : Stmt} {oc kV dc pm cd ct : Value} {od an : Option Addr} {sl : Array (Option Value)} (a1 : PySem.W.findIn K (.ref C) m = some (some (.ref f))) (i1 : PySem.W.isFn K (.ref f) = true)
  (l1 : K.lookup f = some ⟨oc, od, .func (PySem.W.fnOf m qual (qt st) (zO st) (zi st) .none kV dc pm an cd ct), sl⟩) (c1 : PySem.W.codeIn K cd qual = true) (k1 : PySem.W.keepIn K (.ref f) = true) : AtM K C m qual st := ⟨f, _, fun_mk l1 c1 k1, ⟨a1, i1, k1⟩⟩
end L2
set_option Elab.async false
set_option linter.all false
set_option maxRecDepth 100000
set_option maxHeartbeats 4000000
namespace L2
open PySem PySem.Spec PyProof.Rows
section
variable {X : Cx}
end
end L2
set_option Elab.async false
set_option linter.all false
set_option maxRecDepth 100000
set_option maxHeartbeats 4000000
namespace L2
open PySem PySem.Spec PyProof.Rows
structure ScG (X : Cx) (ts : List Nat) (scope : Scope) : Prop where
 kind : scope.kind = .function
 cell : ∀ y ∈ scope.names, y.2 = .cell -> scope.names.lookup y.1 = some .cell
 loc : ∀ y ∈ scope.names, y.2 = .local -> scope.names.lookup y.1 = some .local
 free : ∀ y ∈ scope.names, y.2 = .free -> X.env.kindOf y.1 = some .cell \/ X.env.kindOf y.1 = some .free
 ts : ∀ (i : Nat) x, X.N[i]? = some x -> scope.names.lookup x = some .local \/ scope.names.lookup x = some .cell -> i ∈ ts
section
variable {X : Cx} {ts : List Nat} {scope : Scope} {pins : List (Addr × Obj)} {σ : St} {H : Hp} {s : Shared} {fp : List Addr}
end
section
variable {X : Cx} {ts : List Nat} {scope : Scope} {tg iter elt : Expr} {ifs : List Expr} {wi : TI} {g : TG} {tt : TT} {te : TE} {pos : Pos}
end
end L2
set_option Elab.async false
set_option linter.all false
set_option maxRecDepth 100000
set_option maxHeartbeats 4000000
namespace L2
open PySem PySem.Spec PyProof.Rows
section
variable {X : Cx}
end
end L2
set_option Elab.async false
set_option linter.all false
set_option maxRecDepth 100000
set_option maxHeartbeats 4000000
namespace L2
open PySem PySem.Spec PyProof.Rows
inductive Dat where
 | non | bl (b : Bool) | int (i : Int) | str (x : Str) | ty (n : String) | lst (l : List Dat) | tup (l : List Dat) | rng (lo hi c : Int) | scr (K : PySem.W.Frag) (l : List Int)
inductive AV where
 | d (x : Dat) | ref (a : Addr)
inductive MO where
 | lst (l : List AV) | dK (kvs : List (Key × AV)) | ins (C : Addr) (fs : List (Str × AV)) | exc (C : Addr) (fs : List (Str × V))
noncomputable def yR (a C : Addr) (d : Option Addr) : HO := .ext fun h => ∃ o, h.get? a = some o /\ o.cls = .ref C /\ o.dict = d /\ ∃ vs, o.data = .fields vs
noncomputable abbrev MH := Addr -> Option MO
noncomputable abbrev ASt := List (Option AV)
noncomputable def mup (M : MH) (a : Addr) (o : MO) : MH := fun b => if b = a then some o else M b
theorem zp {M : MH} {a : Addr} {o : MO} : mup M a o a = some o := if_pos rfl
theorem zr {M : MH} {a b : Addr} {o : MO} (h : b ≠ a) : mup M a o b = M b := if_neg h
theorem Jp {M : MH} {a : Addr} {o u : MO} : mup (mup M a o) a u = mup M a u := by
 funext b; unfold mup; split <;> rfl
noncomputable abbrev Own := Addr -> Prop
inductive Rep (H : Hp) (O : Own) : V -> Dat -> Prop
 | non : Rep H O .non .non
 | bl {b : Bool} : Rep H O (.bl b) (.bl b)
 | int {i : Int} : Rep H O (.int i) (.int i)
 | str {x : Str} : Rep H O (.str x) (.str x)
 | ty {n : String} : Rep H O (.ty n) (.ty n)
 | lst {a : Addr} {xs : List V} {l : List Dat} : ¬ O a -> H a = some (.lst xs) -> xs.length = l.length -> (∀ (i : Nat) x d, xs[i]? = some x -> l[i]? = some d -> Rep H O x d) -> Rep H O (.ref a) (.lst l)
 | tup {a : Addr} {xs : List V} {l : List Dat} : ¬ O a -> H a = some (.tup xs) -> xs.length = l.length -> (∀ (i : Nat) x d, xs[i]? = some x -> l[i]? = some d -> Rep H O x d) -> Rep H O (.ref a) (.tup l)
 | rng {a : Addr} {lo hi c : Int} : ¬ O a -> H a = some (wO a lo hi c) -> Rep H O (.ref a) (.rng lo hi c)
 | scr {a : Addr} {K : PySem.W.Frag} {l : List Int} : ¬ O a -> Rd H a (.lst (l.map V.int)) -> Rep H O (.ref a) (.scr K l)
 | scrK {a : Addr} {K : PySem.W.Frag} {l : List Int} : SqL K (fun _ => none) a (l.map V.int) -> Rep H O (.ref a) (.scr K l)
noncomputable def KA (H : Hp) (O : Own) (xs : List V) (l : List Dat) : Prop := xs.length = l.length /\ ∀ (i : Nat) x d, xs[i]? = some x -> l[i]? = some d -> Rep H O x d
noncomputable def zt (H : Hp) (O : Own) (M : MH) (v : V) : AV -> Prop
 | .d x => Rep H O v x
 | .ref a => v = .ref a /\ M a ≠ none
noncomputable def zl (H : Hp) (O : Own) (M : MH) (xs : List V) (l : List AV) : Prop := xs.length = l.length /\ ∀ (i : Nat) x d, xs[i]? = some x -> l[i]? = some d -> zt H O M x d
noncomputable def jW {κ : Type} (H : Hp) (O : Own) (M : MH) (xs : List (κ × V)) (l : List (κ × AV)) : Prop := xs.map (·.1) = l.map (·.1) /\ zl H O M (xs.map (·.2)) (l.map (·.2))
noncomputable def qG (H : Hp) (O : Own) (M : MH) (a : Addr) : MO -> Prop
 | .lst l => ∃ xs, H a = some (.lst xs) /\ zl H O M xs l
 | .dK kvs => ∃ xs, H a = some (.dK xs) /\ jW H O M xs kvs
 | .ins C fs => ∃ dx xs, H a = some (.ins C dx xs) /\ jW H O M xs fs /\ O dx /\ M dx = none /\ H dx = some (.own a)
 | .exc C fs => ∃ d, H a = some (yR a C d) /\ (d = none /\ fs = [] \/ ∃ dx, d = some dx /\ H dx = some (.xd fs) /\ O dx /\ M dx = none)
structure Wf (H : Hp) (O : Own) (M : MH) : Prop where
 mo : ∀ a o, M a = some o -> qG H O M a o
 own : ∀ a, M a ≠ none -> O a
 al : ∀ a, O a -> ∃ o, H a = some o /\ ∀ xs, o ≠ .tup xs
theorem Wf.ne {H : Hp} {O : Own} {M : MH} (w : Wf H O M) (a : Addr) (h : O a) : H a ≠ none := by obtain ⟨o, e, _⟩ := w.al a h; rw [e]; exact fun z => nomatch z
structure Ext (H : Hp) (O : Own) (M : MH) (H' : Hp) (O' : Own) (M' : MH) : Prop where
 fix : ∀ a o, ¬ O a -> H a = some o -> H' a = some o /\ ¬ O' a
 prv : ∀ a, O a -> M a = none -> H' a = H a /\ O' a /\ M' a = none
 mst : ∀ a, M a ≠ none -> M' a ≠ none
theorem Ext.refl {H : Hp} {O : Own} {M : MH} : Ext H O M H O M := ⟨fun _ _ h e => ⟨e, h⟩, fun _ h e => ⟨rfl, h, e⟩, fun _ h => h⟩
theorem Ext.trans {H H1 H2 : Hp} {O O1 O2 : Own} {M M1 M2 : MH} (a : Ext H O M H1 O1 M1) (b : Ext H1 O1 M1 H2 O2 M2) : Ext H O M H2 O2 M2 :=
 ⟨fun x o h e => let ⟨e1, h1⟩ := a.fix x o h e; b.fix x o h1 e1, fun x h e => by
  obtain ⟨e1, h1, n1⟩ := a.prv x h e
  obtain ⟨e2, h2, n2⟩ := b.prv x h1 n1
  exact ⟨e2.trans e1, h2, n2⟩, fun x h => b.mst x (a.mst x h)⟩
theorem Rep.imp {H H' : Hp} {O O' : Own} (k : ∀ a o, ¬ O a -> H a = some o -> H' a = some o /\ ¬ O' a) {v : V} {d : Dat} (r : Rep H O v d) : Rep H' O' v d := by
 induction r with
 | non => exact .non
 | bl => exact .bl
 | int => exact .int
 | str => exact .str
 | ty => exact .ty
 | lst h e l _ ih => exact .lst (k _ _ h e).2 (k _ _ h e).1 l ih
 | tup h e l _ ih => exact .tup (k _ _ h e).2 (k _ _ h e).1 l ih
 | rng h e => exact .rng (k _ _ h e).2 (k _ _ h e).1
 | scr h e =>
  rcases e with e | ⟨o, e⟩
  ·exact .scr (k _ _ h e).2 (.inl (k _ _ h e).1)
  ·exact .scr (k _ _ h e).2 (.inr ⟨o, (k _ _ h e).1⟩)
 | scrK h => exact .scrK h
theorem WU {H : Hp} {O : Own} {K : PySem.W.Frag} {v : V} {l : List Int} (r : Rep H O v (.scr K l)) : ∃ a, v = .ref a /\ SqL K H a (l.map V.int) := by
 cases r with
 | @scr a _ _ _ h => exact ⟨a, rfl, .inl h⟩
 | @scrK a _ _ h =>
  rcases h with (h | ⟨o, h⟩) | h
  ·cases h
  ·cases h
  ·exact ⟨a, rfl, .inr h⟩
theorem V8 {H : Hp} {O : Own} {K : PySem.W.Frag} {a : Addr} {l : List Int} (ho : ∀ a, ¬ O a) (h : SqL K H a (l.map V.int)) : Rep H O (.ref a) (.scr K l) := by
 rcases h with h | h
 ·exact .scr (ho a) h
 ·exact .scrK (.inr h)
theorem Rep.ext {H H' : Hp} {O O' : Own} {M M' : MH} (k : Ext H O M H' O' M') {v : V} {d : Dat} (r : Rep H O v d) : Rep H' O' v d := r.imp k.fix
theorem zt.ext {H H' : Hp} {O O' : Own} {M M' : MH} (k : Ext H O M H' O' M') {v : V} {x : AV} (r : zt H O M v x) : zt H' O' M' v x := by
 cases x with
 | d x => exact Rep.ext k r
 | ref a => exact ⟨r.1, k.mst a r.2⟩
theorem zl.ext {H H' : Hp} {O O' : Own} {M M' : MH} (k : Ext H O M H' O' M') {xs : List V} {l : List AV} (r : zl H O M xs l) : zl H' O' M' xs l := ⟨r.1, fun i x d e1 e2 => (r.2 i x d e1 e2).ext k⟩
theorem jW.ext {κ : Type} {H H' : Hp} {O O' : Own} {M M' : MH} (k : Ext H O M H' O' M') {xs : List (κ × V)} {l : List (κ × AV)} (r : jW H O M xs l) : jW H' O' M' xs l := ⟨r.1, r.2.ext k⟩
theorem zl.nil {H : Hp} {O : Own} {M : MH} : zl H O M [] [] := ⟨rfl, fun i x d e => by simp at e⟩
theorem zl.cons {H : Hp} {O : Own} {M : MH} {x : V} {d : AV} {xs : List V} {l : List AV} (h : zt H O M x d) (r : zl H O M xs l) : zl H O M (x :: xs) (d :: l) :=
 ⟨by simp [r.1], fun i y e h1 h2 => by
  cases i with
  | zero => simp at h1 h2; subst h1 h2; exact h
  | succ i => simp at h1 h2; exact r.2 i y e h1 h2⟩
theorem zl.head {H : Hp} {O : Own} {M : MH} {x : V} {d : AV} {xs : List V} {l : List AV} (r : zl H O M (x :: xs) (d :: l)) : zt H O M x d /\ zl H O M xs l :=
 ⟨r.2 0 x d rfl rfl, by have := r.1; simpa using this, fun i y e h1 h2 => r.2 (i + 1) y e (by simpa using h1) (by simpa using h2)⟩
theorem zl.nil_inv {H : Hp} {O : Own} {M : MH} {xs : List V} (r : zl H O M xs []) : xs = [] := List.length_eq_zero_iff.mp r.1
theorem zl.cons_inv {H : Hp} {O : Own} {M : MH} {xs : List V} {d : AV} {l : List AV} (r : zl H O M xs (d :: l)) : ∃ x r', xs = x :: r' /\ zt H O M x d /\ zl H O M r' l := by
 cases xs with
 | nil => have := r.1; simp at this
 | cons x r' => exact ⟨x, r', rfl, r.head⟩
theorem zl.append {H : Hp} {O : Own} {M : MH} {xs ys : List V} {l m : List AV} (a : zl H O M xs l) (b : zl H O M ys m) : zl H O M (xs ++ ys) (l ++ m) :=
 ⟨by rw [List.length_append, List.length_append, a.1, b.1], fun i x d h1 h2 => by
  by_cases c : i < xs.length
  ·rw [List.getElem?_append_left c] at h1
   rw [List.getElem?_append_left (by rw [<- a.1]; exact c)] at h2
   exact a.2 i x d h1 h2
  ·rw [List.getElem?_append_right (by omega)] at h1
   rw [List.getElem?_append_right (by rw [<- a.1]; omega), <- a.1] at h2
   exact b.2 _ x d h1 h2⟩
theorem zl.snoc {H : Hp} {O : Own} {M : MH} {xs : List V} {l : List AV} {x : V} {d : AV} (a : zl H O M xs l) (b : zt H O M x d) : zl H O M (xs ++ [x]) (l ++ [d]) := a.append (.cons b .nil)
theorem zl.set {H : Hp} {O : Own} {M : MH} {xs : List V} {l : List AV} {x : V} {d : AV} (a : zl H O M xs l) (b : zt H O M x d) (j : Nat) : zl H O M (xs.set j x) (l.set j d) :=
 ⟨by rw [List.length_set, List.length_set, a.1], fun i y e h1 h2 => by
  rw [List.getElem?_set] at h1 h2
  by_cases c : j = i
  ·rw [if_pos c] at h1 h2
   split at h1
   ·split at h2
    ·cases h1; cases h2; exact b
    ·cases h2
   ·cases h1
  ·rw [if_neg c] at h1 h2
   exact a.2 i y e h1 h2⟩
theorem zl.get {H : Hp} {O : Own} {M : MH} {xs : List V} {l : List AV} (a : zl H O M xs l) {i : Nat} {d : AV} (h : l[i]? = some d) : ∃ x, xs[i]? = some x /\ zt H O M x d := by
 have hi := (List.getElem?_eq_some_iff.mp h).1
 have hx : i < xs.length := by rw [a.1]; exact hi
 exact ⟨xs[i], by simp [hx], a.2 i _ _ (by simp [hx]) h⟩
theorem zl.drop {H : Hp} {O : Own} {M : MH} {xs : List V} {l : List AV} (a : zl H O M xs l) (k : Nat) : zl H O M (xs.drop k) (l.drop k) :=
 ⟨by rw [List.length_drop, List.length_drop, a.1], fun i x d h1 h2 => by rw [List.getElem?_drop] at h1 h2; exact a.2 _ x d h1 h2⟩
theorem zl.take {H : Hp} {O : Own} {M : MH} {xs : List V} {l : List AV} (a : zl H O M xs l) (k : Nat) : zl H O M (xs.take k) (l.take k) :=
 ⟨by rw [List.length_take, List.length_take, a.1], fun i x d h1 h2 => by
  rw [List.getElem?_take] at h1 h2
  by_cases c : i < k
  ·rw [if_pos c] at h1 h2
   exact a.2 _ x d h1 h2
  ·rw [if_neg c] at h1
   cases h1⟩
theorem KA.av {H : Hp} {O : Own} {M : MH} {xs : List V} {l : List Dat} (r : KA H O xs l) : zl H O M xs (l.map .d) :=
 ⟨by rw [List.length_map]; exact r.1, fun i x d h1 h2 => by
  rw [List.getElem?_map] at h2
  cases e : l[i]? with
  | none => rw [e] at h2; cases h2
  | some y => rw [e] at h2; cases h2; exact r.2 i x y h1 e⟩
theorem zl.pure {H : Hp} {O : Own} {M : MH} {xs : List V} {l : List Dat} (r : zl H O M xs (l.map .d)) : KA H O xs l :=
 ⟨by have := r.1; rwa [List.length_map] at this, fun i x d h1 h2 => r.2 i x (.d d) h1 (by rw [List.getElem?_map, h2]; rfl)⟩
theorem Wf.fresh {H : Hp} {O : Own} {M : MH} (w : Wf H O M) {p : Addr} (h : H p = none) : ¬ O p /\ M p = none := by
 have : ¬ O p := fun z => w.ne p z h
 exact ⟨this, by
  cases e : M p with
  | none => rfl
  | some o => exact absurd (w.own p (by rw [e]; exact fun z => nomatch z)) this⟩
theorem qG.ext {H H' : Hp} {O O' : Own} {M M' : MH} (k : Ext H O M H' O' M') {a : Addr} {o : MO} (e : H' a = H a) (r : qG H O M a o) : qG H' O' M' a o := by
 cases o with
 | lst l => obtain ⟨xs, h, r⟩ := r; exact ⟨xs, e.trans h, r.ext k⟩
 | dK l => obtain ⟨xs, h, r⟩ := r; exact ⟨xs, e.trans h, r.ext k⟩
 | ins C fs => obtain ⟨dx, xs, h, r, q1, q2, q3⟩ := r; obtain ⟨x1, x2, x3⟩ := k.prv dx q1 q2; exact ⟨dx, xs, e.trans h, r.ext k, x2, x3, x1.trans q3⟩
 | exc C fs =>
  obtain ⟨d, h, r⟩ := r
  refine ⟨d, e.trans h, ?_⟩
  rcases r with r | ⟨dx, e1, h1, h2, h3⟩
  ·exact .inl r
  ·obtain ⟨x1, x2, x3⟩ := k.prv dx h2 h3; exact .inr ⟨dx, e1, x1.trans h1, x2, x3⟩
theorem qP {H : Hp} {O : Own} {M : MH} (w : Wf H O M) {p : Addr} (h : H p = none) (o : HO) : Ext H O M (upd H p o) O M :=
 ⟨fun a u ha e => ⟨by rw [zg (zk e h)]; exact e, ha⟩, fun a ha e => ⟨zg (fun z => w.ne a ha (by rw [z]; exact h)), ha, e⟩, fun _ h => h⟩
theorem ya {H : Hp} {O : Own} {M : MH} (w : Wf H O M) {p : Addr} (h : H p = none) (o : HO) : Wf (upd H p o) O M :=
 ⟨fun a mo e => qG.ext (qP w h o) (zg (fun z => by rw [z, (w.fresh h).2] at e; cases e)) (w.mo a mo e), w.own, fun a ha => by
  have : a ≠ p := fun z => w.ne a ha (by rw [z]; exact h)
  rw [zg this]; exact w.al a ha⟩
noncomputable def kT (O : Own) (p : Addr) : Own := fun a => a = p \/ O a
noncomputable def V7 (O : Own) (p : Addr) : Own := fun a => a ≠ p /\ O a
theorem vO {H : Hp} {O : Own} {M : MH} (w : Wf H O M) {p : Addr} (h : H p = none) (o : HO) (mo : MO) : Ext H O M (upd H p o) (kT O p) (mup M p mo) :=
 ⟨fun a u ha e => ⟨by rw [zg (zk e h)]; exact e, fun z => z.elim (zk e h) ha⟩, fun a ha e => by
  have hne : a ≠ p := fun z => w.ne a ha (by rw [z]; exact h)
  exact ⟨zg hne, .inr ha, by rw [zr hne]; exact e⟩, fun a ha => by
  by_cases e : a = p
  ·rw [e, zp]; exact fun z => nomatch z
  ·rw [zr e]; exact ha⟩
theorem Yi {H : Hp} {O : Own} {M : MH} (w : Wf H O M) {p : Addr} (h : H p = none) {o : HO} {mo : MO} (ho : ∀ xs, o ≠ .tup xs) (r : qG (upd H p o) (kT O p) (mup M p mo) p mo) : Wf (upd H p o) (kT O p) (mup M p mo) := by
 refine ⟨fun a u e => ?_, fun a ha => ?_, fun a ha => ?_⟩
 ·by_cases c : a = p
  ·subst c; rw [zp] at e; cases e; exact r
  ·rw [zr c] at e
   exact qG.ext (vO w h o mo) (zg c) (w.mo a u e)
 ·by_cases c : a = p
  ·exact .inl c
  ·rw [zr c] at ha; exact .inr (w.own a ha)
 ·by_cases c : a = p
  ·rw [c, ze]; exact ⟨o, rfl, ho⟩
  ·rw [zg c]; exact w.al a (ha.resolve_left c)
theorem xS {H : Hp} {O : Own} {M : MH} (w : Wf H O M) {p : Addr} (h : M p ≠ none) (o : HO) (mo : MO) : Ext H O M (upd H p o) O (mup M p mo) :=
 ⟨fun a u ha e => ⟨by rw [zg (fun z => ha (by rw [z]; exact w.own p h))]; exact e, ha⟩, fun a ha e => by
  have hne : a ≠ p := fun z => h (by rw [<- z]; exact e)
  exact ⟨zg hne, ha, by rw [zr hne]; exact e⟩, fun a ha => by
  by_cases e : a = p
  ·rw [e, zp]; exact fun z => nomatch z
  ·rw [zr e]; exact ha⟩
theorem Vg {H : Hp} {O : Own} {M : MH} (w : Wf H O M) {p : Addr} (h : M p ≠ none) {o : HO} {mo : MO} (ho : ∀ xs, o ≠ .tup xs) (r : qG (upd H p o) O (mup M p mo) p mo) : Wf (upd H p o) O (mup M p mo) := by
 refine ⟨fun a u e => ?_, fun a ha => ?_, fun a ha => ?_⟩
 ·by_cases c : a = p
  ·subst c; rw [zp] at e; cases e; exact r
  ·rw [zr c] at e
   exact qG.ext (xS w h o mo) (zg c) (w.mo a u e)
 ·by_cases c : a = p
  ·subst c; exact w.own a h
  ·rw [zr c] at ha; exact w.own a ha
 ·by_cases c : a = p
  ·rw [c, ze]; exact ⟨o, rfl, ho⟩
  ·rw [zg c]; exact w.al a ha
theorem qR {H : Hp} {O : Own} {M : MH} (w : Wf H O M) {p : Addr} (h : H p = none) (o : HO) : Ext H O M (upd H p o) (kT O p) M :=
 ⟨fun a u ha e => ⟨by rw [zg (zk e h)]; exact e, fun z => z.elim (zk e h) ha⟩, fun a ha e => by
  have hne : a ≠ p := fun z => w.ne a ha (by rw [z]; exact h)
  exact ⟨zg hne, .inr ha, e⟩, fun _ h => h⟩
theorem xu {H : Hp} {O : Own} {M : MH} (w : Wf H O M) {p : Addr} (h : H p = none) (o : HO) (ho : ∀ xs, o ≠ .tup xs) : Wf (upd H p o) (kT O p) M :=
 ⟨fun a mo e => qG.ext (qR w h o) (zg (fun z => by rw [z, (w.fresh h).2] at e; cases e)) (w.mo a mo e), fun a ha => .inr (w.own a ha), fun a ha => by
  by_cases c : a = p
  ·rw [c, ze]; exact ⟨o, rfl, ho⟩
  ·rw [zg c]; exact w.al a (ha.resolve_left c)⟩
theorem xV {H : Hp} {O : Own} {p : Addr} (hO : O p) (o : HO) : ∀ a u, ¬ O a -> H a = some u -> upd H p o a = some u /\ ¬ O a := fun a u ha e => ⟨by rw [zg (fun z => ha (by rw [z]; exact hO))]; exact e, ha⟩
theorem zt.imp {H H' : Hp} {O O' : Own} {M M' : MH} (k : ∀ a o, ¬ O a -> H a = some o -> H' a = some o /\ ¬ O' a) (hm : ∀ a, M a ≠ none -> M' a ≠ none) {v : V} {x : AV} (r : zt H O M v x) : zt H' O' M' v x := by
 cases x with
 | d x => exact Rep.imp k r
 | ref a => exact ⟨r.1, hm a r.2⟩
theorem zl.imp {H H' : Hp} {O O' : Own} {M M' : MH} (k : ∀ a o, ¬ O a -> H a = some o -> H' a = some o /\ ¬ O' a) (hm : ∀ a, M a ≠ none -> M' a ≠ none) {xs : List V} {l : List AV} (r : zl H O M xs l) : zl H' O' M' xs l := ⟨r.1, fun i x d e1 e2 => (r.2 i x d e1 e2).imp k hm⟩
theorem qG.imp {H H' : Hp} {O O' : Own} {M : MH} (k : ∀ a o, ¬ O a -> H a = some o -> H' a = some o /\ ¬ O' a) {a : Addr} {o : MO} (e : H' a = H a) (hd : ∀ dx x, O dx -> M dx = none -> H dx = some x -> ((∃ b, x = .own b) \/ ∃ fs, x = .xd fs) -> H' dx = some x /\ O' dx) (r : qG H O M a o) : qG H' O' M a o := by
 cases o with
 | lst l => obtain ⟨xs, h, r⟩ := r; exact ⟨xs, e.trans h, r.imp k fun _ z => z⟩
 | dK l => obtain ⟨xs, h, r⟩ := r; exact ⟨xs, e.trans h, r.1, r.2.imp k fun _ z => z⟩
 | ins C fs => obtain ⟨dx, xs, h, r, q1, q2, q3⟩ := r; exact ⟨dx, xs, e.trans h, ⟨r.1, r.2.imp k fun _ z => z⟩, (hd dx _ q1 q2 q3 (.inl ⟨_, rfl⟩)).2, q2, (hd dx _ q1 q2 q3 (.inl ⟨_, rfl⟩)).1⟩
 | exc C fs =>
  obtain ⟨d, h, r⟩ := r
  refine ⟨d, e.trans h, ?_⟩
  rcases r with r | ⟨dx, e1, h1, h2, h3⟩
  ·exact .inl r
  ·obtain ⟨x1, x2⟩ := hd dx _ h2 h3 h1 (.inr ⟨_, rfl⟩); exact .inr ⟨dx, e1, x1, x2, h3⟩
theorem ZA {H : Hp} {O : Own} {M : MH} (w : Wf H O M) {p : Addr} (hO : O p) (hM : M p = none) {xs : List V} (hp : H p = some (.lst xs)) (o : HO) (ho : ∀ xs, o ≠ .tup xs) : Wf (upd H p o) O M :=
 ⟨fun a mo e => qG.imp (xV hO o) (zg (fun z => by rw [z, hM] at e; cases e)) (fun dx x h1 _ h3 h4 => ⟨by rw [zg (Ji h3 hp (by rcases h4 with ⟨_, rfl⟩ | ⟨_, rfl⟩ <;> exact fun z => nomatch z))]; exact h3, h1⟩) (w.mo a mo e), w.own, fun a ha => by
  by_cases c : a = p
  ·rw [c, ze]; exact ⟨o, rfl, ho⟩
  ·rw [zg c]; exact w.al a ha⟩
theorem xp {H : Hp} {O : Own} (p : Addr) : ∀ a u, ¬ O a -> H a = some u -> H a = some u /\ ¬ V7 O p a := fun a u ha e => ⟨e, fun z => ha z.2⟩
theorem YR {H : Hp} {O : Own} {M : MH} (w : Wf H O M) {p : Addr} (hM : M p = none) {xs : List V} (hp : H p = some (.lst xs)) : Wf H (V7 O p) M :=
 ⟨fun a mo e => qG.imp (xp p) rfl (fun dx x h1 _ h3 h4 => ⟨h3, ⟨Ji h3 hp (by rcases h4 with ⟨_, rfl⟩ | ⟨_, rfl⟩ <;> exact fun z => nomatch z), h1⟩⟩) (w.mo a mo e), fun a ha => ⟨fun z => ha (by rw [z]; exact hM), w.own a ha⟩, fun a ha => w.al a ha.2⟩
end L2
set_option Elab.async false
set_option linter.all false
set_option maxRecDepth 100000
set_option maxHeartbeats 4000000
namespace L2
open PySem PySem.Spec PyProof.Rows
noncomputable abbrev AK := AV -> MH -> Prop
noncomputable abbrev AE := ASt -> MH -> AK -> Prop
noncomputable abbrev AT := ASt -> MH -> (Bool -> MH -> Prop) -> Prop
noncomputable abbrev AA := ASt -> MH -> (List AV -> MH -> Prop) -> Prop
structure kL where
 nx : ASt -> MH -> Prop
 rt : AK
 bk : ASt -> MH -> Prop := fun _ _ => False
 ct : ASt -> MH -> Prop := fun _ _ => False
noncomputable abbrev AS := MH -> kL -> ASt -> MH -> Prop
noncomputable abbrev AG := AV -> ASt -> MH -> (ASt -> MH -> Prop) -> Prop
noncomputable abbrev AGs := List AV -> ASt -> MH -> (ASt -> MH -> Prop) -> Prop
noncomputable abbrev AI := ASt -> MH -> (List AV -> (MH -> Prop) -> MH -> Prop) -> Prop
structure Er (H : Hp) (O : Own) (M : MH) (σ : St) (ρ : ASt) : Prop where
 len : σ.length = ρ.length
 get : ∀ (i : Nat) x, ρ[i]? = some (some x) -> ∃ v, σ[i]? = some (some v) /\ zt H O M v x
theorem Er.ext {H H' : Hp} {O O' : Own} {M M' : MH} {σ : St} {ρ : ASt} (e : Er H O M σ ρ) (k : Ext H O M H' O' M') : Er H' O' M' σ ρ := ⟨e.len, fun i x h => let ⟨v, h1, h2⟩ := e.get i x h; ⟨v, h1, h2.ext k⟩⟩
theorem Er.set {H : Hp} {O : Own} {M : MH} {σ : St} {ρ : ASt} (e : Er H O M σ ρ) {v : V} {x : AV} (r : zt H O M v x) (j : Nat) : Er H O M (σ.set j (some v)) (ρ.set j (some x)) :=
 ⟨by rw [List.length_set, List.length_set, e.len], fun i y h => by
  rw [List.getElem?_set] at h ⊢
  by_cases c : j = i
  ·rw [if_pos c] at h ⊢
   by_cases c2 : j < ρ.length
   ·rw [if_pos c2] at h; rw [if_pos (by rw [e.len]; exact c2)]; cases h; exact ⟨v, rfl, r⟩
   ·rw [if_neg c2] at h; cases h
  ·rw [if_neg c] at h ⊢; exact e.get i y h⟩
noncomputable def WA : List Nat -> ASt -> ASt
 | [], σ => σ
 | j :: r, σ => WA r (σ.set j none)
theorem Er.clr {H : Hp} {O : Own} {M : MH} : ∀ (ts : List Nat) {σ : St} {ρ : ASt}, Er H O M σ ρ -> Er H O M (clr ts σ) (WA ts ρ)
  | [], _, _, e => e
  | j :: r, σ, ρ, e => Er.clr r ⟨by rw [List.length_set, List.length_set, e.len], fun i y h => by
      rw [List.getElem?_set] at h ⊢
      by_cases c : j = i
      · rw [if_pos c] at h
        split at h <;> cases h
      · rw [if_neg c] at h ⊢; exact e.get i y h⟩
structure zG (t : TE) (a : AE) : Prop where
 go : ∀ {σ : St} {H : Hp} {O : Own} {ρ : ASt} {M : MH} {Q : VK} {Q' : AK}, Wf H O M -> Er H O M σ ρ -> a ρ M Q' -> (∀ x M' v H' O', Q' x M' -> Ext H O M H' O' M' -> Wf H' O' M' -> zt H' O' M' v x -> Q v H') -> t σ H Q
structure jV (t : TT) (a : AT) : Prop where
 go : ∀ {σ : St} {H : Hp} {O : Own} {ρ : ASt} {M : MH} {Q : Bool -> Hp -> Prop} {Q' : Bool -> MH -> Prop}, Wf H O M -> Er H O M σ ρ -> a ρ M Q' -> (∀ b M' H' O', Q' b M' -> Ext H O M H' O' M' -> Wf H' O' M' -> Q b H') -> t σ H Q
structure ju (t : TA) (a : AA) : Prop where
 go : ∀ {σ : St} {H : Hp} {O : Own} {ρ : ASt} {M : MH} {Q : List V -> Hp -> Prop} {Q' : List AV -> MH -> Prop}, Wf H O M -> Er H O M σ ρ -> a ρ M Q' -> (∀ x M' v H' O', Q' x M' -> Ext H O M H' O' M' -> Wf H' O' M' -> zl H' O' M' v x -> Q v H') -> t σ H Q
structure ZP (t : TE) (a : ASt -> MH -> (List AV -> MH -> Prop) -> Prop) : Prop where
 go : ∀ {σ : St} {H : Hp} {O : Own} {ρ : ASt} {M : MH} {Q : VK} {Q' : List AV -> MH -> Prop}, Wf H O M -> Er H O M σ ρ -> a ρ M Q' ->
  (∀ l M' p xs H' O', Q' l M' -> Ext H O M H' O' M' -> Wf H' O' M' -> O' p -> M' p = none -> H p = none -> H' p = some (.lst xs) -> zl H' O' M' xs l -> Q (.ref p) H') -> t σ H Q
noncomputable abbrev AR2 := AV -> AV -> MH -> AK -> Prop
structure xa (r : R2) (a : AR2) : Prop where
 go : ∀ {x y : V} {dx dy : AV} {H : Hp} {O : Own} {M : MH} {Q : VK} {Q' : AK}, Wf H O M -> zt H O M x dx -> zt H O M y dy -> a dx dy M Q' -> (∀ x M' v H' O', Q' x M' -> Ext H O M H' O' M' -> Wf H' O' M' -> zt H' O' M' v x -> Q v H') -> r x y H Q
structure Fs (r : V -> Hp -> VK -> Prop) (a : AV -> MH -> AK -> Prop) : Prop where
 go : ∀ {x : V} {dx : AV} {H : Hp} {O : Own} {M : MH} {Q : VK} {Q' : AK}, Wf H O M -> zt H O M x dx -> a dx M Q' -> (∀ x M' v H' O', Q' x M' -> Ext H O M H' O' M' -> Wf H' O' M' -> zt H' O' M' v x -> Q v H') -> r x H Q
structure vM (r : List V -> Hp -> VK -> Prop) (a : List AV -> MH -> AK -> Prop) : Prop where
 go : ∀ {vs : List V} {xs : List AV} {H : Hp} {O : Own} {M : MH} {Q : VK} {Q' : AK}, Wf H O M -> zl H O M vs xs -> a xs M Q' -> (∀ x M' v H' O', Q' x M' -> Ext H O M H' O' M' -> Wf H' O' M' -> zt H' O' M' v x -> Q v H') -> r vs H Q
noncomputable def ZC (i : Nat) : AE := fun ρ M Q => ∃ x, ρ[i]? = some (some x) /\ Q x M
noncomputable def aC (d : Dat) : AE := fun _ M Q => Q (.d d) M
theorem WD {i : Nat} : zG (VH i) (ZC i) := ⟨fun w e ⟨x, h, q⟩ k => let ⟨v, h1, h2⟩ := e.get i x h; ⟨v, h1, k _ _ _ _ _ q .refl w h2⟩⟩
theorem EC {i : Int} : zG (tC (.int i)) (aC (.int i)) := ⟨fun w _ q k => k _ _ _ _ _ q .refl w .int⟩
theorem Bh {i : Bool} : zG (tC (.bl i)) (aC (.bl i)) := ⟨fun w _ q k => k _ _ _ _ _ q .refl w .bl⟩
theorem Ex : zG (tC .non) (aC .non) := ⟨fun w _ q k => k _ _ _ _ _ q .refl w .non⟩
theorem Ep {i : Str} : zG (tC (.str i)) (aC (.str i)) := ⟨fun w _ q k => k _ _ _ _ _ q .refl w .str⟩
theorem B7 {i : String} : zG (tC (.ty i)) (aC (.ty i)) := ⟨fun w _ q k => k _ _ _ _ _ q .refl w .ty⟩
noncomputable def aOp (r : AR2) (a b : AE) : AE := fun ρ M Q => a ρ M fun x M1 => b ρ M1 fun y M2 => r x y M2 Q
theorem BE {r : R2} {ra : AR2} {t u : TE} {a b : AE} (hr : xa r ra) (h1 : zG t a) (h2 : zG u b) : zG (tOp r t u) (aOp ra a b) :=
 ⟨fun w e q k => h1.go w e q fun x M1 v H1 O1 q1 k1 w1 r1 => h2.go w1 (e.ext k1) q1 fun y M2 u H2 O2 q2 k2 w2 r2 => hr.go w2 (r1.ext k2) r2 q2 fun z M3 v3 H3 O3 q3 k3 w3 r3 => k z M3 v3 H3 O3 q3 ((k1.trans k2).trans k3) w3 r3⟩
noncomputable def aUn (r : AV -> MH -> AK -> Prop) (a : AE) : AE := fun ρ M Q => a ρ M fun x M1 => r x M1 Q
theorem BC {r : V -> Hp -> VK -> Prop} {ra : AV -> MH -> AK -> Prop} {t : TE} {a : AE} (hr : Fs r ra) (h1 : zG t a) : zG (tUn r t) (aUn ra a) :=
 ⟨fun w e q k => h1.go w e q fun x M1 v H1 O1 q1 k1 w1 r1 => hr.go w1 r1 q1 fun z M3 v3 H3 O3 q3 k3 w3 r3 => k z M3 v3 H3 O3 q3 (k1.trans k3) w3 r3⟩
noncomputable def Bz : AA := fun _ M Q => Q [] M
noncomputable def QX (a : AE) (b : AA) : AA := fun ρ M Q => a ρ M fun x M1 => b ρ M1 fun xs M2 => Q (x :: xs) M2
theorem WC : ju XE Bz := ⟨fun w _ q k => k _ _ _ _ _ q .refl w .nil⟩
theorem Xw {t : TE} {u : TA} {a : AE} {b : AA} (h1 : zG t a) (h2 : ju u b) : ju (YK t u) (QX a b) :=
 ⟨fun w e q k => h1.go w e q fun x M1 v H1 O1 q1 k1 w1 r1 => h2.go w1 (e.ext k1) q1 fun y M2 u H2 O2 q2 k2 w2 r2 => k _ _ _ _ _ q2 (k1.trans k2) w2 (.cons (r1.ext k2) r2)⟩
theorem ZG {H : Hp} {O : Own} {M : MH} (is : List Int) : zl H O M (is.map V.int) (is.map fun i => .d (.int i)) := by
 induction is with
 | nil => exact .nil
 | cons i r ih => exact .cons .int ih
noncomputable def aCB (r : List AV -> MH -> AK -> Prop) (b : AA) : AE := fun ρ M Q => b ρ M fun xs M1 => r xs M1 Q
theorem DT {r : List V -> Hp -> VK -> Prop} {ra : List AV -> MH -> AK -> Prop} {u : TA} {b : AA} (hr : vM r ra) (h2 : ju u b) : zG (tCB r u) (aCB ra b) :=
 ⟨fun w e q k => h2.go w e q fun x M1 v H1 O1 q1 k1 w1 r1 => hr.go w1 r1 q1 fun z M3 v3 H3 O3 q3 k3 w3 r3 => k z M3 v3 H3 O3 q3 (k1.trans k3) w3 r3⟩
noncomputable abbrev ASp := List AV -> MH -> AK -> Prop
noncomputable def cSp (a : ASp) : Sp := fun vs H Q _ => ∃ xs M O Q', Wf H O M /\ zl H O M vs xs /\ a xs M Q' /\ ∀ x M' v H' O', Q' x M' -> Ext H O M H' O' M' -> Wf H' O' M' -> zt H' O' M' v x -> Q v H'
noncomputable def Xy (sp : ASp) (b : AA) : AE := fun ρ M Q => b ρ M fun xs M1 => sp xs M1 Q
theorem YN {sp : ASp} {u : TA} {b : AA} (h : ju u b) : zG (Q0 (cSp sp) [] E0 u) (Xy sp b) :=
 ⟨fun w e q k => h.go w e q fun x M1 v H1 O1 q1 k1 w1 r1 => ⟨x, M1, O1, _, w1, by rw [List.append_nil]; exact r1, q1, fun z M3 v3 H3 O3 q3 k3 w3 r3 => k z M3 v3 H3 O3 q3 (k1.trans k3) w3 r3⟩⟩
noncomputable def pur : List AV -> Option (List Dat)
 | [] => some []
 | .d x :: r => match pur r with | some l => some (x :: l) | none => none
 | .ref _ :: _ => none
theorem Wn : pur [] = some [] := rfl
theorem KM {x : Dat} {r : List AV} {l : List Dat} (h : pur r = some l) : pur (.d x :: r) = some (x :: l) := by unfold pur; rw [h]
theorem qk (l : List Dat) : pur (l.map .d) = some l := by
 induction l with
 | nil => rfl
 | cons x r ih => exact KM ih
theorem jT : ∀ {xs : List AV} {l : List Dat}, pur xs = some l -> xs = l.map .d
 | [], l, h => by cases h; rfl
 | .d x :: r, l, h => by
  unfold pur at h
  cases e : pur r with
  | none => rw [e] at h; cases h
  | some m => rw [e] at h; cases h; rw [jT e]; rfl
 | .ref _ :: _, _, h => by cases h
theorem Ext.shown {H H' : Hp} {O O' : Own} {M M' : MH} {p : Addr} (w : Wf H O M) (k : Ext H O M H' O' M') (h : H p = none) : Ext H O M H' (V7 O' p) M' :=
 ⟨fun a o ha e => ⟨(k.fix a o ha e).1, fun z => (k.fix a o ha e).2 z.2⟩, fun a ha e => ⟨(k.prv a ha e).1, ⟨fun z => w.ne a ha (by rw [z]; exact h), (k.prv a ha e).2.1⟩, (k.prv a ha e).2.2⟩, k.mst⟩
theorem Ext.owned {H H' : Hp} {O O' : Own} {M M' : MH} {p : Addr} (w : Wf H O M) (k : Ext H O M H' O' M') (h : H p = none) (mo : MO) : Ext H O M H' O' (mup M' p mo) :=
 ⟨k.fix, fun a ha e => ⟨(k.prv a ha e).1, (k.prv a ha e).2.1, by rw [zr (fun z => w.ne a ha (by rw [z]; exact h))]; exact (k.prv a ha e).2.2⟩, fun a ha => by
  by_cases e : a = p
  ·rw [e, zp]; exact fun z => nomatch z
  ·rw [zr e]; exact k.mst a ha⟩
theorem Zx {H : Hp} {O : Own} {M : MH} {p : Addr} (w : Wf H O M) (hO : O p) (hM : M p = none) {xs : List V} {l : List AV} (hp : H p = some (.lst xs)) (r : zl H O M xs l) : Wf H O (mup M p (.lst l)) := by
 have km : ∀ a, M a ≠ none -> mup M p (.lst l) a ≠ none := fun a ha => by
  by_cases e : a = p
  ·rw [e, zp]; exact fun z => nomatch z
  ·rw [zr e]; exact ha
 refine ⟨fun a u e => ?_, fun a ha => ?_, w.al⟩
 ·by_cases c : a = p
  ·subst c; rw [zp] at e; cases e; exact ⟨xs, hp, r.imp (fun _ _ z h => ⟨h, z⟩) km⟩
  ·rw [zr c] at e
   have := w.mo a u e
   cases u with
   | lst m => obtain ⟨ys, h1, h2⟩ := this; exact ⟨ys, h1, h2.imp (fun _ _ z h => ⟨h, z⟩) km⟩
   | dK m => obtain ⟨ys, h1, h2⟩ := this; exact ⟨ys, h1, h2.1, h2.2.imp (fun _ _ z h => ⟨h, z⟩) km⟩
   | ins C fs =>
    obtain ⟨dx, ys, h1, h2, h3, h4, h5⟩ := this
    exact ⟨dx, ys, h1, ⟨h2.1, h2.2.imp (fun _ _ z h => ⟨h, z⟩) km⟩, h3, by rw [zr (Ji h5 hp (fun z => nomatch z))]; exact h4, h5⟩
   | exc C fs =>
    obtain ⟨d, h1, h2⟩ := this
    refine ⟨d, h1, ?_⟩
    rcases h2 with h2 | ⟨dx, e1, h2, h3, h4⟩
    ·exact .inl h2
    ·exact .inr ⟨dx, e1, h2, h3, by rw [zr (Ji h2 hp (fun z => nomatch z))]; exact h4⟩
 ·by_cases c : a = p
  ·rw [c]; exact hO
  ·rw [zr c] at ha; exact w.own a ha
noncomputable abbrev AF := ASt -> MH -> (List AV -> MH -> Prop) -> Prop
noncomputable def aFz (a : AF) : AE := fun ρ M Q => a ρ M fun l M' => ∃ ds, pur l = some ds /\ Q (.d (.lst ds)) M'
noncomputable def aOw (a : AF) : AE := fun ρ M Q => a ρ M fun l M' => ∀ p, M p = none -> M' p = none -> Q (.ref p) (mup M' p (.lst l))
noncomputable def Fw (t : TE) : TE := t
theorem Qm {X : Cx} {e : Expr} {t : TE} (h : PE X e t) : PE X e (Fw t) := h
theorem xT {t : TE} {a : AF} (h : ZP t a) : zG t (aFz a) :=
 ⟨fun w e q k => h.go w e q fun l M' p xs H' O' q1 k1 w1 o1 m1 hp hx r1 => by
  obtain ⟨ds, e1, q2⟩ := q1
  rw [jT e1] at r1
  have r2 := r1.pure
  exact k _ _ _ _ _ q2 (k1.shown w hp) (YR w1 m1 hx) (Rep.lst (fun z => z.1 rfl) hx r2.1 fun i x d e1 e2 => (r2.2 i x d e1 e2).imp (xp p))⟩
theorem VA {t : TE} {a : AF} (h : ZP t a) : zG (Fw t) (aOw a) :=
 ⟨fun w e q k => h.go w e q fun l M' p xs H' O' q1 k1 w1 o1 m1 hp hx r1 => k _ _ _ _ _ (q1 p (w.fresh hp).2 m1) (k1.owned w hp _) (Zx w1 o1 m1 hx r1) ⟨rfl, by rw [zp]; exact fun z => nomatch z⟩⟩
noncomputable def Fq (b : AA) : AF := fun ρ M Q => b ρ M fun xs M1 => xs.length <= sizeLine /\ Q xs M1
theorem Yp {u : TA} {b : AA} (h : ju u b) : ZP (D1 u) (Fq b) :=
 ⟨fun w e q k => h.go w e q fun x M1 v H1 O1 q1 k1 w1 r1 => ⟨by rw [r1.1]; exact q1.1, fun p hp =>
  k x M1 p v _ _ q1.2 (k1.trans (qR w1 hp _)) (xu w1 hp _ (fun _ z => nomatch z)) (.inl rfl) (w1.fresh hp).2 (by
   cases e0 : (_ : Hp) p with
   | none => exact e0
   | some o =>
    exfalso
    rename_i H0 O0 _ M0 _ _
    by_cases c : O0 p
    ·by_cases c2 : M0 p = none
     ·exact w1.ne p (k1.prv p c c2).2.1 hp
     ·exact w1.ne p (w1.own p (k1.mst p c2)) hp
    ·rw [(k1.fix p o c e0).1] at hp; cases hp) ze (r1.ext (qR w1 hp _))⟩⟩
noncomputable def EY (b : AA) : AE := fun ρ M Q => b ρ M fun xs M1 => xs.length <= sizeLine /\ ∃ ds, pur xs = some ds /\ Q (.d (.tup ds)) M1
theorem VU {u : TA} {b : AA} (h : ju u b) : zG (BD u) (EY b) :=
 ⟨fun w e q k => h.go w e q fun x M1 v H1 O1 q1 k1 w1 r1 => ⟨by rw [r1.1]; exact q1.1, fun p hp => by
  obtain ⟨_, ds, e1, q2⟩ := q1
  rw [jT e1] at r1
  have r2 := r1.pure
  exact k _ _ _ _ _ q2 (k1.trans (qP w1 hp _)) (ya w1 hp _) (Rep.tup (w1.fresh hp).1 ze r2.1 fun i x d e1 e2 => (r2.2 i x d e1 e2).ext (qP w1 hp _))⟩⟩
noncomputable def aB (a : AE) : AT := fun ρ M Q => a ρ M fun x M1 => ∃ b, x = .d (.bl b) /\ Q b M1
theorem jO {H : Hp} {O : Own} {v : V} {b : Bool} (r : Rep H O v (.bl b)) : v = .bl b := by cases r; rfl
theorem zF {H : Hp} {O : Own} {v : V} {b : Int} (r : Rep H O v (.int b)) : v = .int b := by cases r; rfl
theorem xQ {H : Hp} {O : Own} {v : V} {b : Str} (r : Rep H O v (.str b)) : v = .str b := by cases r; rfl
theorem XM {H : Hp} {O : Own} {v : V} {b : String} (r : Rep H O v (.ty b)) : v = .ty b := by cases r; rfl
theorem kX {H : Hp} {O : Own} {v : V} (r : Rep H O v .non) : v = .non := by cases r; rfl
theorem EQ {t : TE} {a : AE} (h : zG t a) : jV (tB t) (aB a) := ⟨fun w e q k => h.go w e q fun x M1 v H1 O1 ⟨b, e1, q1⟩ k1 w1 r1 => by
 subst e1; exact ⟨b, jO r1, k _ _ _ _ q1 k1 w1⟩⟩
theorem KS {t : TE} {a : AE} (h : zG t a) : jV (QB t) (aB a) := ⟨fun w e q k => h.go w e q fun x M1 v H1 O1 ⟨b, e1, q1⟩ k1 w1 r1 => by
 subst e1; exact ⟨b, jO r1, k _ _ _ _ q1 k1 w1⟩⟩
noncomputable def wo : AT := fun _ M Q => Q true M
theorem Xa : jV XW wo := ⟨fun w _ q k => k _ _ _ _ q .refl w⟩
noncomputable def E2 (a b : AT) : AT := fun ρ M Q => a ρ M fun c M1 => if c = true then b ρ M1 Q else Q false M1
noncomputable def aOr (a b : AT) : AT := fun ρ M Q => a ρ M fun c M1 => if c = true then Q true M1 else b ρ M1 Q
noncomputable def Fa (a : AT) : AT := fun ρ M Q => a ρ M fun c M1 => Q (!c) M1
theorem Vz {t u : TT} {a b : AT} (h1 : jV t a) (h2 : jV u b) : jV (EB t u) (E2 a b) := ⟨fun w e q k => h1.go w e q fun c M1 H1 O1 q1 k1 w1 => by
 cases c with
 | true => exact h2.go w1 (e.ext k1) q1 fun c M2 H2 O2 q2 k2 w2 => k _ _ _ _ q2 (k1.trans k2) w2
 | false => exact k _ _ _ _ q1 k1 w1⟩
theorem BA {t u : TT} {a b : AT} (h1 : jV t a) (h2 : jV u b) : jV (tOr t u) (aOr a b) := ⟨fun w e q k => h1.go w e q fun c M1 H1 O1 q1 k1 w1 => by
 cases c with
 | false => exact h2.go w1 (e.ext k1) q1 fun c M2 H2 O2 q2 k2 w2 => k _ _ _ _ q2 (k1.trans k2) w2
 | true => exact k _ _ _ _ q1 k1 w1⟩
theorem W6 {t : TT} {a : AT} (h1 : jV t a) : jV (DI t) (Fa a) := ⟨fun w e q k => h1.go w e q fun c M1 H1 O1 q1 k1 w1 => k _ _ _ _ q1 k1 w1⟩
noncomputable def AZ (a b : AE) : AE := fun ρ M Q => a ρ M fun x M1 => ∃ c, x = .d (.bl c) /\ if c = true then b ρ M1 Q else Q (.d (.bl false)) M1
theorem YA {t u : TE} {a b : AE} (h1 : zG t a) (h2 : zG u b) : zG (Vs t u) (AZ a b) := ⟨fun w e q k => h1.go w e q fun x M1 v H1 O1 ⟨c, e1, q1⟩ k1 w1 r1 => by
 subst e1
 refine ⟨c, jO r1, ?_⟩
 cases c with
 | true => exact h2.go w1 (e.ext k1) q1 fun c M2 v2 H2 O2 q2 k2 w2 r2 => k _ _ _ _ _ q2 (k1.trans k2) w2 r2
 | false => exact k _ _ _ _ _ q1 k1 w1 .bl⟩
noncomputable def aIf (c : AT) (a b : AE) : AE := fun ρ M Q => c ρ M fun c M1 => if c = true then a ρ M1 Q else b ρ M1 Q
theorem DR {c : TT} {t u : TE} {ac : AT} {a b : AE} (hc : jV c ac) (h1 : zG t a) (h2 : zG u b) : zG (tIf c t u) (aIf ac a b) := ⟨fun w e q k => hc.go w e q fun c M1 H1 O1 q1 k1 w1 => by
 cases c with
 | true => exact h1.go w1 (e.ext k1) q1 fun c M2 v2 H2 O2 q2 k2 w2 r2 => k _ _ _ _ _ q2 (k1.trans k2) w2 r2
 | false => exact h2.go w1 (e.ext k1) q1 fun c M2 v2 H2 O2 q2 k2 w2 r2 => k _ _ _ _ _ q2 (k1.trans k2) w2 r2⟩
noncomputable def X6 (r r' : AR2) (a b c : AE) : AE := fun ρ M Q => a ρ M fun x M1 => b ρ M1 fun y M2 => r x y M2 fun z M3 => ∃ k, z = .d (.bl k) /\ if k = true then c ρ M3 fun u M4 => r' y u M4 Q else Q (.d (.bl false)) M3
end L2
set_option Elab.async false
set_option linter.all false
set_option maxRecDepth 100000
set_option maxHeartbeats 4000000
namespace L2
open PySem PySem.Spec PyProof.Rows
theorem JT {r r' : R2} {ar ar' : AR2} {t u v : TE} {a b c : AE} (hr : xa r ar) (hr' : xa r' ar') (h1 : zG t a) (h2 : zG u b) (h3 : zG v c) : zG (Qn r r' t u v) (X6 ar ar' a b c) :=
 ⟨fun w e q k => h1.go w e q fun x M1 v H1 O1 q1 k1 w1 r1 => h2.go w1 (e.ext k1) q1 fun y M2 u H2 O2 q2 k2 w2 r2 => hr.go w2 (r1.ext k2) r2 q2 fun z M3 v3 H3 O3 ⟨c, e3, q3⟩ k3 w3 r3 => by
  subst e3
  refine ⟨c, jO r3, ?_⟩
  have k13 := (k1.trans k2).trans k3
  cases c with
  | false => exact k _ _ _ _ _ q3 k13 w3 .bl
  | true => exact h3.go w3 (e.ext k13) q3 fun z4 M4 v4 H4 O4 q4 k4 w4 r4 => hr'.go w4 ((r2.ext k3).ext k4) r4 q4 fun z5 M5 v5 H5 O5 q5 k5 w5 r5 => k _ _ _ _ _ q5 ((k13.trans k4).trans k5) w5 r5⟩
structure ED (H0 : Hp) (O0 : Own) (M0 : MH) (D : jB) (D' : kL) : Prop where
 nx : ∀ σ H O ρ M, Wf H O M -> Er H O M σ ρ -> Ext H0 O0 M0 H O M -> D'.nx ρ M -> D.nx σ H
 rt : ∀ v x H O M, Wf H O M -> Ext H0 O0 M0 H O M -> zt H O M v x -> D'.rt x M -> D.rt v H
 bk : ∀ σ H O ρ M, Wf H O M -> Er H O M σ ρ -> Ext H0 O0 M0 H O M -> D'.bk ρ M -> D.bk σ H
 ct : ∀ σ H O ρ M, Wf H O M -> Er H O M σ ρ -> Ext H0 O0 M0 H O M -> D'.ct ρ M -> D.ct σ H
theorem ED.tr {H0 H1 : Hp} {O0 O1 : Own} {M0 M1 : MH} {D : jB} {D' : kL} (E : ED H0 O0 M0 D D') (k : Ext H0 O0 M0 H1 O1 M1) : ED H1 O1 M1 D D' :=
 ⟨fun σ H O ρ M w e x q => E.nx σ H O ρ M w e (k.trans x) q, fun v y H O M w x r q => E.rt v y H O M w (k.trans x) r q, fun σ H O ρ M w e x q => E.bk σ H O ρ M w e (k.trans x) q, fun σ H O ρ M w e x q => E.ct σ H O ρ M w e (k.trans x) q⟩
structure je (t : TS) (a : AS) : Prop where
 go : ∀ {H0 : Hp} {O0 : Own} {M0 : MH} {D : jB} {D' : kL} {σ : St} {H : Hp} {O : Own} {ρ : ASt} {M : MH}, Wf H0 O0 M0 -> Wf H O M -> Er H O M σ ρ -> Ext H0 O0 M0 H O M -> a M0 D' ρ M -> ED H0 O0 M0 D D' -> t D σ H
noncomputable def Vk : AS := fun _ D ρ M => D.nx ρ M
theorem Vu : je Xf Vk := ⟨fun _ w e x q E => E.nx _ _ _ _ _ w e x q⟩
noncomputable def v0 (a b : AS) : AS := fun B D ρ M => a B { D with nx := b B D } ρ M
theorem Ad {t u : TS} {a b : AS} (h1 : je t a) (h2 : je u b) : je (v6 t u) (v0 a b) :=
 ⟨fun w0 w e x q E => h1.go w0 w e x q ⟨fun σ H O ρ M w e x q => h2.go w0 w e x q E, E.rt, E.bk, E.ct⟩⟩
noncomputable def Vi (a : AE) : AS := fun _ D ρ M => a ρ M fun _ M1 => D.nx ρ M1
theorem Yz {t : TE} {a : AE} (h : zG t a) : je (QD t) (Vi a) := ⟨fun _ w e x q E => h.go w e q fun y M1 v H1 O1 q1 k1 w1 r1 => E.nx _ _ _ _ _ w1 (e.ext k1) (x.trans k1) q1⟩
noncomputable def Eb (a : AE) : AS := fun _ D ρ M => a ρ M D.rt
theorem Ag {t : TE} {a : AE} (h : zG t a) : je (Wk t) (Eb a) := ⟨fun _ w e x q E => h.go w e q fun y M1 v H1 O1 q1 k1 w1 r1 => E.rt _ _ _ _ _ w1 (x.trans k1) r1 q1⟩
noncomputable def Dk (c : AT) (a b : AS) : AS := fun B D ρ M => c ρ M fun k M1 => if k = true then a B D ρ M1 else b B D ρ M1
theorem WQ {c : TT} {t u : TS} {ac : AT} {a b : AS} (hc : jV c ac) (h1 : je t a) (h2 : je u b) : je (WE c t u) (Dk ac a b) :=
 ⟨fun w0 w e x q E => hc.go w e q fun k M1 H1 O1 q1 k1 w1 => by
  cases k with
  | true => exact h1.go w0 w1 (e.ext k1) (x.trans k1) q1 E
  | false => exact h2.go w0 w1 (e.ext k1) (x.trans k1) q1 E⟩
structure yS (g : TG) (a : AG) : Prop where
 go : ∀ {v : V} {x : AV} {σ : St} {H : Hp} {O : Own} {ρ : ASt} {M : MH} {Q : St -> Hp -> Prop} {Q' : ASt -> MH -> Prop}, Wf H O M -> Er H O M σ ρ -> zt H O M v x -> a x ρ M Q' ->
  (∀ σ' H' O' ρ' M', Q' ρ' M' -> Ext H O M H' O' M' -> Wf H' O' M' -> Er H' O' M' σ' ρ' -> Q σ' H') -> g v σ H Q
structure Jw (g : TGs) (a : AGs) : Prop where
 go : ∀ {v : List V} {x : List AV} {σ : St} {H : Hp} {O : Own} {ρ : ASt} {M : MH} {Q : St -> Hp -> Prop} {Q' : ASt -> MH -> Prop}, Wf H O M -> Er H O M σ ρ -> zl H O M v x -> a x ρ M Q' ->
  (∀ σ' H' O' ρ' M', Q' ρ' M' -> Ext H O M H' O' M' -> Wf H' O' M' -> Er H' O' M' σ' ρ' -> Q σ' H') -> g v σ H Q
noncomputable def yF (i : Nat) : AG := fun x ρ M Q => Q (ρ.set i (some x)) M
theorem JY {i : Nat} : yS (wG i) (yF i) := ⟨fun w e r q k => k _ _ _ _ _ q .refl w (e.set r i)⟩
noncomputable def Yb : AGs := fun xs ρ M Q => xs = [] /\ Q ρ M
noncomputable def vZ (a : AG) (b : AGs) : AGs := fun xs ρ M Q => ∃ x r, xs = x :: r /\ a x ρ M fun ρ' M' => b r ρ' M' Q
theorem Vl : Jw Bg Yb := ⟨fun w e r q k => by obtain ⟨e1, q⟩ := q; subst e1; exact ⟨r.nil_inv, k _ _ _ _ _ q .refl w e⟩⟩
theorem J2 {g : TG} {u : TGs} {a : AG} {b : AGs} (h1 : yS g a) (h2 : Jw u b) : Jw (X7 g u) (vZ a b) := ⟨fun w e r q k => by
 obtain ⟨x, r', e1, q⟩ := q; subst e1
 obtain ⟨v, vr, e2, rv, rr⟩ := r.cons_inv
 subst e2
 exact ⟨v, vr, rfl, h1.go w e rv q fun σ' H' O' ρ' M' q1 k1 w1 e1 => h2.go w1 e1 (rr.ext k1) q1 fun σ2 H2 O2 ρ2 M2 q2 k2 w2 e2 => k _ _ _ _ _ q2 (k1.trans k2) w2 e2⟩⟩
noncomputable def Xd (n : Nat) (b : AGs) : AG := fun x ρ M Q => ∃ l, x = .d (.tup l) /\ l.length = n /\ b (l.map .d) ρ M Q
theorem KU {K : PySem.W.Frag} {n : Nat} {u : TGs} {b : AGs} (h : Jw u b) : yS (Wd K n u) (Xd n b) := ⟨fun {v x σ H O ρ M Q Q'} w e r q k => by
 obtain ⟨l, e1, ln, q⟩ := q; subst e1
 cases (show Rep H O v (.tup l) from r) with
 | @tup a xs _ o1 h1 l1 r1 => exact ⟨a, xs, rfl, SqT.of h1, l1.trans ln, h.go w e (KA.av ⟨l1, r1⟩) q k⟩⟩
noncomputable def qu (x : AV) (M : MH) : Option (List AV) := match x with
 | .d (.lst l) => some (l.map .d)
 | .ref a => match M a with
  | some (.lst l) => some l
  | _ => none
 | _ => none
noncomputable def DU (x : AV) : Option (List AV) := match x with
 | .d (.tup l) => some (l.map .d)
 | _ => none
noncomputable def kY (x : AV) (M : MH) : Option (List AV) := match x with
 | .d (.lst l) => some (l.map .d)
 | .d (.tup l) => some (l.map .d)
 | .ref a => match M a with
  | some (.lst l) => some l
  | _ => none
 | _ => none
theorem Xp (l : List Dat) (M : MH) : qu (.d (.lst l)) M = some (l.map .d) := rfl
theorem DQ (l : List Dat) : DU (.d (.tup l)) = some (l.map .d) := rfl
theorem DF (l : List Dat) (M : MH) : kY (.d (.lst l)) M = some (l.map .d) := rfl
theorem DH (l : List Dat) (M : MH) : kY (.d (.tup l)) M = some (l.map .d) := rfl
theorem jL {a : Addr} {M : MH} {l : List AV} (h : M a = some (.lst l)) : qu (.ref a) M = some l := by unfold qu; dsimp only; rw [h]
theorem ql {a : Addr} {M : MH} {l : List AV} (h : M a = some (.lst l)) : kY (.ref a) M = some l := by unfold kY; dsimp only; rw [h]
theorem Yt {x : AV} {M : MH} {l : List AV} (h : qu x M = some l) : (∃ m, x = .d (.lst m) /\ l = m.map .d) \/ ∃ a, x = .ref a /\ M a = some (.lst l) := by
 cases x with
 | d x =>
  cases x with
  | lst m => cases h; exact .inl ⟨m, rfl, rfl⟩
  | _ => cases h
 | ref a =>
  unfold qu at h
  dsimp only at h
  cases e : M a with
  | none => rw [e] at h; cases h
  | some o =>
   rw [e] at h
   cases o with
   | lst m => cases h; exact .inr ⟨a, rfl, e⟩
   | _ => cases h
theorem kP {x : AV} {M : MH} {l : List AV} (h : kY x M = some l) : qu x M = some l \/ ∃ m, x = .d (.tup m) /\ l = m.map .d := by
 cases x with
 | d x =>
  cases x with
  | lst m => cases h; exact .inl rfl
  | tup m => cases h; exact .inr ⟨m, rfl, rfl⟩
  | _ => cases h
 | ref a => exact .inl h
theorem qw {H : Hp} {O : Own} {M : MH} {v : V} {x : AV} {l : List AV} (w : Wf H O M) (r : zt H O M v x) (h : qu x M = some l) : ∃ a xs, v = .ref a /\ H a = some (.lst xs) /\ zl H O M xs l := by
 rcases Yt h with ⟨m, rfl, rfl⟩ | ⟨a, rfl, e⟩
 ·cases (show Rep H O v (.lst m) from r) with
  | @lst a xs _ o1 h1 l1 r1 => exact ⟨a, xs, rfl, h1, KA.av ⟨l1, r1⟩⟩
 ·obtain ⟨xs, h1, r1⟩ := w.mo a _ e
  exact ⟨a, xs, r.1, h1, r1⟩
theorem jh {H : Hp} {O : Own} {M : MH} {v : V} {x : AV} {l : List AV} (r : zt H O M v x) (h : DU x = some l) : ∃ a xs, v = .ref a /\ H a = some (.tup xs) /\ zl H O M xs l := by
 cases x with
 | ref a => cases h
 | d x =>
  cases x with
  | tup m =>
   cases h
   cases (show Rep H O v (.tup m) from r) with
   | @tup a xs _ o1 h1 l1 r1 => exact ⟨a, xs, rfl, h1, KA.av ⟨l1, r1⟩⟩
  | _ => cases h
theorem Zz {H : Hp} {O : Own} {M : MH} {v : V} {x : AV} {l : List AV} (w : Wf H O M) (r : zt H O M v x) (h : kY x M = some l) : ∃ a xs, v = .ref a /\ (H a = some (.lst xs) \/ H a = some (.tup xs)) /\ zl H O M xs l := by
 rcases kP h with e | ⟨m, rfl, rfl⟩
 ·obtain ⟨a, xs, h1, h2, h3⟩ := qw w r e; exact ⟨a, xs, h1, .inl h2, h3⟩
 ·obtain ⟨a, xs, h1, h2, h3⟩ := jh (l := m.map .d) r rfl; exact ⟨a, xs, h1, .inr h2, h3⟩
structure Qa (t : ww) (a : AV -> AV -> AV -> MH -> (MH -> Prop) -> Prop) : Prop where
 go : ∀ {o i v : V} {ao ai av : AV} {H : Hp} {O : Own} {M : MH} {Q : Hp -> Prop} {Q' : MH -> Prop}, Wf H O M -> zt H O M o ao -> zt H O M i ai -> zt H O M v av -> a ao ai av M Q' -> (∀ M' H' O', Q' M' -> Ext H O M H' O' M' -> Wf H' O' M' -> Q H') -> t o i v H Q
noncomputable def Au (a b : AE) (s : AV -> AV -> AV -> MH -> (MH -> Prop) -> Prop) : AG := fun x ρ M Q => a ρ M fun o M1 => b ρ M1 fun i M2 => s o i x M2 fun M3 => Q ρ M3
theorem YS {to ti : TE} {t : ww} {a b : AE} {s : AV -> AV -> AV -> MH -> (MH -> Prop) -> Prop} (h1 : zG to a) (h2 : zG ti b) (h3 : Qa t s) : yS (Bo to ti t) (Au a b s) := ⟨fun w e r q k =>
 h1.go w e q fun x M1 v H1 O1 q1 k1 w1 r1 => h2.go w1 (e.ext k1) q1 fun y M2 u H2 O2 q2 k2 w2 r2 => h3.go w2 (r1.ext k2) r2 (r.ext (k1.trans k2)) q2 fun M3 H3 O3 q3 k3 w3 => k _ _ _ _ _ q3 ((k1.trans k2).trans k3) w3 (e.ext ((k1.trans k2).trans k3))⟩
theorem jl {M : MH} {p : Addr} {o : MO} (h : M p = some o) : M p ≠ none := by rw [h]; exact fun z => nomatch z
noncomputable def asL : AV -> AV -> AV -> MH -> (MH -> Prop) -> Prop := fun o i v M Q => ∃ p l k j, o = .ref p /\ i = .d (.int k) /\ M p = some (.lst l) /\ ixN l.length k = some j /\ Q (mup M p (.lst (l.set j v)))
theorem YI : Qa Qw asL := ⟨fun w ro ri rv q k => by
 obtain ⟨p, l, n, j, rfl, rfl, hm, hj, q⟩ := q
 obtain ⟨xs, hx, rx⟩ := w.mo p _ hm
 have np := jl hm
 refine ⟨n, zF ri, p, ro.1, xs, hx, j, by rw [rx.1]; exact hj, k _ _ _ q (xS w np _ _) (Vg w np (fun _ z => nomatch z) ⟨_, ze, (rx.set rv j).ext (xS w np _ _)⟩)⟩⟩
noncomputable def B1 (a : AE) (g : AG) : AS := fun _ D ρ M => a ρ M fun x M1 => g x ρ M1 D.nx
theorem WJ {t : TE} {g : TG} {a : AE} {ag : AG} (h : zG t a) (hg : yS g ag) : je (JM t g) (B1 a ag) := ⟨fun _ w e x q E => h.go w e q fun y M1 v H1 O1 q1 k1 w1 r1 => hg.go w1 (e.ext k1) r1 q1 fun σ2 H2 O2 ρ2 M2 q2 k2 w2 e2 => E.nx _ _ _ _ _ w2 e2 ((x.trans k1).trans k2) q2⟩
noncomputable def Fd (i j : Nat) (a : AA) : AS := fun _ D ρ M => a ρ M fun xs M1 => ∃ x y, xs = [x, y] /\ D.nx ((ρ.set i (some x)).set j (some y)) M1
theorem Wi {i j : Nat} {t : TA} {a : AA} (h : ju t a) : je (EH i j t) (Fd i j a) := ⟨fun _ w e x q E => h.go w e q fun ys M1 vs H1 O1 q1 k1 w1 r1 => by
 obtain ⟨y, z, rfl, q2⟩ := q1
 obtain ⟨v1, r', rfl, a1, r2⟩ := r1.cons_inv
 obtain ⟨v2, r', rfl, a2, r3⟩ := r2.cons_inv
 rw [r3.nil_inv]
 exact ⟨v1, v2, rfl, E.nx _ _ _ _ _ w1 (((e.ext k1).set a1 i).set a2 j) (x.trans k1) q2⟩⟩
noncomputable def Ax (i j m : Nat) (a : AA) : AS := fun _ D ρ M => a ρ M fun xs M1 => ∃ x y z, xs = [x, y, z] /\ D.nx (((ρ.set i (some x)).set j (some y)).set m (some z)) M1
theorem Vh {i j m : Nat} {t : TA} {a : AA} (h : ju t a) : je (XO i j m t) (Ax i j m a) := ⟨fun _ w e x q E => h.go w e q fun ys M1 vs H1 O1 q1 k1 w1 r1 => by
 obtain ⟨y, z, u, rfl, q2⟩ := q1
 obtain ⟨v1, r', rfl, a1, r2⟩ := r1.cons_inv
 obtain ⟨v2, r', rfl, a2, r3⟩ := r2.cons_inv
 obtain ⟨v3, r', rfl, a3, r4⟩ := r3.cons_inv
 rw [r4.nil_inv]
 exact ⟨v1, v2, v3, rfl, E.nx _ _ _ _ _ w1 ((((e.ext k1).set a1 i).set a2 j).set a3 m) (x.trans k1) q2⟩⟩
structure Ap (t : TIp) (a : AR2) : Prop where
 go : ∀ {x y : V} {dx dy : AV} {H : Hp} {O : Own} {M : MH} {Q : VK} {Q' : AK}, Wf H O M -> zt H O M x dx -> zt H O M y dy -> a dx dy M Q' -> (∀ x M' v H' O', Q' x M' -> Ext H O M H' O' M' -> Wf H' O' M' -> zt H' O' M' v x -> Q v H') -> t x y H Q
noncomputable def AL (ao ai ae : AE) (gt ip : AR2) (st : AV -> AV -> AV -> MH -> (MH -> Prop) -> Prop) : AS := fun _ D ρ M => ao ρ M fun o M1 => ai ρ M1 fun i M2 => gt o i M2 fun x M3 => ae ρ M3 fun y M4 => ip x y M4 fun z M5 => st o i z M5 fun M6 => D.nx ρ M6
theorem KG {to ti te : TE} {tg : V -> V -> Hp -> VK -> Prop} {tip : TIp} {ts : ww} {ao ai ae : AE} {gt ip : AR2} {st : AV -> AV -> AV -> MH -> (MH -> Prop) -> Prop} (h1 : zG to ao) (h2 : zG ti ai) (h3 : xa tg gt) (h4 : zG te ae) (h5 : Ap tip ip) (h6 : Qa ts st) :
  je (Vp to ti te tg tip ts) (AL ao ai ae gt ip st) := ⟨fun _ w e x q E => h1.go w e q fun o M1 v1 H1 O1 q1 k1 w1 r1 => h2.go w1 (e.ext k1) q1 fun i M2 v2 H2 O2 q2 k2 w2 r2 => h3.go w2 (r1.ext k2) r2 q2 fun y M3 v3 H3 O3 q3 k3 w3 r3 =>
  h4.go w3 (e.ext ((k1.trans k2).trans k3)) q3 fun z M4 v4 H4 O4 q4 k4 w4 r4 => h5.go w4 (r3.ext k4) r4 q4 fun z5 M5 v5 H5 O5 q5 k5 w5 r5 => h6.go w5 (r1.ext (((k2.trans k3).trans k4).trans k5)) (r2.ext ((k3.trans k4).trans k5)) r5 q5 fun M6 H6 O6 q6 k6 w6 =>
   E.nx _ _ _ _ _ w6 (e.ext (((((k1.trans k2).trans k3).trans k4).trans k5).trans k6)) (x.trans (((((k1.trans k2).trans k3).trans k4).trans k5).trans k6)) q6⟩
noncomputable def yB (J : It) (H : Hp) (O : Own) (M : MH) (l : List AV) (G : MH -> Prop) : Prop :=
 ∀ (H' : Hp) (O' : Own) (M' : MH), (∀ a o, ¬ O a -> H a = some o -> H' a = some o /\ ¬ O' a) -> (∀ a, M a ≠ none -> M' a ≠ none) -> Wf H' O' M' -> G M' -> ∀ i : Nat, (i = l.length -> J.stop i H') /\
  ∀ y, l[i]? = some y -> J.go i H' /\ ∀ x H'', J.yld i H' x H'' -> Ext H' O' M' H'' O' M' /\ Wf H'' O' M' /\ zt H'' O' M' x y
structure Kh (wi : TI) (ai : AI) : Prop where
 go : ∀ {σ : St} {H : Hp} {O : Own} {ρ : ASt} {M : MH} {R : It -> Hp -> Prop} {R' : List AV -> (MH -> Prop) -> MH -> Prop}, Wf H O M -> Er H O M σ ρ -> ai ρ M R' -> (∀ l G M' J H' O', R' l G M' -> Ext H O M H' O' M' -> Wf H' O' M' -> yB J H' O' M' l G -> R J H') -> wi σ H R
noncomputable def Fb (ag : AG) (ab : AS) (B : MH) (D : kL) (G : MH -> Prop) (l : List AV) (ρ : ASt) (M : MH) : Prop :=
 ∃ Pv : Nat -> ASt -> MH -> Prop, Pv 0 ρ M /\ (∀ i x ρ M, l[i]? = some x -> Pv i ρ M -> G M /\ ag x ρ M fun ρ' M' => ab B { D with nx := Pv (i + 1), ct := Pv (i + 1), bk := D.nx } ρ' M') /\ ∀ ρ M, Pv l.length ρ M -> G M /\ D.nx ρ M
noncomputable def E7 (ai : AI) (ag : AG) (ab : AS) : AS := fun _ D ρ M => ai ρ M fun l G M1 => Fb ag ab M1 D G l ρ M1
theorem Vw {wi : TI} {g : TG} {t : TS} {ai : AI} {ag : AG} {ab : AS} (hi : Kh wi ai) (hg : yS g ag) (hb : je t ab) : je (Dj wi g t) (E7 ai ag ab) := ⟨fun {H0 O0 M0 D D' σ H O ρ M} w0 w e x q E => by
 rw [QZ]
 refine hi.go w e q fun l G M1 J H1 O1 q1 k1 w1 hj => ?_
 have E1 := E.tr (x.trans k1)
 obtain ⟨Pv, p0, ps, pd⟩ := q1
 refine ⟨fun i m σ H => m = l.length - i /\ i <= l.length /\ ∃ O ρ M, Wf H O M /\ Er H O M σ ρ /\ Ext H1 O1 M1 H O M /\ Pv i ρ M, ⟨l.length, by simp, Nat.zero_le _, O1, ρ, M1, w1, e.ext k1, .refl, p0⟩, ?_⟩
 rintro i m σ H ⟨rfl, hi, O, ρ, M, w, e, x, hf⟩
 by_cases hil : i < l.length
 ·have hy : l[i]? = some l[i] := List.getElem?_eq_getElem hil
  obtain ⟨hG, q2⟩ := ps i l[i] ρ M hy hf
  obtain ⟨j1, j2⟩ := (hj H O M x.fix x.mst w hG i).2 l[i] hy
  refine .inr ⟨j1, fun σ' H' => ∃ O ρ M, Wf H' O M /\ Er H' O M σ' ρ /\ Ext H1 O1 M1 H' O M /\ Pv (i + 1) ρ M, fun σ' H' z => ⟨l.length - (i + 1), by omega, rfl, hil, z⟩, fun v H' hv => ?_⟩
  obtain ⟨k2, w2, r2⟩ := j2 v H' hv
  refine hg.go w2 (e.ext k2) r2 q2 fun σ3 H3 O3 ρ3 M3 q3 k3 w3 e3 => ?_
  exact hb.go w1 w3 e3 ((x.trans k2).trans k3) q3 ⟨fun σ H O ρ M w e x q => ⟨O, ρ, M, w, e, x, q⟩, E1.rt, E1.nx, fun σ H O ρ M w e x q => ⟨O, ρ, M, w, e, x, q⟩⟩
 ·have e0 : i = l.length := by omega
  subst e0
  obtain ⟨hG, q2⟩ := pd ρ M hf
  exact .inl ⟨(hj H O M x.fix x.mst w hG l.length).1 rfl, E1.nx _ _ _ _ _ w e x q2⟩⟩
end L2
set_option Elab.async false
set_option linter.all false
set_option maxRecDepth 100000
set_option maxHeartbeats 4000000
namespace L2
open PySem PySem.Spec PyProof.Rows
theorem yv {H H1 : Hp} {O O1 : Own} {M M1 : MH} (w1 : Wf H1 O1 M1) (k1 : Ext H O M H1 O1 M1) {p : Addr} (hp : H1 p = none) : H p = none := by
 cases e0 : H p with
 | none => rfl
 | some o =>
  exfalso
  by_cases c : O p
  ·by_cases c2 : M p = none
   ·exact w1.ne p (k1.prv p c c2).2.1 hp
   ·exact w1.ne p (w1.own p (k1.mst p c2)) hp
  ·rw [(k1.fix p o c e0).1] at hp; cases hp
theorem J5 {K : PySem.W.Frag} {H : Hp} {O : Own} {M : MH} {a : Addr} {x : AV} {l : List AV} (r : zt H O M (.ref a) x) (h : qu x M = some l) : yB (Itl K a) H O M l (fun M' => qu x M' = some l) := by
 intro H' O' M' fix mst w' hG i
 obtain ⟨a', xs, e, h1, r1⟩ := qw w' (r.imp fix mst) hG
 cases e
 refine ⟨fun e => ⟨xs, SqL.of h1, by rw [r1.1]; omega⟩, fun y hy => ?_⟩
 obtain ⟨v, hv, rv⟩ := r1.get hy
 refine ⟨⟨xs, v, SqL.of h1, hv⟩, fun z H'' hz => ?_⟩
 obtain ⟨e1, e2⟩ := hz
 subst e1
 have := e2 xs (SqL.of h1)
 rw [hv] at this; cases this
 exact ⟨.refl, w', rv⟩
theorem Vc {K : PySem.W.Frag} {H : Hp} {O : Own} {M : MH} {a : Addr} {x : AV} {l : List AV} (r : zt H O M (.ref a) x) (h : DU x = some l) : yB (Itt K a) H O M l (fun _ => True) := by
 intro H' O' M' fix mst w' hG i
 obtain ⟨a', xs, e, h1, r1⟩ := jh (r.imp fix mst) h
 cases e
 refine ⟨fun e => ⟨xs, SqT.of h1, by rw [r1.1]; omega⟩, fun y hy => ?_⟩
 obtain ⟨v, hv, rv⟩ := r1.get hy
 refine ⟨⟨xs, v, SqT.of h1, hv⟩, fun z H'' hz => ?_⟩
 obtain ⟨e1, e2⟩ := hz
 subst e1
 have := e2 xs (SqT.of h1)
 rw [hv] at this; cases this
 exact ⟨.refl, w', rv⟩
noncomputable def aiS (a : AE) : AI := fun ρ M R => a ρ M fun x M1 => ∃ l, kY x M1 = some l /\ R l (fun M' => kY x M' = some l) M1
theorem yB.mono {J : It} {H : Hp} {O : Own} {M : MH} {l : List AV} {G G' : MH -> Prop} (h : yB J H O M l G) (k : ∀ M, G' M -> G M) : yB J H O M l G' := fun H' O' M' fix mst w' hG => h H' O' M' fix mst w' (k _ hG)
theorem DZ {K : PySem.W.Frag} {t : TE} {a : AE} (h : zG t a) : Kh (iLT K t) (aiS a) := ⟨fun w e q k => h.go w e q fun x M1 v H1 O1 ⟨l, hl, q1⟩ k1 w1 r1 => by
 rcases kP hl with hl' | ⟨m, rfl, rfl⟩
 ·obtain ⟨a, xs, rfl, h1, _⟩ := qw w1 r1 hl'
  refine ⟨a, rfl, .inl ⟨⟨xs, SqL.of h1⟩, k _ _ _ _ _ _ q1 k1 w1 ((J5 r1 hl').mono fun M hM => ?_)⟩⟩
  rcases kP hM with z | ⟨m, rfl, rfl⟩
  ·exact z
  ·cases hl'
 ·obtain ⟨a, xs, rfl, h1, _⟩ := jh (l := m.map .d) r1 rfl
  exact ⟨a, rfl, .inr ⟨⟨xs, SqT.of h1⟩, k _ _ _ _ _ _ q1 k1 w1 ((Vc r1 rfl).mono fun _ _ => trivial)⟩⟩⟩
noncomputable def Kw (lo c : Int) (n : Nat) : List AV := (List.range n).map fun (k : Nat) => .d (.int (lo + (k : Int) * c))
theorem Za (lo c : Int) (n : Nat) : (Kw lo c n).length = n := by simp [Kw]
theorem kM {lo c : Int} {n i : Nat} {y : AV} (h : (Kw lo c n)[i]? = some y) : i < n /\ y = .d (.int (lo + (i : Int) * c)) := by
 have hi := (List.getElem?_eq_some_iff.mp h).1
 rw [Za] at hi
 unfold Kw at h
 rw [List.getElem?_map, List.getElem?_range hi] at h
 cases h
 exact ⟨hi, rfl⟩
theorem Y0 {H : Hp} {O : Own} {M : MH} (lo : Int) (n : Nat) : yB (Itr lo n) H O M (Kw lo 1 n) (fun _ => True) := by
 intro H' O' M' fix mst w' hG i
 refine ⟨fun e => by rw [Za] at e; exact Nat.le_of_eq e.symm, fun y hy => ?_⟩
 obtain ⟨hi, rfl⟩ := kM hy
 refine ⟨hi, fun z H'' hz => ?_⟩
 obtain ⟨rfl, rfl⟩ := hz
 rw [Int.mul_one]
 exact ⟨.refl, w', .int⟩
noncomputable def Ft (a : AA) : AI := fun ρ M R => a ρ M fun xs M1 => ∃ j : Int, xs = [.d (.int j)] /\ -(2 ^ 62) <= j /\ j < 2 ^ 62 /\ R (Kw 0 1 j.toNat) (fun _ => True) M1
theorem WG {t : TA} {a : AA} (h : ju t a) : Kh (Yk t) (Ft a) := ⟨fun w e q k => h.go w e q fun x M1 v H1 O1 ⟨j, e1, j1, j2, q1⟩ k1 w1 r1 => by
 subst e1
 obtain ⟨v1, r', rfl, a1, r2⟩ := r1.cons_inv
 rw [r2.nil_inv, zF a1]
 exact ⟨j, rfl, j1, j2, k _ _ _ _ _ _ q1 k1 w1 (Y0 _ _)⟩⟩
theorem Zs {H : Hp} {O : Own} {M : MH} (w : Wf H O M) {p : Addr} (hp : H p = none) {x y : V} {d e : Dat} (r1 : Rep H O x d) (r2 : Rep H O y e) : Ext H O M (upd H p (.tup [x, y])) O M /\ Wf (upd H p (.tup [x, y])) O M /\ zt (upd H p (.tup [x, y])) O M (.ref p) (.d (.tup [d, e])) :=
 ⟨qP w hp _, ya w hp _, Rep.tup (w.fresh hp).1 ze rfl fun i z f h1 h2 => by
  match i, h1, h2 with
  | 0, h1, h2 => cases h1; cases h2; exact r1.ext (qP w hp _)
  | 1, h1, h2 => cases h1; cases h2; exact r2.ext (qP w hp _)
  | (i + 2), h1, _ => cases h1⟩
noncomputable def vQ (m n : List Dat) : List AV := (List.range (min m.length n.length)).map fun (i : Nat) => .d (.tup [m.getD i .non, n.getD i .non])
theorem jQ (m n : List Dat) : (vQ m n).length = min m.length n.length := by simp [vQ]
theorem yA {m n : List Dat} {i : Nat} {y : AV} (h : (vQ m n)[i]? = some y) : ∃ d e, m[i]? = some d /\ n[i]? = some e /\ y = .d (.tup [d, e]) := by
 have hi := (List.getElem?_eq_some_iff.mp h).1
 rw [jQ] at hi
 unfold vQ at h
 rw [List.getElem?_map, List.getElem?_range hi] at h
 cases h
 have h1 : i < m.length := by omega
 have h2 : i < n.length := by omega
 exact ⟨m[i], n[i], List.getElem?_eq_getElem h1, List.getElem?_eq_getElem h2, by dsimp only; rw [List.getD_eq_getElem?_getD, List.getElem?_eq_getElem h1, List.getD_eq_getElem?_getD, List.getElem?_eq_getElem h2]; rfl⟩
theorem YH {K : PySem.W.Frag} {H : Hp} {O : Own} {M : MH} {a b : Addr} {x y : AV} {m n : List Dat} (r : zt H O M (.ref a) x) (h : qu x M = some (m.map .d)) (r' : zt H O M (.ref b) y) (h' : qu y M = some (n.map .d)) : yB (Itz K a b) H O M (vQ m n) (fun M' => qu x M' = some (m.map .d) /\ qu y M' = some (n.map .d)) := by
 intro H' O' M' fix mst w' hG i
 obtain ⟨a', xs, e, h1, r1⟩ := qw w' (r.imp fix mst) hG.1
 cases e
 obtain ⟨b', ys, e, h2, r2⟩ := qw w' (r'.imp fix mst) hG.2
 cases e
 have l1 := r1.1
 have l2 := r2.1
 rw [List.length_map] at l1 l2
 refine ⟨fun e => ⟨xs, ys, SqL.of h1, SqL.of h2, by rw [jQ] at e; omega⟩, fun z hz => ?_⟩
 obtain ⟨d, f, hd, hf, rfl⟩ := yA hz
 obtain ⟨v, hv, rv⟩ := r1.get (i := i) (d := .d d) (by rw [List.getElem?_map, hd]; rfl)
 obtain ⟨u, hu, ru⟩ := r2.get (i := i) (d := .d f) (by rw [List.getElem?_map, hf]; rfl)
 refine ⟨⟨xs, ys, v, u, SqL.of h1, SqL.of h2, hv, hu⟩, fun z H'' hz => ?_⟩
 obtain ⟨p, x', y', hp, rfl, e2, e3, rfl⟩ := hz
 have := e2 xs (SqL.of h1)
 rw [hv] at this; cases this
 have := e3 ys (SqL.of h2)
 rw [hu] at this; cases this
 exact Zs w' hp rv ru
theorem JN {K : PySem.W.Frag} {H : Hp} {O : Own} {M : MH} {a b : Addr} {m n : List Dat} (hmn : m.length <= n.length) (r : zt H O M (.ref a) (.d (.tup m))) (r' : zt H O M (.ref b) (.d (.tup n))) : yB (DP K a b) H O M (vQ m n) (fun _ => True) := by
 intro H' O' M' fix mst w' hG i
 obtain ⟨a', xs, e, h1, r1⟩ := jh (l := m.map .d) (r.imp fix mst) rfl
 cases e
 obtain ⟨b', ys, e, h2, r2⟩ := jh (l := n.map .d) (r'.imp fix mst) rfl
 cases e
 have l1 := r1.1
 have l2 := r2.1
 rw [List.length_map] at l1 l2
 refine ⟨fun e => ⟨xs, SqT.of h1, by rw [jQ] at e; omega⟩, fun z hz => ?_⟩
 obtain ⟨d, f, hd, hf, rfl⟩ := yA hz
 obtain ⟨v, hv, rv⟩ := r1.get (i := i) (d := .d d) (by rw [List.getElem?_map, hd]; rfl)
 obtain ⟨u, hu, ru⟩ := r2.get (i := i) (d := .d f) (by rw [List.getElem?_map, hf]; rfl)
 refine ⟨⟨xs, ys, v, u, SqT.of h1, SqT.of h2, hv, hu⟩, fun z H'' hz => ?_⟩
 obtain ⟨p, x', y', hp, rfl, e2, e3, rfl⟩ := hz
 have := e2 xs (SqT.of h1)
 rw [hv] at this; cases this
 have := e3 ys (SqT.of h2)
 rw [hu] at this; cases this
 exact Zs w' hp rv ru
noncomputable def EL (a : AA) : AI := fun ρ M R => a ρ M fun xs M1 => ∃ x y m n, xs = [x, y] /\ ((qu x M1 = some (List.map AV.d m) /\ qu y M1 = some (List.map AV.d n)) \/ (x = .d (.tup m) /\ y = .d (.tup n) /\ m.length <= n.length)) /\ R (vQ m n) (fun M' => qu x M' = qu x M1 /\ qu y M' = qu y M1) M1
theorem W8 {K : PySem.W.Frag} {t : TA} {a : AA} (h : ju t a) : Kh (Z8 K t) (EL a) := ⟨fun w e q k => h.go w e q fun xs M1 v H1 O1 ⟨x, y, m, n, e1, hxy, q1⟩ k1 w1 r1 => by
 subst e1
 obtain ⟨v1, r', rfl, a1, r2⟩ := r1.cons_inv
 obtain ⟨v2, r', rfl, a2, r3⟩ := r2.cons_inv
 rw [r3.nil_inv]
 rcases hxy with ⟨hx, hy⟩ | ⟨rfl, rfl, hmn⟩
 ·obtain ⟨a, xs, rfl, h1, _⟩ := qw w1 a1 hx
  obtain ⟨b, ys, rfl, h2, _⟩ := qw w1 a2 hy
  exact ⟨a, b, rfl, .inl ⟨⟨xs, SqL.of h1⟩, ⟨ys, SqL.of h2⟩, k _ _ _ _ _ _ q1 k1 w1 ((YH a1 hx a2 hy).mono fun _ z => ⟨z.1.trans hx, z.2.trans hy⟩)⟩⟩
 ·obtain ⟨a, xs, rfl, h1, _⟩ := jh (l := m.map .d) a1 rfl
  obtain ⟨b, ys, rfl, h2, _⟩ := jh (l := n.map .d) a2 rfl
  exact ⟨a, b, rfl, .inr ⟨⟨xs, SqT.of h1⟩, ⟨ys, SqT.of h2⟩, k _ _ _ _ _ _ q1 k1 w1 ((JN hmn a1 a2).mono fun _ _ => trivial)⟩⟩⟩
structure xL (D : Addr) (H : Hp) (O : Own) (M : MH) (H' : Hp) (O' : Own) (M' : MH) : Prop where
 fix : ∀ a o, ¬ O a -> H a = some o -> H' a = some o /\ ¬ O' a
 prv : ∀ a, a ≠ D -> O a -> M a = none -> H' a = H a /\ O' a /\ M' a = none
 mst : ∀ a, M a ≠ none -> M' a ≠ none
theorem Ext.x {D : Addr} {H H' : Hp} {O O' : Own} {M M' : MH} (k : Ext H O M H' O' M') : xL D H O M H' O' M' := ⟨k.fix, fun a _ => k.prv a, k.mst⟩
theorem xL.trans {D : Addr} {H H1 H2 : Hp} {O O1 O2 : Own} {M M1 M2 : MH} (a : xL D H O M H1 O1 M1) (b : xL D H1 O1 M1 H2 O2 M2) : xL D H O M H2 O2 M2 :=
 ⟨fun x o h e => let ⟨e1, h1⟩ := a.fix x o h e; b.fix x o h1 e1, fun x hx h e => by
  obtain ⟨e1, h1, n1⟩ := a.prv x hx h e
  obtain ⟨e2, h2, n2⟩ := b.prv x hx h1 n1
  exact ⟨e2.trans e1, h2, n2⟩, fun x h => b.mst x (a.mst x h)⟩
theorem xL.set {D : Addr} {H : Hp} {O : Own} {M : MH} (hO : O D) (o : HO) : xL D H O M (upd H D o) O M := ⟨xV hO o, fun a ha h e => ⟨zg ha, h, e⟩, fun _ h => h⟩
theorem Er.imp {H H' : Hp} {O O' : Own} {M M' : MH} {σ : St} {ρ : ASt} (e : Er H O M σ ρ) (k : ∀ a o, ¬ O a -> H a = some o -> H' a = some o /\ ¬ O' a) (hm : ∀ a, M a ≠ none -> M' a ≠ none) : Er H' O' M' σ ρ := ⟨e.len, fun i x h => let ⟨v, h1, h2⟩ := e.get i x h; ⟨v, h1, h2.imp k hm⟩⟩
noncomputable abbrev ATR := List AV -> ASt -> MH -> (List AV -> ASt -> MH -> Prop) -> Prop
structure Jn (D : Addr) (tr : TR) (a : ATR) : Prop where
 go : ∀ {σ : St} {H : Hp} {O : Own} {ρ : ASt} {M : MH} {acc : List AV} {ys : List V} {N : St -> Hp -> Prop} {N' : List AV -> ASt -> MH -> Prop}, Wf H O M -> Er H O M σ ρ -> O D -> M D = none -> H D = some (.lst ys) -> zl H O M ys acc -> a acc ρ M N' ->
  (∀ acc' ρ' M' σ' H' O' ys', N' acc' ρ' M' -> xL D H O M H' O' M' -> Wf H' O' M' -> Er H' O' M' σ' ρ' -> O' D -> M' D = none -> H' D = some (.lst ys') -> zl H' O' M' ys' acc' -> N σ' H') -> tr σ H N
noncomputable def vo (a : AE) : ATR := fun acc ρ M N => a ρ M fun x M1 => acc.length < sizeLine /\ N (acc ++ [x]) ρ M1
theorem Zt {D : Addr} {t : TE} {a : AE} (h : zG t a) : Jn D (Qf t D) (vo a) := ⟨fun {σ H O ρ M acc ys N N'} w e o m hd r q k => h.go w e q fun x M1 v H1 O1 ⟨q0, q1⟩ k1 w1 r1 => by
 obtain ⟨e1, o1, m1⟩ := k1.prv D o m
 have r' := r.ext k1
 refine ⟨ys, e1.trans hd, by rw [r.1]; exact q0, k _ _ _ _ _ _ (ys ++ [v]) q1 (k1.x.trans (xL.set o1 _)) (ZA w1 o1 m1 (e1.trans hd) _ (fun _ z => nomatch z)) ((e.ext k1).imp (xV o1 _) (fun _ z => z)) o1 m1 ze ((r'.snoc r1).imp (xV o1 _) (fun _ z => z))⟩⟩
noncomputable def V4 (ag : AG) (at_ : AT) (tr : ATR) (G : MH -> Prop) (N : List AV -> ASt -> MH -> Prop) (l acc : List AV) (ρ : ASt) (M : MH) : Prop :=
 ∃ Pv : Nat -> List AV -> ASt -> MH -> Prop, Pv 0 acc ρ M /\ (∀ i x acc ρ M, l[i]? = some x -> Pv i acc ρ M -> G M /\ ag x ρ M fun ρ2 M2 => at_ ρ2 M2 fun b M3 => if b = true then tr acc ρ2 M3 (Pv (i + 1)) else Pv (i + 1) acc ρ2 M3) /\ ∀ acc ρ M, Pv l.length acc ρ M -> G M /\ N acc ρ M
theorem Ey {D : Addr} {g : TG} {tt : TT} {tr : TR} {ag : AG} {at_ : AT} {atr : ATR} (hg : yS g ag) (ht : jV tt at_) (hr : Jn D tr atr) {J : It} {H1 : Hp} {O1 : Own} {M1 : MH} {l : List AV} {G : MH -> Prop} (hj : yB J H1 O1 M1 l G) {N' : List AV -> ASt -> MH -> Prop} {N : St -> Hp -> Prop}
  {σ : St} {ρ : ASt} {acc : List AV} {ys : List V} (w : Wf H1 O1 M1) (e : Er H1 O1 M1 σ ρ) (o : O1 D) (m : M1 D = none) (hd : H1 D = some (.lst ys)) (r : zl H1 O1 M1 ys acc) (q : V4 ag at_ atr G N' l acc ρ M1)
  (k : ∀ acc' ρ' M' σ' H' O' ys', N' acc' ρ' M' -> xL D H1 O1 M1 H' O' M' -> Wf H' O' M' -> Er H' O' M' σ' ρ' -> O' D -> M' D = none -> H' D = some (.lst ys') -> zl H' O' M' ys' acc' -> N σ' H') : CL J g tt tr N σ H1 := by
 obtain ⟨Pv, p0, ps, pd⟩ := q
 refine ⟨fun i n σ H => n = l.length - i /\ i <= l.length /\ ∃ O ρ M acc ys, Wf H O M /\ Er H O M σ ρ /\ xL D H1 O1 M1 H O M /\ O D /\ M D = none /\ H D = some (.lst ys) /\ zl H O M ys acc /\ Pv i acc ρ M,
  ⟨l.length, by simp, Nat.zero_le _, O1, ρ, M1, acc, ys, w, e, Ext.refl.x, o, m, hd, r, p0⟩, ?_⟩
 rintro i n σ H ⟨rfl, hi, O, ρ, M, acc, ys, w, e, x, o, m, hd, r, hf⟩
 by_cases hil : i < l.length
 ·have hy : l[i]? = some l[i] := List.getElem?_eq_getElem hil
  obtain ⟨hG, q2⟩ := ps i l[i] acc ρ M hy hf
  obtain ⟨j1, j2⟩ := (hj H O M x.fix x.mst w hG i).2 l[i] hy
  refine .inr ⟨j1, fun σ' H' => ∃ O ρ M acc ys, Wf H' O M /\ Er H' O M σ' ρ /\ xL D H1 O1 M1 H' O M /\ O D /\ M D = none /\ H' D = some (.lst ys) /\ zl H' O M ys acc /\ Pv (i + 1) acc ρ M, fun σ' H' z => ⟨l.length - (i + 1), by omega, rfl, hil, z⟩, fun v H' hv => ?_⟩
  obtain ⟨k2, w2, r2⟩ := j2 v H' hv
  refine hg.go w2 (e.ext k2) r2 q2 fun σ3 H3 O3 ρ3 M3 q3 k3 w3 e3 => ?_
  refine ht.go w3 e3 q3 fun b M4 H4 O4 q4 k4 w4 => ?_
  have k24 := (k2.trans k3).trans k4
  obtain ⟨d4, o4, m4⟩ := k24.prv D o m
  have r4 := r.ext k24
  cases b with
  | true =>
   exact hr.go w4 (e3.ext k4) o4 m4 (d4.trans hd) r4 q4 fun acc' ρ' M' σ' H' O' ys' q5 k5 w5 e5 o5 m5 d5 r5 => ⟨O', ρ', M', acc', ys', w5, e5, (x.trans k24.x).trans k5, o5, m5, d5, r5, q5⟩
  | false =>
   exact ⟨O4, ρ3, M4, acc, ys, w4, e3.ext k4, x.trans k24.x, o4, m4, d4.trans hd, r4, q4⟩
 ·have e0 : i = l.length := by omega
  subst e0
  obtain ⟨hG, q2⟩ := pd acc ρ M hf
  exact .inl ⟨(hj H O M x.fix x.mst w hG l.length).1 rfl, k _ _ _ _ _ _ _ q2 x w e o m hd r⟩
noncomputable def Q3 (ts : List Nat) (ai : AI) (ag : AG) (at_ : AT) (atr : ATR) : AF := fun ρ M Q => ai ρ M fun l G M1 => V4 ag at_ atr G (fun acc _ M' => Q acc M') l [] (WA ts ρ) M1
theorem Z3 {ts : List Nat} {wi : TI} {g : TG} {tt : TT} {tr : Addr -> TR} {ai : AI} {ag : AG} {at_ : AT} {atr : ATR} (hi : Kh wi ai) (hg : yS g ag) (ht : jV tt at_) (hr : ∀ D, Jn D (tr D) atr) : ZP (Xc ts wi g tt tr) (Q3 ts ai ag at_ atr) := ⟨fun {σ H O ρ M Q Q'} w e q k => by
 refine hi.go w e q fun l G M1 J H1 O1 q1 k1 w1 hj D hD => ?_
 have kp := qR w1 hD (.lst [])
 have hj' : yB J (upd H1 D (.lst [])) (kT O1 D) M1 l G := fun H' O' M' fix mst w' hG => hj H' O' M' (fun a o ha ho => fix a o (kp.fix a o ha ho).2 (kp.fix a o ha ho).1) mst w' hG
 refine Ey hg ht (hr D) hj' (xu w1 hD _ (fun _ z => nomatch z)) (((e.ext k1).clr ts).ext kp) (.inl rfl) (w1.fresh hD).2 ze .nil q1 fun acc' ρ' M' σ' H' O' ys' q5 k5 w5 e5 o5 m5 d5 r5 => ?_
 have hH := yv w1 k1 hD
 refine k _ _ _ _ _ _ q5 ⟨fun a o ha ho => ?_, fun a ha hm => ?_, fun a hm => k5.mst a (k1.mst a hm)⟩ w5 o5 m5 hH d5 r5
 ·obtain ⟨x1, x2⟩ := (k1.trans kp).fix a o ha ho
  exact k5.fix a o x2 x1
 ·obtain ⟨x1, x2, x3⟩ := (k1.trans kp).prv a ha hm
  obtain ⟨y1, y2, y3⟩ := k5.prv a (fun z => w.ne a ha (by rw [z]; exact hH)) x2 x3
  exact ⟨y1.trans x1, y2, y3⟩⟩
theorem JC {ts : List Nat} {wi : TI} {g : TG} {tt : TT} {te : TE} {ai : AI} {ag : AG} {at_ : AT} {ae : AE} (hi : Kh wi ai) (hg : yS g ag) (ht : jV tt at_) (he : zG te ae) : ZP (Zu ts wi g tt te) (Q3 ts ai ag at_ (vo ae)) :=
 ⟨fun w e q k => (Z3 (ts := ts) (tr := Qf te) hi hg ht fun D => Zt he).go w e q k⟩
end L2
set_option Elab.async false
set_option linter.all false
set_option maxRecDepth 100000
set_option maxHeartbeats 4000000
namespace L2
open PySem PySem.Spec PyProof.Rows
noncomputable def aI (C : Int -> Int -> Prop) (g : Int -> Int -> Dat) : AR2 := fun x y M Q => ∃ i j, x = .d (.int i) /\ y = .d (.int j) /\ C i j /\ Q (.d (g i j)) M
noncomputable def aI0 (g : Int -> Int -> Dat) : AR2 := fun x y M Q => ∃ i j, x = .d (.int i) /\ y = .d (.int j) /\ Q (.d (g i j)) M
theorem DA {C : Int -> Int -> Prop} {f : Int -> Int -> Int} : xa (rI C fun i j => .int (f i j)) (aI C fun i j => .int (f i j)) := ⟨fun w r1 r2 ⟨i, j, e1, e2, c, q⟩ k => by
 subst e1 e2; exact ⟨i, j, zF r1, zF r2, c, k _ _ _ _ _ q .refl w .int⟩⟩
theorem VR {f : Int -> Int -> Int} : xa (rI0 fun i j => .int (f i j)) (aI0 fun i j => .int (f i j)) := ⟨fun w r1 r2 ⟨i, j, e1, e2, q⟩ k => by
 subst e1 e2; exact ⟨i, j, zF r1, zF r2, k _ _ _ _ _ q .refl w .int⟩⟩
theorem Xo {f : Int -> Int -> Bool} : xa (rI0 fun i j => .bl (f i j)) (aI0 fun i j => .bl (f i j)) := ⟨fun w r1 r2 ⟨i, j, e1, e2, q⟩ k => by
 subst e1 e2; exact ⟨i, j, zF r1, zF r2, k _ _ _ _ _ q .refl w .bl⟩⟩
theorem WM {f : Int -> Int -> Int} : Ap (ipI f) (aI0 fun i j => .int (f i j)) := ⟨fun w r1 r2 ⟨i, j, e1, e2, q⟩ k => by
 subst e1 e2; exact ⟨i, j, zF r1, zF r2, k _ _ _ _ _ q .refl w .int⟩⟩
noncomputable def aU (g : Int -> Dat) : AV -> MH -> AK -> Prop := fun x M Q => ∃ i, x = .d (.int i) /\ Q (.d (g i)) M
theorem Ek {f : Int -> Int} : Fs (rU fun i => .int (f i)) (aU fun i => .int (f i)) := ⟨fun w r1 ⟨i, e1, q⟩ k => by
 subst e1; exact ⟨i, zF r1, k _ _ _ _ _ q .refl w .int⟩⟩
noncomputable def eqS : Dat -> Dat -> Option Bool
 | .non, .non => some true | .non, .int _ => some false | .int _, .non => some false | .non, .bl _ => some false | .bl _, .non => some false | .non, .str _ => some false | .str _, .non => some false
 | .int i, .int j => some (decide (i = j)) | .bl a, .bl b => some (decide (a = b)) | .str a, .str b => some (decide (a = b))
 | .int _, .str _ => some false | .str _, .int _ => some false | .bl _, .str _ => some false | .str _, .bl _ => some false
 | _, _ => none
noncomputable def qy : AV -> Bool
 | .d .non => true
 | _ => false
theorem Ze {H : Hp} {O : Own} {M : MH} {v : V} {x : AV} (r : zt H O M v x) : decide (v = V.non) = qy x := by
 cases x with
 | ref a => rw [r.1]; rfl
 | d x => cases (show Rep H O v x from r) <;> rfl
noncomputable def D5 (f : Bool -> Bool) : AR2 := fun x y M Q => y = .d .non /\ Q (.d (.bl (f (qy x)))) M
theorem VF : xa (fun x y H Q => y = V.non /\ Q (V.bl (decide (x = V.non))) H) (D5 id) := ⟨fun w r1 r2 ⟨e, q⟩ k => by
 subst e; exact ⟨kX r2, by rw [Ze r1]; exact k _ _ _ _ _ q .refl w .bl⟩⟩
theorem Xv : xa (fun x y H Q => y = V.non /\ Q (V.bl (!decide (x = V.non))) H) (D5 not) := ⟨fun w r1 r2 ⟨e, q⟩ k => by
 subst e; exact ⟨kX r2, by rw [Ze r1]; exact k _ _ _ _ _ q .refl w .bl⟩⟩
theorem QH {H : Hp} {O : Own} {M : MH} {xs : List V} {l : List AV} (r : zl H O M xs l) {i : Int} {x : AV} (h : atI l i = some x) : ∃ v, atI xs i = some v /\ zt H O M v x := by
 unfold atI at h ⊢
 rw [r.1]
 cases e : ixN l.length i with
 | none => rw [e] at h; cases h
 | some j => rw [e] at h; exact r.get h
noncomputable def aIx (s : AV -> MH -> Option (List AV)) : AR2 := fun x y M Q => ∃ l i z, s x M = some l /\ y = .d (.int i) /\ atI l i = some z /\ Q z M
theorem WR {K : PySem.W.Frag} : xa (Yd K) (aIx qu) := ⟨fun w r1 r2 ⟨l, i, z, h, e, hz, q⟩ k => by
 subst e
 obtain ⟨a, xs, rfl, h1, r⟩ := qw w r1 h
 obtain ⟨v, hv, rv⟩ := QH r hz
 exact ⟨a, xs, i, v, rfl, zF r2, SqL.of h1, hv, k _ _ _ _ _ q .refl w rv⟩⟩
theorem Xg {K : PySem.W.Frag} : xa (Jr K) (aIx kY) := ⟨fun w r1 r2 ⟨l, i, z, h, e, hz, q⟩ k => by
 subst e
 obtain ⟨a, xs, rfl, h1, r⟩ := Zz w r1 h
 obtain ⟨v, hv, rv⟩ := QH r hz
 exact ⟨a, xs, i, v, rfl, zF r2, h1.elim (fun h => .inl (SqL.of h)) (fun h => .inr (SqT.of h)), hv, k _ _ _ _ _ q .refl w rv⟩⟩
structure XZ (r : R2) (a : AV -> AV -> MH -> (List AV -> Prop) -> Prop) : Prop where
 go : ∀ {x y : V} {dx dy : AV} {H : Hp} {O : Own} {M : MH} {Q : VK} {Q' : List AV -> Prop}, Wf H O M -> zt H O M x dx -> zt H O M y dy -> a dx dy M Q' -> (∀ l ys, Q' l -> zl H O M ys l -> ∀ p, H p = none -> Q (.ref p) (upd H p (.lst ys))) -> r x y H Q
noncomputable def fOp (r : AV -> AV -> MH -> (List AV -> Prop) -> Prop) (a b : AE) : AF := fun ρ M Q => a ρ M fun x M1 => b ρ M1 fun y M2 => r x y M2 fun l => Q l M2
theorem wj {r : R2} {ra : AV -> AV -> MH -> (List AV -> Prop) -> Prop} {t u : TE} {a b : AE} (hr : XZ r ra) (h1 : zG t a) (h2 : zG u b) : ZP (tOp r t u) (fOp ra a b) :=
 ⟨fun w e q k => h1.go w e q fun x M1 v H1 O1 q1 k1 w1 r1 => h2.go w1 (e.ext k1) q1 fun y M2 u H2 O2 q2 k2 w2 r2 => hr.go w2 (r1.ext k2) r2 q2 fun l ys q3 r3 p hp =>
  k l M2 p ys _ _ q3 ((k1.trans k2).trans (qR w2 hp _)) (xu w2 hp _ (fun _ z => nomatch z)) (.inl rfl) (w2.fresh hp).2 (yv w2 (k1.trans k2) hp) ze (r3.ext (qR w2 hp _))⟩
noncomputable def Br : AV -> AV -> MH -> (List AV -> Prop) -> Prop := fun x y M Q => ∃ l m, qu x M = some l /\ qu y M = some m /\ l.length + m.length <= sizeLine /\ Q (l ++ m)
theorem wF : XZ Vy Br := ⟨fun w r1 r2 ⟨l, m, h1, h2, hs, q⟩ k => by
 obtain ⟨a, xs, rfl, e1, p1⟩ := qw w r1 h1
 obtain ⟨b, ys, rfl, e2, p2⟩ := qw w r2 h2
 exact ⟨a, b, xs, ys, rfl, rfl, e1, e2, by rw [p1.1, p2.1]; exact hs, k _ _ q (p1.append p2)⟩⟩
theorem zl.rep {H : Hp} {O : Own} {M : MH} {xs : List V} {l : List AV} (a : zl H O M xs l) : ∀ k : Nat, zl H O M (List.replicate k xs).flatten (List.replicate k l).flatten
 | 0 => .nil
 | k + 1 => by rw [List.replicate_succ, List.replicate_succ, List.flatten_cons, List.flatten_cons]; exact a.append (zl.rep a k)
noncomputable def DK : AV -> AV -> MH -> (List AV -> Prop) -> Prop := fun x y M Q => ∃ l k, qu x M = some l /\ y = .d (.int k) /\ -(2 ^ 63) <= k /\ k < 2 ^ 63 /\ l.length * k.toNat <= sizeLine /\ Q (List.replicate k.toNat l).flatten
theorem wY : XZ VT DK := ⟨fun w r1 r2 ⟨l, n, h1, e, b1, b2, hs, q⟩ k => by
 subst e
 obtain ⟨a, xs, rfl, e1, p1⟩ := qw w r1 h1
 exact ⟨a, n, xs, rfl, zF r2, e1, b1, b2, by rw [p1.1]; exact hs, k _ _ q (p1.rep _)⟩⟩
noncomputable abbrev AO := ASt -> MH -> (Option Int -> MH -> Prop) -> Prop
structure WZ (t : TO) (a : AO) : Prop where
 go : ∀ {σ : St} {H : Hp} {O : Own} {ρ : ASt} {M : MH} {Q : Option Int -> Hp -> Prop} {Q' : Option Int -> MH -> Prop}, Wf H O M -> Er H O M σ ρ -> a ρ M Q' -> (∀ x M' H' O', Q' x M' -> Ext H O M H' O' M' -> Wf H' O' M' -> Q x H') -> t σ H Q
noncomputable def Fg : AO := fun _ M Q => Q none M
noncomputable def An (a : AE) : AO := fun ρ M Q => a ρ M fun x M1 => ∃ i, x = .d (.int i) /\ Q (some i) M1
theorem VO : WZ wn Fg := ⟨fun w _ q k => k _ _ _ _ q .refl w⟩
theorem YM {t : TE} {a : AE} (h : zG t a) : WZ (X4 t) (An a) := ⟨fun w e q k => h.go w e q fun x M1 v H1 O1 ⟨i, e1, q1⟩ k1 w1 r1 => by
 subst e1; exact ⟨i, zF r1, k _ _ _ _ q1 k1 w1⟩⟩
noncomputable def kN {α : Type} (xs : List α) (lo hi : Option Int) : List α := (xs.drop (HT.sIx xs.length 0 lo)).take (HT.sIx xs.length xs.length hi - HT.sIx xs.length 0 lo)
theorem zl.cut {H : Hp} {O : Own} {M : MH} {xs : List V} {l : List AV} (a : zl H O M xs l) (lo hi : Option Int) : zl H O M (yQ xs lo hi) (kN l lo hi) := by
 unfold yQ kN
 rw [a.1]
 exact (a.drop _).take _
theorem YZ {α β : Type} (f : α -> β) (l : List α) (lo hi : Option Int) : kN (l.map f) lo hi = (kN l lo hi).map f := by
 unfold kN
 rw [List.length_map, <- List.map_drop, <- List.map_take]
theorem Jc {H : Hp} {O : Own} {M : MH} (w : Wf H O M) {p : Addr} (hp : H p = none) {xs : List V} {l : List Dat} (r : zl H O M xs (l.map .d)) : zt (upd H p (.tup xs)) O M (.ref p) (.d (.tup l)) :=
 have r2 := r.pure
 Rep.tup (w.fresh hp).1 ze r2.1 fun i x d e1 e2 => (r2.2 i x d e1 e2).ext (qP w hp _)
noncomputable def Fp (a : AE) (lo hi : AO) : AE := fun ρ M Q => a ρ M fun x M1 => lo ρ M1 fun i M2 => hi ρ M2 fun j M3 => ∃ l, x = .d (.tup l) /\ ¬ (HT.sIx l.length 0 i = 0 /\ HT.sIx l.length l.length j = l.length) /\ Q (.d (.tup (kN l i j))) M3
theorem Af {K : PySem.W.Frag} {t : TE} {tl th : TO} {a : AE} {lo hi : AO} (h1 : zG t a) (h2 : WZ tl lo) (h3 : WZ th hi) : zG (tSl (EM K) t tl th) (Fp a lo hi) :=
 ⟨fun w e q k => h1.go w e q fun x M1 v H1 O1 q1 k1 w1 r1 => h2.go w1 (e.ext k1) q1 fun i M2 H2 O2 q2 k2 w2 => h3.go w2 (e.ext (k1.trans k2)) q2 fun j M3 H3 O3 ⟨l, hl, hn, q3⟩ k3 w3 => by
  subst hl
  obtain ⟨a, xs, rfl, e1, p1⟩ := jh (l := l.map .d) (r1.ext (k2.trans k3)) rfl
  have l1 := p1.1
  rw [List.length_map] at l1
  refine ⟨a, xs, rfl, SqT.of e1, by rw [l1]; exact hn, fun p hp => ?_⟩
  have p2 := p1.cut i j
  rw [YZ] at p2
  exact k _ _ _ _ _ q3 (((k1.trans k2).trans k3).trans (qP w3 hp _)) (ya w3 hp _) (Jc w3 hp p2)⟩
end L2
set_option Elab.async false
set_option linter.all false
set_option maxRecDepth 100000
set_option maxHeartbeats 4000000
namespace L2
open PySem PySem.Spec PyProof.Rows
mutual
noncomputable def eqD : Dat -> Dat -> Bool
 | .non, .non => true
 | .bl a, .bl b => a == b
 | .bl a, .int b => (if a then 1 else 0) == b
 | .int a, .bl b => a == (if b then 1 else 0)
 | .int a, .int b => a == b
 | .str a, .str b => a == b
 | .lst a, .lst b => yE a b
 | .tup a, .tup b => yE a b
 | _, _ => false
noncomputable def yE : List Dat -> List Dat -> Bool
 | [], [] => true
 | a :: r, b :: r' => eqD a b && yE r r'
 | _, _ => false
end
mutual
noncomputable def dp : Dat -> Nat
 | .lst l => dps l + 1
 | .tup l => dps l + 1
 | .rng _ _ _ => 1000
 | .scr _ _ => 1000
 | .ty _ => 1000
 | _ => 0
noncomputable def dps : List Dat -> Nat
 | [] => 0
 | a :: r => max (dp a) (dps r)
end
theorem XJ {l : List Dat} {n : Nat} (h : ∀ d ∈ l, dp d <= n) : dps l <= n := by
 induction l with
 | nil => exact Nat.zero_le _
 | cons a r ih => rw [dps]; exact Nat.max_le.mpr ⟨h a (by simp), ih fun d hd => h d (by simp [hd])⟩
theorem qh {l : List Dat} {d : Dat} (h : d ∈ l) : dp d <= dps l := by
 induction l with
 | nil => cases h
 | cons a r ih =>
  rw [dps]
  rcases List.mem_cons.mp h with rfl | h
  ·exact Nat.le_max_left _ _
  ·exact Nat.le_trans (ih h) (Nat.le_max_right _ _)
theorem jS : ∀ (l m : List Dat), l.length = m.length -> yE l m = (List.range l.length).all fun j => eqD (l.getD j .non) (m.getD j .non)
 | [], [], _ => rfl
 | a :: r, b :: r', h => by
  rw [yE, jS r r' (by simpa using h), List.length_cons, List.range_succ_eq_map, List.all_cons, List.all_map]; rfl
 | [], _ :: _, h => by simp at h
 | _ :: _, [], h => by simp at h
theorem jU : ∀ (l m : List Dat), l.length ≠ m.length -> yE l m = false
 | [], [], h => absurd rfl h
 | a :: r, b :: r', h => by rw [yE, jU r r' (fun z => h (by simp [z])), Bool.and_false]
 | [], _ :: _, h => by simp [yE]
 | _ :: _, [], h => by simp [yE]
theorem Yy (l m : List Dat) : eqD (.lst l) (.tup m) = false := by simp [eqD]
theorem YC (l m : List Dat) : eqD (.tup l) (.lst m) = false := by simp [eqD]
theorem Wc {p : Dat -> Prop} (h : ∀ a, (∀ b, dp b < dp a -> p b) -> p a) (a : Dat) : p a := by
 have : ∀ n a, dp a <= n -> p a := fun n => by
  induction n with
  | zero => intro a ha; exact h a fun b hb => absurd hb (by omega)
  | succ n ih => intro a ha; exact h a fun b hb => ih b (by omega)
 exact this (dp a) a (Nat.le_refl _)
theorem vh {l : List Dat} (h : ∀ d ∈ l, eqD d d = true) : yE l l = true := by
 induction l with
 | nil => rfl
 | cons a r ih => rw [yE, h a (by simp), ih fun d hd => h d (by simp [hd])]; rfl
theorem XR {a : Dat} : dp a < 1000 -> eqD a a = true := by
 refine Wc (p := fun a => dp a < 1000 -> eqD a a = true) (fun a ih ha => ?_) a
 cases a with
 | non => rfl
 | bl b => rw [eqD]; simp
 | int i => rw [eqD]; simp
 | str x => rw [eqD]; simp
 | lst l =>
  rw [eqD]
  rw [dp] at ha ih
  exact vh fun d hd => ih d (by have := qh hd; omega) (by have := qh hd; omega)
 | tup l =>
  rw [eqD]
  rw [dp] at ha ih
  exact vh fun d hd => ih d (by have := qh hd; omega) (by have := qh hd; omega)
 | rng a b c => rw [dp] at ha; omega
 | scr _ l => rw [dp] at ha; omega
 | ty l => rw [dp] at ha; omega
theorem Rep.fn {H : Hp} {O O' : Own} {v : V} {a b : Dat} (r : Rep H O v a) : Rep H O' v b -> dp a < 1000 -> dp b < 1000 -> a = b := by
 induction r generalizing b with
 | non => intro r' _ _; cases r'; rfl
 | bl => intro r' _ _; cases r'; rfl
 | int => intro r' _ _; cases r'; rfl
 | str => intro r' _ _; cases r'; rfl
 | ty => intro r' h _; rw [dp] at h; omega
 | rng _ _ => intro r' h _; rw [dp] at h; omega
 | scr _ _ => intro r' h _; rw [dp] at h; omega
 | scrK _ => intro r' h _; rw [dp] at h; omega
 | @lst a xs l o1 h1 l1 r1 ih =>
  intro r' ha hb
  cases r' with
  | @lst _ ys m o2 h2 l2 r2 =>
   rw [h1] at h2; cases h2
   congr 1
   refine List.ext_getElem (l1.symm.trans l2) fun i i1 i2 => ?_
   have i0 : i < xs.length := by omega
   rw [dp] at ha hb
   refine ih i xs[i] l[i] (by simp [i0]) (by simp [i1]) (r2 i xs[i] m[i] (by simp [i0]) (by simp [i2])) ?_ ?_
   ·have := qh (List.getElem_mem i1); omega
   ·have := qh (List.getElem_mem i2); omega
  | @tup _ ys m o2 h2 => rw [h1] at h2; cases h2
  | rng o2 h2 => rw [dp] at hb; omega
  | scr o2 h2 => rw [dp] at hb; omega
  | scrK _ => rw [dp] at hb; omega
 | @tup a xs l o1 h1 l1 r1 ih =>
  intro r' ha hb
  cases r' with
  | @tup _ ys m o2 h2 l2 r2 =>
   rw [h1] at h2; cases h2
   congr 1
   refine List.ext_getElem (l1.symm.trans l2) fun i i1 i2 => ?_
   have i0 : i < xs.length := by omega
   rw [dp] at ha hb
   refine ih i xs[i] l[i] (by simp [i0]) (by simp [i1]) (r2 i xs[i] m[i] (by simp [i0]) (by simp [i2])) ?_ ?_
   ·have := qh (List.getElem_mem i1); omega
   ·have := qh (List.getElem_mem i2); omega
  | @lst _ ys m o2 h2 => rw [h1] at h2; cases h2
  | rng o2 h2 => rw [dp] at hb; omega
  | scr o2 h2 => rw [dp] at hb; omega
  | scrK _ => rw [dp] at hb; omega
section
variable {X : Cx} {pins : List (Addr × Obj)} {s : Shared} {σ : St} {H : Hp}
theorem jX {xs : List V} {us : List Value} (r : zB xs us) {j : Nat} (h : j < us.toArray.size) : ∃ x, xs[j]? = some x /\ zA x us.toArray[j] := by
 have h' : j < us.length := by simpa using h
 have hx : j < xs.length := by rw [r.length]; exact h'
 obtain ⟨u, hu, ru⟩ := r.get (i := j) (List.getElem?_eq_getElem hx)
 have e : us.toArray[j] = u := by
  have := (List.getElem?_eq_some_iff.mp hu).2
  simpa using this
 exact ⟨xs[j], List.getElem?_eq_getElem hx, by rw [e]; exact ru⟩
theorem Xn (I : Inv X pins σ H s) {A : Around} {p q : Addr} {O O' : Own} {a b : Dat} (ih : ∀ (c d : Dat) (v u : V) (v' u' : Value), dp c < dp a -> Rep H O v c -> Rep H O' u d -> dp d < 1000 -> zA v v' -> zA u u' -> SeqAt.EqAt A.in1 s v' u' (eqD c d))
    (ra : Rep H O (.ref p) a) (rb : Rep H O' (.ref q) b) (ha : dp a < 1000) (hb : dp b < 1000) (hu : A.units < cLine) : SeqAt.RcAt A s (.ref p) (.ref q) (eqD a b) := by
  cases ra with
  | @lst _ xs l o1 h1 l1 r1 =>
    obtain ⟨us, u1, p1, z1⟩ := I.list (SqL.of h1)
    cases rb with
    | @lst _ ys m o2 h2 l2 r2 =>
      obtain ⟨ws, u2, p2, z2⟩ := I.list (SqL.of h2)
      have s1 : us.toArray.size = l.length := by rw [List.size_toArray, <- u1.length, l1]
      have s2 : ws.toArray.size = m.length := by rw [List.size_toArray, <- u2.length, l2]
      by_cases e : l.length = m.length
      · have h := SeqAt.RcAt.lists (A := A) (e := fun j => eqD (l.getD j .non) (m.getD j .non)) p1.isList p2.isList (by rw [s1, s2, e]) hu (fun j j1 j2 => by
          obtain ⟨x, hx, rx⟩ := jX u1 j1
          obtain ⟨y, hy, ry⟩ := jX u2 j2
          have k1 : j < l.length := by rw [<- s1]; exact j1
          have k2 : j < m.length := by rw [<- s2]; exact j2
          rw [dp] at ha hb ih
          refine ih _ _ x y _ _ ?_ (r1 j x _ hx ?_) (r2 j y _ hy ?_) ?_ rx ry
          · rw [List.getD_eq_getElem?_getD, List.getElem?_eq_getElem k1]
            have := qh (List.getElem_mem k1); show dp l[j] < _; omega
          · rw [List.getD_eq_getElem?_getD, List.getElem?_eq_getElem k1]; rfl
          · rw [List.getD_eq_getElem?_getD, List.getElem?_eq_getElem k2]; rfl
          · rw [List.getD_eq_getElem?_getD, List.getElem?_eq_getElem k2]
            have := qh (List.getElem_mem k2); show dp m[j] < _; omega)
        rw [s1, <- jS l m e] at h
        rw [eqD]; exact h
      · rw [eqD, jU l m e]
        exact SeqAt.RcAt.lists_lengths p1.isList p2.isList (by rw [s1, s2]; simpa using e) hu
    | @tup _ ys m o2 h2 l2 r2 =>
      obtain ⟨ws, u2, p2, z2⟩ := I.tuple (SqT.of h2)
      rw [Yy]
      exact SeqAt.RcAt.list_tuple p1.isList p2 hu
    | rng o2 h2 => rw [dp] at hb; omega
    | scr o2 h2 => rw [dp] at hb; omega
    | scrK _ => rw [dp] at hb; omega
  | @tup _ xs l o1 h1 l1 r1 =>
    obtain ⟨us, u1, p1, z1⟩ := I.tuple (SqT.of h1)
    cases rb with
    | @tup _ ys m o2 h2 l2 r2 =>
      obtain ⟨ws, u2, p2, z2⟩ := I.tuple (SqT.of h2)
      have s1 : us.toArray.size = l.length := by rw [List.size_toArray, <- u1.length, l1]
      have s2 : ws.toArray.size = m.length := by rw [List.size_toArray, <- u2.length, l2]
      have h := SeqAt.RcAt.tuples (A := A) (e := fun j => eqD (l.getD j .non) (m.getD j .non)) (show s.heap.IsTuple p us.toArray from p1) (show s.heap.IsTuple q ws.toArray from p2) hu (fun j j1 j2 => by
          obtain ⟨x, hx, rx⟩ := jX u1 j1
          obtain ⟨y, hy, ry⟩ := jX u2 j2
          have k1 : j < l.length := by rw [<- s1]; exact j1
          have k2 : j < m.length := by rw [<- s2]; exact j2
          rw [dp] at ha hb ih
          refine ih _ _ x y _ _ ?_ (r1 j x _ hx ?_) (r2 j y _ hy ?_) ?_ rx ry
          · rw [List.getD_eq_getElem?_getD, List.getElem?_eq_getElem k1]
            have := qh (List.getElem_mem k1); show dp l[j] < _; omega
          · rw [List.getD_eq_getElem?_getD, List.getElem?_eq_getElem k1]; rfl
          · rw [List.getD_eq_getElem?_getD, List.getElem?_eq_getElem k2]; rfl
          · rw [List.getD_eq_getElem?_getD, List.getElem?_eq_getElem k2]
            have := qh (List.getElem_mem k2); show dp m[j] < _; omega)
      rw [s1, s2] at h
      rw [eqD]
      by_cases e : l.length = m.length
      · rw [<- e, Nat.min_self, beq_self_eq_true, Bool.and_true, <- jS l m e] at h
        exact h
      · rw [jU l m e]
        rw [show (l.length == m.length) = false by simpa using e, Bool.and_false] at h
        exact h
    | @lst _ ys m o2 h2 l2 r2 =>
      obtain ⟨ws, u2, p2, z2⟩ := I.list (SqL.of h2)
      rw [YC]
      exact SeqAt.RcAt.tuple_list p1 p2.isList hu
    | rng o2 h2 => rw [dp] at hb; omega
    | scr o2 h2 => rw [dp] at hb; omega
    | scrK _ => rw [dp] at hb; omega
  | rng o2 h2 => rw [dp] at ha; omega
  | scr o2 h2 => rw [dp] at ha; omega
  | scrK _ => rw [dp] at ha; omega
theorem FO (I : Inv X pins σ H s) {a : Addr} {xs : List V} (h : H a = some (.lst xs)) : ∃ us, s.heap.IsList a us := let ⟨_, _, p, _⟩ := I.list (SqL.of h); ⟨_, p.isList⟩
theorem FM (I : Inv X pins σ H s) {a : Addr} {xs : List V} (h : H a = some (.tup xs)) : ∃ us, s.heap.IsTuple a us := let ⟨_, _, p, _⟩ := I.tuple (SqT.of h); ⟨_, p⟩
local macro_rules | `(tactic| walk_at "sc") => `(tactic| first
 | with_reducible exact .same _ | with_reducible exact .none_none | with_reducible exact .none_bool _ | with_reducible exact .none_int _ _ | with_reducible exact .none_str _ _ | with_reducible exact .bool_none _ | with_reducible exact .bool_bool _ _ | with_reducible exact .bool_int _ _ _ | with_reducible exact .bool_str _ _ _ | with_reducible exact .int_none _ _ | with_reducible exact .int_bool _ _ _ | with_reducible exact .int_int _ _ _ _ | with_reducible exact .int_str _ _ _ _ | with_reducible exact .str_none _ _ | with_reducible exact .str_bool _ _ _ | with_reducible exact .str_int _ _ _ _ | with_reducible exact .str_str _ _ _ _)
theorem ls_ (I : Inv X pins σ H s) {a : Addr} {xs : List V} (h : H a = some (.lst xs)) : s.heap.IsList a (Classical.choose (FO I h)) := Classical.choose_spec _
theorem ts_ (I : Inv X pins σ H s) {a : Addr} {xs : List V} (h : H a = some (.tup xs)) : s.heap.IsTuple a (Classical.choose (FM I h)) := Classical.choose_spec _
local macro_rules | `(tactic| walk_at "sq") => `(tactic| first
 | with_reducible exact .none_list (ls_ (by assumption) (by assumption)) (by assumption) | with_reducible exact .bool_list _ (ls_ (by assumption) (by assumption)) (by assumption) | with_reducible exact .int_list _ _ (ls_ (by assumption) (by assumption)) (by assumption) | with_reducible exact .str_list _ _ (ls_ (by assumption) (by assumption)) (by assumption) | with_reducible exact .list_none (ls_ (by assumption) (by assumption)) (by assumption) | with_reducible exact .list_bool _ (ls_ (by assumption) (by assumption)) (by assumption) | with_reducible exact .list_int _ _ (ls_ (by assumption) (by assumption)) (by assumption) | with_reducible exact .list_str _ _ (ls_ (by assumption) (by assumption)) (by assumption)
 | with_reducible exact .none_tuple (ts_ (by assumption) (by assumption)) (by assumption) | with_reducible exact .bool_tuple _ (ts_ (by assumption) (by assumption)) (by assumption) | with_reducible exact .int_tuple _ _ (ts_ (by assumption) (by assumption)) (by assumption) | with_reducible exact .str_tuple _ _ (ts_ (by assumption) (by assumption)) (by assumption) | with_reducible exact .tuple_none (ts_ (by assumption) (by assumption)) (by assumption) | with_reducible exact .tuple_bool _ (ts_ (by assumption) (by assumption)) (by assumption) | with_reducible exact .tuple_int _ _ (ts_ (by assumption) (by assumption)) (by assumption) | with_reducible exact .tuple_str _ _ (ts_ (by assumption) (by assumption)) (by assumption))
theorem Jq (I : Inv X pins σ H s) {O O' : Own} (A : Around) (hu : A.units < cLine) (a b : Dat) (v u : V) (v' u' : Value) (ha : dp a < 1000) (ra : Rep H O v a) (rb : Rep H O' u b) (hb : dp b < 1000) (rv : zA v v') (ru : zA u u')
    (ih : ∀ (c d : Dat) (v u : V) (v' u' : Value), dp c < dp a -> Rep H O v c -> Rep H O' u d -> dp d < 1000 -> zA v v' -> zA u u' -> SeqAt.EqAt A.in1 s v' u' (eqD c d)) : SeqAt.EqAt A s v' u' (eqD a b) := by
  by_cases hr : ∃ p q, v = .ref p /\ u = .ref q
  · obtain ⟨p, q, rfl, rfl⟩ := hr
    cases rv
    cases ru
    by_cases e : p = q
    · subst e
      rw [<- ra.fn rb ha hb, XR ha]
      exact .same _
    · exact .of_refs e (Xn I ih ra rb ha hb hu)
  · cases ra <;> cases rb <;> first
      | with_reducible exact absurd ⟨_, _, rfl, rfl⟩ hr
      | (rw [dp] at ha; omega)
      | (rw [dp] at hb; omega)
      | ((first | (obtain ⟨t0, rfl⟩ := rv) | cases rv); (first | (obtain ⟨t1, rfl⟩ := ru) | cases ru); simp only [eqD, Bool.not_false, Bool.not_true]; first | walk_at "sc" | walk_at "sq")
theorem Vt (I : Inv X pins σ H s) {O O' : Own} : ∀ (n : Nat) (A : Around), A.units + n < cLine -> ∀ (a b : Dat) (v u : V) (v' u' : Value), dp a <= n -> n < 1000 -> Rep H O v a -> Rep H O' u b -> dp b < 1000 -> zA v v' -> zA u u' -> SeqAt.EqAt A s v' u' (eqD a b) := by
 intro n
 induction n with
 | zero =>
  intro A hu a b v u v' u' ha _ ra rb hb rv ru
  exact Jq I A (by omega) a b v u v' u' (by omega) ra rb hb rv ru fun _ _ _ _ _ _ h => absurd h (by omega)
 | succ n ih =>
  intro A hu a b v u v' u' ha hn ra rb hb rv ru
  exact Jq I A (by omega) a b v u v' u' (by omega) ra rb hb rv ru fun c d x y x' y' hc rc rd hd rx ry => ih A.in1 (by show A.units + 1 + n < _; omega) c d x y x' y' (by omega) (by omega) rc rd hd rx ry
noncomputable def D4 (f : Bool -> Bool) : R2 := fun x y H Q => ∃ O O' a b, Rep H O x a /\ Rep H O' y b /\ dp a <= 40 /\ dp b <= 40 /\ Q (.bl (f (eqD a b))) H
theorem Du (I : Inv X pins σ H s) {O O' : Own} (A : Around) (hu : A.units + 41 < cLine) (a b : Dat) (v u : V) (v' u' : Value) (ha : dp a <= 40) (ra : Rep H O v a) (rb : Rep H O' u b) (hb : dp b <= 40) (rv : zA v v') (ru : zA u u') : SeqAt.RcAt A s v' u' (eqD a b) := by
  have ih : ∀ (c d : Dat) (v u : V) (v' u' : Value), dp c < dp a -> Rep H O v c -> Rep H O' u d -> dp d < 1000 -> zA v v' -> zA u u' -> SeqAt.EqAt A.in1 s v' u' (eqD c d) := fun c d v u v' u' hc rc rd hd rv ru => Vt I 40 A.in1 (by show A.units + 1 + 40 < _; omega) c d v u v' u' (by omega) (by omega) rc rd hd rv ru
  replace hu : A.units < cLine := by omega
  by_cases hr : ∃ p q, v = .ref p /\ u = .ref q
  · obtain ⟨p, q, rfl, rfl⟩ := hr
    cases rv
    cases ru
    exact Xn I ih ra rb (by omega) (by omega) hu
  · cases ra <;> cases rb <;> first
      | with_reducible exact absurd ⟨_, _, rfl, rfl⟩ hr
      | (rw [dp] at ha; omega)
      | (rw [dp] at hb; omega)
      | ((first | (obtain ⟨t0, rfl⟩ := rv) | cases rv); (first | (obtain ⟨t1, rfl⟩ := ru) | cases ru); simp only [eqD, Bool.not_false, Bool.not_true]; first | walk_at "sc" | walk_at "sq")
theorem XS (I : Inv X pins σ H s) {A : Around} {p q : Addr} {O O' : Own} {a b : Dat} (ih : ∀ (c d : Dat) (v u : V) (v' u' : Value), dp c < dp a -> Rep H O v c -> Rep H O' u d -> dp d < 1000 -> zA v v' -> zA u u' -> SeqAt.EqAt A.in1 s v' u' (eqD c d))
    (ra : Rep H O (.ref p) a) (rb : Rep H O' (.ref q) b) (ha : dp a < 1000) (hb : dp b < 1000) (hu : A.units < cLine) : SeqAt.RcNeAt A s (.ref p) (.ref q) (!(eqD a b)) := by
  cases ra with
  | @lst _ xs l o1 h1 l1 r1 =>
    obtain ⟨us, u1, p1, z1⟩ := I.list (SqL.of h1)
    cases rb with
    | @lst _ ys m o2 h2 l2 r2 =>
      obtain ⟨ws, u2, p2, z2⟩ := I.list (SqL.of h2)
      have s1 : us.toArray.size = l.length := by rw [List.size_toArray, <- u1.length, l1]
      have s2 : ws.toArray.size = m.length := by rw [List.size_toArray, <- u2.length, l2]
      by_cases e : l.length = m.length
      · have h := SeqAt.RcNeAt.lists (A := A) (e := fun j => eqD (l.getD j .non) (m.getD j .non)) p1.isList p2.isList (by rw [s1, s2, e]) hu (fun j j1 j2 => by
          obtain ⟨x, hx, rx⟩ := jX u1 j1
          obtain ⟨y, hy, ry⟩ := jX u2 j2
          have k1 : j < l.length := by rw [<- s1]; exact j1
          have k2 : j < m.length := by rw [<- s2]; exact j2
          rw [dp] at ha hb ih
          refine ih _ _ x y _ _ ?_ (r1 j x _ hx ?_) (r2 j y _ hy ?_) ?_ rx ry
          · rw [List.getD_eq_getElem?_getD, List.getElem?_eq_getElem k1]
            have := qh (List.getElem_mem k1); show dp l[j] < _; omega
          · rw [List.getD_eq_getElem?_getD, List.getElem?_eq_getElem k1]; rfl
          · rw [List.getD_eq_getElem?_getD, List.getElem?_eq_getElem k2]; rfl
          · rw [List.getD_eq_getElem?_getD, List.getElem?_eq_getElem k2]
            have := qh (List.getElem_mem k2); show dp m[j] < _; omega)
        rw [s1, <- jS l m e] at h
        rw [eqD]; exact h
      · rw [eqD, jU l m e]
        exact SeqAt.RcNeAt.lists_lengths p1.isList p2.isList (by rw [s1, s2]; simpa using e) hu
    | @tup _ ys m o2 h2 l2 r2 =>
      obtain ⟨ws, u2, p2, z2⟩ := I.tuple (SqT.of h2)
      rw [Yy]
      exact SeqAt.RcNeAt.list_tuple p1.isList p2 hu
    | rng o2 h2 => rw [dp] at hb; omega
    | scr o2 h2 => rw [dp] at hb; omega
    | scrK _ => rw [dp] at hb; omega
  | @tup _ xs l o1 h1 l1 r1 =>
    obtain ⟨us, u1, p1, z1⟩ := I.tuple (SqT.of h1)
    cases rb with
    | @tup _ ys m o2 h2 l2 r2 =>
      obtain ⟨ws, u2, p2, z2⟩ := I.tuple (SqT.of h2)
      have s1 : us.toArray.size = l.length := by rw [List.size_toArray, <- u1.length, l1]
      have s2 : ws.toArray.size = m.length := by rw [List.size_toArray, <- u2.length, l2]
      have h := SeqAt.RcNeAt.tuples (A := A) (e := fun j => eqD (l.getD j .non) (m.getD j .non)) (show s.heap.IsTuple p us.toArray from p1) (show s.heap.IsTuple q ws.toArray from p2) hu (fun j j1 j2 => by
          obtain ⟨x, hx, rx⟩ := jX u1 j1
          obtain ⟨y, hy, ry⟩ := jX u2 j2
          have k1 : j < l.length := by rw [<- s1]; exact j1
          have k2 : j < m.length := by rw [<- s2]; exact j2
          rw [dp] at ha hb ih
          refine ih _ _ x y _ _ ?_ (r1 j x _ hx ?_) (r2 j y _ hy ?_) ?_ rx ry
          · rw [List.getD_eq_getElem?_getD, List.getElem?_eq_getElem k1]
            have := qh (List.getElem_mem k1); show dp l[j] < _; omega
          · rw [List.getD_eq_getElem?_getD, List.getElem?_eq_getElem k1]; rfl
          · rw [List.getD_eq_getElem?_getD, List.getElem?_eq_getElem k2]; rfl
          · rw [List.getD_eq_getElem?_getD, List.getElem?_eq_getElem k2]
            have := qh (List.getElem_mem k2); show dp m[j] < _; omega)
      rw [s1, s2] at h
      rw [eqD]
      by_cases e : l.length = m.length
      · rw [<- e, Nat.min_self, beq_self_eq_true, Bool.and_true, <- jS l m e] at h
        exact h
      · rw [jU l m e]
        rw [show (l.length == m.length) = false by simpa using e, Bool.and_false] at h
        exact h
    | @lst _ ys m o2 h2 l2 r2 =>
      obtain ⟨ws, u2, p2, z2⟩ := I.list (SqL.of h2)
      rw [YC]
      exact SeqAt.RcNeAt.tuple_list p1 p2.isList hu
    | rng o2 h2 => rw [dp] at hb; omega
    | scr o2 h2 => rw [dp] at hb; omega
    | scrK _ => rw [dp] at hb; omega
  | rng o2 h2 => rw [dp] at ha; omega
  | scr o2 h2 => rw [dp] at ha; omega
  | scrK _ => rw [dp] at ha; omega
theorem YB (I : Inv X pins σ H s) {O O' : Own} (A : Around) (hu : A.units + 41 < cLine) (a b : Dat) (v u : V) (v' u' : Value) (ha : dp a <= 40) (ra : Rep H O v a) (rb : Rep H O' u b) (hb : dp b <= 40) (rv : zA v v') (ru : zA u u') : SeqAt.RcNeAt A s v' u' (!(eqD a b)) := by
  have ih : ∀ (c d : Dat) (v u : V) (v' u' : Value), dp c < dp a -> Rep H O v c -> Rep H O' u d -> dp d < 1000 -> zA v v' -> zA u u' -> SeqAt.EqAt A.in1 s v' u' (eqD c d) := fun c d v u v' u' hc rc rd hd rv ru => Vt I 40 A.in1 (by show A.units + 1 + 40 < _; omega) c d v u v' u' (by omega) (by omega) rc rd hd rv ru
  replace hu : A.units < cLine := by omega
  by_cases hr : ∃ p q, v = .ref p /\ u = .ref q
  · obtain ⟨p, q, rfl, rfl⟩ := hr
    cases rv
    cases ru
    exact XS I ih ra rb (by omega) (by omega) hu
  · cases ra <;> cases rb <;> first
      | with_reducible exact absurd ⟨_, _, rfl, rfl⟩ hr
      | (rw [dp] at ha; omega)
      | (rw [dp] at hb; omega)
      | ((first | (obtain ⟨t0, rfl⟩ := rv) | cases rv); (first | (obtain ⟨t1, rfl⟩ := ru) | cases ru); simp only [eqD, Bool.not_false, Bool.not_true]; first | walk_at "sc" | walk_at "sq")
theorem qc (hu : X.A.units + 64 < cLine) : OpR X (compareOp .Eq) (D4 id) := by
 intro pins s σ H x y v u Q I rx ry h
 obtain ⟨O, O', a, b, ra, rb, ha, hb, k⟩ := h
 exact Du I X.A (by omega) a b x y v u ha ra rb hb rx ry _ _ _ _ ⟨.bl _, H, I, rfl, k⟩
theorem yu (hu : X.A.units + 64 < cLine) : OpR X (compareOp .NotEq) (D4 not) := by
 intro pins s σ H x y v u Q I rx ry h
 obtain ⟨O, O', a, b, ra, rb, ha, hb, k⟩ := h
 exact YB I X.A (by omega) a b x y v u ha ra rb hb rx ry _ _ _ _ ⟨.bl _, H, I, rfl, k⟩
end
noncomputable def yp (x : AV) (M : MH) : Option Dat := match x with
 | .d x => some x
 | .ref a => match M a with
  | some (.lst l) => (pur l).map .lst
  | _ => none
theorem El (x : Dat) (M : MH) : yp (.d x) M = some x := rfl
theorem Zj {H : Hp} {O : Own} {M : MH} {v : V} {x : AV} {d : Dat} (w : Wf H O M) (r : zt H O M v x) (h : yp x M = some d) : ∃ O', Rep H O' v d := by
 cases x with
 | d x => cases h; exact ⟨O, r⟩
 | ref a =>
  unfold yp at h
  dsimp only at h
  cases e : M a with
  | none => rw [e] at h; cases h
  | some o =>
   rw [e] at h
   cases o with
   | lst l =>
    dsimp only at h
    cases ep : pur l with
    | none => rw [ep] at h; cases h
    | some ds =>
     rw [ep] at h
     cases h
     obtain ⟨xs, hx, rx⟩ := w.mo a _ e
     rw [jT ep] at rx
     have rp := rx.pure
     refine ⟨V7 O a, ?_⟩
     rw [r.1]
     exact Rep.lst (fun z => z.1 rfl) hx rp.1 fun i x d e1 e2 => (rp.2 i x d e1 e2).imp (xp a)
   | _ => cases h
noncomputable def EK (f : Bool -> Bool) : AR2 := fun x y M Q => ∃ a b, yp x M = some a /\ yp y M = some b /\ dp a <= 40 /\ dp b <= 40 /\ Q (.d (.bl (f (eqD a b)))) M
theorem WK {f : Bool -> Bool} : xa (D4 f) (EK f) := ⟨fun w r1 r2 ⟨a, b, e1, e2, h1, h2, q⟩ k => by
 obtain ⟨O1, p1⟩ := Zj w r1 e1
 obtain ⟨O2, p2⟩ := Zj w r2 e2
 exact ⟨O1, O2, a, b, p1, p2, h1, h2, k _ _ _ _ _ q .refl w .bl⟩⟩
theorem yz (i : Int) : dp (.int i) = 0 := by simp [dp]
end L2
set_option Elab.async false
set_option linter.all false
set_option maxRecDepth 100000
set_option maxHeartbeats 4000000
namespace L2
open PySem PySem.Spec PyProof.Rows
theorem kr {H : Hp} {O : Own} {M : MH} {vs : List V} {x : AV} (r : zl H O M vs [x]) : ∃ v, vs = [v] /\ zt H O M v x := by
 obtain ⟨v1, r', rfl, a1, r2⟩ := r.cons_inv
 rw [r2.nil_inv]; exact ⟨v1, rfl, a1⟩
theorem ky {H : Hp} {O : Own} {M : MH} {vs : List V} {x y : AV} (r : zl H O M vs [x, y]) : ∃ v u, vs = [v, u] /\ zt H O M v x /\ zt H O M u y := by
 obtain ⟨v1, r', rfl, a1, r2⟩ := r.cons_inv
 obtain ⟨v2, rfl, a2⟩ := kr r2
 exact ⟨v1, v2, rfl, a1, a2⟩
noncomputable def EV : List AV -> MH -> AK -> Prop := fun xs M Q => ∃ x l, xs = [x] /\ kY x M = some l /\ Q (.d (.int (l.length : Nat))) M
theorem Wo {K : PySem.W.Frag} : vM (fun xs H Q => ∃ p ys, xs = [V.ref p] /\ (SqL K H p ys \/ SqT K H p ys) /\ Q (V.int ys.length) H) EV := ⟨fun w r ⟨x, l, e, h, q⟩ k => by
 subst e
 obtain ⟨v, rfl, rv⟩ := kr r
 obtain ⟨a, xs, rfl, h1, r1⟩ := Zz w rv h
 exact ⟨a, xs, rfl, h1.elim (fun h => .inl (SqL.of h)) (fun h => .inr (SqT.of h)), by rw [r1.1]; exact k _ _ _ _ _ q .refl w .int⟩⟩
noncomputable def bI2 (f : Int -> Int -> Int) : List AV -> MH -> AK -> Prop := fun xs M Q => ∃ i j, xs = [.d (.int i), .d (.int j)] /\ Q (.d (.int (f i j))) M
theorem Bv {f : Int -> Int -> Int} : vM (fun xs H Q => ∃ i j, xs = [V.int i, V.int j] /\ Q (V.int (f i j)) H) (bI2 f) := ⟨fun w r ⟨i, j, e, q⟩ k => by
 subst e
 obtain ⟨v, u, rfl, rv, ru⟩ := ky r
 exact ⟨i, j, by rw [zF rv, zF ru], k _ _ _ _ _ q .refl w .int⟩⟩
noncomputable def Av : List AV -> MH -> AK -> Prop := fun xs M Q => ∃ c, xs = [.d (.bl c)] /\ Q (.d (.int (if c = true then 1 else 0))) M
theorem KZ : vM (fun xs H Q => ∃ k, xs = [V.bl k] /\ Q (V.int (if k = true then 1 else 0)) H) Av := ⟨fun w r ⟨c, e, q⟩ k => by
 subst e
 obtain ⟨v, rfl, rv⟩ := kr r
 exact ⟨c, by rw [jO rv], k _ _ _ _ _ q .refl w .int⟩⟩
noncomputable def X8 : List AV -> MH -> AK -> Prop := fun xs M Q => ∃ x l ds, xs = [x] /\ kY x M = some l /\ pur l = some ds /\ Q (.d (.tup ds)) M
theorem Kx {K : PySem.W.Frag} : vM (fun xs H Q => ∃ p ys, xs = [V.ref p] /\ ((SqL K H p ys /\ ∀ l, H l = none -> Q (V.ref l) (upd H l (HO.tup ys))) \/ SqT K H p ys /\ Q (V.ref p) H)) X8 := ⟨fun w r ⟨x, l, ds, e, h, hp, q⟩ k => by
 subst e
 obtain ⟨v, rfl, rv⟩ := kr r
 rw [jT hp] at h
 rcases kP h with h' | ⟨m, rfl, e2⟩
 ·obtain ⟨a, xs, rfl, h1, r1⟩ := qw w rv h'
  exact ⟨a, xs, rfl, .inl ⟨SqL.of h1, fun p hp => k _ _ _ _ _ q (qP w hp _) (ya w hp _) (Jc w hp r1)⟩⟩
 ·obtain rfl : ds = m := by have := congrArg pur e2; rw [qk, qk] at this; cases this; rfl
  obtain ⟨a, xs, rfl, h1, r1⟩ := jh (l := ds.map .d) rv rfl
  exact ⟨a, xs, rfl, .inr ⟨SqT.of h1, k _ _ _ _ _ q .refl w rv⟩⟩⟩
structure Al (r : List V -> Hp -> VK -> Prop) (a : List AV -> MH -> (List AV -> Prop) -> Prop) : Prop where
 go : ∀ {vs : List V} {xs : List AV} {H : Hp} {O : Own} {M : MH} {Q : VK} {Q' : List AV -> Prop}, Wf H O M -> zl H O M vs xs -> a xs M Q' -> (∀ l ys, Q' l -> zl H O M ys l -> ∀ p, H p = none -> Q (.ref p) (upd H p (.lst ys))) -> r vs H Q
noncomputable def fCB (r : List AV -> MH -> (List AV -> Prop) -> Prop) (b : AA) : AF := fun ρ M Q => b ρ M fun xs M1 => r xs M1 fun l => Q l M1
theorem QI {r : List V -> Hp -> VK -> Prop} {ra : List AV -> MH -> (List AV -> Prop) -> Prop} {u : TA} {b : AA} (hr : Al r ra) (h : ju u b) : ZP (tCB r u) (fCB ra b) :=
 ⟨fun w e q k => h.go w e q fun x M1 v H1 O1 q1 k1 w1 r1 => hr.go w1 r1 q1 fun l ys q3 r3 p hp =>
  k l M1 p ys _ _ q3 (k1.trans (qR w1 hp _)) (xu w1 hp _ (fun _ z => nomatch z)) (.inl rfl) (w1.fresh hp).2 (yv w1 k1 hp) ze (r3.ext (qR w1 hp _))⟩
theorem yD {H : Hp} {O : Own} {M : MH} : ∀ {ns : List Int} {xs : List V}, zl H O M xs (ns.map fun i => AV.d (.int i)) -> xs = ns.map V.int
 | [], xs, r => r.nil_inv
 | i :: ns, xs, r => by
  obtain ⟨v, r', rfl, a1, r2⟩ := r.cons_inv
  rw [zF a1, yD r2]; rfl
noncomputable def tyA (x : AV) (M : MH) : Option String := match x with
 | .d .non => some "NoneType"
 | .d (.bl _) => some "bool"
 | .d (.int _) => some "int"
 | .d (.str _) => some "str"
 | .d (.lst _) => some "list"
 | .d (.tup _) => some "tuple"
 | .ref a => match M a with
  | some (.lst _) => some "list"
  | some (.dK _) => some "dict"
  | _ => none
 | _ => none
theorem Yr {K : PySem.W.Frag} {H : Hp} {O : Own} {M : MH} {v : V} {x : AV} {t : String} (w : Wf H O M) (r : zt H O M v x) (h : tyA x M = some t) : jM K H v (.type t) := by
 cases x with
 | d x =>
  cases (show Rep H O v x from r) with
  | non => cases h; exact .non
  | bl => cases h; exact .bl _
  | int => cases h; exact .int _
  | str => cases h; exact .str _
  | lst o e => cases h; exact .lst e
  | tup o e => cases h; exact .tup e
  | ty => cases h
  | rng _ _ => cases h
  | scr _ _ => cases h
  | scrK _ => cases h
 | ref a =>
  unfold tyA at h
  dsimp only at h
  rw [r.1]
  cases e : M a with
  | none => rw [e] at h; cases h
  | some o =>
   rw [e] at h
   have := w.mo a o e
   cases o with
   | lst l => cases h; obtain ⟨xs, hx, _⟩ := this; exact .lst hx
   | dK l => cases h; obtain ⟨xs, hx, _⟩ := this; exact .dK hx
   | ins C fs => cases h
   | exc C fs => cases h
noncomputable def FE : List AV -> MH -> AK -> Prop := fun xs M Q => ∃ x t c b, xs = [x, .d (.ty c)] /\ tyA x M = some t /\ isT t c = some b /\ Q (.d (.bl b)) M
theorem VW {K : PySem.W.Frag} : vM (fun xs H Q => ∃ x t c b, xs = [x, V.ty c] /\ jM K H x (Value.type t) /\ isT t c = some b /\ Q (V.bl b) H) FE := ⟨fun w r ⟨x, t, c, b, e, h, hb, q⟩ k => by
 subst e
 obtain ⟨v, u, rfl, rv, ru⟩ := ky r
 exact ⟨v, t, c, b, by rw [XM ru], Yr w rv h, hb, k _ _ _ _ _ q .refl w .bl⟩⟩
theorem Jm {H : Hp} {O : Own} {M : MH} : ∀ {ns : List String} {xs : List V}, zl H O M xs ((ns.map Dat.ty).map .d) -> xs = ns.map V.ty
 | [], xs, r => r.nil_inv
 | i :: ns, xs, r => by
  obtain ⟨v, r', rfl, a1, r2⟩ := r.cons_inv
  rw [XM a1, Jm r2]; rfl
noncomputable def wJ : List Dat -> Option (List String)
 | [] => some []
 | .ty n :: r => (wJ r).map (n :: ·)
 | _ => none
theorem QK : ∀ {l : List Dat} {cs : List String}, wJ l = some cs -> l = cs.map Dat.ty
 | [], cs, h => by cases h; rfl
 | .ty n :: r, cs, h => by
  unfold wJ at h
  cases e : wJ r with
  | none => rw [e] at h; cases h
  | some m => rw [e] at h; cases h; rw [QK e]; rfl
 | .non :: _, _, h => by cases h
 | .bl _ :: _, _, h => by cases h
 | .int _ :: _, _, h => by cases h
 | .str _ :: _, _, h => by cases h
 | .lst _ :: _, _, h => by cases h
 | .tup _ :: _, _, h => by cases h
 | .rng _ _ _ :: _, _, h => by cases h
 | .scr _ _ :: _, _, h => by cases h
noncomputable def AN : List AV -> MH -> AK -> Prop := fun xs M Q => ∃ x t l cs b, xs = [x, .d (.tup l)] /\ wJ l = some cs /\ tyA x M = some t /\ yK t cs = some b /\ Q (.d (.bl b)) M
theorem Xr {K : PySem.W.Frag} : vM (fun xs H Q => ∃ x t p cs b, xs = [x, V.ref p] /\ H p = some (HO.tup (List.map V.ty cs)) /\ jM K H x (Value.type t) /\ yK t cs = some b /\ Q (V.bl b) H) AN := ⟨fun w r ⟨x, t, l, cs, b, e, hc, h, hb, q⟩ k => by
 subst e
 obtain ⟨v, u, rfl, rv, ru⟩ := ky r
 rw [QK hc] at ru
 obtain ⟨a, xs, rfl, h1, r1⟩ := jh (l := (cs.map Dat.ty).map .d) ru rfl
 rw [Jm r1] at h1
 exact ⟨v, t, a, cs, b, rfl, h1, Yr w rv h, hb, k _ _ _ _ _ q .refl w .bl⟩⟩
theorem QF {H : Hp} {O : Own} {M : MH} : ∀ {ns : List Bool} {xs : List V}, zl H O M xs (ns.map fun i => AV.d (.bl i)) -> xs = ns.map V.bl
 | [], xs, r => r.nil_inv
 | i :: ns, xs, r => by
  obtain ⟨v, r', rfl, a1, r2⟩ := r.cons_inv
  rw [jO a1, QF r2]; rfl
noncomputable def EU (f : List Bool -> Bool) : List AV -> MH -> AK -> Prop := fun xs M Q => ∃ x bs, xs = [x] /\ qu x M = some (List.map (fun b => AV.d (.bl b)) bs) /\ Q (.d (.bl (f bs))) M
theorem Wu {K : PySem.W.Frag} {f : List Bool -> Bool} : vM (fun xs H Q => ∃ p bs, xs = [V.ref p] /\ SqL K H p (List.map V.bl bs) /\ Q (V.bl (f bs)) H) (EU f) := ⟨fun w r ⟨x, bs, e, h, q⟩ k => by
 subst e
 obtain ⟨v, rfl, rv⟩ := kr r
 obtain ⟨a, xs, rfl, h1, r1⟩ := qw w rv h
 rw [QF r1] at h1
 exact ⟨a, bs, rfl, SqL.of h1, k _ _ _ _ _ q .refl w .bl⟩⟩
noncomputable def Bd : List AV -> MH -> AK -> Prop := fun xs M Q => ∃ b, xs = [.d (.int b)] /\ Q (.d (.rng 0 b 1)) M
theorem X3 : vM (fun xs H Q => ∃ b, xs = [V.int b] /\ ∀ (p : Addr), H p = none -> Q (V.ref p) (upd H p (wO p 0 b 1))) Bd := ⟨fun w r ⟨b, e, q⟩ k => by
 subst e
 obtain ⟨v, rfl, rv⟩ := kr r
 exact ⟨b, by rw [zF rv], fun p hp => k _ _ _ _ _ q (qP w hp _) (ya w hp _) (Rep.rng (w.fresh hp).1 ze)⟩⟩
noncomputable def Y4 : List AV -> MH -> (List AV -> Prop) -> Prop := fun xs M Q => ∃ a b c n, xs = [.d (.rng a b c)] /\ Builtin.Range.small a b c = true /\ Builtin.Range.rangeSize a b c = ((n : Nat) : Int) /\ n <= 100000 /\ Q ((qM a c n).map fun i => AV.d (.int i))
theorem vf : Al (fun xs H Q => ∃ p a b c n, xs = [.ref p] /\ H p = some (wO p a b c) /\ Builtin.Range.small a b c = true /\ Builtin.Range.rangeSize a b c = ((n : Nat) : Int) /\ n <= 100000 /\ ∀ l, H l = none -> Q (.ref l) (upd H l (.lst ((qM a c n).map V.int)))) Y4 := ⟨fun {vs xs H O M Q Q'} w r ⟨a, b, c, n, e, h1, h2, h3, q⟩ k => by
 subst e
 obtain ⟨v, rfl, rv⟩ := kr r
 cases (show Rep H O v (.rng a b c) from rv) with
 | rng o h => exact ⟨_, a, b, c, n, rfl, h, h1, h2, h3, k _ _ q (ZG _)⟩⟩
noncomputable def flD : Dat -> Option V
 | .non => some .non
 | .bl b => some (.bl b)
 | .int i => some (.int i)
 | .str s => some (.str s)
 | _ => none
noncomputable def ZJ : List AV -> Option (List V)
 | [] => some []
 | .d x :: r => match flD x, ZJ r with
  | some v, some l => some (v :: l)
  | _, _ => none
 | _ => none
theorem Yh {H : Hp} {O : Own} {v x : V} {d : Dat} (r : Rep H O v d) (h : flD d = some x) : v = x /\ ki v = true := by
 cases r <;> cases h <;> exact ⟨rfl, rfl⟩
theorem QJ {H : Hp} {O : Own} {M : MH} : ∀ {l : List AV} {xs vs : List V}, zl H O M xs l -> ZJ l = some vs -> xs = vs /\ xs.all ki = true
 | [], xs, vs, r, h => by cases h; rw [r.nil_inv]; exact ⟨rfl, rfl⟩
 | .d d :: l, xs, vs, r, h => by
  obtain ⟨v, r', rfl, a1, r2⟩ := r.cons_inv
  unfold ZJ at h
  cases e1 : flD d with
  | none => rw [e1] at h; cases h
  | some z =>
   cases e2 : ZJ l with
   | none => rw [e1, e2] at h; cases h
   | some zs =>
    rw [e1, e2] at h
    cases h
    obtain ⟨h1, h2⟩ := Yh a1 e1
    obtain ⟨h3, h4⟩ := QJ r2 e2
    subst h1 h3
    exact ⟨rfl, by rw [List.all_cons, h2, h4]; rfl⟩
 | .ref a :: l, xs, vs, r, h => by cases h
noncomputable def aIn (neg : Bool) : AR2 := fun x y M Q => ∃ d v l vs, x = .d d /\ flD d = some v /\ kY y M = some l /\ ZJ l = some vs /\ Q (.d (.bl (if neg then !inV v vs else inV v vs))) M
theorem BY {K : PySem.W.Frag} {neg : Bool} : xa (rIn K neg) (aIn neg) := ⟨fun w r1 r2 ⟨d, v, l, vs, e, hv, hl, hs, q⟩ k => by
 subst e
 obtain ⟨a, xs, rfl, h1, p1⟩ := Zz w r2 hl
 obtain ⟨rfl, f1⟩ := Yh r1 hv
 obtain ⟨rfl, f2⟩ := QJ p1 hs
 exact ⟨a, xs, rfl, h1.elim (fun h => .inl (SqL.of h)) (fun h => .inr (SqT.of h)), f1, f2, k _ _ _ _ _ q .refl w .bl⟩⟩
structure FZ (r : V -> List V -> Hp -> VK -> Prop) (a : AV -> List AV -> MH -> AK -> Prop) : Prop where
 go : ∀ {x : V} {dx : AV} {vs : List V} {xs : List AV} {H : Hp} {O : Own} {M : MH} {Q : VK} {Q' : AK}, Wf H O M -> zt H O M x dx -> zl H O M vs xs -> a dx xs M Q' -> (∀ x M' v H' O', Q' x M' -> Ext H O M H' O' M' -> Wf H' O' M' -> zt H' O' M' v x -> Q v H') -> r x vs H Q
noncomputable def Y5 (r : Addr) : MO -> Prop
 | .lst l => AV.ref r ∈ l
 | .dK kvs => AV.ref r ∈ kvs.map (·.2)
 | .ins _ fs => AV.ref r ∈ fs.map (·.2)
 | .exc _ _ => False
inductive Dee (M M2 : MH) : AV -> Dat -> Prop
 | d {x : Dat} : Dee M M2 (.d x) x
 | lst {p : Addr} {l : List AV} {ds : List Dat} : M p = some (.lst l) -> M2 p = none -> l.length = ds.length -> (∀ (i : Nat) a b, l[i]? = some a -> ds[i]? = some b -> Dee M M2 a b) -> Dee M M2 (.ref p) (.lst ds)
structure yP (M0 M' : MH) (x x' : AV) (M'' : MH) : Prop where
 sub : ∀ q, M'' q = M' q \/ (M0 q = none /\ M'' q = none)
 cl : ∀ q o, M'' q = some o -> M0 q = some o \/ ∀ r, Y5 r o -> M'' r ≠ none
 res : (x' = x /\ ∀ p, x = .ref p -> M'' p ≠ none) \/ (∃ p l ds, x = .ref p /\ M' p = some (.lst l) /\ pur l = some ds /\ M'' p = none /\ x' = .d (.lst ds)) \/ ∃ d, Dee M' M'' x d /\ x' = .d d
theorem Dee.rep {H : Hp} {O : Own} {M M2 : MH} (w : Wf H O M) {x : AV} {d : Dat} (h : Dee M M2 x d) : ∀ {v : V}, zt H O M v x -> Rep H (fun a => O a /\ ¬ (M a ≠ none /\ M2 a = none)) v d := by
 induction h with
 | d => exact fun r => Rep.imp (fun a u h e => ⟨e, fun z => h z.1⟩) r
 | @lst p l ds hm hn hl _ ih =>
  intro v r
  obtain ⟨xs, hx, rx⟩ := w.mo p _ hm
  rw [r.1]
  refine Rep.lst (fun z => z.2 ⟨jl hm, hn⟩) hx (rx.1.trans hl) fun i x d e1 e2 => ?_
  have hi := (List.getElem?_eq_some_iff.mp e2).1
  have ha : l[i]? = some (l[i]'(by omega)) := List.getElem?_eq_getElem (by omega)
  exact ih i _ d ha e2 (rx.2 i x _ e1 ha)
theorem QC {H0 H : Hp} {O0 O : Own} {M0 M' M'' : MH} {x x' : AV} {v : V} (w0 : Wf H0 O0 M0) (w : Wf H O M') (k : Ext H0 O0 M0 H O M') (r : zt H O M' v x) (f : yP M0 M' x x' M'') :
    ∃ O'', Wf H O'' M'' /\ Ext H0 O0 M0 H O'' M'' /\ zt H O'' M'' v x' /\ ∀ a, O a -> M' a = none -> O'' a /\ M'' a = none := by
  have ks : ∀ a u, ¬ O a -> H a = some u -> H a = some u /\ ¬ (O a /\ ¬ (M' a ≠ none /\ M'' a = none)) := fun a u h e => ⟨e, fun z => h z.1⟩
  have k0 : ∀ a, M0 a ≠ none -> M'' a = M' a := fun a h => (f.sub a).elim (fun z => z) (fun z => absurd z.1 h)
  have m0 : ∀ a, M0 a ≠ none -> M'' a ≠ none := fun a h => by rw [k0 a h]; exact k.mst a h
  have avs : ∀ {xs : List V} {l : List AV}, zl H O M' xs l -> (∀ r, AV.ref r ∈ l -> M'' r ≠ none) -> zl H (fun a => O a /\ ¬ (M' a ≠ none /\ M'' a = none)) M'' xs l := fun {xs l} rr hr => ⟨rr.1, fun i y d e1 e2 => by
    have := rr.2 i y d e1 e2
    cases d with
    | d d => exact Rep.imp ks this
    | ref a => exact ⟨this.1, hr a (List.mem_of_getElem? e2)⟩⟩
  have refs0 : ∀ q o, M0 q = some o -> ∀ r, Y5 r o -> M0 r ≠ none := fun q o e r hr => by
    have := w0.mo q o e
    cases o with
    | lst l =>
      obtain ⟨xs, _, rr⟩ := this
      obtain ⟨i, hi⟩ := List.getElem?_of_mem hr
      obtain ⟨y, _, ry⟩ := rr.get hi
      exact ry.2
    | dK l =>
      obtain ⟨xs, _, rr⟩ := this
      obtain ⟨i, hi⟩ := List.getElem?_of_mem hr
      obtain ⟨y, _, ry⟩ := rr.2.get hi
      exact ry.2
    | ins C l =>
      obtain ⟨dx, xs, _, rr, _⟩ := this
      obtain ⟨i, hi⟩ := List.getElem?_of_mem hr
      obtain ⟨y, _, ry⟩ := rr.2.get hi
      exact ry.2
    | exc C l => exact hr.elim
  refine ⟨fun a => O a /\ ¬ (M' a ≠ none /\ M'' a = none), ⟨fun q o e => ?_, fun a h => ?_, fun a h => w.al a h.1⟩, ⟨fun a u h e => ?_, fun a h e => ?_, m0⟩, ?_, fun a h e => ⟨⟨h, fun z => z.1 e⟩, (f.sub a).elim (fun z => z.trans e) (fun z => z.2)⟩⟩
  · have e' : M' q = some o := by
      rcases f.sub q with z | z
      · rw [<- z]; exact e
      · rw [z.2] at e; cases e
    have hr : ∀ r, Y5 r o -> M'' r ≠ none := by
      rcases f.cl q o e with z | z
      · exact fun r hr => m0 r (refs0 q o z r hr)
      · exact z
    have := w.mo q o e'
    cases o with
    | lst l => obtain ⟨xs, h1, rr⟩ := this; exact ⟨xs, h1, avs rr hr⟩
    | dK l => obtain ⟨xs, h1, rr⟩ := this; exact ⟨xs, h1, rr.1, avs rr.2 hr⟩
    | ins C l =>
      obtain ⟨dx, xs, h1, rr, h2, h3, h4⟩ := this
      refine ⟨dx, xs, h1, ⟨rr.1, avs rr.2 hr⟩, ⟨h2, fun z => z.1 h3⟩, ?_, h4⟩
      rcases f.sub dx with z | z
      · rw [z]; exact h3
      · exact z.2
    | exc C l =>
      obtain ⟨d, h1, h2⟩ := this
      refine ⟨d, h1, ?_⟩
      rcases h2 with h2 | ⟨dx, e1, h2, h3, h4⟩
      · exact .inl h2
      · refine .inr ⟨dx, e1, h2, ⟨h3, fun z => z.1 h4⟩, ?_⟩
        rcases f.sub dx with z | z
        · rw [z]; exact h4
        · exact z.2
  · refine ⟨w.own a ?_, fun z => h z.2⟩
    rcases f.sub a with z | z
    · rw [<- z]; exact h
    · exact absurd z.2 h
  · obtain ⟨x1, x2⟩ := k.fix a u h e
    exact ⟨x1, fun z => x2 z.1⟩
  · obtain ⟨x1, x2, x3⟩ := k.prv a h e
    refine ⟨x1, ⟨x2, fun z => z.1 x3⟩, ?_⟩
    rcases f.sub a with z | z
    · rw [z]; exact x3
    · exact z.2
  · rcases f.res with ⟨rfl, hp⟩ | ⟨p, l, ds, rfl, hm, hp, hn, rfl⟩ | ⟨d, hd, rfl⟩
    · cases x' with
      | d d => exact Rep.imp ks r
      | ref a => exact ⟨r.1, hp a rfl⟩
    · obtain ⟨xs, hx, rx⟩ := w.mo p _ hm
      rw [jT hp] at rx
      have rp := rx.pure
      rw [r.1]
      exact Rep.lst (fun z => z.2 ⟨jl hm, hn⟩) hx rp.1 fun i x d e1 e2 => (rp.2 i x d e1 e2).imp ks
    · exact hd.rep w r
theorem xb {H0 H : Hp} {O0 O : Own} {M0 M' M'' : MH} {x x' : AV} {v : V} (w0 : Wf H0 O0 M0) (w : Wf H O M') (k : Ext H0 O0 M0 H O M') (r : zt H O M' v x) (f : yP M0 M' x x' M'') :
  ∃ O'', Wf H O'' M'' /\ Ext H0 O0 M0 H O'' M'' /\ zt H O'' M'' v x' := let ⟨O2, a, b, c, _⟩ := QC w0 w k r f; ⟨O2, a, b, c⟩
noncomputable def Fr (M0 M : MH) : Prop := ∀ q, M0 q ≠ none -> M q = M0 q
theorem Fr.refl {M : MH} : Fr M M := fun _ _ => rfl
theorem Fr.mup {M0 M : MH} (f : Fr M0 M) {p : Addr} (h : M0 p = none) (o : MO) : Fr M0 (mup M p o) := fun q hq => by rw [zr (fun z => hq (by rw [z]; exact h))]; exact f q hq
theorem Fr.sub {M0 M : MH} (f : Fr M0 M) (q : Addr) : M0 q = M q \/ (M0 q = none /\ M0 q = none) := by
 cases e : M0 q with
 | none => exact .inr ⟨rfl, rfl⟩
 | some o => exact .inl (by rw [f q (by rw [e]; exact fun z => nomatch z), e])
theorem qj {M0 M : MH} (f : Fr M0 M) (d : Dat) : yP M0 M (.d d) (.d d) M0 := ⟨f.sub, fun q o e => .inl e, .inl ⟨rfl, fun p z => nomatch z⟩⟩
theorem xZ {l : List AV} {ds : List Dat} (h : pur l = some ds) (r : Addr) : AV.ref r ∉ l := by
 rw [jT h]; intro z
 obtain ⟨d, _, e⟩ := List.mem_map.mp z
 cases e
noncomputable def zU (N : List Str) (xs : List AV) : ASt := xs.map some ++ List.replicate (N.length - xs.length) none
theorem yw {H : Hp} {O : Own} {M : MH} {vs : List V} {xs : List AV} (r : zl H O M vs xs) (N : List Str) : Er H O M (qF N vs) (zU N xs) := by
 unfold qF zU
 refine ⟨by simp [r.1], fun i x h => ?_⟩
 by_cases c : i < xs.length
 ·rw [List.getElem?_append_left (by simpa using c), List.getElem?_map] at h
  cases e : xs[i]? with
  | none => rw [e] at h; cases h
  | some y =>
   rw [e] at h
   cases h
   obtain ⟨v, hv, rv⟩ := r.get e
   exact ⟨v, by rw [List.getElem?_append_left (by rw [List.length_map, r.1]; exact c), List.getElem?_map, hv]; rfl, rv⟩
 ·rw [List.getElem?_append_right (by simp; omega), List.getElem?_replicate] at h
  split at h <;> cases h
noncomputable def rtA (M0 : MH) (Q : AK) : AK := fun x M' => ∃ x' M'', yP M0 M' x x' M'' /\ Q x' M''
theorem dfA {P : Program} {w : World} {K : PySem.W.Frag} {mg : Str -> Option Value} {base : Heap} {x : Str} {st : Stmt} {N ps : List Str} {k : Nat} {a : ASp} (at_ : At K mg x st) (S : zy N ps (zi st))
  (hb : ∀ (kV doc pm : Value) (an : Option Addr) (cdv ct : Value) (us : List Value), us.length = ps.length -> bindArgs (PySem.W.fnOf x x (qt st) (zO st) (zi st) .none kV doc pm an cdv ct) ⟨us, []⟩ = pure (ps.zip us))
  (len : ∀ xs M Q, a xs M Q -> xs.length = ps.length)
  (hbody : ∀ (f : Addr) (cdv : Value) (A : Around) (outer : List Env) (s : Shared) (H : Hp) (E : XK), qg k (A.deeper (envOfC x (zi st) s.heap.objs.size f cdv)) ->
   ∃ t, PSs (j9 CX0 P w K mg base N x (zi st) f cdv A outer s H E).nox (zO st) t /\ ∃ b, je t b /\ ∀ xs M Q, a xs M Q -> b M { nx := fun _ M' => rtA M Q (.d .non) M', rt := rtA M Q } (zU N xs) M) : Df P w K mg base x ps (k + 1) (cSp a) := by
 refine xJ at_ S hb (fun vs H Q E h => ?_) (fun f cdv A outer s H vs Q E hr h => ?_)
 ·obtain ⟨xs, M, O, Q', w, r, q, _⟩ := h
  rw [r.1]; exact len xs M Q' q
 ·obtain ⟨t, ht, b, hb, hq⟩ := hbody f cdv A outer s H E hr
  refine ⟨t, ht, ?_⟩
  obtain ⟨xs, M, O, Q', w, r, q, kk⟩ := h
  refine hb.go w w (yw r N) .refl (hq xs M Q' q) ⟨fun σ H' O' ρ M' w' e' x' q' => ?_, fun v y H' O' M' w' x' r' q' => ?_, fun _ _ _ _ _ _ _ _ z => z.elim, fun _ _ _ _ _ _ _ _ z => z.elim⟩
  ·obtain ⟨y', M'', f, q2⟩ := q'
   obtain ⟨O'', w2, k2, r2⟩ := xb w w' x' (show zt H' O' M' .non (.d .non) from .non) f
   exact kk _ _ _ _ _ q2 k2 w2 r2
  ·obtain ⟨y', M'', f, q2⟩ := q'
   obtain ⟨O'', w2, k2, r2⟩ := xb w w' x' r' f
   exact kk _ _ _ _ _ q2 k2 w2 r2
end L2
set_option Elab.async false
set_option linter.all false
set_option maxRecDepth 100000
set_option maxHeartbeats 4000000
namespace L2
open PySem PySem.Spec PyProof.Rows
structure FK (tr : Addr -> TR) (a : ATR) : Prop where
 go : ∀ D, Jn D (tr D) a
theorem XG {t u : TE} {a b : AE} (h1 : zG t a) (h2 : zG u b) : zG (tOp Vy t u) (aFz (fOp Br a b)) := xT (wj wF h1 h2)
theorem XF {t u : TE} {a b : AE} (h1 : zG t a) (h2 : zG u b) : zG (tOp VT t u) (aFz (fOp DK a b)) := xT (wj wY h1 h2)
theorem Ko {u : TA} {b : AA} (h : ju u b) : zG (tCB (fun xs H Q => ∃ p a b c n, xs = [.ref p] /\ H p = some (wO p a b c) /\ Builtin.Range.small a b c = true /\ Builtin.Range.rangeSize a b c = ((n : Nat) : Int) /\ n <= 100000 /\ ∀ l, H l = none -> Q (.ref l) (upd H l (.lst ((qM a c n).map V.int)))) u) (aFz (fCB Y4 b)) := xT (QI vf h)
theorem ex2 {t : TS} {q : AS -> Prop} {b : AS} (h : je t b) (k : q b) : ∃ b, je t b /\ q b := ⟨b, h, k⟩
section
variable {X : Cx} {K : PySem.W.Frag}
end
theorem vG {τ : Type} (R : τ -> ASt) (f : AV -> AV) {ag : AG} {ae : AE} {G : MH -> Prop} {N : List AV -> ASt -> MH -> Prop} {l : List AV} {ρ : ASt} {M : MH} (h0 : ∃ o, ρ = R o) (hG : G M) (hl : l.length <= 100000)
  (hs : ∀ (o : τ) (x : AV) (Q : AV -> ASt -> MH -> Prop), x ∈ l -> (∀ o', Q (f x) (R o') M) -> ag x (R o) M fun ρ2 M2 => ae ρ2 M2 fun y M3 => Q y ρ2 M3) (hN : ∀ o, N (l.map f) (R o) M) : V4 ag wo (vo ae) G N l [] ρ M := by
 have hsl : 100000 < sizeLine := by rw [sizeLine_eq]; decide
 refine ⟨fun i acc ρ' M' => i <= l.length /\ acc = (l.take i).map f /\ M' = M /\ ∃ o, ρ' = R o, ⟨Nat.zero_le _, rfl, rfl, h0⟩, ?_, ?_⟩
 ·rintro i x acc ρ' M' hx ⟨hi, rfl, rfl, o, rfl⟩
  have hil := (List.getElem?_eq_some_iff.mp hx).1
  refine ⟨hG, ?_⟩
  refine hs o x (fun y ρ2 M3 => ((l.take i).map f).length < sizeLine /\ (i + 1 <= l.length /\ (l.take i).map f ++ [y] = (l.take (i + 1)).map f /\ M3 = M' /\ ∃ o, ρ2 = R o)) (List.mem_of_getElem? hx) fun o' => ⟨by rw [List.length_map, List.length_take]; omega, hil, ?_, rfl, o', rfl⟩
  rw [List.take_add_one, hx, List.map_append]; rfl
 ·rintro acc ρ' M' ⟨_, rfl, rfl, o, rfl⟩
  rw [List.take_length]
  exact ⟨hG, hN o⟩
theorem D0 : isT "int" "int" = some true := by decide +kernel
theorem Dg : isT "int" "bool" = some false := by decide +kernel
theorem Di : isT "int" "str" = some false := by decide +kernel
theorem Dx : isT "int" "list" = some false := by decide +kernel
theorem DG : isT "int" "tuple" = some false := by decide +kernel
theorem Bs : isT "bool" "int" = some true := by decide +kernel
theorem Bf : isT "bool" "bool" = some true := by decide +kernel
theorem DS : isT "bool" "str" = some false := by decide +kernel
theorem Dw : isT "bool" "list" = some false := by decide +kernel
theorem Et : isT "bool" "tuple" = some false := by decide +kernel
theorem Eu : isT "str" "int" = some false := by decide +kernel
theorem BM : isT "str" "bool" = some false := by decide +kernel
theorem BN : isT "str" "str" = some true := by decide +kernel
theorem DB : isT "str" "list" = some false := by decide +kernel
theorem B5 : isT "str" "tuple" = some false := by decide +kernel
theorem BX : isT "NoneType" "int" = some false := by decide +kernel
theorem Bl : isT "NoneType" "bool" = some false := by decide +kernel
theorem DL : isT "NoneType" "str" = some false := by decide +kernel
theorem BU : isT "NoneType" "list" = some false := by decide +kernel
theorem DE : isT "NoneType" "tuple" = some false := by decide +kernel
theorem Dz : isT "list" "int" = some false := by decide +kernel
theorem Ei : isT "list" "bool" = some false := by decide +kernel
theorem B3 : isT "list" "str" = some false := by decide +kernel
theorem Dq : isT "list" "list" = some true := by decide +kernel
theorem D8 : isT "list" "tuple" = some false := by decide +kernel
theorem BF : isT "tuple" "int" = some false := by decide +kernel
theorem D6 : isT "tuple" "bool" = some false := by decide +kernel
theorem Dn : isT "tuple" "str" = some false := by decide +kernel
theorem EF : isT "tuple" "list" = some false := by decide +kernel
theorem DW : isT "tuple" "tuple" = some true := by decide +kernel
theorem Dv : yK "int" ["list", "tuple"] = some false := by decide +kernel
theorem BJ : yK "bool" ["list", "tuple"] = some false := by decide +kernel
theorem By : yK "str" ["list", "tuple"] = some false := by decide +kernel
theorem BI : yK "NoneType" ["list", "tuple"] = some false := by decide +kernel
theorem BH : yK "list" ["list", "tuple"] = some true := by decide +kernel
theorem BZ : yK "tuple" ["list", "tuple"] = some true := by decide +kernel
theorem Ye : wJ [] = some [] := rfl
theorem J3 {n : String} {r : List Dat} : wJ (.ty n :: r) = (wJ r).map (n :: ·) := rfl
theorem EW (M : MH) : tyA (.d .non) M = some "NoneType" := rfl
theorem E3 (b : Bool) (M : MH) : tyA (.d (.bl b)) M = some "bool" := rfl
theorem Fl (i : Int) (M : MH) : tyA (.d (.int i)) M = some "int" := rfl
theorem E8 (s : Str) (M : MH) : tyA (.d (.str s)) M = some "str" := rfl
theorem Fo (l : List Dat) (M : MH) : tyA (.d (.lst l)) M = some "list" := rfl
theorem EN (l : List Dat) (M : MH) : tyA (.d (.tup l)) M = some "tuple" := rfl
theorem Kq (x : Dat) (r : List AV) : pur (.d x :: r) = match pur r with | some l => some (x :: l) | none => none := rfl
theorem EG (i j : Int) : eqS (.int i) (.int j) = some (decide (i = j)) := rfl
theorem En (i j : Bool) : eqS (.bl i) (.bl j) = some (decide (i = j)) := rfl
theorem DJ (i j : Str) : eqS (.str i) (.str j) = some (decide (i = j)) := rfl
theorem Wb : qy (.d .non) = true := rfl
theorem Wq (i : Int) : qy (.d (.int i)) = false := rfl
theorem V3 (i : List Dat) : qy (.d (.lst i)) = false := rfl
theorem W1 (i : List Dat) : qy (.d (.tup i)) = false := rfl
theorem VM (i : Addr) : qy (.ref i) = false := rfl
theorem WV (i : Str) : qy (.d (.str i)) = false := rfl
theorem WX (i : Bool) : qy (.d (.bl i)) = false := rfl
end L2
set_option Elab.async false
set_option linter.all false
set_option maxRecDepth 100000
set_option maxHeartbeats 4000000
namespace L2
open PySem PySem.Spec PyProof.Rows
theorem ZW {H H' : Hp} {O : Own} {M : MH} (w : Wf H O M) (k : Kp [] H H') : Ext H O M H' O M /\ Wf H' O M := by
 have e : Ext H O M H' O M := ⟨fun a o h e => ⟨k a o (by simp) e, h⟩, fun a h e => ⟨by
  obtain ⟨o, ho, _⟩ := w.al a h
  rw [ho]; exact k a o (by simp) ho, h, e⟩, fun _ h => h⟩
 refine ⟨e, ⟨fun a o h => qG.ext e ?_ (w.mo a o h), w.own, fun a h => ?_⟩⟩
 ·obtain ⟨u, hu, _⟩ := w.al a (w.own a (by rw [h]; exact fun z => nomatch z))
  rw [hu]; exact k a u (by simp) hu
 ·obtain ⟨o, ho, hn⟩ := w.al a h
  exact ⟨o, k a o (by simp) ho, hn⟩
theorem BV {H H' : Hp} {O : Own} {M : MH} (w : Wf H O M) {b : Addr} {l : List AV} (hb : M b = some (.lst l)) (k : Kp [b] H H') {ns : List Int} (h : H' b = some (.lst (ns.map V.int))) :
  Ext H O M H' O (mup M b (.lst (ns.map fun i => .d (.int i)))) /\ Wf H' O (mup M b (.lst (ns.map fun i => .d (.int i)))) := by
 have hOb := w.own b (jl hb)
 have kk : ∀ a o, a ≠ b -> H a = some o -> H' a = some o := fun a o ha e => k a o (by simpa using ha) e
 have e : Ext H O M H' O (mup M b (.lst (ns.map fun i => .d (.int i)))) := ⟨fun a o h e => ⟨kk a o (fun z => h (by rw [z]; exact hOb)) e, h⟩, fun a ha e => by
  have hne : a ≠ b := fun z => by rw [z, hb] at e; cases e
  obtain ⟨o, ho, _⟩ := w.al a ha
  exact ⟨by rw [ho]; exact kk a o hne ho, ha, by rw [zr hne]; exact e⟩, fun a ha => by
  by_cases c : a = b
  ·rw [c, zp]; exact fun z => nomatch z
  ·rw [zr c]; exact ha⟩
 refine ⟨e, ⟨fun a o ho => ?_, fun a ha => ?_, fun a ha => ?_⟩⟩
 ·by_cases c : a = b
  ·subst c; rw [zp] at ho; cases ho; exact ⟨_, h, ZG ns⟩
  ·rw [zr c] at ho
   refine qG.ext e ?_ (w.mo a o ho)
   obtain ⟨u, hu, _⟩ := w.al a (w.own a (jl ho))
   rw [hu]; exact kk a u c hu
 ·by_cases c : a = b
  ·rw [c]; exact hOb
  ·rw [zr c] at ha; exact w.own a ha
 ·by_cases c : a = b
  ·rw [c]; exact ⟨_, h, fun xs z => nomatch z⟩
  ·obtain ⟨o, ho, hn⟩ := w.al a ha
   exact ⟨o, kk a o c ho, hn⟩
theorem YW {H : Hp} {O : Own} {p : Addr} {ns : List Int} (ho : ¬ O p) (h : H p = some (.lst (ns.map V.int))) : Rep H O (.ref p) (.lst (ns.map .int)) :=
 Rep.lst ho h (by simp) fun i x d e1 e2 => by
  rw [List.getElem?_map] at e1 e2
  cases e : ns[i]? with
  | none => rw [e] at e1; cases e1
  | some n => rw [e] at e1 e2; cases e1; cases e2; exact .int
theorem Wf.tup {H : Hp} {O : Own} {M : MH} (w : Wf H O M) {p : Addr} {xs : List V} (h : H p = some (.tup xs)) : ¬ O p := fun z => by
 obtain ⟨o, ho, hn⟩ := w.al p z
 rw [h] at ho; cases ho; exact hn xs rfl
theorem Xk {H : Hp} {O : Own} {M : MH} {v : V} {x : AV} {ns : List Int} (w : Wf H O M) (r : zt H O M v x) (h : qu x M = some (ns.map fun i => .d (.int i))) : ∃ a, v = .ref a /\ H a = some (.lst (ns.map V.int)) := by
 obtain ⟨a, xs, rfl, h1, r1⟩ := qw w r h
 rw [yD r1] at h1
 exact ⟨a, rfl, h1⟩
theorem Df.imp' {P : Program} {w : World} {K : PySem.W.Frag} {mg : Str -> Option Value} {base : Heap} {x : Str} {ps : List Str} {sp sp' : Sp} {k : Nat} (D : Df P w K mg base x ps k sp) (h : ∀ vs H Q E, sp' vs H Q E -> sp vs H Q E) : Df P w K mg base x ps k sp' :=
 let ⟨f, fd, F, r⟩ := D
 ⟨f, fd, F.imp h, r⟩
mutual
noncomputable def wdt : Dat -> Nat
 | .lst l => max l.length (Qg l)
 | .tup l => max l.length (Qg l)
 | _ => 0
noncomputable def Qg : List Dat -> Nat
 | [] => 0
 | a :: r => max (wdt a) (Qg r)
end
theorem QN {l : List Dat} {n : Nat} (h : ∀ d ∈ l, wdt d <= n) : Qg l <= n := by
 induction l with
 | nil => exact Nat.zero_le _
 | cons a r ih => rw [Qg]; exact Nat.max_le.mpr ⟨h a (by simp), ih fun d hd => h d (by simp [hd])⟩
theorem Q7 {l : List Dat} {d : Dat} (h : d ∈ l) : wdt d <= Qg l := by
 induction l with
 | nil => cases h
 | cons a r ih =>
  rw [Qg]
  rcases List.mem_cons.mp h with rfl | h
  ·exact Nat.le_max_left _ _
  ·exact Nat.le_trans (ih h) (Nat.le_max_right _ _)
noncomputable def jd (n : Nat) (d : Dat) : Prop := dp d <= n /\ wdt d <= 100000
theorem jd.mono {n m : Nat} {d : Dat} (h : jd n d) (k : n <= m) : jd m d := ⟨Nat.le_trans h.1 k, h.2⟩
theorem YD {n : Nat} {l : List Dat} (hl : l.length <= 100000) (h : ∀ d ∈ l, jd n d) : jd (n + 1) (.lst l) := ⟨by rw [dp]; exact Nat.succ_le_succ (XJ fun d hd => (h d hd).1), by rw [wdt]; exact Nat.max_le.mpr ⟨hl, QN fun d hd => (h d hd).2⟩⟩
theorem Zb {n : Nat} {l : List Dat} (hl : l.length <= 100000) (h : ∀ d ∈ l, jd n d) : jd (n + 1) (.tup l) := ⟨by rw [dp]; exact Nat.succ_le_succ (XJ fun d hd => (h d hd).1), by rw [wdt]; exact Nat.max_le.mpr ⟨hl, QN fun d hd => (h d hd).2⟩⟩
theorem wZ (n : Nat) (i : Int) : jd n (.int i) := ⟨by simp [dp], by simp [wdt]⟩
theorem Xh (n : Nat) : jd n .non := ⟨by simp [dp], by simp [wdt]⟩
theorem ZV {ns : List Int} (h : ns.length <= 100000) : jd 1 (.tup (ns.map .int)) := Zb (by simpa using h) fun d hd => by obtain ⟨i, _, rfl⟩ := List.mem_map.mp hd; exact wZ 0 i
theorem jd.lst {n : Nat} {l : List Dat} (h : jd (n + 1) (.lst l)) : l.length <= 100000 /\ ∀ d ∈ l, jd n d := by
 obtain ⟨h1, h2⟩ := h
 rw [dp] at h1
 rw [wdt] at h2
 exact ⟨(Nat.max_le.mp h2).1, fun d hd => ⟨by have := qh hd; omega, Nat.le_trans (Q7 hd) (Nat.max_le.mp h2).2⟩⟩
theorem jd.tup {n : Nat} {l : List Dat} (h : jd (n + 1) (.tup l)) : l.length <= 100000 /\ ∀ d ∈ l, jd n d := by
 obtain ⟨h1, h2⟩ := h
 rw [dp] at h1
 rw [wdt] at h2
 exact ⟨(Nat.max_le.mp h2).1, fun d hd => ⟨by have := qh hd; omega, Nat.le_trans (Q7 hd) (Nat.max_le.mp h2).2⟩⟩
theorem jd.no_l {l : List Dat} (h : jd 0 (.lst l)) : False := by have := h.1; rw [dp] at this; omega
theorem jd.no_t {l : List Dat} (h : jd 0 (.tup l)) : False := by have := h.1; rw [dp] at this; omega
theorem Zo {x : AV} {M : MH} {l : List Dat} (h : yp x M = some (.lst l)) : qu x M = some (l.map .d) /\ kY x M = some (l.map .d) /\ tyA x M = some "list" /\ qy x = false := by
 cases x with
 | d x => cases h; exact ⟨rfl, rfl, rfl, rfl⟩
 | ref a =>
  unfold yp at h
  dsimp only at h
  cases e : M a with
  | none => rw [e] at h; cases h
  | some o =>
   rw [e] at h
   cases o with
   | lst m =>
    dsimp only at h
    cases ep : pur m with
    | none => rw [ep] at h; cases h
    | some ds =>
     rw [ep] at h
     cases h
     rw [jT ep] at e
     exact ⟨jL e, ql e, by unfold tyA; dsimp only; rw [e], rfl⟩
   | _ => cases h
theorem qd {x : AV} {M : MH} {d : Dat} (h : yp x M = some d) (hd : ∀ l, d ≠ .lst l) : x = .d d := by
 cases x with
 | d x => cases h; rfl
 | ref a =>
  unfold yp at h
  dsimp only at h
  cases e : M a with
  | none => rw [e] at h; cases h
  | some o =>
   rw [e] at h
   cases o with
   | lst m =>
    dsimp only at h
    cases ep : pur m with
    | none => rw [ep] at h; cases h
    | some ds => rw [ep] at h; cases h; exact absurd rfl (hd ds)
   | _ => cases h
theorem FH (b : Bool) : dp (.bl b) = 0 := by simp [dp]
theorem qD (b : Str) : dp (.str b) = 0 := by simp [dp]
theorem DY : dp .non = 0 := by simp [dp]
theorem Bt (a b : Bool) : eqD (.bl a) (.bl b) = decide (a = b) := by rw [eqD]; cases a <;> cases b <;> rfl
theorem wf (a b : Int) : eqD (.int a) (.int b) = decide (a = b) := by rw [eqD]; by_cases h : a = b <;> simp [h]
theorem qB (a b : Str) : eqD (.str a) (.str b) = decide (a = b) := by rw [eqD]; by_cases h : a = b <;> simp [h]
theorem Ds : eqD .non .non = true := by simp [eqD]
theorem Xj (i : Int) : eqD .non (.int i) = false := by simp [eqD]
theorem B4 (i : Int) : eqD (.int i) .non = false := by simp [eqD]
theorem BO (i : Int) (s : Str) : eqD (.int i) (.str s) = false := by simp [eqD]
theorem D9 (i : Int) (s : Str) : eqD (.str s) (.int i) = false := by simp [eqD]
theorem DC (s : Str) : eqD (.str s) .non = false := by simp [eqD]
theorem DN (s : Str) : eqD .non (.str s) = false := by simp [eqD]
theorem K8 (ns : List Int) : List.map AV.d (List.map Dat.int ns) = List.map (fun i => AV.d (.int i)) ns := by rw [List.map_map]; rfl
theorem Az (ns : List Bool) : List.map AV.d (List.map Dat.bl ns) = List.map (fun i => AV.d (.bl i)) ns := by rw [List.map_map]; rfl
theorem jz (ns : List Int) : pur (List.map (fun i => AV.d (.int i)) ns) = some (ns.map Dat.int) := by rw [<- K8, qk]
theorem VL (ns : List Bool) : pur (List.map (fun i => AV.d (.bl i)) ns) = some (ns.map Dat.bl) := by rw [<- Az, qk]
theorem WW {α β : Type} (f : α -> β) (l : List α) (i : Int) : atI (l.map f) i = (atI l i).map f := by
 unfold atI
 rw [List.length_map]
 cases ixN l.length i with
 | none => rfl
 | some j => exact List.getElem?_map ..
theorem jp {n : Nat} {i : Int} (h0 : 0 <= i) (h1 : i < n) : ixN n i = some i.toNat := by unfold ixN; rw [if_pos h0, if_pos h1]
theorem Dp {α : Type} {l : List α} {i : Int} (h0 : 0 <= i) (h1 : i < l.length) (d : α) : atI l i = some (l.getD i.toNat d) := by
 unfold atI
 rw [jp h0 h1]
 show l[i.toNat]? = _
 rw [List.getD_eq_getElem?_getD, List.getElem?_eq_getElem (by omega)]; rfl
theorem xr {α : Type} (xs : List α) (k : Nat) : kN xs (some (k : Int)) none = xs.drop k := by
 unfold kN
 rw [HT.sIx_nat, HT.sIx_none, List.take_of_length_le (by rw [List.length_drop]; omega)]
 by_cases h : k <= xs.length
 ·rw [Nat.min_eq_left h]
 ·rw [Nat.min_eq_right (by omega), List.drop_length, List.drop_of_length_le (by omega)]
theorem zj {a qm : AS} {B : MH} {D : kL} {ρ : ASt} {M : MH} (h : ∀ r, r = qm -> v0 a r B D ρ M) : v0 a qm B D ρ M := h qm rfl
theorem Fr.non {M M' : MH} (f : Fr M M') {p : Addr} (h : M' p = none) : M p = none := by
 cases e : M p with
 | none => rfl
 | some o => rw [f p (by rw [e]; exact fun z => nomatch z), e] at h; cases h
noncomputable abbrev ilD (os : List Int) : Dat := .lst (os.map .int)
theorem Wt (ns : List Int) (M : MH) : qu (.d (ilD ns)) M = some (ns.map fun i => .d (.int i)) := by rw [Xp, K8]
noncomputable def BxM (M : MH) (b : Addr) (N : Nat) : Prop := ∃ x y z : Int, M b = some (.lst [.d (.int x), .d (.int y), .d (.int z)]) /\ 0 <= x /\ 0 <= y /\ y < 2147483648 /\ 0 <= z /\ z <= N
theorem BxM.mono {M : MH} {b : Addr} {N N' : Nat} (h : BxM M b N) (hn : N <= N') : BxM M b N' := by
 obtain ⟨x, y, z, h1, h2, h3, h4, h5, h6⟩ := h
 exact ⟨x, y, z, h1, h2, h3, h4, h5, by omega⟩
theorem BxM.ne {M : MH} {b : Addr} {N : Nat} (h : BxM M b N) : M b ≠ none := by obtain ⟨x, y, z, h1, _⟩ := h; exact jl h1
theorem BxM.bx {H : Hp} {O : Own} {M : MH} {b : Addr} {N : Nat} (w : Wf H O M) (h : BxM M b N) : Bx H b N := by
 obtain ⟨x, y, z, h1, h2⟩ := h
 obtain ⟨xs, hx, rx⟩ := w.mo b _ h1
 rw [yD (ns := [x, y, z]) rx] at hx
 exact ⟨x, y, z, hx, h2⟩
noncomputable def BxS (M M' : MH) (b : Addr) (N : Nat) : Prop := BxM M' b N /\ ∃ o, M' = mup M b o
theorem BxS.at {M M' : MH} {b : Addr} {N : Nat} (h : BxS M M' b N) {q : Addr} (hq : q ≠ b) : M' q = M q := by
 obtain ⟨_, o, rfl⟩ := h
 exact zr hq
theorem Qq {H H' : Hp} {O : Own} {M : MH} (w : Wf H O M) {b : Addr} {N N' : Nat} (hb : BxM M b N) (k : Kp [b] H H') (h : Bx H' b N') : ∃ M', BxS M M' b N' /\ Ext H O M H' O M' /\ Wf H' O M' := by
 obtain ⟨x, y, z, h1, _⟩ := hb
 obtain ⟨x', y', z', g1, g2⟩ := h
 obtain ⟨e1, e2⟩ := BV w h1 k (ns := [x', y', z']) g1
 exact ⟨_, ⟨⟨x', y', z', zp, g2⟩, _, rfl⟩, e1, e2⟩
end L2
set_option Elab.async false
set_option linter.all false
set_option maxRecDepth 100000
set_option maxHeartbeats 4000000
namespace L2
open PySem PySem.Spec PyProof.Rows
mutual
noncomputable def pdD : Dat -> PyData
 | .bl b => .bool b
 | .int i => .int i
 | .str x => .str x
 | .lst l => .list (v8 l)
 | .tup l => .tuple (v8 l)
 | _ => .none
noncomputable def v8 : List Dat -> List PyData
 | [] => []
 | a :: r => pdD a :: v8 r
end
section
variable {X : Cx} {pins : List (Addr × Obj)} {s : Shared} {σ : St} {H : Hp} {O : Own}
mutual
theorem Dh : ∀ d : Dat, (pdD d).hasDict = false
 | .non => by simp [pdD, PyData.hasDict]
 | .bl _ => by simp [pdD, PyData.hasDict]
 | .int _ => by simp [pdD, PyData.hasDict]
 | .str _ => by simp [pdD, PyData.hasDict]
 | .ty _ => by simp [pdD, PyData.hasDict]
 | .rng _ _ _ => by simp [pdD, PyData.hasDict]
 | .scr _ _ => by simp [pdD, PyData.hasDict]
 | .lst l => by rw [pdD, PyData.hasDict]; exact vE l
 | .tup l => by rw [pdD, PyData.hasDict]; exact vE l
theorem vE : ∀ l : List Dat, PyData.hasDictAll (v8 l) = false
 | [] => by simp [v8, PyData.hasDictAll]
 | a :: r => by rw [v8, PyData.hasDictAll, Dh a, vE r]; rfl
end
mutual
theorem XC : ∀ d : Dat, (pdD d).depth <= dp d
 | .non => by simp [pdD, PyData.depth]
 | .bl _ => by simp [pdD, PyData.depth]
 | .int _ => by simp [pdD, PyData.depth]
 | .str _ => by simp [pdD, PyData.depth]
 | .ty _ => by simp [pdD, PyData.depth]
 | .rng _ _ _ => by simp [pdD, PyData.depth]
 | .scr _ _ => by simp [pdD, PyData.depth]
 | .lst l => by rw [pdD, PyData.depth, dp]; exact Nat.succ_le_succ (xh l)
 | .tup l => by rw [pdD, PyData.depth, dp]; exact Nat.succ_le_succ (xh l)
theorem xh : ∀ l : List Dat, PyData.depthAll (v8 l) <= dps l
 | [] => by simp [v8, PyData.depthAll]
 | a :: r => by rw [v8, PyData.depthAll, dps]; exact Nat.max_le.mpr ⟨Nat.le_trans (XC a) (Nat.le_max_left _ _), Nat.le_trans (xh r) (Nat.le_max_right _ _)⟩
end
end
section
variable {X : Cx}
end
structure Sh (b : Nat) (d : Dat) : Prop where
 s : (pdD d).showable = true
 l : (pdD d).shown.length <= b
end L2
set_option Elab.async false
set_option linter.all false
set_option maxRecDepth 100000
set_option maxHeartbeats 4000000
namespace L2
open PySem PySem.Spec PyProof.Rows
structure SB (M0 M : MH) (b : Addr) (N : Nat) : Prop where
 bx : BxM M b N
 fr : ∀ q, M0 q ≠ none -> q ≠ b -> M q = M0 q
 b0 : M0 b ≠ none
theorem SB.refl {M : MH} {b : Addr} {N : Nat} (h : BxM M b N) : SB M M b N := ⟨h, fun _ _ _ => rfl, h.ne⟩
theorem SB.go {M0 M M' : MH} {b : Addr} {N N' : Nat} (s : SB M0 M b N) (t : BxS M M' b N') : SB M0 M' b N' := ⟨t.1, fun q hq hb => (t.at hb).trans (s.fr q hq hb), s.b0⟩
theorem SB.mono {M0 M : MH} {b : Addr} {N N' : Nat} (s : SB M0 M b N) (h : N <= N') : SB M0 M b N' := ⟨s.bx.mono h, s.fr, s.b0⟩
theorem BxM.put {M : MH} {b p : Addr} {N : Nat} (h : BxM M b N) (n : b ≠ p) (o : MO) : BxM (mup M p o) b N := by
 obtain ⟨x, y, z, h1, h2⟩ := h
 exact ⟨x, y, z, by rw [zr n]; exact h1, h2⟩
theorem SB.new {M0 M : MH} {b p : Addr} {N : Nat} (s : SB M0 M b N) (hp : M p = none) : M0 p = none /\ p ≠ b := by
 have hb : p ≠ b := fun z => s.bx.ne (by rw [<- z]; exact hp)
 refine ⟨?_, hb⟩
 cases e : M0 p with
 | none => rfl
 | some o => rw [s.fr p (by rw [e]; exact fun z => nomatch z) hb, e] at hp; cases hp
theorem SB.put {M0 M : MH} {b p : Addr} {N : Nat} (s : SB M0 M b N) (h0 : M0 p = none) (hb : p ≠ b) (o : MO) : SB M0 (mup M p o) b N :=
 ⟨s.bx.put (Ne.symm hb) o, fun q hq hqb => by rw [zr (fun z => hq (by rw [z]; exact h0))]; exact s.fr q hq hqb, s.b0⟩
theorem SB.fin {M0 M : MH} {b : Addr} {N : Nat} (s : SB M0 M b N) (d : Dat) : ∃ M'', yP M0 M (.d d) (.d d) M'' /\ BxS M0 M'' b N := by
 obtain ⟨x, y, z, h1, h2⟩ := s.bx
 refine ⟨mup M0 b (.lst [.d (.int x), .d (.int y), .d (.int z)]), ⟨fun q => ?_, fun q o e => ?_, .inl ⟨rfl, fun p z => nomatch z⟩⟩, ⟨x, y, z, zp, h2⟩, _, rfl⟩
 ·by_cases c : q = b
  ·rw [c, zp, h1]; exact .inl rfl
  ·rw [zr c]
   cases e : M0 q with
   | none => exact .inr ⟨rfl, rfl⟩
   | some o => exact .inl (by rw [s.fr q (by rw [e]; exact fun z => nomatch z) c, e])
 ·by_cases c : q = b
  ·rw [c, zp] at e
   cases e
   exact .inr fun r hr => absurd hr (xZ (ds := [.int x, .int y, .int z]) rfl r)
  ·rw [zr c] at e; exact .inl e
theorem SB.rt {M0 M : MH} {b : Addr} {N : Nat} {Q : AK} {d : Dat} (s : SB M0 M b N) (q : ∀ M', BxS M0 M' b N -> Q (.d d) M') : rtA M0 Q (.d d) M := by
 obtain ⟨M'', f, t⟩ := s.fin d
 exact ⟨_, _, f, q M'' t⟩
theorem EO {M0 M : MH} {Q : AK} {d : Dat} (f : Fr M0 M) (q : Q (.d d) M0) : rtA M0 Q (.d d) M := ⟨_, _, qj f d, q⟩
theorem SB.frm {M M2 M' : MH} {b : Addr} {N : Nat} (f : Fr M M2) (hb : M b = none) (s : SB M2 M' b N) : Fr M M' := fun q hq => by
 have h1 : q ≠ b := fun z => hq (by rw [z]; exact hb)
 rw [s.fr q (by rw [f q hq]; exact hq) h1, f q hq]
theorem FS {l : List Dat} {i : Int} (h0 : 0 <= i) (h1 : i < l.length) : ∃ d ∈ l, atI (l.map AV.d) i = some (.d d) := by
 have h2 : i.toNat < l.length := by omega
 refine ⟨l[i.toNat], List.getElem_mem h2, ?_⟩
 rw [WW, Dp h0 h1 .non, List.getD_eq_getElem?_getD, List.getElem?_eq_getElem h2]; rfl
section
variable {X : Cx}
end
section
open PySem.SeqAt
open PySem.AutoSeq1 (wpAny_loadPart')
open PySem.MeetsSeq PySem.MeetsSeq2 PySem.MeetsSeq3 PySem.SeqRoads2
end
section
variable {X : Cx}
end
end L2
set_option Elab.async false
set_option linter.all false
set_option maxRecDepth 100000
set_option maxHeartbeats 4000000
namespace L2
open PySem PySem.Spec PyProof.Rows
section
variable {X : Cx} {pins : List (Addr × Obj)} {σ : St} {H : Hp} {s : Shared} {a b : Addr} {kvs : List (List Key × V)} {k : List Key} {v : V} {r : Value} {A : Around} {E : Value -> Shared -> Prop}
end
end L2
set_option Elab.async false
set_option linter.all false
set_option maxRecDepth 100000
set_option maxHeartbeats 4000000
namespace L2
open PySem PySem.Spec PyProof.Rows
section
variable {prog : Program} {w : World} {A : Around} {E : Value -> Shared -> Prop} {s : Shared}
end
section
variable {X : Cx}
end
end L2
set_option Elab.async false
set_option linter.all false
set_option maxRecDepth 100000
set_option maxHeartbeats 4000000
namespace L2
open PySem PySem.Spec PyProof.Rows
noncomputable def SmD (h h' : Heap) : Prop := ∀ b o, h.get? b = some o -> ∃ o', h'.get? b = some o' /\ o'.dict = o.dict
theorem SmD.refl (h : Heap) : SmD h h := fun _ o e => ⟨o, e, rfl⟩
theorem SmD.trans {h h1 h2 : Heap} (a : SmD h h1) (b : SmD h1 h2) : SmD h h2 := fun c o e =>
 let ⟨_, e1, d1⟩ := a c o e
 let ⟨o2, e2, d2⟩ := b c _ e1
 ⟨o2, e2, d2.trans d1⟩
theorem SmD.push (h : Heap) (o : Obj) : SmD h (h.push o) := fun _ u e => ⟨u, Heap.get?_push_of_some _ e, rfl⟩
theorem SmD.up {h : Heap} {a : Addr} {f : Obj -> Obj} (k : ∀ o, (f o).dict = o.dict /\ (o.isFreed = false -> (f o).isFreed = false)) : SmD h (h.update a f) := fun b o e => by
 by_cases c : a = b
 ·subst c
  exact ⟨_, Heap.get?_update_self f e ((k o).2 (Heap.get?_some_iff.mp e).2), (k o).1⟩
 ·exact ⟨o, (Heap.get?_update_other _ _ c).trans e, rfl⟩
structure Kd {α : Type} (t : Sem α) : Prop where
 out : ∀ (M : Model) (G : PySem.Ctx) (R : α -> Pos -> Shared -> Prop) (Ee : Value -> Pos -> Shared -> Prop) (p : Pos) (s : Shared), Sem.wp M G t R Ee p s -> Sem.wp M G t (fun a p' s' => R a p' s' /\ SmD s.heap s'.heap) Ee p s
section
variable {α β : Type}
theorem vV (a : α) : Kd (Pure.pure a : Sem α) := ⟨fun _ _ _ _ _ s h => ⟨h, SmD.refl _⟩⟩
theorem Eo (x : String) : Kd (unsupported x : Sem α) := ⟨fun _ _ _ _ _ _ h => h⟩
theorem QL {m : Sem α} {f : α -> Sem β} (hm : Kd m) (hf : ∀ a, Kd (f a)) : Kd (m >>= f) := ⟨fun M G R Ee p s h => by
 rw [Sem.wp_bind'] at h ⊢
 refine Sem.wp_mono M G m (fun a p1 s1 h1 => ?_) (fun _ _ _ z => z) p s (hm.out M G _ Ee p s h)
 refine Sem.wp_mono M G (f a) (fun b p2 s2 h2 => ⟨h2.1, h1.2.trans h2.2⟩) (fun _ _ _ z => z) p1 s1 ((hf a).out M G R Ee p1 s1 h1.1)⟩
theorem Dt {c : Prop} [Decidable c] {t u : Sem α} (ht : Kd t) (hu : Kd u) : Kd (if c then t else u) := by split <;> assumption
theorem Ws (a : Addr) : Kd (PySem.load a) := ⟨fun _ _ R _ p s h => by
 unfold PySem.load at h ⊢
 rw [Sem.wp_load] at h ⊢
 obtain ⟨o, e, h⟩ := h
 exact ⟨o, e, h, SmD.refl _⟩⟩
theorem JO {a : Addr} {f : Obj -> Obj} (k : ∀ o, (f o).dict = o.dict /\ (o.isFreed = false -> (f o).isFreed = false)) : Kd (PySem.update a f) := ⟨fun _ _ R _ p s h => by
 unfold PySem.update at h ⊢
 rw [Sem.wp_update] at h ⊢
 exact ⟨h.1, h.2, SmD.up k⟩⟩
theorem K4 : Kd PySem.stack := ⟨fun M G R Ee p s h => by
 unfold PySem.stack at h ⊢
 rw [Sem.wp_stack] at h ⊢
 exact ⟨h, SmD.refl _⟩⟩
theorem Yn (o : Obj) : Kd (PySem.alloc o) := ⟨fun _ _ R _ p s h => by
 unfold PySem.alloc at h ⊢
 rw [Sem.wp_alloc] at h ⊢
 exact ⟨h, SmD.push _ _⟩⟩
theorem YT (v : Value) (i : Nat) : Kd (PySem.field v i) := ⟨fun _ G R Ee p s h => by
 obtain ⟨a, o, vs, x, e1, e2, e3, e4, q⟩ := (wp_field_iff G v i R Ee p s).mp h
 exact (wp_field_iff G v i _ Ee p s).mpr ⟨a, o, vs, x, e1, e2, e3, e4, q, SmD.refl _⟩⟩
theorem JU (f : Array Value -> Array Value) (o : Obj) : (Obj.mapFields f o).dict = o.dict /\ (o.isFreed = false -> (Obj.mapFields f o).isFreed = false) := by
 obtain ⟨c, d, dt, sl⟩ := o
 cases dt <;> exact ⟨rfl, fun h => h⟩
theorem wI (v : Value) (i : Nat) (x : Value) : Kd (PySem.setField v i x) := ⟨fun _ G R Ee p s h => by
 obtain ⟨a, o, vs, e1, e2, e3, e4, q⟩ := (wp_setField_iff G v i x R Ee p s).mp h
 exact (wp_setField_iff G v i x _ Ee p s).mpr ⟨a, o, vs, e1, e2, e3, e4, q, SmD.up (JU _)⟩⟩
end
local macro_rules | `(tactic| walk_at "kd") => `(tactic| repeat' with_reducible first
  | assumption
  | exact vV _
  | exact Eo _
  | exact YT _ _
  | exact wI _ _ _
  | exact Ws _
  | exact K4
  | exact Yn _
  | apply Dt
  | apply QL
  | intro _
  | split)
theorem Ky (env : Env) (outer : List Env) : Kd (behindIsImport env outer) := by
 unfold behindIsImport
 walk_at "kd"
theorem JB : Kd underTheClaimsCaller := by
 unfold underTheClaimsCaller
 walk_at "kd"
theorem Wh (env : Env) (i : Bool) (l : List Env) : Kd (keptBack env i l) := by
 have := JB
 cases l <;> unfold keptBack <;> walk_at "kd"
theorem Zf : ∀ l : List Env, Kd (readyFrames l)
 | [] => vV _
 | env :: outer => by
  have ih := Zf outer
  have h1 := Ky env outer
  have h2 := fun i => Wh env i outer
  unfold readyFrames
  walk_at "kd"
  all_goals first | exact h2 _ | exact JO fun o => ⟨rfl, fun z => by obtain ⟨c, d, dt, sl⟩ := o; cases dt <;> exact z⟩ | skip
theorem Zl (l : List Env) : Kd (frameObject l) := by
 cases l with
 | nil => exact vV _
 | cons env outer =>
  have := Zf (env :: outer)
  unfold frameObject
  walk_at "kd"
theorem wb : Kd frameEnvs := by
 unfold frameEnvs
 walk_at "kd"
theorem Qr (env : Env) : Kd (PySem.frameOf env) := by
 have h1 := wb
 have h2 := Zl
 unfold PySem.frameOf
 walk_at "kd"
 all_goals first | exact h2 _ | skip
theorem YY (f : Addr) (b : Bool) : Kd (entryPlaceOf f b) := by
 unfold entryPlaceOf
 walk_at "kd"
theorem Yf (a b c d e : Value) (l : List Value) : Kd (EntryCells.newEntry a b c d e l) := by
 unfold EntryCells.newEntry newFields newObj newObjAsIs
 walk_at "kd"
theorem Jv (e : Value) (env : Env) : Kd (noteFrame e env) := by
 have h1 := Qr env
 have h2 := YY
 have h3 := Yf
 unfold noteFrame
 walk_at "kd"
 all_goals first | exact h2 _ _ | exact h3 _ _ _ _ _ _ | skip
theorem xA (e : Value) (f : Option Addr) : Kd (setFlight e f) := by
 unfold setFlight
 walk_at "kd"
theorem yb (env : Env) (e : Value) : Kd (leaving env e) := QL (Jv e env) fun _ => xA e none
theorem Kd.any {α : Type} {t : Sem α} (k : Kd t) {M : Model} {A : Around} {Q : α -> Shared -> Prop} {E : Value -> Shared -> Prop} {s : Shared} (h : wpAny M A t Q E s) : wpAny M A t (fun a s' => Q a s' /\ SmD s.heap s'.heap) E s :=
 fun G p hG => k.out M G _ _ p s (h G p hG)
end L2
set_option Elab.async false
set_option linter.all false
set_option maxRecDepth 100000
set_option maxHeartbeats 4000000
namespace L2
open PySem PySem.Spec PyProof.Rows
theorem zP.here {P : Program} {w : World} {H : Hp} {h : Heap} {a : Addr} {o : HO} (x : zP P w H h a o) : ∃ u, h.get? a = some u := by
 cases o with
 | lst xs => obtain ⟨_, _, _, _, e⟩ := x; exact ⟨_, e⟩
 | tup xs => obtain ⟨_, _, _, o, e, _⟩ := x; exact ⟨_, e⟩
 | dK kvs => obtain ⟨_, _, _, _, o, _, _, e, _⟩ := x; exact ⟨_, e⟩
 | dT kvs => obtain ⟨_, _, _, _, o, _, _, e, _⟩ := x; exact ⟨_, e⟩
 | set S n => obtain ⟨o, _, _, _, e, _⟩ := x; exact ⟨_, e⟩
 | ins C dx fs => obtain ⟨_, _, _, e, _⟩ := x; exact ⟨_, e⟩
 | own y => exact x
 | xd fs => obtain ⟨_, ⟨_, _, _, e, _⟩, _⟩ := x; exact ⟨_, e⟩
 | rng lo hi => obtain ⟨_, _, _, e⟩ := x; exact ⟨_, e⟩
 | frz ob u => obtain ⟨e, _⟩ := x; exact ⟨_, e⟩
 | tbl ps => exact ⟨_, x⟩
 | met f y => exact ⟨_, x⟩
 | ext φ => exact x.2.1
structure kO (P : Program) (w : World) (outer : List Env) (H : Hp) (s : Shared) (B : Heap) (H' : Hp) (s' : Shared) : Prop where
 os : s'.os = s.os
 bare : AllBare s'.gens
 stay : B.StaysIn s'.heap
 cov : ∀ b o, s.heap.get? b = some o -> b ∉ frs outer -> ∃ o', B.get? b = some o' /\ (H b = none -> o' = o)
 slot : ∀ b o, s.heap.get? b = some o -> b ∈ frs outer -> ∃ sl, s'.heap.get? b = some { o with slots := sl }
 frf : ∀ b ∈ frs outer, H b = none
 free : ∀ b o, s.heap.get? b = some o -> H b = none -> H' b = none
 tups : ∀ b xs, H b = some (.tup xs) -> H' b = some (.tup xs)
 frzs : ∀ b o u, H b = some (.frz o u) -> H' b = some (.frz o u)
 tbls : ∀ b ps, H b = some (.tbl ps) -> ∃ more, H' b = some (.tbl (ps ++ more))
 hok : HOk P w H' B
section
variable {P : Program} {w : World} {outer : List Env} {H H' : Hp} {s s' : Shared} {B h' : Heap}
theorem kO.un (a : kO P w outer H s B H' s') : Un (frs outer) [] H H' s.heap s'.heap where
 keep := fun b o e n hb _ => by
  obtain ⟨o', e1, e2⟩ := a.cov b o e hb
  rw [e2 n] at e1
  exact a.stay b o e1
 slot := fun b o e _ hb _ => a.slot b o e hb
 free := fun b o e n _ => a.free b o e n
 there := fun b o e _ => by
  by_cases hb : b ∈ frs outer
  ·obtain ⟨sl, z⟩ := a.slot b o e hb
   exact ⟨_, z⟩
  ·obtain ⟨o', e1, _⟩ := a.cov b o e hb
   exact ⟨_, a.stay b o' e1⟩
 tups := a.tups
 frzs := a.frzs
 tbls := a.tbls
theorem kO.ok (a : kO P w outer H s B H' s') : HOk P w H' s'.heap := a.hok.kept a.stay
theorem kO.step (a : kO P w outer H s B H' s') {B0 : Heap} (fr : s'.heap.FunFrames B0 outer) (k : B.StaysIn h') (u : s'.heap.UpToSlots h') : kO P w outer H s B H' { s' with heap := h' } :=
 ⟨a.os, a.bare, k, a.cov, fun b o e hb => by
  obtain ⟨sl, z⟩ := a.slot b o e hb
  obtain ⟨_, o2, e2, nf⟩ := fr.mem hb
  rw [z] at e2; cases e2
  obtain ⟨sl2, z2⟩ := u b _ z nf
  exact ⟨sl2, z2⟩, a.frf, a.free, a.tups, a.frzs, a.tbls, a.hok⟩
end
section
variable {X : Cx} {pins : List (Addr × Obj)} {σ : St} {H H' : Hp} {s s' : Shared} {B h' : Heap}
theorem Inv.ltS (I : Inv X pins σ H s) {b : Addr} {o : Obj} (e : X.s₀.heap.get? b = some o) : b ≠ X.env.locals := fun z => by
 have h := Nat.lt_of_lt_of_le (Heap.lt_size e) I.ok.above
 rw [z] at h
 exact Nat.lt_irrefl _ h
theorem Inv.notStk (I : Inv X pins σ H s) {b : Addr} {o : Obj} (e : X.s₀.heap.get? b = some o) (hb : b ∉ frs X.outer) : b ∉ frs X.stack := fun z => (List.mem_cons.mp (I.stkSub b z)).elim (I.ltS e) hb
theorem vq {X : Cx} (hs : X.stack = X.env :: X.outer) {b : Addr} (hb : b ∈ frs X.outer) : b ∈ frs X.stack := by
 rw [hs]; unfold frs; rw [List.filterMap_cons]
 cases X.env.frame with
 | none => exact hb
 | some f => exact List.mem_cons_of_mem _ hb
theorem kO.out (I : Inv X pins σ H s) (hs : X.stack = X.env :: X.outer) (hex : X.ex = []) (a : kO X.prog X.w X.stack H s B H' s') : kO X.prog X.w X.outer X.H₀ X.s₀ B H' s' := by
 have nx : ∀ b, b ∉ X.ex := fun b => by rw [hex]; simp
 refine ⟨a.os.trans I.os, a.bare, a.stay, fun b o e hb => ?_, fun b o e hb => ?_, I.ok.frf, fun b o e n => ?_, fun b xs e => a.tups b xs (I.base.tups b xs e), fun b o u e => a.frzs b o u (I.base.frzs b o u e), fun b ps e => ?_, a.hok⟩
 ·obtain ⟨o1, e1⟩ := I.base.there b o e (nx b)
  obtain ⟨o', e2, e3⟩ := a.cov b o1 e1 (I.notStk e hb)
  refine ⟨o', e2, fun n => ?_⟩
  have := I.base.keep b o e n hb (nx b)
  rw [e1] at this; cases this
  exact e3 (I.base.free b o e n (nx b))
 ·obtain ⟨sl, e1⟩ := I.base.slot b o e (I.ok.frf b hb) hb (nx b)
  obtain ⟨sl2, e2⟩ := a.slot b _ e1 (vq hs hb)
  exact ⟨sl2, e2⟩
 ·obtain ⟨o1, e1⟩ := I.base.there b o e (nx b)
  exact a.free b o1 e1 (I.base.free b o e n (nx b))
 ·obtain ⟨m1, e1⟩ := I.base.tbls b ps e
  obtain ⟨m2, e2⟩ := a.tbls b _ e1
  exact ⟨m1 ++ m2, by rw [e2, Array.append_assoc]⟩
noncomputable def xP (X : Cx) (s : Shared) (x : Addr) : Heap := PySem.W.hideAll s.heap (x :: frs X.stack)
theorem Wm (I : Inv X pins σ H s) {x : Addr} (hx : H x = none) : HOk X.prog X.w H (xP X s x) := fun a o e => by
 refine (I.hok a o e).stay (fun b u hb q => PySem.W.hideAll_get _ q fun z => ?_) (fun _ q => q) fun _ _ q => q
 have : H b = none := by
  rcases List.mem_cons.mp z with rfl | z
  ·exact hx
  ·exact I.stkFree b z
 rcases hb with rfl | hb
 ·rw [e] at this; cases this
 ·rw [hb] at this; cases this
theorem Ql (I : Inv X pins σ H s) (hs : X.stack = X.env :: X.outer) (hex : X.ex = []) {x : Addr} (hx0 : X.s₀.heap.get? x = none) (hx : H x = none) (st : (xP X s x).StaysIn h') (us : s.heap.UpToSlots h') :
  kO X.prog X.w X.outer X.H₀ X.s₀ (xP X s x) H { s with heap := h' } := by
 have nx : ∀ b, b ∉ X.ex := fun b => by rw [hex]; simp
 have hid : ∀ b o o', X.s₀.heap.get? b = some o -> b ∉ frs X.outer -> s.heap.get? b = some o' -> (xP X s x).get? b = some o' := fun b o o' e hb e1 => PySem.W.hideAll_get _ e1 fun z => by
  rcases List.mem_cons.mp z with rfl | z
  ·rw [hx0] at e; cases e
  ·exact I.notStk e hb z
 refine ⟨I.os, I.bare, st, fun b o e hb => ?_, fun b o e hb => ?_, I.ok.frf, fun b o e n => I.base.free b o e n (nx b), I.base.tups, I.base.frzs, I.base.tbls, Wm I hx⟩
 ·obtain ⟨o1, e1⟩ := I.base.there b o e (nx b)
  refine ⟨o1, hid b o o1 e hb e1, fun n => ?_⟩
  have := I.base.keep b o e n hb (nx b)
  rw [e1] at this; cases this; rfl
 ·obtain ⟨sl, e1⟩ := I.base.slot b o e (I.ok.frf b hb) hb (nx b)
  obtain ⟨_, o2, e2, nf⟩ := I.stack.mem (vq hs hb)
  rw [e1] at e2; cases e2
  obtain ⟨sl2, e3⟩ := us b _ e1 nf
  exact ⟨sl2, e3⟩
end
structure Air (P : Program) (w : World) (outer : List Env) (H : Hp) (s : Shared) (x C : Addr) (d : Option Addr) (H' : Hp) (s' : Shared) : Prop where
 ex : ∃ B a0, kO P w outer H s B H' s' /\ Heap.FlyingW B outer x (.ref C) a0 s'.heap
 dct : ∃ o, s'.heap.get? x = some o /\ o.dict = d
noncomputable def CX1 (P : Program) (w : World) : CXT := fun outer H s E e s' => ∃ x C d H', e = .ref x /\ Air P w outer H s x C d H' s' /\ E (.ref C) d H'
theorem CX1.imp {P : Program} {w : World} {outer : List Env} {H : Hp} {s s' : Shared} {E E' : XK} {e : Value} (h : CX1 P w outer H s E e s') (k : ∀ c d H', E c d H' -> E' c d H') : CX1 P w outer H s E' e s' :=
 let ⟨x, C, d, H', e1, a, q⟩ := h
 ⟨x, C, d, H', e1, a, k _ _ _ q⟩
structure DX (X : Cx) (E : XK) : Prop where
 stk : X.stack = X.env :: X.outer
 ex : X.ex = []
 fr : X.env.frame = some X.env.locals
 xe : X.xe = fun e s' => wpAny (model X.prog X.w) X.A (leaving X.env e) (fun _ s'' => CX1 X.prog X.w X.outer X.H₀ X.s₀ E e s'') (fun e' s'' => CX1 X.prog X.w X.outer X.H₀ X.s₀ E e' s'') s'
section
variable {X : Cx} {E : XK} {pins : List (Addr × Obj)} {σ : St} {H H' : Hp} {s s' : Shared}
theorem DX.pass (D : DX X E) : jJ (CX1 X.prog X.w) X E := by
 intro pins σ H s e s' I h
 obtain ⟨x, C, d, H', rfl, ⟨⟨B, a0, a, fl⟩, o, ho, hd⟩, q⟩ := h
 rw [D.xe]
 have hs := D.stk
 rw [hs] at fl
 refine wpAny_mono ((yb X.env (.ref x)).any (wpAny_leaves_onW (E := fun _ _ => False) (Q := fun _ s2 => ∃ h', s2 = { s' with heap := h' } /\ Heap.FlyingW B X.outer x (.ref C) a0 h' /\ s'.heap.UpToSlots h') (by rw [<- hs]; exact I.ok.frames) D.fr fl fun h' f1 us => ⟨h', rfl, f1, us⟩)) (fun _ s2 h2 => ?_) fun _ _ z => z.elim
 obtain ⟨⟨h', rfl, f1, us⟩, sd⟩ := h2
 obtain ⟨o', ho', hd'⟩ := sd x o ho
 exact ⟨x, C, d, H', rfl, ⟨⟨B, a0, (a.out I hs D.ex).step (B0 := B) (by
  obtain ⟨_, _, f3, _⟩ := fl
  exact f3.2.2) f1.1 us, f1⟩, o', ho', hd'.trans hd⟩, q⟩
theorem DX.raise (D : DX X E) (I : Inv X pins σ H s) {x C : Addr} {d : Option Addr} {oe : Obj} {vs : Array Value} {a0 : Value} {h1 : Heap} (k : ∀ b o, b ≠ x -> s.heap.get? b = some o -> h1.get? b = some o) (kx : ∀ o, s.heap.get? x = some o -> ∃ vs, o.data = .fields vs)
  (he : h1.get? x = some oe) (hc : oe.cls = .ref C) (hd : oe.dict = d) (hf : oe.data = .fields vs) (hv1 : vs[1]? = some .none) (hv0 : vs[0]? = some a0) (hx0 : X.s₀.heap.get? x = none) (hx : H x = none) (q : E (.ref C) d H) : X.xe (.ref x) { s with heap := h1 } := by
 rw [D.xe]
 have hs := D.stk
 have st1 : (xP X s x).StaysIn h1 := fun b o e => k b o (fun z => by rw [z, xP, PySem.W.hideAll_none _ (List.mem_cons_self)] at e; cases e) (PySem.W.of_hideAll _ e)
 have us1 : s.heap.UpToSlots h1 := fun b o e nf => by
  by_cases c : b = x
  ·rw [c] at e
   obtain ⟨vs, z⟩ := kx o e
   exact absurd z (nf vs)
  ·exact ⟨o.slots, k b o c e⟩
 have fr0 : s.heap.FunFrames (xP X s x) (X.env :: X.outer) := by
  have := I.stack
  rw [hs] at this
  exact PySem.W.funFrames_hide this fun env he b hb => List.mem_cons_of_mem _ (by rw [hs]; exact List.mem_filterMap.mpr ⟨env, he, hb⟩)
 have fr1 : h1.FunFrames (xP X s x) (X.env :: X.outer) := fr0.of_keeps fun b o e nf => by
  obtain ⟨sl, z⟩ := us1 b o e nf
  exact ⟨_, z, rfl⟩
 have xn : (xP X s x).get? x = none := PySem.W.hideAll_none _ List.mem_cons_self
 refine wpAny_mono ((yb X.env (.ref x)).any (wpAny_leaving_firstW (s := { s with heap := h1 }) (E := fun _ _ => False) (base := xP X s x) (Q := fun _ s2 => ∃ h', s2 = { s with heap := h' } /\ Heap.LeftW (xP X s x) (X.env :: X.outer) x oe.cls a0 h1 h') (by rw [<- hs]; exact I.ok.frames) fr1 D.fr he st1 xn hf hv1 hv0 fun h' hl => ⟨h', rfl, hl⟩)) (fun _ s2 h2 => ?_) fun _ _ z => z.elim
 obtain ⟨⟨h', rfl, l1, l2, l3, l4⟩, sd⟩ := h2
 obtain ⟨o', ho', hd'⟩ := sd x oe he
 rw [hc] at l3
 exact ⟨x, C, d, H, rfl, ⟨⟨xP X s x, a0, Ql I hs D.ex hx0 hx l1 (us1.trans l4), l1, xn, l2.2.2, l3⟩, o', ho', hd'.trans hd⟩, q⟩
end
end L2
set_option Elab.async false
set_option linter.all false
set_option maxRecDepth 100000
set_option maxHeartbeats 4000000
namespace L2
open PySem PySem.Spec PyProof.Rows
noncomputable def wt (CX : CXT) (X : Cx) (E : St -> XK) : Prop := ∀ (pins : List (Addr × Obj)) (σ : St) (H : Hp) (s : Shared) (e : Value) (s' : Shared), Inv X pins σ H s -> CX X.stack H s (E σ) e s' -> X.xe e s'
section
variable {X : Cx} {k : Nat} {x : Str} {ps : List Str} {sp : Sp} {E : St -> XK} {p pos : Pos} {e : Expr} {es : List Expr} {t : TA}
theorem W9 {CX : CXT} {f : Addr} {fd : FuncData} {pins : List (Addr × Obj)} {σ : St} {H : Hp} {s : Shared} {Q : VK} {us : List Value} {vs : List V} (F : qT X.prog X.w X.K X.mg X.base CX k f fd ps sp) (hr : qg k X.A) (hb : ja X.K fd ps []) (hx : wt CX X E)
  (I : Inv X pins σ H s) (r : zB vs us) (h : sp vs H Q (E σ)) : wpAny (model X.prog X.w) X.A (call (.ref f) us) (EP X pins σ Q) X.xe s := by
 have hl : (us ++ []).length = ps.length := by rw [List.append_nil, <- r.length]; exact F.len _ _ _ _ h
 have b1 := hb s us I.kIn hl
 rw [List.append_nil] at b1
 refine wpAny_call (codeAny_mono (F.run X.A X.stack s H ⟨us, []⟩ us vs Q (E σ) hr I.env0 b1 r h) fun r s' hq => ?_)
 cases r with
 | error e => exact hx pins σ H s e s' I hq
 | ok fl =>
  cases fl with
  | ret u => exact I.after hq
  | next => exact False.elim hq
  | brk => exact False.elim hq
  | cont => exact False.elim hq
theorem DX.passX {E0 : XK} (D : DX X E0) : wt (CX1 X.prog X.w) X fun _ => E0 := fun pins σ H s e s' I h => D.pass pins σ H s e s' I h
end
abbrev Km : List Value := [.type "ValueError", .type "Exception", .type "BaseException", .type "object"]
section
variable {X : Cx} {E : XK} {C : Addr} {x : Str} {np cpos pos : Pos} {e : Expr} {es : List Expr} {t : TA}
end
end L2
set_option Elab.async false
set_option linter.all false
set_option maxRecDepth 100000
set_option maxHeartbeats 4000000
namespace L2
open PySem PySem.Spec PyProof.Rows
theorem WN {P : Program} {w : World} {H : Hp} {h : Heap} {a C : Addr} {d : Option Addr} {o : Obj} {vs : Array Value} (e : h.get? a = some o) (hc : o.cls = .ref C) (hd : o.dict = d) (hf : o.data = .fields vs) : zP P w H h a (yR a C d) :=
 ⟨⟨o, e, hc, hd, vs, hf⟩, ⟨o, e⟩, fun _ _ ⟨o, e, r⟩ k => ⟨o, k o e, r⟩⟩
section
variable {X : Cx} {pins : List (Addr × Obj)} {σ : St} {H H' : Hp} {s s' : Shared}
theorem Inv.track (I : Inv X pins σ H s) {x : Addr} {o : HO} (hx : H x = none) (h0 : X.s₀.heap.get? x = none) (hl : x ≠ X.env.locals) (hc : ∀ y c, X.env.cells.lookup y = some c -> c ≠ x) (hp : ∀ p ∈ X.pn ++ pins, p.1 ≠ x) (ok : zP X.prog X.w (upd H x o) s.heap x o) : Inv X pins σ (upd H x o) s := by
 refine ⟨I.ok, I.os, I.bare, ⟨I.base.keep, I.base.slot, fun b u e n hb => ?_, I.base.there, fun b xs e => ?_, fun b u v e => ?_, fun b ps e => ?_⟩, I.loc, I.cell, ?_, fun y c e => ?_, fun p hp' => ?_, fun b u e => ?_, I.len⟩
 ·rw [zg (fun z => by rw [z, h0] at e; cases e)]; exact I.base.free b u e n hb
 ·have := I.base.tups b xs e; rw [zg (zk this hx)]; exact this
 ·have := I.base.frzs b u v e; rw [zg (zk this hx)]; exact this
 ·obtain ⟨m, this⟩ := I.base.tbls b ps e; exact ⟨m, by rw [zg (zk this hx)]; exact this⟩
 ·rw [zg (Ne.symm hl)]; exact I.free
 ·rw [zg (hc y c e)]; exact I.freeC y c e
 ·obtain ⟨e1, e2, e3⟩ := I.pin p hp'
  exact ⟨e1, by rw [zg (hp p hp')]; exact e2, e3⟩
 ·by_cases c : b = x
  ·subst c; rw [ze] at e; cases e; exact ok
  ·rw [zg c] at e
   exact (I.hok b u e).stay (fun _ _ _ q => q) (fun d q => by rw [zg (zk q hx)]; exact q) fun d xs q => by rw [zg (zk q hx)]; exact q
theorem Inv.goes (I : Inv X pins σ H s) {i : Nat} {n : Str} {m : Str -> Option Value} {v : Option Value} {h' : Heap} {t' : Nat} (nd : X.N.Nodup) (hi : X.N[i]? = some n) (hm : s.heap.Ns X.env.locals m) (hn : h'.Ns X.env.locals fun y => if y = n then v else m y) (sb : Heap.SameBut X.env.locals s.heap h') : Inv X pins (σ.set i none) H { s with heap := h', toks := t' } := by
  have kp : ∀ b o, b ≠ X.env.locals -> s.heap.get? b = some o -> h'.get? b = some o := fun b o hb e => (sb.2 b hb).trans e
  refine ⟨I.ok, I.os, I.bare, ⟨fun b o e n hb hx => kp b o (I.ltS e) (I.base.keep b o e n hb hx), fun b o e n hb hx => ?_, I.base.free, fun b o e hx => ?_, I.base.tups, I.base.frzs, I.base.tbls⟩, ⟨_, hn, fun j y u e1 e2 e3 => ?_⟩, fun y c e => ?_, I.free, I.freeC, fun p hp => ?_, fun b u e => ?_, by rw [List.length_set]; exact I.len⟩
  · obtain ⟨sl, e1⟩ := I.base.slot b o e n hb hx
    exact ⟨sl, kp b _ (I.ltS e) e1⟩
  · obtain ⟨o', e1⟩ := I.base.there b o e hx
    exact ⟨o', kp b o' (I.ltS e) e1⟩
  · have ij : j ≠ i := fun z => by
      rw [z, List.getElem?_set] at e2
      simp only [if_true] at e2
      split at e2 <;> cases e2
    rw [List.getElem?_set_ne (Ne.symm ij)] at e2
    obtain ⟨m', hm', hl⟩ := I.loc
    have em : ∀ y, m' y = m y := fun y => by
      obtain ⟨o1, es1, ep1, g1, g2, _, g4⟩ := hm'
      obtain ⟨o2, es2, ep2, g1', g2', _, g4'⟩ := hm
      rw [g1] at g1'; cases g1'
      rw [g2] at g2'; cases g2'
      rw [<- g4 y, g4' y]
    obtain ⟨w, rw1, lk⟩ := hl j y u e1 e2 e3
    refine ⟨w, rw1, ?_⟩
    have yn : y ≠ n := fun z => ij (yd nd e1 (z ▸ hi))
    rcases lk with ⟨k, z⟩ | ⟨k, c, e, z⟩
    · refine .inl ⟨k, ?_⟩
      show (if y = n then v else m y) = _
      rw [if_neg yn, <- em]; exact z
    · refine .inr ⟨k, c, e, ?_⟩
      obtain ⟨o, ho, hd⟩ := z
      exact ⟨o, kp c o (I.cne y c e) ho, hd⟩
  · obtain ⟨v', o, ho, hd⟩ := I.cell y c e
    exact ⟨v', o, kp c o (I.cne y c e) ho, hd⟩
  · obtain ⟨e, n, ne, nf, d⟩ := I.pin p hp
    exact ⟨kp _ _ ne e, n, ne, nf, d⟩
  · refine (I.hok b u e).stay (fun c v hc q => kp c v (fun z => ?_) q) (fun _ q => q) fun _ _ q => q
    have := I.free
    rw [<- z] at this
    rcases hc with rfl | hc
    · rw [e] at this; cases this
    · rw [hc] at this; cases this
end
noncomputable abbrev Cx.tried (X : Cx) (pins : List (Addr × Obj)) (xe : Value -> Shared -> Prop) : Cx := { X with pn := X.pn ++ pins, xe := xe }
noncomputable abbrev Cx.inside (X : Cx) (x : Addr) : Cx := { X with A := X.A.mark (some (.ref x)), calm := false, xe := fun _ _ => False }
theorem Cx.Ok.tried {X : Cx} (ok : X.Ok) (pins : List (Addr × Obj)) (xe : Value -> Shared -> Prop) : (X.tried pins xe).Ok :=
 ⟨ok.mod, ok.kind, ok.glob, ok.blt, ok.above, ok.inj, ok.has, ok.cab, ok.hd, ok.frames, ok.stk, ok.exf, ok.bs, ok.bsz, ok.noex, ok.exfs, ok.funs, ok.frf⟩
theorem Cx.Ok.untried {X : Cx} {pins : List (Addr × Obj)} {xe : Value -> Shared -> Prop} (ok : (X.tried pins xe).Ok) : X.Ok :=
 ⟨ok.mod, ok.kind, ok.glob, ok.blt, ok.above, ok.inj, ok.has, ok.cab, ok.hd, ok.frames, ok.stk, ok.exf, ok.bs, ok.bsz, ok.noex, ok.exfs, ok.funs, ok.frf⟩
theorem Cx.Ok.inside {X : Cx} (ok : X.Ok) (x : Addr) : (X.inside x).Ok :=
 ⟨ok.mod, ok.kind, ok.glob, ok.blt, ok.above, ok.inj, ok.has, ok.cab, (fun z => nomatch z), ok.frames, ok.stk, ok.exf, ok.bs, ok.bsz, ok.noex, ok.exfs, ok.funs, ok.frf⟩
section
variable {X : Cx} {pins pins' : List (Addr × Obj)} {σ : St} {H : Hp} {s s' : Shared} {xe : Value -> Shared -> Prop}
theorem Inv.tried (I : Inv X pins σ H s) (xe : Value -> Shared -> Prop) : Inv (X.tried pins xe) [] σ H s := ⟨I.ok.tried pins xe, I.os, I.bare, I.base, I.loc, I.cell, I.free, I.freeC, fun p hp => I.pin p (by rw [List.append_nil] at hp; exact hp), I.hok, I.len⟩
theorem Inv.untried (I : Inv (X.tried pins xe) pins' σ H s) : Inv X pins σ H s := ⟨I.ok.untried, I.os, I.bare, I.base, I.loc, I.cell, I.free, I.freeC, fun p hp => I.pin p (List.mem_append_left _ hp), I.hok, I.len⟩
theorem Inv.inside (I : Inv X pins σ H s) (x : Addr) : Inv (X.inside x) pins σ H s := ⟨I.ok.inside x, I.os, I.bare, I.base, I.loc, I.cell, I.free, I.freeC, I.pin, I.hok, I.len⟩
theorem Inv.outside {x : Addr} (ok : X.Ok) (I : Inv (X.inside x) pins σ H s) : Inv X pins σ H s := ⟨ok, I.os, I.bare, I.base, I.loc, I.cell, I.free, I.freeC, I.pin, I.hok, I.len⟩
theorem SP.untried {D : jB} {f : Flow} (h : SP (X.tried pins xe) [] D f s') : SP X pins D f s' := by
 cases f with
 | next => obtain ⟨σ', H', I, q⟩ := h; exact ⟨σ', H', I.untried, q⟩
 | brk => obtain ⟨σ', H', I, q⟩ := h; exact ⟨σ', H', I.untried, q⟩
 | cont => obtain ⟨σ', H', I, q⟩ := h; exact ⟨σ', H', I.untried, q⟩
 | ret u => obtain ⟨v, σ', H', I, r, q⟩ := h; exact ⟨v, σ', H', I.untried, r, q⟩
theorem Air.here (I : Inv X pins σ H s) (hs : X.stack = X.env :: X.outer) (hf : X.env.frame = some X.env.locals) (hex : X.ex = []) {B : Heap} {a0 : Value} {x C : Addr} {d : Option Addr} {H' : Hp} (a : kO X.prog X.w X.stack H s B H' s') (fl : Heap.FlyingW B X.stack x (.ref C) a0 s'.heap) (hd : ∃ o, s'.heap.get? x = some o /\ o.dict = d) :
  H' x = none /\ Inv X pins σ (upd H' x (yR x C d)) s' := by
 obtain ⟨f1, f2, f3, oe, vs, T, oT, ts, he, ⟨hc, _⟩, hdt, _⟩ := fl
 obtain ⟨o', ho', hd'⟩ := hd
 rw [he] at ho'; cases ho'
 have hx : H' x = none := by
  cases z : H' x with
  | none => rfl
  | some o => obtain ⟨u, e⟩ := (a.hok x o z).here; rw [f2] at e; cases e
 have I1 : Inv X pins σ H' s' := I.call' (ch := []) a.os a.un a.ok a.bare (fun b z => absurd z (by simp))
 have nB : ∀ b o, s.heap.get? b = some o -> b ∉ frs X.stack -> b ≠ x := fun b o e hb z => by
  obtain ⟨o', e1, _⟩ := a.cov b o e hb
  rw [z, f2] at e1; cases e1
 refine ⟨hx, I1.track hx ?_ (fun z => ?_) (fun y c e z => ?_) (fun p hp z => ?_) (WN he hc hd' hdt)⟩
 ·cases z : X.s₀.heap.get? x with
  | none => rfl
  | some o =>
   obtain ⟨o1, e1⟩ := I.base.there x o z (by rw [hex]; simp)
   by_cases hb : x ∈ frs X.stack
   ·obtain ⟨_, o2, e2, nf⟩ := f3.mem hb
    rw [he] at e2; cases e2
    exact absurd hdt (nf vs)
   ·exact absurd rfl (nB x o1 e1 hb)
 ·obtain ⟨m, ⟨o, es, ep, ho, hdd, _⟩, _⟩ := I1.loc
  rw [<- z, he] at ho; cases ho
  rw [hdt] at hdd; cases hdd
 ·obtain ⟨v, o, ho, hdd⟩ := I1.cell y c e
  rw [z, he] at ho; cases ho
  rw [hdt] at hdd; cases hdd
 ·obtain ⟨e1, e2, e3, e4, _⟩ := I.pin p hp
  refine nB p.1 p.2 e1 (fun w => ?_) z
  rcases List.mem_cons.mp (I.stkSub p.1 w) with q | q
  ·exact e3 q
  ·exact e4 q
end
end L2
set_option Elab.async false
set_option linter.all false
set_option maxRecDepth 100000
set_option maxHeartbeats 4000000
namespace L2
open PySem PySem.Spec PyProof.Rows
noncomputable def AD (i : Nat) (D : jB) : jB := { nx := fun σ H => D.nx (σ.set i none) H, rt := D.rt, bk := fun σ H => D.bk (σ.set i none) H, ct := fun σ H => D.ct (σ.set i none) H }
noncomputable def eh1 (K : PySem.W.Frag) (i : Nat) (T : Addr) (th : TS) (D : jB) : St -> XK := fun σ1 c d H1 => ∃ C, c = .ref C /\ PySem.W.exmOne K (.ref C) (.ref T) = some true /\ ∀ x, H1 x = none -> th (AD i D) (σ1.set i (some (.ref x))) (upd H1 x (yR x C d))
noncomputable def DD (K : PySem.W.Frag) (i : Nat) (T : Addr) (tb : (St -> XK) -> TS) (th : TS) : TS := fun D σ H => tb (eh1 K i T th D) D σ H
noncomputable def yf (X : Cx) (H : Hp) (s : Shared) (B : Heap) (x C : Addr) (d : Option Addr) (a0 : Value) (H' : Hp) (s' : Shared) : Prop :=
 kO X.prog X.w X.stack H s B H' s' /\ Heap.FlyingW B X.stack x (.ref C) a0 s'.heap /\ ∃ o, s'.heap.get? x = some o /\ o.dict = d
section
variable {X : Cx} {pins : List (Addr × Obj)} {σ : St} {H H' : Hp} {s s' : Shared} {B : Heap} {x C : Addr} {d : Option Addr} {a0 : Value}
theorem yf.lands {A : Around} {M : Model} {E : Value -> Shared -> Prop} {Q : Unit -> Shared -> Prop} (h : yf X H s B x C d a0 H' s') (k : ∀ s2, yf X H s B x C d a0 H' s2 -> Q () s2) : wpAny M A (setFlight (.ref x) none) Q E s' := by
 obtain ⟨a, fl, o, ho, hd⟩ := h
 refine wpAny_mono ((xA (.ref x) none).any (lands_againW (E := E) (Q := fun _ s2 => ∃ h', s2 = { s' with heap := h' } /\ Heap.FlyingW B X.stack x (.ref C) a0 h' /\ s'.heap.UpToSlots h') fl fun h' f1 us => ⟨h', rfl, f1, us⟩)) (fun _ s2 h2 => ?_) fun _ _ z => z
 obtain ⟨⟨h', rfl, f1, us⟩, sd⟩ := h2
 obtain ⟨o', ho', hd'⟩ := sd x o ho
 exact k _ ⟨a.step fl.2.2.1 f1.1 us, f1, o', ho', hd'.trans hd⟩
theorem yf.noted {E : Value -> Shared -> Prop} {Q : Unit -> Shared -> Prop} (ok : X.Ok) (hs : X.stack = X.env :: X.outer) (hf : X.env.frame = some X.env.locals) (h : yf X H s B x C d a0 H' s') (k : ∀ s2, yf X H s B x C d a0 H' s2 -> Q () s2) :
  wpAny (model X.prog X.w) X.A (noteFrame (.ref x) X.env) (fun _ s2 => wpAny (model X.prog X.w) X.A (setFlight (.ref x) none) Q E s2) E s' := by
 obtain ⟨a, fl, o, ho, hd⟩ := h
 have fl' := fl
 rw [hs] at fl'
 refine wpAny_mono ((Jv (.ref x) X.env).any (wpAny_looks_onW (E := E) (Q := fun _ s2 => ∃ h', s2 = { s' with heap := h' } /\ Heap.HeldW B (X.env :: X.outer) x (.ref C) a0 X.env.locals h' /\ s'.heap.UpToSlots h') (by rw [<- hs]; exact ok.frames) hf fl' fun h' f1 us => ⟨h', rfl, f1, us⟩)) (fun _ s2 h2 => ?_) fun _ _ z => z
 obtain ⟨⟨h', rfl, f1, us⟩, sd⟩ := h2
 obtain ⟨o', ho', hd'⟩ := sd x o ho
 have a2 := a.step fl.2.2.1 f1.1 us
 refine wpAny_mono ((xA (.ref x) none).any (wpAny_landsW (E := E) (Q := fun _ s3 => ∃ h'', s3 = { s' with heap := h'' } /\ Heap.FlyingW B (X.env :: X.outer) x (.ref C) a0 h'' /\ h'.UpToSlots h'') f1 fun h'' f2 us2 => ⟨h'', rfl, f2, us2⟩)) (fun _ s3 h3 => ?_) fun _ _ z => z
 obtain ⟨⟨h'', rfl, f2, us2⟩, sd2⟩ := h3
 obtain ⟨o'', ho'', hd''⟩ := sd2 x o' ho'
 refine k _ ⟨a2.step (s' := { s' with heap := h' }) (by rw [hs]; exact f1.2.2.1) f2.1 us2, by rw [hs]; exact f2, o'', ho'', (hd''.trans hd').trans hd⟩
theorem WF {D : jB} {E : Value -> Shared -> Prop} {i : Nat} {n : Str} {hpos : Pos} {f : Flow} (ok : X.Ok) (nd : X.N.Nodup) (hi : X.N[i]? = some n) (hl : X.env.kindOf n = some .local) (h : SP (X.inside x) pins (AD i D) f s) :
  wpAny (model X.prog X.w) X.A (do bindName X.env n .none; unbindBehindTheSuite X.env n hpos) (fun _ s2 => SP X pins D f s2) E s := by
 have hp : (X.env.scope.kind == .class || (X.env.scope.kind == .module && X.env.locals != X.env.globals)) = false := by rw [ok.kind]; rfl
 cases f with
 | next =>
  obtain ⟨σ', H', I, q⟩ := h
  have I' := I.outside ok
  obtain ⟨m, hm, _⟩ := id I'.loc
  exact wpAny_nameGoes_keeps hl hm hp fun h' v hn sb => ⟨_, H', I'.goes nd hi hm hn sb, q⟩
 | brk =>
  obtain ⟨σ', H', I, q⟩ := h
  have I' := I.outside ok
  obtain ⟨m, hm, _⟩ := id I'.loc
  exact wpAny_nameGoes_keeps hl hm hp fun h' v hn sb => ⟨_, H', I'.goes nd hi hm hn sb, q⟩
 | cont =>
  obtain ⟨σ', H', I, q⟩ := h
  have I' := I.outside ok
  obtain ⟨m, hm, _⟩ := id I'.loc
  exact wpAny_nameGoes_keeps hl hm hp fun h' v hn sb => ⟨_, H', I'.goes nd hi hm hn sb, q⟩
 | ret u =>
  obtain ⟨v, σ', H', I, r, q⟩ := h
  have I' := I.outside ok
  obtain ⟨m, hm, _⟩ := id I'.loc
  exact wpAny_nameGoes_keeps hl hm hp fun h' w hn sb => ⟨v, _, H', I'.goes nd hi hm hn sb, r, q⟩
variable {body suite : List Stmt} {b₀ : Stmt} {n tx : Str} {i : Nat} {T : Addr} {np hpos pos : Pos} {tb : (St -> XK) -> TS} {th : TS}
theorem VX (hs : X.stack = X.env :: X.outer) (hf : X.env.frame = some X.env.locals) (hex : X.ex = []) (nd : X.N.Nodup) (hi : X.N[i]? = some n) (hl : X.env.kindOf n = some .local) (hg : Gl X tx) (hm : X.mg tx = some (.ref T))
  (hb : ∀ (pins : List (Addr × Obj)) (xe : Value -> Shared -> Prop) (Eh : St -> XK), wt (CX1 X.prog X.w) (X.tried pins xe) Eh -> PSs (X.tried pins xe) body (tb Eh)) (hh : ∀ x, PSs (X.inside x) (b₀ :: suite) th)
  (hdb : (tx == ("__debug__" : Str)) = false := by decide) : PS X (.Try body [.ExceptHandler (some (.Name tx np)) (some n) (b₀ :: suite) hpos] [] [] pos) (DD X.K i T tb th) := by
 intro pins s σ H D I h
 refine wpAny_Try_except (wpAny_mono (hb pins (fun e s' => ∃ σ1 H1 s1, Inv X pins σ1 H1 s1 /\ CX1 X.prog X.w X.stack H1 s1 (eh1 X.K i T th D σ1) e s') (eh1 X.K i T th D) (fun pins' σ1 H1 s1 e s' I1 c => ⟨σ1, H1, s1, I1.untried, c⟩) [] s σ H D (I.tried _) h) (fun f s1 q => ?_) fun e s1 q => ?_)
 ·have q := q.untried
  cases f with
  | next => exact wpAny_execs_nil q
  | brk => exact q
  | cont => exact q
  | ret u => exact q
 ·obtain ⟨σ1, H1, s1', I1, x, C, d, H', rfl, ⟨⟨B, a0, a, fl⟩, hd⟩, C', eC, hx, q⟩ := q
  cases eC
  refine yf.noted I.ok hs hf ⟨a, fl, hd⟩ fun s3 h3 => ?_
  obtain ⟨hx0, I3⟩ := Air.here I1 hs hf hex h3.1 h3.2.1 h3.2.2
  refine wpAny_handleBy_cons (codeAny_handlers_test (jG (I3.inside x) hg hm ?_ hdb)) (by intro z; cases z)
  obtain ⟨oe, vs, he, hc, _⟩ := h3.2.1.first
  have LT : PySem.W.Looks (model X.prog X.w) s3.heap (typeOf (.ref x)) (.ref C) := hc ▸ (PySem.W.Looks.ld he).andThen .now
  refine (PySem.W.exm_one I3.kIn LT hx).here ?_
  refine codeAny_handlers_suite_as (h3.lands fun s4 h4 => ?_)
  obtain ⟨_, I4⟩ := Air.here I1 hs hf hex h4.1 h4.2.1 h4.2.2
  refine qS I4 nd hi (Or.inl hl) (show zA (.ref x) (.ref x) from rfl) (fun s5 I5 => ?_) (.inr hl)
  exact wpAny_mono (hh x pins s5 _ _ _ (I5.inside x) (q x hx0)) (fun f s6 h6 => WF I.ok nd hi hl h6) fun _ _ z => z.elim
end
end L2
set_option Elab.async false
set_option linter.all false
set_option maxRecDepth 100000
set_option maxHeartbeats 4000000
namespace L2
open PySem PySem.Spec PyProof.Rows
open PySem.W (Looks InstAt findIn findObj subIn mroIn)
section
variable {prog : Program} {w : World} {A : Around} {E : Value -> Shared -> Prop} {h : Heap} {g : Array GenState} {d : Drawn} {t : Nat} {os : OsState} {K : PySem.W.Frag} {x C : Addr} {ox : Obj} {od : Option Obj} {name : Str}
theorem Wx {tk : Tok} {R : Result -> Shared -> Prop} (X : K.In h) (I : InstAt h x ox C od) (hb : subIn K (.ref C) (.type "BaseException") = some true) (k : wpAny (model prog w) A.in1 (Builtin.«object.__getattribute__» ⟨[.ref x, .str name tk], []⟩)
      (fun fin s' => match fin with | .done (.ret v) => R (.ok (.ret v)) s' | _ => False) (fun _ _ => False) ⟨h, g, d, t, os⟩) :
    codeAny (model prog w) A (.call (.builtin "BaseException.__getattribute__") ⟨[.ref x, .str name tk], []⟩) R ⟨h, g, d, t, os⟩ := by
  have L0 := I.type (M := model prog w)
  have L1 := PySem.W.looks_subIn (M := model prog w) X hb
  have hk : builtinKind "BaseException.__getattribute__" = some .slot := by decide +kernel
  have hsplit : splitId "BaseException.__getattribute__" = some ("BaseException", "__getattribute__") := by decide +kernel
  have ha := F.args_bexc_ga (.ref x) (.str name tk)
  refine codeAny_call_builtin F.excAttr_ValueError.ga.plain F.entry_bexc_ga ?_
  simp only [checkBuiltinCall, hk, hsplit]
  have LI : Looks (model prog w) h (isInstance (.ref x) (.type "BaseException")) true := L0.andThen L1
  refine wpAny_bind (LI.at ?_)
  simp only [Bool.not_true, Bool.false_eq_true, if_false]
  have fin : wpAny (model prog w) A.in1 (Builtin.«object.__getattribute__» ⟨[.ref x, .str name tk], []⟩) (fun fin s' => match fin with | .done f => R (.ok f) s' | .again c' => c'.quiet = true /\ codeAny (model prog w) A c' R s') (fun e s' => R (.error e) s') ⟨h, g, d, t, os⟩ :=
    wpAny_mono k (fun fin s' z => by rcases fin with (_ | _ | _ | _) | _ <;> first | exact z | exact z.elim) fun _ _ z => z.elim
  clear k L0 L1 LI
  repeat (any_goals (first | assumption | wp_step))
theorem As {tk : Tok} {fill expr : Bool} {Q : Value -> Shared -> Prop} (X : K.In h) (I : InstAt h x ox C od) (hb : subIn K (.ref C) (.type "BaseException") = some true)
  (h1 : findIn K (.ref C) "__getattribute__" = some (some (.builtin "BaseException.__getattribute__"))) (h2 : findIn K (.ref C) "__getattr__" = some none)
  (k : wpAny (model prog w) A.in1 (Builtin.«object.__getattribute__» ⟨[.ref x, .str name tk], []⟩)
   (fun fin s' => match fin with | .done (.ret v) => wpAny (model prog w) A (handedOut v) Q E s' | _ => False) (fun _ _ => False) ⟨h, g, d, t, os⟩) :
  wpAny (model prog w) A (getAttrBy (.ref x) (.str name tk) fill expr) Q E ⟨h, g, d, t, os⟩ := by
 have L0 := I.type (M := model prog w)
 have L1 := PySem.W.looks_findIn (M := model prog w) X h1
 have L2 := PySem.W.looks_findIn (M := model prog w) X h2
 have f3 := F.excAttr_ValueError.ga.bind (.ref x)
 have hx0 : (expr && onTheHeap (Value.builtin "BaseException.__getattribute__")) = false := by cases expr <;> rfl
 have hx2 : (Value.builtin "BaseException.__getattribute__" == Value.builtin "object.__getattribute__") = false := by decide +kernel
 have hx1 : (onTheHeap (Value.ref C) && Value.builtin "BaseException.__getattribute__" == Value.builtin "object.__getattribute__") = false := by rw [hx2]; rfl
 repeat (any_goals (first | assumption | with_reducible refine Looks.at L0 ?_ | with_reducible refine Looks.at L1 ?_ | with_reducible refine Looks.at L2 ?_ | wp_step))
 exact Wx X I hb k
theorem Vr {Q : Option Value -> Shared -> Prop} (X : K.In h) (I : InstAt h x ox C od) (hb : subIn K (.ref C) (.type "BaseException") = some true)
  (h1 : findIn K (.ref C) "__getattribute__" = some (some (.builtin "BaseException.__getattribute__"))) (h2 : findIn K (.ref C) "__getattr__" = some none)
  (hf : findObj K C od "__class__" = some (.bind (.builtin "getset_descriptor.__get__") (.builtin "object.__class__"))) (hm : mroIn K C (.type "object") = some true) (q : Q (some (.ref C)) ⟨h, g, d, t + 1, os⟩) :
  wpAny (model prog w) A (getAttr? (.ref x) "__class__") Q E ⟨h, g, d, t, os⟩ := by
 unfold getAttr? getAttrBy?
 refine wpAny_bind (wpAny_mkText (wpAny_bind (wpAny_attempt ?_)))
 refine As X I hb h1 h2 ?_
 have L0 := I.type (M := model prog w)
 have L1 := PySem.W.looks_find (M := model prog w) X I hf
 unfold Builtin.«object.__getattribute__»
 repeat (any_goals (first | assumption | with_reducible refine Looks.at L0 ?_ | with_reducible refine Looks.at L1 ?_ | wp_step))
 refine PySem.W.class_get (od := od) X I hm ?_
 refine wpAny_pure ?_
 exact PySem.W.handed_on rfl (wpAny_pure q)
theorem vH {a g : Value} (hc : (PySem.W.clsIn K C).isSome = true) (ha : findIn K (.ref C) name = some (some a)) (hg : PySem.W.specialIn K a "__get__" = some (some g)) (ht : PySem.W.takesIn K a = some true) : findObj K C none name = some (.bind g a) := by
 obtain ⟨cd, hc⟩ := Option.isSome_iff_exists.mp hc
 unfold PySem.W.findObj
 rw [hc, Option.bind_some, ha, Option.bind_some]
 simp [hg, ht]
structure Kj (K : PySem.W.Frag) (C : Addr) : Prop where
 bx : subIn K (.ref C) (.type "BaseException") = some true
 ga : findIn K (.ref C) "__getattribute__" = some (some (.builtin "BaseException.__getattribute__"))
 gt : findIn K (.ref C) "__getattr__" = some none
 cl : findIn K (.ref C) "__class__" = some (some (.builtin "object.__class__"))
 gs : PySem.W.specialIn K (.builtin "object.__class__") "__get__" = some (some (.builtin "getset_descriptor.__get__"))
 tk : PySem.W.takesIn K (.builtin "object.__class__") = some true
 mo : mroIn K C (.type "object") = some true
 is : (PySem.W.clsIn K C).isSome = true
noncomputable def VV (x C : Addr) (h : Heap) : Prop := ∃ o, h.get? x = some o /\ o.cls = .ref C /\ (o.dict = none \/ ∃ dx u, o.dict = some dx /\ h.get? dx = some u) /\ ∃ vs, o.data = .fields vs
theorem VV.inst {x C : Addr} {h : Heap} (e : VV x C h) : ∃ o od, InstAt h x o C od := by
 obtain ⟨o, h1, h2, h3, vs, h4⟩ := e
 rcases h3 with h3 | ⟨dx, u, h3, h5⟩
 ·exact ⟨o, none, h1, h2, by unfold PySem.W.notCls; rw [h4], by rw [h3]; trivial⟩
 ·exact ⟨o, some u, h1, h2, by unfold PySem.W.notCls; rw [h4], by rw [h3]; exact h5⟩
theorem wK (c : Kj K C) : PySem.W.KitX K (.ref x) (.ref C) (VV x C) where
 ty := fun _ _ _ e => let ⟨_, _, I⟩ := e.inst; I.type
 it := fun _ _ X _ => by
  have z := c.is
  unfold PySem.W.clsIn at z
  split at z
  ·rename_i ho
   intro A' Q' E' s' k q
   unfold isType loadHead
   exact wpAny_bind (wpAny_loadPart (k _ _ (X _ _ ho)) (wpAny_pure q))
  ·cases z
 ne := fun h tp dd its n sl X htp => by
  refine Bool.eq_false_iff.mpr fun q => ?_
  have e : C = tp := Value.ref.inj (beq_iff_eq.mp q)
  subst e
  have z := c.is
  unfold PySem.W.clsIn at z
  split at z
  ·rename_i ho
   have y := (X _ _ ho).symm.trans htp
   cases y
  ·cases z
 ca := fun {prog w A E Q s} X e q => by
  obtain ⟨o, od, I⟩ := e.inst
  obtain ⟨h, g, d, t, os⟩ := s
  refine Vr X I c.bx c.ga c.gt ?_ c.mo q
  cases od with
  | none => exact vH c.is c.cl c.gs c.tk
  | some od => exact PySem.W.findObj_data c.is c.cl c.gs c.tk
end
inductive yT (X : Cx) : List Expr -> List Value -> Prop
 | nil : yT X [] []
 | own {x : Str} {p : Pos} {C : Addr} {es : List Expr} {cs : List Value} : Gl X x -> X.mg x = some (.ref C) -> (x == ("__debug__" : Str)) = false -> yT X es cs -> yT X (.Name x p :: es) (.ref C :: cs)
 | blt {x : Str} {p : Pos} {T : String} {es : List Expr} {cs : List Value} : Gl X x -> X.mg x = none -> bootBuiltins x = some (.type T) -> x ≠ "__name__" -> (x == ("__debug__" : Str)) = false -> yT X es cs -> yT X (.Name x p :: es) (.type T :: cs)
noncomputable def Xx (K : PySem.W.Frag) (cs : List Value) (t : TE) : TE := fun σ H Q => t σ H fun v H1 => ∃ a C d b, v = .ref a /\ H1 a = some (yR a C d) /\ (d = none \/ ∃ dx fs, d = some dx /\ H1 dx = some (.xd fs)) /\ Kj K C /\ PySem.W.kitAny K (.ref C) cs = some b /\ Q (.bl b) H1
section
variable {X : Cx} {e c : Expr} {es : List Expr} {cs : List Value} {t : TE} {p pos tp : Pos} {kk : Nat}
theorem YV {P : Program} {w : World} {H : Hp} {h : Heap} {a C : Addr} {d : Option Addr} (ok : HOk P w H h) (x : H a = some (yR a C d)) (hd : d = none \/ ∃ dx fs, d = some dx /\ H dx = some (.xd fs)) : VV a C h := by
 obtain ⟨⟨o, h1, h2, h3, h4⟩, _⟩ := ok a _ x
 refine ⟨o, h1, h2, ?_, h4⟩
 rcases hd with rfl | ⟨dx, fs, rfl, h5⟩
 ·exact .inl h3
 ·obtain ⟨u, hu⟩ := (ok dx _ h5).here
  exact .inr ⟨dx, u, h3, hu⟩
theorem Bk (he : PE X e t) (hg : Gl X "isinstance") (hm : X.mg "isinstance" = none) (hc : yT X [c] cs)
  (hst : starEach [e, c] X.env = (false, eval e X.env) :: starEach [c] X.env := by rfl) (hst2 : starEach [c] X.env = (false, eval c X.env) :: starEach [] X.env := by rfl) (hpl : (backTo pos (starEach [c] X.env)).any (·.1) = false := by rfl) : PE X (.Call (.Name "isinstance" p) [e, c] [] pos) (Xx X.K cs t) := by
 intro pins s σ H Q I h
 refine wpAny_Call_Name_kw (jq I hg hm zq ?_ (by decide) (by decide))
 refine PyProof.Rows.callWith_builtin1 ?_ hst hpl
 rw [hst]
 refine Calls.spliced_cons (thn (he pins s σ H _ I h) fun u s1 ⟨v, H1, I1, r, a, C, d, b, ev, ha, hd, xc, hb, q⟩ => ?_)
 subst ev
 obtain rfl : u = Value.ref a := r
 rw [hst2]
 refine Calls.spliced_cons ?_
 rw [if_neg Bool.false_ne_true]
 have one : ∀ {c : Value}, PySem.W.kitAny X.K (.ref C) [c] = some b -> PySem.W.kitOne X.K (.ref C) c = some b := fun {c} z => by
  unfold PySem.W.kitAny at z
  split at z
  ·rename_i y; cases z; exact y
  ·rename_i y; have z : some false = some b := z; cases z; exact y
  ·cases z
 have en := YV I1.hok ha hd
 have fin : ∀ cv, cs = [cv] -> wpAny (model X.prog X.w) X.A (call (.builtin "isinstance") [.ref a, cv]) (EP X pins σ Q) X.xe s1 := fun cv z => by
  subst z
  exact PySem.W.kia_one (wK xc) I1.kIn en (one hb) (by intro z; cases z) fun tk => ⟨.bl b, H1, I1.tok tk, rfl, q⟩
 cases hc with
 | own g1 m1 d1 r1 => cases r1; exact jG I1 g1 m1 (Calls.spliced_nil (fin _ rfl)) d1
 | blt g1 m1 v1 n1 d1 r1 => cases r1; exact jq I1 g1 m1 v1 (Calls.spliced_nil (fin _ rfl)) n1 d1
theorem Jz {es : List Expr} {cs : List Value} (hc : yT X es cs) : ∀ {pins : List (Addr × Obj)} {σ : St} {H : Hp} {s : Shared} {Q : List Value -> Shared -> Prop}, Inv X pins σ H s -> Q cs s -> wpAny (model X.prog X.w) X.A (spliced (backTo tp (starEach es X.env))) Q X.xe s := by
 induction hc with
 | nil => exact fun I q => wpAny_items_nil q
 | own g1 m1 d1 r1 ih => exact fun I q => wpAny_items_cons (jG I g1 m1 (ih I q) d1)
 | blt g1 m1 v1 n1 d1 r1 ih => exact fun I q => wpAny_items_cons (jq I g1 m1 v1 (ih I q) n1 d1)
theorem V6 (he : PE X e t) (hg : Gl X "isinstance") (hm : X.mg "isinstance" = none) (hc : yT X es cs) (hsz : cs.length <= sizeLine)
  (hst : starEach [e, .Tuple es kk tp] X.env = (false, eval e X.env) :: starEach [.Tuple es kk tp] X.env := by rfl) (hst2 : starEach [.Tuple es kk tp] X.env = (false, eval (.Tuple es kk tp) X.env) :: starEach [] X.env := by rfl) (hpl : (backTo pos (starEach [.Tuple es kk tp] X.env)).any (·.1) = false := by rfl) : PE X (.Call (.Name "isinstance" p) [e, .Tuple es kk tp] [] pos) (Xx X.K cs t) := by
 intro pins s σ H Q I h
 refine wpAny_Call_Name_kw (jq I hg hm zq ?_ (by decide) (by decide))
 refine PyProof.Rows.callWith_builtin1 ?_ hst hpl
 rw [hst]
 refine Calls.spliced_cons (thn (he pins s σ H _ I h) fun u s1 ⟨v, H1, I1, r, a, C, d, b, ev, ha, hd, xc, hb, q⟩ => ?_)
 subst ev
 obtain rfl : u = Value.ref a := r
 rw [hst2]
 refine Calls.spliced_cons ?_
 rw [if_neg Bool.false_ne_true]
 refine wpAny_Tuple ?_
 refine Jz hc I1 ⟨hsz, Calls.spliced_nil ?_⟩
 have kp : ∀ b o, s1.heap.get? b = some o -> (s1.heap.push { cls := .type "tuple", data := .seq cs.toArray }).get? b = some o := fun _ _ z => Heap.get?_push_of_some _ z
 have I2 := I1.kept (t' := s1.toks) kp
 exact PySem.W.kia_tup (wK xc) I2.kIn (YV I2.hok ha hd) (Heap.get?_push_size s1.heap rfl) hb (by intro z; cases z) fun tk => ⟨.bl b, H1, I2.tok tk, rfl, q⟩
end
end L2
set_option Elab.async false
set_option linter.all false
set_option maxRecDepth 100000
set_option maxHeartbeats 4000000
namespace L2
open PySem PySem.Spec PyProof.Rows
noncomputable abbrev AXK := Addr -> List (Str × V) -> MH -> Prop
noncomputable abbrev ye := List AV -> MH -> AK -> AXK -> Prop
noncomputable def ZR (H : Hp) (O : Own) (M : MH) (d : Option Addr) (fs : List (Str × V)) : Prop := d = none /\ fs = [] \/ ∃ dx, d = some dx /\ H dx = some (.xd fs) /\ O dx /\ M dx = none
theorem ZR.ext {H H' : Hp} {O O' : Own} {M M' : MH} {d : Option Addr} {fs : List (Str × V)} (k : Ext H O M H' O' M') (x : ZR H O M d fs) : ZR H' O' M' d fs := by
 rcases x with x | ⟨dx, e, h1, h2, h3⟩
 ·exact .inl x
 ·obtain ⟨x1, x2, x3⟩ := k.prv dx h2 h3
  exact .inr ⟨dx, e, x1.trans h1, x2, x3⟩
noncomputable def jI (a : ye) : Sp := fun vs H Q E => ∃ xs M O Q' E', Wf H O M /\ zl H O M vs xs /\ a xs M Q' E' /\ (∀ x M' v H' O', Q' x M' -> Ext H O M H' O' M' -> Wf H' O' M' -> zt H' O' M' v x -> Q v H') /\
 ∀ C fs M' H' O' d, E' C fs M' -> Ext H O M H' O' M' -> Wf H' O' M' -> ZR H' O' M' d fs -> E (.ref C) d H'
noncomputable def cE (H0 : Hp) (O0 : Own) (M0 : MH) (E' : AXK) : XK := fun c d H' => ∃ C fs M' O', c = .ref C /\ E' C fs M' /\ Ext H0 O0 M0 H' O' M' /\ Wf H' O' M' /\ ZR H' O' M' d fs
structure EXs (H0 : Hp) (O0 : Own) (M0 : MH) (E : St -> XK) (EA : ASt -> AXK) : Prop where
 go : ∀ σ ρ C fs M' H' O' d, EA ρ C fs M' -> Ext H0 O0 M0 H' O' M' -> Wf H' O' M' -> Er H' O' M' σ ρ -> ZR H' O' M' d fs -> E σ (.ref C) d H'
theorem WT {H0 : Hp} {O0 : Own} {M0 : MH} {E' : AXK} : EXs H0 O0 M0 (fun _ => cE H0 O0 M0 E') (fun _ => E') := ⟨fun _ _ C fs M' H' O' d q k w _ x => ⟨C, fs, M', O', rfl, q, k, w, x⟩⟩
structure kE (HX : Hp) (OX : Own) (MX : MH) (t : TS) (a : AS) : Prop where
 go : ∀ {H0 : Hp} {O0 : Own} {M0 : MH} {D : jB} {D' : kL} {σ : St} {H : Hp} {O : Own} {ρ : ASt} {M : MH}, Ext HX OX MX H0 O0 M0 -> Wf H0 O0 M0 -> Wf H O M -> Er H O M σ ρ -> Ext H0 O0 M0 H O M -> a M0 D' ρ M -> ED H0 O0 M0 D D' -> t D σ H
section
variable {HX : Hp} {OX : Own} {MX : MH} {t u : TS} {a b : AS} {E : St -> XK} {EA : ASt -> AXK} {sp : ye} {ta : TA} {aa : AA}
theorem VY (h : je t a) : kE HX OX MX t a := ⟨fun _ w0 w e x q E => h.go w0 w e x q E⟩
theorem YU (h1 : kE HX OX MX t a) (h2 : kE HX OX MX u b) : kE HX OX MX (v6 t u) (v0 a b) :=
 ⟨fun kx w0 w e x q E => h1.go kx w0 w e x q ⟨fun σ H O ρ M w e x q => h2.go kx w0 w e x q E, E.rt, E.bk, E.ct⟩⟩
theorem K9 {c : TT} {ac : AT} (hc : jV c ac) (h1 : kE HX OX MX t a) (h2 : kE HX OX MX u b) : kE HX OX MX (WE c t u) (Dk ac a b) :=
 ⟨fun kx w0 w e x q E => hc.go w e q fun k M1 H1 O1 q1 k1 w1 => by
  cases k with
  | true => exact h1.go kx w0 w1 (e.ext k1) (x.trans k1) q1 E
  | false => exact h2.go kx w0 w1 (e.ext k1) (x.trans k1) q1 E⟩
end
noncomputable def AU (i : Nat) (D : kL) : kL := { nx := fun ρ M => D.nx (ρ.set i none) M, rt := D.rt, bk := fun ρ M => D.bk (ρ.set i none) M, ct := fun ρ M => D.ct (ρ.set i none) M }
noncomputable def ER (K : PySem.W.Frag) (i : Nat) (T : Addr) (ab : (ASt -> AXK) -> AS) (ah : AS) : AS := fun B D ρ M =>
 ab (fun ρ1 C fs M1 => PySem.W.exmOne K (.ref C) (.ref T) = some true /\ ∀ x, M1 x = none -> ah B (AU i D) (ρ1.set i (some (.ref x))) (mup M1 x (.exc C fs))) B D ρ M
theorem Er.drop {H : Hp} {O : Own} {M : MH} {σ : St} {ρ : ASt} (e : Er H O M σ ρ) (i : Nat) : Er H O M (σ.set i none) (ρ.set i none) := e.clr [i]
theorem Vx {H : Hp} {O : Own} {M : MH} (w : Wf H O M) {x C : Addr} {d : Option Addr} {fs : List (Str × V)} (hx : H x = none) (xd : ZR H O M d fs) :
  Wf (upd H x (yR x C d)) (kT O x) (mup M x (.exc C fs)) /\ Ext H O M (upd H x (yR x C d)) (kT O x) (mup M x (.exc C fs)) := by
 have k := vO w hx (yR x C d) (.exc C fs)
 exact ⟨Yi w hx (fun _ z => nomatch z) ⟨d, ze, xd.ext k⟩, k⟩
section
variable {K : PySem.W.Frag} {i : Nat} {T : Addr} {tb : (St -> XK) -> TS} {th : TS} {ab : (ASt -> AXK) -> AS} {ah : AS}
theorem Wv (hb : ∀ (H0 : Hp) (O0 : Own) (M0 : MH) (E : St -> XK) (EA : ASt -> AXK), EXs H0 O0 M0 E EA -> kE H0 O0 M0 (tb E) (ab EA)) (hh : je th ah) : je (DD K i T tb th) (ER K i T ab ah) :=
 ⟨fun {H0 O0 M0 D D' σ H O ρ M} w0 w e x q E => (hb H0 O0 M0 _ _ ⟨fun σ1 ρ1 C fs M1 H1 O1 d q1 k1 w1 e1 xd => ⟨C, rfl, q1.1, fun y hy => by
  obtain ⟨w2, k2⟩ := Vx (C := C) w1 hy xd
  refine hh.go w0 w2 ((e1.ext k2).set (show zt _ _ _ (.ref y) (.ref y) from ⟨rfl, by rw [zp]; exact fun z => nomatch z⟩) i) (k1.trans k2) (q1.2 y (w1.fresh hy).2) ⟨fun σ H O ρ M w e x q => E.nx _ _ _ _ _ w (e.drop i) x q, E.rt, fun σ H O ρ M w e x q => E.bk _ _ _ _ _ w (e.drop i) x q, fun σ H O ρ M w e x q => E.ct _ _ _ _ _ w (e.drop i) x q⟩⟩⟩).go .refl w0 w e x q E⟩
noncomputable def FD (K : PySem.W.Frag) (cs : List Value) (a : AE) : AE := fun ρ M Q => a ρ M fun v M1 => ∃ x C fs b, v = .ref x /\ M1 x = some (.exc C fs) /\ Kj K C /\ PySem.W.kitAny K (.ref C) cs = some b /\ Q (.d (.bl b)) M1
theorem Wl {cs : List Value} {t : TE} {a : AE} (h : zG t a) : zG (Xx K cs t) (FD K cs a) := ⟨fun w e q k => h.go w e q fun v M1 u H1 O1 q1 k1 w1 r1 => by
 obtain ⟨x, C, fs, b, rfl, hx, xc, hb, q2⟩ := q1
 obtain ⟨d, h1, h2⟩ := w1.mo x _ hx
 refine ⟨x, C, d, b, r1.1, h1, ?_, xc, hb, k _ _ _ _ _ q2 k1 w1 .bl⟩
 rcases h2 with h2 | ⟨dx, e1, h2, _⟩
 ·exact .inl h2.1
 ·exact .inr ⟨dx, fs, e1, h2⟩⟩
end
noncomputable def exA (M0 : MH) (E : AXK) : AXK := fun C fs M' => ∃ M'', yP M0 M' (.d .non) (.d .non) M'' /\ E C fs M''
theorem PSs.wish' {X : Cx} {xe : Value -> Shared -> Prop} {st : List Stmt} {t : TS} (k : ∀ e s, xe e s -> X.xe e s) (h : PSs (X.wish xe) st t) : PSs X st t := fun pins s σ H D I hw =>
 wpAny_mono (h pins s σ H D (I.wish _) hw) (fun _ _ q => q.unwish) fun e s z => k e s z
end L2
set_option Elab.async false
set_option linter.all false
set_option maxRecDepth 100000
set_option maxHeartbeats 4000000
namespace L2
open PySem PySem.Spec PyProof.Rows
section
variable {X : Cx} {K : PySem.W.Frag} {body suite : List Stmt} {b₀ : Stmt} {n tx : Str} {i : Nat} {T : Addr} {np hpos pos tp p : Pos} {tb : (St -> XK) -> TS} {th : TS} {e c : Expr} {es : List Expr} {cs : List Value} {t : TE} {kk : Nat}
theorem KQ (hk : X.K = K) (hs : X.stack = X.env :: X.outer) (hf : X.env.frame = some X.env.locals) (hex : X.ex = []) (nd : X.N.Nodup) (hi : X.N[i]? = some n) (hl : X.env.kindOf n = some .local) (hg : Gl X tx) (hm : X.mg tx = some (.ref T))
  (hb : ∀ (pins : List (Addr × Obj)) (xe : Value -> Shared -> Prop) (Eh : St -> XK), wt (CX1 X.prog X.w) (X.tried pins xe) Eh -> PSs (X.tried pins xe) body (tb Eh)) (hh : ∀ x, PSs (X.inside x) (b₀ :: suite) th)
  (hdb : (tx == ("__debug__" : Str)) = false := by decide) : PS X (.Try body [.ExceptHandler (some (.Name tx np)) (some n) (b₀ :: suite) hpos] [] [] pos) (DD K i T tb th) := hk ▸ VX hs hf hex nd hi hl hg hm hb hh hdb
theorem QW (hk : X.K = K) (he : PE X e t) (hg : Gl X "isinstance") (hm : X.mg "isinstance" = none) (hc : yT X [c] cs)
  (hst : starEach [e, c] X.env = (false, eval e X.env) :: starEach [c] X.env := by rfl) (hst2 : starEach [c] X.env = (false, eval c X.env) :: starEach [] X.env := by rfl) (hpl : (backTo pos (starEach [c] X.env)).any (·.1) = false := by rfl) : PE X (.Call (.Name "isinstance" p) [e, c] [] pos) (Xx K cs t) := hk ▸ Bk he hg hm hc hst hst2 hpl
theorem Vf (hk : X.K = K) (he : PE X e t) (hg : Gl X "isinstance") (hm : X.mg "isinstance" = none) (hc : yT X es cs) (hsz : cs.length <= sizeLine)
  (hst : starEach [e, .Tuple es kk tp] X.env = (false, eval e X.env) :: starEach [.Tuple es kk tp] X.env := by rfl) (hst2 : starEach [.Tuple es kk tp] X.env = (false, eval (.Tuple es kk tp) X.env) :: starEach [] X.env := by rfl) (hpl : (backTo pos (starEach [.Tuple es kk tp] X.env)).any (·.1) = false := by rfl) : PE X (.Call (.Name "isinstance" p) [e, .Tuple es kk tp] [] pos) (Xx K cs t) := hk ▸ V6 he hg hm hc hsz hst hst2 hpl
end
theorem exX {HX : Hp} {OX : Own} {MX : MH} {t : TS} {q : AS -> Prop} {b : AS} (h : kE HX OX MX t b) (k : q b) : ∃ b, kE HX OX MX t b /\ q b := ⟨b, h, k⟩
end L2
namespace L2
open PySem PySem.Spec PyProof.Rows
end L2
namespace L2
open PySem PySem.Spec PyProof.Rows
section
variable {X : Cx}
end
end L2
set_option Elab.async false
set_option linter.all false
set_option maxRecDepth 100000
set_option maxHeartbeats 4000000
namespace PySem
open Sem (wp)
section
variable {prog : Program} {w : World} {A : Around} {E : Value -> Shared -> Prop} {h : Heap} {g : Array GenState} {d : Drawn} {t : Nat} {os : OsState}
variable {nm q : Str} {C N : Addr} {bs bm bmB : List Value} {hdct : Bool} {sn : List Str} {sub : List Value} {ab : Bool} {col : Option Bool} {dd : Option Addr} {k0 k1 k2 k3 k5 : Option Value} {B Bn newId nid initId inN : String} {bmN : List Value}
theorem wm (Fn : ExcBaseFacts Bn newId inN bmN) (hBn : bmB.contains (.type Bn) = true) (F : ExcBaseFacts B nid initId bmB) (T : OwnTail h bmB bm) {mN : Str -> Option Value} {qm : List Value} {fI : Addr} {oI : Obj} {Q : Fin -> Shared -> Prop}
  (hC : h.get? C = some (excClassObj nm q C N bs bm hdct sn sub ab col dd k0 k1 k2 k3 k5 newId)) (hn : h.Ns N mN) (hi : mN "__init__" = some (.ref fI)) (hfI : h.get? fI = some oI) (hfc : oI.cls = .type "function")
  (hq : ∀ h' e, Heap.MadeExcOf h h' e (.ref C) qm -> wpAny (model prog w) A (call (.ref fI) (.ref e :: qm)) (fun r s' => r = .none /\ Q (.done (.ret (.ref e))) s') E ⟨h', g, d, t, os⟩) (hrest : qm.length <= sizeLine := by size_fits) :
  wpAny (model prog w) A (Builtin.«type.__call__» ⟨.ref C :: qm, []⟩) Q E ⟨h, g, d, t, os⟩ := by
 repeat (first | with_reducible refine wpAny_loadPart_at hC ?_ | with_reducible refine wpAny_madeBy_exc hC ?_ | wp_step)
 refine codeAny_call_builtin_code (Code.quiet_builtin _ Fn.quiet) (wpAny_check_new_subU Fn hBn T hC ?_)
 refine codeAny_exc_new_subU Fn hBn F T hC ?_ hrest
 show wpAny _ _ _ _ _ _
 have hC₁ := Heap.get?_push_of_some { cls := .ref C, data := .fields #[.ref h.objs.size, .none, .none, .none, .bool false, .none] }
  (Heap.get?_push_of_some { cls := .type "tuple", data := .seq qm.toArray } hC)
 have hfI₁ := Heap.get?_push_of_some { cls := .ref C, data := .fields #[.ref h.objs.size, .none, .none, .none, .bool false, .none] }
  (Heap.get?_push_of_some { cls := .type "tuple", data := .seq qm.toArray } hfI)
 have hn₁ : ((h.push { cls := .type "tuple", data := .seq qm.toArray }).push { cls := .ref C, data := .fields #[.ref h.objs.size, .none, .none, .none, .bool false, .none] }).Ns N mN :=
  let ⟨o, es, ep, e, r⟩ := hn; ⟨o, es, ep, Heap.get?_push_of_some _ (Heap.get?_push_of_some _ e), r⟩
 have hget : ((h.push { cls := .type "tuple", data := .seq qm.toArray }).push
   { cls := .ref C, data := .fields #[.ref h.objs.size, .none, .none, .none, .bool false, .none] }).get? (h.objs.size + 1) = some
   { cls := .ref C, data := .fields #[.ref h.objs.size, .none, .none, .none, .bool false, .none] } := by heap_get
 have hcC : (Value.ref C :: bm).contains (.ref C) = true := by simp
 have T₁ := T.keeps (h' := (h.push { cls := .type "tuple", data := .seq qm.toArray }).push { cls := .ref C, data := .fields #[.ref h.objs.size, .none, .none, .none, .bool false, .none] })
  fun b o e => Heap.get?_push_of_some _ (Heap.get?_push_of_some _ e)
 unfold isInstance
 repeat (first | with_reducible refine wpAny_loadPart_at hget ?_ | (with_reducible refine wpAny_isSubtype_exc hC₁ ?_; rw [hcC]) | wp_step)
 show wpAny _ _ (typeLookup (.ref C) _) _ _ _
 refine wpAny_typeLookup_tail hC₁ hn₁ T₁ F.mroIs F.init.lookup ?_
 rw [hi]
 refine wpAny_holding (wpAny_bind ?_)
 unfold bindSpecial
 refine wpAny_bind (wpAny_typeOf (T := "function") ⟨_, hfI₁, hfc⟩ ?_)
 rw [if_pos (by decide)]
 refine wpAny_pure (wpAny_bind (wpAny_mono (hq _ (h.objs.size + 1) ⟨fun b o hb => Heap.get?_push_of_some _ (Heap.get?_push_of_some _ hb), Heap.get?_none_of_le (Nat.le_succ _), h.objs.size, hget, Heap.get?_none_of_le (Nat.le_refl _), ?_⟩) (fun r s' hr => ?_) fun _ _ x => x))
 ·exact Heap.get?_push_of_some _ (Heap.get?_push_at rfl rfl)
 ·obtain ⟨rfl, hQ⟩ := hr
  wp_walk
  exact hQ
theorem Wa (Fn : ExcBaseFacts Bn newId inN bmN) (hBn : bmB.contains (.type Bn) = true) (F : ExcBaseFacts B nid initId bmB) (T : OwnTail h bmB bm) {mN : Str -> Option Value} {qm : List Value} {fI : Addr} {oI : Obj} {Q : Value -> Shared -> Prop}
  (hC : h.get? C = some (excClassObj nm q C N bs bm hdct sn sub ab col dd k0 k1 k2 k3 k5 newId)) (hn : h.Ns N mN) (hi : mN "__init__" = some (.ref fI)) (hfI : h.get? fI = some oI) (hfc : oI.cls = .type "function")
  (hq : ∀ h' e, Heap.MadeExcOf h h' e (.ref C) qm -> wpAny (model prog w) (A.under (.builtin "type.__call__" ⟨.ref C :: qm, []⟩)) (call (.ref fI) (.ref e :: qm)) (fun r s' => r = .none /\ Q (.ref e) s') E ⟨h', g, d, t, os⟩) (hrest : qm.length <= sizeLine := by size_fits) :
  wpAny (model prog w) A (call (.ref C) qm) Q E ⟨h, g, d, t, os⟩ := by
 have f1 := tc_lookup
 have f2 := tc_bind (.ref C)
 have hT : (⟨h, g, d, t, os⟩ : Shared).TypeIs (.ref C) "type" := ⟨_, hC, rfl⟩
 refine wpAny_call (codeAny_of_tree ?_)
 show wpAny _ _ (callAny (.ref C) _) _ _ _
 repeat (any_goals (first | assumption | with_reducible refine wpAny_loadPart_at hC ?_ | wp_step))
 refine ⟨rfl, ?_⟩
 refine codeAny_call_builtin_at (Code.quiet_builtin _ (by decide +kernel)) entry_typeCall (wpAny_check_type_call_sub hC (wm (hrest := hrest) Fn hBn F T hC hn hi hfI hfc fun h' e hm => ?_))
 exact hq h' e hm
end
section
variable {M : Model} {A : Around} {E : Value -> Shared -> Prop} {env : Env}
variable {nm q : Str} {C N : Addr} {bs bm : List Value} {hdct : Bool} {sn : List Str} {sub : List Value} {ab : Bool} {col : Option Bool} {dd : Option Addr} {k0 k1 k2 k3 k5 : Option Value} {newId : String}
theorem vX {s : Shared} {x : Sem Value} {Q : Flow -> Shared -> Prop} (hbase : bm.contains (.type "BaseException") = true) (hh : A.handled = none)
  (h : wpAny M A x (fun v s₁ => ∃ e t dx, v = .ref e /\ s₁.heap.get? C = some (excClassObj nm q C N bs bm hdct sn sub ab col dd k0 k1 k2 k3 k5 newId) /\
   s₁.heap.get? e = some { cls := .ref C, data := .fields #[.ref t, .none, .none, .none, .bool false, .none], dict := dx } /\ E (.ref e) s₁) E s) :
  wpAny M A (raiseStmt env (some x) none) Q E s := by
 have hcB : (Value.ref C :: bm).contains (.type "BaseException") = true := by rw [List.contains_cons, hbase, Bool.or_true]
 unfold raiseStmt
 refine wpAny_bind (wpAny_mono h (fun v s₁ h₁ => ?_) fun _ _ x => x)
 obtain ⟨e, t, dx, rfl, hC, he, hE⟩ := h₁
 obtain ⟨hp, g, d, tk, os⟩ := s₁
 repeat (first | with_reducible refine wpAny_loadPart_at he ?_ | with_reducible refine wpAny_loadPart_at hC ?_ | (with_reducible refine wpAny_isSubtype_exc hC ?_; rw [hcB]) | wp_step)
 exact wpAny_raiseNew_none hh hE
end
section
variable {prog : Program} {w : World} {A : Around} {E : Value -> Shared -> Prop} {s : Shared} {env : Env}
variable {nm q : Str} {C N : Addr} {bs bm bmB : List Value} {hdct : Bool} {sn : List Str} {sub : List Value} {ab : Bool} {col : Option Bool} {dd : Option Addr} {k0 k1 k2 k3 k5 : Option Value} {B Bn newId nid initId inN : String} {bmN : List Value}
theorem XN (Fn : ExcBaseFacts Bn newId inN bmN) (hBn : bmB.contains (.type Bn) = true) (F : ExcBaseFacts B nid initId bmB) {mN : Str -> Option Value} {x : Str} {np cpos pos : Pos} {args : List Expr} {Q : Flow -> Shared -> Prop} {fI : Addr} {oI : Obj}
  (hbase : bm.contains (.type "BaseException") = true) (hh : A.handled = none) (hplain : (backTo cpos (starEach args env)).any (·.1) = false) (hi : mN "__init__" = some (.ref fI)) (hfc : oI.cls = .type "function")
  (h : wpAny (model prog w) A (eval (.Name x np) env) (fun f s₁ => f = .ref C /\ wpAny (model prog w) A (evalArgs (.ref C) true (backTo cpos (starEach args env)) [])
   (fun a s₂ => a.kw = [] /\ a.pos.length <= sizeLine /\ s₂.heap.get? C = some (excClassObj nm q C N bs bm hdct sn sub ab col dd k0 k1 k2 k3 k5 newId) /\ s₂.heap.Ns N mN /\ OwnTail s₂.heap bmB bm /\ s₂.heap.get? fI = some oI /\
    ∀ h' e, Heap.MadeExcOf s₂.heap h' e (.ref C) a.pos -> wpAny (model prog w) (A.under (.builtin "type.__call__" ⟨.ref C :: a.pos, []⟩)) (call (.ref fI) (.ref e :: a.pos)) (fun r s' => r = .none /\
     s'.heap.get? C = some (excClassObj nm q C N bs bm hdct sn sub ab col dd k0 k1 k2 k3 k5 newId) /\ (∃ t dx, s'.heap.get? e = some { cls := .ref C, data := .fields #[.ref t, .none, .none, .none, .bool false, .none], dict := dx }) /\ E (.ref e) s') E { s₂ with heap := h' }) E s₁) E s) :
  wpAny (model prog w) A (exec (.Raise (some (.Call (.Name x np) args [] cpos)) none pos) env) Q E s := by
 rw [arm_exec_Raise]
 refine wpAny_bind (wpAny_standAt (vX (C := C) (nm := nm) (q := q) (N := N) (bs := bs) (bm := bm) (hdct := hdct) (sn := sn) (sub := sub) (ab := ab) (col := col) (dd := dd) (k0 := k0) (k1 := k1) (k2 := k2) (k3 := k3) (k5 := k5) (newId := newId) hbase hh (wpAny_bind (wpAny_mono (wpAny_Call_ofName (wpAny_mono h (fun f s₁ h₁ => ?_) fun _ _ x => x)) (fun v s₃ h₃ => wpAny_bind (wpAny_standAt (wpAny_pure h₃))) fun _ _ x => x))))
 obtain ⟨rfl, h₁⟩ := h₁
 unfold callWith
 refine wpAny_bind (wpAny_holding (wpAny_mono h₁ (fun a s₂ h₂ => wpAny_bind (wpAny_standAt ?_)) fun _ _ x => x))
 obtain ⟨apos, akw⟩ := a
 obtain ⟨hkw, hlen, hC, hn, T, hf, h₂⟩ := h₂
 obtain rfl : akw = [] := hkw
 obtain ⟨hp, g, d, tk, os⟩ := s₂
 simp only [hplain]
 refine wpAny_bind (wpAny_keeperOf_exc hC ?_)
 refine wpAny_bind (Wa (hrest := hlen) Fn hBn F T hC hn hi hf hfc fun h' e hm => wpAny_mono (h₂ h' e hm) (fun r s' hr => ⟨hr.1, wpAny_bind (wpAny_holding (wpAny_point (wpAny_pure ?_)))⟩) fun _ _ x => x)
 obtain ⟨_, hC', ⟨t, dx, he⟩, hE⟩ := hr
 exact ⟨e, t, dx, rfl, hC', he, hE⟩
end
end PySem
set_option Elab.async false
set_option linter.all false
set_option maxRecDepth 100000
set_option maxHeartbeats 4000000
namespace L2
open PySem PySem.Spec PyProof.Rows
open PySem.W (Looks InstAt findIn findObj subIn mroIn clsIn takerIn hasDictIn)
noncomputable def KR : Value -> Bool
 | .ref _ => true
 | _ => false
noncomputable def KF (l : List Value) : Bool := l.dropWhile KR == Km
theorem Y2 {a : Value} (h : KR a = true) : ∃ c, a = .ref c := by cases a <;> first | exact ⟨_, rfl⟩ | cases h
theorem xH (self : Value) : ∀ l : List Value, refuseLoop self "__setattr__" l = refuseLoop self "__setattr__" (l.dropWhile KR)
 | [] => rfl
 | a :: r => by
  by_cases h : KR a = true
  ·obtain ⟨c, rfl⟩ := Y2 h
   rw [refuseLoop_ref, List.dropWhile_cons_of_pos h]; exact xH self r
  ·rw [List.dropWhile_cons_of_neg h]
theorem Kz (self : Value) {l : List Value} (h : KF l = true) : refuseLoop self "__setattr__" l = pure () := by
 rw [xH, show l.dropWhile KR = Km from eq_of_beq h]; exact PySem.F.store_ValueError.passes self
structure JP (K : PySem.W.Frag) (C : Addr) (name : Str) : Prop where
 s : findIn K (.ref C) "__setattr__" = some (some (.builtin "object.__setattr__"))
 t : takerIn K C name = some none
 hd : hasDictIn K C = true
 mo : mroIn K C (.type "object") = some true
 ve : (clsIn K C).any (fun cd => KF cd.mro) = true
section
variable {prog : Program} {w : World} {A : Around} {E : Value -> Shared -> Prop} {s : Shared} {K : PySem.W.Frag} {x C : Addr} {ox : Obj} {od : Option Obj} {name : Str} {v : Value}
theorem QE {tk : Tok} {R : Result -> Shared -> Prop} (X : K.In s.heap) (I : InstAt s.heap x ox C od) (S : JP K C name)
  (h : ∀ b, wpAny (model prog w) A.in1 (Builtin.ObjectAttr.storeInOwnDict (.ref x) (.ref C) (.str name tk) name v b)
   (fun fin s' => match fin with | .done f => R (.ok f) s' | .again c' => c'.quiet = true /\ codeAny (model prog w) A c' R s') (fun e s' => R (.error e) s') s) :
  codeAny (model prog w) A (.call (.builtin "object.__setattr__") ⟨[.ref x, .str name tk, v], []⟩) R s := by
 have SF := PySem.F.store_object
 obtain ⟨cd, hc, ho⟩ := PySem.W.any_some S.ve
 have sub : Looks (model prog w) s.heap (isInstance (.ref x) (.type "object")) true := I.type.andThen (PySem.W.looks_mroIn X S.mo)
 refine codeAny_call_builtin SF.slot.plain SF.entry (@PySem.W.check_slot (model prog w) _ _ s "object.__setattr__" "object" "__setattr__" (.ref x) [.str name tk, v] [] _ SF.kind SF.split sub (SF.args (.ref x) (.str name tk) v) ?_)
 obtain ⟨attr, ha, hr⟩ := Option.bind_eq_some_iff.mp S.t
 have hm : Looks (model prog w) s.heap (mroOf (.ref C)) cd.mro := (PySem.W.looks_clsIn X hc).andThen .now
 have L3 : Looks (model prog w) s.heap (Builtin.ObjectAttr.storeTaker? attr) none := by
  cases attr with
  | none => exact .now
  | some a =>
   obtain ⟨b, hb, hb2⟩ := Option.map_eq_some_iff.mp hr
   cases b with
   | true => cases hb2
   | false => exact (PySem.W.looks_takesIn X hb).andThen .now
 rw [PySem.W.osa_eq, refuse_eq]
 refine wpAny_bind (wpAny_bind (I.type.here (wpAny_bind (hm.here ?_))))
 rw [Kz _ ho]
 refine wpAny_pure (wpAny_bind (I.type.here (wpAny_bind ((PySem.W.looks_findIn X ha).here (wpAny_bind (L3.here ?_))))))
 exact h _
theorem Xs {vs : Array Value} {Q : Unit -> Shared -> Prop} (X : K.In s.heap) (hx : s.heap.get? x = some ox) (hc : ox.cls = .ref C) (hf : ox.data = .fields vs) (hd : ox.dict = none) (S : JP K C name)
  (h : ∀ h' tk, h'.Ns1 s.heap.objs.size (fun y => if y = name then some v else none) -> h'.get? x = some { ox with dict := some s.heap.objs.size } -> (∀ b o, b ≠ x -> s.heap.get? b = some o -> h'.get? b = some o) -> Q () { s with heap := h', toks := tk }) :
  wpAny (model prog w) A (setAttr (.ref x) name v) Q E s := by
 have I : InstAt s.heap x ox C none := ⟨hx, hc, by unfold PySem.W.notCls; rw [hf], by rw [hd]; trivial⟩
 obtain ⟨cd, hcd, hdd⟩ := PySem.W.any_some S.hd
 obtain ⟨oc, odt, oda, osl⟩ := ox
 dsimp only at hc hf hd
 subst hc hf hd
 have hx₁ : (s.heap.push { cls := .type "dict", data := .dict #[] }).get? x = some ⟨.ref C, none, .fields vs, osl⟩ := Heap.get?_push_of_some _ hx
 have hxs : x ≠ s.heap.objs.size := Nat.ne_of_lt (Heap.lt_size hx)
 refine PySem.W.set_plain X I S.s (QE (s := { s with toks := s.toks + 1 }) (od := none) X I S fun b => ?_)
 refine wpAny_bind (wpAny_pure (wpAny_bind (wpAny_bind (wpAny_loadPart hx (wpAny_bind (PySem.W.Looks.here (s := { s with toks := s.toks + 1 }) (PySem.W.looks_clsIn X hcd) ?_))))))
 rw [hdd]
 have htd : typeHasDict (Value.ref C) = true := by simp [typeHasDict]
 dsimp only
 rw [if_neg (by decide), htd, if_neg (by decide)]
 refine wpAny_bind (wpAny_alloc' ?_)
 refine wpAny_bind (wpAny_update' hx₁ ?_)
 refine wpAny_pure ?_
 have hgd : ((s.heap.push { cls := .type "dict", data := .dict #[] }).update x fun o => { cls := o.cls, dict := some s.heap.objs.size, data := o.data, slots := o.slots }).get? s.heap.objs.size
   = some { cls := .type "dict", data := .dict #[] } :=
  (Heap.get?_update_ne _ _ _ _ hxs.symm).trans (Heap.get?_push_at rfl rfl)
 have hnd : ((s.heap.push { cls := .type "dict", data := .dict #[] }).update x fun o => { cls := o.cls, dict := some s.heap.objs.size, data := o.data, slots := o.slots }).Ns s.heap.objs.size (fun _ => none) :=
  ⟨_, #[], _, hgd, rfl, fun e he => absurd he (by simp), fun _ => rfl⟩
 show wpAny _ _ (Builtin.ObjectAttr.storeInDict s.heap.objs.size (.str name s.toks) name v) _ _ _
 unfold Builtin.ObjectAttr.storeInDict Builtin.ObjectAttr.newKeyGuard
 refine wpAny_bind (wpAny_pure (wpAny_bind (wpAny_nsSet1 (Heap.Ns1.of_empty hnd) fun h' hn' hs => ?_)))
 obtain ⟨oD, esD, epD, hoD, hdD, hcD⟩ := hn'.count (Within.cons name v Within.nil)
 refine wpAny_bind (wpAny_lookBehind hoD (by rw [hdD]; exact pastItsLine_dict (Nat.le_trans hcD (by rw [List.length_cons, List.length_nil, sizeLine_eq]; omega))) ?_)
 refine wpAny_pure (h h' _ hn' ?_ fun b o hb e => ?_)
 ·refine (hs.2 x hxs).trans (Heap.get?_update_self _ hx₁ rfl)
 ·exact (hs.2 b (Nat.ne_of_lt (Heap.lt_size e))).trans ((Heap.get?_update_ne _ _ _ _ hb).trans (Heap.get?_push_of_some _ e))
theorem Aj {dx : Addr} {vs : Array Value} {mA : Str -> Option Value} {ns : List Str} {Q : Unit -> Shared -> Prop} (X : K.In s.heap) (hx : s.heap.get? x = some ox) (hc : ox.cls = .ref C) (hf : ox.data = .fields vs) (hd : ox.dict = some dx) (hn : s.heap.Ns1 dx mA) (S : JP K C name) (hw : Within mA ns) (hsz : ns.length <= 1000)
  (h : ∀ h' tk, h'.Ns1 dx (fun y => if y = name then some v else mA y) -> Heap.SameBut dx s.heap h' -> Q () { s with heap := h', toks := tk }) :
  wpAny (model prog w) A (setAttr (.ref x) name v) Q E s := by
 obtain ⟨u, hu⟩ : ∃ u, s.heap.get? dx = some u := let ⟨o, _, _, e, _⟩ := hn; ⟨o, e⟩
 have I : InstAt s.heap x ox C (some u) := ⟨hx, hc, by unfold PySem.W.notCls; rw [hf], by rw [hd]; exact hu⟩
 obtain ⟨cd, hcd, hdd⟩ := PySem.W.any_some S.hd
 obtain ⟨oc, odt, oda, osl⟩ := ox
 dsimp only at hc hf hd
 subst hc hf hd
 refine PySem.W.set_plain X I S.s (QE (s := { s with toks := s.toks + 1 }) (od := some u) X I S fun b => ?_)
 refine wpAny_bind (wpAny_pure (wpAny_bind (wpAny_bind (wpAny_loadPart hx (wpAny_bind (PySem.W.Looks.here (s := { s with toks := s.toks + 1 }) (PySem.W.looks_clsIn X hcd) ?_))))))
 rw [hdd]
 refine wpAny_pure (a := some dx) (wpAny_bind (wpAny_pure (wpAny_bind ?_)))
 refine wpAny_nsSet1 (s := { s with toks := s.toks + 1 }) hn fun h' hn2 hs2 => ?_
 obtain ⟨oD, esD, epD, hoD, hdD, hcD⟩ := hn2.count (PySem.Within.cons name v hw)
 refine wpAny_bind (wpAny_lookBehind hoD (by rw [hdD]; exact pastItsLine_dict (Nat.le_trans hcD (by rw [List.length_cons, sizeLine_eq]; omega))) ?_)
 exact wpAny_pure (h h' _ hn2 hs2)
end
end L2
set_option Elab.async false
set_option linter.all false
set_option maxRecDepth 100000
set_option maxHeartbeats 4000000
namespace L2
open PySem PySem.Spec PyProof.Rows
open PySem.W (Looks InstAt findIn findObj subIn mroIn clsIn takerIn hasDictIn)
noncomputable def Vj (C t : Addr) (d : Option Addr) : Obj := { cls := .ref C, data := .fields #[.ref t, .none, .none, .none, .bool false, .none], dict := d }
noncomputable def xl (a C t : Addr) (d : Option Addr) : HO := .ext fun h => h.get? a = some (Vj C t d)
noncomputable def XdE (dx : Addr) (fs : List (Str × V)) : HO := .ext fun h => ∃ mA, h.Ns1 dx mA /\ (∀ f, kB (fs.lookup f) (mA f)) /\ Within mA (fs.map (·.1))
theorem QR {P : Program} {w : World} {H : Hp} {h : Heap} {a C t : Addr} {d : Option Addr} (e : h.get? a = some (Vj C t d)) : zP P w H h a (xl a C t d) := ⟨e, ⟨_, e⟩, fun _ _ e k => k _ e⟩
theorem XY {P : Program} {w : World} {H : Hp} {h : Heap} {dx : Addr} {fs : List (Str × V)} {mA : Str -> Option Value} (n : h.Ns1 dx mA) (r : ∀ f, kB (fs.lookup f) (mA f)) (wi : Within mA (fs.map (·.1))) : zP P w H h dx (XdE dx fs) := by
 refine ⟨⟨mA, n, r, wi⟩, ?_, fun h1 h2 ⟨mA, ⟨o, es, ep, e, c⟩, r⟩ k => ⟨mA, ⟨o, es, ep, k _ e, c⟩, r⟩⟩
 obtain ⟨o, _, _, e, _⟩ := n
 exact ⟨o, e⟩
section
variable {X : Cx} {pins : List (Addr × Obj)} {σ : St} {H : Hp} {s : Shared}
theorem Inv.drop (I : Inv X pins σ H s) {x : Addr} (mu : Mut (H x)) (h0 : X.s₀.heap.get? x = none) : Inv X pins σ (fun b => if b = x then none else H b) s := by
 have ne1 : ∀ {b : Addr} {y : Addr}, H b = some (.own y) -> b ≠ x := fun e z => by rw [z] at e; rw [e] at mu; exact mu
 have ne2 : ∀ {b : Addr} {xs : List V}, H b = some (.tup xs) -> b ≠ x := fun e z => by rw [z] at e; rw [e] at mu; exact mu
 refine ⟨I.ok, I.os, I.bare, ⟨I.base.keep, I.base.slot, fun b u e n hb => ?_, I.base.there, fun b xs e => ?_, fun b u v e => ?_, fun b ps e => ?_⟩, I.loc, I.cell, ?_, fun y c e => ?_, fun p hp' => ?_, fun b u e => ?_, I.len⟩
 ·show (if b = x then none else H b) = none
  split
  ·rfl
  ·exact I.base.free b u e n hb
 ·have := I.base.tups b xs e
  show (if b = x then none else H b) = _
  rw [if_neg (ne2 this)]; exact this
 ·have := I.base.frzs b u v e
  show (if b = x then none else H b) = _
  rw [if_neg (fun z => by rw [z] at this; rw [this] at mu; exact mu)]; exact this
 ·obtain ⟨m, this⟩ := I.base.tbls b ps e
  refine ⟨m, ?_⟩
  show (if b = x then none else H b) = _
  rw [if_neg (fun z => by rw [z] at this; rw [this] at mu; exact mu)]; exact this
 ·show (if _ = x then none else H _) = none
  split
  ·rfl
  ·exact I.free
 ·show (if _ = x then none else H _) = none
  split
  ·rfl
  ·exact I.freeC y c e
 ·obtain ⟨e1, e2, e3⟩ := I.pin p hp'
  refine ⟨e1, ?_, e3⟩
  show (if _ = x then none else H _) = none
  split
  ·rfl
  ·exact e2
 ·have e : (if b = x then none else H b) = some u := e
  split at e
  ·cases e
  ·exact (I.hok b u e).stay (fun _ _ _ q => q) (fun d q => by show (if _ = x then none else H _) = _; rw [if_neg (ne1 q)]; exact q) fun d xs q => by show (if _ = x then none else H _) = _; rw [if_neg (ne2 q)]; exact q
noncomputable def A0 (K : PySem.W.Frag) (ta tv : TE) (f : Str) : TS := fun D σ H => tv σ H fun y H1 => ta σ H1 fun x H2 => ∃ a C t, x = .ref a /\ JP K C f /\
 ((H2 a = some (xl a C t none) /\ ∀ dx, H2 dx = none -> dx ≠ a -> D.nx σ (upd (upd H2 a (xl a C t (some dx))) dx (XdE dx [(f, y)]))) \/
  ∃ dx fs, H2 a = some (xl a C t (some dx)) /\ H2 dx = some (XdE dx fs) /\ fs.length < 1000 /\ D.nx σ (upd H2 dx (XdE dx (jj f y fs))))
variable {o value : Expr} {f : Str} {ta tv : TE} {pos pos' : Pos}
theorem VC (ha : PE X o ta) (hv : PE X value tv) (hs : swapsWith value (some (.Attribute o f pos')) pos.line X.env = pure false) : PS X (.Assign [.Attribute o f pos'] value pos) (A0 X.K ta tv f) := by
 intro pins s σ H D I h
 refine plainObj_wpAny_Assign_Attribute (thn (hv pins s σ H _ I h) fun u s1 ⟨y, H1, I1, ry, q⟩ => thn (ha pins s1 σ H1 _ I1 q) fun ov s2 ⟨x, H2, I2, rx, a, C, t, ex, S, q2⟩ => ?_) hs
 subst ex
 obtain rfl : ov = Value.ref a := rx
 rcases q2 with ⟨ea, q2⟩ | ⟨dx, fs, ea, ed, hl, q2⟩
 ·have ho : s2.heap.get? a = some (Vj C t none) := (I2.hok a _ ea).1
  refine Xs I2.kIn ho rfl rfl rfl S fun h' tk hn hx k => ?_
  have dn : H2 s2.heap.objs.size = none := I2.hok.fresh (Nat.le_refl _)
  have da : s2.heap.objs.size ≠ a := Nat.ne_of_gt (Heap.lt_size ho)
  have hd : ∀ b o, s2.heap.get? b = some o -> b ≠ s2.heap.objs.size := fun b o e => Nat.ne_of_lt (Heap.lt_size e)
  have na : ∀ {b : Addr} {u : HO}, H2 b = some u -> (∀ φ, u ≠ .ext φ) -> b ≠ a := fun e n z => by rw [z, ea] at e; cases e; exact n _ rfl
  have I3 : Inv X pins σ (upd (upd H2 a (xl a C t (some s2.heap.objs.size))) s2.heap.objs.size (XdE s2.heap.objs.size [(f, y)])) { s2 with heap := h', toks := tk } := by
   refine I2.un ⟨fun b o e n _ _ => k b o (fun z => by rw [z, ea] at n; cases n) e, fun b o e n _ _ => ⟨o.slots, k b o (fun z => by rw [z, ea] at n; cases n) e⟩, fun b o e n _ => ?_, fun b o e _ => ?_, fun b xs e => ?_, fun b o u e => ?_, fun b ps e => ?_⟩ fun b u' e => ?_
   ·rw [zg (hd b o e), zg (fun z => by rw [z, ea] at n; cases n)]; exact n
   ·by_cases c : b = a
    ·exact ⟨_, c ▸ hx⟩
    ·exact ⟨o, k b o c e⟩
   ·rw [zg (zk e dn), zg (na e fun _ z => nomatch z)]; exact e
   ·rw [zg (zk e dn), zg (na e fun _ z => nomatch z)]; exact e
   ·exact ⟨#[], by rw [zg (zk e dn), zg (na e fun _ z => nomatch z), Array.append_empty]; exact e⟩
   ·by_cases c : b = s2.heap.objs.size
    ·subst c
     rw [ze] at e
     cases e
     refine XY hn (fun g => ?_) fun g hg => ?_
     ·have e1 : List.lookup g [(f, y)] = if g = f then some y else none := jm f g y []
      rw [e1]
      by_cases q : g = f
      ·rw [if_pos q, if_pos q]; exact ry
      ·rw [if_neg q, if_neg q]; trivial
     ·by_cases q : g = f
      ·rw [q]; simp
      ·exact absurd (if_neg q) hg
    ·rw [zg c] at e
     by_cases c2 : b = a
     ·subst c2
      rw [ze] at e
      cases e
      exact QR hx
     ·rw [zg c2] at e
      refine (I2.hok b u' e).stay (fun d v hd' q => k d v (fun z => ?_) q) (fun d q => ?_) fun d xs q => ?_
      ·rcases hd' with rfl | hd'
       ·exact c2 z
       ·exact na hd' (fun _ z => nomatch z) z
      ·rw [zg (zk q dn), zg (na q fun _ z => nomatch z)]; exact q
      ·rw [zg (zk q dn), zg (na q fun _ z => nomatch z)]; exact q
  exact ⟨σ, _, I3, q2 _ dn da⟩
 ·have ho : s2.heap.get? a = some (Vj C t (some dx)) := (I2.hok a _ ea).1
  obtain ⟨⟨mA, hn, r, wi⟩, _, _⟩ := I2.hok dx _ ed
  refine Aj I2.kIn ho rfl rfl rfl hn S wi (by rw [List.length_map]; omega) fun h' tk hn' sb => ?_
  have hd : ∃ o, h'.get? dx = some o := let ⟨o, _, _, e', _⟩ := hn'; ⟨o, e'⟩
  refine ⟨σ, _, I2.write (x := dx) (e := dx) (by rw [ed]; exact True.intro) (.inl rfl) (fun b q hb z => (sb.2 b hb).trans z) hd (XY hn' (fun g => ?_) fun g hg => ?_), q2⟩
  ·rw [jm]
   by_cases q : g = f
   ·rw [if_pos q, if_pos q]; exact ry
   ·rw [if_neg q, if_neg q]; exact r g
  ·by_cases q : g = f
   ·rw [q]; exact (jy f y fs).1
   ·refine (jy f y fs).2 g (wi g fun z => hg ?_)
    show (if g = f then some u else mA g) = none
    rw [if_neg q]; exact z
end
end L2
set_option Elab.async false
set_option linter.all false
set_option maxRecDepth 100000
set_option maxHeartbeats 4000000
namespace L2
open PySem PySem.Spec PyProof.Rows
theorem Qi {K : PySem.W.Frag} {h : Heap} {N : Addr} {mg : Str -> Option Value} {n : Str} {v : Value} (X : K.In h) (G : h.Ns N mg) (e : PySem.W.nsIn K N n = some (some v)) : mg n = some v := by
 obtain ⟨o, es, ep, ho, hd, _, hf⟩ := G
 unfold PySem.W.nsIn at e
 split at e
 ·rename_i c d es' n' sl q
  have := X _ _ q
  rw [ho] at this
  cases this
  cases hd
  split at e
  ·rename_i en he
   cases e
   rw [<- hf]
   unfold nsFind findBy
   rw [<- Array.find?_toList, he]
   rfl
  ·split at e <;> cases e
 ·cases e
noncomputable def xq (K : PySem.W.Frag) (C : Addr) (bmB : List Value) (newId : String) (fI : Addr) : Bool := match K.lookup C with
 | some ⟨.type "type", _, .cls cd, sl⟩ => (match cd.mro, sl.toList with
  | .ref C' :: bm, [_, _, _, _, some (.builtin n), _] => C' == C && n == newId && !cd.hasDel && PySem.W.tailIn K bmB bm && PySem.W.nsOkIn K cd.ns && PySem.W.nsIn K cd.ns "__init__" == some (some (.ref fI))
  | _, _ => false)
 | _ => false
theorem XT {K : PySem.W.Frag} {h : Heap} {C fI : Addr} {bmB : List Value} {newId : String} (X : K.In h) (q : xq K C bmB newId fI = true) :
  ∃ bm N nm qn bs hdct sn sub ab col dd k0 k1 k2 k3 k5 mN, h.get? C = some (excClassObj nm qn C N bs bm hdct sn sub ab col dd k0 k1 k2 k3 k5 newId) /\ h.Ns N mN /\ mN "__init__" = some (.ref fI) /\ OwnTail h bmB bm := by
 unfold xq at q
 split at q
 ·rename_i dd cd sl ho
  split at q
  ·rename_i C' bm k0 k1 k2 k3 n k5 hm hs
   simp only [Bool.and_eq_true, beq_iff_eq, Bool.not_eq_true'] at q
   obtain ⟨⟨⟨⟨⟨z1, z2⟩, z3⟩, z4⟩, z5⟩, z6⟩ := q
   subst z1 z2
   obtain ⟨c1, c2, c3, c4, c5, c6, c7, c8, c9, c10, c11⟩ := cd
   dsimp only at hm z3 z5 z6
   subst hm z3
   have es : sl = #[k0, k1, k2, k3, some (.builtin n), k5] := Array.ext' hs
   subst es
   exact ⟨bm, c4, c1, c5, c2, c6, c7, c8, c9, c10, dd, k0, k1, k2, k3, k5, _, X _ _ ho, .of_isNs (PySem.W.isNs_of_in X z5), Qi X (.of_isNs (PySem.W.isNs_of_in X z5)) z6, PySem.W.tail_of_in X z4⟩
  ·cases q
 ·cases q
noncomputable def spI (C : Addr) (n : Nat) (fn : List V -> List (Str × V)) : Sp := fun vs H Q E => ∃ a t us, vs = .ref a :: us /\ us.length = n /\ H a = some (xl a C t none) /\ ∀ dx, H dx = none -> dx ≠ a -> Q .non (upd (upd H a (xl a C t (some dx))) dx (XdE dx (fn us)))
noncomputable def MkX (P : Program) (w : World) (K : PySem.W.Frag) (mg : Str -> Option Value) (base : Heap) (C : Addr) (k n : Nat) (fn : List V -> List (Str × V)) : Prop :=
 ∃ f fd ps, xq K C Km "ValueError.__new__" f = true /\ qT P w K mg base CX0 k f fd ps (spI C n fn) /\ ja K fd ps [] /\ (∃ oI, K.lookup f = some oI /\ oI.cls = .type "function") /\ ps.length = n + 1
noncomputable def Jj (C : Addr) (n : Nat) (fn : List V -> List (Str × V)) (E : St -> XK) (t : TA) : TS := fun _ σ H => t σ H fun vs H1 => vs.length = n /\ n <= 1000 /\ ∀ dx, H1 dx = none -> E σ (.ref C) (some dx) (upd H1 dx (.xd (fn vs)))
section
variable {X : Cx} {E : XK} {C : Addr} {x : Str} {np cpos pos : Pos} {e : Expr} {es : List Expr} {t : TA} {k n : Nat} {fn : List V -> List (Str × V)}
theorem qp (D : DX X E) (hc : X.calm = true) (m : MkX X.prog X.w X.K X.mg X.base C k n fn) (hr : qg (k + 1) X.A) (hg : Gl X x) (hm : X.mg x = some (.ref C)) (ha : PA X (e :: es) t) (hdb : (x == ("__debug__" : Str)) = false := by decide)
  (he : starEach (e :: es) X.env = (false, eval e X.env) :: starEach es X.env := by rfl) (hpl : (backTo cpos (starEach es X.env)).any (·.1) = false := by rfl) :
  PS X (.Raise (some (.Call (.Name x np) (e :: es) [] cpos)) none pos) (Jj C n fn (fun _ => E) t) := by
 intro pins s σ H De I h
 obtain ⟨fI, fd, ps, q, F, hb, ⟨oI, lk, hfc⟩, hps⟩ := m
 obtain ⟨bm, N, nm, qn, bs, hdct, sn, sub, ab, col, dd, k0, k1, k2, k3, k5, mN, hC, hN, hi, T⟩ := XT I.ok.mod.kin q
 refine XN (C := C) (nm := nm) (q := qn) (N := N) (bs := bs) (bm := bm) (hdct := hdct) (sn := sn) (sub := sub) (ab := ab) (col := col) (dd := dd) (k0 := k0) (k1 := k1) (k2 := k2) (k3 := k3) (k5 := k5)
  PySem.F.excBase_ValueError (by decide) PySem.F.excBase_ValueError (mN := mN) (T.hasType PySem.F.excBase_ValueError.hasBase) (I.ok.hd hc) (by rw [he]; show (false || (backTo cpos (starEach es X.env)).any (·.1)) = false; rw [hpl]; rfl) hi hfc (jG I hg hm ⟨rfl, ?_⟩ hdb)
 have := ha cpos pins s σ H _ I h
 rw [he] at this ⊢
 refine Calls.evalArgs_plain (wpAny_mono this (fun us s2 h2 => ?_) fun _ _ y => y)
 obtain ⟨vs, H1, I1, r, hl, hn, q1⟩ := h2
 have hlu : us.length = n := by rw [<- r.length]; exact hl
 refine ⟨rfl, by rw [hlu, sizeLine_eq]; omega, I1.bk _ _ hC, hN.keeps I1.bk, T.keeps I1.bk, I1.kIn _ _ lk, fun h' x1 hx => ?_⟩
 obtain ⟨t1, ho, _, _⟩ := hx.there
 have nx : s2.heap.get? x1 = none := hx.new
 have hx0 : X.s₀.heap.get? x1 = none := by
  cases z : X.s₀.heap.get? x1 with
  | none => rfl
  | some o =>
   obtain ⟨o', e'⟩ := I1.base.there x1 o z (by rw [D.ex]; simp)
   rw [nx] at e'; cases e'
 have hx1 : H1 x1 = none := by
  cases z : H1 x1 with
  | none => rfl
  | some o =>
   obtain ⟨u, e'⟩ := (I1.hok x1 o z).here
   rw [nx] at e'; cases e'
 have I2 : Inv X pins σ H1 { s2 with heap := h' } := I1.kept (t' := s2.toks) hx.keeps
 have I3 : Inv X pins σ (upd H1 x1 (xl x1 C t1 none)) { s2 with heap := h' } := I2.track hx1 hx0 (fun z => by
   obtain ⟨mm, ⟨o, _, _, e', _⟩, _⟩ := I1.loc
   rw [<- z, nx] at e'; cases e') (fun y c e' z => by
   obtain ⟨v, o, e2, _⟩ := I1.cell y c e'
   rw [z, nx] at e2; cases e2) (fun p hp z => by
   have := (I1.pin p hp).1
   rw [z, nx] at this; cases this) (QR ho)
 have r2 : zB (V.ref x1 :: vs) (Value.ref x1 :: us) := .cons rfl r
 have hl2 : (Value.ref x1 :: us ++ []).length = ps.length := by rw [List.append_nil, List.length_cons, hlu, hps]
 have b1 := hb { s2 with heap := h' } (Value.ref x1 :: us) I3.kIn hl2
 rw [List.append_nil] at b1
 refine wpAny_call (codeAny_mono (F.run _ X.stack _ _ ⟨Value.ref x1 :: us, []⟩ (Value.ref x1 :: us) (V.ref x1 :: vs) (fun v H2 => v = .non /\ ∃ dx, H1 dx = none /\ dx ≠ x1 /\ H2 = upd (upd H1 x1 (xl x1 C t1 (some dx))) dx (XdE dx (fn vs))) E (hr.make C us []) (I3.env0.make C us []) b1 r2 ⟨x1, t1, vs, rfl, hl, ze, fun dx hd hne => ⟨rfl, dx, ?_, hne, by rw [Jx]⟩⟩) fun r s' hq' => ?_)
 ·rw [zg hne] at hd; exact hd
 cases r with
 | error e => exact False.elim hq'
 | ok fl =>
  cases fl with
  | ret u =>
   obtain ⟨v, H', I4, rv, ev, dx, d1, d2, eH⟩ := I3.after hq'
   subst ev eH
   have hcl := I4.bk _ _ hC
   have hex : s'.heap.get? x1 = some (Vj C t1 (some dx)) := by
    have := I4.hok x1 (xl x1 C t1 (some dx)) (by rw [zg (Ne.symm d2), ze])
    exact this.1
   refine ⟨rv, hcl, ⟨t1, some dx, hex⟩, ?_⟩
   have I5 := I4.drop (x := x1) (by rw [zg (Ne.symm d2), ze]; exact True.intro) hx0
   have eH : (fun b => if b = x1 then none else upd (upd H1 x1 (xl x1 C t1 (some dx))) dx (XdE dx (fn vs)) b) = upd H1 dx (XdE dx (fn vs)) := by
    funext b
    by_cases c : b = x1
    ·rw [if_pos c, c, zg (Ne.symm d2)]; exact hx1.symm
    ·rw [if_neg c]
     by_cases c2 : b = dx
     ·rw [c2, ze, ze]
     ·rw [zg c2, zg c, zg c2]
   rw [eH] at I5
   obtain ⟨⟨mA, hn1, hr1, _⟩, ⟨od, hod⟩, _⟩ := I5.hok dx (XdE dx (fn vs)) ze
   have I6 := I5.write (x := dx) (e := dx) (h' := s'.heap) (t' := s'.toks) (o := .xd (fn vs)) (by rw [ze]; exact True.intro) (.inl rfl) (fun _ _ _ z => z) ⟨od, hod⟩ ⟨mA, hn1, hr1⟩
   rw [Jx] at I6
   exact D.raise (C := C) (d := some dx) I6 (x := x1) (h1 := s'.heap) (fun b o _ z => z) (fun o z => by rw [hex] at z; cases z; exact ⟨_, rfl⟩) hex rfl rfl rfl rfl rfl hx0 (by rw [zg (Ne.symm d2)]; exact hx1) (q1 dx d1)
  | next => exact False.elim hq'
  | brk => exact False.elim hq'
  | cont => exact False.elim hq'
end
end L2
set_option Elab.async false
set_option linter.all false
set_option maxRecDepth 100000
set_option maxHeartbeats 4000000
namespace L2
open PySem PySem.Spec PyProof.Rows
open PySem.W (Looks InstAt findIn findObj subIn mroIn clsIn takerIn hasDictIn)
noncomputable def DmX (P : Program) (w : World) (K : PySem.W.Frag) (mg : Str -> Option Value) (base : Heap) (C : Addr) (m : Str) (ps : List Str) (k : Nat) (sp : Sp) : Prop :=
 ∃ f fd, qT P w K mg base (CX1 P w) k f fd ps sp /\ ja K fd ps [] /\ Z4 K C m f
theorem DmX.mono {P : Program} {w : World} {K : PySem.W.Frag} {mg : Str -> Option Value} {base : Heap} {C : Addr} {m : Str} {ps : List Str} {j k : Nat} {sp : Sp} (D : DmX P w K mg base C m ps j sp) (h : j <= k) : DmX P w K mg base C m ps k sp :=
 let ⟨f, fd, F, r⟩ := D
 ⟨f, fd, F.mono h, r⟩
noncomputable def yN (C : Addr) (m : Str) (sp : Sp) (E : St -> XK) (ta : TE) (t : TA) : TE := fun σ H Q => ta σ H fun x H1 => ∃ a dx fs, x = .ref a /\ H1 a = some (.ins C dx fs) /\ fs.lookup m = none /\ t σ H1 fun vs H2 => sp (x :: vs) H2 Q (E σ)
section
variable {X : Cx} {k : Nat} {C : Addr} {m x : Str} {ps : List Str} {sp : Sp} {E : St -> XK} {p pos apos : Pos} {o e : Expr} {es : List Expr} {t : TA} {to : TE}
theorem kG {pl : Sem Bool} (c : Cls X.K C) (D : DmX X.prog X.w X.K X.mg X.base C m ps k sp) (hr : qg k X.A) (hx : wt (CX1 X.prog X.w) X E) (ho : PE X o to) (ha : PA X (e :: es) t)
  (hst : starEach (e :: es) X.env = (false, eval e X.env) :: starEach es X.env := by rfl) (hpl : (backTo pos (starEach es X.env)).any (·.1) = false := by rfl)
  (ht : eval (.Call (.Attribute o m apos) (e :: es) [] pos) X.env = (do
   let ov <- eval o X.env
   standAt apos.atName
   let (f, first) <- holding [ov] (getMethod ov m pl)
   callWith pos f first (backTo pos (starEach (e :: es) X.env)) (backToKw pos (keywordEach [] X.env))) := by rfl) :
  PE X (.Call (.Attribute o m apos) (e :: es) [] pos) (yN C m sp E to t) := by
 obtain ⟨f, fd, F, b, hm⟩ := D
 intro pins s σ H Q I h
 refine PySem.W.methodCall_KW (pl := pl) (thn (ho pins s σ H _ I h) fun u s1 ⟨x, H1, I1, rx, a, dx, fs, ex, ea, l, q⟩ => ?_) ht
 subst ex
 obtain rfl : u = Value.ref a := rx
 refine jC I1 ea c hm l ?_
 refine PySem.W.callWith_K (first := [.ref a]) (h₀ := X.base) I.ok.mod.kin hm.kp (thn (ha pos pins s1 σ H1 _ I1 q) fun us s2 ⟨vs, H2, I2, r, q2⟩ => ⟨I2.kIn, ?_⟩) hst hpl
 exact W9 (us := .ref a :: us) (vs := .ref a :: vs) F hr b hx I2 (.cons rfl r) q2
end
theorem Ez {P : Program} {w : World} {K : PySem.W.Frag} {mg : Str -> Option Value} {base : Heap} {C : Addr} {m qual : Str} {st : Stmt} {N ps : List Str} {k : Nat} {sp : Sp} (a : AtM K C m qual st) (S : zy N ps (zi st))
  (hb : ∀ (kV doc pm : Value) (an : Option Addr) (cdv ct : Value) (us : List Value), us.length = ps.length -> bindArgs (PySem.W.fnOf m qual (qt st) (zO st) (zi st) .none kV doc pm an cdv ct) ⟨us, []⟩ = pure (ps.zip us))
  (len : ∀ vs H Q E, sp vs H Q E -> vs.length = ps.length)
  (hbody : ∀ (f : Addr) (cdv : Value) (A : Around) (outer : List Env) (s : Shared) (H : Hp) (vs : List V) (Q : VK) (E : XK), qg k (A.deeper (envOfC qual (zi st) s.heap.objs.size f cdv)) -> sp vs H Q E ->
   ∃ t, (DX (j9 (CX1 P w) P w K mg base N qual (zi st) f cdv A outer s H E) E -> PSs (j9 (CX1 P w) P w K mg base N qual (zi st) f cdv A outer s H E) (zO st) t) /\ t { nx := fun _ H' => Q .non H', rt := Q } (qF N vs) H) : DmX P w K mg base C m ps (k + 1) sp := by
 obtain ⟨f, fd, F, mt⟩ := a
 refine ⟨f, fd, ?_, F.binds hb, mt⟩
 obtain ⟨oc, od, kV, doc, pm, an, cdv, ct, osl, rfl, lk, hcd⟩ := F.ex
 refine AJ lk hcd S len fun A outer s H vs Q E hr hsp => ?_
 obtain ⟨t, ht, q⟩ := hbody f cdv A outer s H vs Q E hr hsp
 exact ⟨t, ht ⟨rfl, rfl, rfl, rfl⟩, q⟩
theorem Zr {K : PySem.W.Frag} {C : Addr} {u : Obj} {name : Str} {v : Value} (hh : hasDictIn K C = true) (ha : findIn K (.ref C) name = some none) (hl : PySem.W.lookIn name u = some (some v)) : findObj K C (some u) name = some (.value v) := PySem.W.findObj_own hh ha rfl hl
section
variable {prog : Program} {w : World} {A : Around} {E : Value -> Shared -> Prop} {s : Shared} {K : PySem.W.Frag} {x C : Addr} {ox u : Obj} {name : Str} {v : Value}
theorem Ew {expr : Bool} {Q : Value -> Shared -> Prop} (X : K.In s.heap) (I : InstAt s.heap x ox C (some u)) (hb : subIn K (.ref C) (.type "BaseException") = some true)
  (h1 : findIn K (.ref C) "__getattribute__" = some (some (.builtin "BaseException.__getattribute__"))) (h2 : findIn K (.ref C) "__getattr__" = some none)
  (hf : findObj K C (some u) name = some (.value v)) (hh : PySem.W.handedIn v = true) (q : Q v { s with toks := s.toks + 1 }) :
  wpAny (model prog w) A (getAttr (.ref x) name expr) Q E s := by
 obtain ⟨h, g, d, t, os⟩ := s
 unfold getAttr
 refine wpAny_bind (wpAny_mkText ?_)
 refine As X I hb h1 h2 ?_
 have L0 := I.type (M := model prog w)
 have L1 := PySem.W.looks_find (M := model prog w) X I hf
 have fin : wpAny (model prog w) A (handedOut v) Q E ⟨h, g, d, t + 1, os⟩ := by rw [PySem.W.handedOut_of hh]; exact wpAny_pure q
 unfold Builtin.«object.__getattribute__»
 repeat (any_goals (first | assumption | with_reducible refine Looks.at L0 ?_ | with_reducible refine Looks.at L1 ?_ | wp_step))
end
noncomputable def Ay (K : PySem.W.Frag) (ta : TE) (f : Str) : TE := fun σ H Q => ta σ H fun x H1 => ∃ a C dx fs v, x = .ref a /\ H1 a = some (yR a C (some dx)) /\ H1 dx = some (.xd fs) /\ Kj K C /\ hasDictIn K C = true /\ findIn K (.ref C) f = some none /\ fs.lookup f = some v /\ Q v H1
section
variable {X : Cx} {e : Expr} {ta : TE} {f : Str} {pos : Pos}
theorem Wp (he : PE X e ta) (hb : attributeBase e f X.env (eval e X.env) = eval e X.env) : PE X (.Attribute e f pos) (Ay X.K ta f) := by
 intro pins s σ H Q I h
 refine QG hb (thn (he pins s σ H _ I h) fun u s1 ⟨x, H1, I1, rx, a, C, dx, fs, v, ex, ea, ed, c, hh, hn, l, q⟩ => ?_)
 subst ex
 obtain rfl : u = Value.ref a := rx
 obtain ⟨⟨oa, g1, g2, g3, vs, g4⟩, _, _⟩ := I1.hok a _ ea
 obtain ⟨mA, hns, hr⟩ := I1.hok dx _ ed
 obtain ⟨od, ho, hl⟩ := vB hns
 have hv := hr f
 rw [l] at hv
 cases z : mA f with
 | none => rw [z] at hv; exact hv.elim
 | some u' =>
  rw [z] at hv
  have J : InstAt s1.heap a oa C (some od) := ⟨g1, g2, by unfold PySem.W.notCls; rw [g4], by rw [g3]; exact ho⟩
  refine Ew I1.kIn J c.bx c.ga c.gt (Zr hh hn (by rw [hl, z])) (vm hv) ⟨v, H1, I1.tok _, hv, q⟩
end
theorem BQ {P : Program} {w : World} {K : PySem.W.Frag} {mg : Str -> Option Value} {base : Heap} {C f : Addr} {fd : FuncData} {qual : Str} {st : Stmt} {N ps : List Str} {k n : Nat} {fn : List V -> List (Str × V)} (F : Fun K "__init__" qual st f fd) (S : zy N ps (zi st))
  (hb : ∀ (kV doc pm : Value) (an : Option Addr) (cdv ct : Value) (us : List Value), us.length = ps.length -> bindArgs (PySem.W.fnOf "__init__" qual (qt st) (zO st) (zi st) .none kV doc pm an cdv ct) ⟨us, []⟩ = pure (ps.zip us))
  (q : xq K C Km "ValueError.__new__" f = true) (hf : PySem.W.isFn K (.ref f) = true) (hl : ps.length = n + 1)
  (hbody : ∀ (cdv : Value) (A : Around) (outer : List Env) (s : Shared) (H : Hp) (E : XK), ∃ t, PSs (j9 CX0 P w K mg base N qual (zi st) f cdv A outer s H E).nox (zO st) t /\
   ∀ (a t0 : Addr) (us : List V) (Q : VK), us.length = n -> H a = some (xl a C t0 none) -> (∀ dx, H dx = none -> dx ≠ a -> Q .non (upd (upd H a (xl a C t0 (some dx))) dx (XdE dx (fn us)))) -> t { nx := fun _ H' => Q .non H', rt := Q } (qF N (.ref a :: us)) H) : MkX P w K mg base C (k + 1) n fn := by
 have hfc : ∃ oI, K.lookup f = some oI /\ oI.cls = .type "function" := by
  obtain ⟨oc, od, kV, doc, pm, an, cdv, ct, osl, rfl, lk, hcd⟩ := F.ex
  refine ⟨_, lk, ?_⟩
  have hf' := beq_iff_eq.mp hf
  have hf' : Option.map (fun x : Obj => x.cls) (K.lookup f) = some (.type "function") := hf'
  rw [lk] at hf'
  exact Option.some.inj hf'
 refine ⟨f, fd, ps, q, F.ok S (fun vs H Q E ⟨a, t, us, e, l, _⟩ => by rw [e, List.length_cons, l, hl]) fun cdv A outer s H vs Q E hr ⟨a, t0, us, e, l, ha, hq⟩ => ?_, F.binds hb, hfc, hl⟩
 obtain ⟨t, h1, h2⟩ := hbody cdv A outer s H E
 subst e
 exact ⟨t, h1, h2 a t0 us Q l ha hq⟩
end L2
set_option Elab.async false
set_option linter.all false
set_option maxRecDepth 100000
set_option maxHeartbeats 4000000
namespace L2
open PySem PySem.Spec PyProof.Rows
open PySem.W (findIn hasDictIn)
theorem xW {H : Hp} {O : Own} {M : MH} : ∀ {xs : List (Str × V)} {l : List (Str × AV)}, jW H O M xs l -> ∀ f, (xs.lookup f = none /\ l.lookup f = none) \/ ∃ v x, xs.lookup f = some v /\ l.lookup f = some x /\ zt H O M v x
 | [], [], _, f => .inl ⟨rfl, rfl⟩
 | [], _ :: _, r, f => by have := r.1; simp at this
 | _ :: _, [], r, f => by have := r.1; simp at this
 | (g, v) :: xs, (g', x) :: l, r, f => by
  have h1 := r.1
  rw [List.map_cons, List.map_cons] at h1
  obtain ⟨e0, h2⟩ := List.cons.inj h1
  have e0 : g = g' := e0
  subst e0
  have r0 : zt H O M v x := r.2.2 0 v x rfl rfl
  have r1 : jW H O M xs l := ⟨h2, by have := r.2.1; simp at this; simpa using this, fun i a b e1 e2 => r.2.2 (i + 1) a b e1 e2⟩
  by_cases c : f = g
  ·subst c
   exact .inr ⟨v, x, by simp [List.lookup], by simp [List.lookup], r0⟩
  ·have e : (f == g) = false := by simpa using c
   simp only [List.lookup, e]
   exact xW r1 f
noncomputable def ka (f : Str) (v : AV) : List (Str × AV) -> List (Str × AV)
 | [] => [(f, v)]
 | (g, x) :: r => if g = f then (g, v) :: r else (g, x) :: ka f v r
theorem Xq {H : Hp} {O : Own} {M : MH} {f : Str} {v : V} {x : AV} (rv : zt H O M v x) : ∀ {xs : List (Str × V)} {l : List (Str × AV)}, jW H O M xs l -> jW H O M (jj f v xs) (ka f x l)
  | [], [], _ => ⟨rfl, rfl, fun i a b e1 e2 => by
      cases i with
      | zero => cases e1; cases e2; exact rv
      | succ i => cases e1⟩
  | [], _ :: _, r => by have := r.1; simp at this
  | _ :: _, [], r => by have := r.1; simp at this
  | (g, v') :: xs, (g', x') :: l, r => by
    have h1 := r.1
    rw [List.map_cons, List.map_cons] at h1
    obtain ⟨e0, h2⟩ := List.cons.inj h1
    have e0 : g = g' := e0
    subst e0
    have r0 : zt H O M v' x' := r.2.2 0 v' x' rfl rfl
    have ll : xs.length = l.length := by have := r.2.1; simp at this; exact this
    have r1 : jW H O M xs l := ⟨h2, by simpa using ll, fun i a b e1 e2 => r.2.2 (i + 1) a b e1 e2⟩
    unfold jj ka
    by_cases c : g = f
    · rw [if_pos c, if_pos c]
      exact ⟨by rw [List.map_cons, List.map_cons, h2], by simpa using ll, fun i a b e1 e2 => by
        cases i with
        | zero => cases e1; cases e2; exact rv
        | succ i => exact r1.2.2 i a b e1 e2⟩
    · rw [if_neg c, if_neg c]
      have ih := Xq (f := f) rv r1
      exact ⟨by rw [List.map_cons, List.map_cons, ih.1], by have := ih.2.1; simpa using this, fun i a b e1 e2 => by
        cases i with
        | zero => cases e1; cases e2; exact r0
        | succ i => exact ih.2.2 i a b e1 e2⟩
theorem B6 {H : Hp} {O : Own} {M : MH} {xs : List (Str × V)} {l : List (Str × AV)} (r : jW H O M xs l) : xs.length = l.length := by simpa using r.2.1
theorem Jt {H : Hp} {O : Own} {M : MH} (w : Wf H O M) {p C : Addr} {fs : List (Str × AV)} (hp : M p = some (.ins C fs)) (f : Str) {v : V} {y : AV} (rv : zt H O M v y) :
  ∃ dx xs, H p = some (.ins C dx xs) /\ xs.length = fs.length /\ Ext H O M (upd H p (.ins C dx (jj f v xs))) O (mup M p (.ins C (ka f y fs))) /\ Wf (upd H p (.ins C dx (jj f v xs))) O (mup M p (.ins C (ka f y fs))) := by
 obtain ⟨dx, xs, g1, g2, g3, g4, g5⟩ := w.mo p _ hp
 have np := jl hp
 have ks := xS w np (.ins C dx (jj f v xs)) (.ins C (ka f y fs))
 have kp := Xq (f := f) rv g2
 refine ⟨dx, xs, g1, B6 g2, ks, Vg w np (fun _ z => nomatch z) (show qG _ _ _ p (.ins C (ka f y fs)) from ⟨dx, _, ze, ⟨kp.1, kp.2.ext ks⟩, g3, (ks.prv dx g3 g4).2.2, ?_⟩)⟩
 rw [(ks.prv dx g3 g4).1]; exact g5
noncomputable def EJ (K : PySem.W.Frag) (a : AE) (f : Str) : AE := fun ρ M Q => a ρ M fun x M1 => ∃ p C fs v, x = .ref p /\ M1 p = some (.ins C fs) /\ Cls K C /\ jb K C f /\ fs.lookup f = some v /\ Q v M1
theorem WL {K : PySem.W.Frag} {t : TE} {a : AE} {f : Str} (h : zG t a) : zG (Bu K t f) (EJ K a f) := ⟨fun w e q k => h.go w e q fun x M1 v H1 O1 q1 k1 w1 r1 => by
 obtain ⟨p, C, fs, y, rfl, hp, c, n, hl, q2⟩ := q1
 obtain ⟨dx, xs, h1, h2, _⟩ := w1.mo p _ hp
 rcases xW h2 f with ⟨_, z⟩ | ⟨u, z, h3, h4, h5⟩
 ·rw [z] at hl; cases hl
 ·rw [hl] at h4; cases h4
  exact ⟨p, C, dx, xs, u, r1.1, h1, c, n, h3, k _ _ _ _ _ q2 k1 w1 h5⟩⟩
noncomputable def Va (K : PySem.W.Frag) (a b : AE) (f : Str) : AS := fun _ D ρ M => b ρ M fun y M1 => a ρ M1 fun x M2 => ∃ p C fs, x = .ref p /\ M2 p = some (.ins C fs) /\ Cls K C /\ jb K C f /\ fs.length < 1000 /\ D.nx ρ (mup M2 p (.ins C (ka f y fs)))
theorem X0 {K : PySem.W.Frag} {t u : TE} {a b : AE} {f : Str} (h1 : zG t a) (h2 : zG u b) : je (WO K t u f) (Va K a b f) := ⟨fun _ w e x q E => h2.go w e q fun y M1 v H1 O1 q1 k1 w1 r1 => h1.go w1 (e.ext k1) q1 fun z M2 v2 H2 O2 q2 k2 w2 r2 => by
 obtain ⟨p, C, fs, rfl, hp, c, n, hl, q3⟩ := q2
 obtain ⟨dx, xs, g1, g2, ks, w3⟩ := Jt w2 hp f (r1.ext k2)
 exact ⟨p, C, dx, xs, r2.1, g1, c, n, by rw [g2]; exact hl, E.nx _ _ _ _ _ w3 ((e.ext k1).ext (k2.trans ks)) ((x.trans k1).trans (k2.trans ks)) q3⟩⟩
noncomputable def Be (C : Addr) (m : Str) (sp : ASp) (a : AE) (b : AA) : AE := fun ρ M Q => a ρ M fun x M1 => ∃ p fs, x = .ref p /\ M1 p = some (.ins C fs) /\ fs.lookup m = none /\ b ρ M1 fun xs M2 => sp (.ref p :: xs) M2 Q
theorem vT {H : Hp} {O : Own} {M : MH} {v : V} {x : AV} {vs : List V} {xs : List AV} (r : zt H O M v x) (rs : zl H O M vs xs) : zl H O M (v :: vs) (x :: xs) := ⟨by rw [List.length_cons, List.length_cons, rs.1], fun i a b e1 e2 => by
 cases i with
 | zero => cases e1; cases e2; exact r
 | succ i => exact rs.2 i a b e1 e2⟩
theorem Yu {C : Addr} {m : Str} {sp : ASp} {t : TE} {u : TA} {a : AE} {b : AA} (h1 : zG t a) (h2 : ju u b) : zG (vc C m (cSp sp) [] E0 t u) (Be C m sp a b) := ⟨fun w e q k => h1.go w e q fun x M1 v H1 O1 q1 k1 w1 r1 => by
 obtain ⟨p, fs, rfl, hp, hl, q2⟩ := q1
 obtain ⟨dx, xs, g1, g2, _⟩ := w1.mo p _ hp
 have hn : xs.lookup m = none := by
  rcases xW g2 m with z | ⟨_, _, _, z, _⟩
  ·exact z.1
  ·rw [hl] at z; cases z
 refine ⟨p, dx, xs, r1.1, g1, hn, h2.go w1 (e.ext k1) q2 fun ys M2 vs H2 O2 q3 k2 w2 r2 => ?_⟩
 have rp : zt H2 O2 M2 v (.ref p) := r1.ext k2
 exact ⟨.ref p :: ys, M2, O2, _, w2, by rw [List.append_nil]; exact vT rp r2, q3, fun z M3 v3 H3 O3 q4 k3 w3 r3 => k z M3 v3 H3 O3 q4 ((k1.trans k2).trans k3) w3 r3⟩⟩
section
variable {HX : Hp} {OX : Own} {MX : MH} {E : St -> XK} {EA : ASt -> AXK} {sp : ye} {te : TE} {ae : AE} {ta : TA} {aa : AA} {C : Addr} {m : Str}
noncomputable def yl (C : Addr) (m : Str) (sp : ye) (EA : ASt -> AXK) (a : AE) (b : AA) : AE := fun ρ M Q => a ρ M fun x M1 => ∃ p fs, x = .ref p /\ M1 p = some (.ins C fs) /\ fs.lookup m = none /\ b ρ M1 fun xs M2 => sp (.ref p :: xs) M2 Q (EA ρ)
theorem yc (hE : EXs HX OX MX E EA) (ho : zG te ae) (hu : ju ta aa) {σ : St} {H : Hp} {O : Own} {ρ : ASt} {M : MH} {Q : VK} {Q' : AK} (kx : Ext HX OX MX H O M) (w : Wf H O M) (e : Er H O M σ ρ) (q : yl C m sp EA ae aa ρ M Q') (k : ∀ x M' v H' O', Q' x M' -> Ext H O M H' O' M' -> Wf H' O' M' -> zt H' O' M' v x -> Q v H') : yN C m (jI sp) E te ta σ H Q :=
 ho.go w e q fun x M1 v H1 O1 q1 k1 w1 r1 => by
  obtain ⟨p, fs, rfl, hp, hl, q2⟩ := q1
  obtain ⟨dx, xs, g1, g2, _⟩ := w1.mo p _ hp
  have hn : xs.lookup m = none := by
   rcases xW g2 m with z | ⟨_, _, _, z, _⟩
   ·exact z.1
   ·rw [hl] at z; cases z
  refine ⟨p, dx, xs, r1.1, g1, hn, hu.go w1 (e.ext k1) q2 fun ys M2 vs H2 O2 q3 k2 w2 r2 => ?_⟩
  have rp : zt H2 O2 M2 v (.ref p) := r1.ext k2
  exact ⟨.ref p :: ys, M2, O2, Q', EA ρ, w2, vT rp r2, q3, fun x M3 v3 H3 O3 q4 k3 w3 r3 => k x M3 v3 H3 O3 q4 ((k1.trans k2).trans k3) w3 r3, fun C fs M' H' O' d q4 k3 w3 xd => hE.go σ ρ C fs M' H' O' d q4 (((kx.trans k1).trans k2).trans k3) w3 (e.ext ((k1.trans k2).trans k3)) xd⟩
theorem Z6 (hE : EXs HX OX MX E EA) (ho : zG te ae) (hu : ju ta aa) : kE HX OX MX (QD (yN C m (jI sp) E te ta)) (Vi (yl C m sp EA ae aa)) :=
 ⟨fun kx _ w e x q D => yc hE ho hu (kx.trans x) w e q fun y M1 v H1 O1 q1 k1 w1 r1 => D.nx _ _ _ _ _ w1 (e.ext k1) (x.trans k1) q1⟩
theorem J7 {K : PySem.W.Frag} {f : Str} {to : TE} {ao : AE} (hE : EXs HX OX MX E EA) (ho : zG te ae) (hu : ju ta aa) (h1 : zG to ao) : kE HX OX MX (WO K to (yN C m (jI sp) E te ta) f) (Va K ao (yl C m sp EA ae aa) f) :=
 ⟨fun kx _ w e x q D => yc hE ho hu (kx.trans x) w e q fun y M1 v H1 O1 q1 k1 w1 r1 => h1.go w1 (e.ext k1) q1 fun z M2 v2 H2 O2 q2 k2 w2 r2 => by
  obtain ⟨p, C, fs, rfl, hp, c, n, hl, q3⟩ := q2
  obtain ⟨dx, xs, g1, g2, ks, w3⟩ := Jt w2 hp f (r1.ext k2)
  exact ⟨p, C, dx, xs, r2.1, g1, c, n, by rw [g2]; exact hl, D.nx _ _ _ _ _ w3 ((e.ext k1).ext (k2.trans ks)) ((x.trans k1).trans (k2.trans ks)) q3⟩⟩
theorem Ke {g : TG} {ag : AG} (hE : EXs HX OX MX E EA) (ho : zG te ae) (hu : ju ta aa) (hg : yS g ag) : kE HX OX MX (JM (yN C m (jI sp) E te ta) g) (B1 (yl C m sp EA ae aa) ag) :=
 ⟨fun kx _ w e x q D => yc hE ho hu (kx.trans x) w e q fun y M1 v H1 O1 q1 k1 w1 r1 => hg.go w1 (e.ext k1) r1 q1 fun σ2 H2 O2 ρ2 M2 q2 k2 w2 e2 => D.nx _ _ _ _ _ w2 e2 ((x.trans k1).trans k2) q2⟩
noncomputable def KI : AV -> Option V
 | .d (.int i) => some (.int i)
 | .d (.str s) => some (.str s)
 | .d .non => some .non
 | .d (.bl b) => some (.bl b)
 | _ => none
theorem KW {H : Hp} {O : Own} {M : MH} {v u : V} {x : AV} (r : zt H O M v x) (h : KI x = some u) : v = u := by
 cases x with
 | ref a => cases h
 | d d =>
  have r : Rep H O v d := r
  cases d <;> first | (cases h; first | exact zF r | exact xQ r | exact kX r | exact jO r) | cases h
theorem JJ {H : Hp} {O : Own} {M : MH} {vs us : List V} {xs : List AV} (r : zl H O M vs xs) (h : xs.map KI = us.map some) : vs = us := by
 have ll : xs.length = us.length := by simpa using congrArg List.length h
 refine List.ext_getElem (r.1.trans ll) fun i h1 h2 => ?_
 have hi : i < xs.length := by rw [<- r.1]; exact h1
 have e : KI xs[i] = some us[i] := by
  have := congrArg (fun z : List (Option V) => z[i]?) h
  simpa [List.getElem?_map, List.getElem?_eq_getElem hi, List.getElem?_eq_getElem h2] using this
 exact KW (r.2 i vs[i] xs[i] (List.getElem?_eq_getElem h1) (List.getElem?_eq_getElem hi)) e
noncomputable def Je (C : Addr) (n : Nat) (fn : List V -> List (Str × V)) (EA : ASt -> AXK) (b : AA) : AS := fun _ _ ρ M => b ρ M fun xs M1 => ∃ vs, xs.map KI = vs.map some /\ vs.length = n /\ n <= 1000 /\ EA ρ C (fn vs) M1
theorem wM {n : Nat} {fn : List V -> List (Str × V)} (hE : EXs HX OX MX E EA) (hu : ju ta aa) : kE HX OX MX (Jj C n fn E ta) (Je C n fn EA aa) :=
 ⟨fun kx _ w e x q D => hu.go w e q fun xs M1 vs H1 O1 q1 k1 w1 r1 => by
  obtain ⟨us, h1, h2, h3, h4⟩ := q1
  obtain rfl := JJ r1 h1
  refine ⟨h2, h3, fun dx hd => ?_⟩
  have k2 := qR w1 hd (.xd (fn vs))
  exact hE.go _ _ C (fn vs) M1 _ (kT O1 dx) (some dx) h4 (((kx.trans x).trans k1).trans k2) (xu w1 hd _ (fun _ z => nomatch z)) (e.ext (k1.trans k2)) (.inr ⟨dx, rfl, ze, .inl rfl, (w1.fresh hd).2⟩)⟩
end
noncomputable def QM : V -> Option Dat
 | .int i => some (.int i)
 | .str s => some (.str s)
 | .non => some .non
 | .bl b => some (.bl b)
 | _ => none
theorem vD {H : Hp} {O : Own} {v : V} {d : Dat} (h : QM v = some d) : Rep H O v d := by
 cases v <;> first | (cases h; constructor) | cases h
noncomputable def Bc (K : PySem.W.Frag) (a : AE) (f : Str) : AE := fun ρ M Q => a ρ M fun x M1 => ∃ p C fs v d, x = .ref p /\ M1 p = some (.exc C fs) /\ Kj K C /\ hasDictIn K C = true /\ findIn K (.ref C) f = some none /\ fs.lookup f = some v /\ QM v = some d /\ Q (.d d) M1
theorem Xm {K : PySem.W.Frag} {t : TE} {a : AE} {f : Str} (h : zG t a) : zG (Ay K t f) (Bc K a f) := ⟨fun w e q k => h.go w e q fun x M1 v H1 O1 q1 k1 w1 r1 => by
 obtain ⟨p, C, fs, y, d, rfl, hp, c, hh, hn, hl, hd, q2⟩ := q1
 obtain ⟨dd, h1, h2⟩ := w1.mo p _ hp
 rcases h2 with ⟨_, z⟩ | ⟨dx, e1, h2, _⟩
 ·rw [z] at hl; cases hl
 ·subst e1
  exact ⟨p, C, dx, fs, y, r1.1, h1, h2, c, hh, hn, hl, k _ _ _ _ _ q2 k1 w1 (show Rep _ _ _ _ from vD hd)⟩⟩
end L2
set_option Elab.async false
set_option linter.all false
set_option maxRecDepth 100000
set_option maxHeartbeats 4000000
namespace L2
open PySem PySem.Spec PyProof.Rows
theorem dmA {P : Program} {w : World} {K : PySem.W.Frag} {mg : Str -> Option Value} {base : Heap} {C : Addr} {m qual : Str} {st : Stmt} {N ps : List Str} {k : Nat} {a : ASp} (at_ : AtM K C m qual st) (S : zy N ps (zi st))
  (hb : ∀ (kV doc pm : Value) (an : Option Addr) (cdv ct : Value) (us : List Value), us.length = ps.length -> bindArgs (PySem.W.fnOf m qual (qt st) (zO st) (zi st) .none kV doc pm an cdv ct) ⟨us, []⟩ = pure (ps.zip us))
  (len : ∀ xs M Q, a xs M Q -> xs.length = ps.length)
  (hbody : ∀ (f : Addr) (cdv : Value) (A : Around) (outer : List Env) (s : Shared) (H : Hp) (E : XK), qg k (A.deeper (envOfC qual (zi st) s.heap.objs.size f cdv)) ->
   ∃ t, PSs (j9 CX0 P w K mg base N qual (zi st) f cdv A outer s H E).nox (zO st) t /\ ∃ b, je t b /\ ∀ xs M Q, a xs M Q -> b M { nx := fun _ M' => rtA M Q (.d .non) M', rt := rtA M Q } (zU N xs) M) : Dm P w K mg base C m ps (k + 1) (cSp a) := by
 refine EE at_ S hb (fun vs H Q E h => ?_) (fun f cdv A outer s H vs Q E hr h => ?_)
 ·obtain ⟨xs, M, O, Q', w, r, q, _⟩ := h
  rw [r.1]; exact len xs M Q' q
 ·obtain ⟨t, ht, b, hb, hq⟩ := hbody f cdv A outer s H E hr
  refine ⟨t, ht, ?_⟩
  obtain ⟨xs, M, O, Q', w, r, q, kk⟩ := h
  refine hb.go w w (yw r N) .refl (hq xs M Q' q) ⟨fun σ H' O' ρ M' w' e' x' q' => ?_, fun v y H' O' M' w' x' r' q' => ?_, fun _ _ _ _ _ _ _ _ z => z.elim, fun _ _ _ _ _ _ _ _ z => z.elim⟩
  ·obtain ⟨y', M'', f, q2⟩ := q'
   obtain ⟨O'', w2, k2, r2⟩ := xb w w' x' (show zt H' O' M' .non (.d .non) from .non) f
   exact kk _ _ _ _ _ q2 k2 w2 r2
  ·obtain ⟨y', M'', f, q2⟩ := q'
   obtain ⟨O'', w2, k2, r2⟩ := xb w w' x' r' f
   exact kk _ _ _ _ _ q2 k2 w2 r2
theorem Ki {P : Program} {w : World} {K : PySem.W.Frag} {mg : Str -> Option Value} {base : Heap} {C : Addr} {m qual : Str} {st : Stmt} {N ps : List Str} {k : Nat} {a : ye} (at_ : AtM K C m qual st) (S : zy N ps (zi st))
    (hb : ∀ (kV doc pm : Value) (an : Option Addr) (cdv ct : Value) (us : List Value), us.length = ps.length -> bindArgs (PySem.W.fnOf m qual (qt st) (zO st) (zi st) .none kV doc pm an cdv ct) ⟨us, []⟩ = pure (ps.zip us))
    (len : ∀ xs M Q E, a xs M Q E -> xs.length = ps.length)
    (hbody : ∀ (f : Addr) (cdv : Value) (A : Around) (outer : List Env) (s : Shared) (H : Hp) (HX : Hp) (OX : Own) (MX : MH) (E' : AXK), qg k (A.deeper (envOfC qual (zi st) s.heap.objs.size f cdv)) ->
      DX (j9 (CX1 P w) P w K mg base N qual (zi st) f cdv A outer s H (cE HX OX MX E')) (cE HX OX MX E') ->
      ∃ t, PSs (j9 (CX1 P w) P w K mg base N qual (zi st) f cdv A outer s H (cE HX OX MX E')) (zO st) t /\ ∃ b, kE HX OX MX t b /\ ∀ xs Q E0, E' = exA MX E0 -> a xs MX Q E0 -> b MX { nx := fun _ M' => rtA MX Q (.d .non) M', rt := rtA MX Q } (zU N xs) MX) : DmX P w K mg base C m ps (k + 1) (jI a) := by
  refine Ez at_ S hb (fun vs H Q E h => ?_) (fun f cdv A outer s H vs Q E hr h => ?_)
  · obtain ⟨xs, M, O, Q', E', w, r, q, _⟩ := h
    rw [r.1]; exact len xs M Q' E' q
  · obtain ⟨xs, M, O, Q', E', w0, r, q, kk, ke⟩ := h
    obtain ⟨t, ht, b, hb, hq⟩ := hbody f cdv A outer s H H O M (exA M E') hr ⟨rfl, rfl, rfl, rfl⟩
    refine ⟨t, fun D => ?_, ?_⟩
    · have ce : ∀ c d H', cE H O M (exA M E') c d H' -> E c d H' := fun c d H' ⟨C, fs, M', O', e1, ⟨M'', f, q2⟩, k1, w1, xd⟩ => by
        subst e1
        obtain ⟨O'', w2, k2, -, ko⟩ := QC w0 w1 k1 (show zt H' O' M' .non (.d .non) from .non) f
        refine ke C fs M'' H' O'' d q2 k2 w2 ?_
        rcases xd with xd | ⟨dx, e1, h1, h2, h3⟩
        · exact .inl xd
        · exact .inr ⟨dx, e1, h1, (ko dx h2 h3).1, (ko dx h2 h3).2⟩
      refine PSs.wish' (fun e s' z => ?_) ht
      exact wpAny_mono z (fun _ s'' y => y.imp ce) fun e' s'' y => y.imp ce
    · refine hb.go .refl w0 w0 (yw r N) .refl (hq xs Q' E' rfl q) ⟨fun σ H' O' ρ M' w' e' x' q' => ?_, fun v y H' O' M' w' x' r' q' => ?_, fun _ _ _ _ _ _ _ _ z => z.elim, fun _ _ _ _ _ _ _ _ z => z.elim⟩
      · obtain ⟨y', M'', f, q2⟩ := q'
        obtain ⟨O'', w2, k2, r2⟩ := xb w0 w' x' (show zt H' O' M' .non (.d .non) from .non) f
        exact kk _ _ _ _ _ q2 k2 w2 r2
      · obtain ⟨y', M'', f, q2⟩ := q'
        obtain ⟨O'', w2, k2, r2⟩ := xb w0 w' x' r' f
        exact kk _ _ _ _ _ q2 k2 w2 r2
noncomputable def A8 (C : Addr) (sp : ASp) (b : AA) : AE := fun ρ M Q => b ρ M fun xs M1 => ∀ p, M1 p = none -> sp (.ref p :: xs) (mup M1 p (.ins C [])) fun v M2 => v = .d .non /\ Q (.ref p) M2
theorem XI {C : Addr} {sp : ASp} {u : TA} {b : AA} (h : ju u b) : zG (QQ C (cSp sp) [] E0 u) (A8 C sp b) := ⟨fun w e q k => h.go w e q fun ys M1 vs H1 O1 q1 k1 w1 r1 => by
 intro x dx hx hd hne
 have k2 := qR w1 hd (.own x)
 have w2 := xu w1 hd (.own x) (fun _ z => nomatch z)
 have hx2 : upd H1 dx (.own x) x = none := by rw [zg (Ne.symm hne)]; exact hx
 have k3 := vO w2 hx2 (.ins C dx []) (.ins C [])
 have w3 : Wf (upd (upd H1 dx (.own x)) x (.ins C dx [])) (kT (kT O1 dx) x) (mup M1 x (.ins C [])) := Yi w2 hx2 (fun _ z => nomatch z) (show qG _ _ _ x (.ins C []) from ⟨dx, [], ze, ⟨rfl, rfl, fun i a b e1 _ => nomatch e1⟩, .inr (.inl rfl), by rw [zr hne]; exact (w1.fresh hd).2, by rw [zg hne, ze]⟩)
 have mx : mup M1 x (.ins C []) x ≠ none := by rw [zp]; exact fun z => nomatch z
 refine ⟨.ref x :: ys, mup M1 x (.ins C []), _, _, w3, ?_, q1 x (w1.fresh hx).2, fun z M4 v4 H4 O4 q4 k4 w4 r4 => ?_⟩
 ·rw [List.append_nil]; exact vT ⟨rfl, mx⟩ (r1.ext (k2.trans k3))
 ·obtain ⟨rfl, q5⟩ := q4
  exact ⟨kX r4, k _ _ _ _ _ q5 (((k1.trans k2).trans k3).trans k4) w4 ⟨rfl, k4.mst x mx⟩⟩⟩
end L2
set_option Elab.async false
set_option linter.all false
set_option maxRecDepth 100000
set_option maxHeartbeats 4000000
namespace L2
open PySem PySem.Spec PyProof.Rows
noncomputable def A5 (kvs : List (Key × V)) (a : AE) : AE := fun ρ M Q => a ρ M fun x M1 => ∃ s d, x = .d (.str s) /\ QM ((ym kvs (Sum.inr s)).getD .non) = some d /\ Q (.d d) M1
theorem K0 {kvs : List (Key × V)} {t : TE} {a : AE} (h : zG t a) : zG (XX kvs t) (A5 kvs a) := ⟨fun w e q k => h.go w e q fun x M1 v H1 O1 q1 k1 w1 r1 => by
 obtain ⟨s, d, rfl, hd, q2⟩ := q1
 exact ⟨Sum.inr s, xQ r1, k _ _ _ _ _ q2 k1 w1 (show Rep _ _ _ _ from vD hd)⟩⟩
end L2
set_option Elab.async false
set_option linter.all false
set_option maxRecDepth 100000
set_option maxHeartbeats 4000000
namespace Ot
open PySem PySem.Spec PyProof.Rows L2
noncomputable def top (i : Nat) : Stmt := PySem.Challenge.pw_ownturn_k09_deeds_refused.main.body.getD i (.Pass ⟨0, 0, 0, 0⟩)
section
variable {P : Program} {w : World} {K : PySem.W.Frag} {mg : Str -> Option Value} {base : Heap} {k : Nat}
local macro_rules | `(tactic| walk_at "rd") => `(tactic| try simp only [XW, v6, WE, QB, tOp, tUn, rU, VH, tC, tB, Yd, Fe, Jr, rI0, rI, JM, wG, Wk, QD, Xf, Wd, X7, Bg, Bo, tCB, YK, XE, AM, Q0, A9, Qw, Vy, VT, rEq, FA, D1, BD, tBM, wg, Q8, JK, Z8, Ff, vc, QQ, Bu, WO, XX, Vp, ipI, JG, Kg, tIf, tOr, EB, DI, Vs, EH, XO, QZ, Yj, cxK, Yk, iLT, AX, tSl, X4, wn, Fh, List.append_nil,
 List.getElem?_cons_zero, List.getElem?_cons_succ, Option.some.injEq, exists_eq_left', exists_eq_left, V.int.injEq, V.ref.injEq, V.bl.injEq, List.cons.injEq, and_true, true_and, and_assoc, decide_eq_true_eq, Bool.not_eq_true', decide_eq_false_iff_not, Bool.false_eq_true, if_false, if_true, reduceIte, exists_and_left, exists_and_right, List.set_cons_zero, List.set_cons_succ, List.nil_append, List.cons_append])
theorem jY {H : Hp} {a b : Addr} {o : HO} (h' : H b = none) (h : H a = some o) : a ≠ b := zk h h'
theorem Zg {H H' : Hp} {l : Addr} (h : H' l = none) (e : Kp [] H H') : H l = none := e.free h
theorem ZH {K : PySem.W.Frag} {H H' : Hp} {a : Addr} {xs : List V} (h : SqL K H a xs) (e : Kp [] H H') : SqL K H' a xs := by
 rcases h with (h | ⟨o, h⟩) | h
 ·exact .inl (.inl (e _ _ (by simp) h))
 ·exact .inl (.inr ⟨o, e _ _ (by simp) h⟩)
 ·exact .inr h
theorem hsl : 100000 < sizeLine := by rw [sizeLine_eq]; decide
theorem V1 {α : Type} (k : Nat) (v : α) : (List.replicate k [v]).flatten = List.replicate k v := by simp
theorem jF (i : Int) {j : Int} (h : 0 < j) : 0 <= i % j /\ i % j < j := ⟨Int.emod_nonneg _ (by omega), Int.emod_lt_of_pos _ h⟩
theorem Bi {i j : Int} (h1 : 0 <= i) (h2 : i < 18446744073709551616) : YF i j := .inl ⟨by omega, by omega⟩
theorem Ve {i j : Int} (h1 : 0 <= j) (h2 : j < 18446744073709551616) : YF i j := .inr ⟨by omega, by omega⟩
theorem b01 (c : Prop) [Decidable c] : 0 <= (if c then (1 : Int) else 0) := by split <;> decide
theorem V5 {i j : Int} (h1 : 0 < j) (h2 : j < 1073741824) : D7 i j := ⟨h1, h2⟩
local macro_rules | `(tactic| walk_at "ne") => `(tactic| first | (with_reducible assumption) | exact Ne.symm (by with_reducible assumption) | exact jY (by with_reducible assumption) (by walk_at "hp") | exact Ne.symm (jY (by with_reducible assumption) (by walk_at "hp")))
local macro_rules | `(tactic| walk_at "hp") => `(tactic| first | (with_reducible assumption) | (with_reducible exact ze) | ((with_reducible refine Eq.trans (zg ?ne) ?_); (case ne => walk_at "ne"); walk_at "hp"))
local macro_rules | `(tactic| walk_at "kp") => `(tactic| first | (with_reducible assumption) | (with_reducible exact Kp.refl) | ((with_reducible refine Kp.trans ?_ (Kp.new _ ?h)); (case h => with_reducible assumption); walk_at "kp") | ((with_reducible refine Kp.trans ?_ (Kp.set _ ?h)); (case h => (simp; done)); walk_at "kp"))
local macro_rules | `(tactic| walk_at "fr") => `(tactic| first | (with_reducible assumption) | exact Zg (by with_reducible assumption) (by walk_at "kp"))
local macro_rules | `(tactic| walk_at "sz") => `(tactic| (simp only [List.length_cons, List.length_nil, List.length_map, List.length_append, List.length_replicate, List.length_take, List.length_drop, jP, V1, Nat.zero_add, Nat.one_mul]; omega))
local macro_rules | `(tactic| walk_at "fact") => `(tactic| first | (with_reducible assumption) | exact rfl | exact SqL.of (by walk_at "hp") | exact SqT.of (by walk_at "hp") | exact Or.inl (SqL.of (by walk_at "hp")) | exact Or.inr (SqT.of (by walk_at "hp")) | exact Or.inl (by with_reducible assumption) | exact ZH (by with_reducible assumption) (by walk_at "kp") | exact Or.inl (ZH (by with_reducible assumption) (by walk_at "kp")) | exact Exists.intro _ (SqL.of (by walk_at "hp")) | exact Exists.intro _ (ZH (by with_reducible assumption) (by walk_at "kp")) | (walk_at "hp") | decide | omega | exact Bi (by omega) (by omega) | exact Ve (by omega) (by omega) | exact V5 (by omega) (by omega) | exact ⟨by omega, by omega⟩ | (walk_at "sz") | exact ⟨by decide, by decide, by decide⟩ | exact Ve (b01 _) (b01' _) | (walk_at "fr"))
local macro_rules | `(tactic| walk_at "x1") => `(tactic| first
 | ((with_reducible refine Exists.intro ?w (And.intro ?h ?_)); (case h => walk_at "fact"))
 | ((with_reducible refine And.intro ?h ?_); (case h => walk_at "fact"))
 | ((with_reducible refine Exists.intro ?w (Exists.intro ?w2 (And.intro ?h ?_))); (case h => walk_at "fact")))
local macro_rules | `(tactic| walk_at "xs") => `(tactic| repeat walk_at "x1")
local macro_rules | `(tactic| walk_at "sim1") => `(tactic| first
 | (with_reducible apply YU) | (with_reducible apply K9) | (with_reducible apply wM) | (with_reducible apply Z6) | (with_reducible apply J7) | (with_reducible apply Ke) | (with_reducible apply X0) | (with_reducible apply WL) | (with_reducible apply Xm) | (with_reducible apply Yu) | (with_reducible apply XI) | (with_reducible apply K0) | (with_reducible apply VY) | with_reducible exact WT | (with_reducible apply Wl)
 | ((with_reducible apply Wv); intro HX_ OX_ MX_ E_ EA_ hE_) | ((with_reducible apply sim_try0); intro HX_ OX_ MX_ E_ EA_ hE_) | (with_reducible assumption)
 | (with_reducible apply Xw) | with_reducible exact WD | with_reducible exact EC | with_reducible exact Ep | with_reducible exact Ex | with_reducible exact Bh | with_reducible exact B7 | with_reducible exact WC | with_reducible exact Xa | with_reducible exact JY | with_reducible exact Vl | with_reducible exact VO
 | with_reducible exact Vu | with_reducible exact WK | with_reducible exact DA | with_reducible exact VR | with_reducible exact Xo | with_reducible exact Xg | with_reducible exact WR
 | with_reducible exact VF | with_reducible exact Xv | with_reducible exact BY | with_reducible exact Ek | with_reducible exact WM | with_reducible exact YI | with_reducible exact Wo
 | with_reducible exact Bv | with_reducible exact KZ | with_reducible exact Kx | with_reducible exact VW | with_reducible exact Xr | with_reducible exact Wu | with_reducible exact X3
 | with_reducible exact wF | with_reducible exact wY
 | with_reducible exact vf
 | (with_reducible apply Ad) | (with_reducible apply WQ) | (with_reducible apply WJ) | (with_reducible apply Ag) | (with_reducible apply Yz) | (with_reducible apply Vw) | (with_reducible apply Wi) | (with_reducible apply Vh) | (with_reducible apply KG) | (with_reducible apply KU)
 | (with_reducible apply J2) | (with_reducible apply YS) | (with_reducible apply KS) | (with_reducible apply EQ) | (with_reducible apply Vz) | (with_reducible apply BA) | (with_reducible apply W6) | (with_reducible apply DZ) | (with_reducible apply WG)
 | (with_reducible apply W8) | (with_reducible apply YN) | (with_reducible apply VU) | (with_reducible apply DR) | (with_reducible apply JT) | (with_reducible apply YA)
 | (with_reducible apply YM) | (with_reducible apply Af) | (with_reducible apply BC) | (with_reducible apply Zt) | (with_reducible apply Yp) | (with_reducible apply wj)
 | (with_reducible apply QI) | (with_reducible apply JC) | (with_reducible apply VA) | (with_reducible apply XG) | (with_reducible apply XF) | (with_reducible apply BE) | (with_reducible apply Ko) | (with_reducible apply DT)
 | (with_reducible apply xT))
local macro_rules | `(tactic| walk_at "sim") => `(tactic| repeat' walk_at "sim1")
local macro_rules | `(tactic| walk_at "ra") => `(tactic| try simp only [EJ, Va, Be, yl, Je, Bc, A8, A5, ka, ER, AU, FD, ZC, aC, aOp, aUn, Bz, QX, aCB, Xy, aFz, aOw, Fq, EY, aB, wo, E2, aOr, Fa, AZ, aIf, X6, Vk, v0, Vi, Eb, Dk, yF, Yb, vZ, Xd, Au, asL, B1, Fd, Ax, AL, E7, aiS, Ft, EL, vo, Q3, aI, aI0, aU, D5, aIx, fOp, Br, DK, Fg, An, Fp, EK, aIn, EV, bI2, Av, X8, fCB, FE, AN, EU, Bd, Y4, WA, El, Xp, DQ, DF, DH, EW, E3, Fl, E8, Fo, EN, Ye, J3, Option.map_some, Dv, BJ, By, BI, BH, BZ, D0, Dg, Di, Dx, DG, Bs, Bf, DS, Dw, Et, Eu, BM, BN, DB, B5, BX, Bl, DL, BU, DE, Dz, Ei, B3, Dq, D8, BF, D6, Dn, EF, DW, Wn, Kq, qk, jz, VL, K8, Az, EG, En, DJ, Wb, Wq, V3, W1, VM, WV, WX, yz, FH, qD, DY, Bt, wf, qB, Ds, Xj, B4, BO, D9, DC, DN, id, decide_true, decide_false, Bool.decide_eq_true, not_true_eq_false, not_false_eq_true, Jp,
 List.getElem?_cons_zero, List.getElem?_cons_succ, Option.some.injEq, exists_eq_left', exists_eq_left, AV.d.injEq, AV.ref.injEq, Dat.int.injEq, Dat.bl.injEq, Dat.str.injEq, Dat.lst.injEq, Dat.tup.injEq, Dat.ty.injEq, List.cons.injEq, and_true, true_and, and_assoc, decide_eq_true_eq, Bool.not_eq_true', decide_eq_false_iff_not, Bool.false_eq_true, if_false, if_true, reduceIte, exists_and_left, exists_and_right, List.set_cons_zero, List.set_cons_succ, List.nil_append, List.cons_append, List.length_map, List.map_cons, List.map_nil, Nat.zero_le, Bool.not_true, Bool.not_false, Bool.true_eq_false, eq_self, List.length_cons, List.length_nil])
theorem wU (ns : List Int) (lo hi : Option Int) : yQ (ns.map V.int) lo hi = List.map V.int ((ns.drop (HT.sIx ns.length 0 lo)).take (HT.sIx ns.length ns.length hi - HT.sIx ns.length 0 lo)) := by
 unfold yQ
 rw [List.length_map, <- List.map_drop, <- List.map_take]
theorem vI (cs : List Int) (j : Nat) (v : Int) : (cs.map V.int).set j (.int v) = (cs.set j v).map V.int := by rw [List.map_set]
theorem xD {cs : List Int} {k : Int} (h0 : 0 <= k) (h1 : k < cs.length) : ixN (cs.map V.int).length k = some k.toNat /\ atI (cs.map V.int) k = some (.int (cs.getD k.toNat 0)) := by
 have hk : k.toNat < cs.length := by omega
 have e1 : ixN (cs.map V.int).length k = some k.toNat := by unfold ixN; rw [List.length_map, if_pos h0, if_pos h1]
 refine ⟨e1, ?_⟩
 unfold atI
 rw [e1]
 show (cs.map V.int)[k.toNat]? = _
 rw [List.getElem?_map, List.getD_eq_getElem?_getD, List.getElem?_eq_getElem hk]; rfl
theorem v9 {ns : List Int} {i : Nat} {x : V} (h : (ns.map V.int)[i]? = some x) : x = .int (ns.getD i 0) /\ i < ns.length := by
 rw [List.getElem?_map] at h
 cases e : ns[i]? with
 | none => rw [e] at h; cases h
 | some v =>
  rw [e] at h
  cases h
  exact ⟨by rw [List.getD_eq_getElem?_getD, e]; rfl, (List.getElem?_eq_some_iff.mp e).1⟩
theorem Kp.un {bs : List Addr} {p : Addr} {H H' : Hp} (h : Kp (p :: bs) H H') (hp : H p = none) : Kp bs H H' := fun c o n e => h c o (by
 intro z
 rcases List.mem_cons.mp z with z | z
 ·subst z; rw [hp] at e; cases e
 ·exact n z) e
noncomputable abbrev Qt : Stmt := top 17
theorem Jk : zy ["_law_box_here", "_law_many", "_law_once", "_law_found"] ["_law_box_here", "_law_many"] (zi Qt) := ⟨rfl, rfl, rfl, by decide +kernel, rfl, by decide +kernel, by decide +kernel⟩
noncomputable def we : Sp := fun vs H Q _ => ∃ (b : Addr) (many : Int) (N : Nat), vs = [.ref b, .int many] /\ Bx H b N /\ N < 1000000000 /\ 0 < many /\ many < 1073741824 /\ ∀ r H', Kp [b] H H' -> Bx H' b (N + 1) -> 0 <= r -> r < many -> Q (.int r) H'
theorem W7 (a : At K mg "_law_take" Qt) (B : Blt mg) : Df P w K mg base "_law_take" ["_law_box_here", "_law_many"] 1 we := by
 refine xJ (k := 0) a Jk (fun _ _ _ _ _ _ us hl => match us, hl with | [_, _], _ => rfl) (fun vs H Q E h => ?_) (fun f cdv A outer s H vs Q E hr h => ?_)
 ·obtain ⟨b, m, N, rfl, _⟩ := h; rfl
 obtain ⟨b, m, N, rfl, ⟨x, y, z, hb, hx, hy, hy', hz, hz'⟩, hN, hm, hm', q⟩ := h
 have sc := Jk
 refine ⟨_, (zc (zI (zo Ak (zw zH (pv 0) zd (fun _ _ => rfl)) zd (zu _)) (zc (qA (zm wy rfl B.divmod Kl (za (zw zH (pv 0) zd (fun _ _ => rfl)) (za (pv 1) zb))) (jk (K := K) 2 rfl rfl (zT (qx (pv 0) zd zE) (zT (zQ (i := 3) sc.nd rfl (by first | exact Or.inl rfl | exact Or.inr rfl)) jn))))
  (zh (zD (pv 3)))) zx)
  (zc (qA (zz qv (zw zH (pv 0) zd (fun _ _ => rfl)) zd) (qx (pv 0) zd zE))
  (zc (zL (i := 2) sc.nd rfl (by first | exact Or.inl rfl | exact Or.inr rfl) (zz jo (zz jN (zz qv (zw zH (pv 0) zd (fun _ _ => rfl)) (zz jN zd (zw zH (pv 0) zd (fun _ _ => rfl)))) (zz qv zd (zw zH (pv 0) zd (fun _ _ => rfl)))) zd))
  (zc (qA (zz jo (zz qv (zz jN (pv 2) (zz qv (zz jo (pv 2) zd) zd)) (zw zH (pv 0) zd (fun _ _ => rfl))) zd) (qx (pv 0) zd zE))
  (zh (zD (zz jo (zz QA (zz jo (zz jN (zw zH (pv 0) zd (fun _ _ => rfl)) (zz qv (zz jo (zw zH (pv 0) zd (fun _ _ => rfl)) zd) zd)) zd) zd) (pv 1)))))))), ?_⟩
 rw [show qF ["_law_box_here", "_law_many", "_law_once", "_law_found"] [V.ref b, V.int m] = [some (.ref b), some (.int m), none, none] from rfl]
 walk_at "rd"
 walk_at "xs"
 refine Bj (fun c => ?_) (fun c => ?_)
 ·walk_at "xs"
  refine fun p hp => ?_
  walk_at "xs"
  refine q _ _ ((Kp.new _ hp).trans (Kp.set _ (by simp))) ⟨_, _, _, ze, Int.ediv_nonneg hx (by omega), hy, hy', hz, by omega⟩ (jF x hm).1 (jF x hm).2
 ·walk_at "xs"
  refine q _ _ ((Kp.set _ (by simp)).trans (Kp.set _ (by simp))) ⟨_, _, _, ze, hx, ?_, ?_, ?_, ?_⟩ (jF _ hm).1 (jF _ hm).2
  ·exact (jF _ (by decide)).1
  ·exact Int.lt_trans (jF _ (by decide)).2 (by decide)
  ·omega
  ·omega
noncomputable abbrev Vo : Stmt := top 16
theorem X1 : zy ["_law_script", "_law_k", "_law_cell"] ["_law_script", "_law_k"] (zi Vo) := ⟨rfl, rfl, rfl, by decide +kernel, rfl, by decide +kernel, by decide +kernel⟩
noncomputable def AQ : Sp := fun vs H Q _ => ∃ (a : Addr) (k : Int) (cs : List Int), vs = [.ref a, .int k] /\ H a = some (il cs) /\ 0 <= k /\ k <= 1000 /\ cs.length <= 1000 /\ ∀ p H', Kp [] H H' -> H p = none -> Bx H' p 0 -> Q (.ref p) H'
theorem WP {cs : List Int} {k : Int} (h0 : 0 <= k) : ∃ c : Int, atI (cs.map V.int ++ List.replicate (k + 1).toNat (V.int 0)) k = some (.int c) := by
 have e : cs.map V.int ++ List.replicate (k + 1).toNat (V.int 0) = (cs ++ List.replicate (k + 1).toNat 0).map V.int := by simp
 have ek : k = ((k.toNat : Nat) : Int) := by omega
 have hk : k.toNat < (cs ++ List.replicate (k + 1).toNat (0 : Int)).length := by rw [List.length_append, List.length_replicate]; omega
 refine ⟨(cs ++ List.replicate (k + 1).toNat 0)[k.toNat], ?_⟩
 rw [e]
 have q : atI ((cs ++ List.replicate (k + 1).toNat (0 : Int)).map V.int) ((k.toNat : Nat) : Int) = some (.int (cs ++ List.replicate (k + 1).toNat 0)[k.toNat]) := vU (by rw [List.getElem?_map, List.getElem?_eq_getElem hk] <;> rfl)
 rw [<- ek] at q
 exact q
theorem BP (a : At K mg "_law_box" Vo) (B : Blt mg) : Df P w K mg base "_law_box" ["_law_script", "_law_k"] 1 AQ := by
 refine xJ (k := 0) a X1 (fun _ _ _ _ _ _ us hl => match us, hl with | [_, _], _ => rfl) (fun vs H Q E h => ?_) (fun f cdv A outer s H vs Q E hr h => ?_)
 ·obtain ⟨a, k, cs, rfl, _⟩ := h; rfl
 obtain ⟨a, k, cs, rfl, ha, hk, hk', hcs, q⟩ := h
 have sc := X1
 have hsl := hsl
 refine ⟨_, (zc (zL (i := 2) sc.nd rfl (by first | exact Or.inl rfl | exact Or.inr rfl) (zw zH (zz ku (pv 0) (zz yI (zM (za zd zb)) (zz qv (pv 1) zd))) (pv 1) (fun _ _ => rfl)))
  (zh (zD (zM (za (zz jN (zm Zy rfl B.abs Ys (za (pv 2) zb)) (zR jZ rfl B.int kz (za (qU ET (zm Zy rfl B.abs Ys (za (pv 2) zb)) (zz Y1 zd zd) (zu _)) zb))) (za (zz jo (zz jN (zz qv (zz qv (zz jo (pv 2) zd) (zz jN zd (pv 1))) zd) zd) zd) (za zd zb))))))), ?_⟩
 rw [show qF ["_law_script", "_law_k", "_law_cell"] [V.ref a, V.int k] = [some (.ref a), some (.int k), none] from rfl]
 walk_at "rd"
 walk_at "xs"
 intro p1 hp1
 walk_at "xs"
 intro p2 hp2
 walk_at "xs"
 intro p3 hp3
 simp only [V1] at hp3 ⊢
 obtain ⟨c, hc⟩ := WP (cs := cs) hk
 walk_at "xs"
 intro p4 hp4
 refine q _ _ (by walk_at "kp") (by walk_at "fr") ⟨_, _, _, ze, ?_, ?_, ?_, ?_, ?_⟩
 ·exact Int.mul_nonneg (by split <;> omega) (b01 _)
 ·exact (jF _ (by decide)).1
 ·exact Int.lt_trans (jF _ (by decide)).2 (by decide)
 ·decide
 ·decide
noncomputable abbrev yr : Stmt := top 18
theorem vp : zy ["_law_script", "_law_many", "_law_cells", "_law_k", "_law_cell"] ["_law_script", "_law_many"] (zi yr) := ⟨rfl, rfl, rfl, by decide +kernel, rfl, by decide +kernel, by decide +kernel⟩
noncomputable def Zp (K : PySem.W.Frag) : Sp := fun vs H Q _ => ∃ (a : Addr) (m : Int) (ns : List Int), vs = [.ref a, .int m] /\ SqL K H a (ns.map V.int) /\ 0 < m /\ m <= 60 /\ ns.length <= 63 /\ ∀ p H' cs, Kp [] H H' -> H p = none -> H' p = some (il cs) -> cs.length <= 1000 -> Q (.ref p) H'
theorem Jy (a : At K mg "_law_folded" yr) (B : Blt mg) : Df P w K mg base "_law_folded" ["_law_script", "_law_many"] 1 (Zp K) := by
 refine xJ (k := 0) a vp (fun _ _ _ _ _ _ us hl => match us, hl with | [_, _], _ => rfl) (fun vs H Q E h => ?_) (fun f cdv A outer s H vs Q E hr h => ?_)
 ·obtain ⟨a, k, cs, rfl, _⟩ := h; rfl
 obtain ⟨a, m, ns, rfl, ha, hm, hm', hns, q⟩ := h
 obtain ⟨M, rfl⟩ : ∃ M : Nat, m = M := ⟨m.toNat, by omega⟩
 have sc := vp
 have hsl := hsl
 refine ⟨_, (zc (zL (i := 2) sc.nd rfl (by first | exact Or.inl rfl | exact Or.inr rfl) (zR kJ rfl B.list jH (za (qZ Q9 (pv 0) kZ (qV (pv 1))) zb)))
  (zc (xj PassesOwn.never rfl (V9 rfl B.enumerate (za (qZ Q9 (pv 0) (qV (pv 1)) (qV zd)) zb)) (jk (K := K) 2 rfl rfl (zT (zQ (i := 3) sc.nd rfl (by first | exact Or.inl rfl | exact Or.inr rfl)) (zT (zQ (i := 4) sc.nd rfl (by first | exact Or.inl rfl | exact Or.inr rfl)) jn))) (zh (qA (zz qv (zw zH (pv 2) (zz jo (pv 3) (pv 1)) (fun _ _ => rfl)) (zz jN (pv 4) (zz qv (pv 3) zd))) (qx (pv 2) (zz jo (pv 3) (pv 1)) zE))))
  (zh (zD (pv 2))))), ?_⟩
 rw [show qF ["_law_script", "_law_many", "_law_cells", "_law_k", "_law_cell"] [V.ref a, V.int M] = [some (.ref a), some (.int M), none, none, none] from rfl]
 walk_at "rd"
 walk_at "xs"
 intro p1 hp1
 rw [wU]
 walk_at "xs"
 intro p2 hp2
 walk_at "xs"
 intro p3 hp3
 rw [wU]
 have e63 : (63 : Int) = ((63 : Nat) : Int) := rfl
 simp only [HT.sIx_none, HT.sIx_nat, e63, List.drop_zero, Nat.sub_zero] at hp2 hp3 ⊢
 walk_at "xs"
 generalize hc0 : ns.take (min M ns.length) = c0 at hp2 hp3 ⊢
 generalize hd0 : (ns.drop (min M ns.length)).take (min 63 ns.length - min M ns.length) = d0 at hp2 hp3 ⊢
 have lc : c0.length = min M ns.length := by rw [<- hc0, List.length_take]; omega
 have ld : d0.length <= ns.length - M := by rw [<- hd0, List.length_take, List.length_drop]; omega
 have n23 : p2 ≠ p3 := by walk_at "ne"
 refine VS (xs := d0.map V.int) (fun i τ H' => ∃ u v cs, τ = [some (.ref a), some (.int M), some (.ref p2), u, v] /\ Kp [p2] (upd (upd (upd H p1 (HO.lst (List.map V.int c0))) p2 (HO.lst (List.map V.int c0))) p3 (HO.lst (List.map V.int d0))) H' /\ H' p2 = some (il cs) /\ cs.length = c0.length) ?_ ?_ ?_ ?_
 ·exact ⟨none, none, c0, rfl, Kp.refl, by walk_at "hp", rfl⟩
 ·rintro i τ H' _ ⟨u, v, cs, rfl, kp, _⟩
  exact SqL.of (kp _ _ (by simp [Ne.symm n23]) (by walk_at "hp"))
 ·rintro i x pp τ H' hx hpp ⟨u, v, cs, rfl, kp, hcs, hl⟩
  obtain ⟨rfl, hi⟩ := v9 hx
  have b1 := jF (i : Int) hm
  obtain ⟨g1, g2⟩ := xD (cs := cs) (k := (i : Int) % (M : Int)) b1.1 (by omega)
  have hcs' : upd H' pp (HO.tup [V.int i, V.int (d0.getD i 0)]) p2 = some (il cs) := by walk_at "hp"
  walk_at "rd"
  walk_at "xs"
  refine ⟨(kp.trans (Kp.new _ hpp)).trans (Kp.set _ (by simp)), _, ze.trans (congrArg some (congrArg HO.lst (vI _ _ _))), by rw [List.length_set]; exact hl⟩
 ·rintro τ H' ⟨u, v, cs, rfl, kp, hcs, hl⟩
  walk_at "rd"
  refine q _ _ cs (fun c o hc hh => kp c o ?_ ((((Kp.new _ hp1).trans (Kp.new _ hp2)).trans (Kp.new _ hp3)) c o hc hh)) (by walk_at "fr") hcs (by omega)
  have : c ≠ p2 := jY (Zg hp2 (Kp.new _ hp1)) hh
  simpa using this
noncomputable abbrev wH : List Int := [0, 1, 2, 3, 4, 5, 6, 7, 4, 5, 6, 7]
noncomputable abbrev yo : Stmt := top 19
theorem yW : zy ["_law_box_here", "_law_most", "_law_few"] ["_law_box_here", "_law_most"] (zi yo) := ⟨rfl, rfl, rfl, by decide +kernel, rfl, by decide +kernel, by decide +kernel⟩
noncomputable def wz : Sp := fun vs H Q _ => ∃ (b : Addr) (m : Int) (N : Nat), vs = [.ref b, .int m] /\ Bx H b N /\ N < 100000000 /\ 24 <= m /\ m <= 1000 /\ ∀ r H', Kp [b] H H' -> Bx H' b (N + 10) -> 0 <= r -> r <= m -> Q (.int r) H'
theorem KB (a : At K mg "_law_length" yo) (B : Blt mg) (D_law_take : Df P w K mg base "_law_take" ["_law_box_here", "_law_many"] 1 we) : Df P w K mg base "_law_length" ["_law_box_here", "_law_most"] 2 wz := by
 refine xJ (k := 1) a yW (fun _ _ _ _ _ _ us hl => match us, hl with | [_, _], _ => rfl) (fun vs H Q E h => ?_) (fun f cdv A outer s H vs Q E hr h => ?_)
 ·obtain ⟨a, k, cs, rfl, _⟩ := h; rfl
 obtain ⟨b, m, N, rfl, hb, hN, hm, hm', q⟩ := h
 have sc := yW
 have hsl := hsl
 refine' ⟨_, zc (zI (zo yX (zX D_law_take hr rfl (za (pv 0) (za zd zb))) zd (zu _)) (zh (zD (zz kC (pv 1) (zX D_law_take hr rfl (za (pv 0) (za (zm (vt rfl) rfl B.max K2 (za zd (za (zz QA (pv 1) zd) zb))) zb)))))) zx) (zc _ _), ?_⟩
 rotate_left 2
 ·refine' zL (i := 2) _ _ _ _ _ _
  rotate_left 1
  ·exact sc.nd
  ·rfl
  ·first | exact Or.inl rfl | exact Or.inr rfl
  ·refine' zw _ _ _ _
   rotate_left 3
   ·exact zH
   ·refine' zM _
    rotate_left 1
    refine' QS (is := [0, 1, 2, 3, 4, 5, 6, 7, 4, 5, 6, 7]) _
    rfl
   ·exact (zX D_law_take hr rfl (za (pv 0) (za zd zb)))
   ·exact (fun _ _ => rfl)
  ·rfl
  ·first | exact .inl rfl | exact .inr rfl | assumption
 ·refine' zh _
  rotate_left 1
  refine' zD _
  rotate_left 1
  refine' zw _ _ _ _
  rotate_left 3
  ·exact zH
  ·refine' zM _
   rotate_left 1
   refine' za _ _ _
   rotate_left 2
   ·exact pv 2
   ·exact (za (zz qv zd (zX D_law_take hr rfl (za (pv 0) (za zd zb)))) zb)
   ·rfl
  ·exact (zR jZ rfl B.int kz (za (qU yX (zX D_law_take hr rfl (za (pv 0) (za zd zb))) zd (zu _)) zb))
  ·exact (fun _ _ => rfl)
 rw [show qF ["_law_box_here", "_law_most", "_law_few"] [V.ref b, V.int m] = [some (.ref b), some (.int m), none] from rfl]
 walk_at "rd"
 refine ⟨b, 16, N, rfl, hb, by omega, by decide, by decide, fun r1 H1 k1 b1 l1 u1 => ⟨rfl, ?_⟩⟩
 walk_at "rd"
 refine Bj (fun c => ?_) (fun c => ?_)
 ·walk_at "xs"
  refine ⟨b, _, _, rfl, b1, by omega, by split <;> omega, by split <;> omega, fun r2 H2 k2 b2 l2 u2 => ⟨_, rfl, ?_⟩⟩
  refine q _ _ (k1.trans k2) (b2.mono (by omega)) ?_ ?_
  ·split at u2 <;> omega
  ·omega
 ·walk_at "xs"
  intro p1 hp1
  refine ⟨b, 12, _, rfl, b1.new hp1, by omega, by decide, by decide, fun r2 H2 k2 b2 l2 u2 => ?_⟩
  have hne : p1 ≠ b := by obtain ⟨_, _, _, h, _⟩ := b1; exact Ne.symm (zk h hp1)
  have h2 := k2 p1 _ (by simpa using hne) ze
  obtain ⟨e1, e2⟩ := xD (cs := wH) (k := r2) l2 (by simpa using u2)
  refine ⟨_, _, rfl, SqL.of h2, _, e2, b, 17, _, rfl, b2, by omega, by decide, by decide, fun r3 H3 k3 b3 l3 u3 => ?_⟩
  have hv : 0 <= wH.getD r2.toNat 0 /\ wH.getD r2.toNat 0 <= (24 : Int) := by
   have : ∀ j : Nat, 0 <= wH.getD j 0 /\ wH.getD j 0 <= (24 : Int) := by
    intro j
    by_cases hj : j < 12
    ·have hd : ∀ j : Nat, j < 12 -> 0 <= wH.getD j 0 /\ wH.getD j 0 <= (24 : Int) := by decide
     exact hd j hj
    ·have e : wH.getD j (0 : Int) = 0 := by rw [List.getD_eq_getElem?_getD, List.getElem?_eq_none (by simpa using hj)]; rfl
     rw [e]; decide
   exact this _
  refine ⟨_, rfl, by show 2 <= sizeLine; decide, fun p2 hp2 => ?_⟩
  refine ⟨b, 6, _, rfl, b3.new hp2, by omega, by decide, by decide, fun r4 H4 k4 b4 l4 u4 => ⟨rfl, ?_⟩⟩
  have hne2 : p2 ≠ b := by obtain ⟨_, _, _, h, _⟩ := b3; exact Ne.symm (zk h hp2)
  have h4 := k4 p2 _ (by simpa using hne2) ze
  have fin : ∀ r, 0 <= r -> r <= 24 -> Q (.int r) H4 := fun r g1 g2 => by
   refine q r H4 ?_ (b4.mono (by omega)) g1 (by omega)
   exact (((k1.trans (Kp.new _ hp1)).trans k2).trans k3).trans ((Kp.new _ hp2).trans k4)
  by_cases c4 : r4 = 0
  ·subst c4
   exact ⟨_, SqL.of h4, _, rfl, fin _ (by omega) (by omega)⟩
  ·rw [if_neg (fun z => c4 (V.int.inj z))]
   exact ⟨_, SqL.of h4, _, rfl, fin _ hv.1 hv.2⟩
noncomputable def cE : Option Int -> V
 | none => .non
 | some x => .int x
inductive De where
 | swap (a b : Nat) | take (p : Nat) | move (p g : Nat) | lay (g : Nat)
noncomputable abbrev E9 : V := .str (Str.ofString "swap")
noncomputable abbrev Fk : V := .str (Str.ofString "take")
noncomputable abbrev E6 : V := .str (Str.ofString "move")
noncomputable abbrev FP : V := .str (Str.ofString "lay")
noncomputable def deV : De -> List V
 | .swap a b => [E9, .int (a : Int), .int (b : Int)]
 | .take p => [Fk, .int (p : Int)]
 | .move p g => [E6, .int (p : Int), .int (g : Int)]
 | .lay g => [FP, .int (g : Int)]
noncomputable abbrev ES := List (Option Int) × Option Int
inductive DoE : De -> ES -> ES -> Prop
 | swap {a b : Nat} {row : List (Option Int)} {h : Option Int} {x y : Int} : a ≠ b -> row[a]? = some (some x) -> row[b]? = some (some y) -> DoE (.swap a b) (row, h) ((row.set a (some y)).set b (some x), h)
 | take {p : Nat} {row : List (Option Int)} {x : Int} : row[p]? = some (some x) -> DoE (.take p) (row, none) (row.set p none, some x)
 | move {p g : Nat} {row : List (Option Int)} {h : Option Int} {x : Int} : row[p]? = some (some x) -> row[g]? = some none -> DoE (.move p g) (row, h) ((row.set p none).set g (some x), h)
 | lay {g : Nat} {row : List (Option Int)} {x : Int} : row[g]? = some none -> DoE (.lay g) (row, some x) (row.set g (some x), none)
inductive BR : List De -> ES -> ES -> Prop
 | nil {s : ES} : BR [] s s
 | cons {d : De} {l : List De} {s t u : ES} : DoE d s t -> BR l t u -> BR (d :: l) s u
theorem DoE.len {d : De} {s t : ES} (h : DoE d s t) : t.1.length = s.1.length := by
 cases h <;> simp
theorem jf {row : List (Option Int)} {p : Nat} {c : Option Int} (h : row[p]? = some c) : ixN (row.map cE).length (p : Int) = some p /\ atI (row.map cE) (p : Int) = some (cE c) := by
 have hp := (List.getElem?_eq_some_iff.mp h).1
 have e : ixN (row.map cE).length (p : Int) = some p := by rw [List.length_map]; unfold ixN; rw [if_pos (by omega), if_pos (by omega), Int.toNat_natCast]
 refine ⟨e, ?_⟩
 unfold atI
 rw [e]
 show (row.map cE)[p]? = _
 rw [List.getElem?_map, h]; rfl
theorem zK {X qm : TS} {D : jB} {σ : L2.St} {H : Hp} (h : ∀ r, r = qm -> v6 X r D σ H) : v6 X qm D σ H := h qm rfl
noncomputable abbrev ZS : Stmt := top 21
theorem Js : zy ["_law_row", "_law_hand", "_law_deed_here", "_law_one", "_law_other"] ["_law_row", "_law_hand", "_law_deed_here"] (zi ZS) := ⟨rfl, rfl, rfl, by decide +kernel, rfl, by decide +kernel, by decide +kernel⟩
noncomputable def K1 : Sp := fun vs H Q _ => ∃ (a b : Addr) (d : De) (st st' : ES), vs = [.ref a, cE st.2, .ref b] /\ H a = some (.lst (st.1.map cE)) /\ H b = some (.tup (deV d)) /\ DoE d st st' /\ st.1.length <= 1000 /\
 ∀ t p H', Kp [] H H' -> H t = none -> H p = none -> H' t = some (.tup [.ref p, cE st'.2]) -> H' p = some (.lst (st'.1.map cE)) -> Q (.ref t) H'
theorem Ac (a : At K mg "_law_done" ZS) (B : Blt mg) : Df P w K mg base "_law_done" ["_law_row", "_law_hand", "_law_deed_here"] 1 K1 := by
 refine xJ (k := 0) a Js (fun _ _ _ _ _ _ us hl => match us, hl with | [_, _, _], _ => rfl) (fun vs H Q E h => ?_) (fun f cdv A outer s H vs Q E hr h => ?_)
 ·obtain ⟨a, b, d, st, st', rfl, _⟩ := h; rfl
 obtain ⟨a, b, d, st, st', rfl, ha, hb, hdo, hl, q⟩ := h
 have sc := Js
 have hsl := hsl
 refine ⟨_, (zc (zL (i := 0) sc.nd rfl (by first | exact Or.inl rfl | exact Or.inr rfl) (zR kJ rfl B.list jH (za (pv 0) zb)))
  (zc (zI (zo yX (zw qE (pv 2) zd (fun _ _ => rfl)) zn (zu _)) (zc (XU (i := 3) (j := 4) rfl sc.nd rfl rfl (by decide) rfl rfl (za (zw zH (pv 0) (zw qE (pv 2) zd (fun _ _ => rfl)) (fun _ _ => rfl)) (za (zw zH (pv 0) (zw qE (pv 2) zd (fun _ _ => rfl)) (fun _ _ => rfl)) zb)) rfl)
  (zh (qA (zC (za (pv 4) (za (pv 3) zb))) (jk (K := K) 2 rfl rfl (zT (qx (pv 0) (zw qE (pv 2) zd (fun _ _ => rfl)) zE) (zT (qx (pv 0) (zw qE (pv 2) zd (fun _ _ => rfl)) zE) jn)))))) zx)
  (zc (zI (zo yX (zw qE (pv 2) zd (fun _ _ => rfl)) zn (zu _)) (zh (qA (zC (za zJ (za (zw zH (pv 0) (zw qE (pv 2) zd (fun _ _ => rfl)) (fun _ _ => rfl)) zb))) (jk (K := K) 2 rfl rfl (zT (qx (pv 0) (zw qE (pv 2) zd (fun _ _ => rfl)) zE) (zT (zQ (i := 1) sc.nd rfl (by first | exact Or.inl rfl | exact Or.inr rfl)) jn))))) zx)
  (zc (zI (zo yX (zw qE (pv 2) zd (fun _ _ => rfl)) zn (zu _)) (zh (qA (zC (za zJ (za (zw zH (pv 0) (zw qE (pv 2) zd (fun _ _ => rfl)) (fun _ _ => rfl)) zb))) (jk (K := K) 2 rfl rfl (zT (qx (pv 0) (zw qE (pv 2) zd (fun _ _ => rfl)) zE) (zT (qx (pv 0) (zw qE (pv 2) zd (fun _ _ => rfl)) zE) jn))))) zx)
  (zc (zI (zo yX (zw qE (pv 2) zd (fun _ _ => rfl)) zn (zu _)) (zh (qA (zC (za (pv 1) (za zJ zb))) (jk (K := K) 2 rfl rfl (zT (qx (pv 0) (zw qE (pv 2) zd (fun _ _ => rfl)) zE) (zT (zQ (i := 1) sc.nd rfl (by first | exact Or.inl rfl | exact Or.inr rfl)) jn))))) zx)
  (zh (zD (zC (za (pv 0) (za (pv 1) zb)))))))))), ?_⟩
 rw [show qF ["_law_row", "_law_hand", "_law_deed_here", "_law_one", "_law_other"] [V.ref a, cE st.2, V.ref b] = [some (.ref a), some (cE st.2), some (.ref b), none, none] from rfl]
 refine zK fun r hr0 => ?_
 walk_at "rd"
 refine ⟨_, .inl (SqL.of ha), fun l hl0 => ?_⟩
 subst hr0
 have kl := Kp.new (bs := []) (HO.lst (st.1.map cE)) hl0
 have hl1 := ze (H := H) (a := l) (o := HO.lst (st.1.map cE))
 have hb1 := kl _ _ (by simp) hb
 have nbl : b ≠ l := zk hb hl0
 generalize upd H l (HO.lst (st.1.map cE)) = H1 at *
 have hnl := hl0
 cases hdo with
 | @swap sa sb row h x y ne hp hg =>
  obtain ⟨c1, c2⟩ := jf hp
  obtain ⟨g1, g2⟩ := jf hg
  refine zK fun r hr0 => ?_
  walk_at "rd"
  refine ⟨_, SqT.of hb1, _, rfl, rfl, ?_⟩
  rw [if_pos rfl]
  refine ⟨_, SqT.of hb1, _, rfl, _, _, rfl, SqL.of hl1, _, c2, _, SqT.of hb1, _, rfl, _, _, rfl, SqL.of hl1, _, g2, by show 2 <= sizeLine; omega, fun pt hpt => ?_⟩
  have kt := Kp.new (bs := []) (HO.tup [cE (some y), cE (some x)]) hpt
  have hbt := kt _ _ (by simp) hb1
  have ib2 : ixN ((row.map cE).set sa (cE (some y))).length (sb : Int) = some sb := by rw [List.length_set]; exact g1
  refine ⟨_, SqT.of ze, rfl, _, _, rfl, _, SqT.of hbt, _, rfl, _, rfl, _, kt _ _ (by simp) hl1, _, c1, _, _, rfl, _, SqT.of ((zg nbl).trans hbt), _, rfl, _, rfl, _, ze, _, ib2, rfl, ?_⟩
  subst hr0
  have hl2 := ze (H := upd (upd H1 pt (HO.tup [cE (some y), cE (some x)])) l (HO.lst ((row.map cE).set sa (cE (some y))))) (a := l) (o := HO.lst (((row.map cE).set sa (cE (some y))).set sb (cE (some x))))
  have hb2 : upd (upd (upd H1 pt (HO.tup [cE (some y), cE (some x)])) l (HO.lst ((row.map cE).set sa (cE (some y))))) l (HO.lst (((row.map cE).set sa (cE (some y))).set sb (cE (some x)))) b = some (.tup (deV (.swap sa sb))) := (zg nbl).trans ((zg nbl).trans hbt)
  have kn := ((kt.mono (bs' := [l]) (by simp)).trans (Kp.set (HO.lst ((row.map cE).set sa (cE (some y)))) (by simp : l ∈ [l]))).trans (Kp.set (HO.lst (((row.map cE).set sa (cE (some y))).set sb (cE (some x)))) (by simp : l ∈ [l]))
  have hl2 := hl2.trans (show _ = some (HO.lst (((row.set sa (some y)).set sb (some x)).map cE)) by rw [List.map_set, List.map_set])
  show v6 _ _ _ _ (upd (upd (upd H1 pt (HO.tup [cE (some y), cE (some x)])) l (HO.lst ((row.map cE).set sa (cE (some y))))) l (HO.lst (((row.map cE).set sa (cE (some y))).set sb (cE (some x)))))
  generalize upd (upd (upd H1 pt (HO.tup [cE (some y), cE (some x)])) l (HO.lst ((row.map cE).set sa (cE (some y))))) l (HO.lst (((row.map cE).set sa (cE (some y))).set sb (cE (some x)))) = H2 at *
  refine zK fun r hr0 => ?_
  walk_at "rd"
  refine ⟨_, SqT.of hb2, _, rfl, rfl, ?_⟩
  rw [if_neg (by show ¬ (V.str (Str.ofString "swap") = V.str (Str.ofString "take")); decide)]
  subst hr0
  refine zK fun r hr0 => ?_
  walk_at "rd"
  refine ⟨_, SqT.of hb2, _, rfl, rfl, ?_⟩
  rw [if_neg (by show ¬ (V.str (Str.ofString "swap") = V.str (Str.ofString "move")); decide)]
  subst hr0
  refine zK fun r hr0 => ?_
  walk_at "rd"
  refine ⟨_, SqT.of hb2, _, rfl, rfl, ?_⟩
  rw [if_neg (by show ¬ (V.str (Str.ofString "swap") = V.str (Str.ofString "lay")); decide)]
  subst hr0
  walk_at "rd"
  refine ⟨by show 2 <= sizeLine; omega, fun t ht => ?_⟩
  have kt2 := Kp.new (bs := []) (HO.tup [V.ref l, cE h]) ht
  have kx : Kp [] H H2 := Kp.un (bs := []) ((kl.mono (bs' := [l]) (by simp)).trans kn) hnl
  exact q t l _ (kx.trans kt2) (kx.free ht) hnl ze (kt2 _ _ (by simp) hl2)
 | @take p row x hp =>
  obtain ⟨c1, c2⟩ := jf hp
  refine zK fun r hr0 => ?_
  walk_at "rd"
  refine ⟨_, SqT.of hb1, _, rfl, rfl, ?_⟩
  rw [if_neg (by show ¬ (V.str (Str.ofString "take") = V.str (Str.ofString "swap")); decide)]
  subst hr0
  refine zK fun r hr0 => ?_
  walk_at "rd"
  refine ⟨_, SqT.of hb1, _, rfl, rfl, ?_⟩
  rw [if_pos rfl]
  refine ⟨_, SqT.of hb1, _, rfl, _, _, rfl, SqL.of hl1, _, c2, by show 2 <= sizeLine; omega, fun pt hpt => ?_⟩
  have kt := Kp.new (bs := []) (HO.tup [V.non, cE (some x)]) hpt
  refine ⟨_, SqT.of ze, rfl, _, _, rfl, _, SqT.of (kt _ _ (by simp) hb1), _, rfl, _, rfl, _, kt _ _ (by simp) hl1, _, c1, _, _, rfl, rfl, ?_⟩
  subst hr0
  have hl2 := ze (H := upd H1 pt (HO.tup [V.non, cE (some x)])) (a := l) (o := HO.lst ((row.map cE).set p V.non))
  have hb2 : upd (upd H1 pt (HO.tup [V.non, cE (some x)])) l (HO.lst ((row.map cE).set p V.non)) b = some (.tup (deV (.take p))) := (zg nbl).trans (kt _ _ (by simp) hb1)
  have kn := (kt.mono (bs' := [l]) (by simp)).trans (Kp.set (HO.lst ((row.map cE).set p V.non)) (by simp : l ∈ [l]))
  have hl2 := hl2.trans (show _ = some (HO.lst ((row.set p none).map cE)) by rw [List.map_set]; rfl)
  show v6 _ _ _ _ (upd (upd H1 pt (HO.tup [V.non, cE (some x)])) l (HO.lst ((row.map cE).set p V.non)))
  generalize upd (upd H1 pt (HO.tup [V.non, cE (some x)])) l (HO.lst ((row.map cE).set p V.non)) = H2 at *
  refine zK fun r hr0 => ?_
  walk_at "rd"
  refine ⟨_, SqT.of hb2, _, rfl, rfl, ?_⟩
  rw [if_neg (by show ¬ (V.str (Str.ofString "take") = V.str (Str.ofString "move")); decide)]
  subst hr0
  refine zK fun r hr0 => ?_
  walk_at "rd"
  refine ⟨_, SqT.of hb2, _, rfl, rfl, ?_⟩
  rw [if_neg (by show ¬ (V.str (Str.ofString "take") = V.str (Str.ofString "lay")); decide)]
  subst hr0
  walk_at "rd"
  refine ⟨by show 2 <= sizeLine; omega, fun t ht => ?_⟩
  have kt2 := Kp.new (bs := []) (HO.tup [V.ref l, cE (some x)]) ht
  have kx : Kp [] H H2 := Kp.un (bs := []) ((kl.mono (bs' := [l]) (by simp)).trans kn) hnl
  exact q t l _ (kx.trans kt2) (kx.free ht) hnl ze (kt2 _ _ (by simp) hl2)
 | @move p g row h x hp hg =>
  obtain ⟨c1, c2⟩ := jf hp
  obtain ⟨g1, g2⟩ := jf hg
  refine zK fun r hr0 => ?_
  walk_at "rd"
  refine ⟨_, SqT.of hb1, _, rfl, rfl, ?_⟩
  rw [if_neg (by show ¬ (V.str (Str.ofString "move") = V.str (Str.ofString "swap")); decide)]
  subst hr0
  refine zK fun r hr0 => ?_
  walk_at "rd"
  refine ⟨_, SqT.of hb1, _, rfl, rfl, ?_⟩
  rw [if_neg (by show ¬ (V.str (Str.ofString "move") = V.str (Str.ofString "take")); decide)]
  subst hr0
  refine zK fun r hr0 => ?_
  walk_at "rd"
  refine ⟨_, SqT.of hb1, _, rfl, rfl, ?_⟩
  rw [if_pos rfl]
  refine ⟨_, SqT.of hb1, _, rfl, _, _, rfl, SqL.of hl1, _, c2, by show 2 <= sizeLine; omega, fun pt hpt => ?_⟩
  have kt := Kp.new (bs := []) (HO.tup [V.non, cE (some x)]) hpt
  have ig : ixN ((row.map cE).set p V.non).length (g : Int) = some g := by rw [List.length_set]; exact g1
  have hbt := kt _ _ (by simp) hb1
  refine ⟨_, SqT.of ze, rfl, _, _, rfl, _, SqT.of hbt, _, rfl, _, rfl, _, kt _ _ (by simp) hl1, _, c1, _, _, rfl, _, SqT.of ((zg nbl).trans hbt), _, rfl, _, rfl, _, ze, _, ig, rfl, ?_⟩
  subst hr0
  have hl2 := ze (H := upd (upd H1 pt (HO.tup [V.non, cE (some x)])) l (HO.lst ((row.map cE).set p V.non))) (a := l) (o := HO.lst (((row.map cE).set p V.non).set g (cE (some x))))
  have hb2 : upd (upd (upd H1 pt (HO.tup [V.non, cE (some x)])) l (HO.lst ((row.map cE).set p V.non))) l (HO.lst (((row.map cE).set p V.non).set g (cE (some x)))) b = some (.tup (deV (.move p g))) := (zg nbl).trans ((zg nbl).trans hbt)
  have kn := ((kt.mono (bs' := [l]) (by simp)).trans (Kp.set (HO.lst ((row.map cE).set p V.non)) (by simp : l ∈ [l]))).trans (Kp.set (HO.lst (((row.map cE).set p V.non).set g (cE (some x)))) (by simp : l ∈ [l]))
  have hl2 := hl2.trans (show _ = some (HO.lst (((row.set p none).set g (some x)).map cE)) by rw [List.map_set, List.map_set]; rfl)
  show v6 _ _ _ _ (upd (upd (upd H1 pt (HO.tup [V.non, cE (some x)])) l (HO.lst ((row.map cE).set p V.non))) l (HO.lst (((row.map cE).set p V.non).set g (cE (some x)))))
  generalize upd (upd (upd H1 pt (HO.tup [V.non, cE (some x)])) l (HO.lst ((row.map cE).set p V.non))) l (HO.lst (((row.map cE).set p V.non).set g (cE (some x)))) = H2 at *
  refine zK fun r hr0 => ?_
  walk_at "rd"
  refine ⟨_, SqT.of hb2, _, rfl, rfl, ?_⟩
  rw [if_neg (by show ¬ (V.str (Str.ofString "move") = V.str (Str.ofString "lay")); decide)]
  subst hr0
  walk_at "rd"
  refine ⟨by show 2 <= sizeLine; omega, fun t ht => ?_⟩
  have kt2 := Kp.new (bs := []) (HO.tup [V.ref l, cE h]) ht
  have kx : Kp [] H H2 := Kp.un (bs := []) ((kl.mono (bs' := [l]) (by simp)).trans kn) hnl
  exact q t l _ (kx.trans kt2) (kx.free ht) hnl ze (kt2 _ _ (by simp) hl2)
 | @lay g row x hg =>
  obtain ⟨g1, g2⟩ := jf hg
  refine zK fun r hr0 => ?_
  walk_at "rd"
  refine ⟨_, SqT.of hb1, _, rfl, rfl, ?_⟩
  rw [if_neg (by show ¬ (V.str (Str.ofString "lay") = V.str (Str.ofString "swap")); decide)]
  subst hr0
  refine zK fun r hr0 => ?_
  walk_at "rd"
  refine ⟨_, SqT.of hb1, _, rfl, rfl, ?_⟩
  rw [if_neg (by show ¬ (V.str (Str.ofString "lay") = V.str (Str.ofString "take")); decide)]
  subst hr0
  refine zK fun r hr0 => ?_
  walk_at "rd"
  refine ⟨_, SqT.of hb1, _, rfl, rfl, ?_⟩
  rw [if_neg (by show ¬ (V.str (Str.ofString "lay") = V.str (Str.ofString "move")); decide)]
  subst hr0
  refine zK fun r hr0 => ?_
  walk_at "rd"
  refine ⟨_, SqT.of hb1, _, rfl, rfl, ?_⟩
  rw [if_pos rfl]
  refine ⟨by show 2 <= sizeLine; omega, fun pt hpt => ?_⟩
  have kt := Kp.new (bs := []) (HO.tup [cE (some x), V.non]) hpt
  have hbt := kt _ _ (by simp) hb1
  refine ⟨_, SqT.of ze, rfl, _, _, rfl, _, SqT.of hbt, _, rfl, _, rfl, _, kt _ _ (by simp) hl1, _, g1, _, _, rfl, rfl, ?_⟩
  subst hr0
  have hl2 := ze (H := upd H1 pt (HO.tup [cE (some x), V.non])) (a := l) (o := HO.lst ((row.map cE).set g (cE (some x))))
  have kn := (kt.mono (bs' := [l]) (by simp)).trans (Kp.set (HO.lst ((row.map cE).set g (cE (some x)))) (by simp : l ∈ [l]))
  have hl2 := hl2.trans (show _ = some (HO.lst ((row.set g (some x)).map cE)) by rw [List.map_set])
  show Wk _ _ _ (upd (upd H1 pt (HO.tup [cE (some x), V.non])) l (HO.lst ((row.map cE).set g (cE (some x)))))
  generalize upd (upd H1 pt (HO.tup [cE (some x), V.non])) l (HO.lst ((row.map cE).set g (cE (some x)))) = H2 at *
  walk_at "rd"
  refine ⟨by show 2 <= sizeLine; omega, fun t ht => ?_⟩
  have kt2 := Kp.new (bs := []) (HO.tup [V.ref l, cE none]) ht
  have kx : Kp [] H H2 := Kp.un (bs := []) ((kl.mono (bs' := [l]) (by simp)).trans kn) hnl
  exact q t l _ (kx.trans kt2) (kx.free ht) hnl ze (kt2 _ _ (by simp) hl2)
noncomputable def thN (row : List (Option Int)) : List Nat := (List.range row.length).filter fun k => (row.getD k none).isSome
noncomputable def frN (row : List (Option Int)) : List Nat := (List.range row.length).filter fun k => (row.getD k none).isNone
noncomputable def nI (xs : List Nat) : List Int := xs.map fun (k : Nat) => (k : Int)
theorem vL {row : List (Option Int)} {p : Nat} (h : p ∈ thN row) : ∃ v, row[p]? = some (some v) := by
 unfold thN at h
 obtain ⟨h1, h2⟩ := List.mem_filter.mp h
 rw [List.mem_range] at h1
 rw [List.getD_eq_getElem?_getD, List.getElem?_eq_getElem h1] at h2
 obtain ⟨v, hv⟩ := Option.isSome_iff_exists.mp h2
 exact ⟨v, by rw [List.getElem?_eq_getElem h1]; exact congrArg some hv⟩
theorem XH {row : List (Option Int)} {p : Nat} (h : p ∈ frN row) : row[p]? = some none := by
 unfold frN at h
 obtain ⟨h1, h2⟩ := List.mem_filter.mp h
 rw [List.mem_range] at h1
 rw [List.getD_eq_getElem?_getD, List.getElem?_eq_getElem h1] at h2
 have hv := Option.isNone_iff_eq_none.mp h2
 rw [List.getElem?_eq_getElem h1]; exact congrArg some hv
theorem WH (row : List (Option Int)) : (thN row).length <= row.length := by
 have := List.length_filter_le (fun k => (row.getD k none).isSome) (List.range row.length)
 rw [List.length_range] at this; exact this
theorem Ww (row : List (Option Int)) : (frN row).length <= row.length := by
 have := List.length_filter_le (fun k => (row.getD k none).isNone) (List.range row.length)
 rw [List.length_range] at this; exact this
theorem KC (row : List (Option Int)) : (thN row).Nodup := List.nodup_range.sublist List.filter_sublist
theorem qO (xs : List Nat) : (nI xs).length = xs.length := by unfold nI; rw [List.length_map]
theorem y6 {xs : List Nat} {r : Int} (h0 : 0 <= r) (h1 : r < xs.length) : ∃ p, p ∈ xs /\ xs[r.toNat]? = some p /\ atI ((nI xs).map V.int) r = some (.int (p : Int)) := by
 have hr : r.toNat < xs.length := by omega
 refine ⟨xs[r.toNat], List.getElem_mem hr, List.getElem?_eq_getElem hr, ?_⟩
 have e : atI ((nI xs).map V.int) (r.toNat : Int) = some (.int ((xs[r.toNat] : Nat) : Int)) := by
  refine vU ?_
  unfold nI
  rw [List.getElem?_map, List.getElem?_map, List.getElem?_eq_getElem hr]; rfl
 rwa [show (r.toNat : Int) = r by omega] at e
theorem Y7 {xs : List Nat} {r t : Int} (h0 : 0 <= r) (h1 : r < xs.length) (t0 : 0 <= t) (t1 : t < (xs.length : Int) - 1) : ∃ j : Nat, j ≠ r.toNat /\ ∃ p, p ∈ xs /\ xs[j]? = some p /\ atI ((nI xs).map V.int) (r - 1 - t) = some (.int (p : Int)) := by
 by_cases c : 0 <= r - 1 - t
 ·obtain ⟨p, hp, e1, e2⟩ := y6 (xs := xs) c (by omega)
  exact ⟨(r - 1 - t).toNat, by omega, p, hp, e1, e2⟩
 ·have hj : (r - 1 - t + xs.length).toNat < xs.length := by omega
  refine ⟨(r - 1 - t + xs.length).toNat, by omega, xs[(r - 1 - t + xs.length).toNat], List.getElem_mem hj, List.getElem?_eq_getElem hj, ?_⟩
  unfold atI ixN
  rw [List.length_map, qO, if_neg c, if_pos (by omega)]
  show ((nI xs).map V.int)[(r - 1 - t + (xs.length : Int)).toNat]? = _
  unfold nI
  rw [List.getElem?_map, List.getElem?_map, List.getElem?_eq_getElem hj]; rfl
noncomputable abbrev deP (qs : List (Addr × De)) : List (Addr × List V) := qs.map fun q => (q.1, deV q.2)
noncomputable def xM (H0 : Hp) (bx rw_ : Addr) (row : List (Option Int)) (h : Option Int) (N k : Nat) (pt pf : Addr) (σ : L2.St) (H : Hp) : Prop :=
 ∃ (ps : Addr) (qs : List (Addr × De)) (u6 u7 : Option V), σ = [some (.ref bx), some (.ref rw_), some (cE h), some (.ref pt), some (.ref pf), some (.ref ps), u6, u7] /\ Kp [bx] H0 H /\ H ps = some (.lst (tfs (deP qs))) /\ H0 ps = none /\ (pt ≠ ps /\ pf ≠ ps) /\
  (∀ q ∈ qs, H0 q.1 = none /\ H q.1 = some (.tup (deV q.2)) /\ ∃ t, DoE q.2 (row, h) t) /\ qs.length <= 2 * k /\ Bx H bx (N + 2 * k) /\ H pt = some (il (nI (thN row))) /\ H pf = some (il (nI (frN row)))
theorem jR (a : List (Addr × List V)) : (tfs a).length = a.length := by unfold tfs; rw [List.length_map]
theorem xM.kp {H0 H H' : Hp} {bx rw_ pt pf : Addr} {row : List (Option Int)} {h : Option Int} {N k : Nat} {σ : L2.St} (I : xM H0 bx rw_ row h N k pt pf σ H) (k2 : Kp [] H H') : xM H0 bx rw_ row h N k pt pf σ H' := by
 obtain ⟨ps, qs, u6, u7, e, k1, hps, nps, ne, hqs, lqs, b1, ht1, hf1⟩ := I
 exact ⟨ps, qs, u6, u7, e, k1.trans (k2.mono (by simp)), k2 _ _ (by simp) hps, nps, ne, fun q hq => ⟨(hqs q hq).1, k2 _ _ (by simp) (hqs q hq).2.1, (hqs q hq).2.2⟩, lqs, b1.kp k2, k2 _ _ (by simp) ht1, k2 _ _ (by simp) hf1⟩
theorem xM.up {H0 H : Hp} {bx rw_ pt pf : Addr} {row : List (Option Int)} {h : Option Int} {N k : Nat} {σ : L2.St} (I : xM H0 bx rw_ row h N k pt pf σ H) : xM H0 bx rw_ row h N (k + 1) pt pf σ H := by
 obtain ⟨ps, qs, u6, u7, e, k1, hps, nps, ne, hqs, lqs, b1, ht1, hf1⟩ := I
 exact ⟨ps, qs, u6, u7, e, k1, hps, nps, ne, hqs, by omega, b1.mono (by omega), ht1, hf1⟩
theorem yh {H0 H1 H2 : Hp} {bx rw_ pt pf ps p : Addr} {row : List (Option Int)} {h : Option Int} {N k : Nat} {qs : List (Addr × De)} {u6 u7 : Option V} {d : De} {t : ES} (hb : Bx H0 bx N) (hpt : H0 pt = none) (hpf : H0 pf = none)
  (k1 : Kp [bx] H0 H1) (hps : H1 ps = some (.lst (tfs (deP qs)))) (nps : H0 ps = none) (ne : pt ≠ ps /\ pf ≠ ps) (hqs : ∀ q ∈ qs, H0 q.1 = none /\ H1 q.1 = some (.tup (deV q.2)) /\ ∃ t, DoE q.2 (row, h) t) (lqs : qs.length <= 2 * k)
  (ht1 : H1 pt = some (il (nI (thN row)))) (hf1 : H1 pf = some (il (nI (frN row)))) (k2 : Kp [bx] H1 H2) (b2 : Bx H2 bx (N + 2 * (k + 1))) (hp : H2 p = none) (hd : DoE d (row, h) t) :
  H2 ps = some (.lst (tfs (deP qs))) /\ xM H0 bx rw_ row h N (k + 1) pt pf [some (.ref bx), some (.ref rw_), some (cE h), some (.ref pt), some (.ref pf), some (.ref ps), u6, u7] (upd (upd H2 p (.tup (deV d))) ps (.lst (tfs (deP qs) ++ [V.ref p]))) := by
 have nb : ∀ c, H0 c = none -> c ∉ [bx] := fun c hc => by simpa using Ne.symm (hb.ne hc)
 have hps2 := k2 _ _ (nb _ nps) hps
 have n1 : Kp [] H2 (upd H2 p (.tup (deV d))) := Kp.new _ hp
 have npd : ∀ c o, c ≠ ps -> H2 c = some o -> upd (upd H2 p (.tup (deV d))) ps (.lst (tfs (deP qs) ++ [V.ref p])) c = some o := fun c o hc hh => (zg hc).trans (n1 _ _ (by simp) hh)
 have hp0 : H0 p = none := by
  cases e : H0 p with
  | none => rfl
  | some o =>
   by_cases c : p ∈ [bx]
   ·have : p = bx := by simpa using c
    subst this
    obtain ⟨_, _, _, e2, _⟩ := b2
    rw [hp] at e2; cases e2
   ·have := k2 _ _ c (k1 _ _ c e)
    rw [hp] at this; cases this
 refine ⟨hps2, ps, qs ++ [(p, d)], u6, u7, rfl, ?_, ze.trans (by unfold deP tfs; rw [List.map_append, List.map_append]; rfl), nps, ne, fun q hq => ?_, by rw [List.length_append]; show qs.length + 1 <= _; omega, ?_, npd _ _ ne.1 (k2 _ _ (nb _ hpt) ht1), npd _ _ ne.2 (k2 _ _ (nb _ hpf) hf1)⟩
 ·intro c o hc hh
  have cs : c ≠ ps := fun z => by rw [z, nps] at hh; cases hh
  exact npd _ _ cs (k2 _ _ hc (k1 _ _ hc hh))
 ·rcases List.mem_append.mp hq with z | z
  ·obtain ⟨z1, z2, z3⟩ := hqs q z
   refine ⟨z1, npd _ _ (fun e => ?_) (k2 _ _ (nb _ z1) z2), z3⟩
   rw [e, hps] at z2; cases z2
  ·rw [List.mem_singleton.mp z]
   refine ⟨hp0, (zg (fun e => ?_)).trans ze, t, hd⟩
   have e : p = ps := e
   rw [e, hps2] at hp; cases hp
 ·obtain ⟨x, y, z, e, r⟩ := b2
  have cs : bx ≠ ps := fun w => by have := nb _ nps; rw [w] at this; simp at this
  exact ⟨x, y, z, npd _ _ cs e, r⟩
theorem wx (p : Nat -> Bool) (k : Nat) : (List.range (k + 1)).filter p = (List.range k).filter p ++ if p k = true then [k] else [] := by
 rw [List.range_succ, List.filter_append]
 congr 1
 rw [List.filter_cons]
 rfl
theorem Yx (p : Nat -> Bool) (k : Nat) : ((List.range k).filter p).length <= k := by
 have := List.length_filter_le p (List.range k)
 rwa [List.length_range] at this
noncomputable abbrev ZQ : Stmt := top 20
theorem Q1 : zy ["_law_box_here", "_law_row", "_law_hand", "_law_there", "_law_free", "_law_some", "_law_one", "_law_k"] ["_law_box_here", "_law_row", "_law_hand"] (zi ZQ) := ⟨rfl, rfl, rfl, by decide +kernel, rfl, by decide +kernel, by decide +kernel⟩
noncomputable def Xe : Sp := fun vs H Q _ => ∃ (bx rw_ : Addr) (row : List (Option Int)) (h : Option Int) (N : Nat), vs = [.ref bx, .ref rw_, cE h] /\ Bx H bx N /\ N < 100000000 /\ H rw_ = some (.lst (row.map cE)) /\ row.length <= 1000 /\
 ∀ H', Kp [bx] H H' -> Bx H' bx (N + 10) -> Q .non H' /\ ∀ p d t, H p = none -> H' p = some (.tup (deV d)) -> DoE d (row, h) t -> Q (.ref p) H'
theorem Ah (a : At K mg "_law_deed" ZQ) (B : Blt mg) (D_law_take : Df P w K mg base "_law_take" ["_law_box_here", "_law_many"] 1 we) : Df P w K mg base "_law_deed" ["_law_box_here", "_law_row", "_law_hand"] 2 Xe := by
  refine xJ (k := 1) a Q1 (fun _ _ _ _ _ _ us hl => match us, hl with | [_, _, _], _ => rfl) (fun vs H Q E h => ?_) (fun f cdv A outer s H vs Q E hr h => ?_)
  · obtain ⟨bx, rw_, row, h, N, rfl, _⟩ := h; rfl
  obtain ⟨bx, rw_, row, h, N, rfl, hb, hN, hrw, hrl, q⟩ := h
  have sc := Q1
  have hsl := hsl
  refine ⟨_, (zc (xR (j := 3) rfl sc.nd rfl (by first | exact Or.inl rfl | exact Or.inr rfl) (ts := [7]) rfl (jw rfl B.range (za (zm zv rfl B.len qb (za (pv 1) zb)) zb)) (fun _ _ _ _ => (zQ (i := 7) sc.nd rfl (by first | exact Or.inl rfl | exact Or.inr rfl))) (fun _ _ _ _ => Q6 (zo qY (zw (wu (K := K) rfl) (pv 1) (pv 7) (fun _ _ => rfl)) zJ (zu _))) (fun _ _ _ _ => (pv 7)))
    (zc (xR (j := 4) rfl sc.nd rfl (by first | exact Or.inl rfl | exact Or.inr rfl) (ts := [7]) rfl (jw rfl B.range (za (zm zv rfl B.len qb (za (pv 1) zb)) zb)) (fun _ _ _ _ => (zQ (i := 7) sc.nd rfl (by first | exact Or.inl rfl | exact Or.inr rfl))) (fun _ _ _ _ => Q6 (zo jD (zw (wu (K := K) rfl) (pv 1) (pv 7) (fun _ _ => rfl)) zJ (zu _))) (fun _ _ _ _ => (pv 7)))
    (zc (zL (i := 5) sc.nd rfl (by first | exact Or.inl rfl | exact Or.inr rfl) (zM zb))
    (zc (zI (zo Ak (zm zv rfl B.len qb (za (pv 3) zb)) zd (zu _)) (zc (zL (i := 6) sc.nd rfl (by first | exact Or.inl rfl | exact Or.inr rfl) (zX D_law_take hr rfl (za (pv 0) (za (zm zv rfl B.len qb (za (pv 3) zb)) zb))))
    (zh (qW (KN PySem.F.plainAttrs_list PySem.F.slot_list_append PySem.F.type_list_append xx (pv 5) (za (zC (za zn (za (zw zH (pv 3) (pv 6) (fun _ _ => rfl)) (za (zw zH (pv 3) (zz kC (zz kC (pv 6) zd) (zX D_law_take hr rfl (za (pv 0) (za (zz kC (zm zv rfl B.len qb (za (pv 3) zb)) zd) zb)))) (fun _ _ => rfl)) zb)))) zb))))) zx)
    (zc (zI (PW.pt (xB (zo jD (pv 2) zJ (zu _)) (j4 (zo (wk hr.units) (pv 3) (zM zb) (zu _))))) (zh (qW (KN PySem.F.plainAttrs_list PySem.F.slot_list_append PySem.F.type_list_append xx (pv 5) (za (zC (za zn (za (zw zH (pv 3) (zX D_law_take hr rfl (za (pv 0) (za (zm zv rfl B.len qb (za (pv 3) zb)) zb))) (fun _ _ => rfl)) zb))) zb)))) zx)
    (zc (zI (PW.pt (xB (zo (wk hr.units) (pv 3) (zM zb) (zu _)) (j4 (zo (wk hr.units) (pv 4) (zM zb) (zu _))))) (zh (zL (i := 5) sc.nd rfl (by first | exact Or.inl rfl | exact Or.inr rfl) (zz ku (pv 5) (zz yI (zM (za (zC (za zn (za (zw zH (pv 3) (zX D_law_take hr rfl (za (pv 0) (za (zm zv rfl B.len qb (za (pv 3) zb)) zb))) (fun _ _ => rfl)) (za (zw zH (pv 4) (zX D_law_take hr rfl (za (pv 0) (za (zm zv rfl B.len qb (za (pv 4) zb)) zb))) (fun _ _ => rfl)) zb)))) zb)) zd)))) zx)
    (zc (zI (PW.pt (xB (zo qY (pv 2) zJ (zu _)) (j4 (zo (wk hr.units) (pv 4) (zM zb) (zu _))))) (zh (qW (KN PySem.F.plainAttrs_list PySem.F.slot_list_append PySem.F.type_list_append xx (pv 5) (za (zC (za zn (za (zw zH (pv 4) (zX D_law_take hr rfl (za (pv 0) (za (zm zv rfl B.len qb (za (pv 4) zb)) zb))) (fun _ _ => rfl)) zb))) zb)))) zx)
    (zh (zD (kQ (zo (B8 hr.units) (pv 5) (zM zb) (zu _)) (zw zH (pv 5) (zX D_law_take hr rfl (za (pv 0) (za (zm zv rfl B.len qb (za (pv 5) zb)) zb))) (fun _ _ => rfl)) zJ)))))))))), ?_⟩
  rw [show qF ["_law_box_here", "_law_row", "_law_hand", "_law_there", "_law_free", "_law_some", "_law_one", "_law_k"] [V.ref bx, V.ref rw_, cE h] = [some (.ref bx), some (.ref rw_), some (cE h), none, none, none, none, none] from rfl]
  have thE : ∀ k, k < row.length -> ∃ c, row[k]? = some c /\ atI (row.map cE) (k : Int) = some (cE c) /\ row.getD k none = c := fun k hk => ⟨row[k], List.getElem?_eq_getElem hk, (jf (List.getElem?_eq_getElem hk)).2, by rw [List.getD_eq_getElem?_getD, List.getElem?_eq_getElem hk]; rfl⟩
  refine zK fun r hr0 => ?_
  walk_at "rd"
  refine ⟨_, .inl (SqL.of hrw), by omega, by rw [List.length_map]; omega, fun D hD => ?_⟩
  rw [List.length_map, Int.toNat_natCast]
  refine Zv (fun k τ G => ∃ u, τ = [some (.ref bx), some (.ref rw_), some (cE h), none, none, none, none, u] /\ Kp [D] (upd H D (.lst [])) G /\ G D = some (il (nI ((List.range k).filter fun k => (row.getD k none).isSome)))) ?_ ?_ ?_
  · exact ⟨none, rfl, Kp.refl, ze⟩
  · rintro k τ G hk ⟨u, rfl, kq, hq⟩
    obtain ⟨c, hc1, hc2, hc3⟩ := thE k hk
    rw [Int.zero_add]
    walk_at "rd"
    have lf := Yx (fun k => (row.getD k none).isSome) k
    refine ⟨_, SqL.of ((Kp.drop1 hD kq) _ _ (by simp) hrw), _, hc2, ?_⟩
    rw [wx, hc3]
    cases c with
    | none =>
      rw [if_neg (show ¬ ¬ cE none = V.non from not_not_intro rfl), if_neg (by decide), List.append_nil]
      exact ⟨kq, hq⟩
    | some v =>
      rw [if_pos (show ¬ cE (some v) = V.non from fun z => nomatch z), if_pos (show (some v).isSome = true from rfl)]
      refine ⟨_, hq, by rw [List.length_map, qO]; omega, kq.trans (Kp.set _ (by simp)), ?_⟩
      exact ze.trans (congrArg some (congrArg HO.lst (by unfold nI; rw [List.map_append, List.map_append]; rfl)))
  · rintro τ G ⟨u, rfl, kq, hq⟩
    have kD := Kp.drop1 hD kq
    have hth : G D = some (il (nI (thN row))) := hq
    have hrG := kD _ _ (by simp) hrw
    clear hq kq
    subst hr0
    refine zK fun r hr0 => ?_
    walk_at "rd"
    refine ⟨_, .inl (SqL.of hrG), by omega, by rw [List.length_map]; omega, fun D2 hD2 => ?_⟩
    rw [List.length_map, Int.toNat_natCast]
    refine Zv (fun k τ G2 => ∃ u, τ = [some (.ref bx), some (.ref rw_), some (cE h), some (.ref D), none, none, none, u] /\ Kp [D2] (upd G D2 (.lst [])) G2 /\ G2 D2 = some (il (nI ((List.range k).filter fun k => (row.getD k none).isNone)))) ?_ ?_ ?_
    · exact ⟨none, rfl, Kp.refl, ze⟩
    · rintro k τ G2 hk ⟨u, rfl, kq, hq⟩
      obtain ⟨c, hc1, hc2, hc3⟩ := thE k hk
      rw [Int.zero_add]
      walk_at "rd"
      have lf := Yx (fun k => (row.getD k none).isNone) k
      refine ⟨_, SqL.of ((Kp.drop1 hD2 kq) _ _ (by simp) hrG), _, hc2, ?_⟩
      rw [wx, hc3]
      cases c with
      | some v =>
        rw [if_neg (show ¬ cE (some v) = V.non from fun z => nomatch z), if_neg (show ¬ (some v).isNone = true from fun z => nomatch z), List.append_nil]
        exact ⟨kq, hq⟩
      | none =>
        rw [if_pos (show cE none = V.non from rfl), if_pos (show (none : Option Int).isNone = true from rfl)]
        refine ⟨_, hq, by rw [List.length_map, qO]; omega, kq.trans (Kp.set _ (by simp)), ?_⟩
        exact ze.trans (congrArg some (congrArg HO.lst (by unfold nI; rw [List.map_append, List.map_append]; rfl)))
    · rintro τ G2 ⟨u, rfl, kq, hq⟩
      have kD2 := Kp.drop1 hD2 kq
      have hfr : G2 D2 = some (il (nI (frN row))) := hq
      have hth2 := kD2 _ _ (by simp) hth
      have kH2 := kD.trans kD2
      have hb2 := hb.kp kH2
      clear hq kq
      have nDb : D ≠ bx := Ne.symm (hb.ne hD)
      have nD2b : D2 ≠ bx := Ne.symm ((hb.kp kD).ne hD2)
      subst hr0
      refine zK fun r hr0 => ?_
      walk_at "rd"
      refine ⟨Nat.zero_le _, fun pS hpS => ?_⟩
      have kS := Kp.new (bs := []) (HO.lst []) hpS
      have I0 : xM H bx rw_ row h N 0 D D2 [some (.ref bx), some (.ref rw_), some (cE h), some (.ref D), some (.ref D2), some (.ref pS), none, none] (upd G2 pS (.lst [])) := ⟨pS, [], none, none, rfl, (kH2.trans kS).mono (by simp), ze, kH2.free hpS, ⟨zk hth2 hpS, zk hfr hpS⟩, (fun q hq => nomatch hq), by simp, hb2.kp kS, kS _ _ (by simp) hth2, kS _ _ (by simp) hfr⟩
      subst hr0
      clear hrG hth hrw
      have hth0 := WH row
      have hfr0 := Ww row
      generalize upd G2 pS (HO.lst []) = G3 at *
      generalize [some (V.ref bx), some (V.ref rw_), some (cE h), some (V.ref D), some (V.ref D2), some (V.ref pS), none, none] = σ0 at *
      refine zK fun r hr0 => ?_
      have ndb : ∀ c, H c = none -> c ∉ [bx] := fun c hc => by simpa using Ne.symm (hb.ne hc)
      have hD2n : H D2 = none := kD.free hD2
      suffices key : ∀ σ G, xM H bx rw_ row h N 1 D D2 σ G -> r { nx := fun x H' => Q V.non H', rt := Q } σ G by
        have I0' := I0
        obtain ⟨ps, qs, u6, u7, rfl, k1, hps, nps, ne, hqs, lqs, b1, ht1, hf1⟩ := I0
        walk_at "rd"
        refine ⟨_, .inl (SqL.of ht1), ?_⟩
        rw [List.length_map, qO]
        refine Bj (fun z => ?_) (fun z => ?_)
        · refine ⟨_, .inl (SqL.of ht1), ?_⟩
          rw [List.length_map, qO]
          refine ⟨bx, _, _, rfl, b1, by omega, by omega, by omega, fun r1 A1 a1 c1 l1 v1 => ?_⟩
          have hpsA := a1 _ _ (ndb _ nps) hps
          have htA := a1 _ _ (ndb _ hD) ht1
          obtain ⟨p1, hp1, e1, g1⟩ := y6 (xs := thN row) l1 v1
          refine ⟨.inl ⟨rfl, _, SqL.of hpsA⟩, _, r1, rfl, SqL.of htA, _, g1, r1, rfl, _, .inl (SqL.of htA), ?_⟩
          rw [List.length_map, qO]
          refine ⟨bx, _, _, rfl, c1, by omega, by omega, by omega, fun r2 A2 a2 c2 l2 v2 => ?_⟩
          have htA2 := a2 _ _ (ndb _ hD) htA
          obtain ⟨j, hj, p2, hp2, e2, g2⟩ := Y7 (xs := thN row) l1 v1 l2 (by omega)
          obtain ⟨w1, hw1⟩ := vL hp1
          obtain ⟨w2, hw2⟩ := vL hp2
          have hne : p1 ≠ p2 := fun z => by
            subst z
            have hj1 := (List.getElem?_eq_some_iff.mp e1)
            have hj2 := (List.getElem?_eq_some_iff.mp e2)
            obtain ⟨x1, y1⟩ := hj1
            obtain ⟨x2, y2⟩ := hj2
            exact hj ((List.getElem_inj (KC row)).mp (y2.trans y1.symm))
          refine ⟨_, rfl, _, SqL.of htA2, _, g2, by show 3 <= sizeLine; omega, fun p hp => ?_⟩
          obtain ⟨f1, f2⟩ := yh (rw_ := rw_) (u6 := some (V.int r1)) (u7 := u7) (d := .swap p1 p2) hb hD hD2n k1 hps nps ne hqs lqs ht1 hf1 (a1.trans a2) c2 hp (DoE.swap hne hw1 hw2)
          refine ⟨_, (Kp.new (bs := []) _ hp) _ _ (by simp) f1, by rw [jR, List.length_map]; omega, key _ _ f2⟩
        · exact key _ _ I0'.up
      intro σ1 G4 I1
      subst hr0
      refine zK fun r hr0 => ?_
      suffices key : ∀ σ G, xM H bx rw_ row h N 2 D D2 σ G -> r { nx := fun x H' => Q V.non H', rt := Q } σ G by
        have I1' := I1
        obtain ⟨ps, qs, u6, u7, rfl, k1, hps, nps, ne, hqs, lqs, b1, ht1, hf1⟩ := I1
        walk_at "rd"
        cases h with
        | some v => rw [if_neg (show ¬ cE (some v) = V.non from fun z => nomatch z)]; exact key _ _ I1'.up
        | none =>
          rw [if_pos (show cE none = V.non from rfl)]
          refine ⟨Nat.zero_le _, fun p0 hp0 => ?_⟩
          have k0 := Kp.new (bs := []) (HO.lst []) hp0
          have ht0 := k0 _ _ (by simp) ht1
          refine ⟨_, SqL.of ht0, [], SqL.of ze, ?_⟩
          by_cases z : nI (thN row) = []
          · rw [if_neg (not_not_intro z)]
            exact key _ _ (I1'.kp k0).up
          · rw [if_pos z]
            have hl0 : 0 < (thN row).length := by
              rw [<- qO]
              exact List.length_pos_iff.mpr z
            have hps0 := k0 _ _ (by simp) hps
            have b0 := b1.kp k0
            generalize upd G4 p0 (HO.lst []) = G40 at *
            refine ⟨.inl ⟨rfl, _, SqL.of hps0⟩, _, .inl (SqL.of ht0), ?_⟩
            rw [List.length_map, qO]
            refine ⟨bx, _, _, rfl, b0, by omega, by omega, by omega, fun r1 A1 a1 c1 l1 v1 => ?_⟩
            have htA := a1 _ _ (ndb _ hD) ht0
            obtain ⟨p1, hp1, e1, g1⟩ := y6 (xs := thN row) l1 v1
            obtain ⟨w1, hw1⟩ := vL hp1
            refine ⟨_, _, rfl, SqL.of htA, _, g1, by show 2 <= sizeLine; omega, fun p hp => ?_⟩
            obtain ⟨f1, f2⟩ := yh (rw_ := rw_) (u6 := u6) (u7 := u7) (d := .take p1) hb hD hD2n k1 hps nps ne hqs lqs ht1 hf1 ((k0.mono (by simp)).trans a1) (c1.mono (by omega)) hp (DoE.take hw1)
            refine ⟨_, (Kp.new (bs := []) _ hp) _ _ (by simp) f1, by rw [jR, List.length_map]; omega, key _ _ f2⟩
      intro σ2 G5 I2
      subst hr0
      refine zK fun r hr0 => ?_
      suffices key : ∀ σ G, xM H bx rw_ row h N 3 D D2 σ G -> r { nx := fun x H' => Q V.non H', rt := Q } σ G by
        have I2' := I2
        obtain ⟨ps, qs, u6, u7, rfl, k1, hps, nps, ne, hqs, lqs, b1, ht1, hf1⟩ := I2
        walk_at "rd"
        refine ⟨Nat.zero_le _, fun p0 hp0 => ?_⟩
        have k0 := Kp.new (bs := []) (HO.lst []) hp0
        have ht0 := k0 _ _ (by simp) ht1
        refine ⟨_, SqL.of ht0, [], SqL.of ze, ?_⟩
        by_cases z : nI (thN row) = []
        · rw [if_neg (not_not_intro z)]
          exact key _ _ (I2'.kp k0).up
        · rw [if_pos z]
          have hl0 : 0 < (thN row).length := by
            rw [<- qO]
            exact List.length_pos_iff.mpr z
          have hf0 := k0 _ _ (by simp) hf1
          generalize upd G5 p0 (HO.lst []) = G50 at *
          refine ⟨Nat.zero_le _, fun p9 hp9 => ?_⟩
          have k9 := Kp.new (bs := []) (HO.lst []) hp9
          have hf9 := k9 _ _ (by simp) hf0
          refine ⟨_, SqL.of hf9, [], SqL.of ze, ?_⟩
          by_cases zf : nI (frN row) = []
          · rw [if_neg (not_not_intro zf)]
            exact key _ _ (I2'.kp (k0.trans k9)).up
          · rw [if_pos zf]
            have hlf : 0 < (frN row).length := by
              rw [<- qO]
              exact List.length_pos_iff.mpr zf
            have k09 := k0.trans k9
            have ht9 := k9 _ _ (by simp) ht0
            have hps9 := k09 _ _ (by simp) hps
            have b9 := b1.kp k09
            generalize upd G50 p9 (HO.lst []) = G59 at *
            refine ⟨_, .inl (SqL.of ht9), ?_⟩
            rw [List.length_map, qO]
            refine ⟨bx, _, _, rfl, b9, by omega, by omega, by omega, fun r1 A1 a1 c1 l1 v1 => ?_⟩
            have htA := a1 _ _ (ndb _ hD) ht9
            have hfA := a1 _ _ (ndb _ hD2n) hf9
            obtain ⟨p1, hp1, e1, g1⟩ := y6 (xs := thN row) l1 v1
            obtain ⟨w1, hw1⟩ := vL hp1
            refine ⟨_, _, rfl, SqL.of htA, _, g1, _, .inl (SqL.of hfA), ?_⟩
            rw [List.length_map, qO]
            refine ⟨bx, _, _, rfl, c1, by omega, by omega, by omega, fun r2 A2 a2 c2 l2 v2 => ?_⟩
            have hfA2 := a2 _ _ (ndb _ hD2n) hfA
            obtain ⟨p2, hp2, e2, g2⟩ := y6 (xs := frN row) l2 v2
            have hw2 := XH hp2
            refine ⟨_, _, rfl, SqL.of hfA2, _, g2, ?_⟩
            refine ⟨by show 3 <= sizeLine; omega, fun p hp => ⟨by show 1 <= sizeLine; omega, fun pl hpl => ?_⟩⟩
            have n1 := Kp.new (bs := []) (HO.tup [V.str (Str.ofString "move"), V.int (p1 : Int), V.int (p2 : Int)]) hp
            have n2 := Kp.new (bs := []) (HO.lst [V.ref p]) hpl
            have hpA := n2 _ _ (by simp) (ze (H := A2) (a := p) (o := HO.tup [V.str (Str.ofString "move"), V.int (p1 : Int), V.int (p2 : Int)]))
            have hplA := ze (H := upd A2 p (HO.tup [V.str (Str.ofString "move"), V.int (p1 : Int), V.int (p2 : Int)])) (a := pl) (o := HO.lst [V.ref p])
            have n12 := n1.trans n2
            generalize upd (upd A2 p (HO.tup [V.str (Str.ofString "move"), V.int (p1 : Int), V.int (p2 : Int)])) pl (HO.lst [V.ref p]) = A3 at *
            refine ⟨_, hplA, by decide, by decide, by show 1 * 2 <= sizeLine; omega, fun pm hpm => ?_⟩
            have n3 := Kp.new (bs := []) (HO.lst (List.replicate (Int.toNat 2) [V.ref p]).flatten) hpm
            have hmA := ze (H := A3) (a := pm) (o := HO.lst (List.replicate (Int.toNat 2) [V.ref p]).flatten)
            have hpA4 := n3 _ _ (by simp) hpA
            have n13 := n12.trans n3
            generalize upd A3 pm (HO.lst (List.replicate (Int.toNat 2) [V.ref p]).flatten) = A4 at *
            have kA : Kp [bx] G5 A4 := (((k09.mono (by simp)).trans a1).trans a2).trans (n13.mono (by simp))
            have hpsA := kA _ _ (ndb _ nps) hps
            refine ⟨_, hpsA, _, hmA, by rw [jR, List.length_map]; show qs.length + 2 <= sizeLine; omega, fun pn hpn => ?_⟩
            have n4 := Kp.new (bs := []) (HO.lst (tfs (deP qs) ++ (List.replicate (Int.toNat 2) [V.ref p]).flatten)) hpn
            have kA4 : Kp [bx] H A4 := k1.trans kA
            have hp0H : H p = none := by
              cases e : H p with
              | none => rfl
              | some o =>
                by_cases c : p ∈ [bx]
                · have : p = bx := by simpa using c
                  subst this
                  obtain ⟨_, _, _, e2, _⟩ := c2
                  rw [hp] at e2; cases e2
                · have := (((k1.trans (k09.mono (by simp))).trans a1).trans a2) _ _ c e
                  rw [hp] at this; cases this
            have hpnH : H pn = none := by
              cases e : H pn with
              | none => rfl
              | some o =>
                by_cases c : pn ∈ [bx]
                · have : pn = bx := by simpa using c
                  subst this
                  obtain ⟨_, _, _, e2, _⟩ := c2.kp n13
                  rw [hpn] at e2; cases e2
                · have := kA4 _ _ c e
                  rw [hpn] at this; cases this
            refine key _ _ ⟨pn, qs ++ [(p, .move p1 p2), (p, .move p1 p2)], u6, u7, rfl, kA4.trans (n4.mono (by simp)), ze.trans (by unfold deP tfs; rw [List.map_append, List.map_append]; rfl), hpnH, ⟨zk (kA _ _ (ndb _ hD) ht1) hpn, zk (kA _ _ (ndb _ hD2n) hf1) hpn⟩, fun qq hqq => ?_, by rw [List.length_append]; show qs.length + 2 <= _; omega, ((c2.kp n13).kp n4).mono (by omega), n4 _ _ (by simp) (kA _ _ (ndb _ hD) ht1), n4 _ _ (by simp) (kA _ _ (ndb _ hD2n) hf1)⟩
            rcases List.mem_append.mp hqq with y | y
            · exact ⟨(hqs qq y).1, n4 _ _ (by simp) (kA _ _ (ndb _ (hqs qq y).1) (hqs qq y).2.1), (hqs qq y).2.2⟩
            · have : qq = (p, .move p1 p2) := by
                rcases List.mem_cons.mp y with y | y
                · exact y
                · exact List.mem_singleton.mp y
              subst this
              exact ⟨hp0H, n4 _ _ (by simp) hpA4, _, DoE.move hw1 hw2⟩
      intro σ3 G6 I3
      subst hr0
      refine zK fun r hr0 => ?_
      suffices key : ∀ σ G, xM H bx rw_ row h N 4 D D2 σ G -> r { nx := fun x H' => Q V.non H', rt := Q } σ G by
        have I3' := I3
        obtain ⟨ps, qs, u6, u7, rfl, k1, hps, nps, ne, hqs, lqs, b1, ht1, hf1⟩ := I3
        walk_at "rd"
        cases h with
        | none => rw [if_neg (show ¬ ¬ cE none = V.non from not_not_intro rfl)]; exact key _ _ I3'.up
        | some v =>
          rw [if_pos (show ¬ cE (some v) = V.non from fun z => nomatch z)]
          refine ⟨Nat.zero_le _, fun p0 hp0 => ?_⟩
          have k0 := Kp.new (bs := []) (HO.lst []) hp0
          have ht0 := k0 _ _ (by simp) hf1
          refine ⟨_, SqL.of ht0, [], SqL.of ze, ?_⟩
          by_cases z : nI (frN row) = []
          · rw [if_neg (not_not_intro z)]
            exact key _ _ (I3'.kp k0).up
          · rw [if_pos z]
            have hl0 : 0 < (frN row).length := by
              rw [<- qO]
              exact List.length_pos_iff.mpr z
            have hps0 := k0 _ _ (by simp) hps
            have b0 := b1.kp k0
            generalize upd G6 p0 (HO.lst []) = G60 at *
            refine ⟨.inl ⟨rfl, _, SqL.of hps0⟩, _, .inl (SqL.of ht0), ?_⟩
            rw [List.length_map, qO]
            refine ⟨bx, _, _, rfl, b0, by omega, by omega, by omega, fun r1 A1 a1 c1 l1 v1 => ?_⟩
            have htA := a1 _ _ (ndb _ hD2n) ht0
            obtain ⟨p1, hp1, e1, g1⟩ := y6 (xs := frN row) l1 v1
            have hw1 := XH hp1
            refine ⟨_, _, rfl, SqL.of htA, _, g1, by show 2 <= sizeLine; omega, fun p hp => ?_⟩
            obtain ⟨f1, f2⟩ := yh (rw_ := rw_) (u6 := u6) (u7 := u7) (d := .lay p1) hb hD hD2n k1 hps nps ne hqs lqs ht1 hf1 ((k0.mono (by simp)).trans a1) (c1.mono (by omega)) hp (DoE.lay hw1)
            refine ⟨_, (Kp.new (bs := []) _ hp) _ _ (by simp) f1, by rw [jR, List.length_map]; omega, key _ _ f2⟩
      intro σ4 G7 I4
      obtain ⟨ps, qs, u6, u7, rfl, k1, hps, nps, ne, hqs, lqs, b1, ht1, hf1⟩ := I4
      subst hr0
      walk_at "rd"
      refine ⟨Nat.zero_le _, fun p0 hp0 => ?_⟩
      have k0 := Kp.new (bs := []) (HO.lst []) hp0
      have hps0 := k0 _ _ (by simp) hps
      have b0 := b1.kp k0
      refine ⟨_, SqL.of hps0, SqL.of ze, ?_⟩
      generalize upd G7 p0 (HO.lst []) = G70 at *
      cases qs with
      | nil =>
        rw [if_neg (show ¬ (tfs (deP [])).isEmpty = false from fun z => nomatch z)]
        exact (q _ (k1.trans (k0.mono (by simp))) (b0.mono (by omega))).1
      | cons qq qr =>
        rw [if_pos (show (tfs (deP (qq :: qr))).isEmpty = false from rfl)]
        have hlen : (tfs (deP (qq :: qr))).length = qr.length + 1 := by rw [jR, List.length_map]; rfl
        have lqs' : qr.length + 1 <= 8 := lqs
        refine ⟨_, .inl (SqL.of hps0), ?_⟩
        rw [hlen]
        refine ⟨bx, _, _, rfl, b0, by omega, by omega, by omega, fun r1 A1 a1 c1 l1 v1 => ?_⟩
        have hpsA := a1 _ _ (ndb _ nps) hps0
        have hr1 : r1.toNat < (qq :: qr).length := by show r1.toNat < qr.length + 1; omega
        have g : atI (tfs (deP (qq :: qr))) (r1.toNat : Int) = some (.ref ((qq :: qr)[r1.toNat]).1) := by
          refine vU ?_
          unfold tfs deP
          rw [List.getElem?_map, List.getElem?_map, List.getElem?_eq_getElem hr1]; rfl
        rw [show (r1.toNat : Int) = r1 by omega] at g
        obtain ⟨z1, z2, t, z3⟩ := hqs _ (List.getElem_mem hr1)
        refine ⟨_, _, rfl, SqL.of hpsA, _, g, ?_⟩
        exact (q _ ((k1.trans (k0.mono (by simp))).trans a1) (c1.mono (by omega))).2 _ _ t z1 (a1 _ _ (ndb _ z1) (k0 _ _ (by simp) z2)) z3
noncomputable def AR : ASp := fun xs M Q => ∃ (b : Addr) (many : Int) (N : Nat), xs = [.ref b, .d (.int many)] /\ BxM M b N /\ N < 1000000000 /\ 0 < many /\ many < 1073741824 /\ ∀ r M', BxS M M' b (N + 1) -> 0 <= r -> r < many -> Q (.d (.int r)) M'
theorem V2 (vs : List V) (H : Hp) (Q : VK) (E : XK) (h : cSp AR vs H Q E) : we vs H Q E := by
 obtain ⟨xs, M, O, Q', w, r, ⟨b, many, N, rfl, hb, h1, h2, h3, q⟩, k⟩ := h
 obtain ⟨v, u, rfl, rv, ru⟩ := ky r
 rw [zF ru, rv.1]
 refine ⟨b, many, N, rfl, hb.bx w, h1, h2, h3, fun r H' kp hb' r0 r1 => ?_⟩
 obtain ⟨M', s, e, w'⟩ := Qq w hb kp hb'
 exact k _ _ _ _ _ (q r M' s r0 r1) e w' .int
noncomputable def Fc : ASp := fun xs M Q => ∃ (x : AV) (k : Int) (cs : List Int), xs = [x, .d (.int k)] /\ qu x M = some (cs.map fun i => .d (.int i)) /\ 0 <= k /\ k <= 1000 /\ cs.length <= 1000 /\ ∀ p o, M p = none -> BxM (mup M p o) p 0 -> Q (.ref p) (mup M p o)
theorem Bm (vs : List V) (H : Hp) (Q : VK) (E : XK) (h : cSp Fc vs H Q E) : AQ vs H Q E := by
 obtain ⟨xs, M, O, Q', w, r, ⟨x, n, cs, rfl, hx, h1, h2, h3, q⟩, k⟩ := h
 obtain ⟨v, u, rfl, rv, ru⟩ := ky r
 rw [zF ru]
 obtain ⟨a, rfl, ha⟩ := Xk w rv hx
 refine ⟨a, n, cs, rfl, ha, h1, h2, h3, fun p H' kp hp hb' => ?_⟩
 obtain ⟨x', y', z', g1, g2⟩ := hb'
 obtain ⟨e1, w1⟩ := ZW w kp
 have fr := w.fresh hp
 have e2 := Ext.owned (O' := kT O p) (p := p) w ⟨fun a o h e => ⟨(e1.fix a o h e).1, fun z => z.elim (zk e hp) h⟩, fun a h e => ⟨(e1.prv a h e).1, .inr h, e⟩, fun _ h => h⟩ hp (.lst ([x', y', z'].map fun i => .d (.int i)))
 refine k _ _ _ _ _ (q p _ fr.2 ⟨x', y', z', zp, g2⟩) e2 (Zx (O := kT O p) (xs := [V.int x', V.int y', V.int z']) ⟨fun a o h => ?_, fun a h => .inr (w1.own a h), fun a h => ?_⟩ (.inl rfl) fr.2 g1 (ZG [x', y', z'])) ⟨rfl, by rw [zp]; exact fun z => nomatch z⟩
 ·have e3 : Ext H O M H' (kT O p) M := ⟨fun a o h e => ⟨(e1.fix a o h e).1, fun z => z.elim (zk e hp) h⟩, fun a h e => ⟨(e1.prv a h e).1, .inr h, e⟩, fun _ h => h⟩
  refine qG.ext e3 ?_ (w.mo a o h)
  obtain ⟨u, hu, _⟩ := w.al a (w.own a (jl h))
  rw [hu]; exact kp a u (by simp) hu
 ·rcases h with rfl | h
  ·exact ⟨_, g1, fun xs z => nomatch z⟩
  ·exact w1.al a h
noncomputable def Jl (K : PySem.W.Frag) : ASp := fun xs M Q => ∃ (m : Int) (ns : List Int), xs = [.d (.scr K ns), .d (.int m)] /\ 0 < m /\ m <= 60 /\ ns.length <= 63 /\ ∀ cs : List Int, cs.length <= 1000 -> Q (.d (.lst (cs.map .int))) M
theorem JA (vs : List V) (H : Hp) (Q : VK) (E : XK) (h : cSp (Jl K) vs H Q E) : Zp K vs H Q E := by
 obtain ⟨xs, M, O, Q', w, r, ⟨m, ns, rfl, h1, h2, h3, q⟩, k⟩ := h
 obtain ⟨v, u, rfl, rv, ru⟩ := ky r
 rw [zF ru]
 obtain ⟨a, rfl, ha⟩ := WU rv
 refine ⟨a, m, ns, rfl, ha, h1, h2, h3, fun p H' cs kp hp hc lc => ?_⟩
 obtain ⟨e1, w1⟩ := ZW w kp
 exact k _ _ _ _ _ (q cs lc) e1 w1 (YW (w.fresh hp).1 hc)
noncomputable def Qx : ASp := fun xs M Q => ∃ (b : Addr) (m : Int) (N : Nat), xs = [.ref b, .d (.int m)] /\ BxM M b N /\ N < 100000000 /\ 24 <= m /\ m <= 1000 /\ ∀ r M', BxS M M' b (N + 10) -> 0 <= r -> r <= m -> Q (.d (.int r)) M'
theorem JZ (vs : List V) (H : Hp) (Q : VK) (E : XK) (h : cSp Qx vs H Q E) : wz vs H Q E := by
 obtain ⟨xs, M, O, Q', w, r, ⟨b, many, N, rfl, hb, h1, h2, h3, q⟩, k⟩ := h
 obtain ⟨v, u, rfl, rv, ru⟩ := ky r
 rw [zF ru, rv.1]
 refine ⟨b, many, N, rfl, hb.bx w, h1, h2, h3, fun r H' kp hb' r0 r1 => ?_⟩
 obtain ⟨M', s, e, w'⟩ := Qq w hb kp hb'
 exact k _ _ _ _ _ (q r M' s r0 r1) e w' .int
noncomputable def jr (ms : List Int) (x : Int) : List Int := ms.set x.toNat (ms.getD x.toNat 0 + 1)
theorem wq (ms : List Int) (x : Int) : (jr ms x).length = ms.length := by unfold jr; rw [List.length_set]
noncomputable def OkM (s : ES) (n : Nat) : Prop := (∀ x, some x ∈ s.1 -> 0 <= x /\ x < (n : Int)) /\ ∀ x, s.2 = some x -> 0 <= x /\ x < (n : Int)
noncomputable def cA : Option Int -> AV
 | none => .d .non
 | some x => .d (.int x)
noncomputable abbrev JW (row : List (Option Int)) : MO := .lst (row.map cA)
noncomputable abbrev msA (ms : List Int) : MO := .lst (ms.map fun i => AV.d (.int i))
noncomputable abbrev Yo (C rw_ mv : Addr) (h : Option Int) : MO := .ins C [("row", .ref rw_), ("hand", cA h), ("moved", .ref mv)]
structure zW (C : Addr) (M : MH) (p rw_ mv : Addr) (s : ES) (ms : List Int) : Prop where
 ins : M p = some (Yo C rw_ mv s.2)
 row : M rw_ = some (JW s.1)
 mvd : M mv = some (msA ms)
 ne : rw_ ≠ mv
noncomputable def rmP (C : Addr) (M : MH) (p rw_ mv : Addr) (s : ES) (ms : List Int) : MH := mup (mup (mup M p (Yo C rw_ mv s.2)) rw_ (JW s.1)) mv (msA ms)
theorem zW.pr {C : Addr} {M : MH} {p rw_ mv : Addr} {s : ES} {ms : List Int} (r : zW C M p rw_ mv s ms) : p ≠ rw_ /\ p ≠ mv :=
 ⟨fun z => (by have := r.ins; rw [z, r.row] at this; cases this), fun z => (by have := r.ins; rw [z, r.mvd] at this; cases this)⟩
theorem zW.same {C : Addr} {M : MH} {p rw_ mv : Addr} {s : ES} {ms : List Int} (r : zW C M p rw_ mv s ms) : rmP C M p rw_ mv s ms = M := by
 funext b
 unfold rmP mup
 by_cases c1 : b = mv
 ·rw [if_pos c1, c1, r.mvd]
 ·rw [if_neg c1]
  by_cases c2 : b = rw_
  ·rw [if_pos c2, c2, r.row]
  ·rw [if_neg c2]
   by_cases c3 : b = p
   ·rw [if_pos c3, c3, r.ins]
   ·rw [if_neg c3]
theorem zW.to {C : Addr} {M : MH} {p rw_ mv : Addr} {s : ES} {ms : List Int} (r : zW C M p rw_ mv s ms) (s' : ES) (ms' : List Int) : zW C (rmP C M p rw_ mv s' ms') p rw_ mv s' ms' := by
 obtain ⟨n1, n2⟩ := r.pr
 have n3 := r.ne
 unfold rmP
 exact ⟨by rw [zr n2, zr n1, zp], by rw [zr n3, zp], zp, n3⟩
theorem zW.again {C : Addr} {M : MH} {p rw_ mv : Addr} {s : ES} {ms : List Int} (r : zW C M p rw_ mv s ms) (s' s2 : ES) (ms' ms2 : List Int) : rmP C (rmP C M p rw_ mv s' ms') p rw_ mv s2 ms2 = rmP C M p rw_ mv s2 ms2 := by
 funext b
 unfold rmP mup
 by_cases c1 : b = mv <;> by_cases c2 : b = rw_ <;> by_cases c3 : b = p <;> simp [c1, c2, c3]
theorem zW.setRow {C : Addr} {M : MH} {p rw_ mv : Addr} {s : ES} {ms : List Int} (r : zW C M p rw_ mv s ms) (row : List (Option Int)) : mup M rw_ (JW row) = rmP C M p rw_ mv (row, s.2) ms := by
 obtain ⟨n1, n2⟩ := r.pr
 funext b
 unfold rmP mup
 by_cases c1 : b = mv
 ·rw [if_pos c1, if_neg (fun z => r.ne (z.symm.trans c1)), c1, r.mvd]
 ·rw [if_neg c1]
  by_cases c2 : b = rw_
  ·rw [if_pos c2, if_pos c2]
  ·rw [if_neg c2, if_neg c2]
   by_cases c3 : b = p
   ·rw [if_pos c3, c3, r.ins]
   ·rw [if_neg c3]
theorem zW.setMv {C : Addr} {M : MH} {p rw_ mv : Addr} {s : ES} {ms : List Int} (r : zW C M p rw_ mv s ms) (ms' : List Int) : mup M mv (msA ms') = rmP C M p rw_ mv s ms' := by
 have := r.same
 calc mup M mv (msA ms') = mup (rmP C M p rw_ mv s ms) mv (msA ms') := by rw [this]
  _ = _ := by unfold rmP; rw [Jp]
theorem zW.setHand {C : Addr} {M : MH} {p rw_ mv : Addr} {s : ES} {ms : List Int} (r : zW C M p rw_ mv s ms) (h : Option Int) : mup M p (Yo C rw_ mv h) = rmP C M p rw_ mv (s.1, h) ms := by
 obtain ⟨n1, n2⟩ := r.pr
 funext b
 unfold rmP mup
 by_cases c1 : b = mv
 ·rw [if_pos c1, if_neg (fun z => n2 (z.symm.trans c1)), c1, r.mvd]
 ·rw [if_neg c1]
  by_cases c2 : b = rw_
  ·rw [if_pos c2, if_neg (fun z => n1 (z.symm.trans c2)), c2, r.row]
  ·rw [if_neg c2]
theorem zW.fin {C : Addr} {M : MH} {p rw_ mv : Addr} {s : ES} {ms : List Int} (r : zW C M p rw_ mv s ms) (s' : ES) (ms' : List Int) (d : Dat) : yP M (rmP C M p rw_ mv s' ms') (.d d) (.d d) (rmP C M p rw_ mv s' ms') := by
 have t := r.to s' ms'
 refine ⟨fun q => .inl rfl, fun q o e => ?_, .inl ⟨rfl, fun p z => nomatch z⟩⟩
 by_cases c1 : q = mv
 ·rw [c1, t.mvd] at e
  cases e
  exact .inr fun z hz => absurd hz (xZ (ds := ms'.map .int) (jz _) z)
 ·by_cases c2 : q = rw_
  ·rw [c2, t.row] at e
   cases e
   refine .inr fun z hz => ?_
   obtain ⟨x, _, hx⟩ := List.mem_map.mp (show AV.ref z ∈ s'.1.map cA from hz)
   cases x <;> cases hx
  ·by_cases c3 : q = p
   ·rw [c3, t.ins] at e
    cases e
    refine .inr fun z hz => ?_
    have hz : AV.ref z ∈ [AV.ref rw_, cA s'.2, AV.ref mv] := hz
    simp only [List.mem_cons, List.not_mem_nil, or_false] at hz
    rcases hz with hz | hz | hz
    ·cases hz; rw [t.row]; exact fun z => nomatch z
    ·cases h : s'.2 <;> rw [h] at hz <;> cases hz
    ·cases hz; rw [t.mvd]; exact fun z => nomatch z
   ·refine .inl ?_
    unfold rmP at e
    rw [zr c1, zr c2, zr c3] at e
    exact e
structure RTx (K : PySem.W.Frag) (C : Addr) : Prop where
 cl : Cls K C
 nr : jb K C "row"
 nh : jb K C "hand"
 nm : jb K C "moved"
noncomputable abbrev wrd (x : String) : List (Str × V) := [("word", .str (Str.ofString x))]
noncomputable def fnW (vs : List V) : List (Str × V) := [("word", vs.getD 0 .non)]
theorem kH {row : List (Option Int)} {a : Nat} (h : a < row.length) : atI (row.map cA) (a : Int) = some (cA (row.getD a none)) /\ ixN (row.map cA).length (a : Int) = some a := by
 have e : ixN (row.map cA).length (a : Int) = some a := by rw [List.length_map, jp (by omega) (by omega), Int.toNat_natCast]
 refine ⟨?_, e⟩
 unfold atI
 rw [e]
 show (row.map cA)[a]? = _
 rw [List.getElem?_map, List.getElem?_eq_getElem h, List.getD_eq_getElem?_getD, List.getElem?_eq_getElem h]; rfl
theorem Zd {ms : List Int} {x : Int} (h0 : 0 <= x) (h1 : x < (ms.length : Int)) : atI (ms.map fun i => AV.d (.int i)) x = some (.d (.int (ms.getD x.toNat 0))) /\ ixN (ms.map fun i => AV.d (Dat.int i)).length x = some x.toNat := by
 have hx : x.toNat < ms.length := by omega
 have e : ixN (ms.map fun i => AV.d (Dat.int i)).length x = some x.toNat := by rw [List.length_map, jp h0 (by omega)]
 refine ⟨?_, e⟩
 unfold atI
 rw [e]
 show (ms.map fun i => AV.d (Dat.int i))[x.toNat]? = _
 rw [List.getElem?_map, List.getElem?_eq_getElem hx, List.getD_eq_getElem?_getD, List.getElem?_eq_getElem hx]; rfl
theorem Ym {ms : List Int} (x : Int) : (ms.map fun i => AV.d (.int i)).set x.toNat (.d (.int (ms.getD x.toNat 0 + 1))) = (jr ms x).map fun i => AV.d (.int i) := by unfold jr; rw [List.map_set]
theorem Xi (row : List (Option Int)) (a : Nat) (c : Option Int) : (row.map cA).set a (cA c) = (row.set a c).map cA := List.map_set.symm
theorem rz {M0 M' M'' : MH} {E0 : AXK} {cB : Addr} {w : Str} (f : yP M0 M' (.d .non) (.d .non) M'') (q : E0 cB [("word", .str w)] M'') : ∃ vs, [KI (.d (.str w))] = List.map some vs /\ vs.length = 1 /\ 1 <= 1000 /\ exA M0 E0 cB (fnW vs) M' := ⟨[.str w], rfl, rfl, by decide, M'', f, q⟩
theorem qi (c : Option Int) : qy (cA c) = c.isNone := by cases c <;> rfl
noncomputable def YJ (C cB : Addr) : ye := fun xs M Q E => ∃ (p rw_ mv : Addr) (s : ES) (ms : List Int) (a : Nat), xs = [.ref p, .d (.int a)] /\ zW C M p rw_ mv s ms /\ a < s.1.length /\ OkM s ms.length /\
 (∀ x, s.1.getD a none = some x -> Q (.d (.int x)) (rmP C M p rw_ mv (s.1.set a none, s.2) (jr ms x))) /\ (s.1.getD a none = none -> E cB (wrd "empty") M)
noncomputable abbrev Qh : Stmt := (qI (top 14) 6)
theorem Q4 : zy ["self", "a", "thing"] ["self", "a"] (zi Qh) := ⟨rfl, rfl, rfl, by decide +kernel, rfl, by decide +kernel, by decide +kernel⟩
theorem K5 {C : Addr} (a : AtM K C "lift" "Room.lift" Qh) (R : RTx K C) (B : Blt mg) {cBadDeed : Addr} (MX_BadDeed : MkX P w K mg base cBadDeed 1 1 fnW) (XG_BadDeed : mg "BadDeed" = some (.ref cBadDeed)) : DmX P w K mg base C "lift" ["self", "a"] 3 (jI (YJ C cBadDeed)) := by
 refine Ki (k := 2) a Q4 (fun _ _ _ _ _ _ us hl => match us, hl with | [_, _], _ => rfl) (fun xs M Q E h => ?_) (fun f cdv A outer s H HX OX MX E1 hr hD => ?_)
 ·obtain ⟨_, _, _, _, _, _, rfl, _⟩ := h; rfl
 have sc := Q4
 have hsl := hsl
 have CL := R.cl
 refine ⟨_, (zc (zL (i := 2) sc.nd rfl (by first | exact Or.inl rfl | exact Or.inr rfl) (zw z0 (zZ (pv 0) rfl) (pv 1) (fun _ _ => rfl)))
  (zc (zI (zo jD (pv 2) zJ (zu _)) (zh (qp hD rfl MX_BadDeed hr rfl XG_BadDeed (za zn zb))) zx)
  (zc (qA zJ (qx (zZ (pv 0) rfl) (pv 1) zE))
  (zc (xU (zZ (pv 0) rfl) (pv 2) j3 zd vP zE)
  (zh (zD (pv 2))))))), ?_⟩
 refine exX (by walk_at "sim") ?_
 rintro xs Q E0 rfl ⟨p, rw_, mv, ⟨row, hd⟩, ms, a, rfl, r, ha, ok, q, qe⟩
 rw [show zU ["self", "a", "thing"] [.ref p, .d (.int a)] = [some (.ref p), some (.d (.int a)), none] from rfl]
 refine zj fun r1 hr1 => ?_
 walk_at "ra"
 obtain ⟨c1, c2⟩ := kH ha
 refine ⟨_, _, r.ins, R.cl, R.nr, _, rfl, _, ql r.row, _, c1, ?_⟩
 subst hr1
 refine zj fun r1 hr1 => ?_
 walk_at "ra"
 cases hx : row.getD a none with
 | none =>
  rw [if_pos (by rw [qi]; rfl)]
  exact rz (qj Fr.refl .non) (qe hx)
 | some x =>
  rw [if_neg (by rw [qi]; exact fun z => nomatch z)]
  subst hr1
  obtain ⟨x0, x1⟩ := ok.1 x (by rw [List.getD_eq_getElem?_getD, List.getElem?_eq_getElem ha] at hx; rw [<- hx]; exact List.getElem_mem ha)
  obtain ⟨m1, m2⟩ := Zd x0 x1
  show v0 _ _ _ _ _ _
  rw [show cA (some x) = .d (.int x) from rfl]
  refine zj fun r1 hr1 => ?_
  walk_at "ra"
  refine ⟨_, _, r.ins, R.cl, R.nr, _, rfl, _, rfl, _, r.row, _, c2, ?_⟩
  rw [show (row.map cA).set a (.d .non) = (row.set a none).map cA from Xi row a none, r.setRow]
  have r2 := r.to (row.set a none, hd) ms
  subst hr1
  walk_at "ra"
  refine ⟨_, _, r2.ins, R.cl, R.nm, _, rfl, _, jL r2.mvd, _, m1, _, rfl, _, rfl, _, r2.mvd, _, m2, ?_⟩
  rw [Ym, r2.setMv, r.again]
  exact ⟨_, _, r.fin _ _ (.int x), q x hx⟩
theorem Qz {s : ES} {n : Nat} (ok : OkM s n) {a : Nat} {x : Int} (ha : a < s.1.length) (h : s.1.getD a none = some x) : 0 <= x /\ x < (n : Int) := ok.1 x (by rw [List.getD_eq_getElem?_getD, List.getElem?_eq_getElem ha] at h; rw [<- h]; exact List.getElem_mem ha)
noncomputable def A7 (C cB : Addr) : ye := fun xs M Q E => ∃ (p rw_ mv : Addr) (s : ES) (ms : List Int) (a b : Nat), xs = [.ref p, .d (.int a), .d (.int b)] /\ zW C M p rw_ mv s ms /\ a < s.1.length /\ b < s.1.length /\ OkM s ms.length /\
 (a = b -> E cB (wrd "same") M) /\ (a ≠ b -> s.1.getD a none = none \/ s.1.getD b none = none -> E cB (wrd "empty") M) /\
 (a ≠ b -> ∀ x y, s.1.getD a none = some x -> s.1.getD b none = some y -> Q (.d .non) (rmP C M p rw_ mv ((s.1.set a (some y)).set b (some x), s.2) (jr (jr ms x) y)))
noncomputable abbrev ZK : Stmt := (qI (top 14) 2)
theorem Jf : zy ["self", "a", "b", "one", "other"] ["self", "a", "b"] (zi ZK) := ⟨rfl, rfl, rfl, by decide +kernel, rfl, by decide +kernel, by decide +kernel⟩
theorem KY {C : Addr} (a : AtM K C "swap" "Room.swap" ZK) (R : RTx K C) (B : Blt mg) {cBadDeed : Addr} (MX_BadDeed : MkX P w K mg base cBadDeed 1 1 fnW) (XG_BadDeed : mg "BadDeed" = some (.ref cBadDeed)) : DmX P w K mg base C "swap" ["self", "a", "b"] 3 (jI (A7 C cBadDeed)) := by
 refine Ki (k := 2) a Jf (fun _ _ _ _ _ _ us hl => match us, hl with | [_, _, _], _ => rfl) (fun xs M Q E h => ?_) (fun f cdv A outer s H HX OX MX E1 hr hD => ?_)
 ·obtain ⟨_, _, _, _, _, _, _, rfl, _⟩ := h; rfl
 have sc := Jf
 have hsl := hsl
 have CL := R.cl
 refine ⟨_, (zc (zI (zo (qc hr.units) (pv 1) (pv 2) (zu _)) (zh (qp hD rfl MX_BadDeed hr rfl XG_BadDeed (za zn zb))) zx)
  (zc (zL (i := 3) sc.nd rfl (by first | exact Or.inl rfl | exact Or.inr rfl) (zw z0 (zZ (pv 0) rfl) (pv 1) (fun _ _ => rfl)))
  (zc (zL (i := 4) sc.nd rfl (by first | exact Or.inl rfl | exact Or.inr rfl) (zw z0 (zZ (pv 0) rfl) (pv 2) (fun _ _ => rfl)))
  (zc (zI (PW.pt (jt (zo jD (pv 3) zJ (zu _)) (jc (zo jD (pv 4) zJ (zu _))))) (zh (qp hD rfl MX_BadDeed hr rfl XG_BadDeed (za zn zb))) zx)
  (zc (qA (pv 4) (qx (zZ (pv 0) rfl) (pv 1) zE))
  (zc (qA (pv 3) (qx (zZ (pv 0) rfl) (pv 2) zE))
  (zc (xU (zZ (pv 0) rfl) (pv 3) j3 zd vP zE)
  (zh (xU (zZ (pv 0) rfl) (pv 4) j3 zd vP zE))))))))), ?_⟩
 refine exX (by walk_at "sim") ?_
 rintro xs Q E0 rfl ⟨p, rw_, mv, ⟨row, hd⟩, ms, a, b, rfl, r, ha, hb, ok, qs, qe, q⟩
 rw [show zU ["self", "a", "b", "one", "other"] [.ref p, .d (.int a), .d (.int b)] = [some (.ref p), some (.d (.int a)), some (.d (.int b)), none, none] from rfl]
 refine zj fun r1 hr1 => ?_
 walk_at "ra"
 by_cases hab : a = b
 ·rw [if_pos (by rw [hab])]
  exact rz (qj Fr.refl .non) (qs hab)
 rw [if_neg (by omega)]
 subst hr1
 obtain ⟨c1, c2⟩ := kH ha
 obtain ⟨d1, d2⟩ := kH hb
 refine zj fun r1 hr1 => ?_
 walk_at "ra"
 refine ⟨_, _, r.ins, R.cl, R.nr, _, rfl, _, ql r.row, _, c1, ?_⟩
 subst hr1
 refine zj fun r1 hr1 => ?_
 walk_at "ra"
 refine ⟨_, _, r.ins, R.cl, R.nr, _, rfl, _, ql r.row, _, d1, ?_⟩
 subst hr1
 refine zj fun r1 hr1 => ?_
 walk_at "ra"
 cases hx : row.getD a none with
 | none =>
  rw [if_pos (by rw [qi]; rfl)]
  exact rz (qj Fr.refl .non) (qe hab (.inl hx))
 | some x =>
  rw [if_neg (by rw [qi]; exact fun z => nomatch z)]
  cases hy : row.getD b none with
  | none =>
   rw [if_pos (by rw [qi]; rfl)]
   exact rz (qj Fr.refl .non) (qe hab (.inr hy))
  | some y =>
   rw [if_neg (by rw [qi]; exact fun z => nomatch z)]
   obtain ⟨x0, x1⟩ := Qz ok ha hx
   obtain ⟨y0, y1⟩ := Qz ok hb hy
   obtain ⟨m1, m2⟩ := Zd x0 x1
   obtain ⟨n1, n2⟩ := Zd (ms := jr ms x) y0 (by rw [wq]; exact y1)
   subst hr1
   rw [show cA (some x) = .d (.int x) from rfl, show cA (some y) = .d (.int y) from rfl]
   refine zj fun r1 hr1 => ?_
   walk_at "ra"
   refine ⟨_, _, r.ins, R.cl, R.nr, _, rfl, _, rfl, _, r.row, _, c2, ?_⟩
   rw [show (row.map cA).set a (.d (.int y)) = (row.set a (some y)).map cA from Xi row a (some y), r.setRow]
   have r2 := r.to (row.set a (some y), hd) ms
   subst hr1
   refine zj fun r1 hr1 => ?_
   walk_at "ra"
   refine ⟨_, _, r2.ins, R.cl, R.nr, _, rfl, _, rfl, _, r2.row, b, by rw [List.length_map, List.length_set, jp (by omega) (by show (b : Int) < row.length; have : b < row.length := hb; omega), Int.toNat_natCast], ?_⟩
   rw [show ((row.set a (some y)).map cA).set b (.d (.int x)) = ((row.set a (some y)).set b (some x)).map cA from Xi _ b (some x), r2.setRow, r.again]
   have r3 := r.to ((row.set a (some y)).set b (some x), hd) ms
   subst hr1
   refine zj fun r1 hr1 => ?_
   walk_at "ra"
   refine ⟨_, _, r3.ins, R.cl, R.nm, _, rfl, _, jL r3.mvd, _, m1, _, rfl, _, rfl, _, r3.mvd, _, m2, ?_⟩
   rw [Ym, r3.setMv, r.again]
   have r4 := r.to ((row.set a (some y)).set b (some x), hd) (jr ms x)
   subst hr1
   walk_at "ra"
   refine ⟨_, _, r4.ins, R.cl, R.nm, _, rfl, _, jL r4.mvd, _, n1, _, rfl, _, rfl, _, r4.mvd, _, n2, ?_⟩
   rw [Ym, r4.setMv, r.again]
   exact ⟨_, _, r.fin _ _ .non, q hab x y hx hy⟩
theorem Zn {a b c y : AV} : ka (Str.ofString "hand") y [(Str.ofString "row", a), (Str.ofString "hand", b), (Str.ofString "moved", c)] = [(Str.ofString "row", a), (Str.ofString "hand", y), (Str.ofString "moved", c)] := by
 unfold ka; rw [if_neg (by decide +kernel)]; unfold ka; rw [if_pos rfl]
noncomputable def K6 (C cB : Addr) : ye := fun xs M Q E => ∃ (p rw_ mv : Addr) (s : ES) (ms : List Int) (a : Nat), xs = [.ref p, .d (.int a)] /\ zW C M p rw_ mv s ms /\ a < s.1.length /\ OkM s ms.length /\
 (s.2 ≠ none -> E cB (wrd "full") M) /\ (s.2 = none -> s.1.getD a none = none -> E cB (wrd "empty") M) /\
 (s.2 = none -> ∀ x, s.1.getD a none = some x -> Q (.d .non) (rmP C M p rw_ mv (s.1.set a none, some x) (jr ms x)))
noncomputable abbrev vN : Stmt := (qI (top 14) 3)
theorem wr : zy ["self", "a"] ["self", "a"] (zi vN) := ⟨rfl, rfl, rfl, by decide +kernel, rfl, by decide +kernel, by decide +kernel⟩
theorem JI {C : Addr} (a : AtM K C "take" "Room.take" vN) (R : RTx K C) (B : Blt mg) {cBadDeed : Addr} (MX_BadDeed : MkX P w K mg base cBadDeed 2 1 fnW) (XG_BadDeed : mg "BadDeed" = some (.ref cBadDeed)) (DM_lift : DmX P w K mg base C "lift" ["self", "a"] 3 (jI (YJ C cBadDeed))) : DmX P w K mg base C "take" ["self", "a"] 4 (jI (K6 C cBadDeed)) := by
 refine Ki (k := 3) a wr (fun _ _ _ _ _ _ us hl => match us, hl with | [_, _], _ => rfl) (fun xs M Q E h => ?_) (fun f cdv A outer s H HX OX MX E1 hr hD => ?_)
 ·obtain ⟨_, _, _, _, _, _, rfl, _⟩ := h; rfl
 have sc := wr
 have hsl := hsl
 have CL := R.cl
 refine ⟨_, (zc (zI (zo qY (zZ (pv 0) rfl) zJ (zu _)) (zh (qp hD rfl MX_BadDeed hr rfl XG_BadDeed (za zn zb))) zx)
  (zh (yy (pv 0) (kG CL DM_lift hr hD.passX (pv 0) (za (pv 1) zb)) rfl))), ?_⟩
 refine exX (by walk_at "sim") ?_
 rintro xs Q E0 rfl ⟨p, rw_, mv, ⟨row, hd⟩, ms, a, rfl, r, ha, ok, qf, qe, q⟩
 rw [show zU ["self", "a"] [.ref p, .d (.int a)] = [some (.ref p), some (.d (.int a))] from rfl]
 refine zj fun r1 hr1 => ?_
 walk_at "ra"
 refine ⟨_, _, r.ins, R.cl, R.nh, _, rfl, ?_⟩
 cases hd with
 | some x =>
  rw [if_pos (by rw [qi]; rfl)]
  exact rz (qj Fr.refl .non) (qf (fun z => nomatch z))
 | none =>
  rw [if_neg (by rw [qi]; exact fun z => nomatch z)]
  subst hr1
  walk_at "ra"
  refine ⟨_, r.ins, rfl, p, rw_, mv, (row, none), ms, a, rfl, r, ha, ok, fun x hx => ?_, fun hx => ⟨_, qj Fr.refl .non, qe rfl hx⟩⟩
  have r2 := r.to (row.set a none, none) (jr ms x)
  refine ⟨_, _, r2.ins, R.cl, R.nh, Nat.lt_of_sub_eq_succ rfl, ?_⟩
  rw [Zn, show AV.d (.int x) = cA (some x) from rfl, r2.setHand, r.again]
  exact ⟨_, _, r.fin _ _ .non, q rfl x hx⟩
noncomputable def Aw (C cB : Addr) : ye := fun xs M Q E => ∃ (p rw_ mv : Addr) (s : ES) (ms : List Int) (a b : Nat), xs = [.ref p, .d (.int a), .d (.int b)] /\ zW C M p rw_ mv s ms /\ a < s.1.length /\ b < s.1.length /\ OkM s ms.length /\
 (a = b -> E cB (wrd "same") M) /\ (a ≠ b -> s.1.getD b none ≠ none -> E cB (wrd "full") M) /\ (a ≠ b -> s.1.getD b none = none -> s.1.getD a none = none -> E cB (wrd "empty") M) /\
 (a ≠ b -> s.1.getD b none = none -> ∀ x, s.1.getD a none = some x -> Q (.d .non) (rmP C M p rw_ mv ((s.1.set a none).set b (some x), s.2) (jr ms x)))
noncomputable abbrev Qs : Stmt := (qI (top 14) 4)
theorem QO : zy ["self", "a", "b"] ["self", "a", "b"] (zi Qs) := ⟨rfl, rfl, rfl, by decide +kernel, rfl, by decide +kernel, by decide +kernel⟩
theorem K7 {C : Addr} (a : AtM K C "move" "Room.move" Qs) (R : RTx K C) (B : Blt mg) {cBadDeed : Addr} (MX_BadDeed : MkX P w K mg base cBadDeed 2 1 fnW) (XG_BadDeed : mg "BadDeed" = some (.ref cBadDeed)) (DM_lift : DmX P w K mg base C "lift" ["self", "a"] 3 (jI (YJ C cBadDeed))) : DmX P w K mg base C "move" ["self", "a", "b"] 4 (jI (Aw C cBadDeed)) := by
 refine Ki (k := 3) a QO (fun _ _ _ _ _ _ us hl => match us, hl with | [_, _, _], _ => rfl) (fun xs M Q E h => ?_) (fun f cdv A outer s H HX OX MX E1 hr hD => ?_)
 ·obtain ⟨_, _, _, _, _, _, _, rfl, _⟩ := h; rfl
 have sc := QO
 have hsl := hsl
 have CL := R.cl
 refine ⟨_, (zc (zI (zo (qc hr.units) (pv 1) (pv 2) (zu _)) (zh (qp hD rfl MX_BadDeed hr rfl XG_BadDeed (za zn zb))) zx)
  (zc (zI (zo qY (zw z0 (zZ (pv 0) rfl) (pv 2) (fun _ _ => rfl)) zJ (zu _)) (zh (qp hD rfl MX_BadDeed hr rfl XG_BadDeed (za zn zb))) zx)
  (zh (qA (kG CL DM_lift hr hD.passX (pv 0) (za (pv 1) zb)) (qx (zZ (pv 0) rfl) (pv 2) zE))))), ?_⟩
 refine exX (by walk_at "sim") ?_
 rintro xs Q E0 rfl ⟨p, rw_, mv, ⟨row, hd⟩, ms, a, b, rfl, r, ha, hb, ok, qs, qf, qe, q⟩
 rw [show zU ["self", "a", "b"] [.ref p, .d (.int a), .d (.int b)] = [some (.ref p), some (.d (.int a)), some (.d (.int b))] from rfl]
 refine zj fun r1 hr1 => ?_
 walk_at "ra"
 by_cases hab : a = b
 ·rw [if_pos (by rw [hab])]
  exact rz (qj Fr.refl .non) (qs hab)
 rw [if_neg (by omega)]
 subst hr1
 obtain ⟨d1, d2⟩ := kH hb
 refine zj fun r1 hr1 => ?_
 walk_at "ra"
 refine ⟨_, _, r.ins, R.cl, R.nr, _, rfl, _, ql r.row, _, d1, ?_⟩
 cases hy : row.getD b none with
 | some y =>
  rw [if_pos (by rw [qi]; rfl)]
  exact rz (qj Fr.refl .non) (qf hab (by rw [hy]; exact fun z => nomatch z))
 | none =>
  rw [if_neg (by rw [qi]; exact fun z => nomatch z)]
  subst hr1
  walk_at "ra"
  refine ⟨_, r.ins, rfl, p, rw_, mv, (row, hd), ms, a, rfl, r, ha, ok, fun x hx => ?_, fun hx => ⟨_, qj Fr.refl .non, qe hab hy hx⟩⟩
  have r2 := r.to (row.set a none, hd) (jr ms x)
  refine ⟨_, _, r2.ins, R.cl, R.nr, _, rfl, _, rfl, _, r2.row, b, by rw [List.length_map, List.length_set, jp (by omega) (by show (b : Int) < row.length; have : b < row.length := hb; omega), Int.toNat_natCast], ?_⟩
  rw [show ((row.set a none).map cA).set b (.d (.int x)) = ((row.set a none).set b (some x)).map cA from Xi _ b (some x), r2.setRow, r.again]
  exact ⟨_, _, r.fin _ _ .non, q hab hy x hx⟩
noncomputable def Fm (C cB : Addr) : ye := fun xs M Q E => ∃ (p rw_ mv : Addr) (s : ES) (ms : List Int) (b : Nat), xs = [.ref p, .d (.int b)] /\ zW C M p rw_ mv s ms /\ b < s.1.length /\ OkM s ms.length /\
 (s.1.getD b none ≠ none -> E cB (wrd "full") M) /\ (s.1.getD b none = none -> s.2 = none -> E cB (wrd "empty") M) /\
 (s.1.getD b none = none -> ∀ x, s.2 = some x -> Q (.d .non) (rmP C M p rw_ mv (s.1.set b (some x), none) (jr ms x)))
noncomputable abbrev X5 : Stmt := (qI (top 14) 5)
theorem Yv : zy ["self", "b"] ["self", "b"] (zi X5) := ⟨rfl, rfl, rfl, by decide +kernel, rfl, by decide +kernel, by decide +kernel⟩
theorem WS {C : Addr} (a : AtM K C "lay" "Room.lay" X5) (R : RTx K C) (B : Blt mg) {cBadDeed : Addr} (MX_BadDeed : MkX P w K mg base cBadDeed 1 1 fnW) (XG_BadDeed : mg "BadDeed" = some (.ref cBadDeed)) : DmX P w K mg base C "lay" ["self", "b"] 3 (jI (Fm C cBadDeed)) := by
 refine Ki (k := 2) a Yv (fun _ _ _ _ _ _ us hl => match us, hl with | [_, _], _ => rfl) (fun xs M Q E h => ?_) (fun f cdv A outer s H HX OX MX E1 hr hD => ?_)
 ·obtain ⟨_, _, _, _, _, _, rfl, _⟩ := h; rfl
 have sc := Yv
 have hsl := hsl
 have CL := R.cl
 refine ⟨_, (zc (zI (zo qY (zw z0 (zZ (pv 0) rfl) (pv 1) (fun _ _ => rfl)) zJ (zu _)) (zh (qp hD rfl MX_BadDeed hr rfl XG_BadDeed (za zn zb))) zx)
  (zc (zI (zo jD (zZ (pv 0) rfl) zJ (zu _)) (zh (qp hD rfl MX_BadDeed hr rfl XG_BadDeed (za zn zb))) zx)
  (zc (qA (zZ (pv 0) rfl) (qx (zZ (pv 0) rfl) (pv 1) zE))
  (zc (xU (zZ (pv 0) rfl) (zZ (pv 0) rfl) j3 zd vP zE)
  (zh (yy (pv 0) zJ rfl)))))), ?_⟩
 refine exX (by walk_at "sim") ?_
 rintro xs Q E0 rfl ⟨p, rw_, mv, ⟨row, hd⟩, ms, b, rfl, r, hb, ok, qf, qe, q⟩
 rw [show zU ["self", "b"] [.ref p, .d (.int b)] = [some (.ref p), some (.d (.int b))] from rfl]
 obtain ⟨d1, d2⟩ := kH hb
 refine zj fun r1 hr1 => ?_
 walk_at "ra"
 refine ⟨_, _, r.ins, R.cl, R.nr, _, rfl, _, ql r.row, _, d1, ?_⟩
 cases hy : row.getD b none with
 | some y =>
  rw [if_pos (by rw [qi]; rfl)]
  exact rz (qj Fr.refl .non) (qf (by rw [hy]; exact fun z => nomatch z))
 | none =>
  rw [if_neg (by rw [qi]; exact fun z => nomatch z)]
  subst hr1
  refine zj fun r1 hr1 => ?_
  walk_at "ra"
  refine ⟨_, _, r.ins, R.cl, R.nh, _, rfl, ?_⟩
  cases hd with
  | none =>
   rw [if_pos (by rw [qi]; rfl)]
   exact rz (qj Fr.refl .non) (qe hy rfl)
  | some x =>
   rw [if_neg (by rw [qi]; exact fun z => nomatch z)]
   obtain ⟨x0, x1⟩ := ok.2 x rfl
   obtain ⟨m1, m2⟩ := Zd x0 x1
   subst hr1
   refine zj fun r1 hr1 => ?_
   walk_at "ra"
   refine ⟨_, _, r.ins, R.cl, R.nh, _, rfl, _, _, r.ins, R.cl, R.nr, _, rfl, _, rfl, _, r.row, _, d2, ?_⟩
   rw [show (row.map cA).set b (cA (some x)) = (row.set b (some x)).map cA from Xi row b (some x), r.setRow]
   have r2 := r.to (row.set b (some x), some x) ms
   subst hr1
   refine zj fun r1 hr1 => ?_
   walk_at "ra"
   refine ⟨_, _, r2.ins, R.cl, R.nm, _, rfl, _, _, r2.ins, R.cl, R.nh, _, rfl, _, jL r2.mvd, _, rfl, _, m1, _, rfl, _, rfl, _, _, rfl, r2.mvd, _, m2, ?_⟩
   rw [Ym, r2.setMv, r.again]
   have r3 := r.to (row.set b (some x), some x) (jr ms x)
   subst hr1
   walk_at "ra"
   refine ⟨_, _, r3.ins, R.cl, R.nh, Nat.lt_of_sub_eq_succ rfl, ?_⟩
   rw [Zn, show AV.d .non = cA none from rfl, r3.setHand, r.again]
   exact ⟨_, _, r.fin _ _ .non, q hy x rfl⟩
noncomputable abbrev kj : Stmt := top 10
theorem xF : zy ["thing", "n"] ["thing", "n"] (zi kj) := ⟨rfl, rfl, rfl, by decide +kernel, rfl, by decide +kernel, by decide +kernel⟩
noncomputable def zY (d : Dat) (n : Int) : Bool := match d with
 | .int i => decide (0 <= i /\ i < n)
 | _ => false
noncomputable def Zw : ASp := fun xs M Q => ∃ (d : Dat) (n : Int), xs = [.d d, .d (.int n)] /\ dp d <= 100 /\ Q (.d (.bl (zY d n))) M
theorem w8 (a : At K mg "is_place" kj) (B : Blt mg) : Df P w K mg base "is_place" ["thing", "n"] 1 (cSp Zw) := by
 refine dfA (k := 0) a xF (fun _ _ _ _ _ _ us hl => match us, hl with | [_, _], _ => rfl) (fun xs M Q h => ?_) (fun f cdv A outer s H E hr => ?_)
 ·obtain ⟨_, _, rfl, _⟩ := h; rfl
 have sc := xF
 have hsl := hsl
 refine ⟨_, (zc (zI (PW.pt (jt (qC (zm zN rfl B.isinstance zq (za (pv 0) (za (zS (v := .ty "bool") rfl B.bool xX rfl) zb))) (fun _ => rfl)) (jc (ji (qC (zm zN rfl B.isinstance zq (za (pv 0) (za (zS (v := .ty "int") rfl B.int kz rfl) zb))) (fun _ => rfl)))))) (zh (zD kh)) zx)
  (zh (zD (YL AB Ar zd (pv 0) (pv 1))))), ?_⟩
 refine ex2 (by walk_at "sim") ?_
 rintro xs M Q ⟨d, n, rfl, hd, q⟩
 rw [show zU ["thing", "n"] [.d d, .d (.int n)] = [some (.d d), some (.d (.int n))] from rfl]
 have fin := fun b => qj (M0 := M) Fr.refl (.bl b)
 cases d with
 | non => walk_at "ra"; exact ⟨_, _, fin _, q⟩
 | bl b => walk_at "ra"; exact ⟨_, _, fin _, q⟩
 | str b => walk_at "ra"; exact ⟨_, _, fin _, q⟩
 | lst b => walk_at "ra"; exact ⟨_, _, fin _, q⟩
 | tup b => walk_at "ra"; exact ⟨_, _, fin _, q⟩
 | int i =>
  walk_at "ra"
  have q : Q (.d (.bl (decide (0 <= i /\ i < n)))) M := q
  by_cases c : 0 <= i
  ·rw [if_pos c]
   rw [show decide (0 <= i /\ i < n) = decide (i < n) by simp [c]] at q
   walk_at "ra"
   exact ⟨_, _, fin _, q⟩
  ·rw [if_neg c]
   rw [show decide (0 <= i /\ i < n) = false by simp [c]] at q
   walk_at "ra"
   exact ⟨_, _, fin _, q⟩
 | ty _ => rw [dp] at hd; omega
 | rng _ _ _ => rw [dp] at hd; omega
 | scr _ _ => rw [dp] at hd; omega
noncomputable abbrev WY : List (Key × V) := [(Sum.inr (Str.ofString "swap"), .int 2), (Sum.inr (Str.ofString "take"), .int 1), (Sum.inr (Str.ofString "move"), .int 2), (Sum.inr (Str.ofString "lay"), .int 1)]
noncomputable def qK (w : Str) : Option Int := if w = Str.ofString "swap" then some 2 else if w = Str.ofString "take" then some 1 else if w = Str.ofString "move" then some 2 else if w = Str.ofString "lay" then some 1 else none
noncomputable def oD : Option Int -> Dat
 | none => .non
 | some x => .int x
theorem DV (w : Str) : QM ((ym WY (Sum.inr w)).getD .non) = some (oD (qK w)) := by
 unfold qK ym
 by_cases c1 : w = Str.ofString "swap"
 ·subst c1; rfl
 rw [if_neg c1]
 by_cases c2 : w = Str.ofString "take"
 ·subst c2; rfl
 rw [if_neg c2]
 by_cases c3 : w = Str.ofString "move"
 ·subst c3; rfl
 rw [if_neg c3]
 by_cases c4 : w = Str.ofString "lay"
 ·subst c4; rfl
 rw [if_neg c4]
 have n : ∀ x : Str, w ≠ x -> ¬ decide ((Sum.inr x : Key) = Sum.inr w) = true := fun x h z => h (Sum.inr.inj (of_decide_eq_true z)).symm
 simp only [List.find?_cons, n _ c1, n _ c2, n _ c3, n _ c4, List.find?_nil]
 rfl
theorem vR : ∀ {l : List Dat} {n : Nat}, dps l <= n -> ∀ d ∈ l, dp d <= n
 | a :: r, n, h, d, hd => by
  rw [dps] at h
  rcases List.mem_cons.mp hd with rfl | hd
  ·omega
  ·exact vR (by omega) d hd
noncomputable def zV (x : Dat) (n : Int) : Bool := match x with
 | .tup (.str w :: ps) => qK w == some (ps.length : Int) && ps.all (zY · n)
 | _ => false
noncomputable def Jg : ASp := fun xs M Q => ∃ (x : Dat) (n : Int), xs = [.d x, .d (.int n)] /\ dp x <= 40 /\ (∀ l, x = .tup l -> l.length <= 1000) /\ Q (.d (.bl (zV x n))) M
noncomputable abbrev yg : Stmt := top 13
theorem vi : zy ["thing", "n", "word", "part"] ["thing", "n"] (zi yg) := ⟨rfl, rfl, rfl, by decide +kernel, rfl, by decide +kernel, by decide +kernel⟩
theorem Kn (a : At K mg "is_deed" yg) (B : Blt mg) (Ball : mg "all" = none) (D_is_place : Df P w K mg base "is_place" ["thing", "n"] 1 (cSp Zw)) {pa : Addr} (KP : KD K w pa WY) (MP : mg "PLACES_OF" = some (.ref pa)) : Df P w K mg base "is_deed" ["thing", "n"] 2 (cSp Jg) := by
 refine dfA (k := 1) a vi (fun _ _ _ _ _ _ us hl => match us, hl with | [_, _], _ => rfl) (fun xs M Q h => ?_) (fun f cdv A outer s H E hr => ?_)
 ·obtain ⟨_, _, rfl, _⟩ := h; rfl
 have sc := vi
 have hsl := hsl
 refine ⟨_, (zc (zI (PW.pt (jt (ji (qC (zm zN rfl B.isinstance zq (za (pv 0) (za (zS (v := .ty "tuple") rfl B.tuple qL rfl) zb))) (fun _ => rfl))) (jc (zo (qc hr.units) (zm zv rfl B.len qb (za (pv 0) zb)) zd (zu _))))) (zh (zD kh)) zx)
  (zc (zL (i := 2) sc.nd rfl (by first | exact Or.inl rfl | exact Or.inr rfl) (zw z0 (pv 0) zd (fun _ _ => rfl)))
  (zc (zI (PW.pt (jt (ji (qC (zm zN rfl B.isinstance zq (za (pv 2) (za (zS (v := .ty "str") rfl B.str yj rfl) zb))) (fun _ => rfl))) (jc (zo (yu hr.units) (Wg KP rfl MP (pv 2) ⟨rfl, rfl, rfl, rfl⟩) (zz kC (zm zv rfl B.len qb (za (pv 0) zb)) zd) (zu _))))) (zh (zD kh)) zx)
  (zh (zD (zm (y8 rfl) rfl Ball Vm (za (vS (ts := [3]) rfl rfl (vj (qZ yC (pv 0) (qV zd) kZ)) (fun _ _ _ _ => (zQ (i := 3) sc.nd rfl (by first | exact Or.inl rfl | exact Or.inr rfl))) (fun _ _ _ _ => kW) (fun _ _ _ _ => (zX D_is_place hr rfl (za (pv 3) (za (pv 1) zb))))) zb))))))), ?_⟩
 refine ex2 (by walk_at "sim") ?_
 rintro xs M Q ⟨x, n, rfl, hd, hl, q⟩
 rw [show zU ["thing", "n", "word", "part"] [.d x, .d (.int n)] = [some (.d x), some (.d (.int n)), none, none] from rfl]
 have fin := fun b => qj (M0 := M) Fr.refl (.bl b)
 cases x with
 | non => walk_at "ra"; exact ⟨_, _, fin _, q⟩
 | bl b => walk_at "ra"; exact ⟨_, _, fin _, q⟩
 | str b => walk_at "ra"; exact ⟨_, _, fin _, q⟩
 | lst b => walk_at "ra"; exact ⟨_, _, fin _, q⟩
 | int i => walk_at "ra"; exact ⟨_, _, fin _, q⟩
 | ty _ => rw [dp] at hd; omega
 | rng _ _ _ => rw [dp] at hd; omega
 | scr _ _ => rw [dp] at hd; omega
 | tup l =>
  have hl := hl l rfl
  refine zj fun r1 hr1 => ?_
  walk_at "ra"
  cases l with
  | nil => walk_at "ra"; exact ⟨_, _, fin _, q⟩
  | cons w ps =>
   rw [if_neg (by rw [List.length_cons]; omega)]
   subst hr1
   refine zj fun r1 hr1 => ?_
   walk_at "ra"
   have a0 : atI (AV.d w :: ps.map AV.d) 0 = some (.d w) := by
    unfold atI
    rw [jp (by omega) (by rw [List.length_cons]; omega)]
    rfl
   refine ⟨_, a0, ?_⟩
   have dw : dps (w :: ps) <= 39 := by rw [dp] at hd; omega
   have dwi : ∀ d ∈ w :: ps, dp d <= 39 := vR dw
   subst hr1
   refine zj fun r1 hr1 => ?_
   have no : (∀ t, w ≠ .str t) -> Q (.d (.bl false)) M := fun h => by
    have e : zV (.tup (w :: ps)) n = false := by
     unfold zV
     split
     ·rename_i w' ps' z
      cases z
      exact absurd rfl (h _)
     ·rfl
    rw [e] at q; exact q
   have dpw := dwi w List.mem_cons_self
   cases w with
   | non => walk_at "ra"; exact ⟨_, _, fin _, no fun _ z => nomatch z⟩
   | bl b => walk_at "ra"; exact ⟨_, _, fin _, no fun _ z => nomatch z⟩
   | lst b => walk_at "ra"; exact ⟨_, _, fin _, no fun _ z => nomatch z⟩
   | tup b => walk_at "ra"; exact ⟨_, _, fin _, no fun _ z => nomatch z⟩
   | int i => walk_at "ra"; exact ⟨_, _, fin _, no fun _ z => nomatch z⟩
   | ty _ => rw [dp] at dpw; omega
   | rng _ _ _ => rw [dp] at dpw; omega
   | scr _ _ => rw [dp] at dpw; omega
   | str t =>
    walk_at "ra"
    refine ⟨_, DV t, ?_, ?_⟩
    ·cases qK t <;> simp [oD, dp]
    have ee : eqD (oD (qK t)) (.int (((ps.length + 1 : Nat) : Int) - 1)) = (qK t == some (ps.length : Int)) := by
     cases qK t with
     | none => show eqD .non (.int _) = _; rw [Xj]; rfl
     | some k =>
      show eqD (.int k) (.int _) = _
      rw [wf, show ((ps.length + 1 : Nat) : Int) - 1 = ps.length by omega]
      by_cases c : k = (ps.length : Int)
      ·simp [c]
      ·simp [c]
    rw [ee]
    have q : Q (.d (.bl (qK t == some (ps.length : Int) && ps.all (zY · n)))) M := q
    cases hp : qK t == some (ps.length : Int) with
    | false =>
     rw [if_pos rfl]
     rw [hp, Bool.false_and] at q
     exact ⟨_, _, fin _, q⟩
    | true =>
     rw [if_neg (fun z => nomatch z)]
     rw [hp, Bool.true_and] at q
     subst hr1
     walk_at "ra"
     have ec : kN (Dat.str t :: ps) (some 1) none = ps := by
      rw [show (some 1 : Option Int) = some ((1 : Nat) : Int) from rfl, xr]; rfl
     rw [ec]
     refine ⟨?_, ?_⟩
     ·rintro ⟨z, _⟩
      unfold HT.sIx at z
      simp at z
      try omega
     refine vG (fun (o : Option AV) => [some (.d (.tup (.str t :: ps))), some (.d (.int n)), some (.d (.str t)), o]) (fun x => match x with | .d d => .d (.bl (zY d n)) | x => x) ⟨_, rfl⟩ trivial (by rw [List.length_map]; rw [List.length_cons] at hl; omega) (fun o x Q hx q => ?_) fun o => ?_
     ·obtain ⟨d, hd, rfl⟩ := List.mem_map.mp hx
      walk_at "ra"
      exact ⟨d, n, rfl, by have := dwi d (List.mem_cons_of_mem _ hd); omega, q (some (.d d))⟩
     ·refine ⟨ps.map fun d => .bl (zY d n), by rw [List.map_map, <- qk (ps.map fun d => .bl (zY d n)), List.map_map]; rfl, ps.map (zY · n), by rw [List.map_map, List.map_map]; rfl, ?_⟩
      rw [List.all_map]
      exact ⟨_, _, fin _, q⟩
theorem Ks {K : PySem.W.Frag} {w : World} {pa : Addr} {t1 t2 t3 t4 u1 u2 u3 u4 : Tok} {ep : Nat} (lP : K.lookup pa = some ⟨.type "dict", none, .dict #[⟨hashStr w "swap", .str "swap" t1, .int 2 u1⟩, ⟨hashStr w "take", .str "take" t2, .int 1 u2⟩, ⟨hashStr w "move", .str "move" t3, .int 2 u3⟩, ⟨hashStr w "lay", .str "lay" t4, .int 1 u4⟩] ep, #[]⟩) (nP : (pa == sysModules) = false) : KD K w pa WY := by
 refine ⟨⟨_, _, lP, fun P => ?_⟩, nP⟩
 refine ⟨fun e he => ?_, [(Sum.inr "swap", .int 2 u1), (Sum.inr "take", .int 1 u2), (Sum.inr "move", .int 2 u3), (Sum.inr "lay", .int 1 u4)], ?_, ?_, by show ([Sum.inr (Str.ofString "swap"), Sum.inr (Str.ofString "take"), Sum.inr (Str.ofString "move"), Sum.inr (Str.ofString "lay")] : List Key).Nodup; decide +kernel⟩
 ·have he : e ∈ [_, _, _, _] := Array.mem_toList_iff.mpr he
  rcases List.mem_cons.mp he with z | he
  ·exact ⟨Sum.inr "swap", by rw [z]; rfl, by rw [z]; rfl⟩
  rcases List.mem_cons.mp he with z | he
  ·exact ⟨Sum.inr "take", by rw [z]; rfl, by rw [z]; rfl⟩
  rcases List.mem_cons.mp he with z | he
  ·exact ⟨Sum.inr "move", by rw [z]; rfl, by rw [z]; rfl⟩
  rw [List.mem_singleton.mp he]
  exact ⟨Sum.inr "lay", rfl, rfl⟩
 ·exact .cons ⟨rfl, _, rfl⟩ (.cons ⟨rfl, _, rfl⟩ (.cons ⟨rfl, _, rfl⟩ (.cons ⟨rfl, _, rfl⟩ .nil)))
 ·exact .cons rfl rfl (.cons rfl rfl (.cons rfl rfl (.cons rfl rfl .nil)))
noncomputable abbrev RS := ES × List Int
noncomputable def qH (s : ES) (ms : List Int) (a b : Nat) : Except String RS := if a = b then .error "same" else match s.1.getD a none, s.1.getD b none with
 | some x, some y => .ok (((s.1.set a (some y)).set b (some x), s.2), jr (jr ms x) y)
 | _, _ => .error "empty"
noncomputable def qz (s : ES) (ms : List Int) (a b : Nat) : Except String RS := if a = b then .error "same" else match s.1.getD b none with
 | some _ => .error "full"
 | none => match s.1.getD a none with
  | some x => .ok (((s.1.set a none).set b (some x), s.2), jr ms x)
  | none => .error "empty"
noncomputable def qN (s : ES) (ms : List Int) (a : Nat) : Except String RS := match s.2 with
 | some _ => .error "full"
 | none => match s.1.getD a none with
  | some x => .ok ((s.1.set a none, some x), jr ms x)
  | none => .error "empty"
noncomputable def jE (s : ES) (ms : List Int) (b : Nat) : Except String RS := match s.1.getD b none with
 | some _ => .error "full"
 | none => match s.2 with
  | some x => .ok ((s.1.set b (some x), none), jr ms x)
  | none => .error "empty"
noncomputable def iN : Dat -> Nat
 | .int i => i.toNat
 | _ => 0
noncomputable def doR (s : ES) (ms : List Int) (x : Dat) : Except String RS := if zV x s.1.length = true then (match x with
  | .tup (.str w :: ps) => if w = Str.ofString "swap" then qH s ms (iN (ps.getD 0 .non)) (iN (ps.getD 1 .non)) else if w = Str.ofString "take" then qN s ms (iN (ps.getD 0 .non)) else if w = Str.ofString "move" then qz s ms (iN (ps.getD 0 .non)) (iN (ps.getD 1 .non)) else jE s ms (iN (ps.getD 0 .non))
  | _ => .error "form") else .error "form"
theorem xm {x : Dat} {n : Nat} (h : zV x n = true) : ∃ (w : Str) (ps : List Dat), x = .tup (.str w :: ps) /\ qK w = some (ps.length : Int) /\ ∀ d ∈ ps, ∃ k : Nat, d = .int k /\ k < n := by
 unfold zV at h
 split at h
 ·rename_i w ps
  rw [Bool.and_eq_true] at h
  refine ⟨w, ps, rfl, eq_of_beq h.1, fun d hd => ?_⟩
  have := List.all_eq_true.mp h.2 d hd
  cases d with
  | int i =>
   have : decide (0 <= i /\ i < (n : Int)) = true := this
   have := of_decide_eq_true this
   exact ⟨i.toNat, by rw [Int.toNat_of_nonneg this.1], by omega⟩
  | _ => cases this
 ·cases h
theorem xC {w : Str} {ps : List Dat} {n : Nat} (h : qK w = some (ps.length : Int)) (hp : ∀ d ∈ ps, ∃ k : Nat, d = .int k /\ k < n) (hw : w = Str.ofString "swap" \/ w = Str.ofString "move") : ∃ a b : Nat, ps = [.int a, .int b] /\ a < n /\ b < n := by
 have e : qK w = some 2 := by rcases hw with rfl | rfl <;> rfl
 rw [e] at h
 have hl : ps.length = 2 := by injection h with h; omega
 match ps, hl with
 | [x, y], _ =>
  obtain ⟨a, rfl, ha⟩ := hp x (by simp)
  obtain ⟨b, rfl, hb⟩ := hp y (by simp)
  exact ⟨a, b, rfl, ha, hb⟩
theorem xf {w : Str} {ps : List Dat} {n : Nat} (h : qK w = some (ps.length : Int)) (hp : ∀ d ∈ ps, ∃ k : Nat, d = .int k /\ k < n) (h1 : w ≠ Str.ofString "swap") (h2 : w ≠ Str.ofString "move") : ∃ a : Nat, ps = [.int a] /\ a < n := by
 have e : qK w = some 1 \/ qK w = none := by
  unfold qK
  rw [if_neg h1]
  by_cases c : w = Str.ofString "take"
  ·rw [if_pos c]; exact .inl rfl
  rw [if_neg c, if_neg h2]
  by_cases c : w = Str.ofString "lay"
  ·rw [if_pos c]; exact .inl rfl
  rw [if_neg c]; exact .inr rfl
 rcases e with e | e <;> rw [e] at h
 ·have hl : ps.length = 1 := by injection h with h; omega
  match ps, hl with
  | [x], _ =>
   obtain ⟨a, rfl, ha⟩ := hp x (by simp)
   exact ⟨a, rfl, ha⟩
 ·cases h
noncomputable def aDo (C cB : Addr) : ye := fun xs M Q E => ∃ (p rw_ mv : Addr) (s : ES) (ms : List Int) (x : Dat), xs = [.ref p, .d x] /\ zW C M p rw_ mv s ms /\ OkM s ms.length /\ dp x <= 40 /\ (∀ l, x = .tup l -> l.length <= 1000) /\
 (∀ w, doR s ms x = .error w -> E cB (wrd w) M) /\ (∀ t, doR s ms x = .ok t -> Q (.d .non) (rmP C M p rw_ mv t.1 t.2))
noncomputable abbrev Dl : Stmt := (qI (top 14) 1)
theorem AH : zy ["self", "thing", "word"] ["self", "thing"] (zi Dl) := ⟨rfl, rfl, rfl, by decide +kernel, rfl, by decide +kernel, by decide +kernel⟩
theorem Ea {C : Addr} (a : AtM K C "do" "Room.do" Dl) (R : RTx K C) (B : Blt mg) {cBadDeed : Addr} (MX_BadDeed : MkX P w K mg base cBadDeed 3 1 fnW) (XG_BadDeed : mg "BadDeed" = some (.ref cBadDeed)) (D_is_deed : Df P w K mg base "is_deed" ["thing", "n"] 4 (cSp Jg)) (DM_swap : DmX P w K mg base C "swap" ["self", "a", "b"] 4 (jI (A7 C cBadDeed))) (DM_take : DmX P w K mg base C "take" ["self", "a"] 4 (jI (K6 C cBadDeed))) (DM_move : DmX P w K mg base C "move" ["self", "a", "b"] 4 (jI (Aw C cBadDeed))) (DM_lay : DmX P w K mg base C "lay" ["self", "b"] 4 (jI (Fm C cBadDeed))) : DmX P w K mg base C "do" ["self", "thing"] 5 (jI (aDo C cBadDeed)) := by
 refine Ki (k := 4) a AH (fun _ _ _ _ _ _ us hl => match us, hl with | [_, _], _ => rfl) (fun xs M Q E h => ?_) (fun f cdv A outer s H HX OX MX E1 hr hD => ?_)
 ·obtain ⟨_, _, _, _, _, _, rfl, _⟩ := h; rfl
 have sc := AH
 have hsl := hsl
 have CL := R.cl
 refine ⟨_, (zc (zI (ji (qC (zX D_is_deed hr rfl (za (pv 1) (za (zm zv rfl B.len qb (za (zZ (pv 0) rfl) zb)) zb))) (fun _ => rfl))) (zh (qp hD rfl MX_BadDeed hr rfl XG_BadDeed (za zn zb))) zx)
  (zc (zL (i := 2) sc.nd rfl (by first | exact Or.inl rfl | exact Or.inr rfl) (zw z0 (pv 1) zd (fun _ _ => rfl)))
  (zh (zI (zo (qc hr.units) (pv 2) zn (zu _)) (zh (qW (kG CL DM_swap hr hD.passX (pv 0) (za (zw z0 (pv 1) zd (fun _ _ => rfl)) (za (zw z0 (pv 1) zd (fun _ _ => rfl)) zb))))) (zh (zI (zo (qc hr.units) (pv 2) zn (zu _)) (zh (qW (kG CL DM_take hr hD.passX (pv 0) (za (zw z0 (pv 1) zd (fun _ _ => rfl)) zb)))) (zh (zI (zo (qc hr.units) (pv 2) zn (zu _)) (zh (qW (kG CL DM_move hr hD.passX (pv 0) (za (zw z0 (pv 1) zd (fun _ _ => rfl)) (za (zw z0 (pv 1) zd (fun _ _ => rfl)) zb))))) (zh (qW (kG CL DM_lay hr hD.passX (pv 0) (za (zw z0 (pv 1) zd (fun _ _ => rfl)) zb)))))))))))), ?_⟩
 refine exX (by walk_at "sim") ?_
 rintro xs Q E0 rfl ⟨p, rw_, mv, ⟨row, hd⟩, ms, x, rfl, r, ok, hdp, hl, qe, q⟩
 rw [show zU ["self", "thing", "word"] [.ref p, .d x] = [some (.ref p), some (.d x), none] from rfl]
 refine zj fun r1 hr1 => ?_
 walk_at "ra"
 refine ⟨_, _, r.ins, R.cl, R.nr, _, rfl, _, ql r.row, x, row.length, by rw [List.length_map], hdp, hl, _, rfl, ?_⟩
 cases hf : zV x row.length with
 | false =>
  rw [if_pos rfl]
  exact rz (qj Fr.refl .non) (qe "form" (by unfold doR; rw [if_neg (by show ¬ zV x row.length = true; rw [hf]; exact fun z => nomatch z)]))
 | true =>
  rw [if_neg (fun z => nomatch z)]
  obtain ⟨w, ps, rfl, hpl, hps⟩ := xm hf
  have ed : doR (row, hd) ms (.tup (.str w :: ps)) = if w = Str.ofString "swap" then qH (row, hd) ms (iN (ps.getD 0 .non)) (iN (ps.getD 1 .non)) else if w = Str.ofString "take" then qN (row, hd) ms (iN (ps.getD 0 .non)) else if w = Str.ofString "move" then qz (row, hd) ms (iN (ps.getD 0 .non)) (iN (ps.getD 1 .non)) else jE (row, hd) ms (iN (ps.getD 0 .non)) := by
   unfold doR; rw [if_pos (show zV (.tup (.str w :: ps)) row.length = true from hf)]
  rw [ed] at qe q
  subst hr1
  refine zj fun r1 hr1 => ?_
  walk_at "ra"
  have a0 : atI (AV.d (.str w) :: ps.map AV.d) 0 = some (.d (.str w)) := by
   unfold atI
   rw [jp (by omega) (by rw [List.length_cons]; omega)]
   rfl
  refine ⟨_, a0, ?_⟩
  subst hr1
  walk_at "ra"
  have f0 := qj (M0 := MX) Fr.refl .non
  by_cases w1 : w = Str.ofString "swap"
  ·rw [if_pos w1] at qe q ⊢
   obtain ⟨a, b, rfl, ha, hb⟩ := xC hpl hps (.inl w1)
   have qe : ∀ w, qH (row, hd) ms a b = .error w -> E0 cBadDeed (wrd w) MX := qe
   have q : ∀ t, qH (row, hd) ms a b = .ok t -> Q (.d .non) (rmP C MX p rw_ mv t.1 t.2) := q
   refine ⟨_, r.ins, rfl, _, rfl, _, rfl, p, rw_, mv, (row, hd), ms, a, b, rfl, r, ha, hb, ok, fun hab => ⟨_, f0, qe "same" (by unfold qH; rw [if_pos hab])⟩, fun hab hh => ⟨_, f0, qe "empty" ?_⟩, fun hab x y hx hy => ⟨_, _, r.fin _ _ .non, q (_, _) ?_⟩⟩
   ·unfold qH
    rw [if_neg hab]
    dsimp only at hh ⊢
    rcases hh with hh | hh
    ·rw [hh]
    ·rw [hh]; cases row.getD a none <;> rfl
   ·unfold qH
    rw [if_neg hab]
    dsimp only at hx hy ⊢
    rw [hx, hy]; rfl
  rw [if_neg w1] at qe q ⊢
  by_cases w2 : w = Str.ofString "take"
  ·rw [if_pos w2] at qe q ⊢
   obtain ⟨a, rfl, ha⟩ := xf hpl hps w1 (by rw [w2]; decide +kernel)
   have qe : ∀ w, qN (row, hd) ms a = .error w -> E0 cBadDeed (wrd w) MX := qe
   have q : ∀ t, qN (row, hd) ms a = .ok t -> Q (.d .non) (rmP C MX p rw_ mv t.1 t.2) := q
   refine ⟨_, r.ins, rfl, _, rfl, p, rw_, mv, (row, hd), ms, a, rfl, r, ha, ok, fun hh => ⟨_, f0, qe "full" ?_⟩, fun hh hx => ⟨_, f0, qe "empty" ?_⟩, fun hh x hx => ⟨_, _, r.fin _ _ .non, q (_, _) ?_⟩⟩
   ·unfold qN
    cases hd with
    | none => exact absurd rfl hh
    | some y => rfl
   ·unfold qN
    dsimp only at hh hx ⊢
    rw [hh]; dsimp only; rw [hx]
   ·unfold qN
    dsimp only at hh hx ⊢
    rw [hh]; dsimp only; rw [hx]; rfl
  rw [if_neg w2] at qe q ⊢
  by_cases w3 : w = Str.ofString "move"
  ·rw [if_pos w3] at qe q ⊢
   obtain ⟨a, b, rfl, ha, hb⟩ := xC hpl hps (.inr w3)
   have qe : ∀ w, qz (row, hd) ms a b = .error w -> E0 cBadDeed (wrd w) MX := qe
   have q : ∀ t, qz (row, hd) ms a b = .ok t -> Q (.d .non) (rmP C MX p rw_ mv t.1 t.2) := q
   refine ⟨_, r.ins, rfl, _, rfl, _, rfl, p, rw_, mv, (row, hd), ms, a, b, rfl, r, ha, hb, ok, fun hab => ⟨_, f0, qe "same" (by unfold qz; rw [if_pos hab])⟩, fun hab hh => ⟨_, f0, qe "full" ?_⟩, fun hab hb' hx => ⟨_, f0, qe "empty" ?_⟩, fun hab hb' x hx => ⟨_, _, r.fin _ _ .non, q (_, _) ?_⟩⟩
   ·unfold qz
    rw [if_neg hab]
    dsimp only at hh ⊢
    cases z : row.getD b none with
    | none => exact absurd z hh
    | some y => rfl
   ·unfold qz
    rw [if_neg hab]
    dsimp only at hb' hx ⊢
    rw [hb']; dsimp only; rw [hx]
   ·unfold qz
    rw [if_neg hab]
    dsimp only at hb' hx ⊢
    rw [hb']; dsimp only; rw [hx]; rfl
  rw [if_neg w3] at qe q ⊢
  obtain ⟨b, rfl, hb⟩ := xf hpl hps w1 w3
  have qe : ∀ w, jE (row, hd) ms b = .error w -> E0 cBadDeed (wrd w) MX := qe
  have q : ∀ t, jE (row, hd) ms b = .ok t -> Q (.d .non) (rmP C MX p rw_ mv t.1 t.2) := q
  refine ⟨_, r.ins, rfl, _, rfl, p, rw_, mv, (row, hd), ms, b, rfl, r, hb, ok, fun hh => ⟨_, f0, qe "full" ?_⟩, fun hh hx => ⟨_, f0, qe "empty" ?_⟩, fun hh x hx => ⟨_, _, r.fin _ _ .non, q (_, _) ?_⟩⟩
  ·unfold jE
   dsimp only at hh ⊢
   cases z : row.getD b none with
   | none => exact absurd z hh
   | some y => rfl
  ·unfold jE
   dsimp only at hh hx ⊢
   rw [hh]; dsimp only; rw [hx]
  ·unfold jE
   dsimp only at hh hx ⊢
   rw [hh]; dsimp only; rw [hx]; rfl
theorem AY (c : Option Int) : cA c = .d (oD c) := by cases c <;> rfl
theorem Wy (row : List (Option Int)) : pur (row.map cA) = some (row.map oD) := by
 rw [show row.map cA = (row.map oD).map AV.d by rw [List.map_map]; exact List.map_congr_left fun c _ => AY c, qk]
noncomputable def Am (C : Addr) : ASp := fun xs M Q => ∃ (p rw_ mv : Addr) (s : ES) (ms : List Int), xs = [.ref p] /\ zW C M p rw_ mv s ms /\ s.1.length <= 1000 /\ Q (.d (.tup (s.1.map oD))) M
noncomputable abbrev Z1 : Stmt := (qI (top 14) 7)
theorem QT : zy ["self"] ["self"] (zi Z1) := ⟨rfl, rfl, rfl, by decide +kernel, rfl, by decide +kernel, by decide +kernel⟩
theorem V0 {C : Addr} (a : AtM K C "row_now" "Room.row_now" Z1) (R : RTx K C) (B : Blt mg) : Dm P w K mg base C "row_now" ["self"] 1 (cSp (Am C)) := by
 refine dmA (k := 0) a QT (fun _ _ _ _ _ _ us hl => match us, hl with | [_], _ => rfl) (fun xs M Q h => ?_) (fun f cdv A outer s H E hr => ?_)
 ·obtain ⟨_, _, _, _, _, rfl, _⟩ := h; rfl
 have sc := QT
 have hsl := hsl
 have CL := R.cl
 refine ⟨_, (zh (zD (zR qQ rfl B.tuple qL (za (zZ (pv 0) rfl) zb)))), ?_⟩
 refine ex2 (by walk_at "sim") ?_
 rintro xs M Q ⟨p, rw_, mv, ⟨row, hd⟩, ms, rfl, r, hl, q⟩
 rw [show zU ["self"] [.ref p] = [some (.ref p)] from rfl]
 walk_at "ra"
 refine ⟨_, _, r.ins, R.cl, R.nr, _, rfl, _, ql r.row, _, Wy _, ?_⟩
 exact ⟨_, _, qj Fr.refl _, q⟩
noncomputable def A6 (C : Addr) : ASp := fun xs M Q => ∃ (p rw_ mv : Addr) (s : ES) (ms : List Int), xs = [.ref p] /\ zW C M p rw_ mv s ms /\ ms.length <= 1000 /\ Q (.d (.tup (ms.map .int))) M
noncomputable abbrev Qj : Stmt := (qI (top 14) 9)
theorem Qy : zy ["self"] ["self"] (zi Qj) := ⟨rfl, rfl, rfl, by decide +kernel, rfl, by decide +kernel, by decide +kernel⟩
theorem VZ {C : Addr} (a : AtM K C "moved_now" "Room.moved_now" Qj) (R : RTx K C) (B : Blt mg) : Dm P w K mg base C "moved_now" ["self"] 1 (cSp (A6 C)) := by
 refine dmA (k := 0) a Qy (fun _ _ _ _ _ _ us hl => match us, hl with | [_], _ => rfl) (fun xs M Q h => ?_) (fun f cdv A outer s H E hr => ?_)
 ·obtain ⟨_, _, _, _, _, rfl, _⟩ := h; rfl
 have sc := Qy
 have hsl := hsl
 have CL := R.cl
 refine ⟨_, (zh (zD (zR qQ rfl B.tuple qL (za (zZ (pv 0) rfl) zb)))), ?_⟩
 refine ex2 (by walk_at "sim") ?_
 rintro xs M Q ⟨p, rw_, mv, ⟨row, hd⟩, ms, rfl, r, hl, q⟩
 rw [show zU ["self"] [.ref p] = [some (.ref p)] from rfl]
 walk_at "ra"
 refine ⟨_, _, r.ins, R.cl, R.nm, _, rfl, _, ql r.mvd, _, jz _, ?_⟩
 exact ⟨_, _, qj Fr.refl _, q⟩
noncomputable def Aq (C : Addr) : ASp := fun xs M Q => ∃ (p rw_ mv : Addr) (s : ES) (ms : List Int), xs = [.ref p] /\ zW C M p rw_ mv s ms /\ Q (.d (oD s.2)) M
noncomputable abbrev Z5 : Stmt := (qI (top 14) 8)
theorem Q5 : zy ["self"] ["self"] (zi Z5) := ⟨rfl, rfl, rfl, by decide +kernel, rfl, by decide +kernel, by decide +kernel⟩
theorem VP {C : Addr} (a : AtM K C "hand_now" "Room.hand_now" Z5) (R : RTx K C) (B : Blt mg) : Dm P w K mg base C "hand_now" ["self"] 1 (cSp (Aq C)) := by
 refine dmA (k := 0) a Q5 (fun _ _ _ _ _ _ us hl => match us, hl with | [_], _ => rfl) (fun xs M Q h => ?_) (fun f cdv A outer s H E hr => ?_)
 ·obtain ⟨_, _, _, _, _, rfl, _⟩ := h; rfl
 have sc := Q5
 have hsl := hsl
 have CL := R.cl
 refine ⟨_, (zh (zD (zZ (pv 0) rfl))), ?_⟩
 refine ex2 (by walk_at "sim") ?_
 rintro xs M Q ⟨p, rw_, mv, ⟨row, hd⟩, ms, rfl, r, q⟩
 rw [show zU ["self"] [.ref p] = [some (.ref p)] from rfl]
 walk_at "ra"
 refine ⟨_, _, r.ins, R.cl, R.nh, _, rfl, ?_⟩
 rw [AY]
 exact ⟨_, _, qj Fr.refl _, q⟩
theorem Xt {C : Addr} {M : MH} {p rw_ mv : Addr} {s' : ES} {ms' : List Int} (t : zW C (rmP C M p rw_ mv s' ms') p rw_ mv s' ms') (d : Dat) : yP M (rmP C M p rw_ mv s' ms') (.d d) (.d d) (rmP C M p rw_ mv s' ms') := by
 refine ⟨fun q => .inl rfl, fun q o e => ?_, .inl ⟨rfl, fun p z => nomatch z⟩⟩
 by_cases c1 : q = mv
 ·rw [c1, t.mvd] at e
  cases e
  exact .inr fun z hz => absurd hz (xZ (ds := ms'.map .int) (jz _) z)
 ·by_cases c2 : q = rw_
  ·rw [c2, t.row] at e
   cases e
   refine .inr fun z hz => ?_
   obtain ⟨x, _, hx⟩ := List.mem_map.mp (show AV.ref z ∈ s'.1.map cA from hz)
   cases x <;> cases hx
  ·by_cases c3 : q = p
   ·rw [c3, t.ins] at e
    cases e
    refine .inr fun z hz => ?_
    have hz : AV.ref z ∈ [AV.ref rw_, cA s'.2, AV.ref mv] := hz
    simp only [List.mem_cons, List.not_mem_nil, or_false] at hz
    rcases hz with hz | hz | hz
    ·cases hz; rw [t.row]; exact fun z => nomatch z
    ·cases h : s'.2 <;> rw [h] at hz <;> cases hz
    ·cases hz; rw [t.mvd]; exact fun z => nomatch z
   ·refine .inl ?_
    unfold rmP at e
    rw [zr c1, zr c2, zr c3] at e
    exact e
theorem JE {a b y : AV} : ka (Str.ofString "moved") y [(Str.ofString "row", a), (Str.ofString "hand", b)] = [(Str.ofString "row", a), (Str.ofString "hand", b), (Str.ofString "moved", y)] := by
 unfold ka; rw [if_neg (by decide +kernel)]; unfold ka; rw [if_neg (by decide +kernel)]; unfold ka; rfl
noncomputable def KO (C : Addr) : ASp := fun xs M Q => ∃ (p : Addr) (n : Nat), xs = [.ref p, .d (.int n)] /\ M p = some (.ins C []) /\ n <= 1000 /\
 ∀ rw_ mv, M rw_ = none -> M mv = none -> rw_ ≠ mv -> rw_ ≠ p -> mv ≠ p -> Q (.d .non) (rmP C M p rw_ mv ((qM 0 1 n).map some, none) (List.replicate n 0))
noncomputable abbrev vK : Stmt := (qI (top 14) 0)
theorem wC : zy ["self", "n"] ["self", "n"] (zi vK) := ⟨rfl, rfl, rfl, by decide +kernel, rfl, by decide +kernel, by decide +kernel⟩
theorem YG {C : Addr} (a : AtM K C "__init__" "Room.__init__" vK) (R : RTx K C) (B : Blt mg) : Dm P w K mg base C "__init__" ["self", "n"] 1 (cSp (KO C)) := by
 refine dmA (k := 0) a wC (fun _ _ _ _ _ _ us hl => match us, hl with | [_, _], _ => rfl) (fun xs M Q h => ?_) (fun f cdv A outer s H E hr => ?_)
 ·obtain ⟨_, _, rfl, _⟩ := h; rfl
 have sc := wC
 have hsl := hsl
 have CL := R.cl
 refine ⟨_, (zc (yy (pv 0) (Qm (zR (kf rfl) rfl B.list jH (za (zR xI rfl B.range wV (za (pv 1) zb)) zb))) rfl)
  (zc (yy (pv 0) zJ rfl)
  (zh (yy (pv 0) (Qm (zz yI (zM (za zd zb)) (pv 1))) rfl)))), ?_⟩
 refine ex2 (by walk_at "sim") ?_
 rintro xs M Q ⟨p, n, rfl, hp, hn, q⟩
 rw [show zU ["self", "n"] [.ref p, .d (.int n)] = [some (.ref p), some (.d (.int n))] from rfl]
 refine zj fun r1 hr1 => ?_
 walk_at "ra"
 refine ⟨_, _, _, rfl, small_one (by omega) (by omega) (by omega) (by omega), n, by rw [rangeSize_one]; split <;> omega, by omega, fun rw_ hrw _ => ?_⟩
 have np : p ≠ rw_ := fun z => by rw [z, hrw] at hp; cases hp
 refine ⟨C, [], by rw [zr np]; exact hp, R.cl, R.nr, Nat.lt_of_sub_eq_succ rfl, ?_⟩
 subst hr1
 refine zj fun r1 hr1 => ?_
 walk_at "ra"
 refine ⟨_, _, zp, R.cl, R.nh, Nat.lt_of_sub_eq_succ rfl, ?_⟩
 subst hr1
 walk_at "ra"
 rw [if_neg (show ¬ Str.ofString "row" = Str.ofString "hand" by decide +kernel)]
 refine ⟨by omega, by omega, by omega, by omega, fun mv hmv _ => ?_⟩
 have n1 : mv ≠ p := fun z => by rw [z, zp] at hmv; cases hmv
 rw [zr n1] at hmv
 have n2 : mv ≠ rw_ := fun z => by rw [z, zp] at hmv; cases hmv
 rw [zr n2] at hmv
 refine ⟨C, _, by rw [zr (Ne.symm n1), zp], R.cl, R.nm, Nat.lt_of_sub_eq_succ rfl, ?_⟩
 rw [JE, V1, Int.toNat_natCast]
 have e1 : (MO.lst ((qM 0 1 n).map fun i => AV.d (.int i))) = JW ((qM 0 1 n).map some) := by show MO.lst _ = MO.lst _; rw [List.map_map]; rfl
 have e2 : MO.lst (List.replicate n (AV.d (.int 0))) = msA (List.replicate n 0) := by show MO.lst _ = MO.lst _; rw [List.map_replicate]
 rw [e1, e2]
 have em : ∀ (x y : MO), mup (mup (mup (mup M rw_ (JW ((qM 0 1 n).map some))) p x) mv (msA (List.replicate n 0))) p (Yo C rw_ mv none) = rmP C M p rw_ mv ((qM 0 1 n).map some, none) (List.replicate n 0) := fun x _ => by
  funext b
  unfold rmP mup
  by_cases c1 : b = mv
  ·have : ¬ b = p := fun z => n1 (c1.symm.trans z)
   simp [c1, n1]
  ·by_cases c2 : b = rw_
   ·have : ¬ b = p := fun z => np (z.symm.trans c2)
    simp [c1, c2, Ne.symm np, Ne.symm n2]
   ·by_cases c3 : b = p <;> simp [c1, c2, c3, np, Ne.symm n1]
 show rtA M Q (.d .non) (mup (mup (mup (mup M rw_ (JW ((qM 0 1 n).map some))) p _) mv (msA (List.replicate n 0))) p (Yo C rw_ mv none))
 rw [em _ (.lst [])]
 have t : zW C (rmP C M p rw_ mv ((qM 0 1 n).map some, none) (List.replicate n 0)) p rw_ mv ((qM 0 1 n).map some, none) (List.replicate n 0) := by
  unfold rmP
  exact ⟨by rw [zr (Ne.symm n1), zr np, zp], by rw [zr (Ne.symm n2), zp], zp, Ne.symm n2⟩
 exact ⟨_, _, Xt t .non, q rw_ mv hrw hmv (Ne.symm n2) (Ne.symm np) n1⟩
theorem MkX.mono {C : Addr} {j k n : Nat} {fn : List V -> List (Str × V)} (m : MkX P w K mg base C j n fn) (h : j <= k) : MkX P w K mg base C k n fn :=
 let ⟨f, fd, ps, q, F, r⟩ := m
 ⟨f, fd, ps, q, F.mono h, r⟩
noncomputable abbrev yk : Stmt := (qI (top 5) 0)
theorem vd : zy ["self", "word"] ["self", "word"] (zi yk) := ⟨rfl, rfl, rfl, by decide +kernel, rfl, by decide +kernel, by decide +kernel⟩
theorem Dc {C f : Addr} {fd : FuncData} (F : Fun K "__init__" "BadDeed.__init__" yk f fd) (q : xq K C Km "ValueError.__new__" f = true) (hf : PySem.W.isFn K (.ref f) = true) (S : JP K C "word") : MkX P w K mg base C 1 1 fnW := by
 refine BQ (k := 0) F vd (fun _ _ _ _ _ _ us hl => match us, hl with | [_, _], _ => rfl) q hf rfl (fun cdv A outer s H E => ?_)
 have sc := vd
 refine ⟨_, (zh (VC (pv 0) (pv 1) rfl)), ?_⟩
 intro a t0 us Q hl ha hq
 match us, hl with
 | [v], _ =>
  show A0 _ _ _ _ _ _ _
  refine ⟨v, rfl, .ref a, rfl, a, C, t0, rfl, S, .inl ⟨ha, fun dx hd hne => hq dx hd hne⟩⟩
structure EZ (K : PySem.W.Frag) (cT cD cP cR cW cN cO : Addr) : Prop where
 x : Kj K cD
 t : PySem.W.exmOne K (.ref cD) (.ref cT) = some true
 i : PySem.W.kitAny K (.ref cD) [.ref cD] = some true
 v : PySem.W.kitAny K (.ref cD) [.type "ValueError"] = some true
 o : PySem.W.kitAny K (.ref cD) [.ref cP, .ref cR, .ref cW, .ref cN, .ref cO] = some false
 hd : PySem.W.hasDictIn K cD = true
 fw : PySem.W.findIn K (.ref cD) "word" = some none
noncomputable def vb (C : Addr) : ASp := fun xs M Q => ∃ (p rw_ mv : Addr) (s : ES) (ms : List Int) (x : Dat), xs = [.ref p, .d x] /\ zW C M p rw_ mv s ms /\ OkM s ms.length /\ dp x <= 40 /\ (∀ l, x = .tup l -> l.length <= 1000) /\
 (∀ w, doR s ms x = .error w -> Q (.d (.str (Str.ofString w))) M) /\ (∀ t, doR s ms x = .ok t -> Q (.d (.str (Str.ofString ""))) (rmP C M p rw_ mv t.1 t.2))
noncomputable abbrev yt : Stmt := top 27
theorem vz : zy ["_law_room", "_law_thing", "_law_caught", "refusal"] ["_law_room", "_law_thing"] (zi yt) := ⟨rfl, rfl, rfl, by decide +kernel, rfl, by decide +kernel, by decide +kernel⟩
theorem Kv (a : At K mg "_law_refused" yt) (B : Blt mg) (BValueError : mg "ValueError" = none) {cTurnError : Addr} (XG_TurnError : mg "TurnError" = some (.ref cTurnError)) {cBadDeed : Addr} (XG_BadDeed : mg "BadDeed" = some (.ref cBadDeed)) {cBadPlan : Addr} (XG_BadPlan : mg "BadPlan" = some (.ref cBadPlan)) {cBadRing : Addr} (XG_BadRing : mg "BadRing" = some (.ref cBadRing)) {cBadRow : Addr} (XG_BadRow : mg "BadRow" = some (.ref cBadRow)) {cNoMatch : Addr} (XG_NoMatch : mg "NoMatch" = some (.ref cNoMatch)) {cNotDone : Addr} (XG_NotDone : mg "NotDone" = some (.ref cNotDone)) {C : Addr} (CL : Cls K C) (DM_do : DmX P w K mg base C "do" ["self", "thing"] 5 (jI (aDo C cBadDeed))) (X2 : EZ K cTurnError cBadDeed cBadPlan cBadRing cBadRow cNoMatch cNotDone) : Df P w K mg base "_law_refused" ["_law_room", "_law_thing"] 6 (cSp (vb C)) := by
 refine dfA (k := 5) a vz (fun _ _ _ _ _ _ us hl => match us, hl with | [_, _], _ => rfl) (fun xs M Q h => ?_) (fun f cdv A outer s H E hr => ?_)
 ·obtain ⟨_, _, _, _, _, _, rfl, _⟩ := h; rfl
 have sc := vz
 have hsl := hsl
 refine ⟨_, (zc (zL (i := 2) sc.nd rfl (by first | exact Or.inl rfl | exact Or.inr rfl) zJ)
  (zc (KQ (K := K) (i := 3) rfl rfl rfl rfl sc.nd rfl rfl rfl XG_TurnError (fun pins xe Eh hP => (zh (qW (kG CL DM_do hr hP (pv 0) (za (pv 1) zb))))) (fun x => (zh (zL (i := 2) sc.nd rfl (by first | exact Or.inl rfl | exact Or.inr rfl) (pv 3)))))
  (zc (zI (zo jD (pv 2) zJ (zu _)) (zh (zD zn)) zx)
  (zc (zI (PW.pt (jt (ji (qC (QW (K := K) rfl (pv 2) rfl B.isinstance (.own rfl XG_BadDeed (by decide) .nil)) (fun _ => rfl))) (jc (ji (qC (QW (K := K) rfl (pv 2) rfl B.isinstance (.blt rfl BValueError PyProof.Rows.Boot.«ValueError» (by decide) (by decide) .nil)) (fun _ => rfl)))))) (zh (zD zn)) zx)
  (zc (zI (qC (Vf (K := K) rfl (pv 2) rfl B.isinstance (.own rfl XG_BadPlan (by decide) (.own rfl XG_BadRing (by decide) (.own rfl XG_BadRow (by decide) (.own rfl XG_NoMatch (by decide) (.own rfl XG_NotDone (by decide) .nil))))) (Nat.le_trans (show _ <= 1000 by show 5 <= 1000; decide) (Nat.le_of_lt (J1 (Nat.le_refl _))))) (fun _ => rfl)) (zh (zD zn)) zx)
  (zh (zD (Wp (pv 2) rfl)))))))), ?_⟩
 refine ex2 (by walk_at "sim") ?_
 rintro xs M Q ⟨p, rw_, mv, s, ms, x, rfl, r, ok, hdp, hl, qe, q⟩
 rw [show zU ["_law_room", "_law_thing", "_law_caught", "refusal"] [.ref p, .d x] = [some (.ref p), some (.d x), none, none] from rfl]
 refine zj fun r1 hr1 => ?_
 walk_at "ra"
 subst hr1
 refine zj fun r1 hr1 => ?_
 walk_at "ra"
 refine ⟨_, r.ins, rfl, p, rw_, mv, s, ms, x, rfl, r, ok, hdp, hl, fun w hw => ⟨X2.t, fun z hz => ?_⟩, fun t ht => ?_⟩
 ·subst hr1
  walk_at "ra"
  refine ⟨_, ⟨_, zp⟩, X2.x, _, X2.i, ?_⟩
  rw [if_neg (fun z => nomatch z)]
  refine ⟨_, ⟨_, zp⟩, X2.x, _, X2.v, ?_⟩
  rw [if_neg (fun z => nomatch z)]
  refine ⟨_, ⟨_, zp⟩, X2.x, _, X2.o, ?_⟩
  rw [if_neg (fun z => nomatch z)]
  exact ⟨_, _, zp, X2.x, X2.hd, X2.fw, _, rfl, _, rfl, EO (Fr.refl.mup hz _) (qe w hw)⟩
 ·subst hr1
  walk_at "ra"
  exact ⟨_, _, r.fin _ _ _, q t ht⟩
noncomputable def ZI (s : ES) (x : Dat) : String := match doR s [] x with
 | .error w => w
 | .ok _ => ""
theorem JQ {s : ES} {x : Dat} (h : zV x s.1.length = false) : ZI s x = "form" := by
 unfold ZI doR
 rw [if_neg (by rw [h]; exact fun z => nomatch z)]
theorem wa (t : Str) (l : List Str) : inV (.str t) (l.map V.str) = decide (t ∈ l) := by
 induction l with
 | nil => rfl
 | cons a l ih =>
  show (eqV (.str a) (.str t) || inV (.str t) (l.map V.str)) = _
  rw [ih]
  show ((a == t) || decide (t ∈ l)) = _
  by_cases c : a = t
  ·subst c; simp
  ·have : (a == t) = false := by simpa using c
   rw [this, Bool.false_or]
   have na : t ≠ a := fun z => c z.symm
   simp [na]
theorem in4 (t : Str) : inV (.str t) [.str (Str.ofString "swap"), .str (Str.ofString "take"), .str (Str.ofString "move"), .str (Str.ofString "lay")] = (qK t).isSome := by
 rw [show [V.str (Str.ofString "swap"), .str (Str.ofString "take"), .str (Str.ofString "move"), .str (Str.ofString "lay")] = [Str.ofString "swap", Str.ofString "take", Str.ofString "move", Str.ofString "lay"].map V.str from rfl, wa]
 unfold qK
 by_cases c1 : t = Str.ofString "swap"
 ·simp [c1]
 by_cases c2 : t = Str.ofString "take"
 ·simp [c2]; split <;> rfl
 by_cases c3 : t = Str.ofString "move"
 ·simp [c3]; repeat' split <;> try rfl
 by_cases c4 : t = Str.ofString "lay"
 ·simp [c4]; repeat' split <;> try rfl
 simp [c1, c2, c3, c4]
theorem in2 (t : Str) : inV (.str t) [.str (Str.ofString "swap"), .str (Str.ofString "move")] = decide (t = Str.ofString "swap" \/ t = Str.ofString "move") := by
 rw [show [V.str (Str.ofString "swap"), .str (Str.ofString "move")] = [Str.ofString "swap", Str.ofString "move"].map V.str from rfl, wa]
 simp
theorem Jo (t : Str) : inV (.str t) [.str (Str.ofString "move"), .str (Str.ofString "lay")] = decide (t = Str.ofString "move" \/ t = Str.ofString "lay") := by
 rw [show [V.str (Str.ofString "move"), .str (Str.ofString "lay")] = [Str.ofString "move", Str.ofString "lay"].map V.str from rfl, wa]
 simp
theorem kR {row : List (Option Int)} {a : Nat} (h : a < row.length) : atI ((row.map oD).map AV.d) (a : Int) = some (.d (oD (row.getD a none))) := by
 unfold atI
 rw [List.length_map, List.length_map, jp (by omega) (by omega), Int.toNat_natCast]
 show ((row.map oD).map AV.d)[a]? = _
 rw [List.getElem?_map, List.getElem?_map, List.getElem?_eq_getElem h, List.getD_eq_getElem?_getD, List.getElem?_eq_getElem h]; rfl
noncomputable def vC : Option Int -> V
 | none => .non
 | some x => .int x
theorem E4 (c : Option Int) : flD (oD c) = some (vC c) := by cases c <;> rfl
theorem D3 (cs : List (Option Int)) : ZJ (cs.map fun c => AV.d (oD c)) = some (cs.map vC) := by
 induction cs with
 | nil => rfl
 | cons c cs ih =>
  show (match flD (oD c), ZJ (cs.map fun c => AV.d (oD c)) with | some v, some l => some (v :: l) | _, _ => none) = _
  rw [E4, ih]; rfl
theorem FJ (cs : List (Option Int)) : inV .non (cs.map vC) = cs.any (·.isNone) := by
 induction cs with
 | nil => rfl
 | cons c cs ih =>
  show (eqV (vC c) .non || inV .non (cs.map vC)) = _
  rw [ih]
  cases c <;> rfl
theorem yi {row : List (Option Int)} {h x u : Option AV} {M : MH} {Q : AK} {ks : List Nat} {nx : ASt -> MH -> Prop} (hk : ∀ k ∈ ks, k < row.length) (hl : ks.length <= 1000) (q : Q (.d (.str (Str.ofString (if (ks.map fun k => row.getD k none).any (·.isNone) = true then "empty" else "")))) M) :
    Eb (aIf (aB (aOp (aIn false) (aC Dat.non) (aFz (Q3 [3] (aiS (ZC 4)) (yF 3) wo (vo (aOp (aIx kY) (ZC 0) (ZC 3))))))) (aC (Dat.str (Str.ofString "empty"))) (aC (Dat.str (Str.ofString ""))))
      M { nx := nx, rt := rtA M Q } [some (.d (.lst (row.map oD))), h, x, u, some (.d (.tup (ks.map fun k : Nat => Dat.int k)))] M := by
  walk_at "ra"
  refine vG (fun (o : Option AV) => [some (.d (.lst (row.map oD))), h, x, o, some (.d (.tup (ks.map fun k : Nat => Dat.int k)))]) (fun y => match y with | .d (.int k) => .d (oD (row.getD k.toNat none)) | y => y) ⟨_, rfl⟩ trivial (by rw [List.length_map, List.length_map]; omega) (fun o y Q hy q => ?_) fun o => ?_
  · obtain ⟨d, hd, rfl⟩ := List.mem_map.mp hy
    obtain ⟨k, hk', rfl⟩ := List.mem_map.mp hd
    walk_at "ra"
    exact ⟨_, kR (hk k hk'), q (some (.d (.int k)))⟩
  · have e : ((ks.map fun k : Nat => Dat.int k).map AV.d).map (fun y => match y with | .d (.int k) => AV.d (oD (row.getD k.toNat none)) | y => y) = (ks.map fun k => row.getD k none).map fun c => AV.d (oD c) := by
      simp only [List.map_map]; exact List.map_congr_left fun _ _ => rfl
    rw [e]
    generalize (ks.map fun k => row.getD k none) = cs at *
    have e2 : (cs.map fun c => AV.d (oD c)) = (cs.map oD).map AV.d := by rw [List.map_map]; rfl
    refine ⟨cs.map oD, by rw [e2]; exact qk _, ?_⟩
    refine ⟨_, rfl, _, by rw [<- e2]; exact D3 cs, ?_⟩
    rw [FJ]
    by_cases c : cs.any (·.isNone) = true
    · rw [if_pos c] at q ⊢; exact ⟨_, _, qj Fr.refl _, q⟩
    · rw [if_neg c] at q ⊢; exact ⟨_, _, qj Fr.refl _, q⟩
theorem Bw {t : Str} {k : Int} (h : qK t = some k) : k = 1 + if t = Str.ofString "swap" \/ t = Str.ofString "move" then 1 else 0 := by
 unfold qK at h
 by_cases c1 : t = Str.ofString "swap"
 ·rw [if_pos c1] at h; cases h; rw [if_pos (.inl c1)]; rfl
 rw [if_neg c1] at h
 by_cases c2 : t = Str.ofString "take"
 ·rw [if_pos c2] at h; cases h; rw [if_neg (by rw [c2]; decide +kernel)]; rfl
 rw [if_neg c2] at h
 by_cases c3 : t = Str.ofString "move"
 ·rw [if_pos c3] at h; cases h; rw [if_pos (.inr c3)]; rfl
 rw [if_neg c3] at h
 by_cases c4 : t = Str.ofString "lay"
 ·rw [if_pos c4] at h; cases h; rw [if_neg (by rw [c4]; decide +kernel)]; rfl
 rw [if_neg c4] at h; cases h
noncomputable def E5 : ASp := fun xs M Q => ∃ (s : ES) (x : Dat), xs = [.d (.lst (s.1.map oD)), .d (oD s.2), .d x] /\ dp x <= 40 /\ (∀ l, x = .tup l -> l.length <= 1000) /\ s.1.length <= 1000 /\ Q (.d (.str (Str.ofString (ZI s x)))) M
noncomputable abbrev ZO : Stmt := top 25
theorem Jh : zy ["_law_row", "_law_hand", "_law_thing", "_law_place", "_law_some"] ["_law_row", "_law_hand", "_law_thing"] (zi ZO) := ⟨rfl, rfl, rfl, by decide +kernel, rfl, by decide +kernel, by decide +kernel⟩
theorem VE (a : At K mg "_law_why" ZO) (B : Blt mg) : Df P w K mg base "_law_why" ["_law_row", "_law_hand", "_law_thing"] 1 (cSp E5) := by
 refine dfA (k := 0) a Jh (fun _ _ _ _ _ _ us hl => match us, hl with | [_, _, _], _ => rfl) (fun xs M Q h => ?_) (fun f cdv A outer s H E hr => ?_)
 ·obtain ⟨_, _, rfl, _⟩ := h; rfl
 have sc := Jh
 have hsl := hsl
 refine ⟨_, (zc (zI (PW.pt (jt (ji (qC (zm zN rfl B.isinstance zq (za (pv 2) (za (zS (v := .ty "tuple") rfl B.tuple qL rfl) zb))) (fun _ => rfl))) (jt (zo (qc hr.units) (zm zv rfl B.len qb (za (pv 2) zb)) zd (zu _)) (jc (ji (qC (zm zN rfl B.isinstance zq (za (zw z0 (pv 2) zd (fun _ _ => rfl)) (za (zS (v := .ty "str") rfl B.str yj rfl) zb))) (fun _ => rfl))))))) (zh (zD zn)) zx)
  (zc (zI (PW.pt (jt (zo wc (zw z0 (pv 2) zd (fun _ _ => rfl)) (zC (za zn (za zn (za zn (za zn zb))))) rfl) (jc (zo (yu hr.units) (zm zv rfl B.len qb (za (pv 2) zb)) (zz qv zd (zR jZ rfl B.int kz (za (qU xy (zw z0 (pv 2) zd (fun _ _ => rfl)) (zC (za zn (za zn zb))) rfl) zb))) (zu _))))) (zh (zD zn)) zx)
  (zc (xj PassesOwn.never rfl (vj (qZ yC (pv 2) (qV zd) kZ)) (zQ (i := 3) sc.nd rfl (by first | exact Or.inl rfl | exact Or.inr rfl)) (zh (zI (PW.pt (jt (ji (qC (zm zN rfl B.isinstance zq (za (pv 3) (za (zS (v := .ty "int") rfl B.int kz rfl) zb))) (fun _ => rfl))) (jt (qC (zm zN rfl B.isinstance zq (za (pv 3) (za (zS (v := .ty "bool") rfl B.bool xX rfl) zb))) (fun _ => rfl)) (jc (ji (YX AB Ar zd (pv 3) (zm zv rfl B.len qb (za (pv 0) zb)))))))) (zh (zD zn)) zx)))
  (zc (zI (PW.pt (xB (zo (qc hr.units) (zm zv rfl B.len qb (za (pv 2) zb)) zd (zu _)) (j4 (zo (qc hr.units) (zw z0 (pv 2) zd (fun _ _ => rfl)) (zw z0 (pv 2) zd (fun _ _ => rfl)) (zu _))))) (zh (zD zn)) zx)
  (zc (zI (PW.pt (jt (PW.pt (xB (zo (qc hr.units) (zw z0 (pv 2) zd (fun _ _ => rfl)) zn (zu _)) (j4 (zo qY (pv 1) zJ (zu _))))) (jc (PW.pt (xB (zo xy (zw z0 (pv 2) zd (fun _ _ => rfl)) (zC (za zn (za zn zb))) rfl) (j4 (zo qY (zw z0 (pv 0) (zw z0 (pv 2) (AW Yc zd) (fun _ _ => rfl)) (fun _ _ => rfl)) zJ (zu _)))))))) (zh (zD zn)) zx)
  (zc (zI (zo (qc hr.units) (zw z0 (pv 2) zd (fun _ _ => rfl)) zn (zu _)) (zh (zD (kQ (zo jD (pv 1) zJ (zu _)) zn zn))) zx)
  (zc (zL (i := 4) sc.nd rfl (by first | exact Or.inl rfl | exact Or.inr rfl) (kQ (zo (qc hr.units) (zw z0 (pv 2) zd (fun _ _ => rfl)) zn (zu _)) (qZ yC (pv 2) (qV zd) kZ) (qZ yC (pv 2) (qV zd) (qV zd))))
  (zh (zD (kQ (zo xy zJ (vS (ts := [3]) rfl rfl (vj (pv 4)) (fun _ _ _ _ => (zQ (i := 3) sc.nd rfl (by first | exact Or.inl rfl | exact Or.inr rfl))) (fun _ _ _ _ => kW) (fun _ _ _ _ => (zw (Xz (K := K) rfl) (pv 0) (pv 3) (fun _ _ => rfl)))) rfl) zn zn)))))))))), ?_⟩
 refine ex2 (by walk_at "sim") ?_
 rintro xs M Q ⟨⟨row, hd⟩, x, rfl, hdp, hl, hr_, q⟩
 rw [show zU ["_law_row", "_law_hand", "_law_thing", "_law_place", "_law_some"] [.d (.lst (row.map oD)), .d (oD hd), .d x] = [some (.d (.lst (row.map oD))), some (.d (oD hd)), some (.d x), none, none] from rfl]
 have fin := fun b => qj (M0 := M) Fr.refl (.str b)
 have no : zV x row.length = false -> Q (.d (.str (Str.ofString "form"))) M := fun h => by rw [JQ h] at q; exact q
 cases x with
 | non => walk_at "ra"; exact ⟨_, _, fin _, no rfl⟩
 | bl b => walk_at "ra"; exact ⟨_, _, fin _, no rfl⟩
 | str b => walk_at "ra"; exact ⟨_, _, fin _, no rfl⟩
 | lst b => walk_at "ra"; exact ⟨_, _, fin _, no rfl⟩
 | int i => walk_at "ra"; exact ⟨_, _, fin _, no rfl⟩
 | ty _ => rw [dp] at hdp; omega
 | rng _ _ _ => rw [dp] at hdp; omega
 | scr _ _ => rw [dp] at hdp; omega
 | tup l =>
  have hl := hl l rfl
  refine zj fun r1 hr1 => ?_
  walk_at "ra"
  cases l with
  | nil => walk_at "ra"; exact ⟨_, _, fin _, no rfl⟩
  | cons w ps =>
   rw [if_neg (by rw [List.length_cons]; omega)]
   have dw : dps (w :: ps) <= 39 := by rw [dp] at hdp; omega
   have dwi : ∀ d ∈ w :: ps, dp d <= 39 := vR dw
   have dpw := dwi w List.mem_cons_self
   have a0 : atI (AV.d w :: ps.map AV.d) 0 = some (.d w) := by
    unfold atI
    rw [jp (by omega) (by rw [List.length_cons]; omega)]
    rfl
   refine ⟨_, a0, ?_⟩
   cases w with
   | non => walk_at "ra"; exact ⟨_, _, fin _, no rfl⟩
   | bl b => walk_at "ra"; exact ⟨_, _, fin _, no rfl⟩
   | lst b => walk_at "ra"; exact ⟨_, _, fin _, no rfl⟩
   | tup b => walk_at "ra"; exact ⟨_, _, fin _, no rfl⟩
   | int i => walk_at "ra"; exact ⟨_, _, fin _, no rfl⟩
   | ty _ => rw [dp] at dpw; omega
   | rng _ _ _ => rw [dp] at dpw; omega
   | scr _ _ => rw [dp] at dpw; omega
   | str t =>
    walk_at "ra"
    subst hr1
    refine zj fun r1 hr1 => ?_
    walk_at "ra"
    refine ⟨_, a0, by omega, _, rfl, _, rfl, _, rfl, ?_⟩
    rw [in4]
    have q0 : zV (.tup (.str t :: ps)) row.length = (qK t == some (ps.length : Int) && ps.all (zY · row.length)) := rfl
    cases hp : qK t with
    | none =>
     rw [if_pos (show (none : Option Int).isSome = false from rfl)]
     exact ⟨_, _, fin _, no (by rw [q0, hp]; rfl)⟩
    | some k =>
     rw [if_neg (fun z => nomatch z)]
     refine ⟨_, a0, by omega, _, rfl, _, rfl, _, rfl, ?_⟩
     rw [in2]
     have hk := Bw hp
     have ee : (if decide (t = Str.ofString "swap" \/ t = Str.ofString "move") = true then (1 : Int) else 0) = k - 1 := by
      by_cases cc : t = Str.ofString "swap" \/ t = Str.ofString "move"
      ·rw [if_pos cc] at hk; rw [if_pos (decide_eq_true cc)]; omega
      ·rw [if_neg cc] at hk; rw [if_neg (fun z => cc (of_decide_eq_true z))]; omega
     rw [ee]
     by_cases ck : k = (ps.length : Int)
     case neg =>
      rw [if_pos (by omega)]
      exact ⟨_, _, fin _, no (by rw [q0, hp, show (some k == some (ps.length : Int)) = false by simpa using ck]; rfl)⟩
     rw [if_neg (by omega)]
     subst hr1
     refine zj fun r1 hr1 => ?_
     walk_at "ra"
     have ec : kN (Dat.str t :: ps) (some 1) none = ps := by
      rw [show (some 1 : Option Int) = some ((1 : Nat) : Int) from rfl, xr]; rfl
     rw [ec]
     have nsl : ¬(HT.sIx (ps.length + 1) 0 (some 1) = 0 /\ HT.sIx (ps.length + 1) (ps.length + 1) none = ps.length + 1) := by
      rintro ⟨z, _⟩
      unfold HT.sIx at z
      simp at z
      try omega
     refine ⟨nsl, ?_⟩
     have hpl : qK t = some (ps.length : Int) := by rw [hp, ck]
     refine ⟨fun i ρ M' => M = M' /\ (∃ u, ρ = [some (.d (.lst (row.map oD))), some (.d (oD hd)), some (.d (.tup (.str t :: ps))), u, none]) /\ ∀ d ∈ ps.take i, zY d row.length = true, ⟨rfl, ⟨_, rfl⟩, by simp⟩, ?_, ?_⟩
     ·rintro i y ρ M' hy ⟨rfl, ⟨u, rfl⟩, hpr⟩
      refine ⟨trivial, ?_⟩
      rw [List.getElem?_map] at hy
      cases e : ps[i]? with
      | none => rw [e] at hy; cases hy
      | some d =>
       rw [e] at hy
       cases hy
       have hmem := List.mem_of_getElem? e
       have dd := dwi d (List.mem_cons_of_mem _ hmem)
       have bad : zY d row.length = false -> Q (.d (.str (Str.ofString "form"))) M := fun h => no (by
        rw [q0, hpl]
        have : ps.all (zY · row.length) = false := by
         rw [List.all_eq_false]
         exact ⟨d, hmem, by rw [h]; exact fun z => nomatch z⟩
        rw [this, Bool.and_false])
       have good : zY d row.length = true -> ∀ x ∈ ps.take (i + 1), zY x row.length = true := fun h x hx => by
        rw [List.take_succ, e] at hx
        rcases List.mem_append.mp hx with z | z
        ·exact hpr x z
        ·rw [List.mem_singleton.mp z]; exact h
       cases d with
       | non => walk_at "ra"; exact ⟨_, _, fin _, bad rfl⟩
       | bl b => walk_at "ra"; exact ⟨_, _, fin _, bad rfl⟩
       | str b => walk_at "ra"; exact ⟨_, _, fin _, bad rfl⟩
       | lst b => walk_at "ra"; exact ⟨_, _, fin _, bad rfl⟩
       | tup b => walk_at "ra"; exact ⟨_, _, fin _, bad rfl⟩
       | ty _ => rw [dp] at dd; omega
       | rng _ _ _ => rw [dp] at dd; omega
       | scr _ _ => rw [dp] at dd; omega
       | int j =>
        walk_at "ra"
        by_cases c1 : 0 <= j
        ·rw [if_pos c1]
         by_cases c2 : j < (row.length : Int)
         ·rw [if_neg (not_not_intro c2)]
          exact ⟨⟨_, rfl⟩, good (decide_eq_true ⟨c1, c2⟩)⟩
         ·rw [if_pos c2]
          exact ⟨_, _, fin _, bad (decide_eq_false fun z => c2 z.2)⟩
        ·rw [if_neg c1]
         exact ⟨_, _, fin _, bad (decide_eq_false fun z => c1 z.1)⟩
     ·rintro ρ M' ⟨rfl, ⟨u, rfl⟩, hpr⟩
      refine ⟨trivial, ?_⟩
      rw [List.length_map, List.take_length] at hpr
      dsimp only
      have hf : zV (.tup (.str t :: ps)) row.length = true := by
       rw [q0, hpl, List.all_eq_true.mpr hpr]; simp
      obtain ⟨w', ps', ex, _, hps⟩ := xm hf
      cases ex
      have ed : doR (row, hd) [] (.tup (.str t :: ps)) = if t = Str.ofString "swap" then qH (row, hd) [] (iN (ps.getD 0 .non)) (iN (ps.getD 1 .non)) else if t = Str.ofString "take" then qN (row, hd) [] (iN (ps.getD 0 .non)) else if t = Str.ofString "move" then qz (row, hd) [] (iN (ps.getD 0 .non)) (iN (ps.getD 1 .non)) else jE (row, hd) [] (iN (ps.getD 0 .non)) := by
       unfold doR; rw [if_pos (show zV (.tup (.str t :: ps)) row.length = true from hf)]
      have q : ∀ w, (match doR (row, hd) [] (.tup (.str t :: ps)) with | .error w => w | .ok _ => "") = w -> Q (.d (.str (Str.ofString w))) M := fun w h => h ▸ q
      rw [ed] at q
      clear ed no q0 hp ck hk ee
      subst hr1
      refine zj fun r1 hr1 => ?_
      walk_at "ra"
      by_cases w1 : t = Str.ofString "swap"
      ·rw [if_pos w1] at q
       obtain ⟨a, b, rfl, ha, hb⟩ := xC hpl hps (.inl w1)
       have q : ∀ w, (match qH (row, hd) [] a b with | .error w => w | .ok _ => "") = w -> Q (.d (.str (Str.ofString w))) M := q
       rw [if_pos (show (([Dat.int ↑a, Dat.int ↑b].length + 1 : Nat) : Int) = 3 from rfl)]
       refine ⟨_, rfl, _, rfl, _, rfl, _, rfl, by rw [yz]; omega, by rw [yz]; omega, ?_⟩
       rw [wf]
       by_cases hab : a = b
       ·rw [if_pos (by rw [hab]; simp)]
        exact ⟨_, _, fin _, q "same" (by unfold qH; rw [if_pos hab])⟩
       rw [if_neg (by simp only [decide_eq_true_eq]; omega)]
       subst hr1
       refine zj fun r1 hr1 => ?_
       walk_at "ra"
       refine ⟨_, rfl, _, rfl, by rw [qD]; omega, ?_⟩
       rw [qB, if_neg (by rw [w1]; decide +kernel)]
       refine ⟨_, rfl, by omega, _, rfl, _, rfl, _, rfl, ?_⟩
       rw [Jo, if_neg (by rw [w1]; decide +kernel)]
       subst hr1
       refine zj fun r1 hr1 => ?_
       walk_at "ra"
       refine ⟨_, rfl, _, rfl, by rw [qD]; omega, ?_⟩
       rw [qB, if_neg (by rw [w1]; decide +kernel)]
       subst hr1
       refine zj fun r1 hr1 => ?_
       walk_at "ra"
       refine ⟨_, rfl, _, rfl, by rw [qD]; omega, ?_⟩
       rw [qB, if_pos (by rw [w1]; decide +kernel)]
       refine ⟨by decide, ?_⟩
       subst hr1
       rw [show kN [Dat.str t, Dat.int (a : Int), Dat.int (b : Int)] (some 1) none = [a, b].map fun k : Nat => Dat.int k from rfl]
       refine yi (ks := [a, b]) (by simp [show a < row.length from ha, show b < row.length from hb]) (Nat.le_of_ble_eq_true rfl) (q _ ?_)
       unfold qH
       rw [if_neg hab]
       show (match (match row.getD a none, row.getD b none with | some x, some y => _ | _, _ => _ : Except String RS) with | .error w => w | .ok _ => "") = if [row.getD a none, row.getD b none].any (·.isNone) = true then "empty" else ""
       cases row.getD a none <;> cases row.getD b none <;> rfl
      rw [if_neg w1] at q
      by_cases w2 : t = Str.ofString "take"
      ·rw [if_pos w2] at q
       obtain ⟨a, rfl, ha⟩ := xf hpl hps w1 (by rw [w2]; decide +kernel)
       have q : ∀ w, (match qN (row, hd) [] a with | .error w => w | .ok _ => "") = w -> Q (.d (.str (Str.ofString w))) M := q
       rw [if_neg (show ¬ (([Dat.int ↑a].length + 1 : Nat) : Int) = 3 from fun z => by have : (2 : Int) = 3 := z; omega)]
       subst hr1
       refine zj fun r1 hr1 => ?_
       walk_at "ra"
       refine ⟨_, rfl, _, rfl, by rw [qD]; omega, ?_⟩
       rw [qB, if_pos (by rw [w2]; decide +kernel)]
       cases hd with
       | some y =>
        rw [if_pos (show qy (.d (oD (some y))) = false from rfl)]
        exact ⟨_, _, fin _, q "full" rfl⟩
       | none =>
        rw [if_neg (show ¬ qy (.d (oD none)) = false from fun z => nomatch z)]
        refine ⟨_, rfl, by omega, _, rfl, _, rfl, _, rfl, ?_⟩
        rw [Jo, if_neg (by rw [w2]; decide +kernel)]
        subst hr1
        refine zj fun r1 hr1 => ?_
        walk_at "ra"
        refine ⟨_, rfl, _, rfl, by rw [qD]; omega, ?_⟩
        rw [qB, if_neg (by rw [w2]; decide +kernel)]
        subst hr1
        refine zj fun r1 hr1 => ?_
        walk_at "ra"
        refine ⟨_, rfl, _, rfl, by rw [qD]; omega, ?_⟩
        rw [qB, if_neg (by rw [w2]; decide +kernel)]
        refine ⟨by decide, ?_⟩
        subst hr1
        rw [show kN [Dat.str t, Dat.int (a : Int)] (some 1) (some 2) = [a].map fun k : Nat => Dat.int k from rfl]
        refine yi (ks := [a]) (by simp [show a < row.length from ha]) (Nat.le_of_ble_eq_true rfl) (q _ ?_)
        unfold qN
        show (match (match row.getD a none with | some x => _ | none => _ : Except String RS) with | .error w => w | .ok _ => "") = if [row.getD a none].any (·.isNone) = true then "empty" else ""
        cases row.getD a none <;> rfl
      rw [if_neg w2] at q
      by_cases w3 : t = Str.ofString "move"
      ·rw [if_pos w3] at q
       obtain ⟨a, b, rfl, ha, hb⟩ := xC hpl hps (.inr w3)
       have q : ∀ w, (match qz (row, hd) [] a b with | .error w => w | .ok _ => "") = w -> Q (.d (.str (Str.ofString w))) M := q
       rw [if_pos (show (([Dat.int ↑a, Dat.int ↑b].length + 1 : Nat) : Int) = 3 from rfl)]
       refine ⟨_, rfl, _, rfl, _, rfl, _, rfl, by rw [yz]; omega, by rw [yz]; omega, ?_⟩
       rw [wf]
       by_cases hab : a = b
       ·rw [if_pos (by rw [hab]; simp)]
        exact ⟨_, _, fin _, q "same" (by unfold qz; rw [if_pos hab])⟩
       rw [if_neg (by simp only [decide_eq_true_eq]; omega)]
       subst hr1
       refine zj fun r1 hr1 => ?_
       walk_at "ra"
       refine ⟨_, rfl, _, rfl, by rw [qD]; omega, ?_⟩
       rw [qB, if_neg (by rw [w3]; decide +kernel)]
       refine ⟨_, rfl, by omega, _, rfl, _, rfl, _, rfl, ?_⟩
       rw [Jo, if_pos (by rw [w3]; decide +kernel)]
       refine ⟨_, rfl, _, rfl, _, kR hb, ?_⟩
       unfold qz at q
       rw [if_neg hab] at q
       dsimp only at q
       cases hy : row.getD b none with
       | some y =>
        rw [hy] at q
        rw [if_pos (show qy (.d (oD (some y))) = false from rfl)]
        exact ⟨_, _, fin _, q "full" rfl⟩
       | none =>
        rw [hy] at q
        rw [if_neg (show ¬ qy (.d (oD none)) = false from fun z => nomatch z)]
        subst hr1
        refine zj fun r1 hr1 => ?_
        walk_at "ra"
        refine ⟨_, rfl, _, rfl, by rw [qD]; omega, ?_⟩
        rw [qB, if_neg (by rw [w3]; decide +kernel)]
        subst hr1
        refine zj fun r1 hr1 => ?_
        walk_at "ra"
        refine ⟨_, rfl, _, rfl, by rw [qD]; omega, ?_⟩
        rw [qB, if_neg (by rw [w3]; decide +kernel)]
        refine ⟨by decide, ?_⟩
        subst hr1
        rw [show kN [Dat.str t, Dat.int (a : Int), Dat.int (b : Int)] (some 1) (some 2) = [a].map fun k : Nat => Dat.int k from rfl]
        refine yi (ks := [a]) (by simp [show a < row.length from ha]) (Nat.le_of_ble_eq_true rfl) (q _ ?_)
        show (match (match row.getD a none with | some x => _ | none => _ : Except String RS) with | .error w => w | .ok _ => "") = if [row.getD a none].any (·.isNone) = true then "empty" else ""
        cases row.getD a none <;> rfl
      rw [if_neg w3] at q
      obtain ⟨b, rfl, hb⟩ := xf hpl hps w1 w3
      have w4 : t = Str.ofString "lay" := by
       unfold qK at hpl
       rw [if_neg w1, if_neg w2, if_neg w3] at hpl
       by_cases c : t = Str.ofString "lay"
       ·exact c
       ·rw [if_neg c] at hpl; cases hpl
      have q : ∀ w, (match jE (row, hd) [] b with | .error w => w | .ok _ => "") = w -> Q (.d (.str (Str.ofString w))) M := q
      rw [if_neg (show ¬ (([Dat.int ↑b].length + 1 : Nat) : Int) = 3 from fun z => by have : (2 : Int) = 3 := z; omega)]
      subst hr1
      refine zj fun r1 hr1 => ?_
      walk_at "ra"
      refine ⟨_, rfl, _, rfl, by rw [qD]; omega, ?_⟩
      rw [qB, if_neg (by rw [w4]; decide +kernel)]
      refine ⟨_, rfl, by omega, _, rfl, _, rfl, _, rfl, ?_⟩
      rw [Jo, if_pos (by rw [w4]; decide +kernel)]
      refine ⟨_, rfl, _, rfl, _, kR hb, ?_⟩
      unfold jE at q
      dsimp only at q
      cases hy : row.getD b none with
      | some y =>
       rw [hy] at q
       rw [if_pos (show qy (.d (oD (some y))) = false from rfl)]
       exact ⟨_, _, fin _, q "full" rfl⟩
      | none =>
       rw [hy] at q
       rw [if_neg (show ¬ qy (.d (oD none)) = false from fun z => nomatch z)]
       subst hr1
       refine zj fun r1 hr1 => ?_
       walk_at "ra"
       refine ⟨_, rfl, _, rfl, by rw [qD]; omega, ?_⟩
       rw [qB, if_pos (by rw [w4]; decide +kernel)]
       cases hd with
       | none =>
        rw [if_pos (show qy (.d (oD none)) = true from rfl)]
        exact ⟨_, _, fin _, q "empty" rfl⟩
       | some y =>
        rw [if_neg (show ¬ qy (.d (oD (some y))) = true from fun z => nomatch z)]
        exact ⟨_, _, fin _, q "" rfl⟩
noncomputable def OkX (x : Dat) : Prop := dp x <= 40 /\ ∀ l, x = .tup l -> l.length <= 1000
noncomputable abbrev Fx (u v : Int) : List Dat := [.tup [.str (Str.ofString "swap"), .int u, .int v], .tup [.str (Str.ofString "take"), .int u], .tup [.str (Str.ofString "move"), .int u, .int v], .tup [.str (Str.ofString "lay"), .int u], .tup [.str (Str.ofString "swap"), .int u, .int u], .tup [.str (Str.ofString "move"), .int u, .int u], .tup [.str (Str.ofString "swap"), .int u], .tup [.str (Str.ofString "take"), .int u, .int v], .tup [.str (Str.ofString "lay")], .tup [.str (Str.ofString "move"), .int u], .tup [], .lst [], .non, .bl true, .int 0, .str (Str.ofString "take"), .lst [.str (Str.ofString "take"), .int u], .tup [.str (Str.ofString "take"), .bl true], .tup [.str (Str.ofString "lay"), .non], .tup [.str (Str.ofString "swap"), .str (Str.ofString "0"), .int 1], .tup [.int 0, .int 1], .tup [.str (Str.ofString "Take"), .int u], .tup [.str (Str.ofString "take"), .int (10 ^ Int.toNat 17)], .tup [.tup [.str (Str.ofString "take"), .int 0]], .tup [.str (Str.ofString "move"), .int u, .lst [.int v]], .tup [.str (Str.ofString "lay"), .int (-1)], .tup [.lst [.str (Str.ofString "take")], .int u], .tup [.tup [.str (Str.ofString "swap")], .int u, .int v], .tup [.non, .int u], .tup [.lst [], .int 0], .tup [.bl true, .int u]]
theorem Bp (u v : Int) : ∀ d ∈ Fx u v, OkX d := by
 intro d hd
 simp only [List.mem_cons, List.not_mem_nil, or_false] at hd
 rcases hd with rfl | rfl | rfl | rfl | rfl | rfl | rfl | rfl | rfl | rfl | rfl | rfl | rfl | rfl | rfl | rfl | rfl | rfl | rfl | rfl | rfl | rfl | rfl | rfl | rfl | rfl | rfl | rfl | rfl | rfl | rfl
 all_goals refine ⟨by simp [dp, dps], fun l e => ?_⟩
 all_goals first | (cases e; exact Nat.le_of_ble_eq_true rfl) | cases e
noncomputable def FC : ASp := fun xs M Q => ∃ (b : Addr) (N n : Nat), xs = [.ref b, .d (.int n)] /\ BxM M b N /\ N < 1000000 /\ n <= 1000 /\ ∀ x M', BxS M M' b (N + 5) -> OkX x -> Q (.d x) M'
noncomputable abbrev XD : Stmt := top 26
theorem Yl : zy ["_law_box_here", "_law_n", "_law_some", "_law_place", "_law_other"] ["_law_box_here", "_law_n"] (zi XD) := ⟨rfl, rfl, rfl, by decide +kernel, rfl, by decide +kernel, by decide +kernel⟩
theorem BK (a : At K mg "_law_odd" XD) (B : Blt mg) (D_law_take : Df P w K mg base "_law_take" ["_law_box_here", "_law_many"] 1 (cSp AR)) : Df P w K mg base "_law_odd" ["_law_box_here", "_law_n"] 2 (cSp FC) := by
 refine dfA (k := 1) a Yl (fun _ _ _ _ _ _ us hl => match us, hl with | [_, _], _ => rfl) (fun xs M Q h => ?_) (fun f cdv A outer s H E hr => ?_)
 ·obtain ⟨_, _, _, rfl, _⟩ := h; rfl
 have sc := Yl
 have hsl := hsl
 refine' ⟨_, ?q0, ?qr⟩
 (case q0 =>
  refine' zc ?q1 ?q2
  (case q1 => exact (XU (i := 3) (j := 4) rfl sc.nd rfl rfl (by decide) rfl rfl (za (zz kC (zX D_law_take hr rfl (za (pv 0) (za (zz qv (pv 1) zd) zb))) zd) (za (zz kC (zX D_law_take hr rfl (za (pv 0) (za (zz qv (pv 1) zd) zb))) zd) zb)) rfl))
  (case q2 =>
   refine' zc ?q3 ?q4
   (case q3 => exact (zL (i := 2) sc.nd rfl (by first | exact Or.inl rfl | exact Or.inr rfl) (zM (za (zC (za zn (za (pv 3) (za (pv 4) zb)))) (za (zC (za zn (za (pv 3) zb))) (za (zC (za zn (za (pv 3) (za (pv 4) zb)))) (za (zC (za zn (za (pv 3) zb))) (za (zC (za zn (za (pv 3) (za (pv 3) zb)))) zb))))))))
   (case q4 =>
    refine' zc ?q5 ?q6
    (case q5 =>
     refine' zL (i := 2) ?q7 ?q8 ?q9 ?q10
     (case q7 => exact sc.nd)
     (case q8 => exact rfl)
     (case q9 => exact (by first | exact Or.inl rfl | exact Or.inr rfl))
     (case q10 =>
      refine' zz ?q11 ?q12 ?q13
      (case q11 => exact ku)
      (case q12 => exact (pv 2))
      (case q13 =>
       refine' zM ?q14
       (case q14 =>
        refine' za ?q15 ?q16
        (case q15 => exact (zC (za zn (za (pv 3) (za (pv 3) zb)))))
        (case q16 =>
         refine' za ?q17 ?q18
         (case q17 => exact (zC (za zn (za (pv 3) zb))))
         (case q18 =>
          refine' za ?q19 ?q20
          (case q19 => exact (zC (za zn (za (pv 3) (za (pv 4) zb)))))
          (case q20 =>
           refine' za ?q21 ?q22
           (case q21 => exact (zC (za zn zb)))
           (case q22 =>
            refine' za ?q23 ?q24
            (case q23 => exact (zC (za zn (za (pv 3) zb))))
            (case q24 =>
             refine' za ?q25 ?q26
             (case q25 => exact (zC zb))
             (case q26 =>
              refine' za ?q27 ?q28
              (case q27 => exact (zM zb))
              (case q28 => exact zb)))))))))))
    (case q6 =>
     refine' zc ?q29 ?q30
     (case q29 =>
      refine' zL (i := 2) ?q31 ?q32 ?q33 ?q34
      (case q31 => exact sc.nd)
      (case q32 => exact rfl)
      (case q33 => exact (by first | exact Or.inl rfl | exact Or.inr rfl))
      (case q34 =>
       refine' zz ?q35 ?q36 ?q37
       (case q35 => exact ku)
       (case q36 => exact (pv 2))
       (case q37 =>
        refine' zM ?q38
        (case q38 =>
         refine' za ?q39 ?q40
         (case q39 => exact zJ)
         (case q40 =>
          refine' za ?q41 ?q42
          (case q41 => exact kh)
          (case q42 =>
           refine' za ?q43 ?q44
           (case q43 => exact zd)
           (case q44 =>
            refine' za ?q45 ?q46
            (case q45 => exact zn)
            (case q46 =>
             refine' za ?q47 ?q48
             (case q47 => exact (zM (za zn (za (pv 3) zb))))
             (case q48 =>
              refine' za ?q49 ?q50
              (case q49 => exact (zC (za zn (za kh zb))))
              (case q50 =>
               refine' za ?q51 ?q52
               (case q51 => exact (zC (za zn (za zJ zb))))
               (case q52 =>
                refine' za ?q53 ?q54
                (case q53 => exact (zC (za zn (za zn (za zd zb)))))
                (case q54 =>
                 refine' za ?q55 ?q56
                 (case q55 => exact (zC (za zd (za zd zb))))
                 (case q56 => exact zb)))))))))))))
     (case q30 => exact (zc (zL (i := 2) sc.nd rfl (by first | exact Or.inl rfl | exact Or.inr rfl) (zz ku (pv 2) (zM (za (zC (za zn (za (pv 3) zb))) (za (zC (za zn (za (zz Y1 zd zd) zb))) (za (zC (za (zC (za zn (za zd zb))) zb)) (za (zC (za zn (za (pv 3) (za (zM (za (pv 4) zb)) zb)))) (za (zC (za zn (za (AW Yc zd) zb))) zb)))))))) (zc (zL (i := 2) sc.nd rfl (by first | exact Or.inl rfl | exact Or.inr rfl) (zz ku (pv 2) (zM (za (zC (za (zM (za zn zb)) (za (pv 3) zb))) (za (zC (za (zC (za zn zb)) (za (pv 3) (za (pv 4) zb)))) (za (zC (za zJ (za (pv 3) zb))) (za (zC (za (zM zb) (za zd zb))) (za (zC (za kh (za (pv 3) zb))) zb)))))))) (zh (zD (zw z0 (pv 2) (zw z0 (zM (za (zX D_law_take hr rfl (za (pv 0) (za zd zb))) (za (zX D_law_take hr rfl (za (pv 0) (za (zm zv rfl B.len qb (za (pv 2) zb)) zb))) zb))) (zX D_law_take hr rfl (za (pv 0) (za zd zb))) (fun _ _ => rfl)) (fun _ _ => rfl)))))))))))
 refine ex2 (by walk_at "sim") ?_
 rintro xs M Q ⟨b, N, n, rfl, hb, hN, hn, q⟩
 rw [show zU ["_law_box_here", "_law_n", "_law_some", "_law_place", "_law_other"] [.ref b, .d (.int n)] = [some (.ref b), some (.d (.int n)), none, none, none] from rfl]
 have sb := SB.refl hb
 refine zj fun r1 hr1 => ?_
 walk_at "ra"
 refine ⟨b, (n : Int) + 2, _, rfl, sb.bx, by omega, by omega, by omega, fun p M1 s1 p0 p1 => ?_⟩
 have sb := sb.go s1
 refine ⟨_, rfl, b, (n : Int) + 2, _, rfl, sb.bx, by omega, by omega, by omega, fun o M2 s2 o0 o1 => ⟨_, rfl, ?_⟩⟩
 have sb := sb.go s2
 generalize p - 1 = u
 generalize o - 1 = v
 subst hr1
 refine zj fun r1 hr1 => ?_
 walk_at "ra"
 repeat (refine And.intro (by omega) ?_)
 subst hr1
 refine zj fun r1 hr1 => ?_
 walk_at "ra"
 repeat (refine And.intro (by omega) ?_)
 subst hr1
 refine zj fun r1 hr1 => ?_
 walk_at "ra"
 repeat (first | refine And.intro (by omega) ?_ | refine And.intro ⟨by decide, by decide, by decide⟩ ?_)
 subst hr1
 refine zj fun r1 hr1 => ?_
 walk_at "ra"
 repeat (first | refine And.intro (by omega) ?_ | refine And.intro ⟨by decide, by decide, by decide⟩ ?_)
 subst hr1
 refine zj fun r1 hr1 => ?_
 walk_at "ra"
 repeat (first | refine And.intro (by omega) ?_ | refine And.intro ⟨by decide, by decide, by decide⟩ ?_)
 subst hr1
 walk_at "ra"
 refine ⟨b, 4, _, rfl, sb.bx, by omega, by omega, by omega, fun i M3 s3 i0 i1 => ?_⟩
 have sb := sb.go s3
 refine ⟨b, 31, _, rfl, sb.bx, by omega, by omega, by omega, fun j M4 s4 j0 j1 => ⟨by omega, _, rfl, ?_⟩⟩
 have sb := sb.go s4
 refine ⟨b, 2, _, rfl, sb.bx, by omega, by omega, by omega, fun k M5 s5 k0 k1 => ?_⟩
 have sb := sb.go s5
 obtain ⟨w, ew, hw0, hw1⟩ : ∃ w : Int, atI ([Dat.int i, Dat.int j].map AV.d) k = some (.d (.int w)) /\ 0 <= w /\ w < 31 := by
  obtain rfl | rfl : k = 0 \/ k = 1 := by omega
  ·exact ⟨i, rfl, by omega, by omega⟩
  ·exact ⟨j, rfl, by omega, by omega⟩
 obtain ⟨d, hd, ed⟩ := FS (l := Fx u v) (i := w) hw0 hw1
 refine ⟨_, rfl, _, ew, _, rfl, _, ed, ?_⟩
 exact (sb.mono (show _ <= N + 5 by omega)).rt fun M' s => q d M' s (Bp u v d hd)
theorem Q2 {s : ES} {ms ns : List Int} {x : Dat} {w : String} (h : doR s ms x = .error w) : doR s ns x = .error w := by
 unfold doR at h ⊢
 split at h
 ·rename_i c
  rw [if_pos c]
  split at h
  ·rename_i t ps
   have g1 : ∀ a b, qH s ms a b = .error w -> qH s ns a b = .error w := fun a b => by
    unfold qH
    split
    ·exact id
    ·cases s.1.getD a none <;> cases s.1.getD b none <;> intro h <;> first | exact h | cases h
   have g2 : ∀ a b, qz s ms a b = .error w -> qz s ns a b = .error w := fun a b => by
    unfold qz
    split
    ·exact id
    ·cases s.1.getD b none <;> cases s.1.getD a none <;> intro h <;> first | exact h | cases h
   have g3 : ∀ a, qN s ms a = .error w -> qN s ns a = .error w := fun a => by
    unfold qN
    cases s.2 <;> cases s.1.getD a none <;> intro h <;> first | exact h | cases h
   have g4 : ∀ a, jE s ms a = .error w -> jE s ns a = .error w := fun a => by
    unfold jE
    cases s.1.getD a none <;> cases s.2 <;> intro h <;> first | exact h | cases h
   split at h
   ·rename_i c1; rw [if_pos c1]; exact g1 _ _ h
   ·rename_i c1
    rw [if_neg c1]
    split at h
    ·rename_i c2; rw [if_pos c2]; exact g3 _ h
    ·rename_i c2
     rw [if_neg c2]
     split at h
     ·rename_i c3; rw [if_pos c3]; exact g2 _ _ h
     ·rename_i c3; rw [if_neg c3]; exact g4 _ h
  ·exact h
 ·rename_i c
  rw [if_neg c]; exact h
theorem Vb {s : ES} {ms : List Int} {x : Dat} {w : String} (h : doR s ms x = .error w) : ZI s x = w := by
 unfold ZI; rw [Q2 (ns := []) h]
theorem Ae {s : ES} {ms : List Int} {x : Dat} {t : RS} (h : doR s ms x = .ok t) : ZI s x = "" := by
 unfold ZI
 cases e : doR s [] x with
 | ok _ => rfl
 | error w => rw [Q2 (ns := ms) e] at h; cases h
theorem XB {H : Hp} {O : Own} (c : Option Int) : Rep H O (cE c) (oD c) := by cases c; exact .non; exact .int
theorem ZU {H : Hp} {O : Own} {v : V} {c : Option Int} (r : Rep H O v (oD c)) : v = cE c := by
 cases c with
 | none => exact kX r
 | some x => exact zF r
theorem vn {H : Hp} {O : Own} {M : MH} {xs : List V} {row : List (Option Int)} (r : zl H O M xs ((row.map oD).map AV.d)) : xs = row.map cE := by
 have ll : xs.length = row.length := by have := r.1; rwa [List.length_map, List.length_map] at this
 refine List.ext_getElem (by rw [List.length_map]; exact ll) fun i h1 h2 => ?_
 rw [List.length_map] at h2
 rw [List.getElem_map]
 exact ZU (r.2 i xs[i] (.d (oD row[i])) (List.getElem?_eq_getElem h1) (by rw [List.getElem?_map, List.getElem?_map, List.getElem?_eq_getElem h2]; rfl))
noncomputable def dD : De -> Dat
 | .swap a b => .tup [.str (Str.ofString "swap"), .int (a : Int), .int (b : Int)]
 | .take p => .tup [.str (Str.ofString "take"), .int (p : Int)]
 | .move p g => .tup [.str (Str.ofString "move"), .int (p : Int), .int (g : Int)]
 | .lay g => .tup [.str (Str.ofString "lay"), .int (g : Int)]
theorem jx {H : Hp} {O : Own} {p : Addr} {xs : List V} {l : List Dat} (ho : ¬ O p) (h : H p = some (.tup xs)) (r : zl H O (fun _ => none) xs (l.map .d)) : Rep H O (.ref p) (.tup l) := Rep.tup ho h r.pure.1 r.pure.2
theorem BG {H : Hp} {O : Own} {p : Addr} {d : De} (ho : ¬ O p) (h : H p = some (.tup (deV d))) : Rep H O (.ref p) (dD d) := by
 cases d
 ·exact jx ho h (.cons .str (.cons .int (.cons .int .nil)))
 ·exact jx ho h (.cons .str (.cons .int .nil))
 ·exact jx ho h (.cons .str (.cons .int (.cons .int .nil)))
 ·exact jx ho h (.cons .str (.cons .int .nil))
noncomputable def Ao : ASp := fun xs M Q => ∃ (b : Addr) (row : List (Option Int)) (h : Option Int) (N : Nat), xs = [.ref b, .d (.lst (row.map oD)), .d (oD h)] /\ BxM M b N /\ N < 1000000 /\ row.length <= 1000 /\
 ∀ M', BxS M M' b (N + 10) -> Q (.d .non) M' /\ ∀ d t, DoE d (row, h) t -> Q (.d (dD d)) M'
theorem Wj (vs : List V) (H : Hp) (Q : VK) (E : XK) (h : cSp Ao vs H Q E) : Xe vs H Q E := by
 obtain ⟨xs, M, O, Q', w, r, ⟨b, row, h, N, rfl, hb, hN, hl, q⟩, k⟩ := h
 obtain ⟨v, r', rfl, rv, r1⟩ := r.cons_inv
 obtain ⟨v2, r', rfl, rv2, r2⟩ := r1.cons_inv
 obtain ⟨v3, r', rfl, rv3, r3⟩ := r2.cons_inv
 obtain ⟨a, xs, rfl, ha, rx⟩ := qw w rv2 (show qu (.d (.lst (row.map oD))) M = some ((row.map oD).map AV.d) from rfl)
 rw [r3.nil_inv, ZU rv3, rv.1]
 rw [vn rx] at ha
 refine ⟨b, a, row, h, N, rfl, hb.bx w, by omega, ha, hl, fun H' kp hb' => ?_⟩
 obtain ⟨M', s, e, w'⟩ := Qq w hb kp hb'
 obtain ⟨q1, q2⟩ := q M' s
 exact ⟨k _ _ _ _ _ q1 e w' .non, fun p d t hp hp' hd => k _ _ _ _ _ (q2 d t hd) e w' (BG (w'.tup hp') hp')⟩
noncomputable def Ba : ASp := fun xs M Q => ∃ (d : De) (st st' : ES), xs = [.d (.lst (st.1.map oD)), .d (oD st.2), .d (dD d)] /\ DoE d st st' /\ st.1.length <= 1000 /\ Q (.d (.tup [.lst (st'.1.map oD), oD st'.2])) M
theorem Yq {H : Hp} {O : Own} {v : V} {l : List Dat} (r : Rep H O v (.tup l)) : ∃ a xs, v = .ref a /\ H a = some (.tup xs) /\ zl H O (fun _ => none) xs (l.map .d) := jh (M := fun _ => none) (x := .d (.tup l)) r rfl
theorem Ka {H : Hp} {O : Own} {v : V} {d : De} (r : Rep H O v (dD d)) : ∃ a, v = .ref a /\ H a = some (.tup (deV d)) := by
  cases d <;>
  · obtain ⟨a, xs, rfl, h, rr⟩ := Yq r
    refine ⟨a, rfl, ?_⟩
    rw [h]
    simp only [List.map_cons, List.map_nil] at rr
    first
      | (obtain ⟨v1, r', rfl, a1, r2⟩ := rr.cons_inv
         obtain ⟨v2, r', rfl, a2, r3⟩ := r2.cons_inv
         obtain ⟨v3, r', rfl, a3, r4⟩ := r3.cons_inv
         rw [r4.nil_inv, xQ a1, zF a2, zF a3]; rfl)
      | (obtain ⟨v1, r', rfl, a1, r2⟩ := rr.cons_inv
         obtain ⟨v2, r', rfl, a2, r3⟩ := r2.cons_inv
         rw [r3.nil_inv, xQ a1, zF a2]; rfl)
theorem Ku {H : Hp} {O : Own} {p : Addr} {row : List (Option Int)} (ho : ¬ O p) (h : H p = some (.lst (row.map cE))) : Rep H O (.ref p) (.lst (row.map oD)) := by
 refine Rep.lst ho h (by rw [List.length_map, List.length_map]) fun i x d i1 i2 => ?_
 rw [List.getElem?_map] at i1 i2
 cases e : row[i]? with
 | none => rw [e] at i1; cases i1
 | some c => rw [e] at i1 i2; cases i1; cases i2; exact XB c
theorem WI (vs : List V) (H : Hp) (Q : VK) (E : XK) (h : cSp Ba vs H Q E) : K1 vs H Q E := by
 obtain ⟨xs, M, O, Q', w, r, ⟨d, st, st', rfl, hd, hl, q⟩, k⟩ := h
 obtain ⟨v, r', rfl, rv, r1⟩ := r.cons_inv
 obtain ⟨v2, r', rfl, rv2, r2⟩ := r1.cons_inv
 obtain ⟨v3, r', rfl, rv3, r3⟩ := r2.cons_inv
 obtain ⟨a, xs, rfl, ha, rx⟩ := qw w rv (show qu (.d (.lst (st.1.map oD))) M = some ((st.1.map oD).map AV.d) from rfl)
 obtain ⟨b, rfl, hb⟩ := Ka rv3
 rw [r3.nil_inv, ZU rv2]
 rw [vn rx] at ha
 refine ⟨a, b, d, st, st', rfl, ha, hb, hd, hl, fun t p H' kp ht hp ht' hp' => ?_⟩
 obtain ⟨e1, w1⟩ := ZW w kp
 exact k _ _ _ _ _ q e1 w1 (jx (w1.tup ht') ht' (.cons (Ku (w.fresh hp).1 hp') (.cons (XB _) .nil)))
theorem j5 {row : List (Option Int)} {a : Nat} {c : Option Int} (h : row[a]? = some c) : a < row.length /\ row.getD a none = c := ⟨(List.getElem?_eq_some_iff.mp h).1, by rw [List.getD_eq_getElem?_getD, h]; rfl⟩
theorem vk {n a : Nat} (h : a < n) : zY (.int (a : Int)) n = true := decide_eq_true ⟨by omega, by omega⟩
noncomputable def jv (ms : List Int) : Option Int -> List Int
 | none => ms
 | some x => jr ms x
noncomputable def j7 (s : ES) : De -> List (Option Int)
 | .swap a b => [s.1.getD a none, s.1.getD b none]
 | .take p => [s.1.getD p none]
 | .move p g => [s.1.getD p none, s.1.getD g none]
 | .lay _ => [s.2]
theorem Eg {d : De} {s t : ES} (h : DoE d s t) (ms : List Int) : doR s ms (dD d) = .ok (t, (j7 s d).foldl jv ms) := by
 cases h with
 | @swap a b row hd x y ne h1 h2 =>
  obtain ⟨l1, g1⟩ := j5 h1
  obtain ⟨l2, g2⟩ := j5 h2
  have hf : zV (dD (.swap a b)) row.length = true := by
   show (qK (Str.ofString "swap") == some 2 && [Dat.int (a : Int), Dat.int (b : Int)].all (zY · row.length)) = true
   simp only [List.all_cons, List.all_nil, vk l1, vk l2]; rfl
  show _ = Except.ok (_, [row.getD a none, row.getD b none].foldl jv ms)
  unfold doR
  rw [if_pos hf]
  show qH (row, hd) ms a b = _
  unfold qH
  rw [if_neg ne]
  dsimp only
  rw [g1, g2]; rfl
 | @take p row x h1 =>
  obtain ⟨l1, g1⟩ := j5 h1
  have hf : zV (dD (.take p)) row.length = true := by
   show (qK (Str.ofString "take") == some 1 && [Dat.int (p : Int)].all (zY · row.length)) = true
   simp only [List.all_cons, List.all_nil, vk l1]; rfl
  show _ = Except.ok (_, [row.getD p none].foldl jv ms)
  unfold doR
  rw [if_pos hf]
  show qN (row, none) ms p = _
  unfold qN
  dsimp only
  rw [g1]; rfl
 | @move p g row hd x h1 h2 =>
  obtain ⟨l1, g1⟩ := j5 h1
  obtain ⟨l2, g2⟩ := j5 h2
  have ne : p ≠ g := fun z => by rw [z, h2] at h1; cases h1
  have hf : zV (dD (.move p g)) row.length = true := by
   show (qK (Str.ofString "move") == some 2 && [Dat.int (p : Int), Dat.int (g : Int)].all (zY · row.length)) = true
   simp only [List.all_cons, List.all_nil, vk l1, vk l2]; rfl
  show _ = Except.ok (_, [row.getD p none, row.getD g none].foldl jv ms)
  unfold doR
  rw [if_pos hf]
  show qz (row, hd) ms p g = _
  unfold qz
  rw [if_neg ne]
  dsimp only
  rw [g2]; dsimp only; rw [g1]; rfl
 | @lay g row x h1 =>
  obtain ⟨l1, g1⟩ := j5 h1
  have hf : zV (dD (.lay g)) row.length = true := by
   show (qK (Str.ofString "lay") == some 1 && [Dat.int (g : Int)].all (zY · row.length)) = true
   simp only [List.all_cons, List.all_nil, vk l1]; rfl
  show _ = Except.ok (_, [some x].foldl jv ms)
  unfold doR
  rw [if_pos hf]
  show jE (row, some x) ms g = _
  unfold jE
  dsimp only
  rw [g1]; rfl
theorem j6 {row : List (Option Int)} {a : Nat} {c : Option Int} (h : a < row.length) (g : row.getD a none = c) : row[a]? = some c := by
 rw [List.getD_eq_getElem?_getD, List.getElem?_eq_getElem h] at g
 rw [List.getElem?_eq_getElem h]
 exact congrArg some g
theorem VN {s : ES} {ms : List Int} {x : Dat} {t : RS} (h : doR s ms x = .ok t) : ∃ d, x = dD d /\ DoE d s t.1 := by
 obtain ⟨row, hd⟩ := s
 unfold doR at h
 by_cases hf : zV x row.length = true
 case neg => rw [if_neg hf] at h; cases h
 rw [if_pos hf] at h
 obtain ⟨w, ps, rfl, hpl, hps⟩ := xm hf
 dsimp only at h
 by_cases w1 : w = Str.ofString "swap"
 ·rw [if_pos w1] at h
  obtain ⟨a, b, rfl, ha, hb⟩ := xC hpl hps (.inl w1)
  have h : qH (row, hd) ms a b = .ok t := h
  unfold qH at h
  by_cases hab : a = b
  ·rw [if_pos hab] at h; cases h
  rw [if_neg hab] at h
  dsimp only at h
  cases hx : row.getD a none with
  | none => rw [hx] at h; cases h
  | some x =>
   cases hy : row.getD b none with
   | none => rw [hx, hy] at h; cases h
   | some y =>
    rw [hx, hy] at h
    cases h
    exact ⟨.swap a b, by rw [w1]; rfl, .swap hab (j6 ha hx) (j6 hb hy)⟩
 rw [if_neg w1] at h
 by_cases w2 : w = Str.ofString "take"
 ·rw [if_pos w2] at h
  obtain ⟨a, rfl, ha⟩ := xf hpl hps w1 (by rw [w2]; decide +kernel)
  have h : qN (row, hd) ms a = .ok t := h
  unfold qN at h
  dsimp only at h
  cases hd with
  | some y => cases h
  | none =>
   dsimp only at h
   cases hx : row.getD a none with
   | none => rw [hx] at h; cases h
   | some x =>
    rw [hx] at h
    cases h
    exact ⟨.take a, by rw [w2]; rfl, .take (j6 ha hx)⟩
 rw [if_neg w2] at h
 by_cases w3 : w = Str.ofString "move"
 ·rw [if_pos w3] at h
  obtain ⟨a, b, rfl, ha, hb⟩ := xC hpl hps (.inr w3)
  have h : qz (row, hd) ms a b = .ok t := h
  unfold qz at h
  by_cases hab : a = b
  ·rw [if_pos hab] at h; cases h
  rw [if_neg hab] at h
  dsimp only at h
  cases hy : row.getD b none with
  | some y => rw [hy] at h; cases h
  | none =>
   rw [hy] at h
   dsimp only at h
   cases hx : row.getD a none with
   | none => rw [hx] at h; cases h
   | some x =>
    rw [hx] at h
    cases h
    exact ⟨.move a b, by rw [w3]; rfl, .move (j6 ha hx) (j6 hb hy)⟩
 rw [if_neg w3] at h
 obtain ⟨b, rfl, hb⟩ := xf hpl hps w1 w3
 have w4 : w = Str.ofString "lay" := by
  unfold qK at hpl
  rw [if_neg w1, if_neg w2, if_neg w3] at hpl
  by_cases c : w = Str.ofString "lay"
  ·exact c
  ·rw [if_neg c] at hpl; cases hpl
 have h : jE (row, hd) ms b = .ok t := h
 unfold jE at h
 dsimp only at h
 cases hy : row.getD b none with
 | some y => rw [hy] at h; cases h
 | none =>
  rw [hy] at h
  dsimp only at h
  cases hd with
  | none => cases h
  | some x =>
   cases h
   exact ⟨.lay b, by rw [w4]; rfl, .lay (j6 hb hy)⟩
noncomputable abbrev yx : Stmt := top 22
theorem vY : zy ["_law_found", "_law_due", "_law_one", "_law_other"] ["_law_found", "_law_due"] (zi yx) := ⟨rfl, rfl, rfl, by decide +kernel, rfl, by decide +kernel, by decide +kernel⟩
noncomputable def yY (n : Nat) : ASp := fun xs M Q => ∃ (x y : AV) (d : Dat), xs = [x, y] /\ yp x M = some d /\ yp y M = some d /\ jd n d /\ n <= 30 /\ Q (.d (.bl true)) M
noncomputable def aNo : ASp := fun _ _ _ => False
theorem wv {x y : AV} {M : MH} {l : List Dat} {n : Nat} {sp : ASp} (hsp : ∀ xs M Q, yY n xs M Q -> sp xs M Q) {N : List AV -> ASt -> MH -> Prop} (hl : l.length <= 100000) (hd : ∀ d ∈ l, jd n d) (hn : n <= 30) {u v : Option AV} (hN : N (l.map fun _ => AV.d (.bl true)) [] M) (hN' : ∀ acc ρ ρ' M, N acc ρ M -> N acc ρ' M) :
  V4 (Xd 2 (vZ (yF 2) (vZ (yF 3) Yb))) wo (vo (Xy sp (QX (ZC 2) (QX (ZC 3) Bz)))) (fun M' => qu x M' = qu x M /\ qu y M' = qu y M) N (vQ l l) [] [some x, some y, u, v] M := by
 have e : (vQ l l).map (fun _ => AV.d (.bl true)) = l.map fun _ => AV.d (.bl true) := by
  rw [List.map_const', List.map_const', jQ, Nat.min_self]
 refine vG (fun (o : Option AV × Option AV) => [some x, some y, o.1, o.2]) (fun _ => .d (.bl true)) ⟨(u, v), rfl⟩ ⟨rfl, rfl⟩ (by rw [jQ, Nat.min_self]; exact hl) (fun o z Q hz q => ?_) fun o => by rw [e]; exact hN' _ _ _ _ hN
 obtain ⟨i, hi⟩ := List.getElem?_of_mem hz
 obtain ⟨d, d', h1, h2, rfl⟩ := yA hi
 rw [h1] at h2; cases h2
 walk_at "ra"
 exact hsp _ _ _ ⟨_, _, d, rfl, rfl, rfl, hd d (List.mem_of_getElem? h1), hn, q (some (.d d), some (.d d))⟩
theorem Zh {l : List Dat} : ∃ bs : List Bool, (l.map fun _ => Dat.bl true) = bs.map Dat.bl /\ (l.map fun _ => AV.d (Dat.bl true)) = bs.map (fun b => AV.d (.bl b)) /\ bs.all id = true := ⟨l.map fun _ => true, by rw [List.map_map]; rfl, by rw [List.map_map]; rfl, by simp⟩
theorem FF (a : At K mg "_law_same" yx) : Df P w K mg base "_law_same" ["_law_found", "_law_due"] 1 (cSp aNo) :=
 xJ (k := 0) a vY (fun _ _ _ _ _ _ us hl => match us, hl with | [_, _], _ => rfl) (fun vs H Q E h => by obtain ⟨_, _, _, _, _, _, h, _⟩ := h; exact h.elim) (fun f cdv A outer s H vs Q E hr h => by obtain ⟨_, _, _, _, _, _, h, _⟩ := h; exact h.elim)
theorem Jb (a : At K mg "_law_same" yx) (B : Blt mg) (Ball : mg "all" = none) {kk : Nat} (n : Nat) {sp : ASp} (hsp : ∀ xs M Q, 1 <= n -> yY (n - 1) xs M Q -> sp xs M Q) (D_law_same : Df P w K mg base "_law_same" ["_law_found", "_law_due"] kk (cSp sp)) : Df P w K mg base "_law_same" ["_law_found", "_law_due"] (kk + 1) (cSp (yY n)) := by
 refine dfA (k := kk) a vY (fun _ _ _ _ _ _ us hl => match us, hl with | [_, _], _ => rfl) (fun xs M Q h => ?_) (fun f cdv A outer s H E hr => ?_)
 ·obtain ⟨_, _, _, rfl, _⟩ := h; rfl
 have sc := vY
 have hsl := hsl
 have hs2 : 0 + 1 + 1 <= sizeLine := by omega
 refine ⟨_, (zc (zI (qC (zm J0 rfl B.isinstance zq (za (pv 1) (za (zC (za (zS (v := .ty "list") rfl B.list jH rfl) (za (zS (v := .ty "tuple") rfl B.tuple qL rfl) zb))) zb))) (fun _ => rfl)) (zc (zI (PW.pt (jt (zo (yu hr.units) (zm zN rfl B.isinstance zq (za (pv 0) (za (zS (v := .ty "list") rfl B.list jH rfl) zb))) (zm zN rfl B.isinstance zq (za (pv 1) (za (zS (v := .ty "list") rfl B.list jH rfl) zb))) (zu _)) (jc (zo (yu hr.units) (zm zN rfl B.isinstance zq (za (pv 0) (za (zS (v := .ty "tuple") rfl B.tuple qL rfl) zb))) (zm zN rfl B.isinstance zq (za (pv 1) (za (zS (v := .ty "tuple") rfl B.tuple qL rfl) zb))) (zu _))))) (zh (zD kh)) zx)
  (zh (zD (wl (qU (qc hr.units) (zm zv rfl B.len qb (za (pv 0) zb)) (zm zv rfl B.len qb (za (pv 1) zb)) (zu _)) (Qv (zm (y8 rfl) rfl Ball Vm (za (vS (ts := [2, 3]) rfl rfl (Yg rfl B.zip (za (pv 0) (za (pv 1) zb))) (fun _ _ _ _ => (jk (K := K) 2 rfl rfl (zT (zQ (i := 2) sc.nd rfl (by first | exact Or.inl rfl | exact Or.inr rfl)) (zT (zQ (i := 3) sc.nd rfl (by first | exact Or.inl rfl | exact Or.inr rfl)) jn)))) (fun _ _ _ _ => kW) (fun _ _ _ _ => (zX D_law_same hr rfl (za (pv 2) (za (pv 3) zb))))) zb))))))) zx)
  (zc (zI (PW.pt (jt (zo jD (pv 1) zJ (zu _)) (jc (qC (zm zN rfl B.isinstance zq (za (pv 1) (za (zS (v := .ty "str") rfl B.str yj rfl) zb))) (fun _ => rfl))))) (zh (zD (wl (qU (qc hr.units) (pv 0) (pv 1) (zu _)) (Qv (qU (qc hr.units) (zm zN rfl B.isinstance zq (za (pv 0) (za (zS (v := .ty "str") rfl B.str yj rfl) zb))) (zm zN rfl B.isinstance zq (za (pv 1) (za (zS (v := .ty "str") rfl B.str yj rfl) zb))) (zu _)))))) zx)
  (zh (zD (wl (zm zN rfl B.isinstance zq (za (pv 0) (za (zS (v := .ty "int") rfl B.int kz rfl) zb))) (wl (qU (qc hr.units) (zm zN rfl B.isinstance zq (za (pv 0) (za (zS (v := .ty "bool") rfl B.bool xX rfl) zb))) (zm zN rfl B.isinstance zq (za (pv 1) (za (zS (v := .ty "bool") rfl B.bool xX rfl) zb))) (zu _)) (Qv (qU (qc hr.units) (pv 0) (pv 1) (zu _))))))))), ?_⟩
 refine ex2 (by walk_at "sim") ?_
 rintro xs M Q ⟨x, y, d, rfl, hx, hy, hd, hn, q⟩
 rw [show zU ["_law_found", "_law_due", "_law_one", "_law_other"] [x, y] = [some x, some y, none, none] from rfl]
 have fin := qj (M0 := M) Fr.refl (.bl true)
 cases d with
 | non => obtain rfl := qd hx (fun _ z => nomatch z); obtain rfl := qd hy (fun _ z => nomatch z); walk_at "ra"; exact ⟨hs2, _, _, fin, q⟩
 | bl b => obtain rfl := qd hx (fun _ z => nomatch z); obtain rfl := qd hy (fun _ z => nomatch z); walk_at "ra"; exact ⟨hs2, _, _, fin, q⟩
 | int i => obtain rfl := qd hx (fun _ z => nomatch z); obtain rfl := qd hy (fun _ z => nomatch z); walk_at "ra"; exact ⟨hs2, _, _, fin, q⟩
 | str i => obtain rfl := qd hx (fun _ z => nomatch z); obtain rfl := qd hy (fun _ z => nomatch z); walk_at "ra"; exact ⟨hs2, _, _, fin, q⟩
 | tup l =>
  obtain rfl := qd hx (fun _ z => nomatch z)
  obtain rfl := qd hy (fun _ z => nomatch z)
  cases n with
  | zero => exact hd.no_t.elim
  | succ n =>
   obtain ⟨hl, hd'⟩ := hd.tup
   walk_at "ra"
   refine ⟨hs2, l, l, .inr ⟨rfl, rfl, Nat.le_refl _⟩, wv (n := n) (sp := sp) (fun xs M Q h => hsp xs M Q (by omega) h) hl hd' (by omega) ?_ (fun _ _ _ _ z => z)⟩
   obtain ⟨bs, b1, b2, b3⟩ := Zh (l := l)
   refine ⟨l.map fun _ => .bl true, ?_, bs, by rw [List.map_map]; exact b2, ?_⟩
   ·rw [<- qk (l.map fun _ => Dat.bl true), List.map_map]; rfl
   ·rw [b3]; exact ⟨_, _, fin, q⟩
 | lst l =>
  obtain ⟨x1, x2, x3, x4⟩ := Zo hx
  obtain ⟨y1, y2, y3, y4⟩ := Zo hy
  cases n with
  | zero => exact hd.no_l.elim
  | succ n =>
   obtain ⟨hl, hd'⟩ := hd.lst
   walk_at "ra"
   simp only [x2, x3, x4, y2, y3, y4]
   walk_at "ra"
   refine ⟨hs2, l, l, .inl ⟨x1, y1⟩, wv (n := n) (sp := sp) (fun xs M Q h => hsp xs M Q (by omega) h) hl hd' (by omega) ?_ (fun _ _ _ _ z => z)⟩
   obtain ⟨bs, b1, b2, b3⟩ := Zh (l := l)
   refine ⟨l.map fun _ => .bl true, ?_, bs, by rw [List.map_map]; exact b2, ?_⟩
   ·rw [<- qk (l.map fun _ => Dat.bl true), List.map_map]; rfl
   ·rw [b3]; exact ⟨_, _, fin, q⟩
 | ty t => have := hd.1; rw [dp] at this; omega
 | rng _ _ _ => have := hd.1; rw [dp] at this; omega
 | scr _ _ => have := hd.1; rw [dp] at this; omega
theorem wR (a : At K mg "_law_same" yx) (B : Blt mg) (Ball : mg "all" = none) : ∀ n, Df P w K mg base "_law_same" ["_law_found", "_law_due"] (n + 2) (cSp (yY n))
 | 0 => Jb a B Ball 0 (sp := aNo) (fun _ _ _ h => absurd h (by omega)) (FF a)
 | n + 1 => Jb a B Ball (n + 1) (sp := yY n) (fun _ _ _ _ h => h) (wR a B Ball n)
noncomputable def QV (C : Addr) : ASp := fun xs M Q => ∃ (p rw_ mv m : Addr) (s : ES) (ms : List Int), xs = [.ref p, .d (.lst (s.1.map oD)), .d (oD s.2), .ref m] /\ zW C M p rw_ mv s ms /\ M m = some (msA ms) /\ s.1.length <= 1000 /\ ms.length <= 1000 /\ Q (.d (.bl true)) M
noncomputable abbrev xk : Stmt := top 23
theorem yH : zy ["_law_room", "_law_row", "_law_hand", "_law_moved", "_law_told"] ["_law_room", "_law_row", "_law_hand", "_law_moved"] (zi xk) := ⟨rfl, rfl, rfl, by decide +kernel, rfl, by decide +kernel, by decide +kernel⟩
theorem ZL (a : At K mg "_law_stands" xk) (B : Blt mg) (D_law_same : Df P w K mg base "_law_same" ["_law_found", "_law_due"] 6 (cSp (yY 3))) {C : Addr} (CL : Cls K C) (M_row_now : Dm P w K mg base C "row_now" ["self"] 6 (cSp (Am C))) (M_hand_now : Dm P w K mg base C "hand_now" ["self"] 6 (cSp (Aq C))) (M_moved_now : Dm P w K mg base C "moved_now" ["self"] 6 (cSp (A6 C))) : Df P w K mg base "_law_stands" ["_law_room", "_law_row", "_law_hand", "_law_moved"] 7 (cSp (QV C)) := by
 refine dfA (k := 6) a yH (fun _ _ _ _ _ _ us hl => match us, hl with | [_, _, _, _], _ => rfl) (fun xs M Q h => ?_) (fun f cdv A outer s H E hr => ?_)
 ·obtain ⟨_, _, _, _, _, _, rfl, _⟩ := h; rfl
 have sc := yH
 have hsl := hsl
 refine ⟨_, (zc (zL (i := 4) sc.nd rfl (by first | exact Or.inl rfl | exact Or.inr rfl) (zM (za (Qp CL M_row_now hr (pv 0)) (za (Qp CL M_hand_now hr (pv 0)) (za (Qp CL M_moved_now hr (pv 0)) zb)))))
  (zh (zD (zX D_law_same hr rfl (za (pv 4) (za (zM (za (zR qQ rfl B.tuple qL (za (pv 1) zb)) (za (pv 2) (za (zR qQ rfl B.tuple qL (za (pv 3) zb)) zb)))) zb)))))), ?_⟩
 refine ex2 (by walk_at "sim") ?_
 rintro xs M Q ⟨p, rw_, mv, m, ⟨row, hd⟩, ms, rfl, r, hm, h1, h2, q⟩
 rw [show zU ["_law_room", "_law_row", "_law_hand", "_law_moved", "_law_told"] [.ref p, .d (.lst (row.map oD)), .d (oD hd), .ref m] = [some (.ref p), some (.d (.lst (row.map oD))), some (.d (oD hd)), some (.ref m), none] from rfl]
 refine zj fun r1 hr1 => ?_
 walk_at "ra"
 refine ⟨_, r.ins, rfl, p, rw_, mv, (row, hd), ms, rfl, r, h1, _, r.ins, rfl, p, rw_, mv, (row, hd), ms, rfl, r, _, r.ins, rfl, p, rw_, mv, (row, hd), ms, rfl, r, h2, by omega, _, rfl, ?_⟩
 subst hr1
 walk_at "ra"
 refine ⟨_, ql hm, _, jz _, by omega, _, _, _, rfl, rfl, rfl, ?_, by omega, ⟨_, _, qj Fr.refl _, q⟩⟩
 have h1 : row.length <= 1000 := h1
 have fo : ∀ (c : Option Int) n, jd n (oD c) := fun c n => by cases c; exact Xh n; exact wZ n _
 refine YD (by simp) fun x hx => ?_
 simp only [List.mem_cons, List.not_mem_nil, or_false] at hx
 rcases hx with rfl | rfl | rfl
 ·exact (Zb (n := 1) (by rw [List.length_map]; omega) fun x hx => by obtain ⟨c, _, rfl⟩ := List.mem_map.mp hx; exact fo c 1)
 ·exact fo hd 2
 ·exact (ZV (ns := ms) (by omega)).mono (by omega)
noncomputable def Zk : ASp := fun xs M Q => ∃ (m : Addr) (d : De) (s t : ES) (ms : List Int), xs = [.ref m, .d (.lst (s.1.map oD)), .d (oD s.2), .d (dD d)] /\ M m = some (msA ms) /\ DoE d s t /\ OkM s ms.length /\ s.1.length <= 1000 /\ Q (.d .non) (mup M m (msA ((j7 s d).foldl jv ms)))
theorem JH (ms : List Int) (c : Option Int) : (jv ms c).length = ms.length := by cases c; rfl; exact wq _ _
theorem vv (cs : List (Option Int)) : ∀ ms, (cs.foldl jv ms).length = ms.length := by
 induction cs with
 | nil => exact fun _ => rfl
 | cons c cs ih => intro ms; rw [List.foldl_cons, ih, JH]
theorem Kt {α : Type} {l : List α} {i : Nat} {x : α} (h : l[i]? = some x) : l.take (i + 1) = l.take i ++ [x] := by rw [List.take_succ, h]; rfl
theorem BL {M : MH} {p : Addr} {o : MO} (h : M p = some o) : mup M p o = M := by
 funext b; unfold mup; by_cases c : b = p
 ·rw [if_pos c, c, h]
 ·rw [if_neg c]
theorem Ef (M : MH) (m : Addr) (ms : List Int) {d : Dat} : yP M (mup M m (msA ms)) (.d d) (.d d) (mup M m (msA ms)) := by
 refine ⟨fun q => .inl rfl, fun q o e => ?_, .inl ⟨rfl, fun p z => nomatch z⟩⟩
 by_cases c1 : q = m
 ·rw [c1, zp] at e
  cases e
  exact .inr fun z hz => absurd hz (xZ (ds := ms.map .int) (jz _) z)
 ·rw [zr c1] at e; exact .inl e
theorem at0 (x : AV) (l : List AV) : atI (x :: l) 0 = some x := by
 unfold atI
 rw [jp (by omega) (by rw [List.length_cons]; omega)]
 rfl
noncomputable def dW : De -> Str
 | .swap _ _ => Str.ofString "swap"
 | .take _ => Str.ofString "take"
 | .move _ _ => Str.ofString "move"
 | .lay _ => Str.ofString "lay"
noncomputable def dPs : De -> List Nat
 | .swap a b => [a, b]
 | .take a => [a]
 | .move a b => [a, b]
 | .lay a => [a]
theorem FG (d : De) : dD d = .tup (.str (dW d) :: (dPs d).map fun k : Nat => Dat.int k) := by cases d <;> rfl
theorem VQ (d : De) : (dPs d).length <= 2 := by cases d <;> simp [dPs]
theorem FN (w : Str) (ps : List Dat) : ¬(HT.sIx (Dat.str w :: ps).length 0 (some 1) = 0 /\ HT.sIx (Dat.str w :: ps).length (Dat.str w :: ps).length none = (Dat.str w :: ps).length) := by
 rintro ⟨z, _⟩
 unfold HT.sIx at z
 simp at z
 try omega
theorem W0 (w : Str) (ps : List Dat) : kN (Dat.str w :: ps) (some 1) none = ps := by
 rw [show (some 1 : Option Int) = some ((1 : Nat) : Int) from rfl, xr]; rfl
theorem EX {d : De} {s t : ES} (h : DoE d s t) : ∀ k ∈ dPs d, k < s.1.length := by
 have g : ∀ {row : List (Option Int)} {a : Nat} {c : Option Int}, row[a]? = some c -> a < row.length := fun h => (List.getElem?_eq_some_iff.mp h).1
 cases h <;> intro k hk <;> simp only [dPs, List.mem_cons, List.not_mem_nil, or_false] at hk
 ·rename_i h1 h2; rcases hk with rfl | rfl; exact g h1; exact g h2
 ·rename_i h1; subst hk; exact g h1
 ·rename_i h1 h2; rcases hk with rfl | rfl; exact g h1; exact g h2
 ·rename_i h1; subst hk; exact g h1
theorem Vn {d : De} {s t : ES} {n : Nat} (h : DoE d s t) (ok : OkM s n) : ∀ x, some x ∈ j7 s d -> 0 <= x /\ x < (n : Int) := by
 have g : ∀ (k : Nat) x, s.1.getD k none = some x -> 0 <= x /\ x < (n : Int) := fun k x e => by
  by_cases c : k < s.1.length
  ·rw [List.getD_eq_getElem?_getD, List.getElem?_eq_getElem c] at e
   exact ok.1 x (by rw [<- show s.1[k] = some x from e]; exact List.getElem_mem c)
  ·rw [List.getD_eq_getElem?_getD, List.getElem?_eq_none (by omega)] at e; cases e
 intro x hx
 cases d <;> simp only [j7, List.mem_cons, List.not_mem_nil, or_false] at hx
 ·rcases hx with hx | hx <;> exact g _ x hx.symm
 ·exact g _ x hx.symm
 ·rcases hx with hx | hx <;> exact g _ x hx.symm
 ·exact ok.2 x hx.symm
noncomputable abbrev kF : Stmt := top 24
theorem xE : zy ["_law_moved", "_law_row", "_law_hand", "_law_deed_here", "_law_some", "_law_thing", "_law_place"] ["_law_moved", "_law_row", "_law_hand", "_law_deed_here"] (zi kF) := ⟨rfl, rfl, rfl, by decide +kernel, rfl, by decide +kernel, by decide +kernel⟩
theorem wX (a : At K mg "_law_counted" kF) (B : Blt mg) : Df P w K mg base "_law_counted" ["_law_moved", "_law_row", "_law_hand", "_law_deed_here"] 1 (cSp Zk) := by
  refine dfA (k := 0) a xE (fun _ _ _ _ _ _ us hl => match us, hl with | [_, _, _, _], _ => rfl) (fun xs M Q h => ?_) (fun f cdv A outer s H E hr => ?_)
  · obtain ⟨_, _, _, _, _, rfl, _⟩ := h; rfl
  have sc := xE
  have hsl := hsl
  refine ⟨_, (zc (xR (j := 4) rfl sc.nd rfl (by first | exact Or.inl rfl | exact Or.inr rfl) (ts := [6]) rfl (vj (qZ yC (pv 3) (qV zd) kZ)) (fun _ _ _ _ => (zQ (i := 6) sc.nd rfl (by first | exact Or.inl rfl | exact Or.inr rfl))) (fun _ _ _ _ => kW) (fun _ _ _ _ => (zw (Xz (K := K) rfl) (pv 1) (pv 6) (fun _ _ => rfl))))
    (zc (zI (zo (qc hr.units) (zw z0 (pv 3) zd (fun _ _ => rfl)) zn (zu _)) (zh (zL (i := 4) sc.nd rfl (by first | exact Or.inl rfl | exact Or.inr rfl) (zM (za (pv 2) zb)))) zx)
    (zh (xj PassesOwn.never rfl (vj (pv 4)) (zQ (i := 5) sc.nd rfl (by first | exact Or.inl rfl | exact Or.inr rfl)) (zh (zI (zo qY (pv 5) zJ (zu _)) (zh (qA (zz qv (zw z0 (pv 0) (pv 5) (fun _ _ => rfl)) zd) (qx (pv 0) (pv 5) zE))) zx)))))), ?_⟩
  refine ex2 (by walk_at "sim") ?_
  rintro xs M Q ⟨m, d, ⟨row, hd⟩, t, ms, rfl, hm, hd', ok, hl, q⟩
  rw [show zU ["_law_moved", "_law_row", "_law_hand", "_law_deed_here", "_law_some", "_law_thing", "_law_place"] [.ref m, .d (.lst (row.map oD)), .d (oD hd), .d (dD d)] = [some (.ref m), some (.d (.lst (row.map oD))), some (.d (oD hd)), some (.d (dD d)), none, none, none] from rfl]
  refine zj fun r1 hr1 => ?_
  walk_at "ra"
  rw [FG]
  refine ⟨_, rfl, FN _ _, ?_⟩
  rw [W0]
  have hk := EX hd'
  refine vG (fun (o : Option AV) => [some (.ref m), some (.d (.lst (row.map oD))), some (.d (oD hd)), some (.d (.tup (.str (dW d) :: (dPs d).map fun k : Nat => Dat.int k))), none, none, o]) (fun y => match y with | .d (.int k) => .d (oD (row.getD k.toNat none)) | y => y) ⟨_, rfl⟩ trivial (by rw [List.length_map, List.length_map]; have := VQ d; omega) (fun o y Q hy q => ?_) fun o => ?_
  · obtain ⟨x, hx, rfl⟩ := List.mem_map.mp hy
    obtain ⟨k, hk', rfl⟩ := List.mem_map.mp hx
    walk_at "ra"
    exact ⟨_, kR (hk k hk'), q (some (.d (.int k)))⟩
  · have e : (((dPs d).map fun k : Nat => Dat.int k).map AV.d).map (fun y => match y with | .d (.int k) => AV.d (oD (row.getD k.toNat none)) | y => y) = (((dPs d).map fun k => row.getD k none).map oD).map AV.d := by
      simp only [List.map_map]; exact List.map_congr_left fun _ _ => rfl
    rw [e]
    refine ⟨_, qk _, ?_⟩
    subst hr1
    refine zj fun r1 hr1 => ?_
    walk_at "ra"
    have tail : ∀ (cs : List (Option Int)), cs = j7 (row, hd) d -> r1 M { nx := fun x M' => rtA M Q (.d .non) M', rt := rtA M Q } [some (.ref m), some (.d (.lst (row.map oD))), some (.d (oD hd)), some (.d (.tup (.str (dW d) :: (dPs d).map fun k : Nat => Dat.int k))), some (.d (.lst (cs.map oD))), none, none] M := fun cs hcs => by
      subst hr1
      walk_at "ra"
      have okc := Vn hd' ok
      rw [<- hcs] at okc q
      refine ⟨fun i ρ M' => M' = mup M m (msA ((cs.take i).foldl jv ms)) /\ ∃ u, ρ = [some (.ref m), some (.d (.lst (row.map oD))), some (.d (oD hd)), some (.d (.tup (.str (dW d) :: (dPs d).map fun k : Nat => Dat.int k))), some (.d (.lst (cs.map oD))), u, none], ⟨by rw [List.take_zero]; exact (BL hm).symm, _, rfl⟩, ?_, ?_⟩
      · rintro i y ρ M' hy ⟨rfl, u, rfl⟩
        refine ⟨trivial, ?_⟩
        rw [List.getElem?_map, List.getElem?_map] at hy
        cases e : cs[i]? with
        | none => rw [e] at hy; cases hy
        | some c =>
          rw [e] at hy
          cases hy
          have ts : (cs.take (i + 1)).foldl jv ms = jv ((cs.take i).foldl jv ms) c := by rw [Kt e, List.foldl_append]; rfl
          cases c with
          | none =>
            rw [show oD none = .non from rfl]
            walk_at "ra"; exact ⟨by rw [ts]; rfl, _, rfl⟩
          | some x =>
            obtain ⟨x0, x1⟩ := okc x (List.mem_of_getElem? e)
            rw [<- vv (cs.take i)] at x1
            obtain ⟨m1, m2⟩ := Zd x0 x1
            rw [show oD (some x) = .int x from rfl]
            walk_at "ra"
            exact ⟨_, ql zp, _, m1, _, rfl, _, zp, _, m2, by rw [Ym, ts]; rfl, _, rfl⟩
      · rintro ρ M' ⟨rfl, u, rfl⟩
        refine ⟨trivial, ?_⟩
        walk_at "ra"
        rw [List.take_length]
        exact ⟨_, _, Ef _ _ _, q⟩
    refine ⟨_, at0 _ _, _, rfl, by rw [qD]; omega, ?_⟩
    rw [qB]
    cases d with
    | lay g => rw [if_pos (show decide (dW (.lay g) = Str.ofString "lay") = true from decide_eq_true rfl)]; exact ⟨by omega, tail [hd] rfl⟩
    | swap a b => rw [if_neg (show ¬ decide (dW (.swap a b) = Str.ofString "lay") = true from (by decide +kernel : ¬ decide (Str.ofString "swap" = Str.ofString "lay") = true))]; exact tail _ rfl
    | take a => rw [if_neg (show ¬ decide (dW (.take a) = Str.ofString "lay") = true from (by decide +kernel : ¬ decide (Str.ofString "take" = Str.ofString "lay") = true))]; exact tail _ rfl
    | move a b => rw [if_neg (show ¬ decide (dW (.move a b) = Str.ofString "lay") = true from (by decide +kernel : ¬ decide (Str.ofString "move" = Str.ofString "lay") = true))]; exact tail _ rfl
noncomputable abbrev Vv : Stmt := top 28
theorem Y8 : zy ["_law_script", "_law_k", "_law_box_here", "_law_n", "_law_room", "_law_turn", "_law_row", "_law_hand", "_law_moved", "_law_deed_here", "_law_some", "_law_thing", "_law_word", "_law_one"] ["_law_script"] (zi Vv) := ⟨rfl, rfl, rfl, by decide +kernel, rfl, by decide +kernel, by decide +kernel⟩
noncomputable def Jd (K : PySem.W.Frag) : Sp := fun vs H Q _ => ∃ (a : Addr) (ns : List Int), vs = [.ref a] /\ SqL K H a (ns.map V.int) /\ ns.length <= 63 /\ ∀ H', Q (.bl true) H'
noncomputable def Fu (K : PySem.W.Frag) : ASp := fun xs M Q => ∃ ns : List Int, xs = [.d (.scr K ns)] /\ ns.length <= 63 /\ Q (.d (.bl true)) M
theorem sp_law (vs : List V) (H : Hp) (Q : VK) (E : XK) (h : Jd K vs H Q E) : cSp (Fu K) vs H Q E := by
 obtain ⟨a, ns, rfl, ha, hn, q⟩ := h
 refine ⟨[.d (.scr K ns)], fun _ => none, fun _ => False, fun x _ => x = .d (.bl true), ⟨(fun a o e => nomatch e), (fun a h => h rfl), fun a h => h.elim⟩, .cons (V8 (fun _ z => z) ha) .nil, ⟨ns, rfl, hn, rfl⟩, fun x M' v H' O' hx _ _ r => ?_⟩
 subst hx
 rw [jO r]
 exact q H'
theorem DoE.okM {d : De} {s t : ES} {n : Nat} (h : DoE d s t) (o : OkM s n) : OkM t n := by
 have g : ∀ {row : List (Option Int)} {a : Nat} {c : Option Int}, row[a]? = some c -> c ∈ row := fun h => List.mem_of_getElem? h
 cases h with
 | swap ne h1 h2 =>
  refine ⟨fun x hx => ?_, o.2⟩
  rcases List.mem_or_eq_of_mem_set hx with hx | hx
  ·rcases List.mem_or_eq_of_mem_set hx with hx | hx
   ·exact o.1 x hx
   ·exact o.1 x (hx ▸ g h2)
  ·exact o.1 x (hx ▸ g h1)
 | take h1 =>
  refine ⟨fun x hx => ?_, fun x hx => ?_⟩
  ·rcases List.mem_or_eq_of_mem_set hx with hx | hx
   ·exact o.1 x hx
   ·cases hx
  ·cases hx; exact o.1 _ (g h1)
 | move h1 h2 =>
  refine ⟨fun x hx => ?_, o.2⟩
  rcases List.mem_or_eq_of_mem_set hx with hx | hx
  ·rcases List.mem_or_eq_of_mem_set hx with hx | hx
   ·exact o.1 x hx
   ·cases hx
  ·exact o.1 x (hx ▸ g h1)
 | lay h1 =>
  refine ⟨fun x hx => ?_, fun x hx => nomatch hx⟩
  rcases List.mem_or_eq_of_mem_set hx with hx | hx
  ·exact o.1 x hx
  ·exact o.2 x hx.symm
theorem YE {s : ES} {ms : List Int} {x : Dat} {w : String} (h : doR s ms x = .error w) : w = "form" \/ w = "same" \/ w = "full" \/ w = "empty" := by
 have g1 : ∀ a b, qH s ms a b = .error w -> w = "form" \/ w = "same" \/ w = "full" \/ w = "empty" := fun a b h => by
  unfold qH at h
  split at h
  ·cases h; simp
  ·cases hb : s.1.getD a none <;> cases ha : s.1.getD b none <;> rw [hb] at h <;> (try rw [ha] at h) <;> cases h <;> simp
 have g2 : ∀ a b, qz s ms a b = .error w -> w = "form" \/ w = "same" \/ w = "full" \/ w = "empty" := fun a b h => by
  unfold qz at h
  split at h
  ·cases h; simp
  ·cases hb : s.1.getD b none <;> cases ha : s.1.getD a none <;> rw [hb] at h <;> (try rw [ha] at h) <;> cases h <;> simp
 have g3 : ∀ a, qN s ms a = .error w -> w = "form" \/ w = "same" \/ w = "full" \/ w = "empty" := fun a h => by
  unfold qN at h
  cases hb : s.2 <;> cases ha : s.1.getD a none <;> rw [hb] at h <;> (try rw [ha] at h) <;> cases h <;> simp
 have g4 : ∀ a, jE s ms a = .error w -> w = "form" \/ w = "same" \/ w = "full" \/ w = "empty" := fun a h => by
  unfold jE at h
  cases ha : s.1.getD a none <;> cases hb : s.2 <;> rw [ha] at h <;> (try rw [hb] at h) <;> cases h <;> simp
 unfold doR at h
 split at h
 ·split at h
  ·split at h
   ·exact g1 _ _ h
   ·split at h
    ·exact g3 _ h
    ·split at h
     ·exact g2 _ _ h
     ·exact g4 _ h
  ·cases h; simp
 ·cases h; simp
theorem Aa {s : ES} {ms : List Int} {x : Dat} {w : String} (h : doR s ms x = .error w) : ¬ decide (Str.ofString w = Str.ofString "") = true := by
 rcases YE h with rfl | rfl | rfl | rfl <;> decide +kernel
theorem Ab (n : Nat) : OkM ((qM 0 1 n).map some, none) n := by
 refine ⟨fun x hx => ?_, fun x hx => nomatch hx⟩
 obtain ⟨y, hy, e⟩ := List.mem_map.mp hx
 injection e with e
 subst e
 unfold qM at hy
 obtain ⟨k, hk, e⟩ := List.mem_map.mp hy
 rw [List.mem_range] at hk
 omega
structure R09 (C : Addr) (M0 M : MH) (b p rw_ mv m : Addr) (N n : Nat) (s : ES) (ms : List Int) : Prop where
 sb : SB M0 M b N
 r : zW C M p rw_ mv s ms
 mm : M m = some (msA ms)
 ok : OkM s ms.length
 l1 : s.1.length = n
 l2 : ms.length = n
 np : M0 p = none /\ p ≠ b /\ p ≠ m
 nr : M0 rw_ = none /\ rw_ ≠ b /\ rw_ ≠ m
 nv : M0 mv = none /\ mv ≠ b /\ mv ≠ m
 nm : M0 m = none /\ m ≠ b
theorem R09.go {C : Addr} {M0 M M' : MH} {b p rw_ mv m : Addr} {N N' n : Nat} {s : ES} {ms : List Int} (h : R09 C M0 M b p rw_ mv m N n s ms) (t : BxS M M' b N') : R09 C M0 M' b p rw_ mv m N' n s ms :=
 ⟨h.sb.go t, ⟨by rw [t.at h.np.2.1]; exact h.r.ins, by rw [t.at h.nr.2.1]; exact h.r.row, by rw [t.at h.nv.2.1]; exact h.r.mvd, h.r.ne⟩, by rw [t.at h.nm.2]; exact h.mm, h.ok, h.l1, h.l2, h.np, h.nr, h.nv, h.nm⟩
theorem R09.mono {C : Addr} {M0 M : MH} {b p rw_ mv m : Addr} {N N' n : Nat} {s : ES} {ms : List Int} (h : R09 C M0 M b p rw_ mv m N n s ms) (l : N <= N') : R09 C M0 M b p rw_ mv m N' n s ms :=
 ⟨h.sb.mono l, h.r, h.mm, h.ok, h.l1, h.l2, h.np, h.nr, h.nv, h.nm⟩
theorem R09.done {C : Addr} {M0 M : MH} {b p rw_ mv m : Addr} {N n : Nat} {s t : ES} {ms ms' : List Int} (h : R09 C M0 M b p rw_ mv m N n s ms) (ok : OkM t ms'.length) (l1 : t.1.length = n) (l2 : ms'.length = n) : R09 C M0 (mup (rmP C M p rw_ mv t ms') m (msA ms')) b p rw_ mv m N n t ms' := by
 have r := h.r.to t ms'
 refine ⟨?_, ⟨by rw [zr h.np.2.2]; exact r.ins, by rw [zr h.nr.2.2]; exact r.row, by rw [zr h.nv.2.2]; exact r.mvd, r.ne⟩, zp, ok, l1, l2, h.np, h.nr, h.nv, h.nm⟩
 unfold rmP
 exact (((h.sb.put h.np.1 h.np.2.1 _).put h.nr.1 h.nr.2.1 _).put h.nv.1 h.nv.2.1 _).put h.nm.1 h.nm.2 _
noncomputable def I09 (C : Addr) (M2 : MH) (cs : List Int) (i : Nat) (b p rw_ mv m : Addr) (n j : Nat) (ρ : ASt) (M' : MH) : Prop := ∃ (s : ES) (ms : List Int), (∃ x5 x9 x10 x11 x12, ρ = [some (.d (ilD cs)), some (.d (.int i)), some (.ref b), some (.d (.int n)), some (.ref p), x5, some (.d (.lst (s.1.map oD))), some (.d (oD s.2)), some (.ref m), x9, x10, x11, x12, none]) /\ R09 C M2 M' b p rw_ mv m (10 + 100 * j) n s ms
theorem DO {C cBadDeed : Addr} (CL : Cls K C) (a : At K mg "law" Vv) (B : Blt mg) (D_law_box : Df P w K mg base "_law_box" ["_law_script", "_law_k"] 19 (cSp Fc)) (D_law_folded : Df P w K mg base "_law_folded" ["_law_script", "_law_many"] 19 (cSp (Jl K))) (D_law_length : Df P w K mg base "_law_length" ["_law_box_here", "_law_most"] 19 (cSp Qx))
  (M_Room : Mkr P w K mg base "Room" C ["self", "n"] 18 (cSp (KO C))) (D_law_deed : Df P w K mg base "_law_deed" ["_law_box_here", "_law_row", "_law_hand"] 19 (cSp Ao)) (D_law_odd : Df P w K mg base "_law_odd" ["_law_box_here", "_law_n"] 19 (cSp FC)) (D_law_why : Df P w K mg base "_law_why" ["_law_row", "_law_hand", "_law_thing"] 19 (cSp E5)) (D_law_refused : Df P w K mg base "_law_refused" ["_law_room", "_law_thing"] 19 (cSp (vb C)))
  (D_law_counted : Df P w K mg base "_law_counted" ["_law_moved", "_law_row", "_law_hand", "_law_deed_here"] 19 (cSp Zk)) (D_law_done : Df P w K mg base "_law_done" ["_law_row", "_law_hand", "_law_deed_here"] 19 (cSp Ba)) (D_law_stands : Df P w K mg base "_law_stands" ["_law_room", "_law_row", "_law_hand", "_law_moved"] 19 (cSp (QV C))) :
  Df P w K mg base "law" ["_law_script"] 20 (cSp (Fu K)) := by
 refine dfA (k := 19) a Y8 (fun _ _ _ _ _ _ us hl => match us, hl with | [_], _ => rfl) (fun xs M Q h => ?_) (fun f cdv A outer s H E hr => ?_)
 ·obtain ⟨_, rfl, _⟩ := h; rfl
 have sc := Y8
 have hsl := hsl
 refine ⟨_, (zc (zL (i := 0) sc.nd rfl (by first | exact Or.inl rfl | exact Or.inr rfl) (zX D_law_folded hr rfl (za (pv 0) (za zd zb))))
  (zc (xj PassesOwn.never rfl (jw rfl B.range (za (zm (vt rfl) rfl B.max K2 (za zd (za (zm zv rfl B.len qb (za (pv 0) zb)) zb))) zb)) (zQ (i := 1) sc.nd rfl (by first | exact Or.inl rfl | exact Or.inr rfl)) (zc (zL (i := 2) sc.nd rfl (by first | exact Or.inl rfl | exact Or.inr rfl) (zX D_law_box hr rfl (za (pv 0) (za (pv 1) zb))))
  (zc (zL (i := 3) sc.nd rfl (by first | exact Or.inl rfl | exact Or.inr rfl) (zX D_law_length hr rfl (za (pv 2) (za zd zb))))
  (zc (zL (i := 4) sc.nd rfl (by first | exact Or.inl rfl | exact Or.inr rfl) (Fv M_Room hr rfl (za (pv 3) zb)))
  (zc (W5 (i := 6) (j := 7) (k := 8) rfl sc.nd rfl rfl rfl (by decide) (by decide) (by decide) rfl rfl rfl (za (zR (kf rfl) rfl B.list jH (za (zR xI rfl B.range wV (za (pv 3) zb)) zb)) (za zJ (za (Qm (zz yI (zM (za zd zb)) (pv 3))) zb))) rfl)
  (zh (xj PassesOwn.never rfl (jw rfl B.range (za zd zb)) (zQ (i := 5) sc.nd rfl (by first | exact Or.inl rfl | exact Or.inr rfl)) (zc (zL (i := 9) sc.nd rfl (by first | exact Or.inl rfl | exact Or.inr rfl) (zX D_law_deed hr rfl (za (pv 2) (za (pv 6) (za (pv 7) zb)))))
  (zc (xR (j := 10) rfl sc.nd rfl (by first | exact Or.inl rfl | exact Or.inr rfl) (ts := [13]) rfl (jw rfl B.range (za zd zb)) (fun _ _ _ _ => (zQ (i := 13) sc.nd rfl (by first | exact Or.inl rfl | exact Or.inr rfl))) (fun _ _ _ _ => kW) (fun _ _ _ _ => (zX D_law_odd hr rfl (za (pv 2) (za (pv 3) zb)))))
  (zh (xj PassesOwn.never rfl (vj (zz ku (pv 10) (zz yI (zM (za (pv 9) zb)) (zR jZ rfl B.int kz (za (qU qY (pv 9) zJ (zu _)) zb))))) (zQ (i := 11) sc.nd rfl (by first | exact Or.inl rfl | exact Or.inr rfl)) (zc (zL (i := 12) sc.nd rfl (by first | exact Or.inl rfl | exact Or.inr rfl) (zX D_law_why hr rfl (za (pv 6) (za (pv 7) (za (pv 11) zb)))))
  (zc (zI (zo (yu hr.units) (zX D_law_refused hr rfl (za (pv 4) (za (pv 11) zb))) (pv 12) (zu _)) (zh (zD kh)) zx)
  (zc (zI (zo (qc hr.units) (pv 12) zn (zu _)) (zc (qW (zX D_law_counted hr rfl (za (pv 8) (za (pv 6) (za (pv 7) (za (pv 11) zb))))))
  (zh (qA (zX D_law_done hr rfl (za (pv 6) (za (pv 7) (za (pv 11) zb)))) (jk (K := K) 2 rfl rfl (zT (zQ (i := 6) sc.nd rfl (by first | exact Or.inl rfl | exact Or.inr rfl)) (zT (zQ (i := 7) sc.nd rfl (by first | exact Or.inl rfl | exact Or.inr rfl)) jn)))))) zx)
  (zh (zI (ji (qC (zX D_law_stands hr rfl (za (pv 4) (za (pv 6) (za (pv 7) (za (pv 8) zb))))) (fun _ => rfl))) (zh (zD kh)) zx))))))))))))))))
  (zh (zD kh)))), ?_⟩
 refine ex2 (by walk_at "sim") ?_
 rintro xs M Q ⟨ns, rfl, hn, q⟩
 rw [show zU ["_law_script", "_law_k", "_law_box_here", "_law_n", "_law_room", "_law_turn", "_law_row", "_law_hand", "_law_moved", "_law_deed_here", "_law_some", "_law_thing", "_law_word", "_law_one"] [.d (.scr K ns)] = [some (.d (.scr K ns)), none, none, none, none, none, none, none, none, none, none, none, none, none] from rfl]
 refine zj fun r hr0 => ?_
 walk_at "ra"
 refine ⟨5, ns, rfl, by omega, by omega, hn, fun cs lc => ?_⟩
 subst hr0
 refine zj fun r hr0 => ?_
 walk_at "ra"
 refine ⟨by split <;> omega, by split <;> omega, ?_⟩
 refine ⟨fun i ρ M' => (∃ x1 x2 x3 x4 x5 x6 x7 x8 x9 x10 x11 x12, ρ = [some (.d (ilD cs)), x1, x2, x3, x4, x5, x6, x7, x8, x9, x10, x11, x12, none]) /\ Fr M M', ⟨⟨_, _, _, _, _, _, _, _, _, _, _, _, rfl⟩, Fr.refl⟩, ?_, ?_⟩
 ·rintro i y ρ M1 hy ⟨⟨x1, x2, x3, x4, x5, x6, x7, x8, x9, x10, x11, x12, rfl⟩, f1⟩
  obtain ⟨hi, rfl⟩ := kM hy
  have hi' : (i : Int) <= 1000 := by
   have : (i : Int) < (if (cs.length : Int) > 2 then (cs.length : Int) else 2) := by omega
   split at this <;> omega
  refine ⟨trivial, ?_⟩
  rw [Int.zero_add, Int.mul_one]
  show v0 _ _ _ _ _ _
  refine zj fun r2 hr2 => ?_
  walk_at "ra"
  refine ⟨_, i, cs, rfl, Wt _ _, by omega, by omega, by omega, fun b o hb bx => ?_⟩
  have b0 := f1.non hb
  have f2 := f1.mup b0 o
  have sb := SB.refl bx
  generalize mup M1 b o = M2 at *
  subst hr2
  refine zj fun r2 hr2 => ?_
  walk_at "ra"
  refine ⟨b, 40, 0, rfl, sb.bx, by omega, by omega, by omega, fun n M3 s3 n0 n1 => ?_⟩
  have sb := sb.go s3
  obtain ⟨n, rfl⟩ : ∃ k : Nat, n = k := ⟨n.toNat, by omega⟩
  subst hr2
  refine zj fun r2 hr2 => ?_
  walk_at "ra"
  intro p hp
  refine ⟨p, n, rfl, zp, by omega, fun rw_ mv hrw hmv n1 n2 n3 => ⟨rfl, ?_⟩⟩
  have np := sb.new hp
  rw [zr n2] at hrw
  rw [zr n3] at hmv
  have nr := sb.new hrw
  have nv := sb.new hmv
  have t0 : zW C (rmP C (mup M3 p (.ins C [])) p rw_ mv ((qM 0 1 n).map some, none) (List.replicate n 0)) p rw_ mv ((qM 0 1 n).map some, none) (List.replicate n 0) := by
   unfold rmP
   exact ⟨by rw [zr (Ne.symm n3), zr (Ne.symm n2), zp], by rw [zr n1, zp], zp, n1⟩
  have sb : SB M2 (rmP C (mup M3 p (.ins C [])) p rw_ mv ((qM 0 1 n).map some, none) (List.replicate n 0)) b 10 := by
   unfold rmP
   exact (((sb.put np.1 np.2 _).put np.1 np.2 _).put nr.1 nr.2 _).put nv.1 nv.2 _
  generalize rmP C (mup M3 p (.ins C [])) p rw_ mv ((qM 0 1 n).map some, none) (List.replicate n 0) = M4 at *
  subst hr2
  refine zj fun r2 hr2 => ?_
  walk_at "ra"
  refine ⟨_, _, _, rfl, small_one (by omega) (by omega) (by omega) (by omega), n, by rw [rangeSize_one]; split <;> omega, by omega, by omega, by omega, by omega, by omega, fun m hm _ => ?_⟩
  obtain ⟨hm0, hmb⟩ := sb.new hm
  have hmp : p ≠ m := fun z => by rw [<- z, t0.ins] at hm; cases hm
  have hmr : rw_ ≠ m := fun z => by rw [<- z, t0.row] at hm; cases hm
  have hmv : mv ≠ m := fun z => by rw [<- z, t0.mvd] at hm; cases hm
  rw [V1, Int.toNat_natCast]
  have e2 : MO.lst (List.replicate n (AV.d (.int 0))) = msA (List.replicate n 0) := by show MO.lst _ = MO.lst _; rw [List.map_replicate]
  rw [e2]
  have R0 : R09 C M2 (mup M4 m (msA (List.replicate n 0))) b p rw_ mv m 10 n ((qM 0 1 n).map some, none) (List.replicate n 0) :=
   ⟨sb.put hm0 hmb _, ⟨by rw [zr hmp]; exact t0.ins, by rw [zr hmr]; exact t0.row, by rw [zr hmv]; exact t0.mvd, t0.ne⟩, zp, by rw [List.length_replicate]; exact Ab n, by rw [List.length_map, jP], List.length_replicate, ⟨np.1, np.2, hmp⟩, ⟨nr.1, nr.2, hmr⟩, ⟨nv.1, nv.2, hmv⟩, hm0, hmb⟩
  generalize mup M4 m (msA (List.replicate n 0)) = M5 at *
  rw [show (qM 0 1 n).map Dat.int = ((qM 0 1 n).map some).map oD by rw [List.map_map]; rfl, show Dat.non = oD none from rfl]
  clear t0 sb hm
  subst hr2
  walk_at "ra"
  refine ⟨by omega, by omega, I09 C M2 cs i b p rw_ mv m n, ⟨_, _, ⟨_, _, _, _, _, rfl⟩, R0⟩, ?_, ?_⟩
  ·rintro j y ρ M' hy ⟨s, ms, ⟨y5, y9, y10, y11, y12, rfl⟩, R⟩
   obtain ⟨hj, rfl⟩ := kM hy
   refine ⟨trivial, ?_⟩
   show v0 _ _ _ _ _ _
   refine zj fun r3 hr3 => ?_
   walk_at "ra"
   have l1 := R.l1
   refine ⟨b, s.1, s.2, 10 + 100 * j, rfl, R.sb.bx, by omega, by omega, fun M6 s6 => ?_⟩
   have R := R.go s6
   have key : ∀ x : Dat, (x = .non \/ OkX x) -> ∀ bk, r3 M5 { nx := I09 C M2 cs i b p rw_ mv m n (j + 1), rt := rtA M Q, bk := bk, ct := I09 C M2 cs i b p rw_ mv m n (j + 1) }
     [some (.d (ilD cs)), some (.d (.int i)), some (.ref b), some (.d (.int n)), some (.ref p), some (.d (.int (0 + j * 1))), some (.d (.lst (s.1.map oD))), some (.d (oD s.2)), some (.ref m), some (.d x), y10, y11, y12, none] M6 := fun x hx bk => by
    subst hr3
    refine zj fun r3 hr3 => ?_
    walk_at "ra"
    refine ⟨by omega, by omega, ?_⟩
    refine ⟨fun k acc ρ M' => ∃ ds : List Dat, acc = ds.map AV.d /\ ds.length = k /\ (∀ d ∈ ds, OkX d) /\ (∃ o, ρ = [some (.d (ilD cs)), some (.d (.int i)), some (.ref b), some (.d (.int n)), some (.ref p), some (.d (.int (0 + j * 1))), some (.d (.lst (s.1.map oD))), some (.d (oD s.2)), some (.ref m), some (.d x), y10, y11, y12, o]) /\ R09 C M2 M' b p rw_ mv m (10 + 100 * j + 10 + 5 * k) n s ms, ⟨[], rfl, rfl, by simp, ⟨_, rfl⟩, R⟩, ?_, ?_⟩
    ·rintro k y acc ρ M' hy ⟨ds, rfl, ld, hds, ⟨o, rfl⟩, R⟩
     obtain ⟨hk, rfl⟩ := kM hy
     refine ⟨trivial, ?_⟩
     walk_at "ra"
     refine ⟨b, _, n, rfl, R.sb.bx, by omega, by omega, fun x' M' s' hx' => ?_⟩
     refine ⟨by omega, ds ++ [x'], by rw [List.map_append]; rfl, by rw [List.length_append, ld]; rfl, fun d hd => ?_, ⟨_, rfl⟩, (R.go s').mono (by omega)⟩
     rcases List.mem_append.mp hd with hd | hd
     ·exact hds d hd
     ·rw [List.mem_singleton.mp hd]; exact hx'
    ·rintro acc ρ M' ⟨ds, rfl, ld, hds, ⟨o, rfl⟩, R⟩
     refine ⟨trivial, ds, qk _, ?_⟩
     have ld : ds.length = 3 := ld
     have R := R.mono (show _ <= 10 + 100 * (j + 1) by show 10 + 100 * j + 10 + 5 * 3 <= _; omega)
     subst hr3
     walk_at "ra"
     obtain ⟨k, hk, hk'⟩ : ∃ k : Int, (if qy (AV.d x) = false then (1 : Int) else 0) = k /\ (k = 0 \/ (k = 1 /\ OkX x)) := by
      rcases hx with rfl | hx
      ·exact ⟨0, rfl, .inl rfl⟩
      ·by_cases c : qy (AV.d x) = false
       ·exact ⟨1, if_pos c, .inr ⟨rfl, hx⟩⟩
       ·exact ⟨0, if_neg c, .inl rfl⟩
     rw [hk]
     obtain ⟨xs, e1, e2, e3⟩ : ∃ xs : List Dat, (List.replicate k.toNat [AV.d x]).flatten = xs.map AV.d /\ xs.length <= 1 /\ ∀ d ∈ xs, OkX d := by
      rcases hk' with rfl | ⟨rfl, hx⟩
      ·exact ⟨[], rfl, by simp, by simp⟩
      ·exact ⟨[x], rfl, by simp, by simpa using hx⟩
     have k1 : k = 0 \/ k = 1 := hk'.imp id (·.1)
     refine ⟨by omega, by omega, by omega, by rcases k1 with rfl | rfl <;> simp <;> omega, xs, by rw [e1]; exact qk _, by omega, ds ++ xs, by rw [<- List.map_append]; exact qk _, ?_⟩
     have okl : ∀ d ∈ ds ++ xs, OkX d := fun d hd => (List.mem_append.mp hd).elim (hds d) (e3 d)
     generalize ds ++ xs = ls at okl
     refine ⟨fun _ ρ M' => ∃ (s : ES) (ms : List Int), (∃ x11 x12, ρ = [some (.d (ilD cs)), some (.d (.int i)), some (.ref b), some (.d (.int n)), some (.ref p), some (.d (.int (0 + j * 1))), some (.d (.lst (s.1.map oD))), some (.d (oD s.2)), some (.ref m), some (.d x), some (.d (.lst ds)), x11, x12, none]) /\ R09 C M2 M' b p rw_ mv m (10 + 100 * (j + 1)) n s ms, ⟨_, _, ⟨_, _, rfl⟩, R⟩, ?_, ?_⟩
     ·clear R s6 l1
      rintro k' y ρ M' hy ⟨s, ms, ⟨z11, z12, rfl⟩, R⟩
      obtain ⟨th, hth, rfl⟩ := List.mem_map.mp (List.mem_of_getElem? hy)
      have okt := okl th hth
      have l1 := R.l1
      have l2 := R.l2
      refine ⟨trivial, ?_⟩
      show v0 _ _ _ _ _ _
      refine zj fun r4 hr4 => ?_
      walk_at "ra"
      refine ⟨s, th, rfl, okt.1, okt.2, by omega, ?_⟩
      subst hr4
      refine zj fun r4 hr4 => ?_
      walk_at "ra"
      refine ⟨p, rw_, mv, s, ms, th, rfl, R.r, R.ok, okt.1, okt.2, fun w hw => ?_, fun t ht => ?_⟩
      ·rw [Vb hw]
       refine ⟨_, rfl, by rw [qD]; omega, ?_⟩
       rw [qB, if_neg (by simp)]
       subst hr4
       refine zj fun r4 hr4 => ?_
       walk_at "ra"
       rw [if_neg (fun z => Aa hw (decide_eq_true z))]
       subst hr4
       walk_at "ra"
       refine ⟨p, rw_, mv, m, s, ms, rfl, R.r, R.mm, by omega, by omega, _, rfl, ?_⟩
       rw [if_neg (fun z => nomatch z)]
       exact ⟨s, rfl, rfl, ⟨_, rfl⟩, _, R⟩
      ·rw [Ae ht]
       refine ⟨_, rfl, by rw [qD]; omega, ?_⟩
       rw [qB, if_neg (by simp)]
       obtain ⟨d, rfl, hd⟩ := VN ht
       have e2 := Eg hd ms
       rw [ht] at e2
       have e2 : t.2 = (j7 s d).foldl jv ms := by injection e2 with e2; rw [e2]
       have rm : rmP C M' p rw_ mv t.1 t.2 m = some (msA ms) := by
        unfold rmP
        rw [zr (Ne.symm R.nv.2.2), zr (Ne.symm R.nr.2.2), zr (Ne.symm R.np.2.2), R.mm]
       have lm : t.2.length = ms.length := by rw [e2, vv]
       have R' := R.done (t := t.1) (ms' := t.2) (by rw [lm]; exact hd.okM R.ok) (by rw [hd.len, l1]) (by rw [lm, l2])
       subst hr4
       refine zj fun r4 hr4 => ?_
       walk_at "ra"
       refine ⟨m, d, s, t.1, ms, rfl, rm, hd, R.ok, by omega, d, s, t.1, rfl, hd, by omega, ?_⟩
       rw [<- e2]
       generalize mup (rmP C M' p rw_ mv t.1 t.2) m (msA t.2) = M7 at R'
       subst hr4
       walk_at "ra"
       have l3 := R'.l1
       have l4 := R'.l2
       refine ⟨p, rw_, mv, m, t.1, t.2, rfl, R'.r, R'.mm, by omega, by omega, _, rfl, ?_⟩
       rw [if_neg (fun z => nomatch z)]
       exact ⟨t.1, rfl, rfl, ⟨_, rfl⟩, _, R'⟩
     ·rintro ρ M' ⟨s, ms, ⟨z11, z12, rfl⟩, R⟩
      exact ⟨trivial, _, _, ⟨_, _, _, _, _, rfl⟩, R⟩
   exact ⟨key .non (.inl rfl) _, fun d t hd => key (dD d) (.inr (by cases d <;> exact ⟨by simp [dD, dp, dps], fun l e => by cases e; exact Nat.le_of_ble_eq_true rfl⟩)) _⟩
  ·rintro ρ M' ⟨s, ms, ⟨y5, y9, y10, y11, y12, rfl⟩, R⟩
   refine ⟨trivial, ?_⟩
   exact ⟨⟨_, _, _, _, _, _, _, _, _, _, _, _, rfl⟩, SB.frm f2 b0 R.sb⟩
 ·rintro ρ M' ⟨⟨x1, x2, x3, x4, x5, x6, x7, x8, x9, x10, x11, x12, rfl⟩, f1⟩
  refine ⟨trivial, ?_⟩
  subst hr0
  walk_at "ra"
  exact EO f1 q
end
theorem all_mk {l : PySem.W.OpenLaw} {w : World} {K : PySem.W.Frag} {h : Heap} {mg : Str -> Option Value} {fa C pa cTurnError cBadDeed cBadPlan cBadRing cBadRow cNoMatch cNotDone fBadDeed : Addr} {cdN : ClassData} (X : K.In h) (G : h.Ns mainGlobals mg) (hfa : mg "law" = some (.ref fa)) (a : At K mg "law" Vv) (B : Blt mg) (Ball : mg "all" = none) (BValueError : mg "ValueError" = none)
  (a__law_take : At K mg "_law_take" Qt) (a__law_box : At K mg "_law_box" Vo) (a__law_folded : At K mg "_law_folded" yr) (a__law_length : At K mg "_law_length" yo) (a__law_deed : At K mg "_law_deed" ZQ) (a__law_done : At K mg "_law_done" ZS) (a__law_same : At K mg "_law_same" yx) (a__law_odd : At K mg "_law_odd" XD) (a__law_why : At K mg "_law_why" ZO) (a__law_refused : At K mg "_law_refused" yt) (a__law_stands : At K mg "_law_stands" xk) (a__law_counted : At K mg "_law_counted" kF) (a_is_place : At K mg "is_place" kj) (a_is_deed : At K mg "is_deed" yg)
  (ag_TurnError : PySem.W.nsIn K mainGlobals "TurnError" = some (some (.ref cTurnError)))
  (ag_BadDeed : PySem.W.nsIn K mainGlobals "BadDeed" = some (some (.ref cBadDeed)))
  (ag_BadPlan : PySem.W.nsIn K mainGlobals "BadPlan" = some (some (.ref cBadPlan)))
  (ag_BadRing : PySem.W.nsIn K mainGlobals "BadRing" = some (some (.ref cBadRing)))
  (ag_BadRow : PySem.W.nsIn K mainGlobals "BadRow" = some (some (.ref cBadRow)))
  (ag_NoMatch : PySem.W.nsIn K mainGlobals "NoMatch" = some (some (.ref cNoMatch)))
  (ag_NotDone : PySem.W.nsIn K mainGlobals "NotDone" = some (some (.ref cNotDone)))
  (xbx : PySem.W.subIn K (.ref cBadDeed) (.type "BaseException") = some true)
  (xga : PySem.W.findIn K (.ref cBadDeed) "__getattribute__" = some (some (.builtin "BaseException.__getattribute__")))
  (xgt : PySem.W.findIn K (.ref cBadDeed) "__getattr__" = some none)
  (xcl : PySem.W.findIn K (.ref cBadDeed) "__class__" = some (some (.builtin "object.__class__")))
  (xgs : PySem.W.specialIn K (.builtin "object.__class__") "__get__" = some (some (.builtin "getset_descriptor.__get__")))
  (xtk : PySem.W.takesIn K (.builtin "object.__class__") = some true)
  (xmo : PySem.W.mroIn K cBadDeed (.type "object") = some true)
  (xis : PySem.W.clsIn K cBadDeed = some cdN)
  (xt : PySem.W.exmOne K (.ref cBadDeed) (.ref cTurnError) = some true)
  (xi : PySem.W.kitAny K (.ref cBadDeed) [.ref cBadDeed] = some true)
  (xv : PySem.W.kitAny K (.ref cBadDeed) [.type "ValueError"] = some true)
  (xo : PySem.W.kitAny K (.ref cBadDeed) [.ref cBadPlan, .ref cBadRing, .ref cBadRow, .ref cNoMatch, .ref cNotDone] = some false)
  (xhd : PySem.W.hasDictIn K cBadDeed = true)
  (xfw : PySem.W.findIn K (.ref cBadDeed) "word" = some none)
  (xa_BadDeed : PySem.W.findIn K (.ref cBadDeed) "__init__" = some (some (.ref fBadDeed))) (xd_BadDeed : ∃ fd, Fun K "__init__" "BadDeed.__init__" yk fBadDeed fd) (xn_BadDeed : PySem.W.isFn K (.ref fBadDeed) = true) (xq_BadDeed : xq K cBadDeed Km "ValueError.__new__" fBadDeed = true) (xs_BadDeed_word : JP K cBadDeed "word")
  (aP : PySem.W.nsIn K mainGlobals "PLACES_OF" = some (some (.ref pa))) {t1 t2 t3 t4 u1 u2 u3 u4 : Tok} {ep : Nat}
  (lP : K.lookup pa = some ⟨.type "dict", none, .dict #[⟨hashStr w "swap", .str "swap" t1, .int 2 u1⟩, ⟨hashStr w "take", .str "take" t2, .int 1 u2⟩, ⟨hashStr w "move", .str "move" t3, .int 2 u3⟩, ⟨hashStr w "lay", .str "lay" t4, .int 1 u4⟩] ep, #[]⟩) (nP : (pa == sysModules) = false)
  (aC : PySem.W.nsIn K mainGlobals "Room" = some (some (.ref C))) (pg : PySem.W.plainGet K C Str.empty = true) (hd : PySem.W.hasDictIn K C = true) (po : PySem.W.plainOver K C = true) (sa : PySem.W.findIn K (.ref C) "__setattr__" = some (some (.builtin "object.__setattr__"))) (mk : PySem.W.makesIn K C = true) (kc : PySem.W.keepIn K (.ref C) = true)
  (nr : PySem.W.findIn K (.ref C) "row" = some none) (nh : PySem.W.findIn K (.ref C) "hand" = some none) (nm : PySem.W.findIn K (.ref C) "moved" = some none)
  (am___init__ : AtM K C "__init__" "Room.__init__" vK) (am_do : AtM K C "do" "Room.do" Dl) (am_swap : AtM K C "swap" "Room.swap" ZK) (am_take : AtM K C "take" "Room.take" vN) (am_move : AtM K C "move" "Room.move" Qs) (am_lay : AtM K C "lay" "Room.lay" X5) (am_lift : AtM K C "lift" "Room.lift" Qh) (am_row_now : AtM K C "row_now" "Room.row_now" Z1) (am_hand_now : AtM K C "hand_now" "Room.hand_now" Z5) (am_moved_now : AtM K C "moved_now" "Room.moved_now" Qj)
  : ∃ fd : FuncData, (∀ (s : Shared) (v : Value), BindsTo s fd ⟨[v], []⟩ [("_law_script", v)]) /\ ∀ base : Heap, K.In base -> base.Ns mainGlobals mg -> qT l.prog w K mg base CX0 20 fa fd ["_law_script"] (Jd K) := by
 obtain ⟨f, fd, F, m⟩ := id a
 obtain rfl : fa = f := by rw [hfa] at m; cases m; rfl
 obtain ⟨oc, od, kV, doc, pm, an, cdv, ct, osl, e, lk, hcd⟩ := F.ex
 refine ⟨fd, fun s v => ?_, fun base _ _ => ?_⟩
 ·subst e; exact .of_eq rfl
 ·have T := W7 (P := l.prog) (w := w) (base := base) a__law_take B
  have XG_TurnError := PySem.W.mg_of X G ag_TurnError
  have XG_BadDeed := PySem.W.mg_of X G ag_BadDeed
  have XG_BadPlan := PySem.W.mg_of X G ag_BadPlan
  have XG_BadRing := PySem.W.mg_of X G ag_BadRing
  have XG_BadRow := PySem.W.mg_of X G ag_BadRow
  have XG_NoMatch := PySem.W.mg_of X G ag_NoMatch
  have XG_NotDone := PySem.W.mg_of X G ag_NotDone
  have R : RTx K C := ⟨⟨pg, hd, po, sa⟩, nr, nh, nm⟩
  have KP : KD K w pa WY := Ks lP nP
  have MP := PySem.W.mg_of X G aP
  have MC := PySem.W.mg_of X G aC
  have X2 : EZ K cTurnError cBadDeed cBadPlan cBadRing cBadRow cNoMatch cNotDone := ⟨⟨xbx, xga, xgt, xcl, xgs, xtk, xmo, by rw [xis]; rfl⟩, xt, xi, xv, xo, xhd, xfw⟩
  obtain ⟨fdB, FB⟩ := xd_BadDeed
  have MX : MkX l.prog w K mg base cBadDeed 1 1 fnW := Dc FB xq_BadDeed xn_BadDeed xs_BadDeed_word
  have d1 := Kn (P := l.prog) (w := w) (base := base) a_is_deed B Ball (w8 a_is_place B) KP MP
  have ml := K5 am_lift R B MX XG_BadDeed
  have md := Ea am_do R B (MkX.mono MX (by decide)) XG_BadDeed (d1.mono (by decide)) ((KY am_swap R B MX XG_BadDeed).mono (by decide)) (JI am_take R B (MkX.mono MX (by decide)) XG_BadDeed ml) (K7 am_move R B (MkX.mono MX (by decide)) XG_BadDeed ml) ((WS am_lay R B MX XG_BadDeed).mono (by decide))
  obtain ⟨fi, fdi, Fi, bi, mi⟩ := (YG (P := l.prog) (w := w) (base := base) am___init__ R B).mono (show 1 <= 18 by decide)
  have MR : Mkr l.prog w K mg base "Room" C ["self", "n"] 18 (cSp (KO C)) := ⟨fi, fdi, Fi, bi, ⟨mk, mi.at_, mi.fn, kc⟩, MC⟩
  have rf := Kv (P := l.prog) (w := w) (base := base) a__law_refused B BValueError XG_TurnError XG_BadDeed XG_BadPlan XG_BadRing XG_BadRow XG_NoMatch XG_NotDone R.cl md X2
  have st := ZL (P := l.prog) (w := w) (base := base) a__law_stands B ((wR a__law_same B Ball 3).mono (by decide)) R.cl ((V0 am_row_now R B).mono (by decide)) ((VP am_hand_now R B).mono (by decide)) ((VZ am_moved_now R B).mono (by decide))
  have tk := T.imp' V2
  have L := DO (P := l.prog) (w := w) (base := base) (cBadDeed := cBadDeed) R.cl a B (((BP a__law_box B).imp' Bm).mono (by decide)) (((Jy a__law_folded B).imp' JA).mono (by decide)) (((KB a__law_length B T).imp' JZ).mono (by decide)) MR (((Ah a__law_deed B T).imp' Wj).mono (by decide)) ((BK a__law_odd B tk).mono (by decide)) ((VE a__law_why B).mono (by decide)) (rf.mono (by decide)) ((wX a__law_counted B).mono (by decide)) (((Ac a__law_done B).imp' WI).mono (by decide)) (st.mono (by decide))
  exact (L.imp' (sp_law (K := K))).fn m lk
theorem walk {l : PySem.W.OpenLaw} {q : Program} {loose : List Str} {XP : (Str -> Option Value) -> Heap -> Prop} {YP : World -> Heap -> Prop} {d : DefRec} {K : Params -> PySem.W.Frag} (hn : l.most = some 63) (hdf : d.params.defaults = [])
  (hY : ∀ (w : World) (h : Heap), YP w h -> (K w.params).In h)
  (F : ∀ (w : World) (mg : Str -> Option Value) (fa : Addr) (h : Heap), (K w.params).In h -> h.Ns mainGlobals mg -> mg d.name = some (.ref fa) ->
   ∃ fd : FuncData, (∀ (s : Shared) (u : Value), BindsTo s fd ⟨[u], []⟩ [("_law_script", u)]) /\ ∀ base : Heap, (K w.params).In base -> base.Ns mainGlobals mg -> qT l.prog w (K w.params) mg base CX0 20 fa fd ["_law_script"] (Jd (K w.params))) :
  PySem.W.WalkO q loose XP YP l.row.toRowW d [] (fun f vs => PySem.call f vs) :=
 L2.walk_of (n := 63) (k := 20) (x := "_law_script") (CX := fun _ => CX0) (sp := fun w => Jd (K w.params)) hn (by decide) hdf ⟨rfl, rfl, by decide, by decide⟩ hY F (fun _ _ a ns hl _ hS => ⟨a, ns, rfl, hS, hl, fun _ => rfl⟩) fun _ _ _ _ _ z => z
end Ot
theorem PySem.W.Fast.te8925363724669126754 : True := trivial
theorem PySem.W.Fast.te1005561211740202777 : True := trivial
theorem PySem.W.Fast.te2544488393699730403 : True := trivial
namespace PySem.W.Fast
def tw2443038916052129315 := ()
def tw7922548412315148285 := ()
def tw6206232106583858439 := ()
def tw15854520603587707637 := ()
def tw11235202984521834839 := ()
def tw14417047841493698337 := ()
def tw15948262956376660865 := ()
def tw1257927185024271923 := ()
def tw2962437016042670678 := ()
def tw12437746072654934941 := ()
def tw11035071009387290017 := ()
def tw13417463218403666954 := ()
def tw5458734455987055492 := ()
def tw1044236410218310213 := ()
def tw14038768055311971898 := ()
def tw9847229317170632612 := ()
def tw10881976459260993510 := ()
def tw16388608025388309849 := ()
def tw9956383277938675581 := ()
def tw7670609578649926871 := ()
def tw7430285318922014513 := ()
def tw4412045218565061728 := ()
def tw3844648919298232135 := ()
def tw5860624882300063748 := ()
def tw15207912347803442611 := ()
def tw6017397409646420981 := ()
def tw4944048320399420333 := ()
def tw12356542181247361501 := ()
def tw15925476954845463769 := ()
def tw6690158440571383637 := ()
def tw1688307486870578874 := ()
def tw8255172654015958949 := ()
def tw18171187736701374842 := ()
def tw246496459915555173 := ()
def tw3712385337202932938 := ()
def tw1303785808610801540 := ()
def tw3966821350971584372 := ()
def tw6984595071270228329 := ()
def tw7038684189879074412 := ()
def tw3103594291454506736 := ()
def tw16886098815239635479 := ()
def tw14768228670017006241 := ()
def tw13183186425196852134 := ()
def tw7333525628589906184 := ()
def tw1383654489683679677 := ()
def tw6369007244277766853 := ()
def tw5241632274234880425 := ()
def tw2468891666252099131 := ()
def tw1811624660279691491 := ()
def tw2916983993327115693 := ()
def tw18382968692254224008 := ()
def tw13799724488496859901 := ()
def tw15304917216835642159 := ()
def tw18424724457190457399 := ()
def tw3754378905493220844 := ()
def tw15928803713960136715 := ()
def tw2427757400557420772 := ()
def tw7044635731898483433 := ()
def tw2608896656227409620 := ()
def tw12183872089612505374 := ()
def tw13922912115666477458 := ()
def tw15157347478756211462 := ()
def tw6365764085021328446 := ()
def tw1759247229667003722 := ()
def tw1423548525794372134 := ()
def tw13367560237187358506 := ()
def tw13844672509248119087 := ()
def tw3087323246105970758 := ()
def tw1320259502004720881 := ()
def tw7488650361690484327 := ()
def tw16647093728233502768 := ()
def tw15071781125707214879 := ()
def tw15943087733238931657 := ()
def tw3405455236987517009 := ()
def tw275120625513918060 := ()
def tw14674910341136729718 := ()
def tw3406098311921167484 := ()
def tw12226564282108187810 := ()
def tw14972364062332915877 := ()
def tw18111329722576516339 := ()
def tw16820748484485086893 := ()
def tw16243020989588763700 := ()
def tw2904259086609520496 := ()
def tw17804730188342777430 := ()
def tw10899653043903339146 := ()
def tw5297888898862159093 := ()
def tw11998461074184286329 := ()
def tw13517487061628106916 := ()
def tw325762558637940678 := ()
def tw5420794996788246523 := ()
def tw13218645577351393248 := ()
def tw13175873826397028370 := ()
def tw6457277717053840410 := ()
def tw8971367540448427240 := ()
def tw9892236791388309329 := ()
def tw11107592719541126974 := ()
def tw17162712162833710724 := ()
def tw17602119039670827501 := ()
def tw18421444478240002803 := ()
def tw17888856557710830546 := ()
def tw9200038142992734259 := ()
def tw73109094811016798 := ()
def tw10961246242501572389 := ()
def tw8428566902016989642 := ()
def tw10376159166539048449 := ()
def tw16372993973136259867 := ()
def tw776392658907982482 := ()
def tw10458928433558499053 := ()
def tw17519346741310174026 := ()
def tw18009293179522783327 := ()
def tw9881715361225707592 := ()
def tw17049705268294610118 := ()
def tw1424785435292171343 := ()
def tw14350482704028024815 := ()
def tw4479449853980075573 := ()
def tw5364265735162620289 := ()
def tw5746086302319946225 := ()
def tw3574069408667904737 := ()
def tw1470860056207261288 := ()
def tw3861426053302767253 := ()
def tw7802745765527222395 := ()
def tw8012581812187162202 := ()
def tw1355198399868852012 := ()
def tw6050448278657378955 := ()
def tw1789046550226799240 := ()
def tw12266353880279695287 := ()
def tw2791994450078953680 := ()
def tw18235523469990569932 := ()
def tw10181492624770532296 := ()
def tw2098381873619919343 := ()
def tw5957798974378824169 := ()
def tw1665897198429978781 := ()
def tw2234417585659166236 := ()
def tw12892353275018180146 := ()
def tw15844784649354978986 := ()
def tw5501537440299373040 := ()
def tw9034809755163887014 := ()
def tw14297097799288005042 := ()
def tw4859106224693840716 := ()
def tw1372645631578359661 := ()
def tw9099311510391274693 := ()
def tw4314042910604572537 := ()
def tw9429447953356797269 := ()
def tw2277743696121833559 := ()
def tw18056306994568942075 := ()
def tw16351427519414232662 := ()
def tw15063436788925601866 := ()
def tw15043196280941679423 := ()
def tw7436131795210587284 := ()
def tw14806197616939124356 := ()
def tw8661542417238081743 := ()
def tw2522145820457676459 := ()
def tw14951208696402203853 := ()
def tw6360894657059518682 := ()
def tw4944805517698441726 := ()
def tw12085816708531872167 := ()
def tw5635690639629327334 := ()
def tw10186540934932502768 := ()
def tw2319180256604662728 := ()
def tw7612980388523014054 := ()
def tw14193468387134924577 := ()
def tw13124705694756020144 := ()
def tw9508681602057392359 := ()
def tw804342544774619785 := ()
def tw8034619240246640350 := ()
def tw7805201219442099070 := ()
def tw13665406287195901284 := ()
def tw3264975686618147532 := ()
def tw8381422753662820308 := ()
def tw4606680942851860522 := ()
def tw4943095183637249218 := ()
def tw5946373334547151095 := ()
def tw5369795214170635168 := ()
def tw4013281847106728451 := ()
def tw2871910595475385846 := ()
def tw12712257406292862672 := ()
def tw6429376276993996027 := ()
def tw12420545828580328862 := ()
def tw12978386682179246048 := ()
def tw2952046367334407893 := ()
def tw5021836513720701528 := ()
def tw14399524440152702922 := ()
def tw13041433195298165891 := ()
def tw15239411839580349103 := ()
def tw985548354023153345 := ()
def tw3818800682430878978 := ()
def tw5192151763760982896 := ()
def tw7845469634347189245 := ()
def tw11686698443226798042 := ()
def tw12842687297380624197 := ()
def tw10898875988763743364 := ()
def tw11647667690226433996 := ()
def tw2503167359676405749 := ()
def tw16411572102200256950 := ()
def tw15902460982003359346 := ()
def tw12502598123018965391 := ()
def tw14874831422459666648 := ()
def tw17878563867698193750 := ()
def tw3975610992018350253 := ()
def tw3978397084074546063 := ()
def tw17703534695734442102 := ()
def tw396383507197425751 := ()
def tw8695517415879596066 := ()
def tw6508766019609469311 := ()
def tw15280424849751843097 := ()
def tw9708275238830620439 := ()
def tw1176464883503639993 := ()
def tw12043148907419708841 := ()
def tw1084483700650613879 := ()
def tw12470852085802440586 := ()
def tw12154789500513958217 := ()
def tw1407816787147991738 := ()
def tw535833582408414383 := ()
def tw4084025859327923381 := ()
def tw14867473431860971978 := ()
def tw10203838317812273546 := ()
def tw2035508473008503531 := ()
def tw7396731769652232100 := ()
def tw6540441377280592985 := ()
def tw8493719134602009993 := ()
def tw939259052363089485 := ()
def tw8415180467007862521 := ()
def tw2511925000225213663 := ()
def tw5438372853821867232 := ()
def tw8082074482265145232 := ()
def tw9416644282169890269 := ()
def tw10000977989875656973 := ()
def tw1228141890667561402 := ()
def tw10265261676956644290 := ()
def tw2362704889940624152 := ()
def tw12182631818035302005 := ()
def tw15854568262708290201 := ()
def tw6032198390250303536 := ()
def tw1496503986944645527 := ()
def tw9155068717882980156 := ()
def tw15090696601353052895 := ()
def tw12358868510712663078 := ()
def tw892125050999496089 := ()
def tw2680322944332816650 := ()
def tw15065057225512089646 := ()
def tw13296646863342766543 := ()
def tw14754661656781933115 := ()
def tw15759776897565476060 := ()
def tw14860933498771894543 := ()
def tw12197468480793894953 := ()
def tw3331985142662245776 := ()
def tw4044054370790439299 := ()
def tw17390072403700186980 := ()
def tw10982835642538470820 := ()
def tw4137498226874295369 := ()
def tw7843659794910309804 := ()
def tw8033133320124350419 := ()
def tw11870154063458829632 := ()
def tw1535725208363493439 := ()
def tw17282647217881231600 := ()
def tw9188673176117817853 := ()
def tw9446075366749815024 := ()
def tw8933179664441591909 := ()
def tw313468550021871717 := ()
def tw6467408071767511977 := ()
def tw7681656705069428491 := ()
def tw5230938157425372622 := ()
def tw9818587066569228659 := ()
def tw2226387882315131934 := ()
def tw8021540369678695428 := ()
def tw1173148913861047536 := ()
def tw1976108199409802454 := ()
def tw10958606959576916015 := ()
def tw11567189535632789644 := ()
def tw12978194714770775959 := ()
def tw14729743192752662293 := ()
def tw6005158647698064306 := ()
def tw18251200489012286215 := ()
def tw13560223930525690004 := ()
def tw13687410048383883347 := ()
def tw2002462434879171101 := ()
def tw15993232953921143209 := ()
def tw3746091458959874708 := ()
def tw12541508943713476019 := ()
def tw1412496187440846973 := ()
def tw409561657177828143 := ()
def tw2462475105184076155 := ()
def tw5308511745003829167 := ()
def tw7495792755528396934 := ()
def tw2321658273852229691 := ()
def tw2366862556261284719 := ()
def tw15952453125465659442 := ()
def tw1050908915528175589 := ()
def tw7461650726099930619 := ()
def tw15102658928784211466 := ()
def tw1080536859270556285 := ()
def tw1421582839749890913 := ()
def tw17345856019110078635 := ()
def tw6048468453741660763 := ()
def tw17562172681435735217 := ()
def tw604377440324335502 := ()
def tw17875787468129822204 := ()
def tw8207345143607628188 := ()
def tw41411429061439069 := ()
def tw2340976429103554788 := ()
def tw9244483238457224316 := ()
def tw6163559578046070789 := ()
def tw16565516189159331820 := ()
def tw5334657908731141831 := ()
def tw12821784870090640462 := ()
def tw10433137089952960414 := ()
def tw16919602300314465486 := ()
def tw6353860055402337092 := ()
def tw14180520584970297357 := ()
end PySem.W.Fast
open PySem PySem.W PyProof.Rows
set_option maxRecDepth 100000 in
set_option maxHeartbeats 0 in
theorem PySem.Challenge.cw_ownturn_k09_deeds_refused_holds : PySem.Challenge.rw_ownturn_k09_deeds_refused.Holds := by
 w_on; o_law; k_head; (case hw => w_witness2)
 k_fill
 refine Ot.walk (l := PySem.Challenge.rw_ownturn_k09_deeds_refused) rfl rfl (fun w h Y => PySem.W.kIn_of Y) ?F
 case F =>
  intro w mg fa h KX G hmg
  refine' Ot.all_mk KX G hmg (L2.at_mk KX G ?a0 ?l0 ?c0 ?k0) (L2.blt_mk KX G ?z1 ?z2 ?z3 ?z4 ?z5 ?z6 ?z7 ?z8 ?z9 ?z10 ?z11 ?z12 ?z13 ?z14 ?z15 ?z16) (PySem.W.mg_none_of KX G ?zall) (PySem.W.mg_none_of KX G ?zValueError) (L2.at_mk KX G ?a1 ?l1 ?c1 ?k1) (L2.at_mk KX G ?a2 ?l2 ?c2 ?k2) (L2.at_mk KX G ?a3 ?l3 ?c3 ?k3) (L2.at_mk KX G ?a4 ?l4 ?c4 ?k4) (L2.at_mk KX G ?a5 ?l5 ?c5 ?k5) (L2.at_mk KX G ?a6 ?l6 ?c6 ?k6) (L2.at_mk KX G ?a7 ?l7 ?c7 ?k7) (L2.at_mk KX G ?a8 ?l8 ?c8 ?k8) (L2.at_mk KX G ?a9 ?l9 ?c9 ?k9) (L2.at_mk KX G ?a10 ?l10 ?c10 ?k10) (L2.at_mk KX G ?a11 ?l11 ?c11 ?k11) (L2.at_mk KX G ?a12 ?l12 ?c12 ?k12) (L2.at_mk KX G ?a13 ?l13 ?c13 ?k13) (L2.at_mk KX G ?a14 ?l14 ?c14 ?k14) ?xgTurnError ?xgBadDeed ?xgBadPlan ?xgBadRing ?xgBadRow ?xgNoMatch ?xgNotDone ?xfxbx ?xfxga ?xfxgt ?xfxcl ?xfxgs ?xfxtk ?xfxmo ?xfxis ?xfxt ?xfxi ?xfxv ?xfxo ?xfxhd ?xfxfw ?xaBadDeed ⟨_, L2.fun_mk ?xlBadDeed ?xcBadDeed ?xkBadDeed⟩ ?xnBadDeed ?xqBadDeed ⟨?xsBadDeedword, ?xtBadDeedword, ?xhBadDeedword, ?xmBadDeedword, ?xvBadDeedword⟩ ?aP ?lP ?nP ?aC ?pg ?hd ?po ?sa ?mk ?kc ?nr ?nh ?nm (L2.atm_mk ?ma0 ?mi0 ?ml0 ?mc0 ?mk0) (L2.atm_mk ?ma1 ?mi1 ?ml1 ?mc1 ?mk1) (L2.atm_mk ?ma2 ?mi2 ?ml2 ?mc2 ?mk2) (L2.atm_mk ?ma3 ?mi3 ?ml3 ?mc3 ?mk3) (L2.atm_mk ?ma4 ?mi4 ?ml4 ?mc4 ?mk4) (L2.atm_mk ?ma5 ?mi5 ?ml5 ?mc5 ?mk5) (L2.atm_mk ?ma6 ?mi6 ?ml6 ?mc6 ?mk6) (L2.atm_mk ?ma7 ?mi7 ?ml7 ?mc7 ?mk7) (L2.atm_mk ?ma8 ?mi8 ?ml8 ?mc8 ?mk8) (L2.atm_mk ?ma9 ?mi9 ?ml9 ?mc9 ?mk9)
  (case xgTurnError => k_is)
  (case xgBadDeed => k_is)
  (case xgBadPlan => k_is)
  (case xgBadRing => k_is)
  (case xgBadRow => k_is)
  (case xgNoMatch => k_is)
  (case xgNotDone => k_is)
  (case xfxbx => first | k_is | kit_is | kts_exm)
  (case xfxga => first | k_is | kit_is | kts_exm)
  (case xfxgt => first | k_is | kit_is | kts_exm)
  (case xfxcl => first | k_is | kit_is | kts_exm)
  (case xfxgs => first | k_is | kit_is | kts_exm)
  (case xfxtk => first | k_is | kit_is | kts_exm)
  (case xfxmo => first | k_is | kit_is | kts_exm)
  (case xfxis => first | k_is | kit_is | kts_exm)
  (case xfxt => first | k_is | kit_is | kts_exm)
  (case xfxi => first | k_is | kit_is | kts_exm)
  (case xfxv => first | k_is | kit_is | kts_exm)
  (case xfxo => first | k_is | kit_is | kts_exm)
  (case xfxhd => first | k_is | kit_is | kts_exm)
  (case xfxfw => first | k_is | kit_is | kts_exm)
  (case xaBadDeed => k_is); (case xlBadDeed => k_is); (case xcBadDeed => k_is); (case xkBadDeed => k_is); (case xnBadDeed => k_is)
  (case xqBadDeed => first | rfl | with_unfolding_all rfl | exact Eq.refl true)
  (case xsBadDeedword => k_is); (case xtBadDeedword => k_is); (case xhBadDeedword => k_is); (case xmBadDeedword => k_is); (case xvBadDeedword => first | rfl | with_unfolding_all rfl | exact Eq.refl true)
  (case aP => k_is); (case lP => k_is); (case nP => first | rfl | decide | k_is); (case aC => k_is)
  (case a0 => k_is); (case l0 => k_is); (case c0 => k_is); (case k0 => k_is)
  (case a1 => k_is); (case l1 => k_is); (case c1 => k_is); (case k1 => k_is)
  (case a2 => k_is); (case l2 => k_is); (case c2 => k_is); (case k2 => k_is)
  (case a3 => k_is); (case l3 => k_is); (case c3 => k_is); (case k3 => k_is)
  (case a4 => k_is); (case l4 => k_is); (case c4 => k_is); (case k4 => k_is)
  (case a5 => k_is); (case l5 => k_is); (case c5 => k_is); (case k5 => k_is)
  (case a6 => k_is); (case l6 => k_is); (case c6 => k_is); (case k6 => k_is)
  (case a7 => k_is); (case l7 => k_is); (case c7 => k_is); (case k7 => k_is)
  (case a8 => k_is); (case l8 => k_is); (case c8 => k_is); (case k8 => k_is)
  (case a9 => k_is); (case l9 => k_is); (case c9 => k_is); (case k9 => k_is)
  (case a10 => k_is); (case l10 => k_is); (case c10 => k_is); (case k10 => k_is)
  (case a11 => k_is); (case l11 => k_is); (case c11 => k_is); (case k11 => k_is)
  (case a12 => k_is); (case l12 => k_is); (case c12 => k_is); (case k12 => k_is)
  (case a13 => k_is); (case l13 => k_is); (case c13 => k_is); (case k13 => k_is)
  (case a14 => k_is); (case l14 => k_is); (case c14 => k_is); (case k14 => k_is)
  (case zall => k_is)
  (case zValueError => k_is)
  (case z1 => k_is)
  (case z2 => k_is)
  (case z3 => k_is)
  (case z4 => k_is)
  (case z5 => k_is)
  (case z6 => k_is)
  (case z7 => k_is)
  (case z8 => k_is)
  (case z9 => k_is)
  (case z10 => k_is)
  (case z11 => k_is)
  (case z12 => k_is)
  (case z13 => k_is)
  (case z14 => k_is)
  (case z15 => k_is)
  (case z16 => k_is)
  (case pg => k_is); (case hd => k_is); (case po => k_is); (case sa => k_is); (case mk => k_is); (case kc => k_is); (case nr => k_is); (case nh => k_is); (case nm => k_is)
  (case ma0 => k_is); (case mi0 => k_is); (case ml0 => k_is); (case mc0 => k_is); (case mk0 => k_is)
  (case ma1 => k_is); (case mi1 => k_is); (case ml1 => k_is); (case mc1 => k_is); (case mk1 => k_is)
  (case ma2 => k_is); (case mi2 => k_is); (case ml2 => k_is); (case mc2 => k_is); (case mk2 => k_is)
  (case ma3 => k_is); (case mi3 => k_is); (case ml3 => k_is); (case mc3 => k_is); (case mk3 => k_is)
  (case ma4 => k_is); (case mi4 => k_is); (case ml4 => k_is); (case mc4 => k_is); (case mk4 => k_is)
  (case ma5 => k_is); (case mi5 => k_is); (case ml5 => k_is); (case mc5 => k_is); (case mk5 => k_is)
  (case ma6 => k_is); (case mi6 => k_is); (case ml6 => k_is); (case mc6 => k_is); (case mk6 => k_is)
  (case ma7 => k_is); (case mi7 => k_is); (case ml7 => k_is); (case mc7 => k_is); (case mk7 => k_is)
  (case ma8 => k_is); (case mi8 => k_is); (case ml8 => k_is); (case mc8 => k_is); (case mk8 => k_is)
  (case ma9 => k_is); (case mi9 => k_is); (case ml9 => k_is); (case mc9 => k_is); (case mk9 => k_is)
