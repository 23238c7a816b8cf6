import PyProof.Rows.All
import Wide.All
import OpenK.AllK
import Wide.FinOn
import Lean
import PyProof.EqAt
import PyProof.EqKinds
import PyProof.TupleCall
import PySem.Challenge.RW_ownturn_k24_whole_walks_together
set_option Elab.async false
set_option linter.all false
set_option maxRecDepth 100000
namespace L2
open PySem PySem.Spec PyProof.Rows
abbrev Key := Sum Int Str
def WI : Key -> Value -> Bool
 | .inl k, v => Value.isInt k v
 | .inr x, v => Value.isStrOf x v
def DO (w : World) : Key -> Int
 | .inl k => hashInt k
 | .inr x => hashStr w x
theorem zU : ∀ {k : Key} {v : Value}, WI k v = true -> (∃ i t, k = Sum.inl i /\ v = Value.int i t) \/ (∃ x t, k = Sum.inr x /\ v = Value.str x t)
 | .inl i, v, h => by
  obtain ⟨t, e⟩ := Value.isInt_shape (k := i) (v := v) h
  exact .inl ⟨i, t, rfl, e⟩
 | .inr x, v, h => by
  obtain ⟨t, e⟩ := Value.isStrOf_shape (x := x) (v := v) h
  exact .inr ⟨x, t, rfl, e⟩
theorem Ai (a b : Int) : decide ((Sum.inl a : Key) = Sum.inl b) = (a == b) := by
 by_cases e : a = b
 ·subst e; simp
 ·have h : ¬ (Sum.inl a : Key) = Sum.inl b := fun q => e (Sum.inl.inj q)
  rw [decide_eq_false h]
  exact (beq_eq_false_iff_ne.mpr e).symm
theorem Ay (a b : Str) : decide ((Sum.inr a : Key) = Sum.inr b) = decide (a = b) := by
 by_cases e : a = b
 ·subst e; simp
 ·have h : ¬ (Sum.inr a : Key) = Sum.inr b := fun q => e (Sum.inr.inj q)
  rw [decide_eq_false h, decide_eq_false e]
theorem BD (a : Int) (b : Str) : decide ((Sum.inl a : Key) = Sum.inr b) = false := decide_eq_false (fun q => nomatch q)
theorem Aw (a : Str) (b : Int) : decide ((Sum.inr a : Key) = Sum.inl b) = false := decide_eq_false (fun q => nomatch q)
def xR (prog : Program) (w : World) : PySem.KeyKind prog w Key where
 is := WI
 hash := DO w
 inj := fun v a b ha hb => by
  rcases zU ha with ⟨i, t, rfl, rfl⟩ | ⟨x, t, rfl, rfl⟩
  ·rcases zU hb with ⟨j, u, rfl, e⟩ | ⟨y, u, rfl, e⟩
   ·injection e with e1 _; rw [e1]
   ·exact nomatch e
  ·rcases zU hb with ⟨j, u, rfl, e⟩ | ⟨y, u, rfl, e⟩
   ·exact nomatch e
   ·injection e with e1 _; rw [e1]
 byValue := fun k v h => by
  rcases zU h with ⟨i, t, rfl, rfl⟩ | ⟨x, t, rfl, rfl⟩ <;> rfl
 pyHash := fun hv h => by
  rcases zU hv with ⟨i, t, rfl, rfl⟩ | ⟨x, t, rfl, rfl⟩
  ·exact wpAny_pyHash_int h
  ·exact wpAny_pyHash_str h
 eqBool := fun hu hv h => by
  rcases zU hu with ⟨i, t, rfl, rfl⟩ | ⟨x, t, rfl, rfl⟩
  ·rcases zU hv with ⟨j, u, rfl, rfl⟩ | ⟨y, u, rfl, rfl⟩
   ·rw [Ai] at h; exact wpAny_eqBool_int h
   ·rw [BD] at h; exact SeqAt.EqAt.int_str i t y u _ _ _ _ h
  ·rcases zU hv with ⟨j, u, rfl, rfl⟩ | ⟨y, u, rfl, rfl⟩
   ·rw [Aw] at h; exact SeqAt.EqAt.str_int x t j u _ _ _ _ h
   ·rw [Ay] at h; exact wpAny_eqBool_str h
 «strs» := fun k x t v h => by
  rcases zU h with ⟨i, u, rfl, e⟩ | ⟨y, u, rfl, e⟩
  ·exact nomatch e
  ·injection e with e1 _
   subst e1
   cases v <;> rfl
end L2
namespace L2
open PySem PySem.Spec PyProof.Rows
inductive V where
 | non | bl (b : Bool) | int (i : Int) | str (x : Str) | byt (b : Array UInt8) | flt (b : UInt64) | ref (a : Addr) | ty (n : String)
 deriving DecidableEq
def zF : V -> Value -> Prop
 | .non, u => u = Value.none
 | .bl b, u => u = Value.bool b
 | .int i, u => ∃ t, u = Value.int i t
 | .str x, u => ∃ t, u = Value.str x t
 | .byt b, u => ∃ t, u = Value.bytes b t
 | .flt b, u => ∃ t, u = Value.float b t
 | .ref a, u => u = Value.ref a
 | .ty n, u => u = Value.type n
abbrev zC : List V -> List Value -> Prop := Paired zF
theorem zC.length {xs : List V} {us : List Value} (r : zC xs us) : xs.length = us.length := Paired.length r
theorem zC.get : ∀ {xs : List V} {us : List Value} {i : Nat} {x : V}, zC xs us -> xs[i]? = some x -> ∃ u, us[i]? = some u /\ zF x u
 | _, _, _, _, .nil, e => by simp at e
 | _, _, 0, _, .cons r _, e => by simp at e; subst e; exact ⟨_, rfl, r⟩
 | _, _, i + 1, x, .cons _ t, e => by
  obtain ⟨u, h1, h2⟩ := zC.get (i := i) (x := x) t (by simpa using e)
  exact ⟨u, by simpa using h1, h2⟩
theorem zC.set {x : V} {u : Value} (r : zF x u) : ∀ {xs : List V} {us : List Value} (i : Nat), zC xs us -> zC (xs.set i x) (us.set i u)
 | _, _, _, .nil => .nil
 | _, _, 0, .cons _ t => .cons r t
 | _, _, i + 1, .cons q t => .cons q (zC.set r i t)
theorem zC.append : ∀ {xs ys : List V} {us ws : List Value}, zC xs us -> zC ys ws -> zC (xs ++ ys) (us ++ ws)
 | _, _, _, _, .nil, s => s
 | _, _, _, _, .cons r t, s => .cons r (zC.append t s)
theorem zC.take : ∀ {xs : List V} {us : List Value} (n : Nat), zC xs us -> zC (xs.take n) (us.take n)
 | _, _, 0, _ => .nil
 | _, _, _ + 1, .nil => .nil
 | _, _, n + 1, .cons r t => .cons r (zC.take n t)
theorem zC.drop : ∀ {xs : List V} {us : List Value} (n : Nat), zC xs us -> zC (xs.drop n) (us.drop n)
 | _, _, 0, r => r
 | _, _, _ + 1, .nil => .nil
 | _, _, n + 1, .cons _ t => zC.drop n t
def Aq : Option V -> Option Value -> Prop
 | some v, some u => zF v u
 | none, none => True
 | _, _ => False
def KV {κ : Type} : List (κ × V) -> List (κ × Value) -> Prop := Paired fun (p : κ × V) (q : κ × Value) => p.1 = q.1 /\ zF p.2 q.2
def kV : Key -> V
 | .inl i => .int i
 | .inr x => .str x
inductive HO where
  | lst (xs : List V)
  | tup (xs : List V)
  | dK (kvs : List (Key × V)) | dT (kvs : List (List Key × V))
  | set (S : Int -> Bool) (n : Nat)
  | ins (C dx : Addr) (fs : List (Str × V))
  | own (x : Addr)
  | xd (fs : List (Str × V))
  | met (f x : Addr)
  | rng (lo hi : Int)
  | frz (o : Obj) (u : HO)
  | tbl (ps : Array Value)
  | ext (φ : Heap -> Prop)
abbrev Hp := Addr -> Option HO
def upd (H : Hp) (a : Addr) (o : HO) : Hp := fun b => if b = a then some o else H b
theorem zd {H : Hp} {a : Addr} {o : HO} : upd H a o a = some o := by unfold upd; rw [if_pos rfl]
theorem zk {H : Hp} {a b : Addr} {o : HO} (h : b ≠ a) : upd H a o b = H b := by unfold upd; rw [if_neg h]
theorem X4 {H : Hp} {a b : Addr} {o u : HO} (h : H a = some o) (h' : H b = some u) (d : o ≠ u) : a ≠ b := by
 intro e; subst e; rw [h] at h'; exact d (Option.some.inj h')
theorem zh {H : Hp} {a b : Addr} {o : HO} (h : H a = some o) (h' : H b = none) : a ≠ b := by
 intro e; subst e; rw [h] at h'; cases h'
def XQ (h : Heap) (a : Addr) (items : Array Value) : Prop := ∃ o, h.get? a = some o /\ o.cls = .type "tuple" /\ (∃ n, o.data = .seq items n) /\ o.dict = none
theorem XQ.is {h : Heap} {a : Addr} {items : Array Value} (x : XQ h a items) : IsTup h a items := let ⟨o, e, c, n, _⟩ := x; ⟨o, e, c, n⟩
theorem XQ.lt {h : Heap} {a : Addr} {items : Array Value} (x : XQ h a items) : a < h.objs.size := x.is.lt
section
variable (P : Program) (w : World)
def zT (H : Hp) (h : Heap) (a : Addr) : HO -> Prop
  | .lst xs => xs.length <= sizeLine /\ ∃ (its : List Value) (n : Nat), zC xs its /\ h.get? a = some { cls := .type "list", data := .seq its.toArray n }
  | .tup xs => xs.length <= sizeLine /\ ∃ its : List Value, zC xs its /\ XQ h a its.toArray
  | .dK kvs => kvs.length <= sizeLine /\ (a == sysModules) = false /\ ∃ vs, KV kvs vs /\ h.DictOf (xR P w) a vs
  | .dT kvs => kvs.length <= sizeLine /\ (a == sysModules) = false /\ ∃ xs : List (List Key × Addr × Value),
      Paired (fun (p : List Key × V) (q : List Key × Addr × Value) => p.1 = q.1 /\ H q.2.1 = some (.tup (p.1.map kV)) /\ zF p.2 q.2.2) kvs xs /\
      ∃ o es ep, h.get? a = some o /\ o.ExactDict /\ o.data = .dict es ep /\ es.toList = xs.map (entryOfKey (tupleKind (xR P w))) /\ (xs.map (·.1)).Nodup
  | .set S n => h.SetOf (intKind P w) a S n
  | .ins C dx fs => H dx = some (.own a) /\ fs.length <= 1000 /\ dx ≠ a /\ h.get? a = some (PySem.W.instObj C dx) /\
      ∃ mA, h.Ns1 dx mA /\ (∀ f, Aq (fs.lookup f) (mA f)) /\ PySem.Within mA (fs.map (·.1))
  | .own _ => ∃ o, h.get? a = some o
  | .xd fs => ∃ mA, h.Ns1 a mA /\ ∀ f, Aq (fs.lookup f) (mA f)
  | .rng lo hi => ∃ t u v, h.get? a = some { cls := .type "range", data := .fields #[.int lo t, .int hi u, .int 1 v] }
  | .frz o u => h.get? a = some o /\ zT H h a u
  | .tbl ps => h.get? a = some { cls := .none, data := .fields ps }
  | .met f x => h.get? a = some (PySem.W.methodObj (.ref f) (.ref x))
  | .ext φ => φ h /\ (∃ o, h.get? a = some o) /\ ∀ h1 h2 : Heap, φ h1 -> (∀ o, h1.get? a = some o -> h2.get? a = some o) -> φ h2
def HOk (H : Hp) (h : Heap) : Prop := ∀ a o, H a = some o -> zT P w H h a o
end
section
variable {P : Program} {w : World} {H H' : Hp} {h h' : Heap} {a : Addr} {o : HO}
theorem zT.lt (x : zT P w H h a o) : a < h.objs.size := by
 cases o with
 | lst xs => obtain ⟨_, _, _, _, e⟩ := x; exact Heap.lt_size e
 | tup xs => obtain ⟨_, _, _, p⟩ := x; exact p.lt
 | dK kvs => obtain ⟨_, _, _, _, o, _, _, e, _⟩ := x; exact Heap.lt_size e
 | dT kvs => obtain ⟨_, _, _, _, o, _, _, e, _⟩ := x; exact Heap.lt_size e
 | set S n => obtain ⟨o, _, _, _, e, _⟩ := x; exact Heap.lt_size e
 | ins C dx fs => obtain ⟨_, _, _, e, _⟩ := x; exact Heap.lt_size e
 | own y => obtain ⟨_, e⟩ := x; exact Heap.lt_size e
 | xd fs => obtain ⟨_, ⟨_, _, _, e, _⟩, _⟩ := x; exact Heap.lt_size e
 | rng lo hi => obtain ⟨_, _, _, e⟩ := x; exact Heap.lt_size e
 | frz ob u => obtain ⟨e, _⟩ := x; exact Heap.lt_size e
 | tbl ps => exact Heap.lt_size (show h.get? a = some _ from x)
 | met f y => exact Heap.lt_size (show h.get? a = some _ from x)
 | ext φ => obtain ⟨_, ⟨_, e⟩, _⟩ := x; exact Heap.lt_size e
theorem Paired.mapP {α β : Type} {F G : α -> β -> Prop} : ∀ {l₁ : List α} {l₂ : List β}, Paired F l₁ l₂ -> (∀ a b, F a b -> G a b) -> Paired G l₁ l₂
 | _, _, .nil, _ => .nil
 | _, _, .cons r t, f => .cons (f _ _ r) (Paired.mapP t f)
theorem zT.stay (x : zT P w H h a o) (k : ∀ b u, (b = a \/ H b = some (.own a)) -> h.get? b = some u -> h'.get? b = some u)
  (ho : ∀ b, H b = some (.own a) -> H' b = some (.own a)) (ht : ∀ b xs, H b = some (.tup xs) -> H' b = some (.tup xs)) : zT P w H' h' a o := by
 induction o with
 | lst xs => obtain ⟨z, its, n, r, e⟩ := x; exact ⟨z, its, n, r, k _ _ (.inl rfl) e⟩
 | tup xs => obtain ⟨z, its, r, ob, e, c⟩ := x; exact ⟨z, its, r, ob, k _ _ (.inl rfl) e, c⟩
 | dK kvs => obtain ⟨z, y, vs, r, ob, es, ep, e, c⟩ := x; exact ⟨z, y, vs, r, ob, es, ep, k _ _ (.inl rfl) e, c⟩
 | dT kvs =>
  obtain ⟨z, y, xs, r, ob, es, ep, e, c⟩ := x
  exact ⟨z, y, xs, Paired.mapP r fun p q z => ⟨z.1, ht _ _ z.2.1, z.2.2⟩, ob, es, ep, k _ _ (.inl rfl) e, c⟩
 | set S n => obtain ⟨ob, es, ep, t, e, c⟩ := x; exact ⟨ob, es, ep, t, k _ _ (.inl rfl) e, c⟩
 | ins C dx fs =>
  obtain ⟨d, z, ne, e, mA, ⟨od, es, ep, e2, c⟩, r⟩ := x
  exact ⟨ho _ d, z, ne, k _ _ (.inl rfl) e, mA, ⟨od, es, ep, k _ _ (.inr d) e2, c⟩, r⟩
 | own y => obtain ⟨ob, e⟩ := x; exact ⟨ob, k _ _ (.inl rfl) e⟩
 | xd fs => obtain ⟨mA, ⟨od, es, ep, e, c⟩, r⟩ := x; exact ⟨mA, ⟨od, es, ep, k _ _ (.inl rfl) e, c⟩, r⟩
 | rng lo hi => obtain ⟨t, u, v, e⟩ := x; exact ⟨t, u, v, k _ _ (.inl rfl) e⟩
 | frz ob u ih => obtain ⟨e, q⟩ := x; exact ⟨k _ _ (.inl rfl) e, ih q⟩
 | tbl ps =>
  have e : h.get? a = some { cls := .none, data := .fields ps } := x
  show h'.get? a = some { cls := .none, data := .fields ps }
  exact k a _ (.inl rfl) e
 | met f y =>
  have e : h.get? a = some (PySem.W.methodObj (.ref f) (.ref y)) := x
  show h'.get? a = some (PySem.W.methodObj (.ref f) (.ref y))
  exact k a _ (.inl rfl) e
 | ext φ => obtain ⟨p, ⟨o, e⟩, st⟩ := x; exact ⟨st _ _ p fun o q => k _ _ (.inl rfl) q, ⟨o, k _ _ (.inl rfl) e⟩, st⟩
theorem HOk.lt (x : HOk P w H h) (e : H a = some o) : a < h.objs.size := (x a o e).lt
theorem HOk.fresh (x : HOk P w H h) (e : h.objs.size <= a) : H a = none := by
 cases q : H a with
 | none => rfl
 | some u => exact absurd (Nat.lt_of_lt_of_le (x.lt q) e) (Nat.lt_irrefl _)
theorem HOk.kept (x : HOk P w H h) (k : ∀ b u, h.get? b = some u -> h'.get? b = some u) : HOk P w H h' := fun a o e =>
 (x a o e).stay (fun b u _ q => k b u q) (fun _ q => q) fun _ _ q => q
theorem HOk.laid (x : HOk P w H h) (k : ∀ b u, h.get? b = some u -> h'.get? b = some u) (hp : h.objs.size <= a) (new : zT P w (upd H a o) h' a o) : HOk P w (upd H a o) h' := fun b u e => by
 have hn := x.fresh hp
 by_cases hb : b = a
 ·subst hb; rw [zd] at e; cases e; exact new
 ·rw [zk hb] at e
  exact (x b u e).stay (fun c v _ q => k c v q) (fun c q => by rw [zk (zh q hn)]; exact q) fun c xs q => by rw [zk (zh q hn)]; exact q
end
def Rd (H : Hp) (a : Addr) (u : HO) : Prop := H a = some u \/ ∃ o, H a = some (.frz o u)
theorem Rd.ok {P : Program} {w : World} {H : Hp} {h : Heap} {a : Addr} {u : HO} (r : Rd H a u) (x : HOk P w H h) : zT P w H h a u := by
 rcases r with r | ⟨o, r⟩
 ·exact x a u r
 ·obtain ⟨_, q⟩ := x a _ r
  exact q
def Mut : Option HO -> Prop
 | some (.lst _) => True
 | some (.dK _) => True
 | some (.dT _) => True
 | some (.set _ _) => True
 | some (.ins _ _ _) => True
 | some (.ext _) => True
 | _ => False
section
variable {P : Program} {w : World} {H : Hp} {h h' : Heap} {x e : Addr} {o' : HO}
theorem HOk.write (ok : HOk P w H h) (mu : Mut (H x)) (he : e = x \/ H e = some (.own x)) (k : ∀ b u, b ≠ e -> h.get? b = some u -> h'.get? b = some u) (heo : ∃ u, h'.get? e = some u)
    (new : zT P w (upd H x o') h' x o') : HOk P w (upd H x o') h' := fun b u q => by
  have nown : ∀ c y, H c = some (.own y) -> c ≠ x := fun c y r z => by subst z; rw [r] at mu; exact mu
  have ntup : ∀ c xs, H c = some (.tup xs) -> c ≠ x := fun c xs r z => by subst z; rw [r] at mu; exact mu
  by_cases hb : b = x
  · subst hb; rw [zd] at q; cases q; exact new
  · rw [zk hb] at q
    by_cases hbe : b = e
    · have q' : H b = some (.own x) := by
        rcases he with z | z
        · exact absurd (hbe.trans z) hb
        · rw [hbe]; exact z
      rw [q] at q'; cases q'
      obtain ⟨v, hv⟩ := heo
      exact ⟨v, by rw [hbe]; exact hv⟩
    · refine (ok b u q).stay (fun c v hc r => k c v ?_ r) (fun c r => by rw [zk (nown c b r)]; exact r) fun c xs r => by rw [zk (ntup c xs r)]; exact r
      rcases hc with rfl | hc
      · exact hbe
      · rintro rfl
        rcases he with z | z
        · exact nown c b hc z
        · rw [hc] at z; cases z; exact hb rfl
end
structure Un (fs ex : List Addr) (H H' : Hp) (h h' : Heap) : Prop where
 keep : ∀ b o, h.get? b = some o -> H b = none -> b ∉ fs -> b ∉ ex -> h'.get? b = some o
 slot : ∀ b o, h.get? b = some o -> H b = none -> b ∈ fs -> b ∉ ex -> ∃ sl, h'.get? b = some { o with slots := sl }
 free : ∀ b o, h.get? b = some o -> H b = none -> b ∉ ex -> H' b = none
 there : ∀ b o, h.get? b = some o -> b ∉ ex -> ∃ o', h'.get? b = some o'
 tups : ∀ b xs, H b = some (.tup xs) -> H' b = some (.tup xs)
 frzs : ∀ b o u, H b = some (.frz o u) -> H' b = some (.frz o u)
 tbls : ∀ b ps, H b = some (.tbl ps) -> ∃ more, H' b = some (.tbl (ps ++ more))
section
variable {fs fs' ex ex' : List Addr} {H H1 H2 : Hp} {h h1 h2 h' : Heap} {a x e : Addr} {o : HO}
theorem Un.any (u : Un fs ex H H1 h h1) {b : Addr} {ob : Obj} (q : h.get? b = some ob) (n : H b = none) (hx : b ∉ ex) : ∃ sl, h1.get? b = some { ob with slots := sl } := by
 by_cases hb : b ∈ fs
 ·exact u.slot b ob q n hb hx
 ·exact ⟨ob.slots, u.keep b ob q n hb hx⟩
theorem Un.kept (k : ∀ b u, h.get? b = some u -> h'.get? b = some u) : Un fs ex H H h h' :=
 ⟨fun b ob q _ _ _ => k b ob q, fun b ob q _ _ _ => ⟨ob.slots, k b ob q⟩, fun _ _ _ n _ => n, fun b ob q _ => ⟨ob, k b ob q⟩, fun _ _ q => q, fun _ _ _ q => q, fun _ ps q => ⟨#[], by rw [q]; simp⟩⟩
theorem Un.refl : Un fs ex H H h h := Un.kept fun _ _ q => q
theorem Un.laid (k : ∀ b u, h.get? b = some u -> h'.get? b = some u) (hp : h.objs.size <= a) (hn : H a = none) : Un fs ex H (upd H a o) h h' where
 keep := fun b u q _ _ _ => k b u q
 slot := fun b u q _ _ _ => ⟨u.slots, k b u q⟩
 free := fun b u q n _ => by rw [zk (Nat.ne_of_lt (Nat.lt_of_lt_of_le (Heap.lt_size q) hp))]; exact n
 there := fun b u q _ => ⟨u, k b u q⟩
 tups := fun b xs q => by rw [zk (zh q hn)]; exact q
 frzs := fun b u xs q => by rw [zk (zh q hn)]; exact q
 tbls := fun b ps q => ⟨#[], by rw [zk (zh q hn), q]; simp⟩
theorem Un.write (mu : Mut (H x)) (he : e = x \/ H e = some (.own x)) (k : ∀ b u, b ≠ e -> h.get? b = some u -> h'.get? b = some u) (heo : ∃ u, h'.get? e = some u) : Un fs ex H (upd H x o) h h' := by
 have hx : ∀ b, H b = none -> b ≠ x := fun b n z => by subst z; rw [n] at mu; exact mu
 have hb : ∀ b, H b = none -> b ≠ e := fun b n z => by
  subst z
  rcases he with r | r
  ·exact hx b n r
  ·rw [n] at r; cases r
 have hm : ∀ b u, H b = some u -> ¬ Mut (some u) -> b ≠ x := fun b u q nm z => by subst z; rw [q] at mu; exact nm mu
 refine ⟨fun b u q n _ _ => k b u (hb b n) q, fun b u q n _ _ => ⟨u.slots, k b u (hb b n) q⟩, fun b u q n _ => by rw [zk (hx b n)]; exact n, fun b u q _ => ?_,
  fun b xs q => by rw [zk (hm b _ q fun z => z)]; exact q, fun b u xs q => by rw [zk (hm b _ q fun z => z)]; exact q, fun b ps q => ⟨#[], by rw [zk (hm b _ q fun z => z), q]; simp⟩⟩
 by_cases hbe : b = e
 ·subst hbe; exact heo
 ·exact ⟨u, k b u hbe q⟩
end
def trk (h : Heap) (H : Hp) : List Addr := (List.range h.objs.size).filter fun a => (H a).isSome
def vZ (h : Heap) (H : Hp) : Heap := PySem.W.hideAll h (trk h H)
theorem JP (h : Heap) (H : Hp) : (vZ h H).objs.size = h.objs.size := PySem.W.hideAll_size _ _
theorem YN {h : Heap} {H : Hp} {b : Addr} {o : Obj} (e : h.get? b = some o) (n : H b = none) : (vZ h H).get? b = some o :=
 PySem.W.hideAll_get _ e fun hm => by
  have q : (H b).isSome = true := (List.mem_filter.mp hm).2
  rw [n] at q; simp at q
theorem Wt {h : Heap} {H : Hp} {b : Addr} {o : Obj} (e : (vZ h H).get? b = some o) : h.get? b = some o /\ H b = none := by
 have e' : h.get? b = some o := PySem.W.of_hideAll (trk h H) e
 refine ⟨e', ?_⟩
 cases q : H b with
 | none => rfl
 | some x =>
  have hm : b ∈ trk h H := List.mem_filter.mpr ⟨List.mem_range.mpr (Heap.lt_size e'), by simp [q]⟩
  have z : (vZ h H).get? b = none := PySem.W.hideAll_none (trk h H) hm
  rw [z] at e; cases e
def Wp (g h : Heap) (L : Addr) : List (Addr × Obj) := (List.range h.objs.size).filterMap fun a => if a = L \/ (g.get? a).isSome = true then none else (h.get? a).map fun o => (a, o)
def ku (g h : Heap) (L d : Addr) : List (Addr × Obj) := (Wp g h L).filter fun p => decide (p.1 ≠ d)
end L2
namespace L2
open PySem PySem.Spec PyProof.Rows
structure Mod (K : PySem.W.Frag) (mg : Str -> Option Value) (base : Heap) : Prop where
 kin : K.In base
 glob : base.Ns mainGlobals mg
 blt : ∃ mb, base.Ns builtinsNs mb /\ ∀ x : Str, x ≠ "__name__" -> mb x = bootBuiltins x
 nolimit : base.NoLimit
structure Cx where
 prog : Program
 w : World
 K : PySem.W.Frag
 mg : Str -> Option Value
 base : Heap
 A : Around
 N : List Str
 s₀ : Shared
 H₀ : Hp
 env : Env
 outer : List Env
 stack : List Env
 ex : List Addr
 fn : Str -> Bool
 calm : Bool
 pn : List (Addr × Obj)
 xe : Value -> Shared -> Prop
def frs (l : List Env) : List Addr := l.filterMap (·.frame)
abbrev Cx.fs (X : Cx) : List Addr := frs X.outer
def Vis (sc : Scope) (x : Str) : Prop := sc.names.lookup x = some .local \/ sc.names.lookup x = some .cell \/ sc.names.lookup x = some .free
def Loc (sc : Scope) (x : Str) : Prop := sc.names.lookup x = some .local \/ sc.names.lookup x = some .cell
def DS (env : Env) (h : Heap) (m : Str -> Option Value) (x : Str) (u : Value) : Prop :=
 (env.kindOf x = some .local /\ m x = some u) \/ ((env.kindOf x = some .cell \/ env.kindOf x = some .free) /\ ∃ c, env.cells.lookup x = some c /\ h.IsCell c (some u))
structure Cx.Ok (X : Cx) : Prop where
 mod : Mod X.K X.mg X.base
 kind : X.env.scope.kind = .function
 glob : X.env.globals = mainGlobals
 blt : X.env.builtins = builtinsNs
 above : X.s₀.heap.objs.size <= X.env.locals
 inj : ∀ x y c, X.env.cells.lookup x = some c -> X.env.cells.lookup y = some c -> x = y
 has : ∀ x, (X.env.kindOf x = some .cell \/ X.env.kindOf x = some .free) -> ∃ c, X.env.cells.lookup x = some c
 cab : ∀ x c, X.fn x = true -> X.env.cells.lookup x = some c -> X.s₀.heap.objs.size <= c
 hd : X.calm = true -> X.A.handled = none
 frames : X.A.frames = some X.stack
 stk : X.stack = X.outer \/ (X.stack = X.env :: X.outer /\ X.env.frame = some X.env.locals)
 exf : ∀ b ∈ X.ex, b ≠ X.env.locals /\ ∀ x c, X.env.cells.lookup x = some c -> c ≠ b
 bs : ∀ b o, X.base.get? b = some o -> X.s₀.heap.get? b = some o /\ X.H₀ b = none
 bsz : X.base.objs.size <= X.s₀.heap.objs.size
 noex : ∀ b o, X.base.get? b = some o -> b ∉ X.ex
 exfs : ∀ b ∈ X.ex, b ∉ X.fs
 funs : X.s₀.heap.FunFrames X.base X.outer
 frf : ∀ b ∈ X.fs, X.H₀ b = none
structure Inv (X : Cx) (pins : List (Addr × Obj)) (σ : List (Option V)) (H : Hp) (s : Shared) : Prop where
 ok : X.Ok
 os : s.os = X.s₀.os
 bare : AllBare s.gens
 base : Un X.fs X.ex X.H₀ H X.s₀.heap s.heap
 loc : ∃ m, s.heap.Ns X.env.locals m /\ ∀ (i : Nat) (x : Str) (v : V), X.N[i]? = some x -> σ[i]? = some (some v) -> Vis X.env.scope x -> ∃ u, zF v u /\ DS X.env s.heap m x u
 cell : ∀ x c, X.env.cells.lookup x = some c -> ∃ v, s.heap.IsCell c v
 free : H X.env.locals = none
 freeC : ∀ x c, X.env.cells.lookup x = some c -> H c = none
 pin : ∀ p ∈ X.pn ++ pins, s.heap.get? p.1 = some p.2 /\ H p.1 = none /\ p.1 ≠ X.env.locals /\ p.1 ∉ X.fs /\ ∀ v, p.2.data ≠ .cell v
 hok : HOk X.prog X.w H s.heap
 len : σ.length = X.N.length
section
variable {X : Cx} {pins : List (Addr × Obj)} {σ : List (Option V)} {H H' : Hp} {s : Shared} {h' : Heap}
theorem Cx.Ok.nofr (ok : X.Ok) {b : Addr} {o : Obj} (e : X.base.get? b = some o) : b ∉ X.fs := fun hb => by
 have := (ok.funs.mem hb).1
 rw [e] at this; cases this
theorem Inv.bs (I : Inv X pins σ H s) : ∀ b o, X.base.get? b = some o -> s.heap.get? b = some o /\ H b = none := fun b o e =>
 ⟨I.base.keep b o (I.ok.bs b o e).1 (I.ok.bs b o e).2 (I.ok.nofr e) (I.ok.noex b o e), I.base.free b o (I.ok.bs b o e).1 (I.ok.bs b o e).2 (I.ok.noex b o e)⟩
theorem Inv.bk (I : Inv X pins σ H s) : ∀ b o, X.base.get? b = some o -> s.heap.get? b = some o := fun b o e => (I.bs b o e).1
theorem Inv.mod (I : Inv X pins σ H s) : Mod X.K X.mg X.base := I.ok.mod
theorem Inv.kIn (I : Inv X pins σ H s) : X.K.In s.heap := I.ok.mod.kin.keeps I.bk
theorem Inv.lt (I : Inv X pins σ H s) : X.env.locals < s.heap.objs.size := let ⟨_, hn, _⟩ := I.loc; hn.lt
theorem Inv.sz (I : Inv X pins σ H s) : X.s₀.heap.objs.size <= s.heap.objs.size := Nat.le_trans I.ok.above (Nat.le_of_lt I.lt)
theorem Inv.nofs (I : Inv X pins σ H s) {a : Addr} (h : s.heap.objs.size <= a) : a ∉ X.fs := fun hb => by
 obtain ⟨_, o, ho, _⟩ := I.ok.funs.mem hb
 exact absurd (Nat.lt_of_lt_of_le (Heap.lt_size ho) (Nat.le_trans I.sz h)) (Nat.lt_irrefl _)
theorem Inv.cne (I : Inv X pins σ H s) : ∀ x c, X.env.cells.lookup x = some c -> c ≠ X.env.locals := fun x c e z => by
 obtain ⟨v, o, ho, hd⟩ := I.cell x c e
 obtain ⟨m, ⟨o', es, ep, ho', hd', _⟩, _⟩ := I.loc
 rw [z, ho'] at ho; cases ho; rw [hd'] at hd; cases hd
theorem Inv.funs (I : Inv X pins σ H s) : s.heap.FunFrames X.base X.outer := by
 have all : ∀ (l : List Env), (∀ b ∈ frs l, b ∈ X.fs) -> X.s₀.heap.FunFrames X.base l -> s.heap.FunFrames X.base l := by
  intro l
  induction l with
  | nil => intro _ _; trivial
  | cons env r ih =>
   intro hs hl
   obtain ⟨hk, ⟨L, o, hf, hn, ho, hd⟩, hr⟩ := hl
   have hL : L ∈ X.fs := hs L (by unfold frs; rw [List.filterMap_cons, hf]; exact List.mem_cons_self)
   obtain ⟨sl, e⟩ := I.base.slot L o ho (I.ok.frf L hL) hL fun z => I.ok.exfs L z hL
   exact ⟨hk, ⟨L, _, hf, hn, e, hd⟩, ih (fun b hb => hs b (by unfold frs; rw [List.filterMap_cons, hf]; exact List.mem_cons_of_mem _ hb)) hr⟩
 exact all X.outer (fun _ hb => hb) I.ok.funs
theorem Inv.stack (I : Inv X pins σ H s) : s.heap.FunFrames X.base X.stack := by
 rcases I.ok.stk with e | ⟨e, hf⟩
 ·rw [e]; exact I.funs
 ·rw [e]
  obtain ⟨m, hn, _⟩ := I.loc
  refine .cons (by rw [I.ok.kind]; decide) hf hn ?_ I.funs
  exact Heap.get?_none_of_le (Nat.le_trans I.ok.bsz I.ok.above)
theorem Inv.stkSub (I : Inv X pins σ H s) : ∀ b ∈ frs X.stack, b ∈ X.env.locals :: X.fs := fun b hb => by
 rcases I.ok.stk with e | ⟨e, hf⟩
 ·rw [e] at hb; exact List.mem_cons_of_mem _ hb
 ·rw [e] at hb
  unfold frs at hb
  rw [List.filterMap_cons, hf] at hb
  exact hb
theorem Inv.stkFree (I : Inv X pins σ H s) : ∀ b ∈ frs X.stack, H b = none := fun b hb => by
 rcases List.mem_cons.mp (I.stkSub b hb) with e | hb
 ·rw [e]; exact I.free
 ·obtain ⟨_, o, ho, _⟩ := I.ok.funs.mem hb
  exact I.base.free b o ho (I.ok.frf b hb) fun z => I.ok.exfs b z hb
theorem Inv.step {g' : Array GenState} {t' : Nat} {d' : Drawn} {ch : List Addr} (I : Inv X pins σ H s)
  (hch : ∀ b ∈ ch, (b ∈ X.ex \/ X.s₀.heap.objs.size <= b) /\ b ≠ X.env.locals /\ (∀ x c, X.env.cells.lookup x = some c -> c ≠ b) /\ ∀ p ∈ X.pn ++ pins, p.1 ≠ b)
  (keep : ∀ b o, b ≠ X.env.locals -> b ∉ X.fs -> b ∉ ch -> s.heap.get? b = some o -> H b = none -> h'.get? b = some o)
  (slot : ∀ b o, b ≠ X.env.locals -> b ∈ X.fs -> b ∉ ch -> s.heap.get? b = some o -> H b = none -> ∃ sl, h'.get? b = some { o with slots := sl }) (free : ∀ b o, b ∉ ch -> s.heap.get? b = some o -> H b = none -> H' b = none)
  (there : ∀ b o, b ∉ ch -> s.heap.get? b = some o -> ∃ o', h'.get? b = some o')
  (tups : ∀ b xs, H b = some (.tup xs) -> H' b = some (.tup xs)) (frzs : ∀ b o u, H b = some (.frz o u) -> H' b = some (.frz o u)) (tbls : ∀ b ps, H b = some (.tbl ps) -> ∃ more, H' b = some (.tbl (ps ++ more)))
  (ns : ∀ m, s.heap.Ns X.env.locals m -> h'.Ns X.env.locals m) (hok : HOk X.prog X.w H' h') (hg : AllBare g') :
  Inv X pins σ H' { s with heap := h', gens := g', drawn := d', toks := t' } := by
 have neL : ∀ b o, X.s₀.heap.get? b = some o -> b ≠ X.env.locals := fun b o e => Nat.ne_of_lt (Nat.lt_of_lt_of_le (Heap.lt_size e) I.ok.above)
 have neC : ∀ b o, X.s₀.heap.get? b = some o -> b ∉ X.ex -> b ∉ ch := fun b o e hx hb => by
  rcases (hch b hb).1 with z | z
  ·exact hx z
  ·exact absurd (Nat.lt_of_lt_of_le (Heap.lt_size e) z) (Nat.lt_irrefl _)
 have cellK : ∀ x c, X.env.cells.lookup x = some c -> ∀ v, s.heap.IsCell c v -> h'.IsCell c v := fun x c e v ⟨o, ho, hd⟩ => by
  have nch : c ∉ ch := fun z => (hch c z).2.2.1 x c e rfl
  by_cases hc : c ∈ X.fs
  ·obtain ⟨sl, q⟩ := slot c o (I.cne x c e) hc nch ho (I.freeC x c e)
   exact ⟨_, q, hd⟩
  ·exact ⟨o, keep c o (I.cne x c e) hc nch ho (I.freeC x c e), hd⟩
 refine ⟨I.ok, I.os, hg, ⟨fun b o e n hb hx => ?_, fun b o e n hb hx => ?_, fun b o e n hx => ?_, fun b o e hx => ?_, fun b xs e => tups b xs (I.base.tups b xs e), fun b o xs e => frzs b o xs (I.base.frzs b o xs e), fun b ps e => ?_⟩, ?_, fun x c e => ?_, ?_, fun x c e => ?_, fun p hp => ?_, hok, I.len⟩
 ·exact keep b o (neL b o e) hb (neC b o e hx) (I.base.keep b o e n hb hx) (I.base.free b o e n hx)
 ·obtain ⟨sl, e1⟩ := I.base.slot b o e n hb hx
  obtain ⟨sl', e2⟩ := slot b _ (neL b o e) hb (neC b o e hx) e1 (I.base.free b o e n hx)
  exact ⟨sl', e2⟩
 ·obtain ⟨o', e1⟩ := I.base.there b o e hx
  exact free b o' (neC b o e hx) e1 (I.base.free b o e n hx)
 ·obtain ⟨o', e1⟩ := I.base.there b o e hx
  exact there b o' (neC b o e hx) e1
 ·obtain ⟨m1, e1⟩ := I.base.tbls b ps e
  obtain ⟨m2, e2⟩ := tbls b _ e1
  exact ⟨m1 ++ m2, by rw [e2, Array.append_assoc]⟩
 ·obtain ⟨m, hn, hl⟩ := I.loc
  refine ⟨m, ns m hn, fun i x v e1 e2 e3 => ?_⟩
  obtain ⟨u, r, l⟩ := hl i x v e1 e2 e3
  refine ⟨u, r, ?_⟩
  rcases l with l | ⟨k, c, e, z⟩
  ·exact .inl l
  ·exact .inr ⟨k, c, e, cellK x c e _ z⟩
 ·obtain ⟨v, z⟩ := I.cell x c e
  exact ⟨v, cellK x c e v z⟩
 ·obtain ⟨m, ⟨o, _, _, ho, _⟩, _⟩ := I.loc
  exact free _ o (fun z => (hch _ z).2.1 rfl) ho I.free
 ·obtain ⟨v, o, ho, hd⟩ := I.cell x c e
  exact free c o (fun z => (hch c z).2.2.1 x c e rfl) ho (I.freeC x c e)
 ·obtain ⟨e, n, ne, nf, d⟩ := I.pin p hp
  have nch : p.1 ∉ ch := fun z => (hch p.1 z).2.2.2 p hp rfl
  exact ⟨keep p.1 p.2 ne nf nch e n, free p.1 p.2 nch e n, ne, nf, d⟩
theorem Inv.un {t' : Nat} (I : Inv X pins σ H s) (u : Un X.fs [] H H' s.heap h') (hok : HOk X.prog X.w H' h') : Inv X pins σ H' { s with heap := h', toks := t' } := by
 obtain ⟨m, ⟨o, es, ep, ho, r⟩, _⟩ := id I.loc
 obtain ⟨sl, hL⟩ := u.any ho I.free (by simp)
 exact I.step (g' := s.gens) (d' := s.drawn) (ch := []) (fun _ z => nomatch z) (fun b o _ hb _ e n => u.keep b o e n hb (by simp)) (fun b o _ hb _ e n => u.slot b o e n hb (by simp)) (fun b o _ e n => u.free b o e n (by simp)) (fun b o _ e => u.there b o e (by simp)) u.tups u.frzs u.tbls (fun m' hm => by
  obtain ⟨o', es', ep', ho', r'⟩ := hm
  rw [ho] at ho'; cases ho'
  exact ⟨_, es', ep', hL, r'⟩) hok I.bare
theorem Inv.call {g' : Array GenState} {t' : Nat} {d' : Drawn} {ch : List Addr} (I : Inv X pins σ H s) (u : Un (frs X.stack) ch H H' s.heap h') (hok : HOk X.prog X.w H' h') (hg : AllBare g')
  (hch : ∀ b ∈ ch, (b ∈ X.ex \/ X.s₀.heap.objs.size <= b) /\ b ≠ X.env.locals /\ (∀ x c, X.env.cells.lookup x = some c -> c ≠ b) /\ ∀ p ∈ X.pn ++ pins, p.1 ≠ b) :
  Inv X pins σ H' { s with heap := h', gens := g', drawn := d', toks := t' } := by
 obtain ⟨m, ⟨o, es, ep, ho, r⟩, _⟩ := id I.loc
 obtain ⟨sl, hL⟩ := u.any ho I.free fun z => (hch _ z).2.1 rfl
 exact I.step (ch := ch) hch (fun b o hL hb hc e n => u.keep b o e n (fun z => (List.mem_cons.mp (I.stkSub b z)).elim hL hb) hc) (fun b o _ _ hc e n => u.any e n hc) (fun b o hc e n => u.free b o e n hc) (fun b o hc e => u.there b o e hc) u.tups u.frzs u.tbls (fun m' hm => by
  obtain ⟨o', es', ep', ho', r'⟩ := hm
  rw [ho] at ho'; cases ho'
  exact ⟨_, es', ep', hL, r'⟩) hok hg
theorem Inv.turned {t' : Nat} {it : Addr} (I : Inv X pins σ H s) (k : ∀ b o, b ≠ it -> s.heap.get? b = some o -> h'.get? b = some o) (hn : H it = none) (hL : it ≠ X.env.locals)
  (h1 : it ∈ X.ex \/ X.s₀.heap.objs.size <= it) (h2 : ∀ x c, X.env.cells.lookup x = some c -> c ≠ it) (h3 : ∀ p ∈ X.pn ++ pins, p.1 ≠ it) : Inv X pins σ H { s with heap := h', toks := t' } := by
 have nit : ∀ b u, H b = some u -> b ≠ it := fun b u e z => by rw [z, hn] at e; cases e
 refine I.step (g' := s.gens) (d' := s.drawn) (ch := [it]) (fun b hb => ?_) (fun b o _ _ hc e _ => k b o (fun z => hc (by simp [z])) e) (fun b o _ _ hc e _ => ⟨o.slots, k b o (fun z => hc (by simp [z])) e⟩) (fun _ _ _ _ n => n)
  (fun b o hc e => ⟨o, k b o (fun z => hc (by simp [z])) e⟩) (fun _ _ e => e) (fun _ _ _ e => e) (fun b ps e => ⟨#[], by rw [e]; simp⟩) (fun m hm => ?_) (fun b u e => ?_) I.bare
 ·have e : b = it := by simpa using hb
  subst e
  exact ⟨h1, hL, h2, h3⟩
 ·obtain ⟨o, es, ep, ho, r⟩ := hm
  exact ⟨o, es, ep, k _ o (Ne.symm hL) ho, r⟩
 ·refine (I.hok b u e).stay (fun c v hc q => k c v ?_ q) (fun _ q => q) fun _ _ q => q
  rcases hc with z | z
  ·rw [z]; exact nit b u e
  ·exact nit c _ z
theorem Inv.tok (I : Inv X pins σ H s) (t : Nat) : Inv X pins σ H { s with toks := t } := I.un (h' := s.heap) (t' := t) Un.refl I.hok
theorem Inv.kept {t' : Nat} (I : Inv X pins σ H s) (k : ∀ b u, s.heap.get? b = some u -> h'.get? b = some u) : Inv X pins σ H { s with heap := h', toks := t' } := I.un (Un.kept k) (I.hok.kept k)
theorem Inv.laid {a : Addr} {o : HO} {t' : Nat} (I : Inv X pins σ H s) (k : ∀ b u, s.heap.get? b = some u -> h'.get? b = some u) (hp : s.heap.objs.size <= a) (new : zT X.prog X.w (upd H a o) h' a o) :
  Inv X pins σ (upd H a o) { s with heap := h', toks := t' } := I.un (Un.laid k hp (I.hok.fresh hp)) (I.hok.laid k hp new)
theorem Inv.write {x e : Addr} {o : HO} {t' : Nat} (I : Inv X pins σ H s) (mu : Mut (H x)) (he : e = x \/ H e = some (.own x)) (k : ∀ b u, b ≠ e -> s.heap.get? b = some u -> h'.get? b = some u) (heo : ∃ u, h'.get? e = some u)
  (new : zT X.prog X.w (upd H x o) h' x o) : Inv X pins σ (upd H x o) { s with heap := h', toks := t' } := I.un (Un.write mu he k heo) (I.hok.write mu he k heo new)
theorem Inv.pins_of {pins' : List (Addr × Obj)} (I : Inv X pins σ H s) (h : ∀ p ∈ pins', s.heap.get? p.1 = some p.2 /\ H p.1 = none /\ p.1 ≠ X.env.locals /\ p.1 ∉ X.fs /\ ∀ v, p.2.data ≠ .cell v) : Inv X pins' σ H s :=
 ⟨I.ok, I.os, I.bare, I.base, I.loc, I.cell, I.free, I.freeC, fun p hp => (List.mem_append.mp hp).elim (fun z => I.pin p (List.mem_append_left _ z)) (h p), I.hok, I.len⟩
theorem Zv {N : List Str} (hN : N.Nodup) {i j : Nat} {x : Str} (a : N[i]? = some x) (b : N[j]? = some x) : i = j := by
 obtain ⟨h1, e1⟩ := List.getElem?_eq_some_iff.mp a
 obtain ⟨h2, e2⟩ := List.getElem?_eq_some_iff.mp b
 exact (List.getElem_inj hN).mp (e1.trans e2.symm)
theorem vg {M : Model} {A : Around} {E : Value -> Shared -> Prop} {i : Nat} {x : Str} {v : V} {u : Value} {Q : Unit -> Shared -> Prop} (I : Inv X pins σ H s) (hN : X.N.Nodup) (hi : X.N[i]? = some x) (hx : Loc X.env.scope x) (r : zF v u)
    (h : ∀ s', Inv X pins (σ.set i (some v)) H s' -> (∃ a, Heap.SameBut a s.heap s'.heap /\ (a = X.env.locals \/ X.env.cells.lookup x = some a)) -> Q () s') (hf : X.fn x = true \/ X.env.scope.names.lookup x = some .local := by first | exact .inl rfl | exact .inr rfl | assumption) : wpAny M A (storeName X.env x u) Q E s := by
  obtain ⟨m, hn, hl⟩ := id I.loc
  have hcls : (X.env.scope.kind == .class || (X.env.scope.kind == .module && X.env.locals != X.env.globals)) = false := by rw [I.ok.kind]; rfl
  have hiσ : i < σ.length := by rw [I.len]; exact (List.getElem?_eq_some_iff.mp hi).1
  have cne := I.cne
  have tracked : ∀ {a : Addr} {h' : Heap}, (∃ o, s.heap.get? a = some o /\ H a = none) -> Heap.SameBut a s.heap h' -> HOk X.prog X.w H h' := fun {a h'} ha hs b ob e => by
    obtain ⟨_, _, hfree⟩ := ha
    refine (I.hok b ob e).stay (fun c w' hc q => (hs.2 c ?_).trans q) (fun _ q => q) fun _ _ q => q
    rintro rfl
    rcases hc with rfl | hc
    · rw [hfree] at e; cases e
    · rw [hfree] at hc; cases hc
  rcases hx with hk | hk
  · refine wpAny_storeName_local hk hn (fun h' hn' hs => ?_) hcls
    obtain ⟨oL, _, _, hoL, _⟩ := id hn
    refine h _ ⟨I.ok, I.os, I.bare, ⟨fun b o e n hb hx => ?_, fun b o e n hb hx => ?_, I.base.free, fun b o e hx => ?_, I.base.tups, I.base.frzs, I.base.tbls⟩, ⟨_, hn', fun j y v' e1 e2 e3 => ?_⟩, fun y c e => ?_, I.free, I.freeC, fun p hp => ?_, tracked ⟨oL, hoL, I.free⟩ hs, by simpa using I.len⟩ ⟨_, hs, .inl rfl⟩
    · exact (hs.2 b (Nat.ne_of_lt (Nat.lt_of_lt_of_le (Heap.lt_size e) I.ok.above))).trans (I.base.keep b o e n hb hx)
    · obtain ⟨sl, e1⟩ := I.base.slot b o e n hb hx
      exact ⟨sl, (hs.2 b (Nat.ne_of_lt (Nat.lt_of_lt_of_le (Heap.lt_size e) I.ok.above))).trans e1⟩
    · obtain ⟨o', e1⟩ := I.base.there b o e hx
      exact ⟨o', (hs.2 b (Nat.ne_of_lt (Nat.lt_of_lt_of_le (Heap.lt_size e) I.ok.above))).trans e1⟩
    · by_cases hj : j = i
      · subst hj
        rw [hi] at e1; cases e1
        rw [List.getElem?_set_self hiσ] at e2
        cases e2
        exact ⟨u, r, .inl ⟨hk, by simp⟩⟩
      · rw [List.getElem?_set_ne (Ne.symm hj)] at e2
        obtain ⟨u', r', q⟩ := hl j y v' e1 e2 e3
        refine ⟨u', r', ?_⟩
        rcases q with ⟨k, e⟩ | ⟨k, c, e, z⟩
        · refine .inl ⟨k, ?_⟩
          have : y ≠ x := fun e => hj (Zv hN e1 (e ▸ hi))
          simp [this, e]
        · exact .inr ⟨k, c, e, z.sameBut hs (cne y c e)⟩
    · obtain ⟨w', z⟩ := I.cell y c e
      exact ⟨w', z.sameBut hs (cne y c e)⟩
    · obtain ⟨e, n, ne, nf, d⟩ := I.pin p hp
      exact ⟨(hs.2 p.1 ne).trans e, n, ne, nf, d⟩
  · have hfn : X.fn x = true := by
      rcases hf with z | z
      · exact z
      · rw [z] at hk; cases hk
    obtain ⟨c, hc⟩ := I.ok.has x (.inl hk)
    obtain ⟨w', z⟩ := I.cell x c hc
    refine wpAny_storeName_cell I.ok.kind hk hc z (fun h' hc' hs => ?_)
    obtain ⟨oc, hoc, hocd⟩ := id z
    refine h { s with heap := h' } ⟨I.ok, I.os, I.bare, ⟨fun b o e n hb hx => ?_, fun b o e n hb hx => ?_, I.base.free, fun b o e hx => ?_, I.base.tups, I.base.frzs, I.base.tbls⟩, ⟨m, hn.sameBut hs (Ne.symm (cne x c hc)), fun j y v' e1 e2 e3 => ?_⟩, fun y c' e => ?_, I.free, I.freeC, fun p hp => ?_, tracked ⟨oc, hoc, I.freeC x c hc⟩ hs, by simpa using I.len⟩ ⟨c, hs, .inr hc⟩
    · exact (hs.2 b (Nat.ne_of_lt (Nat.lt_of_lt_of_le (Heap.lt_size e) (I.ok.cab x c hfn hc)))).trans (I.base.keep b o e n hb hx)
    · obtain ⟨sl, e1⟩ := I.base.slot b o e n hb hx
      exact ⟨sl, (hs.2 b (Nat.ne_of_lt (Nat.lt_of_lt_of_le (Heap.lt_size e) (I.ok.cab x c hfn hc)))).trans e1⟩
    · obtain ⟨o', e1⟩ := I.base.there b o e hx
      exact ⟨o', (hs.2 b (Nat.ne_of_lt (Nat.lt_of_lt_of_le (Heap.lt_size e) (I.ok.cab x c hfn hc)))).trans e1⟩
    · by_cases hj : j = i
      · subst hj
        rw [hi] at e1; cases e1
        rw [List.getElem?_set_self hiσ] at e2
        cases e2
        exact ⟨u, r, .inr ⟨.inl hk, c, hc, hc'⟩⟩
      · rw [List.getElem?_set_ne (Ne.symm hj)] at e2
        obtain ⟨u', r', q⟩ := hl j y v' e1 e2 e3
        refine ⟨u', r', ?_⟩
        rcases q with q | ⟨k, c', e, z'⟩
        · exact .inl q
        · refine .inr ⟨k, c', e, z'.sameBut hs ?_⟩
          rintro rfl
          exact hj (Zv hN e1 (I.ok.inj _ _ _ e hc ▸ hi))
    · by_cases hcc : c' = c
      · subst hcc; exact ⟨_, hc'⟩
      · obtain ⟨w2, z2⟩ := I.cell y c' e
        exact ⟨w2, z2.sameBut hs hcc⟩
    · obtain ⟨e, n, ne, nf, d⟩ := I.pin p hp
      refine ⟨(hs.2 p.1 ?_).trans e, n, ne, nf, d⟩
      intro q
      rw [q, hoc] at e
      have q' : oc = p.2 := Option.some.inj e
      exact d w' (by rw [<- q']; exact hocd)
theorem jU {M : Model} {A : Around} {E : Value -> Shared -> Prop} {i : Nat} {x : Str} {v : V} {u : Value} {Q : Unit -> Shared -> Prop} (I : Inv X pins σ H s) (hN : X.N.Nodup) (hi : X.N[i]? = some x) (hx : Loc X.env.scope x) (r : zF v u)
  (h : ∀ s', Inv X pins (σ.set i (some v)) H s' -> Q () s') (hf : X.fn x = true \/ X.env.scope.names.lookup x = some .local := by first | exact .inl rfl | exact .inr rfl | assumption) : wpAny M A (storeName X.env x u) Q E s :=
 vg I hN hi hx r (fun s' I' _ => h s' I') hf
theorem Inv.call' {s' : Shared} {ch : List Addr} (I : Inv X pins σ H s) (ho : s'.os = s.os) (u : Un (frs X.stack) ch H H' s.heap s'.heap) (hok : HOk X.prog X.w H' s'.heap) (hg : AllBare s'.gens)
  (hch : ∀ b ∈ ch, (b ∈ X.ex \/ X.s₀.heap.objs.size <= b) /\ b ≠ X.env.locals /\ (∀ x c, X.env.cells.lookup x = some c -> c ≠ b) /\ ∀ p ∈ X.pn ++ pins, p.1 ≠ b) : Inv X pins σ H' s' := by
 obtain ⟨h', g', d', t', o'⟩ := s'
 have e : o' = s.os := ho
 subst e
 exact I.call (g' := g') (t' := t') (d' := d') u hok hg hch
end
abbrev XK := Value -> Option Addr -> Hp -> Prop
abbrev St := List (Option V)
abbrev VK := V -> Hp -> Prop
abbrev TE := St -> Hp -> VK -> Prop
abbrev TT := St -> Hp -> (Bool -> Hp -> Prop) -> Prop
abbrev TA := St -> Hp -> (List V -> Hp -> Prop) -> Prop
structure jP where
 nx : St -> Hp -> Prop
 rt : VK
 bk : St -> Hp -> Prop := fun _ _ => False
 ct : St -> Hp -> Prop := fun _ _ => False
abbrev TS := jP -> St -> Hp -> Prop
def EP (X : Cx) (pins : List (Addr × Obj)) (σ : St) (Q : VK) (u : Value) (s' : Shared) : Prop := ∃ v H', Inv X pins σ H' s' /\ zF v u /\ Q v H'
def TP (X : Cx) (pins : List (Addr × Obj)) (σ : St) (Q : Bool -> Hp -> Prop) (b : Bool) (s' : Shared) : Prop := ∃ H', Inv X pins σ H' s' /\ Q b H'
def AP (X : Cx) (pins : List (Addr × Obj)) (σ : St) (Q : List V -> Hp -> Prop) (us : List Value) (s' : Shared) : Prop := ∃ vs H', Inv X pins σ H' s' /\ zC vs us /\ Q vs H'
def SP (X : Cx) (pins : List (Addr × Obj)) (D : jP) (f : Flow) (s' : Shared) : Prop :=
 match f with
 | .next => ∃ σ' H', Inv X pins σ' H' s' /\ D.nx σ' H'
 | .brk => ∃ σ' H', Inv X pins σ' H' s' /\ D.bk σ' H'
 | .cont => ∃ σ' H', Inv X pins σ' H' s' /\ D.ct σ' H'
 | .ret u => ∃ v σ' H', Inv X pins σ' H' s' /\ zF v u /\ D.rt v H'
def PE (X : Cx) (e : Expr) (t : TE) : Prop :=
 ∀ (pins : List (Addr × Obj)) (s : Shared) (σ : St) (H : Hp) (Q : VK), Inv X pins σ H s -> t σ H Q -> wpAny (model X.prog X.w) X.A (eval e X.env) (EP X pins σ Q) X.xe s
def PT (X : Cx) (e : Expr) (t : TT) : Prop :=
 ∀ (pins : List (Addr × Obj)) (s : Shared) (σ : St) (H : Hp) (Q : Bool -> Hp -> Prop), Inv X pins σ H s -> t σ H Q -> wpAny (model X.prog X.w) X.A (isTrue e X.env (eval e X.env)) (TP X pins σ Q) X.xe s
def PW (X : Cx) (e : Expr) (t : TT) : Prop :=
 ∀ (whole : Sem Value) (pins : List (Addr × Obj)) (s : Shared) (σ : St) (H : Hp) (Q : Bool -> Hp -> Prop), Inv X pins σ H s -> t σ H Q -> wpAny (model X.prog X.w) X.A (isTrue e X.env whole) (TP X pins σ Q) X.xe s
theorem PW.pt {X : Cx} {e : Expr} {t : TT} (h : PW X e t) : PT X e t := h _
def PA (X : Cx) (es : List Expr) (t : TA) : Prop :=
 ∀ (pos : Pos) (pins : List (Addr × Obj)) (s : Shared) (σ : St) (H : Hp) (Q : List V -> Hp -> Prop), Inv X pins σ H s -> t σ H Q -> wpAny (model X.prog X.w) X.A (spliced (backTo pos (starEach es X.env))) (AP X pins σ Q) X.xe s
def PS (X : Cx) (st : Stmt) (t : TS) : Prop :=
 ∀ (pins : List (Addr × Obj)) (s : Shared) (σ : St) (H : Hp) (D : jP), Inv X pins σ H s -> t D σ H -> wpAny (model X.prog X.w) X.A (exec st X.env) (SP X pins D) X.xe s
def PSs (X : Cx) (st : List Stmt) (t : TS) : Prop :=
 ∀ (pins : List (Addr × Obj)) (s : Shared) (σ : St) (H : Hp) (D : jP), Inv X pins σ H s -> t D σ H -> wpAny (model X.prog X.w) X.A (execs st X.env) (SP X pins D) X.xe s
theorem thn {α : Type} {t : Sem α} {Q Q' : α -> Shared -> Prop} {M : Model} {A : Around} {E : Value -> Shared -> Prop} {s : Shared} (h : wpAny M A t Q E s) (hQ : ∀ a s, Q a s -> Q' a s) : wpAny M A t Q' E s := wpAny_mono h hQ fun _ _ x => x
end L2
namespace L2
open PySem PySem.Spec PyProof.Rows
section
variable {X : Cx}
theorem bin {a b : Expr} {ta tb : TE} (ha : PE X a ta) (hb : PE X b tb) {pins : List (Addr × Obj)} {s : Shared} {σ : St} {H : Hp} {R : V -> V -> Hp -> Prop} (I : Inv X pins σ H s) (h : ta σ H fun x H1 => tb σ H1 fun y H2 => R x y H2)
  {α : Type} {Q : α -> Shared -> Prop} {f : Value -> Value -> Sem α}
  (hf : ∀ v u s2 x y H2, Inv X pins σ H2 s2 -> zF x v -> zF y u -> R x y H2 -> wpAny (model X.prog X.w) X.A (f v u) Q X.xe s2) :
  wpAny (model X.prog X.w) X.A (eval a X.env) (fun v s₁ => wpAny (model X.prog X.w) X.A (eval b X.env) (fun u s₂ => wpAny (model X.prog X.w) X.A (f v u) Q X.xe s₂) X.xe s₁) X.xe s := by
 refine thn (ha pins s σ H _ I h) fun v s1 ⟨x, H1, I1, r1, q1⟩ => ?_
 refine thn (hb pins s1 σ H1 _ I1 q1) fun u s2 ⟨y, H2, I2, r2, q2⟩ => ?_
 exact hf v u s2 x y H2 I2 r1 r2 q2
def v8 (i : Nat) : TE := fun σ H Q => ∃ v, σ[i]? = some (some v) /\ Q v H
def tC (v : V) : TE := fun _ H Q => Q v H
theorem Ar {i : Nat} {x : Str} {pos : Pos} (hN : X.N[i]? = some x) (hv : Vis X.env.scope x) (hd : (x == ("__debug__" : Str)) = false := by decide) (hcd : (x == ("__classdict__" : Str)) = false := by decide) : PE X (.Name x pos) (v8 i) := by
 intro pins s σ H Q I h
 obtain ⟨v, e, h⟩ := h
 obtain ⟨m, hn, hl⟩ := I.loc
 obtain ⟨u, r, l⟩ := hl i x v hN e hv
 have fin : EP X pins σ Q u s := ⟨v, H, I, r, h⟩
 rcases l with ⟨hk, hm⟩ | ⟨hk, c, hc, hcell⟩
 ·exact wpAny_Name (wpAny_loadName_local I.ok.kind hk hn hm fin) hd
 ·rcases hk with hk | hk
  ·exact wpAny_Name (wpAny_loadName_cell I.ok.kind hk hc hcell fin) hd
  ·exact wpAny_Name (wpAny_loadName_free I.ok.kind hk hc hcell fin hcd) hd
theorem ze {i j pos} : PE X (.Constant (.int i) j pos) (tC (.int i)) := fun _ _ _ H _ I h => wpAny_Constant_int ⟨.int i, H, I.tok _, ⟨_, rfl⟩, h⟩
theorem qp {b j pos} : PE X (.Constant (.bool b) j pos) (tC (.bl b)) := fun _ _ _ H _ I h => Constant_bool ⟨.bl b, H, I, rfl, h⟩
def Gl (X : Cx) (x : Str) : Prop := X.env.kindOf x = some .globalImplicit
theorem Vd {E : Value -> Shared -> Prop} {pins : List (Addr × Obj)} {s : Shared} {σ : St} {H : Hp} {x : Str} {u : Value} {pos : Pos} {Q : Value -> Shared -> Prop} (I : Inv X pins σ H s) (hg : Gl X x) (hm : X.mg x = some u) (h : Q u s)
  (hd : (x == ("__debug__" : Str)) = false := by decide) : wpAny (model X.prog X.w) X.A (eval (.Name x pos) X.env) Q E s :=
 Calls.Name_function_global I.ok.kind hg (Calls.loadGlobal_global (by rw [I.ok.glob]; exact I.mod.glob.keeps I.bk) hm h) hd
theorem j0 {E : Value -> Shared -> Prop} {pins : List (Addr × Obj)} {s : Shared} {σ : St} {H : Hp} {x : Str} {u : Value} {pos : Pos} {Q : Value -> Shared -> Prop} (I : Inv X pins σ H s) (hg : Gl X x) (hm : X.mg x = none) (hv : bootBuiltins x = some u) (h : Q u s)
  (hn : x ≠ "__name__" := by decide) (hd : (x == ("__debug__" : Str)) = false := by decide) : wpAny (model X.prog X.w) X.A (eval (.Name x pos) X.env) Q E s := by
 obtain ⟨mb, h1, h2⟩ := I.mod.blt
 exact Calls.Name_function_global I.ok.kind hg (Calls.loadGlobal_builtin (by rw [I.ok.glob]; exact I.mod.glob.keeps I.bk) hm (by rw [I.ok.blt]; exact h1.keeps I.bk) ((h2 x hn).trans hv) h) hd
theorem kf {x : Str} {v : V} {u : Value} {pos : Pos} (hg : Gl X x) (hm : X.mg x = none) (hv : bootBuiltins x = some u) (r : zF v u) (hn : x ≠ "__name__" := by decide) (hd : (x == ("__debug__" : Str)) = false := by decide) : PE X (.Name x pos) (tC v) :=
 fun _ _ _ H _ I h => j0 I hg hm hv ⟨v, H, I, r, h⟩ hn hd
variable {a b : Expr} {ta tb : TE} {pos : Pos}
def PC (X : Cx) (op : CmpOp) (a b : Expr) (t : TE) : Prop :=
 ∀ (pins : List (Addr × Obj)) (s : Shared) (σ : St) (H : Hp) (Q : VK), Inv X pins σ H s -> t σ H Q ->
  wpAny (model X.prog X.w) X.A (eval a X.env) (fun v s₁ => wpAny (model X.prog X.w) X.A (eval b X.env) (fun u s₂ => wpAny (model X.prog X.w) X.A (compareOp op v u) (EP X pins σ Q) X.xe s₂) X.xe s₁) X.xe s
theorem K3 (b : Expr) {op : CmpOp} (h : op ≠ .In) (h2 : op ≠ .NotIn) : behindInMarks op b = false := by
 have e1 : (op == CmpOp.In) = false := by cases op <;> first | rfl | exact absurd rfl h
 have e2 : (op == CmpOp.NotIn) = false := by cases op <;> first | rfl | exact absurd rfl h2
 cases b <;> simp [behindInMarks, e1, e2]
def tB (t : TE) : TT := fun σ H Q => t σ H fun x H1 => ∃ c, x = .bl c /\ Q c H1
theorem DR {op : CmpOp} {t : TE} (h : PC X op a b t) (h1 : behindInMarks op b = false := by first | exact K3 _ (by decide) (by decide) | rfl) : PT X (.Compare a [op] [b] pos) (tB t) := by
 intro pins s σ H Q I hw
 refine wpAny_isTrue_Compare1 (thn (h pins s σ H _ I hw) fun v s1 h1 => thn h1 fun u s2 h2 => thn h2 fun c s3 ⟨x, H1, I1, r1, q1⟩ => ?_) h1
 obtain ⟨d, rfl, q⟩ := q1
 cases r1
 exact wpAny_truthy_bool ⟨H1, I1, q⟩
theorem qh {e : Expr} {t : TE} (h : PE X e t) (he : ∀ whole, isTrue e X.env whole = (do let v <- whole; standAt e.pos; holding [v] (truthy v)) := by intro _; rfl) : PT X e (tB t) := by
 intro pins s σ H Q I hw
 refine isTrue_plain (thn (h pins s σ H _ I hw) fun v s1 ⟨x, H1, I1, r1, q1⟩ => ?_) (he _)
 obtain ⟨d, rfl, q⟩ := q1
 cases r1
 exact wpAny_truthy_bool ⟨H1, I1, q⟩
variable {tA tB' : TT} {ku : List Expr}
def Dw (t u : TT) : TT := fun σ H Q => t σ H fun c H1 => if c = true then u σ H1 Q else Q false H1
def tOr (t u : TT) : TT := fun σ H Q => t σ H fun c H1 => if c = true then Q true H1 else u σ H1 Q
def An (t : TT) : TT := fun σ H Q => t σ H fun c H1 => Q (!c) H1
theorem Js (ha : PT X a tA) : PW X (.BoolOp .And [a] pos) tA := by
 intro wh pins s σ H Q I h
 refine isTrue_and (thn (ha pins s σ H Q I h) fun c s1 e => ?_)
 cases c with
 | true => exact isTrue_and_nil e
 | false => exact e
theorem jz (ha : PT X a tA) : PW X (.BoolOp .Or [a] pos) tA := by
 intro wh pins s σ H Q I h
 refine isTrue_or (thn (ha pins s σ H Q I h) fun c s1 e => ?_)
 cases c with
 | false => exact isTrue_or_nil e
 | true => exact e
theorem YK (ha : PT X a tA) (hb : PW X (.BoolOp .And (b :: ku) pos) tB') : PW X (.BoolOp .And (a :: b :: ku) pos) (Dw tA tB') := by
 intro wh pins s σ H Q I h
 refine isTrue_and (thn (ha pins s σ H _ I h) fun c s1 ⟨H1, I1, q1⟩ => ?_)
 cases c with
 | true => exact hb wh pins s1 σ H1 Q I1 q1
 | false => exact ⟨H1, I1, q1⟩
theorem jR (ha : PT X a tA) (hb : PW X (.BoolOp .Or (b :: ku) pos) tB') : PW X (.BoolOp .Or (a :: b :: ku) pos) (tOr tA tB') := by
 intro wh pins s σ H Q I h
 refine isTrue_or (thn (ha pins s σ H _ I h) fun c s1 ⟨H1, I1, q1⟩ => ?_)
 cases c with
 | true => exact ⟨H1, I1, q1⟩
 | false => exact hb wh pins s1 σ H1 Q I1 q1
theorem qG (ha : PT X a tA) : PT X (.UnaryOp .Not a pos) (An tA) := by
 intro pins s σ H Q I h
 exact isTrue_not (ha pins s σ H (fun c H1 => Q (!c) H1) I h)
def KI (ta tb : TE) : TE := fun σ H Q => ta σ H fun x H1 => ∃ c, x = .bl c /\ if c = true then tb σ H1 Q else Q (.bl false) H1
theorem KF {op} {t : TE} (h : PE X a t) : PE X (.BoolOp op [a] pos) t := fun pins s σ H Q I hw => BoolOp_one (h pins s σ H Q I hw)
theorem XM (ha : PE X a ta) (hb : PE X (.BoolOp .And (b :: ku) pos) tb) : PE X (.BoolOp .And (a :: b :: ku) pos) (KI ta tb) := by
 intro pins s σ H Q I h
 refine BoolOp_and (thn (ha pins s σ H _ I h) fun v s1 ⟨x, H1, I1, r1, q1⟩ => ?_)
 obtain ⟨c, rfl, q1⟩ := q1
 cases r1
 refine wpAny_truthy_bool ?_
 cases c with
 | true => exact hb pins s1 σ H1 Q I1 q1
 | false => exact ⟨.bl false, H1, I1, rfl, q1⟩
end
end L2
namespace L2
open PySem PySem.Spec PyProof.Rows
def SqL (K : PySem.W.Frag) (H : Hp) (a : Addr) (xs : List V) : Prop :=
 Rd H a (.lst xs) \/
  ∃ (o : Obj) (its : Array Value) (n : Nat), K.lookup a = some o /\ o.cls = .type "list" /\ o.dict = none /\ o.data = .seq its n /\ its.size <= sizeLine /\ zC xs its.toList
def SqT (K : PySem.W.Frag) (H : Hp) (a : Addr) (xs : List V) : Prop :=
 Rd H a (.tup xs) \/
  ∃ (o : Obj) (its : Array Value) (n : Nat), K.lookup a = some o /\ o.cls = .type "tuple" /\ o.data = .seq its n /\ its.size <= sizeLine /\ zC xs its.toList
def DT : Value -> Option V
 | .none => some .non
 | .bool b => some (.bl b)
 | .int i _ => some (.int i)
 | .str x _ => some (.str x)
 | .bytes b _ => some (.byt b)
 | .float b _ => some (.flt b)
 | .ref a => some (.ref a)
 | .type n => some (.ty n)
 | _ => none
theorem zF.abs {x : V} {u : Value} (r : zF x u) : DT u = some x := by
 cases x with
 | non => cases r; rfl
 | bl _ => cases r; rfl
 | int _ => obtain ⟨t, rfl⟩ := r; rfl
 | str _ => obtain ⟨t, rfl⟩ := r; rfl
 | byt _ => obtain ⟨t, rfl⟩ := r; rfl
 | flt _ => obtain ⟨t, rfl⟩ := r; rfl
 | ref _ => cases r; rfl
 | ty _ => cases r; rfl
theorem zF.inj {x y : V} {u : Value} (r : zF x u) (q : zF y u) : x = y := Option.some.inj (r.abs.symm.trans q.abs)
theorem zC.inj : ∀ {xs ys : List V} {us : List Value}, zC xs us -> zC ys us -> xs = ys
 | _, _, _, .nil, .nil => rfl
 | _, _, _, .cons r t, .cons r' t' => by rw [r.inj r', zC.inj t t']
section
variable {X : Cx} {pins : List (Addr × Obj)} {σ : St} {H : Hp} {s : Shared} {a : Addr} {xs ys : List V}
theorem SqL.of {K : PySem.W.Frag} (h : H a = some (.lst xs)) : SqL K H a xs := .inl (.inl h)
theorem SqT.of {K : PySem.W.Frag} (h : H a = some (.tup xs)) : SqT K H a xs := .inl (.inl h)
theorem Inv.list (I : Inv X pins σ H s) (h : SqL X.K H a xs) : ∃ its : List Value, zC xs its /\ PlainL s.heap a its.toArray /\ xs.length <= sizeLine := by
 rcases h with h | ⟨o, its, n, hk, hc, hd, hs, hz, r⟩
 ·obtain ⟨z, its, n, r, e⟩ := h.ok I.hok
  exact ⟨its, r, ⟨_, n, e, rfl, rfl, rfl⟩, z⟩
 ·refine ⟨its.toList, r, ⟨o, n, I.kIn a o hk, hc, hd, by simpa using hs⟩, ?_⟩
  have e := r.length
  simp only [Array.length_toList] at e
  omega
theorem Inv.tuple (I : Inv X pins σ H s) (h : SqT X.K H a xs) : ∃ its : List Value, zC xs its /\ IsTup s.heap a its.toArray /\ xs.length <= sizeLine := by
 rcases h with h | ⟨o, its, n, hk, hc, hs, hz, r⟩
 ·obtain ⟨z, its, r, p⟩ := h.ok I.hok
  exact ⟨its, r, p.is, z⟩
 ·refine ⟨its.toList, r, ⟨o, I.kIn a o hk, hc, n, by simpa using hs⟩, ?_⟩
  have e := r.length
  simp only [Array.length_toList] at e
  omega
theorem Inv.list_inj (I : Inv X pins σ H s) (h : SqL X.K H a xs) (h' : SqL X.K H a ys) : xs = ys := by
 obtain ⟨its, r, ⟨o, n, e, _, _, d⟩, _⟩ := I.list h
 obtain ⟨its', r', ⟨o', n', e', _, _, d'⟩, _⟩ := I.list h'
 rw [e] at e'; cases e'
 rw [d] at d'
 injection d' with d1 _
 have : its = its' := by simpa using congrArg Array.toList d1
 subst this
 exact r.inj r'
theorem Inv.tuple_inj (I : Inv X pins σ H s) (h : SqT X.K H a xs) (h' : SqT X.K H a ys) : xs = ys := by
 obtain ⟨its, r, ⟨o, e, _, n, d⟩, _⟩ := I.tuple h
 obtain ⟨its', r', ⟨o', e', _, n', d'⟩, _⟩ := I.tuple h'
 rw [e] at e'; cases e'
 rw [d] at d'
 injection d' with d1 _
 have : its = its' := by simpa using congrArg Array.toList d1
 subst this
 exact r.inj r'
end
abbrev Cx.wish (X : Cx) (E : Value -> Shared -> Prop) : Cx := { X with xe := E }
abbrev Cx.nox (X : Cx) : Cx := X.wish fun _ _ => False
theorem Cx.Ok.wish {X : Cx} (ok : X.Ok) (E : Value -> Shared -> Prop) : (X.wish E).Ok :=
 ⟨ok.mod, ok.kind, ok.glob, ok.blt, ok.above, ok.inj, ok.has, ok.cab, ok.hd, ok.frames, ok.stk, ok.exf, ok.bs, ok.bsz, ok.noex, ok.exfs, ok.funs, ok.frf⟩
theorem Cx.Ok.unwish {X : Cx} {E : Value -> Shared -> Prop} (ok : (X.wish E).Ok) : X.Ok :=
 ⟨ok.mod, ok.kind, ok.glob, ok.blt, ok.above, ok.inj, ok.has, ok.cab, ok.hd, ok.frames, ok.stk, ok.exf, ok.bs, ok.bsz, ok.noex, ok.exfs, ok.funs, ok.frf⟩
section
variable {X : Cx} {pins : List (Addr × Obj)} {σ : St} {H : Hp} {s : Shared} {E : Value -> Shared -> Prop}
theorem Inv.wish (I : Inv X pins σ H s) (E : Value -> Shared -> Prop) : Inv (X.wish E) pins σ H s := ⟨I.ok.wish E, I.os, I.bare, I.base, I.loc, I.cell, I.free, I.freeC, I.pin, I.hok, I.len⟩
theorem Inv.unwish (I : Inv (X.wish E) pins σ H s) : Inv X pins σ H s := ⟨I.ok.unwish, I.os, I.bare, I.base, I.loc, I.cell, I.free, I.freeC, I.pin, I.hok, I.len⟩
theorem SP.unwish {D : jP} {f : Flow} {s' : Shared} (h : SP (X.wish E) pins D f s') : SP X pins D f s' := by
 cases f with
 | next => obtain ⟨σ', H', I, q⟩ := h; exact ⟨σ', H', I.unwish, q⟩
 | brk => obtain ⟨σ', H', I, q⟩ := h; exact ⟨σ', H', I.unwish, q⟩
 | cont => obtain ⟨σ', H', I, q⟩ := h; exact ⟨σ', H', I.unwish, q⟩
 | ret u => obtain ⟨v, σ', H', I, r, q⟩ := h; exact ⟨v, σ', H', I.unwish, r, q⟩
theorem PSs.nox {st : List Stmt} {t : TS} (h : PSs X.nox st t) : PSs X st t := fun pins s σ H D I hw =>
 wpAny_mono (h pins s σ H D (I.wish _) hw) (fun _ _ q => q.unwish) fun _ _ z => False.elim z
end
section
variable {X : Cx} {st : Stmt} {ku : List Stmt} {t u : TS} {e : Expr} {te : TE} {pos : Pos}
def Yb : TS := fun D σ H => D.nx σ H
def Bn (t u : TS) : TS := fun D σ H => t { D with nx := u D } σ H
theorem zD : PSs X [] Yb := fun _ _ σ H _ I h => wpAny_execs_nil ⟨σ, H, I, h⟩
theorem zc (h1 : PS X st t) (h2 : PSs X ku u) : PSs X (st :: ku) (Bn t u) := by
 intro pins s σ H D I h
 refine wpAny_execs_cons (thn (h1 pins s σ H { D with nx := u D } I h) fun f s1 q => ?_)
 cases f with
 | next =>
  obtain ⟨σ', H', I', q⟩ := q
  exact h2 pins s1 σ' H' D I' q
 | ret v => exact q
 | brk => exact q
 | cont => exact q
theorem zg (h1 : PS X st t) : PSs X [st] t := by
 intro pins s σ H D I h
 refine wpAny_execs_cons (thn (h1 pins s σ H D I h) fun f s1 q => ?_)
 cases f with
 | next => exact wpAny_execs_nil q
 | ret v => exact q
 | brk => exact q
 | cont => exact q
theorem Inv.quiet {pins : List (Addr × Obj)} {σ : St} {H : Hp} {s : Shared} (I : Inv X pins σ H s) : interactive X.env = false := by simp [interactive, I.ok.kind]
def WV (te : TE) : TS := fun D σ H => te σ H fun _ H1 => D.nx σ H1
theorem kd (he : PE X e te) (hs : swapsWith e none pos.line X.env = pure false := by rfl) : PS X (.Expr e pos) (WV te) := by
 intro pins s σ H D I h
 exact wpAny_Expr_any (thn (he pins s σ H _ I h) fun v s1 ⟨x, H1, I1, r1, q1⟩ => ⟨σ, H1, I1, q1⟩) I.quiet hs
def Ac (te : TE) : TS := fun D σ H => te σ H D.rt
theorem zm (he : PE X e te) : PS X (.Return (some e) pos) (Ac te) := by
 intro pins s σ H D I h
 exact wpAny_Return_some (thn (he pins s σ H _ I h) fun v s1 ⟨x, H1, I1, r1, q1⟩ => ⟨x, σ, H1, I1, r1, q1⟩)
def BQ (c : TT) (t u : TS) : TS := fun D σ H => c σ H fun b H1 => if b = true then t D σ H1 else u D σ H1
theorem zS {c : Expr} {a b : List Stmt} {tc : TT} (hc : PT X c tc) (ha : PSs X a t) (hb : PSs X b u) : PS X (.If c a b pos) (BQ tc t u) := by
 intro pins s σ H D I h
 refine wpAny_If (thn (hc pins s σ H _ I h) fun d s1 ⟨H1, I1, q1⟩ => ?_)
 cases d with
 | true => exact ha pins s1 σ H1 D I1 q1
 | false => exact hb pins s1 σ H1 D I1 q1
end
abbrev TG := V -> St -> Hp -> (St -> Hp -> Prop) -> Prop
abbrev TGs := List V -> St -> Hp -> (St -> Hp -> Prop) -> Prop
def PG (X : Cx) (target : Expr) (t : TG) : Prop :=
 ∀ (pins : List (Addr × Obj)) (s : Shared) (σ : St) (H : Hp) (v : V) (u : Value) (Q : St -> Hp -> Prop), Inv X pins σ H s -> zF v u -> t v σ H Q ->
  wpAny (model X.prog X.w) X.A (assign target X.env u) (fun _ s' => ∃ σ' H', Inv X pins σ' H' s' /\ Q σ' H') X.xe s
def PGs (X : Cx) (ts : List Expr) (t : TGs) : Prop :=
 ∀ (pins : List (Addr × Obj)) (s : Shared) (σ : St) (H : Hp) (vs : List V) (us : List Value) (Q : St -> Hp -> Prop), Inv X pins σ H s -> zC vs us -> t vs σ H Q ->
  wpAny (model X.prog X.w) X.A (assignInOrder ((assignEach ts X.env).map (·.2)) us) (fun _ s' => ∃ σ' H', Inv X pins σ' H' s' /\ Q σ' H') X.xe s
abbrev XJ := V -> V -> V -> Hp -> (Hp -> Prop) -> Prop
def W6 (X : Cx) (t : XJ) : Prop :=
 ∀ (pins : List (Addr × Obj)) (s : Shared) (σ : St) (H : Hp) (o i v : V) (ov iv u : Value) (Q : Hp -> Prop), Inv X pins σ H s -> zF o ov -> zF i iv -> zF v u -> t o i v H Q ->
  wpAny (model X.prog X.w) X.A (setItem ov iv u) (fun _ s' => ∃ H', Inv X pins σ H' s' /\ Q H') X.xe s
abbrev TIp := V -> V -> Hp -> VK -> Prop
def PIp (X : Cx) (op : Operator) (t : TIp) : Prop :=
 ∀ (pins : List (Addr × Obj)) (s : Shared) (σ : St) (H : Hp) (x y : V) (v u : Value) (Q : VK), Inv X pins σ H s -> zF x v -> zF y u -> t x y H Q ->
  wpAny (model X.prog X.w) X.A (inplaceOp op v u) (EP X pins σ Q) X.xe s
section
variable {X : Cx} {pos : Pos}
def wZ (i : Nat) : TG := fun v σ H Q => Q (σ.set i (some v)) H
theorem zr {i : Nat} {x : Str} (hN : X.N.Nodup) (hi : X.N[i]? = some x) (hx : Loc X.env.scope x) (hf : X.fn x = true \/ X.env.scope.names.lookup x = some .local := by first | exact .inl rfl | exact .inr rfl | assumption) : PG X (.Name x pos) (wZ i) := by
 intro pins s σ H v u Q I r h
 exact wpAny_assign_Name (jU I hN hi hx r (fun s' I' => ⟨_, H, I', h⟩) hf)
def W7 : TGs := fun vs σ H Q => vs = [] /\ Q σ H
def Xg (t : TG) (u : TGs) : TGs := fun vs σ H Q => ∃ v r, vs = v :: r /\ t v σ H fun σ' H' => u r σ' H' Q
theorem jH : PGs X [] W7 := by
 intro pins s σ H vs us Q I r h
 obtain ⟨e, h⟩ := h
 subst e
 cases r
 exact assignInOrder_nil ⟨σ, H, I, h⟩
theorem zV {e : Expr} {es : List Expr} {t : TG} {u : TGs} (h1 : PG X e t) (h2 : PGs X es u)
  (hs : (assignEach (e :: es) X.env).map (·.2) = assign e X.env :: (assignEach es X.env).map (·.2) := by rfl) : PGs X (e :: es) (Xg t u) := by
 intro pins s σ H vs us Q I r h
 obtain ⟨v, vr, e1, h⟩ := h
 subst e1
 cases r with
 | cons r rr =>
  rw [hs]
  refine assignInOrder_cons (thn (h1 pins s σ H _ _ _ I r h) fun _ s1 ⟨σ1, H1, I1, q1⟩ => ?_)
  exact h2 pins s1 σ1 H1 _ _ Q I1 rr q1
def WB (K : PySem.W.Frag) (n : Nat) (t : TGs) : TG := fun v σ H Q => ∃ a xs, v = .ref a /\ SqT K H a xs /\ xs.length = n /\ t xs σ H Q
theorem Bw {es : List Expr} {k : Nat} {t : TGs} {n : Nat} (hc : X.calm = true) (h : PGs X es t)
  (hn : (assignEach es X.env).length = n := by rfl) (hst : (assignEach es X.env).findIdx? (·.1) = none := by rfl) : PG X (.Tuple es k pos) (WB X.K n t) := by
 intro pins s σ H v u Q I r hw
 obtain ⟨a, xs, e1, hq, hl, hw⟩ := hw
 subst e1
 cases r
 obtain ⟨its, rv, ht, hz⟩ := I.tuple hq
 refine assign_Tuple_tuple (I.ok.hd hc) ht (by simp [hn, <- hl, rv.length]) hst fun h' hx => ?_
 have I1 : Inv X pins σ H { s with heap := h' } := I.kept (t' := s.toks) fun b o e => hx b o (Nat.ne_of_lt (Heap.lt_size e)) e
 exact h pins _ σ H xs _ Q I1 (by simpa using rv) hw
def Bm (to ti : TE) (t : XJ) : TG := fun v σ H Q => to σ H fun o H1 => ti σ H1 fun i H2 => t o i v H2 fun H3 => Q σ H3
theorem jb {o i : Expr} {to ti : TE} {t : XJ} (ho : PE X o to) (hi : PE X i ti) (hs : W6 X t)
  (ha : ∀ v, assign (.Subscript o i pos) X.env v = (do
   let ov <- holding [v] (eval o X.env)
   let iv <- holding [v, ov] (eval i X.env)
   standAt pos
   holding [v, ov, iv] (setItem ov iv v)
   release [v, ov, iv] []) := by intro _; rfl) : PG X (.Subscript o i pos) (Bm to ti t) := by
 intro pins s σ H v u Q I r h
 rw [ha]
 refine wpAny_bind (wpAny_holding (thn (ho pins s σ H _ I h) fun ov s1 ⟨x, H1, I1, r1, q1⟩ => ?_))
 refine wpAny_bind (wpAny_holding (thn (hi pins s1 σ H1 _ I1 q1) fun iv s2 ⟨y, H2, I2, r2, q2⟩ => ?_))
 refine wpAny_bind (wpAny_standAt (wpAny_bind (wpAny_holding (thn (hs pins s2 σ H2 x y v ov iv u _ I2 r1 r2 r q2) fun _ s3 ⟨H3, I3, q3⟩ => ?_))))
 exact wpAny_release ⟨σ, H3, I3, q3⟩
def Y9 (te : TE) (g : TG) : TS := fun D σ H => te σ H fun x H1 => g x σ H1 D.nx
theorem qY {tg e : Expr} {te : TE} {g : TG} (he : PE X e te) (hg : PG X tg g) (hs : swapsWithSole [tg] e pos.line X.env = pure false := by rfl) (hw : swappedStores [tg] e X.env = pure none := by rfl)
  (h1 : (assignEach [tg] X.env).map (·.2) = [assign tg X.env] := by rfl) : PS X (.Assign [tg] e pos) (Y9 te g) := by
 intro pins s σ H D I h
 refine wpAny_Assign_stores (thn (he pins s σ H _ I h) fun v s1 ⟨x, H1, I1, r1, q1⟩ => ?_) hs hw
 rw [h1]
 exact thn (hg pins s1 σ H1 x v _ I1 r1 q1) fun _ s2 q => q
theorem zy {i : Nat} {x : Str} {e : Expr} {te : TE} {pos' : Pos} (hN : X.N.Nodup) (hi : X.N[i]? = some x) (hx : Loc X.env.scope x) (he : PE X e te) (hs : swapsWith e (some (.Name x pos')) pos.line X.env = pure false := by rfl) (hf : X.fn x = true \/ X.env.scope.names.lookup x = some .local := by first | exact .inl rfl | exact .inr rfl | assumption) :
  PS X (.Assign [.Name x pos'] e pos) (Y9 te (wZ i)) := by
 intro pins s σ H D I h
 refine wpAny_Assign_Name (thn (he pins s σ H _ I h) fun v s1 ⟨y, H1, I1, r1, q1⟩ => ?_) hs
 exact jU I1 hN hi hx r1 (fun s2 I2 => ⟨_, H1, I2, q1⟩) hf
def BR (i j : Nat) (ta : TA) : TS := fun D σ H => ta σ H fun vs H1 => ∃ v w, vs = [v, w] /\ D.nx ((σ.set i (some v)).set j (some w)) H1
theorem QF {i j : Nat} {x y : Str} {a b : Expr} {ta : TA} {px py pt : Pos} {kt k2 pt2} (hc : X.calm = true) (hN : X.N.Nodup) (hi : X.N[i]? = some x) (hj : X.N[j]? = some y) (hij : i ≠ j)
  (hx : X.env.scope.names.lookup x = some .local) (hy : X.env.scope.names.lookup y = some .local) (ha : PA X [a, b] ta)
  (hw : swappedStores [.Tuple [.Name x px, .Name y py] kt pt] (.Tuple [a, b] k2 pt2) X.env = pure (some [x, y]))
  (hs : swapsWithSole [.Tuple [.Name x px, .Name y py] kt pt] (.Tuple [a, b] k2 pt2) pos.line X.env = pure false := by rfl) :
  PS X (.Assign [.Tuple [.Name x px, .Name y py] kt pt] (.Tuple [a, b] k2 pt2) pos) (BR i j ta) := by
 intro pins s σ H D I h
 rw [exec_Assign_arm]
 refine wpAny_bind (wpAny_standAt ?_)
 rw [hs]
 refine wpAny_bind (wpAny_pure ?_)
 rw [if_neg (by decide)]
 refine wpAny_bind (Tuple_ (thn (ha _ pins s σ H _ I h) fun us s1 ⟨vs, H1, I1, r1, q1⟩ => ?_))
 obtain ⟨v, w, e1, q1⟩ := q1
 subst e1
 obtain ⟨u1, u2, rfl, rv, rw'⟩ : ∃ u1 u2, us = [u1, u2] /\ zF v u1 /\ zF w u2 := by
  cases r1 with
  | cons p q =>
   cases q with
   | cons p' q' =>
    cases q'
    exact ⟨_, _, rfl, p, p'⟩
 refine wpAny_newObj_type ?_ (by show 2 <= sizeLine; decide)
 have I2 : Inv X pins σ H1 { s1 with heap := s1.heap.push { cls := .type "tuple", data := .seq [u1, u2].toArray } } := I1.kept (t' := s1.toks) fun b o e => Heap.get?_push_of_some _ e
 rw [hw]
 refine wpAny_bind (wpAny_pure ?_)
 show wpAny (model X.prog X.w) X.A (do rule "assign.swapped-stores"; let items <- unpackItems (.ref s1.heap.objs.size) 2 none; assignInOrder [fun v => bindName X.env y v, fun v => bindName X.env x v] items.reverse; pure Flow.next) _ _ _
 refine wpAny_bind (wpAny_rule (wpAny_bind (unpackItems_tuple (items := #[u1, u2]) (I.ok.hd hc) (IsTup.new s1.heap _) fun h' hx' => ?_)))
 have I3 := I2.kept (h' := h') (t' := s1.toks) fun b o e => hx' b o (Nat.ne_of_lt (Heap.lt_size e)) e
 show wpAny _ _ (assignInOrder [fun v => bindName X.env y v, fun v => bindName X.env x v] [u2, u1] >>= fun _ => pure Flow.next) _ _ _
 refine wpAny_bind (assignInOrder_cons (wpAny_bindName (jU I3 hN hj (.inl hy) rw' (fun s2 I4 => ?_) (.inr hy))))
 refine assignInOrder_cons (wpAny_bindName (jU I4 hN hi (.inl hx) rv (fun s3 I5 => assignInOrder_nil (wpAny_pure ?_)) (.inr hx)))
 rw [List.set_comm _ _ (Ne.symm hij)] at I5
 exact ⟨_, H1, I5, q1⟩
def B9 (i : Nat) (te : TE) (ti : TIp) : TS := fun D σ H => ∃ x, σ[i]? = some (some x) /\ te σ H fun y H1 => ti x y H1 fun z H2 => D.nx (σ.set i (some z)) H2
theorem Z5 {i : Nat} {x : Str} {e : Expr} {te : TE} {op : Operator} {ti : TIp} {pos' : Pos} (hN : X.N.Nodup) (hi : X.N[i]? = some x) (hx : Loc X.env.scope x) (he : PE X e te) (ho : PIp X op ti) (hf : X.fn x = true \/ X.env.scope.names.lookup x = some .local := by first | exact .inl rfl | exact .inr rfl | assumption) :
  PS X (.AugAssign (.Name x pos') op e pos) (B9 i te ti) := by
 intro pins s σ H D I h
 obtain ⟨v, e1, h⟩ := h
 obtain ⟨m, hn, hl⟩ := I.loc
 have vis : Vis X.env.scope x := by rcases hx with k | k; exact .inl k; exact .inr (.inl k)
 obtain ⟨u, r, l⟩ := hl i x v hi e1 vis
 refine wpAny_AugAssign_Name ?_
 have go : wpAny (model X.prog X.w) X.A (eval e X.env) (fun w s₂ => wpAny (model X.prog X.w) X.A (inplaceOp op u w) (fun r s₃ => wpAny (model X.prog X.w) X.A (storeName X.env x r) (fun _ => SP X pins D .next) X.xe s₃) X.xe s₂) X.xe s := by
  refine thn (he pins s σ H _ I h) fun w s1 ⟨y, H1, I1, r1, q1⟩ => ?_
  refine thn (ho pins s1 σ H1 v y u w _ I1 r r1 q1) fun z s2 ⟨zv, H2, I2, r2, q2⟩ => ?_
  exact jU I2 hN hi hx r2 (fun s3 I3 => ⟨_, H2, I3, q2⟩) hf
 rcases l with ⟨hk, hm⟩ | ⟨hk, c, hc, hcell⟩
 ·exact wpAny_loadName_local I.ok.kind hk hn hm go
 ·rcases hk with hk | hk
  ·exact wpAny_loadName_cell I.ok.kind hk hc hcell go
  ·rcases hx with k | k
   ·have : X.env.scope.names.lookup x = some .free := hk
    rw [k] at this; cases this
   ·have : X.env.scope.names.lookup x = some .free := hk
    rw [k] at this; cases this
def ipI (f : Int -> Int -> Int) : TIp := fun x y H Q => ∃ i j, x = .int i /\ y = .int j /\ Q (.int (f i j)) H
theorem Qa : PIp X .Add (ipI fun i j => i + j) := by
 intro pins s σ H x y v u Q I r1 r2 h
 obtain ⟨i, j, e1, e2, q⟩ := h
 subst e1; subst e2
 obtain ⟨t, rfl⟩ := r1
 obtain ⟨t', rfl⟩ := r2
 exact iadd_int ⟨.int _, H, I.tok _, ⟨_, rfl⟩, q⟩
end
section
variable {X : Cx} {pos : Pos}
def X6 (c : TT) (tb : TS) : TS := fun D σ H => ∃ W : Nat -> St -> Hp -> Prop, (∃ m, W m σ H) /\ ∀ m σ H, W m σ H ->
 c σ H fun b H1 => if b = true then ∃ N : St -> Hp -> Prop, (∀ σ' H', N σ' H' -> ∃ m', m' < m /\ W m' σ' H') /\ tb { D with nx := N, ct := N, bk := D.nx } σ H1 else D.nx σ H1
theorem xV {c : Expr} {body : List Stmt} {tc : TT} {tb : TS} (hp : PassesOwn (model X.prog X.w) X.A X.env X.xe) (hc : PT X c tc) (hb : PSs X body tb) : PS X (.While c body [] pos) (X6 tc tb) := by
 intro pins s σ H D I h
 obtain ⟨W, ⟨m0, w0⟩, turn⟩ := h
 refine wpAny_While (codeAny_whileLoop (fun n s' => ∃ σ' H', Inv X pins σ' H' s' /\ W n σ' H') ?_ m0 ⟨σ, H, I, w0⟩)
 rintro n s1 ⟨σ1, H1, I1, w1⟩
 refine wpAny_passesOwn hp (thn (hc pins s1 σ1 H1 _ I1 (turn n σ1 H1 w1)) fun b s2 ⟨H2, I2, q2⟩ => ?_)
 cases b with
 | true =>
  obtain ⟨N, hN, q2⟩ := q2
  rw [if_pos rfl]
  refine wpAny_passesOwn hp (thn (hb pins s2 σ1 H2 _ I2 q2) fun f s3 q3 => ?_)
  cases f with
  | next =>
   obtain ⟨σ3, H3, I3, n3⟩ := q3
   obtain ⟨m', hm, w3⟩ := hN σ3 H3 n3
   exact ⟨m', hm, σ3, H3, I3, w3⟩
  | cont =>
   obtain ⟨σ3, H3, I3, n3⟩ := q3
   obtain ⟨m', hm, w3⟩ := hN σ3 H3 n3
   exact ⟨m', hm, σ3, H3, I3, w3⟩
  | brk => exact q3
  | ret v => exact q3
 | false =>
  rw [if_neg Bool.false_ne_true]
  exact wpAny_execs_nil ⟨σ1, H2, I2, q2⟩
end
structure It where
 go : Nat -> Hp -> Prop
 yld : Nat -> Hp -> V -> Hp -> Prop
 stop : Nat -> Hp -> Prop
def xK (X : Cx) (pins : List (Addr × Obj)) (H : Hp) (b : Addr) : Prop :=
 H b = none /\ b ≠ X.env.locals /\ b ∉ X.fs /\ (b ∈ X.ex \/ X.s₀.heap.objs.size <= b) /\ (∀ x c, X.env.cells.lookup x = some c -> c ≠ b) /\ ∀ p ∈ X.pn ++ pins, p.1 ≠ b
theorem Inv.fpOk {X : Cx} {pins : List (Addr × Obj)} {σ : St} {H H' : Hp} {s : Shared} {b : Addr} (I : Inv X pins σ H s) (hb : s.heap.objs.size <= b) (hn : H' b = none) : xK X pins H' b := by
 refine ⟨hn, Nat.ne_of_gt (Nat.lt_of_lt_of_le I.lt hb), I.nofs hb, .inr (Nat.le_trans I.sz hb), fun x c e z => ?_, fun p hp z => ?_⟩
 ·obtain ⟨v, q⟩ := I.cell x c e
  exact absurd (Nat.lt_of_lt_of_le q.lt (by rw [z]; exact hb)) (Nat.lt_irrefl _)
 ·exact absurd (Nat.lt_of_lt_of_le (Heap.lt_size (I.pin p hp).1) (by rw [z]; exact hb)) (Nat.lt_irrefl _)
structure QL (P : Program) (w : World) (K : PySem.W.Frag) (tg : Expr) (J : It) (fp : List Addr) (it : Addr) (tn : Nat -> Heap -> Prop) : Prop where
 mem : it ∈ fp
 obj : ∀ i h, tn i h -> ∀ b ∈ fp, ∃ o, h.get? b = some o /\ ∀ v, o.data ≠ .cell v
 keep : ∀ i h h', tn i h -> (∀ b ∈ fp, ∀ o, h.get? b = some o -> h'.get? b = some o) -> tn i h'
 item : ∀ (X : Cx), X.prog = P -> X.w = w -> X.K = K -> X.calm = true -> ∀ (i : Nat) (pins : List (Addr × Obj)) (s : Shared) (σ : St) (H : Hp) (E : Value -> Shared -> Prop), Inv X pins σ H s -> (∀ b ∈ fp, xK X pins H b) -> tn i s.heap -> J.go i H ->
  wpAny (model P w) X.A (pyNext (.ref it)) (fun r s1 => ∃ u, r = some u /\
   wpAny (model P w) X.A (letOwnedTupleGo tg (.ref it) u) (fun _ s2 => ∃ x H', Inv X pins σ H' s2 /\ zF x u /\ J.yld i H x H' /\ tn (i + 1) s2.heap /\ ∀ b ∈ fp, H' b = none) E s1) E s
 done : ∀ (X : Cx), X.prog = P -> X.w = w -> X.K = K -> X.calm = true -> ∀ (i : Nat) (pins : List (Addr × Obj)) (s : Shared) (σ : St) (H : Hp) (E : Value -> Shared -> Prop), Inv X pins σ H s -> (∀ b ∈ fp, xK X pins H b) -> tn i s.heap -> J.stop i H ->
  wpAny (model P w) X.A (pyNext (.ref it)) (fun r s1 => r = none /\ Inv X pins σ H s1) E s
 self : ∀ (A : Around) (i : Nat) (s : Shared) (Q : Value -> Shared -> Prop) (E : Value -> Shared -> Prop), tn i s.heap -> Q (.ref it) s -> wpAny (model P w) A (pyIter (.ref it)) Q E s
abbrev TI := St -> Hp -> (It -> Hp -> Prop) -> Prop
def PIE (X : Cx) (pins : List (Addr × Obj)) (σ : St) (tg : Expr) (R : It -> Hp -> Prop) (itv : Value) (s2 : Shared) : Prop :=
 ∃ (it : Addr) (fp : List Addr) (tn : Nat -> Heap -> Prop) (J : It) (H' : Hp), itv = .ref it /\ Inv X pins σ H' s2 /\ QL X.prog X.w X.K tg J fp it tn /\ tn 0 s2.heap /\ (∀ b ∈ fp, xK X pins H' b) /\ R J H'
def PI (X : Cx) (tg iter : Expr) (wi : TI) : Prop :=
 ∀ (pins : List (Addr × Obj)) (s : Shared) (σ : St) (H : Hp) (R : It -> Hp -> Prop), Inv X pins σ H s -> wi σ H R ->
  wpAny (model X.prog X.w) X.A (eval iter X.env) (fun v s1 => wpAny (model X.prog X.w) X.A (pyIter v) (PIE X pins σ tg R) X.xe s1) X.xe s
theorem Vc {M : Model} {A : Around} {E : Value -> Shared -> Prop} {s : Shared} {tg : Expr} {it : Addr} {u : Value} {o : Obj} {n : String} {vs : Array Value} {Q : Unit -> Shared -> Prop} (ho : s.heap.get? it = some o) (hc : o.cls = .type n) (hd : o.data = .fields vs)
    (hn : ["enumerate", "zip", "dict_itemiterator", "dict_reverseitemiterator", "odict_iterator", "itertools.zip_longest", "itertools.pairwise"].contains n = false) (hQ : Q () s) : wpAny M A (letOwnedTupleGo tg (.ref it) u) Q E s := by
  unfold letOwnedTupleGo
  cases tg <;> first
    | exact wpAny_pure hQ
    | (cases u <;> first
        | exact wpAny_pure hQ
        | (refine wpAny_bind (wpAny_load ho ?_)
           rw [hc, hd]
           show wpAny M A (if (["enumerate", "zip", "dict_itemiterator", "dict_reverseitemiterator", "odict_iterator", "itertools.zip_longest", "itertools.pairwise"].contains n && vs[0]? == some (rawInt _)) = true then _ else _) Q E s
           rw [if_neg (by intro h; rw [hn, Bool.false_and] at h; cases h)]
           exact wpAny_pure hQ))
def Itl (K : PySem.W.Frag) (a : Addr) : It :=
 ⟨fun i H => ∃ xs x, SqL K H a xs /\ xs[i]? = some x, fun i H x H' => H' = H /\ ∀ xs, SqL K H a xs -> xs[i]? = some x, fun i H => ∃ xs, SqL K H a xs /\ xs.length <= i⟩
def Itt (K : PySem.W.Frag) (a : Addr) : It :=
 ⟨fun i H => ∃ xs x, SqT K H a xs /\ xs[i]? = some x, fun i H x H' => H' = H /\ ∀ xs, SqT K H a xs -> xs[i]? = some x, fun i H => ∃ xs, SqT K H a xs /\ xs.length <= i⟩
def Itr (lo : Int) (n : Nat) : It := ⟨fun i _ => i < n, fun i H x H' => H' = H /\ x = .int (lo + i), fun i _ => n <= i⟩
theorem yR {P : Program} {w : World} {K : PySem.W.Frag} {tg : Expr} (a it : Addr) : QL P w K tg (Itl K a) [it] it (fun i h => h.IsListIter it a i) where
 mem := by simp
 obj := fun i h st b hb => by
  have e : b = it := by simpa using hb
  subst e
  obtain ⟨o, e, c, d⟩ := st
  exact ⟨o, e, fun v z => by rw [d] at z; cases z⟩
 keep := fun i h h' st k => st.at fun o e => k it (by simp) o e
 item := by
  intro X hP hw hK hc i pins s σ H E I hf st hg
  subst hP hw hK
  obtain ⟨xs, x, hq, hx⟩ := hg
  obtain ⟨its, rv, p, hz⟩ := I.list hq
  obtain ⟨u, hu, ru⟩ := rv.get hx
  obtain ⟨f0, f1, f2, f3, f4, f5⟩ := hf it (by simp)
  refine wpAny_pyNext_list_item st p.isList (x := u) (by simpa using hu) fun h' st' sb => ?_
  have I1 : Inv X pins σ H { s with heap := h' } := I.turned (t' := s.toks) (fun b o hb e => (sb.2 b hb).trans e) f0 f1 f3 f4 f5
  obtain ⟨o, e, c, d⟩ := id st'
  exact ⟨u, rfl, Vc (s := { s with heap := h' }) e c d (by decide) ⟨x, H, I1, ru, ⟨rfl, fun ys hy => by rw [I.list_inj hy hq]; exact hx⟩, st', fun b hb => (hf b hb).1⟩⟩
 done := by
  intro X hP hw hK hc i pins s σ H E I hf st hg
  subst hP hw hK
  obtain ⟨xs, hq, hx⟩ := hg
  obtain ⟨its, rv, p, hz⟩ := I.list hq
  obtain ⟨f0, f1, f2, f3, f4, f5⟩ := hf it (by simp)
  have hl := rv.length
  exact wpAny_pyNext_list_end (I.ok.hd hc) st p.isList (by simp; omega) fun h' eb => ⟨rfl, I.turned (t' := s.toks) (fun b o hb e => eb b o hb e) f0 f1 f3 f4 f5⟩
 self := fun _ _ _ _ _ st h => wpAny_pyIter_listiter st h
theorem Qj {P : Program} {w : World} {K : PySem.W.Frag} {tg : Expr} (a it : Addr) : QL P w K tg (Itt K a) [it] it (fun i h => h.IsTupleIter it a i) where
 mem := by simp
 obj := fun i h st b hb => by
  have e : b = it := by simpa using hb
  subst e
  obtain ⟨o, e, c, d⟩ := st
  exact ⟨o, e, fun v z => by rw [d] at z; cases z⟩
 keep := fun i h h' st k => st.at fun o e => k it (by simp) o e
 item := by
  intro X hP hw hK hc i pins s σ H E I hf st hg
  subst hP hw hK
  obtain ⟨xs, x, hq, hx⟩ := hg
  obtain ⟨its, rv, p, hz⟩ := I.tuple hq
  obtain ⟨u, hu, ru⟩ := rv.get hx
  obtain ⟨f0, f1, f2, f3, f4, f5⟩ := hf it (by simp)
  refine wpAny_pyNext_tuple_item st (show s.heap.IsTuple a its.toArray from p) (x := u) (by simpa using hu) fun h' st' sb => ?_
  have I1 : Inv X pins σ H { s with heap := h' } := I.turned (t' := s.toks) (fun b o hb e => (sb.2 b hb).trans e) f0 f1 f3 f4 f5
  obtain ⟨o, e, c, d⟩ := id st'
  exact ⟨u, rfl, Vc (s := { s with heap := h' }) e c d (by decide) ⟨x, H, I1, ru, ⟨rfl, fun ys hy => by rw [I.tuple_inj hy hq]; exact hx⟩, st', fun b hb => (hf b hb).1⟩⟩
 done := by
  intro X hP hw hK hc i pins s σ H E I hf st hg
  subst hP hw hK
  obtain ⟨xs, hq, hx⟩ := hg
  obtain ⟨its, rv, p, hz⟩ := I.tuple hq
  obtain ⟨f0, f1, f2, f3, f4, f5⟩ := hf it (by simp)
  have hl := rv.length
  exact wpAny_pyNext_tuple_end (I.ok.hd hc) st (show s.heap.IsTuple a its.toArray from p) (by simp; omega) fun h' eb => ⟨rfl, I.turned (t' := s.toks) (fun b o hb e => eb b o hb e) f0 f1 f3 f4 f5⟩
 self := fun _ _ _ _ _ st h => wpAny_pyIter_tupleiter st h
theorem Qq {P : Program} {w : World} {K : PySem.W.Frag} {tg : Expr} (it : Addr) (lo : Int) (n : Nat) : QL P w K tg (Itr lo n) [it] it (fun i h => IsRangeIter h it (lo + (i : Nat) * 1) ((n : Int) - (i : Nat)) 1) where
 mem := by simp
 obj := fun i h st b hb => by
  have e : b = it := by simpa using hb
  subst e
  exact ⟨_, st, fun v z => by
   have z' : Data.fields _ = Data.cell v := z
   cases z'⟩
 keep := fun i h h' st k => k it (by simp) _ st
 item := by
  intro X hP hw hK hc i pins s σ H E I hf st hg
  subst hP hw hK
  obtain ⟨f0, f1, f2, f3, f4, f5⟩ := hf it (by simp)
  have W := Walks.range (prog := X.prog) (w := X.w) (I.ok.hd hc) it lo 1 n
  refine W.item i s _ _ hg st fun v h' tk hv st' kk => ?_
  obtain ⟨t, rfl⟩ := hv
  have I1 : Inv X pins σ H { s with heap := h', toks := tk } := I.turned (fun b o hb e => kk b o (by simpa using hb) e) f0 f1 f3 f4 f5
  refine ⟨_, rfl, Vc (s := { s with heap := h', toks := tk }) (n := "range_iterator") st' rfl rfl (by decide) ⟨.int (lo + i), H, I1, ⟨t, ?_⟩, ⟨rfl, rfl⟩, st', fun b hb => (hf b hb).1⟩⟩
  rw [Int.mul_one]
 done := by
  intro X hP hw hK hc i pins s σ H E I hf st hg
  subst hP hw hK
  obtain ⟨f0, f1, f2, f3, f4, f5⟩ := hf it (by simp)
  exact wpAny_pyNext_range_end (I.ok.hd hc) st (by have : n <= i := hg; omega) fun h' eb => ⟨rfl, I.turned (t' := s.toks) (fun b o hb e => eb b o hb e) f0 f1 f3 f4 f5⟩
 self := fun _ _ _ _ _ st h => wpAny_pyIter_rangeiter st h
end L2
namespace L2
open PySem PySem.Spec PyProof.Rows
section
variable {X : Cx} {tg : Expr}
def WO (K : PySem.W.Frag) (tl : TE) : TI := fun σ H R => tl σ H fun x H1 => ∃ a, x = .ref a /\ (∃ xs, SqL K H1 a xs) /\ R (Itl K a) H1
theorem Q4 {l : Expr} {tl : TE} (hl : PE X l tl) : PI X tg l (WO X.K tl) := by
 intro pins s σ H R I h
 refine thn (hl pins s σ H _ I h) fun v s1 ⟨x, H1, I1, r1, q1⟩ => ?_
 obtain ⟨a, e, ⟨xs, hq⟩, q⟩ := q1
 subst e
 cases r1
 obtain ⟨its, rv, p, hz⟩ := I1.list hq
 refine wpAny_pyIter_list p.isList ?_
 refine ⟨s1.heap.objs.size, [s1.heap.objs.size], _, _, H1, rfl, I1.kept (t' := s1.toks) fun b o e => Heap.get?_push_of_some _ e, yR a _, ⟨_, Heap.get?_push_size _ rfl, rfl, rfl⟩, fun b hb => ?_, q⟩
 have e : b = s1.heap.objs.size := by simpa using hb
 subst e
 exact I1.fpOk (Nat.le_refl _) (I1.hok.fresh (Nat.le_refl _))
theorem Zm {pins : List (Addr × Obj)} {σ : St} {H : Hp} {s : Shared} {R : It -> Hp -> Prop} {E : Value -> Shared -> Prop} {lo hi : Int} {t u v : Tok} {tk : Nat} (I : Inv X pins σ H s) (h1 : -(2 ^ 62) <= lo) (h2 : lo < 2 ^ 62) (h3 : -(2 ^ 62) <= hi) (h4 : hi < 2 ^ 62)
  (q : R (Itr lo (hi - lo).toNat) H) : wpAny (model X.prog X.w) X.A (pyIter (.ref s.heap.objs.size)) (PIE X pins σ tg R) E { s with heap := s.heap.push { cls := .type "range", data := .fields #[.int lo t, .int hi u, .int 1 v] }, toks := tk } := by
 refine wpAny_pyIter_range (IsRange.new ..) (small_one h1 h2 h3 h4) ?_
 have I1 : Inv X pins σ H { s with heap := s.heap.push { cls := .type "range", data := .fields #[.int lo t, .int hi u, .int 1 v] }, toks := tk } := I.kept fun b o e => Heap.get?_push_of_some _ e
 refine ⟨(s.heap.push { cls := .type "range", data := .fields #[.int lo t, .int hi u, .int 1 v] }).objs.size, [(s.heap.push { cls := .type "range", data := .fields #[.int lo t, .int hi u, .int 1 v] }).objs.size], _, _, H, rfl,
  I1.kept (t' := tk) fun b o e => Heap.get?_push_of_some _ e, Qq _ lo (hi - lo).toNat, ?_, fun b hb => ?_, q⟩
 ·have e1 : lo + ((0 : Nat) : Int) * 1 = lo := by simp
  have e2 : (((hi - lo).toNat : Nat) : Int) - ((0 : Nat) : Int) = Builtin.Range.rangeSize lo hi 1 := by rw [rangeSize_one]; split <;> omega
  show IsRangeIter _ _ (lo + ((0 : Nat) : Int) * 1) ((((hi - lo).toNat : Nat) : Int) - ((0 : Nat) : Int)) 1
  rw [e1, e2]
  exact Heap.get?_push_size _ rfl
 ·have e : b = (s.heap.push { cls := .type "range", data := .fields #[.int lo t, .int hi u, .int 1 v] }).objs.size := by simpa using hb
  subst e
  exact I1.fpOk (Nat.le_refl _) (I1.hok.fresh (Nat.le_refl _))
def Xb (ta : TA) : TI := fun σ H R => ta σ H fun vs H1 => ∃ j : Int, vs = [.int j] /\ -(2 ^ 62) <= j /\ j < 2 ^ 62 /\ R (Itr 0 j.toNat) H1
def WM (ta : TA) : TI := fun σ H R => ta σ H fun vs H1 => ∃ i j : Int, vs = [.int i, .int j] /\ (-(2 ^ 62) <= i /\ i < 2 ^ 62 /\ -(2 ^ 62) <= j /\ j < 2 ^ 62) /\ R (Itr i (j - i).toNat) H1
theorem zQ {a : Expr} {ta : TA} {p pos : Pos} (hg : Gl X "range") (hm : X.mg "range" = none) (ha : PA X [a] ta) (hs : starEach [a] X.env = [(false, eval a X.env)] := by rfl) : PI X tg (.Call (.Name "range" p) [a] [] pos) (Xb ta) := by
 intro pins s σ H R I h
 refine Call_ (j0 I hg hm boot_range (PyProof.Rows.callWith_type1 (thn (ha pos pins s σ H _ I h) fun us s1 ⟨vs, H1, I1, r1, q1⟩ => ?_) hs rfl))
 obtain ⟨j, e, q1, q2, q⟩ := q1
 subst e
 cases r1 with
 | cons r rr =>
  cases rr
  obtain ⟨t, rfl⟩ := r
  exact call_range_1 (Zm I1 (by omega) (by omega) q1 q2 (by simpa using q))
theorem vq {a b : Expr} {ta : TA} {p pos : Pos} (hg : Gl X "range") (hm : X.mg "range" = none) (ha : PA X [a, b] ta) (hs : starEach [a, b] X.env = [(false, eval a X.env), (false, eval b X.env)] := by rfl) (hs2 : starEach [b] X.env = [(false, eval b X.env)] := by rfl) :
  PI X tg (.Call (.Name "range" p) [a, b] [] pos) (WM ta) := by
 intro pins s σ H R I h
 refine Call_ (j0 I hg hm boot_range (PyProof.Rows.callWith_type1 (thn (ha pos pins s σ H _ I h) fun us s1 ⟨vs, H1, I1, r1, q1⟩ => ?_) (by rw [hs, hs2]) (by rw [hs2]; rfl)))
 obtain ⟨i, j, e, ⟨q1, q2, q3, q4⟩, q⟩ := q1
 subst e
 cases r1 with
 | cons r rr =>
  cases rr with
  | cons r' rr =>
   cases rr
   obtain ⟨t, rfl⟩ := r
   obtain ⟨t', rfl⟩ := r'
   exact call_range_2 (Zm I1 q1 q2 q3 q4 q)
def Bt (wi : TI) (g : TG) (tb : TS) : TS := fun D σ H => wi σ H fun J H1 => ∃ W : Nat -> Nat -> St -> Hp -> Prop, (∃ m, W 0 m σ H1) /\ ∀ i m σ H, W i m σ H ->
 (J.stop i H /\ D.nx σ H) \/ (J.go i H /\ ∃ N : St -> Hp -> Prop, (∀ σ' H', N σ' H' -> ∃ m', m' < m /\ W (i + 1) m' σ' H') /\ ∀ x H', J.yld i H x H' -> g x σ H' fun σ2 H2 => tb { D with nx := N, ct := N, bk := D.nx } σ2 H2)
def yG (fp : List Addr) (h : Heap) : List (Addr × Obj) := fp.filterMap fun b => (h.get? b).map fun o => (b, o)
theorem jO {fp : List Addr} {h : Heap} {b : Addr} {o : Obj} (hb : b ∈ fp) (e : h.get? b = some o) : (b, o) ∈ yG fp h := List.mem_filterMap.mpr ⟨b, hb, by rw [e]; rfl⟩
theorem Kk {fp : List Addr} {h : Heap} {p : Addr × Obj} (hp : p ∈ yG fp h) : p.1 ∈ fp /\ h.get? p.1 = some p.2 := by
 obtain ⟨b, hb, e⟩ := List.mem_filterMap.mp hp
 cases q : h.get? b with
 | none => rw [q] at e; cases e
 | some o =>
  rw [q] at e
  have e' : (b, o) = p := Option.some.inj e
  subst e'
  exact ⟨hb, q⟩
theorem Inv.pinned {pins : List (Addr × Obj)} {σ : St} {H : Hp} {s : Shared} {fp : List Addr} (I : Inv X pins σ H s) (hf : ∀ b ∈ fp, xK X pins H b) (ho : ∀ b ∈ fp, ∃ o, s.heap.get? b = some o /\ ∀ v, o.data ≠ .cell v) : Inv X (pins ++ yG fp s.heap) σ H s :=
 I.pins_of fun p hp => (List.mem_append.mp hp).elim (fun z => I.pin p (List.mem_append_right _ z)) fun z => by
  obtain ⟨hb, e⟩ := Kk z
  obtain ⟨f0, f1, f2, _⟩ := hf p.1 hb
  obtain ⟨o, e', d⟩ := ho p.1 hb
  rw [e] at e'; cases e'
  exact ⟨e, f0, f1, f2, d⟩
theorem Inv.unpinned {pins pl : List (Addr × Obj)} {σ : St} {H : Hp} {s : Shared} (I : Inv X (pins ++ pl) σ H s) : Inv X pins σ H s := I.pins_of fun p hp => I.pin p (List.mem_append_right _ (List.mem_append_left _ hp))
theorem qF {iter : Expr} {body : List Stmt} {wi : TI} {g : TG} {tb : TS} {pos : Pos} (hp : PassesOwn (model X.prog X.w) X.A X.env X.xe) (hc : X.calm = true) (hi : PI X tg iter wi) (hg : PG X tg g) (hb : PSs X body tb)
  (hs : ∀ x, foldedSetIterable iter X.env x = pure x := by intro _; rfl) : PS X (.For tg iter body [] pos) (Bt wi g tb) := by
 intro pins s σ H D I h
 refine wpAny_For (thn (hi pins s σ H _ I h) fun v s1 h1 => thn h1 fun itv s2 h2 => ?_) hs
 obtain ⟨it, fp, tn, J, H2, e, I2, T, st2, f2, W, ⟨m0, w0⟩, turn⟩ := h2
 subst e
 have stat : ∀ {H' : Hp}, (∀ b ∈ fp, H' b = none) -> ∀ b ∈ fp, xK X pins H' b := fun hn b hb => ⟨hn b hb, (f2 b hb).2⟩
 refine codeAny_forLoop_any (fun n s' => ∃ i σ' H', Inv X pins σ' H' s' /\ tn i s'.heap /\ (∀ b ∈ fp, H' b = none) /\ W i n σ' H') ?_ m0 ⟨0, σ, H2, I2, st2, fun b hb => (f2 b hb).1, w0⟩
 rintro n s3 ⟨i, σ3, H3, I3, st3, fr3, w3⟩
 rcases turn i n σ3 H3 w3 with ⟨stop, qn⟩ | ⟨go, N, hN, step⟩
 ·refine wpAny_passesOwn hp (thn (T.done X rfl rfl rfl hc i pins s3 σ3 H3 X.xe I3 (stat fr3) st3 stop) fun r s4 ⟨hr, I4⟩ => ?_)
  subst hr
  exact wpAny_execs_nil ⟨σ3, H3, I4, qn⟩
 ·refine wpAny_passesOwn hp (thn (T.item X rfl rfl rfl hc i pins s3 σ3 H3 X.xe I3 (stat fr3) st3 go) fun r s4 ⟨u, hr, h4⟩ => ?_)
  subst hr
  refine wpAny_passesOwn hp (thn h4 fun _ s5 ⟨x, H5, I5, r5, y5, st5, fr5⟩ => ?_)
  have I5' := I5.pinned (stat fr5) (T.obj _ _ st5)
  refine wpAny_passesOwn hp (thn (hg _ s5 σ3 H5 x u _ I5' r5 (step x H5 y5)) fun _ s6 ⟨σ6, H6, I6, q6⟩ => ?_)
  refine wpAny_passesOwn hp (thn (hb _ s6 σ6 H6 _ I6 q6) fun f s7 q7 => ?_)
  have again : ∀ {σ7 : St} {H7 : Hp}, Inv X (pins ++ yG fp s5.heap) σ7 H7 s7 -> N σ7 H7 -> ∃ m, m < n /\ ∃ i σ' H', Inv X pins σ' H' s7 /\ tn i s7.heap /\ (∀ b ∈ fp, H' b = none) /\ W i m σ' H' := fun {σ7 H7} I7 n7 => by
   obtain ⟨m', hm, w7⟩ := hN σ7 H7 n7
   refine ⟨m', hm, i + 1, σ7, H7, I7.unpinned, T.keep _ _ _ st5 fun b hb o e => (I7.pin (b, o) (List.mem_append_right _ (List.mem_append_right _ (jO hb e)))).1, fun b hb => ?_, w7⟩
   obtain ⟨o, e, d⟩ := T.obj _ _ st5 b hb
   exact (I7.pin (b, o) (List.mem_append_right _ (List.mem_append_right _ (jO hb e)))).2.1
  cases f with
  | next => obtain ⟨σ7, H7, I7, n7⟩ := q7; exact again I7 n7
  | cont => obtain ⟨σ7, H7, I7, n7⟩ := q7; exact again I7 n7
  | brk => obtain ⟨σ7, H7, I7, q7⟩ := q7; exact ⟨σ7, H7, I7.unpinned, q7⟩
  | ret v => obtain ⟨x7, σ7, H7, I7, r7, q7⟩ := q7; exact ⟨x7, σ7, H7, I7.unpinned, r7, q7⟩
end
theorem XO {K : PySem.W.Frag} {a : Addr} {xs : List V} {g : TG} {tb : TS} {D : jP} {σ : St} {H : Hp} (Pv : Nat -> St -> Hp -> Prop) (h0 : Pv 0 σ H) (hl : ∀ i σ H, i <= xs.length -> Pv i σ H -> SqL K H a xs)
  (hs : ∀ i x σ H, xs[i]? = some x -> Pv i σ H -> g x σ H fun σ2 H2 => tb { D with nx := Pv (i + 1), ct := Pv (i + 1), bk := D.nx } σ2 H2) (hd : ∀ σ H, Pv xs.length σ H -> D.nx σ H) :
  ∃ W : Nat -> Nat -> St -> Hp -> Prop, (∃ m, W 0 m σ H) /\ ∀ i m σ H, W i m σ H ->
   ((Itl K a).stop i H /\ D.nx σ H) \/ ((Itl K a).go i H /\ ∃ N : St -> Hp -> Prop, (∀ σ' H', N σ' H' -> ∃ m', m' < m /\ W (i + 1) m' σ' H') /\ ∀ x H', (Itl K a).yld i H x H' -> g x σ H' fun σ2 H2 => tb { D with nx := N, ct := N, bk := D.nx } σ2 H2) := by
 refine ⟨fun i m σ H => m = xs.length - i /\ i <= xs.length /\ Pv i σ H, ⟨xs.length, by simp, Nat.zero_le _, h0⟩, ?_⟩
 rintro i m σ H ⟨rfl, hi, p⟩
 have q := hl i σ H hi p
 by_cases hlt : i < xs.length
 ·refine .inr ⟨⟨xs, xs[i], q, by simp [hlt]⟩, Pv (i + 1), fun σ' H' p' => ⟨xs.length - (i + 1), by omega, rfl, hlt, p'⟩, fun x H' y => ?_⟩
  obtain ⟨e, y⟩ := y
  subst e
  exact hs i x σ _ (y xs q) p
 ·have e : i = xs.length := by omega
  subst e
  exact .inl ⟨⟨xs, q, Nat.le_refl _⟩, hd σ H p⟩
theorem Kn {lo : Int} {n : Nat} {g : TG} {tb : TS} {D : jP} {σ : St} {H : Hp} (Pv : Nat -> St -> Hp -> Prop) (h0 : Pv 0 σ H)
  (hs : ∀ i σ H, i < n -> Pv i σ H -> g (.int (lo + i)) σ H fun σ2 H2 => tb { D with nx := Pv (i + 1), ct := Pv (i + 1), bk := D.nx } σ2 H2) (hd : ∀ σ H, Pv n σ H -> D.nx σ H) :
  ∃ W : Nat -> Nat -> St -> Hp -> Prop, (∃ m, W 0 m σ H) /\ ∀ i m σ H, W i m σ H ->
   ((Itr lo n).stop i H /\ D.nx σ H) \/ ((Itr lo n).go i H /\ ∃ N : St -> Hp -> Prop, (∀ σ' H', N σ' H' -> ∃ m', m' < m /\ W (i + 1) m' σ' H') /\ ∀ x H', (Itr lo n).yld i H x H' -> g x σ H' fun σ2 H2 => tb { D with nx := N, ct := N, bk := D.nx } σ2 H2) := by
 refine ⟨fun i m σ H => m = n - i /\ i <= n /\ Pv i σ H, ⟨n, by simp, Nat.zero_le _, h0⟩, ?_⟩
 rintro i m σ H ⟨rfl, hi, p⟩
 by_cases hlt : i < n
 ·refine .inr ⟨hlt, Pv (i + 1), fun σ' H' p' => ⟨n - (i + 1), by omega, rfl, hlt, p'⟩, fun x H' y => ?_⟩
  obtain ⟨e, y⟩ := y
  subst e y
  exact hs i σ _ hlt p
 ·have e : i = n := by omega
  subst e
  exact .inl ⟨Nat.le_refl _, hd σ H p⟩
theorem yi {c : TT} {tb : TS} {D : jP} {σ : St} {H : Hp} (Pv : St -> Hp -> Prop) (μ : St -> Hp -> Nat) (h0 : Pv σ H)
  (hs : ∀ σ H, Pv σ H -> c σ H fun b H1 => if b = true then tb { D with nx := fun σ' H' => Pv σ' H' /\ μ σ' H' < μ σ H, ct := fun σ' H' => Pv σ' H' /\ μ σ' H' < μ σ H, bk := D.nx } σ H1 else D.nx σ H1)
  (mono : ∀ σ H Q Q', (∀ b H1, Q b H1 -> Q' b H1) -> c σ H Q -> c σ H Q') : X6 c tb D σ H := by
 refine ⟨fun m σ H => m = μ σ H /\ Pv σ H, ⟨_, rfl, h0⟩, ?_⟩
 rintro m σ H ⟨rfl, p⟩
 refine mono σ H _ _ (fun b H1 q => ?_) (hs σ H p)
 cases b with
 | true => exact ⟨_, fun σ' H' ⟨p', l⟩ => ⟨_, l, rfl, p'⟩, q⟩
 | false => exact q
end L2
namespace L2
open PySem PySem.Spec PyProof.Rows
abbrev R2 := V -> V -> Hp -> VK -> Prop
def OpR (X : Cx) (f : Value -> Value -> Sem Value) (r : R2) : Prop :=
 ∀ (pins : List (Addr × Obj)) (s : Shared) (σ : St) (H : Hp) (x y : V) (v u : Value) (Q : VK), Inv X pins σ H s -> zF x v -> zF y u -> r x y H Q ->
  wpAny (model X.prog X.w) X.A (f v u) (EP X pins σ Q) X.xe s
def UnR (X : Cx) (f : Value -> Sem Value) (r : V -> Hp -> VK -> Prop) : Prop :=
 ∀ (pins : List (Addr × Obj)) (s : Shared) (σ : St) (H : Hp) (x : V) (v : Value) (Q : VK), Inv X pins σ H s -> zF x v -> r x H Q ->
  wpAny (model X.prog X.w) X.A (f v) (EP X pins σ Q) X.xe s
def qD (X : Cx) (f : Value) (r : List V -> Hp -> VK -> Prop) : Prop :=
 ∀ (pins : List (Addr × Obj)) (s : Shared) (σ : St) (H : Hp) (xs : List V) (us : List Value) (Q : VK), Inv X pins σ H s -> zC xs us -> r xs H Q ->
  wpAny (model X.prog X.w) X.A (call f us) (EP X pins σ Q) X.xe s
def tOp (r : R2) (ta tb : TE) : TE := fun σ H Q => ta σ H fun x H1 => tb σ H1 fun y H2 => r x y H2 Q
def tUn (r : V -> Hp -> VK -> Prop) (ta : TE) : TE := fun σ H Q => ta σ H fun x H1 => r x H1 Q
def rI (C : Int -> Int -> Prop) (g : Int -> Int -> V) : R2 := fun x y H Q => ∃ i j, x = .int i /\ y = .int j /\ C i j /\ Q (g i j) H
def rI0 (g : Int -> Int -> V) : R2 := fun x y H Q => ∃ i j, x = .int i /\ y = .int j /\ Q (g i j) H
def rU (g : Int -> V) : V -> Hp -> VK -> Prop := fun x H Q => ∃ i, x = .int i /\ Q (g i) H
section
variable {X : Cx} {a b c : Expr} {ta tb tc : TE} {pos : Pos}
theorem Ao (ha : PE X a ta) (hb : PE X b tb) {pins : List (Addr × Obj)} {s : Shared} {σ : St} {H : Hp} {R : V -> V -> Hp -> Prop} (I : Inv X pins σ H s)
  (h : ta σ H fun x H1 => tb σ H1 fun y H2 => R x y H2) {Q : Value -> Shared -> Prop} {f : Value -> Value -> Sem Value}
  (hf : ∀ v u s2 x y H2, Inv X pins σ H2 s2 -> zF x v -> zF y u -> R x y H2 -> wpAny (model X.prog X.w) X.A (f v u) Q X.xe s2) :
  wpAny (model X.prog X.w) X.A (eval a X.env) (fun v s₁ => wpAny (model X.prog X.w) X.A (eval b X.env) (fun u s₂ => wpAny (model X.prog X.w) X.A (f v u) Q X.xe s₂) X.xe s₁) X.xe s := by
 refine thn (ha pins s σ H _ I h) fun v s1 ⟨x, H1, I1, r1, q1⟩ => ?_
 refine thn (hb pins s1 σ H1 _ I1 q1) fun u s2 ⟨y, H2, I2, r2, q2⟩ => ?_
 exact hf v u s2 x y H2 I2 r1 r2 q2
theorem zl {op : Operator} {r : R2} (ho : OpR X (binaryOp op) r) (ha : PE X a ta) (hb : PE X b tb) : PE X (.BinOp a op b pos) (tOp r ta tb) := by
 intro pins s σ H Q I h
 exact wpAny_BinOp (Ao ha hb I h fun v u s2 x y H2 I2 rx ry q => ho pins s2 σ H2 x y v u Q I2 rx ry q)
theorem WX {op : UnaryOp} {r : V -> Hp -> VK -> Prop} (ho : UnR X (unaryOp op) r) (ha : PE X a ta) : PE X (.UnaryOp op a pos) (tUn r ta) := by
 intro pins s σ H Q I h
 exact UnaryOp_ (thn (ha pins s σ H _ I h) fun v s1 ⟨x, H1, I1, r1, q1⟩ => ho pins s1 σ H1 x v Q I1 r1 q1)
theorem opI {f : Value -> Value -> Sem Value} {C : Int -> Int -> Prop} {g : Int -> Int -> Int}
  (rule : ∀ (i j : Int) (t u : Tok) (s : Shared) (Q : Value -> Shared -> Prop) (E : Value -> Shared -> Prop), C i j -> Q (.int (g i j) s.toks) { s with toks := s.toks + 1 } -> wpAny (model X.prog X.w) X.A (f (.int i t) (.int j u)) Q E s) :
  OpR X f (rI C fun i j => .int (g i j)) := by
 intro pins s σ H x y v u Q I rx ry h
 obtain ⟨i, j, rfl, rfl, hc, q⟩ := h
 obtain ⟨t, rfl⟩ := rx
 obtain ⟨t', rfl⟩ := ry
 exact rule i j t t' s _ _ hc ⟨.int (g i j), H, I.tok _, ⟨_, rfl⟩, q⟩
theorem Dk {f : Value -> Value -> Sem Value} {g : Int -> Int -> Int}
  (rule : ∀ (i j : Int) (t u : Tok) (s : Shared) (Q : Value -> Shared -> Prop) (E : Value -> Shared -> Prop), Q (.int (g i j) s.toks) { s with toks := s.toks + 1 } -> wpAny (model X.prog X.w) X.A (f (.int i t) (.int j u)) Q E s) :
  OpR X f (rI0 fun i j => .int (g i j)) := by
 intro pins s σ H x y v u Q I rx ry h
 obtain ⟨i, j, rfl, rfl, q⟩ := h
 obtain ⟨t, rfl⟩ := rx
 obtain ⟨t', rfl⟩ := ry
 exact rule i j t t' s _ _ ⟨.int (g i j), H, I.tok _, ⟨_, rfl⟩, q⟩
theorem VO {f : Value -> Value -> Sem Value} {g : Int -> Int -> Bool}
  (rule : ∀ (i j : Int) (t u : Tok) (s : Shared) (Q : Value -> Shared -> Prop) (E : Value -> Shared -> Prop), Q (.bool (g i j)) s -> wpAny (model X.prog X.w) X.A (f (.int i t) (.int j u)) Q E s) :
  OpR X f (rI0 fun i j => .bl (g i j)) := by
 intro pins s σ H x y v u Q I rx ry h
 obtain ⟨i, j, rfl, rfl, q⟩ := h
 obtain ⟨t, rfl⟩ := rx
 obtain ⟨t', rfl⟩ := ry
 exact rule i j t t' s _ _ ⟨.bl (g i j), H, I, rfl, q⟩
def Ag (i j : Int) : Prop := 0 < j /\ j < 1073741824
def DL (i j : Int) : Prop := 0 <= j /\ j <= 1000000 /\ i.natAbs < 2 ^ 64
def KS (i j : Int) : Prop := (-(2 ^ 64) < i /\ i < 2 ^ 64) \/ (-(2 ^ 64) < j /\ j < 2 ^ 64)
theorem KS.ok {i j : Int} (h : KS i j) : IntMulOk i j := by
 rcases h with ⟨h1, h2⟩ | ⟨h1, h2⟩
 ·exact .of_left (intBits_le_64 h1 h2)
 ·exact .of_right (intBits_le_64 h1 h2)
theorem zP : OpR X (binaryOp .Add) (rI0 fun i j => .int (i + j)) := Dk fun _ _ _ _ _ _ _ q => add_int q
theorem jL : OpR X (binaryOp .Sub) (rI0 fun i j => .int (i - j)) := Dk fun _ _ _ _ _ _ _ q => sub_int q
theorem qI : OpR X (binaryOp .Mult) (rI KS fun i j => .int (i * j)) := opI fun _ _ _ _ _ _ _ hc q => mul_int q hc.ok
theorem kQ : OpR X (binaryOp .FloorDiv) (rI Ag fun i j => .int (i / j)) := opI fun i j _ _ _ _ _ hc q => by
 have h1 : (0 : Int) < j := hc.1
 have h2 : j < 1073741824 := hc.2
 exact floordiv_int (by omega) (by rw [Int.fdiv_eq_ediv_of_nonneg i (by omega)]; exact q) (.inl (PyProof.noPylong_small (by omega)))
theorem qu : OpR X (binaryOp .Mod) (rI (fun _ j => 0 < j) fun i j => .int (i % j)) := opI fun i j _ _ _ _ _ hc q => by
 have h1 : (0 : Int) < j := hc
 exact mod_int' (by omega) (by rw [Int.fmod_eq_emod_of_nonneg i (by omega)]; exact q)
theorem A0 : OpR X (binaryOp .Pow) (rI DL fun i j => .int (i ^ j.toNat)) := opI fun _ _ _ _ _ _ _ hc q => pow_int_small hc.1 hc.2.1 hc.2.2 q
theorem unI {f : Value -> Sem Value} {g : Int -> Int}
  (rule : ∀ (i : Int) (t : Tok) (s : Shared) (Q : Value -> Shared -> Prop) (E : Value -> Shared -> Prop), Q (.int (g i) s.toks) { s with toks := s.toks + 1 } -> wpAny (model X.prog X.w) X.A (f (.int i t)) Q E s) :
  UnR X f (rU fun i => .int (g i)) := by
 intro pins s σ H x v Q I rx h
 obtain ⟨i, rfl, q⟩ := h
 obtain ⟨t, rfl⟩ := rx
 exact rule i t s _ _ ⟨.int (g i), H, I.tok _, ⟨_, rfl⟩, q⟩
theorem KQ : UnR X (unaryOp .USub) (rU fun i => .int (-i)) := unI fun _ _ _ _ _ q => neg_int q
end
def Dp : V -> V -> Bool
 | .non, .non => true | .non, .int _ => true | .int _, .non => true | .non, .bl _ => true | .bl _, .non => true | .non, .str _ => true | .str _, .non => true
 | .int _, .int _ => true | .bl _, .bl _ => true | .str _, .str _ => true | .byt _, .byt _ => true
 | .int _, .str _ => true | .str _, .int _ => true | .bl _, .str _ => true | .str _, .bl _ => true
 | _, _ => false
def rEq : R2 := fun x y H Q => Dp x y = true /\ Q (.bl (decide (x = y))) H
def rNe : R2 := fun x y H Q => Dp x y = true /\ Q (.bl (!decide (x = y))) H
theorem Jq {i j : Int} : decide (V.int i = V.int j) = (i == j) := by
 rw [Bool.eq_iff_iff]
 simp
theorem KA {i j : Bool} : decide (V.bl i = V.bl j) = (i == j) := by
 rw [Bool.eq_iff_iff]
 simp
theorem Jb {i j : Str} : decide (V.str i = V.str j) = (i == j) := by
 rw [Bool.eq_iff_iff]
 simp
theorem Jk {i j : Array UInt8} : decide (V.byt i = V.byt j) = (i.toList == j.toList) := by
 rw [Bool.eq_iff_iff]
 cases i
 cases j
 simp
section
variable {X : Cx} {a b c : Expr} {ta tb tc : TE} {pos : Pos}
theorem zI {pins : List (Addr × Obj)} {σ : St} {H : Hp} {s : Shared} {Q : VK} {k k' : Bool} (I : Inv X pins σ H s) (q : Q (.bl k) H) (e : k = k') : EP X pins σ Q (.bool k') s := by
 subst e
 exact ⟨.bl k, H, I, rfl, q⟩
theorem ko : OpR X (compareOp .Eq) rEq := by
 intro pins s σ H x y v u Q I rx ry h
 obtain ⟨hs, q⟩ := h
 cases x with
 | non =>
  cases rx
  cases y with
  | non => cases ry; exact PySem.EqNone.eq_none_none (zI I q (by simp))
  | bl j => cases ry; exact PySem.EqNone.eq_none_bool (zI I q (by simp))
  | int j => obtain ⟨t', rfl⟩ := ry; exact PySem.EqNone.eq_none_int (zI I q (by simp))
  | str j => obtain ⟨t', rfl⟩ := ry; exact PySem.EqNone.eq_none_str (zI I q (by simp))
  | _ => exact absurd (show false = true from hs) Bool.false_ne_true
 | bl i =>
  cases rx
  cases y with
  | non => cases ry; exact PySem.EqNone.eq_bool_none (zI I q (by simp))
  | bl j => cases ry; exact eq_bool (zI I q KA)
  | str j => obtain ⟨t', rfl⟩ := ry; exact PySem.EqMixed.eq_bool_str (zI I q (by simp))
  | _ => exact absurd (show false = true from hs) Bool.false_ne_true
 | int i =>
  obtain ⟨t, rfl⟩ := rx
  cases y with
  | non => cases ry; exact PySem.EqNone.eq_int_none (zI I q (by simp))
  | int j => obtain ⟨t', rfl⟩ := ry; exact eq_int (zI I q Jq)
  | str j => obtain ⟨t', rfl⟩ := ry; exact PySem.EqMixed.eq_int_str (zI I q (by simp))
  | _ => exact absurd (show false = true from hs) Bool.false_ne_true
 | str i =>
  obtain ⟨t, rfl⟩ := rx
  cases y with
  | non => cases ry; exact PySem.EqNone.eq_str_none (zI I q (by simp))
  | bl j => cases ry; exact PySem.EqMixed.eq_str_bool (zI I q (by simp))
  | int j => obtain ⟨t', rfl⟩ := ry; exact PySem.EqMixed.eq_str_int (zI I q (by simp))
  | str j => obtain ⟨t', rfl⟩ := ry; exact eq_str (zI I q Jb)
  | _ => exact absurd (show false = true from hs) Bool.false_ne_true
 | byt i =>
  obtain ⟨t, rfl⟩ := rx
  cases y with
  | byt j => obtain ⟨t', rfl⟩ := ry; exact PySem.W.eq_bytes (zI I q Jk)
  | _ => exact absurd (show false = true from hs) Bool.false_ne_true
 | _ => cases y <;> exact absurd (show false = true from hs) Bool.false_ne_true
theorem WH : OpR X (compareOp .NotEq) rNe := by
 intro pins s σ H x y v u Q I rx ry h
 obtain ⟨hs, q⟩ := h
 cases x with
 | non =>
  cases rx
  cases y with
  | non => cases ry; exact PySem.EqNone.ne_none_none (zI I q (by simp))
  | bl j => cases ry; exact PySem.EqNone.ne_none_bool (zI I q (by simp))
  | int j => obtain ⟨t', rfl⟩ := ry; exact PySem.EqNone.ne_none_int (zI I q (by simp))
  | str j => obtain ⟨t', rfl⟩ := ry; exact PySem.EqNone.ne_none_str (zI I q (by simp))
  | _ => exact absurd (show false = true from hs) Bool.false_ne_true
 | bl i =>
  cases rx
  cases y with
  | non => cases ry; exact PySem.EqNone.ne_bool_none (zI I q (by simp))
  | bl j => cases ry; exact ne_bool (zI I q (congrArg not KA))
  | str j => obtain ⟨t', rfl⟩ := ry; exact PySem.EqMixed.ne_bool_str (zI I q (by simp))
  | _ => exact absurd (show false = true from hs) Bool.false_ne_true
 | int i =>
  obtain ⟨t, rfl⟩ := rx
  cases y with
  | non => cases ry; exact PySem.EqNone.ne_int_none (zI I q (by simp))
  | int j => obtain ⟨t', rfl⟩ := ry; exact ne_int (zI I q (congrArg not Jq))
  | str j => obtain ⟨t', rfl⟩ := ry; exact PySem.EqMixed.ne_int_str (zI I q (by simp))
  | _ => exact absurd (show false = true from hs) Bool.false_ne_true
 | str i =>
  obtain ⟨t, rfl⟩ := rx
  cases y with
  | non => cases ry; exact PySem.EqNone.ne_str_none (zI I q (by simp))
  | bl j => cases ry; exact PySem.EqMixed.ne_str_bool (zI I q (by simp))
  | int j => obtain ⟨t', rfl⟩ := ry; exact PySem.EqMixed.ne_str_int (zI I q (by simp))
  | str j => obtain ⟨t', rfl⟩ := ry; exact ne_str (zI I q (congrArg not Jb))
  | _ => exact absurd (show false = true from hs) Bool.false_ne_true
 | byt i =>
  obtain ⟨t, rfl⟩ := rx
  cases y with
  | byt j => obtain ⟨t', rfl⟩ := ry; exact PySem.W.ne_bytes (zI I q (congrArg not Jk))
  | _ => exact absurd (show false = true from hs) Bool.false_ne_true
 | _ => cases y <;> exact absurd (show false = true from hs) Bool.false_ne_true
theorem vo : OpR X (compareOp .Lt) (rI0 fun i j => .bl (decide (i < j))) := VO fun _ _ _ _ _ _ _ q => lt_int q
theorem Xq : OpR X (compareOp .LtE) (rI0 fun i j => .bl (decide (i <= j))) := VO fun _ _ _ _ _ _ _ q => le_int q
theorem Xf : OpR X (compareOp .Gt) (rI0 fun i j => .bl (decide (j < i))) := VO fun _ _ _ _ _ _ _ q => gt_int q
theorem Yl : OpR X (compareOp .GtE) (rI0 fun i j => .bl (decide (j <= i))) := VO fun _ _ _ _ _ _ _ q => ge_int q
theorem zu (b : Expr) {op : CmpOp} (h : op ≠ .In := by decide) (h2 : op ≠ .NotIn := by decide) : behindInMarks op b = false := by
 have e1 : (op == CmpOp.In) = false := by cases op <;> first | rfl | exact absurd rfl h
 have e2 : (op == CmpOp.NotIn) = false := by cases op <;> first | rfl | exact absurd rfl h2
 cases b <;> simp [behindInMarks, e1, e2]
theorem qS {op : CmpOp} {r : R2} (ho : OpR X (compareOp op) r) (ha : PE X a ta) (hb : PE X b tb) (hm : behindInMarks op b = false) : PE X (.Compare a [op] [b] pos) (tOp r ta tb) := by
 intro pins s σ H Q I h
 exact wpAny_Compare1 (Ao ha hb I h fun v u s2 x y H2 I2 rx ry q => ho pins s2 σ H2 x y v u Q I2 rx ry q) hm
def yf (t : TE) : TT := fun σ H Q => t σ H fun x H' => ∃ k, x = .bl k /\ Q k H'
theorem zx {op : CmpOp} {r : R2} (ho : OpR X (compareOp op) r) (ha : PE X a ta) (hb : PE X b tb) (hm : behindInMarks op b = false) : PT X (.Compare a [op] [b] pos) (yf (tOp r ta tb)) := by
 intro pins s σ H Q I h
 refine wpAny_isTrue_Compare1 (thn (ha pins s σ H _ I h) fun v s1 ⟨x, H1, I1, r1, q1⟩ => thn (hb pins s1 σ H1 _ I1 q1) fun u s2 ⟨y, H2, I2, r2, q2⟩ =>
  thn (ho pins s2 σ H2 x y v u _ I2 r1 r2 q2) fun c s3 ⟨z, H3, I3, r3, k, e, q3⟩ => ?_) hm
 subst e
 cases r3
 exact wpAny_truthy_bool ⟨H3, I3, q3⟩
def Qd (r r' : R2) (ta tb tc : TE) : TE := fun σ H Q => ta σ H fun x H1 => tb σ H1 fun y H2 => r x y H2 fun z H3 => ∃ k, z = .bl k /\
 (if k = true then tc σ H3 fun w' H4 => r' y w' H4 Q else Q (.bl false) H3)
theorem YT {op op' : CmpOp} {r r' : R2} (ho : OpR X (compareOp op) r) (ho' : OpR X (compareOp op') r') (ha : PE X a ta) (hb : PE X b tb) (hc : PE X c tc)
  (hm : lastMarks [op, op'] [b, c] = false := by with_unfolding_all rfl) : PE X (.Compare a [op, op'] [b, c] pos) (Qd r r' ta tb tc) := by
 intro pins s σ H Q I h
 refine Compare_chain (thn (ha pins s σ H _ I h) fun v s1 ⟨x, H1, I1, r1, q1⟩ => chain_link (thn (hb pins s1 σ H1 _ I1 q1) fun u s2 ⟨y, H2, I2, r2, q2⟩ =>
  thn (ho pins s2 σ H2 x y v u _ I2 r1 r2 q2) fun d s3 ⟨z, H3, I3, r3, k, e, q3⟩ => ?_)) hm
 subst e
 cases r3
 refine wpAny_truthy_bool ?_
 cases k with
 | false => exact ite_ff ⟨.bl false, H3, I3, rfl, q3⟩
 | true => exact ite_tt (chain_last (thn (hc pins s3 σ H3 _ I3 q3) fun w' s4 ⟨z', H4, I4, r4, q4⟩ => ho' pins s4 σ H4 y z' u w' Q I4 r2 r4 q4))
theorem YM {op op' : CmpOp} {r r' : R2} (ho : OpR X (compareOp op) r) (ho' : OpR X (compareOp op') r') (ha : PE X a ta) (hb : PE X b tb) (hc : PE X c tc)
  (hm : lastMarks [op, op'] [b, c] = false := by with_unfolding_all rfl) : PT X (.Compare a [op, op'] [b, c] pos) (yf (Qd r r' ta tb tc)) := by
 intro pins s σ H Q I h
 refine isTrue_chain (thn (ha pins s σ H _ I h) fun v s1 ⟨x, H1, I1, r1, q1⟩ => test_link (thn (hb pins s1 σ H1 _ I1 q1) fun u s2 ⟨y, H2, I2, r2, q2⟩ =>
  thn (ho pins s2 σ H2 x y v u _ I2 r1 r2 q2) fun d s3 ⟨z, H3, I3, r3, k, e, q3⟩ => ?_)) hm
 subst e
 cases r3
 refine wpAny_truthy_bool ?_
 cases k with
 | false =>
  obtain ⟨k', e', q'⟩ := q3
  cases e'
  exact ite_ff ⟨H3, I3, q'⟩
 | true =>
  refine ite_tt (test_last (thn (hc pins s3 σ H3 _ I3 q3) fun w' s4 ⟨z', H4, I4, r4, q4⟩ => thn (ho' pins s4 σ H4 y z' u w' _ I4 r2 r4 q4) fun d' s5 ⟨z2, H5, I5, r5, k2, e2, q5⟩ => ?_))
  subst e2
  cases r5
  exact wpAny_truthy_bool ⟨H5, I5, q5⟩
theorem yh : (sizeLine : Nat) < 2 ^ 63 := by rw [sizeLine_eq]; decide
theorem jS {x : V} {us : List Value} (r : zC [x] us) : ∃ u, us = [u] /\ zF x u := by
 cases r with
 | cons r1 r2 => cases r2; exact ⟨_, rfl, r1⟩
theorem Zq {x y : V} {us : List Value} (r : zC [x, y] us) : ∃ u w', us = [u, w'] /\ zF x u /\ zF y w' := by
 cases r with
 | cons r1 r2 =>
  cases r2 with
  | cons r3 r4 => cases r4; exact ⟨_, _, rfl, r1, r3⟩
theorem ZY : qD X (.builtin "abs") (fun xs H Q => ∃ i, xs = [.int i] /\ Q (.int (if i < 0 then -i else i)) H) := by
 intro pins s σ H xs us Q I r h
 obtain ⟨i, rfl, q⟩ := h
 obtain ⟨u, rfl, t, rfl⟩ := jS r
 exact call_abs_int fun u tk => ⟨.int (if i < 0 then -i else i), H, I.tok _, ⟨_, rfl⟩, q⟩
theorem vd (hc : X.calm = true) : qD X (.builtin "max") (fun xs H Q => ∃ i j, xs = [.int i, .int j] /\ Q (.int (if j > i then j else i)) H) := by
 intro pins s σ H xs us Q I r h
 obtain ⟨i, j, rfl, q⟩ := h
 obtain ⟨u, w', rfl, ⟨t, rfl⟩, ⟨t', rfl⟩⟩ := Zq r
 refine max_two_ints (I.ok.hd hc) fun h' tk k => ⟨_, H, I.kept k, ?_, q⟩
 by_cases hj : j > i
 ·rw [if_pos hj, if_pos hj]; exact ⟨_, rfl⟩
 ·rw [if_neg hj, if_neg hj]; exact ⟨_, rfl⟩
theorem Kr : qD X (.type "int") (fun xs H Q => (∃ i, xs = [.int i] /\ Q (.int i) H) \/ ∃ k, xs = [.bl k] /\ Q (.int (if k then 1 else 0)) H) := by
 intro pins s σ H xs us Q I r h
 rcases h with ⟨i, rfl, q⟩ | ⟨k, rfl, q⟩
 ·obtain ⟨u, rfl, t, rfl⟩ := jS r
  exact call_int_int ⟨.int i, H, I, ⟨_, rfl⟩, q⟩
 ·obtain ⟨u, rfl, r1⟩ := jS r
  cases r1
  exact call_int_bool ⟨.int (if k then 1 else 0), H, I.tok _, ⟨_, rfl⟩, q⟩
theorem wD : qD X (.builtin "divmod") (fun xs H Q => ∃ i j, xs = [.int i, .int j] /\ Ag i j /\ ∀ p, H p = none -> Q (.ref p) (upd H p (.tup [.int (i / j), .int (i % j)]))) := by
 intro pins s σ H xs us Q I r h
 obtain ⟨i, j, rfl, ⟨h1, h2⟩, q⟩ := h
 obtain ⟨u, w', rfl, ⟨t, rfl⟩, ⟨t', rfl⟩⟩ := Zq r
 refine divmod_int (by omega) ?_ (.inl (PyProof.noPylong_small (by omega)))
 rw [Int.fdiv_eq_ediv_of_nonneg i (by omega), Int.fmod_eq_emod_of_nonneg i (by omega)]
 have hn : H s.heap.objs.size = none := I.hok.fresh (Nat.le_refl _)
 refine ⟨.ref s.heap.objs.size, _, ?_, rfl, q _ hn⟩
 refine I.laid (fun b o e => Heap.get?_push_of_some _ e) (Nat.le_refl _) ⟨by simp only [List.length_cons, List.length_nil]; rw [sizeLine_eq]; decide, [.int (i / j) s.toks, .int (i % j) (s.toks + 1)], .cons ⟨_, rfl⟩ (.cons ⟨_, rfl⟩ .nil), ?_⟩
 exact ⟨_, Heap.get?_push_size s.heap rfl, rfl, ⟨0, rfl⟩, rfl⟩
end
end L2
namespace L2
open PySem PySem.Spec PyProof.Rows
structure YA (h : Heap) (x dx C : Addr) (mA : Str -> Option Value) : Prop where
 obj : h.get? x = some (PySem.W.instObj C dx)
 ns : h.Ns1 dx mA
 ne : dx ≠ x
theorem Ke {h : Heap} {dx : Addr} {mA : Str -> Option Value} (n : h.Ns1 dx mA) : ∃ od, h.get? dx = some od /\ ∀ name, PySem.W.lookIn name od = some (mA name) := by
 obtain ⟨o, es, ep, ho, hd, hk, _, hm⟩ := n
 refine ⟨o, ho, fun name => ?_⟩
 have e := hm name
 unfold nsFind findBy at e
 rw [<- Array.find?_toList] at e
 unfold PySem.W.lookIn
 rw [hd]
 dsimp only
 split
 ·rename_i y q
  rw [q] at e
  exact congrArg some e
 ·rename_i q
  rw [q] at e
  have a : es.toList.any (·.refKey) = false := by
   rw [List.any_eq_false]
   intro y hy
   obtain ⟨z, t, hkey⟩ := hk y (Array.mem_toList_iff.mp hy)
   simp [DictEntry.refKey, hkey]
  have a' : ¬ es.toList.any (·.refKey) = true := by rw [a]; exact Bool.false_ne_true
  rw [if_neg a']
  exact congrArg some e
theorem YA.look {h : Heap} {x dx C : Addr} {mA : Str -> Option Value} (I : YA h x dx C mA) : ∃ od, PySem.W.InstAt h x (PySem.W.instObj C dx) C (some od) /\ ∀ name, PySem.W.lookIn name od = some (mA name) :=
 let ⟨od, ho, hl⟩ := Ke I.ns
 ⟨od, ⟨I.obj, rfl, rfl, ho⟩, hl⟩
section
variable {prog : Program} {w : World} {A : Around} {E : Value -> Shared -> Prop} {s : Shared} {K : PySem.W.Frag} {x dx C f : Addr} {mA : Str -> Option Value} {name : Str} {v : Value}
theorem kh {ns : List Str} {Q : Unit -> Shared -> Prop} (X : K.In s.heap) (I : YA s.heap x dx C mA)
  (hs : PySem.W.findIn K (.ref C) "__setattr__" = some (some (.builtin "object.__setattr__"))) (hp : PySem.W.plainOver K C = true) (ht : PySem.W.takerIn K C name = some none) (hh : PySem.W.hasDictIn K C = true)
  (hw : PySem.Within mA ns) (hsz : ns.length <= sizeLine)
  (h : ∀ h', YA h' x dx C (fun y => if y = name then some v else mA y) -> Heap.SameBut dx s.heap h' -> Q () { s with heap := h', toks := s.toks + 2 }) :
  wpAny (model prog w) A (setAttr (.ref x) name v) Q E s := by
 obtain ⟨od, J, hl⟩ := I.look
 refine PySem.W.set_plain X J hs (PySem.W.osa_open (s := { s with toks := s.toks + 1 }) (r := none) X J hp ht fun b => ?_)
 obtain ⟨cd, hc, hd'⟩ := PySem.W.any_some hh
 have hx : s.heap.get? x = some ⟨.ref C, some dx, .plain, #[]⟩ := I.obj
 refine wpAny_bind (wpAny_pure (wpAny_bind (wpAny_bind (wpAny_loadPart hx (wpAny_bind (PySem.W.Looks.here (s := { s with toks := s.toks + 1 }) (PySem.W.looks_clsIn X hc) ?_))))))
 rw [hd']
 refine wpAny_pure (a := some dx) (wpAny_bind (wpAny_pure (wpAny_bind ?_)))
 refine wpAny_nsSet1 (s := { s with toks := s.toks + 1 }) I.ns fun h' hn2 hs2 => ?_
 obtain ⟨oD, esD, epD, hoD, hdD, hcD⟩ := hn2.count (PySem.Within.cons name v hw)
 refine wpAny_bind (wpAny_lookBehind hoD (by rw [hdD]; exact pastItsLine_dict (Nat.le_trans hcD (by rw [List.length_cons]; omega))) ?_)
 exact wpAny_pure (h _ ⟨(hs2.2 _ (Ne.symm I.ne)).trans I.obj, hn2, I.ne⟩ hs2)
end
section
variable {P : Program} {w : World} {H H' : Hp} {h h' : Heap} {a C dx : Addr} {fs fs' : List (Str × V)}
theorem VW (hok : HOk P w H h) (e : H a = some (.ins C dx fs)) : ∃ mA, YA h a dx C mA /\ (∀ f, Aq (fs.lookup f) (mA f)) /\ PySem.Within mA (fs.map (·.1)) /\ fs.length <= 1000 /\ H dx = some (.own a) := by
 obtain ⟨d, z, ne, ob, mA, n, r, q⟩ := (show zT P w H h a (.ins C dx fs) from hok a _ e)
 exact ⟨mA, ⟨ob, n, ne⟩, r, q, z, d⟩
end
structure Cls (K : PySem.W.Frag) (C : Addr) : Prop where
 pg : PySem.W.plainGet K C Str.empty = true
 hd : PySem.W.hasDictIn K C = true
 po : PySem.W.plainOver K C = true
 sa : PySem.W.findIn K (.ref C) "__setattr__" = some (some (.builtin "object.__setattr__"))
theorem Cls.get {K : PySem.W.Frag} {C : Addr} (c : Cls K C) (f : Str) : PySem.W.plainGet K C f = true := c.pg
structure Con (K : PySem.W.Frag) (C : Addr) (f : Str) (v : V) (u : Value) : Prop where
 at_ : PySem.W.findIn K (.ref C) f = some (some u)
 rel : zF v u
 get : PySem.W.specialIn K u "__get__" = some none
 cp : PySem.W.copiedNames.contains f = false
structure DM (K : PySem.W.Frag) (C : Addr) (m : Str) (f : Addr) : Prop where
 at_ : PySem.W.findIn K (.ref C) m = some (some (.ref f))
 fn : PySem.W.isFn K (.ref f) = true
 kp : PySem.W.keepIn K (.ref f) = true
section
variable {X : Cx} {pins : List (Addr × Obj)} {σ : St} {H : Hp} {s : Shared} {a C dx : Addr} {fs : List (Str × V)} {f : Str} {v : V} {A : Around} {E : Value -> Shared -> Prop}
end
section
variable {X : Cx} {o e value : Expr} {f : Str} {pos pos' tpos : Pos} {ta tv : TE}
end
section
variable {X : Cx} {pins : List (Addr × Obj)} {σ : St} {H : Hp} {s : Shared} {A : Around} {E : Value -> Shared -> Prop} {Q : Value -> Shared -> Prop} {c : Value} {b : Bool}
inductive j5 (K : PySem.W.Frag) (H : Hp) : V -> Value -> Prop where
  | non : j5 K H .non (.type "NoneType")
  | bl (x : Bool) : j5 K H (.bl x) (.type "bool")
  | int (i : Int) : j5 K H (.int i) (.type "int")
  | str (x : Str) : j5 K H (.str x) (.type "str")
  | flt (x : UInt64) : j5 K H (.flt x) (.type "float")
  | lst {a : Addr} {xs : List V} (e : H a = some (.lst xs)) : j5 K H (.ref a) (.type "list")
  | frz {a : Addr} {o : Obj} {xs : List V} (e : H a = some (.frz o (.lst xs))) : j5 K H (.ref a) (.type "list")
  | tup {a : Addr} {xs : List V} (e : H a = some (.tup xs)) : j5 K H (.ref a) (.type "tuple")
  | dK {a : Addr} {kvs : List (Key × V)} (e : H a = some (.dK kvs)) : j5 K H (.ref a) (.type "dict")
  | dT {a : Addr} {kvs : List (List Key × V)} (e : H a = some (.dT kvs)) : j5 K H (.ref a) (.type "dict")
  | ins {a C dx : Addr} {fs : List (Str × V)} (e : H a = some (.ins C dx fs)) (cl : Cls K C) (ha : PySem.W.findIn K (.ref C) "__class__" = some (some (.builtin "object.__class__")))
      (hn : PySem.W.specialIn K (.builtin "object.__class__") "__get__" = some (some (.builtin "getset_descriptor.__get__"))) (htk : PySem.W.takesIn K (.builtin "object.__class__") = some true)
      (hm : PySem.W.mroIn K C (.type "object") = some true) : j5 K H (.ref a) (.ref C)
theorem JY {x : V} {u t : Value} (I : Inv X pins σ H s) (rx : zF x u) (ty : j5 X.K H x t) (e : PySem.W.kitOne X.K t c = some b) (h : ∀ tk, Q (.bool b) { s with toks := tk }) :
  wpAny (model X.prog X.w) A (call (.builtin "isinstance") [u, c]) Q E s := by
 cases ty with
 | non => cases (show u = Value.none from rx); exact PySem.W.kia_one PySem.W.kitx_none I.kIn True.intro e (fun z => nomatch z) h
 | bl y => cases (show u = Value.bool y from rx); exact PySem.W.kia_one PySem.W.kitx_bool I.kIn True.intro e (fun z => nomatch z) h
 | int i => obtain ⟨t, q⟩ := (show ∃ t, u = Value.int i t from rx); cases q; exact PySem.W.kia_one PySem.W.kitx_int I.kIn True.intro e (fun z => nomatch z) h
 | str y => obtain ⟨t, q⟩ := (show ∃ t, u = Value.str y t from rx); cases q; exact PySem.W.kia_one PySem.W.kitx_str I.kIn True.intro e (fun z => nomatch z) h
 | flt y => obtain ⟨t, q⟩ := (show ∃ t, u = Value.float y t from rx); cases q; exact PySem.W.kia_one PySem.W.kitx_float I.kIn True.intro e (fun z => nomatch z) h
 | @lst a xs ea =>
  cases (show u = Value.ref a from rx)
  obtain ⟨_, _, n, _, h1⟩ := (show zT X.prog X.w H s.heap a (.lst xs) from I.hok a _ ea)
  exact PySem.W.kia_one PySem.W.kitx_list I.kIn ⟨_, h1, rfl⟩ e (fun z => nomatch z) h
 | @frz a ob xs ea =>
  cases (show u = Value.ref a from rx)
  obtain ⟨_, _, _, n, _, h1⟩ := (show zT X.prog X.w H s.heap a (.frz ob (.lst xs)) from I.hok a _ ea)
  exact PySem.W.kia_one PySem.W.kitx_list I.kIn ⟨_, h1, rfl⟩ e (fun z => nomatch z) h
 | @tup a xs ea =>
  cases (show u = Value.ref a from rx)
  obtain ⟨_, _, _, p⟩ := (show zT X.prog X.w H s.heap a (.tup xs) from I.hok a _ ea)
  obtain ⟨o, h1, h2, _⟩ := p
  exact PySem.W.kia_one PySem.W.kitx_tuple I.kIn ⟨o, h1, h2⟩ e (fun z => nomatch z) h
 | @dK a kvs ea =>
  cases (show u = Value.ref a from rx)
  obtain ⟨_, _, vs, _, p⟩ := (show zT X.prog X.w H s.heap a (.dK kvs) from I.hok a _ ea)
  obtain ⟨o, es, ep, h1, h2, _⟩ := p
  exact PySem.W.kia_one PySem.W.kitx_dict I.kIn ⟨o, h1, h2.1⟩ e (fun z => nomatch z) h
 | @dT a kvs ea =>
  cases (show u = Value.ref a from rx)
  obtain ⟨_, _, xs, _, o, es, ep, h1, h2, _⟩ := (show zT X.prog X.w H s.heap a (.dT kvs) from I.hok a _ ea)
  exact PySem.W.kia_one PySem.W.kitx_dict I.kIn ⟨o, h1, h2.1⟩ e (fun z => nomatch z) h
 | @ins a C dx fs ea cl ha hn htk hm =>
  cases (show u = Value.ref a from rx)
  obtain ⟨mA, O, _⟩ := VW I.hok ea
  obtain ⟨od, J, _⟩ := O.look
  exact PySem.W.kia_one (PySem.W.kitx_own (cl.get _) cl.hd ha hn htk hm) I.kIn J e (fun z => nomatch z) h
end
end L2
namespace L2
open PySem PySem.Spec PyProof.Rows
structure jr (k : Nat) (A : Around) : Prop where
 hd : A.handled = none
 gd : A.guards = some []
 dp : A.depth + 3 * k + 5 < recursionLimit
 un : A.units + 16 * k + 200 < cLine
theorem jr.mono {j k : Nat} {A : Around} (r : jr k A) (h : j <= k) : jr j A := ⟨r.hd, r.gd, by have := r.dp; omega, by have := r.un; omega⟩
theorem jr.deeper {k : Nat} {A : Around} (r : jr (k + 1) A) (env : Env) : jr k (A.deeper env) :=
 ⟨r.hd, r.gd, by have := r.dp; show A.depth + 1 + 3 * k + 5 < _; omega, by have := r.un; show A.units + 3 + 16 * k + 200 < _; omega⟩
theorem jr.depth {k : Nat} {A : Around} (r : jr k A) : A.depth < recursionLimit := by have := r.dp; omega
theorem jr.units {k : Nat} {A : Around} (r : jr k A) : A.units + 64 < cLine := by have := r.un; omega
def A7 : TA := fun _ H Q => Q [] H
def XS (ta : TE) (tr : TA) : TA := fun σ H Q => ta σ H fun x H1 => tr σ H1 fun xs H2 => Q (x :: xs) H2
section
variable {X : Cx} {e : Expr} {es : List Expr} {te : TE} {t : TA} {pos : Pos}
theorem zb : PA X [] A7 := fun _ _ _ _ H Q I h => Calls.spliced_nil ⟨[], H, I, .nil, h⟩
theorem za (ha : PE X e te) (hr : PA X es t) (hs : starEach (e :: es) X.env = (false, eval e X.env) :: starEach es X.env := by rfl) : PA X (e :: es) (XS te t) := by
 intro pos pins s σ H Q I h
 rw [hs]
 show wpAny _ _ (spliced ((false, eval e X.env) :: backTo pos (starEach es X.env))) _ _ s
 refine Calls.spliced_cons (thn (ha pins s σ H _ I h) fun u s1 ⟨x, H1, I1, r1, q1⟩ => ?_)
 exact thn (hr pos pins s1 σ H1 _ I1 q1) fun us s2 ⟨xs, H2, I2, r2, q2⟩ => ⟨x :: xs, H2, I2, .cons r1 r2, q2⟩
def W2 (t : TA) : TE := fun σ H Q => t σ H fun xs H1 => xs.length <= sizeLine /\ ∀ p, H1 p = none -> Q (.ref p) (upd H1 p (.tup xs))
def W9 (t : TA) : TE := fun σ H Q => t σ H fun xs H1 => xs.length <= sizeLine /\ ∀ p, H1 p = none -> Q (.ref p) (upd H1 p (.lst xs))
theorem xt {x1} (h : PA X es t) : PE X (.Tuple es x1 pos) (W2 t) := by
 intro pins s σ H Q I hq
 refine wpAny_Tuple_spliced (thn (h pos pins s σ H _ I hq) fun us s1 ⟨xs, H1, I1, r, z, q⟩ => ⟨by rw [<- r.length]; exact z, ?_⟩)
 have hf : H1 s1.heap.objs.size = none := I1.hok.fresh (Nat.le_refl _)
 refine ⟨.ref s1.heap.objs.size, upd H1 s1.heap.objs.size (.tup xs), I1.laid (t' := s1.toks) (fun b u e => Heap.get?_push_of_some _ e) (Nat.le_refl _) ?_, rfl, q _ hf⟩
 exact ⟨z, us, r, ⟨_, Heap.get?_push_size _ rfl, rfl, ⟨_, rfl⟩, rfl⟩⟩
theorem zZ (h : PA X es t) : PE X (.List es pos) (W9 t) := by
 intro pins s σ H Q I hq
 refine wpAny_List_spliced (thn (h pos pins s σ H _ I hq) fun us s1 ⟨xs, H1, I1, r, z, q⟩ => ⟨by rw [<- r.length]; exact z, ?_⟩)
 have hf : H1 s1.heap.objs.size = none := I1.hok.fresh (Nat.le_refl _)
 refine ⟨.ref s1.heap.objs.size, upd H1 s1.heap.objs.size (.lst xs), I1.laid (t' := s1.toks) (fun b u e => Heap.get?_push_of_some _ e) (Nat.le_refl _) ?_, rfl, q _ hf⟩
 exact ⟨z, us, 0, r, Heap.get?_push_size _ rfl⟩
end
abbrev Sp := List V -> Hp -> VK -> XK -> Prop
abbrev CXT := List Env -> Hp -> Shared -> XK -> Value -> Shared -> Prop
structure VC (P : Program) (w : World) (K : PySem.W.Frag) (mg : Str -> Option Value) (base : Heap) (A : Around) (outer : List Env) (s : Shared) (H : Hp) : Prop where
 frames : A.frames = some outer
 mod : Mod K mg base
 bs : ∀ b o, base.get? b = some o -> s.heap.get? b = some o /\ H b = none
 bsz : base.objs.size <= s.heap.objs.size
 funs : s.heap.FunFrames base outer
 frf : ∀ b ∈ frs outer, H b = none
 hok : HOk P w H s.heap
 bare : AllBare s.gens
def CE (outer : List Env) (P : Program) (w : World) (H : Hp) (s : Shared) (Q : VK) (u : Value) (s' : Shared) : Prop :=
 ∃ v H', s'.os = s.os /\ AllBare s'.gens /\ Un (frs outer) [] H H' s.heap s'.heap /\ HOk P w H' s'.heap /\ zF v u /\ Q v H'
def CR (CX : CXT) (outer : List Env) (P : Program) (w : World) (H : Hp) (s : Shared) (Q : VK) (E : XK) (r : Result) (s' : Shared) : Prop :=
 match r with
 | .ok (.ret u) => CE outer P w H s Q u s'
 | .ok _ => False
 | .error e => CX outer H s E e s'
structure kj (P : Program) (w : World) (K : PySem.W.Frag) (mg : Str -> Option Value) (base : Heap) (CX : CXT) (k : Nat) (f : Addr) (fd : FuncData) (ps : List Str) (sp : Sp) : Prop where
 len : ∀ vs H Q E, sp vs H Q E -> vs.length = ps.length
 run : ∀ (A : Around) (outer : List Env) (s : Shared) (H : Hp) (args : Args) (us : List Value) (vs : List V) (Q : VK) (E : XK), jr k A -> VC P w K mg base A outer s H -> BindsTo s fd args (ps.zip us) -> zC vs us -> sp vs H Q E ->
  codeAny (model P w) A (.call (.ref f) args) (CR CX outer P w H s Q E) s
theorem kj.mono {P : Program} {w : World} {K : PySem.W.Frag} {mg : Str -> Option Value} {base : Heap} {CX : CXT} {j k : Nat} {f : Addr} {fd : FuncData} {ps : List Str} {sp : Sp} (F : kj P w K mg base CX j f fd ps sp) (h : j <= k) :
  kj P w K mg base CX k f fd ps sp := ⟨F.len, fun A outer s H args us vs Q E hr => F.run A outer s H args us vs Q E (hr.mono h)⟩
theorem kj.imp {P : Program} {w : World} {K : PySem.W.Frag} {mg : Str -> Option Value} {base : Heap} {CX : CXT} {k : Nat} {f : Addr} {fd : FuncData} {ps : List Str} {sp sp' : Sp} (F : kj P w K mg base CX k f fd ps sp)
  (h : ∀ vs H Q E, sp' vs H Q E -> sp vs H Q E) : kj P w K mg base CX k f fd ps sp' :=
 ⟨fun vs H Q E q => F.len vs H Q E (h _ _ _ _ q), fun A outer s H args us vs Q E hr he hb hv hs => F.run A outer s H args us vs Q E hr he hb hv (h _ _ _ _ hs)⟩
section
variable {X : Cx} {pins : List (Addr × Obj)} {σ : St} {H : Hp} {s s' : Shared}
theorem Inv.env0 (I : Inv X pins σ H s) : VC X.prog X.w X.K X.mg X.base X.A X.stack s H :=
 ⟨I.ok.frames, I.ok.mod, I.bs, Nat.le_trans I.ok.bsz I.sz, I.stack, I.stkFree, I.hok, I.bare⟩
theorem Inv.after {Q : VK} {u : Value} (I : Inv X pins σ H s) (h : CE X.stack X.prog X.w H s Q u s') : EP X pins σ Q u s' := by
 obtain ⟨v, H', os, bare, un, hok, r, q⟩ := h
 obtain ⟨hh, g, d, t, os'⟩ := s'
 obtain rfl : os' = s.os := os
 exact ⟨v, H', I.call (h' := hh) (g' := g) (d' := d) (t' := t) (ch := []) un hok bare (fun b z => absurd z (by simp)), r, q⟩
end
def Jp (sp : Sp) (dvs : List V) (E : XK) (t : TA) : TE := fun σ H Q => t σ H fun vs H1 => sp (vs ++ dvs) H1 Q E
def yS (K : PySem.W.Frag) (fd : FuncData) (ps : List Str) (ds : List Value) : Prop :=
 ∀ (s : Shared) (us : List Value), K.In s.heap -> (us ++ ds).length = ps.length -> BindsTo s fd ⟨us, []⟩ (ps.zip (us ++ ds))
theorem yS.all {K : PySem.W.Frag} {fd : FuncData} {ps : List Str} (h : ∀ us : List Value, us.length = ps.length -> bindArgs fd ⟨us, []⟩ = pure (ps.zip us)) : yS K fd ps [] := fun s us _ hl => by
 rw [List.append_nil] at hl ⊢
 exact .of_eq (h us hl)
def Qf (CX : CXT) (X : Cx) (E : XK) : Prop := ∀ (pins : List (Addr × Obj)) (σ : St) (H : Hp) (s : Shared) (e : Value) (s' : Shared), Inv X pins σ H s -> CX X.stack H s E e s' -> X.xe e s'
section
variable {X : Cx} {CX : CXT} {k : Nat} {f C : Addr} {fd : FuncData} {ps : List Str} {sp : Sp} {dvs : List V} {ds : List Value} {E : XK} {x m : Str} {p pos apos : Pos} {e o : Expr} {es : List Expr} {ta : TE} {t : TA}
theorem BB {pins : List (Addr × Obj)} {σ : St} {H : Hp} {s : Shared} {Q : VK} {us : List Value} {vs : List V} (F : kj X.prog X.w X.K X.mg X.base CX k f fd ps sp) (hr : jr k X.A) (hb : yS X.K fd ps ds) (hd : zC dvs ds) (hx : Qf CX X E)
  (I : Inv X pins σ H s) (r : zC vs us) (h : sp (vs ++ dvs) H Q E) : wpAny (model X.prog X.w) X.A (call (.ref f) us) (EP X pins σ Q) X.xe s := by
 have r2 : zC (vs ++ dvs) (us ++ ds) := r.append hd
 have hl : (us ++ ds).length = ps.length := by rw [<- r2.length]; exact F.len _ _ _ _ h
 refine wpAny_call (codeAny_mono (F.run X.A X.stack s H ⟨us, []⟩ (us ++ ds) (vs ++ dvs) Q E hr I.env0 (hb s us I.kIn hl) r2 h) fun r s' hq => ?_)
 cases r with
 | error e => exact hx pins σ H s e s' I hq
 | ok fl =>
  cases fl with
  | ret u => exact I.after hq
  | next => exact False.elim hq
  | brk => exact False.elim hq
  | cont => exact False.elim hq
theorem Wb (F : kj X.prog X.w X.K X.mg X.base CX k f fd ps sp) (hr : jr k X.A) (hg : Gl X x) (hm : X.mg x = some (.ref f)) (hk : PySem.W.keepIn X.K (.ref f) = true) (hb : yS X.K fd ps ds) (hd : zC dvs ds) (hx : Qf CX X E)
  (ha : PA X (e :: es) t) (hdb : (x == ("__debug__" : Str)) = false := by decide) (he : starEach (e :: es) X.env = (false, eval e X.env) :: starEach es X.env := by rfl) (hpl : (backTo pos (starEach es X.env)).any (·.1) = false := by rfl) :
  PE X (.Call (.Name x p) (e :: es) [] pos) (Jp sp dvs E t) := by
 intro pins s σ H Q I h
 refine wpAny_Call_Name_kw (Vd I hg hm ?_ hdb)
 refine PySem.W.callWith_K (h₀ := X.base) I.ok.mod.kin hk (thn (ha pos pins s σ H _ I h) fun us s1 ⟨vs, H1, I1, r, q⟩ => ⟨I1.kIn, ?_⟩) he hpl
 exact BB F hr hb hd hx I1 r q
structure Mk (K : PySem.W.Frag) (C f : Addr) : Prop where
 makes : PySem.W.makesIn K C = true
 init : PySem.W.findIn K (.ref C) "__init__" = some (some (.ref f))
 fn : PySem.W.isFn K (.ref f) = true
 kp : PySem.W.keepIn K (.ref C) = true
end
section
variable {X : Cx} {CX : CXT} {k : Nat} {f C : Addr} {fd : FuncData} {ps ks : List Str} {sp : Sp} {E : XK} {x m : Str} {p pos apos kpos : Pos} {e o : Expr} {es : List Expr} {kws : List Keyword} {te ta : TE} {t tk : TA} {nm : Option Str}
structure DJ (K : PySem.W.Frag) (fd : FuncData) (ps ks : List Str) (g : List Value -> List Value -> List Value) (gV : List V -> List V -> List V) : Prop where
 to : ∀ (s : Shared) (us ws : List Value), K.In s.heap -> (g us ws).length = ps.length -> BindsTo s fd ⟨us, ks.zip ws⟩ (ps.zip (g us ws))
 rel : ∀ {vs : List V} {us : List Value} {zs : List V} {ws : List Value}, zC vs us -> zC zs ws -> zC (gV vs zs) (g us ws)
variable {g : List Value -> List Value -> List Value} {gV : List V -> List V -> List V}
end
structure zt (N P : List Str) (sc : Scope) : Prop where
 kind : sc.kind = .function
 co : sc.isCoroutine = false
 gen : sc.isGenerator = false
 nd : N.Nodup
 pre : N.take P.length = P
 par : ∀ x ∈ P, sc.names.lookup x = some .local \/ sc.names.lookup x = some .cell
 nofree : ∀ y ∈ sc.names, y.2 ≠ .free
theorem vx {kindOf : Str -> Option NameKind} {x : Str} : ∀ {binds : List (Str × Value)} {m : Str -> Option Value}, (∀ v, (x, v) ∉ binds) -> bindL kindOf binds m x = m x
 | [], _, _ => rfl
 | (n, v) :: r, m, h => by
  unfold bindL
  rw [vx fun w hw => h w (List.mem_cons_of_mem _ hw)]
  split
  ·have : x ≠ n := by rintro rfl; exact h v List.mem_cons_self
   simp [this]
  ·rfl
theorem y4 {kindOf : Str -> Option NameKind} {x : Str} : ∀ {binds : List (Str × Value)} {m : Str -> Option Value}, (∀ v, (x, v) ∉ binds) -> bindC kindOf binds m x = m x
 | [], _, _ => rfl
 | (n, v) :: r, m, h => by
  unfold bindC
  rw [y4 fun w hw => h w (List.mem_cons_of_mem _ hw)]
  split
  ·rfl
  ·have : x ≠ n := by rintro rfl; exact h v List.mem_cons_self
   simp [this]
theorem vm {kindOf : Str -> Option NameKind} {x : Str} {v : Value} : ∀ {P : List Str} {vs : List Value} {i : Nat} {m : Str -> Option Value}, P.Nodup -> P[i]? = some x -> vs[i]? = some v -> kindOf x = some .local ->
  bindL kindOf (P.zip vs) m x = some v
 | [], _, _, _, _, h, _, _ => by simp at h
 | _ :: _, [], _, _, _, _, h, _ => by simp at h
 | p :: P, w :: vs, 0, m, nd, h1, h2, hk => by
  simp at h1 h2; subst h1; subst h2
  show bindL kindOf ((p, w) :: P.zip vs) m p = _
  unfold bindL
  rw [vx fun v hv => (List.nodup_cons.mp nd).1 (List.of_mem_zip hv).1, if_pos hk]
  simp
 | p :: P, w :: vs, i + 1, m, nd, h1, h2, hk => by
  show bindL kindOf ((p, w) :: P.zip vs) m x = _
  unfold bindL
  exact vm (i := i) (List.nodup_cons.mp nd).2 (by simpa using h1) (by simpa using h2) hk
theorem vi {kindOf : Str -> Option NameKind} {x : Str} {v : Value} : ∀ {P : List Str} {vs : List Value} {i : Nat} {m : Str -> Option Value}, P.Nodup -> P[i]? = some x -> vs[i]? = some v -> kindOf x ≠ some .local ->
  bindC kindOf (P.zip vs) m x = some v
 | [], _, _, _, _, h, _, _ => by simp at h
 | _ :: _, [], _, _, _, _, h, _ => by simp at h
 | p :: P, w :: vs, 0, m, nd, h1, h2, hk => by
  simp at h1 h2; subst h1; subst h2
  show bindC kindOf ((p, w) :: P.zip vs) m p = _
  unfold bindC
  rw [y4 fun v hv => (List.nodup_cons.mp nd).1 (List.of_mem_zip hv).1, if_neg hk]
  simp
 | p :: P, w :: vs, i + 1, m, nd, h1, h2, hk => by
  show bindC kindOf ((p, w) :: P.zip vs) m x = _
  unfold bindC
  exact vi (i := i) (List.nodup_cons.mp nd).2 (by simpa using h1) (by simpa using h2) hk
def start (N : List Str) (vs : List V) : St := vs.map some ++ List.replicate (N.length - vs.length) none
def vW (CX : CXT) (P : Program) (w : World) (K : PySem.W.Frag) (mg : Str -> Option Value) (base : Heap) (N : List Str) (qual : Str) (scope : Scope) (f : Addr) (cd : Value) (A : Around) (outer : List Env) (s : Shared) (H : Hp) (E : XK) : Cx where
 prog := P
 w := w
 K := K
 mg := mg
 base := base
 A := A.deeper (envOfC qual scope s.heap.objs.size f cd)
 N := N
 s₀ := s
 H₀ := H
 env := envOfC qual scope s.heap.objs.size f cd
 outer := outer
 stack := envOfC qual scope s.heap.objs.size f cd :: outer
 ex := []
 calm := true
 fn := fun _ => true
 pn := []
 xe := fun e s' => wpAny (model P w) (A.deeper (envOfC qual scope s.heap.objs.size f cd)) (leaving (envOfC qual scope s.heap.objs.size f cd) e) (fun _ s'' => CX outer H s E e s'') (fun e' s'' => CX outer H s E e' s'') s'
theorem ZO {sc : Scope} {n : Nat} {x : Str} (h : sc.names.lookup x = some .cell) : ∃ c, (cellsFrom n sc.names []).lookup x = some c := by
 have q := PySem.W.cellsFrom_some sc.names n [] (.inl h)
 exact Option.isSome_iff_exists.mp q
theorem JN {CX : CXT} {P : Program} {w : World} {K : PySem.W.Frag} {mg : Str -> Option Value} {base : Heap} {N ps : List Str} {qual : Str} {scope : Scope} {f : Addr} {cd : Value} {A : Around} {outer : List Env} {s s1 : Shared} {H : Hp} {E : XK} {us : List Value} {vs : List V}
    (S : zt N ps scope) (hd : A.handled = none) (e0 : VC P w K mg base A outer s H) (hl : vs.length = ps.length) (r : zC vs us)
    (x : InCallC s s.heap.objs.size (bindL (envOfC qual scope s.heap.objs.size f cd).kindOf (ps.zip us) fun _ => none) (cellsFrom (s.heap.objs.size + 1) scope.names []) (bindC (envOfC qual scope s.heap.objs.size f cd).kindOf (ps.zip us) fun _ => none) s1) :
    Inv (vW CX P w K mg base N qual scope f cd A outer s H E) [] (start N vs) H s1 := by
  have hpl : ps.length <= N.length := by have := congrArg List.length S.pre; rw [List.length_take] at this; omega
  obtain ⟨h1, tk, rfl, hk⟩ := x.done
  have noA : ∀ b : Addr, b ∉ (vW CX P w K mg base N qual scope f cd A outer s H E).ex := fun b z => absurd (show b ∈ ([] : List Addr) from z) (by simp)
  refine ⟨⟨e0.mod, S.kind, rfl, rfl, Nat.le_refl _, fun y z c h1 h2 => ?_, fun y hy => ?_, fun y c _ h => ?_, fun _ => hd, Around.frames_deeper e0.frames, .inr ⟨rfl, rfl⟩, fun b z => absurd z (noA b), e0.bs, e0.bsz, fun b _ _ => noA b, fun b z => absurd z (noA b), e0.funs, e0.frf⟩,
    rfl, e0.bare, Un.kept hk, ⟨_, x.toInCall.ns, fun i y v h1 h2 h3 => ?_⟩, fun y c h => ⟨_, x.cell y c h⟩, e0.hok.fresh (Nat.le_refl _), fun y c h => ?_, fun p hp => absurd (show p ∈ ([] : List (Addr × Obj)) from hp) (by simp), e0.hok.kept hk, ?_⟩
  · exact name_of_addr x.apart (PySem.mem_of_lookup h1) (PySem.mem_of_lookup h2)
  · have hy : scope.names.lookup y = some .cell \/ scope.names.lookup y = some .free := hy
    rcases hy with hy | hy
    · exact ZO hy
    · exact absurd rfl (S.nofree _ (PySem.mem_of_lookup hy))
  · exact Nat.le_of_lt (x.above y c (PySem.mem_of_lookup h))
  · have hi : i < vs.length := by
      unfold start at h2
      by_cases hi : i < vs.length
      · exact hi
      · rw [List.getElem?_append_right (by simpa using hi)] at h2
        rw [List.getElem?_replicate] at h2
        split at h2 <;> cases h2
    have ha : vs[i]? = some v := by
      unfold start at h2
      rw [List.getElem?_append_left (by simpa using hi), List.getElem?_map] at h2
      cases e : vs[i]? with
      | none => rw [e] at h2; cases h2
      | some a => rw [e] at h2; cases h2; rfl
    obtain ⟨u, hu, rv⟩ := r.get ha
    have hp : ps[i]? = some y := by
      rw [<- S.pre, List.getElem?_take_of_lt (by omega)]; exact h1
    have ndP : ps.Nodup := by rw [<- S.pre]; exact S.nd.sublist (List.take_sublist _ _)
    refine ⟨u, rv, ?_⟩
    rcases S.par y (List.mem_of_getElem? hp) with k | k
    · exact .inl ⟨k, vm ndP hp hu k⟩
    · obtain ⟨c, e⟩ := ZO (n := s.heap.objs.size + 1) k
      refine .inr ⟨.inl k, c, e, ?_⟩
      have q := x.cell y c e
      rw [vi ndP hp hu (by show scope.names.lookup y ≠ _; rw [k]; decide)] at q
      exact q
  · exact e0.hok.fresh (Nat.le_of_lt (x.above y c (PySem.mem_of_lookup h)))
  · unfold start
    show _ = N.length
    rw [List.length_append, List.length_map, List.length_replicate]
    omega
theorem Di {CX : CXT} {P : Program} {w : World} {K : PySem.W.Frag} {mg : Str -> Option Value} {base : Heap} {k : Nat} {f : Addr} {name qual : Str} {params : Arguments} {body : List Stmt} {scope : Scope} {dV kV doc pm cdv ct oc : Value} {an od : Option Addr}
  {osl : Array (Option Value)} {N ps : List Str} {sp : Sp} (lk : K.lookup f = some ⟨oc, od, .func (PySem.W.fnOf name qual params body scope dV kV doc pm an cdv ct), osl⟩) (hcd : PySem.W.codeIn K cdv qual = true) (S : zt N ps scope)
  (len : ∀ vs H Q E, sp vs H Q E -> vs.length = ps.length)
  (hbody : ∀ (A : Around) (outer : List Env) (s : Shared) (H : Hp) (vs : List V) (Q : VK) (E : XK), jr k (A.deeper (envOfC qual scope s.heap.objs.size f cdv)) -> sp vs H Q E ->
   ∃ t, PSs (vW CX P w K mg base N qual scope f cdv A outer s H E) body t /\ t { nx := fun _ H' => Q .non H', rt := Q } (start N vs) H) :
  kj P w K mg base CX (k + 1) f (PySem.W.fnOf name qual params body scope dV kV doc pm an cdv ct) ps sp := by
 refine ⟨len, fun A outer s H args us vs Q E hr e0 hb r hsp => ?_⟩
 have hl := len _ _ _ _ hsp
 have KX : K.In s.heap := e0.mod.kin.keeps fun b o e => (e0.bs b o e).1
 have lim : s.heap.NoLimit := e0.mod.nolimit.keeps fun b o e => (e0.bs b o e).1
 have hkind : ∀ y ∈ ps.zip us, scope.names.lookup y.1 = some .local \/ (scope.names.lookup y.1 = some .cell /\ ((cellsFrom (s.heap.objs.size + 1) scope.names []).lookup y.1).isSome = true) := fun ⟨n, v⟩ hy => by
  rcases S.par n (List.of_mem_zip hy).1 with q | q
  ·exact .inl q
  ·exact .inr ⟨q, PySem.W.cellsFrom_some _ _ _ (.inl q)⟩
 refine codeAny_call_function hr.depth (KX _ _ lk) rfl S.co S.gen rfl (PySem.W.codeRec_of KX hcd) (hb _ _ _ _ ?_)
 refine wpAny_newFunctionEnv_cells S.kind hkind fun env he s1 x => ?_
 subst he
 refine ⟨lim.keeps x.toInCall.keep, codeAny_func ?_⟩
 obtain ⟨t, ht, hq⟩ := hbody A outer s H vs Q E (hr.deeper _) hsp
 have I : Inv (vW CX P w K mg base N qual scope f cdv A outer s H E) [] (start N vs) H s1 := JN S hr.hd e0 hl r x
 refine wpAny_mono (ht [] s1 (start N vs) H _ I hq) (fun fl s' hs => ?_) fun e s' hs => hs
 have fin : ∀ {σ' : St} {H' : Hp} {v : V} {u : Value}, Inv (vW CX P w K mg base N qual scope f cdv A outer s H E) [] σ' H' s' -> zF v u -> Q v H' -> CE outer P w H s Q u s' :=
  fun {σ' H' v u} J rv q => ⟨v, H', J.os, J.bare, J.base, J.hok, rv, q⟩
 cases fl with
 | ret u =>
  obtain ⟨v, σ', H', J, rv, q⟩ := hs
  exact fin J rv q
 | next =>
  obtain ⟨σ', H', J, q⟩ := hs
  exact fin (v := V.non) (u := Value.none) J rfl q
 | brk =>
  obtain ⟨_, _, _, q⟩ := hs
  exact False.elim q
 | cont =>
  obtain ⟨_, _, _, q⟩ := hs
  exact False.elim q
end L2
namespace L2
open PySem PySem.Spec PyProof.Rows
section
variable {X : Cx} {x : Str} {p pos : Pos} {e : Expr} {es : List Expr} {t : TA} {id T : String} {r : List V -> Hp -> VK -> Prop}
def tCB (r : List V -> Hp -> VK -> Prop) (t : TA) : TE := fun σ H Q => t σ H fun vs H1 => r vs H1 Q
theorem zo (hc : qD X (.builtin id) r) (hg : Gl X x) (hm : X.mg x = none) (hv : bootBuiltins x = some (.builtin id)) (ha : PA X (e :: es) t) (hn : x ≠ "__name__" := by decide) (hdb : (x == ("__debug__" : Str)) = false := by decide)
  (he : starEach (e :: es) X.env = (false, eval e X.env) :: starEach es X.env := by rfl) (hpl : (backTo pos (starEach es X.env)).any (·.1) = false := by rfl) : PE X (.Call (.Name x p) (e :: es) [] pos) (tCB r t) := by
 intro pins s σ H Q I h
 refine wpAny_Call_Name_kw (j0 I hg hm hv ?_ hn hdb)
 exact PyProof.Rows.callWith_builtin1 (thn (ha pos pins s σ H _ I h) fun us s1 ⟨vs, H1, I1, r1, q1⟩ => hc pins s1 σ H1 vs us Q I1 r1 q1) he hpl
theorem zL (hc : qD X (.type T) r) (hg : Gl X x) (hm : X.mg x = none) (hv : bootBuiltins x = some (.type T)) (ha : PA X (e :: es) t) (hn : x ≠ "__name__" := by decide) (hdb : (x == ("__debug__" : Str)) = false := by decide)
  (he : starEach (e :: es) X.env = (false, eval e X.env) :: starEach es X.env := by rfl) (hpl : (backTo pos (starEach es X.env)).any (·.1) = false := by rfl) : PE X (.Call (.Name x p) (e :: es) [] pos) (tCB r t) := by
 intro pins s σ H Q I h
 refine wpAny_Call_Name_kw (j0 I hg hm hv ?_ hn hdb)
 exact PyProof.Rows.callWith_type1 (thn (ha pos pins s σ H _ I h) fun us s1 ⟨vs, H1, I1, r1, q1⟩ => hc pins s1 σ H1 vs us Q I1 r1 q1) he hpl
end
end L2
namespace HT
open PySem PyProof.Rows
section
open PySem.SeqAt
open PySem.AutoSeq1 (wpAny_loadPart')
open PySem.MeetsSeq PySem.MeetsSeq2 PySem.MeetsSeq3
end
section
variable {prog : Program} {w : World} {A : Around} {E : Value -> Shared -> Prop} {s : Shared}
def sIx (n d : Nat) : Option Int -> Nat
 | none => d
 | some v => if v < 0 then (v + (n : Int)).toNat else min v.toNat n
theorem sIx_none (n d : Nat) : sIx n d none = d := rfl
theorem sIx_nat (n d k : Nat) : sIx n d (some (k : Int)) = min k n := by
 show (if (k : Int) < 0 then ((k : Int) + (n : Int)).toNat else min (k : Int).toNat n) = min k n
 rw [if_neg (by omega), Int.toNat_natCast]
end
end HT
namespace L2
open PySem PySem.Spec PyProof.Rows
abbrev TO := St -> Hp -> (Option Int -> Hp -> Prop) -> Prop
def PO (X : Cx) (e : Option Expr) (t : TO) : Prop :=
 ∀ (pins : List (Addr × Obj)) (s : Shared) (σ : St) (H : Hp) (Q : Option Int -> Hp -> Prop), Inv X pins σ H s -> t σ H Q ->
  wpAny (model X.prog X.w) X.A (evalPart e X.env) (fun u s' => ∃ o H', Inv X pins σ H' s' /\ IsPart u o /\ Q o H') X.xe s
def v9 : TO := fun _ H Q => Q none H
def X7 (t : TE) : TO := fun σ H Q => t σ H fun x H1 => ∃ i, x = .int i /\ Q (some i) H1
theorem Qi {ns : List Int} : ∀ {us : List Value}, zC (ns.map V.int) us -> IntsAre us ns := by
 induction ns with
 | nil => intro us r; rw [List.map_nil] at r; cases r; exact .nil
 | cons n ns ih =>
  intro us r
  rw [List.map_cons] at r
  cases r with
  | cons r1 r2 =>
   obtain ⟨t, e⟩ := r1
   subst e
   exact .cons n t (ih r2)
section
variable {X : Cx} {e : Expr} {te : TE} {lo hi : Option Expr} {tl th : TO} {pos p2 : Pos}
theorem wa : PO X none v9 := by
 intro pins s σ H Q I h
 rw [evalPart_none]
 exact wpAny_pure ⟨none, H, I, .none, h⟩
theorem kI (h : PE X e te) : PO X (some e) (X7 te) := by
 intro pins s σ H Q I hw
 rw [evalPart_some]
 refine thn (h pins s σ H _ I hw) fun u s1 ⟨x, H1, I1, r1, q1⟩ => ?_
 obtain ⟨i, rfl, q⟩ := q1
 obtain ⟨t, rfl⟩ := r1
 exact ⟨some i, H1, I1, .int i t, q⟩
def SlR (X : Cx) (r : V -> Option Int -> Option Int -> Hp -> VK -> Prop) : Prop :=
 ∀ (pins : List (Addr × Obj)) (s : Shared) (σ : St) (H : Hp) (x : V) (v vl vu : Value) (lo hi : Option Int) (sl : Addr) (Q : VK), Inv X pins σ H s -> zF x v -> s.heap.IsSliceOf sl vl vu .none -> IsPart vl lo -> IsPart vu hi -> r x lo hi H Q ->
  ∃ T id, typeLookup (.type T) "__getitem__" = pure (some (.builtin id)) /\ s.TypeIs v T /\ wpAny (model X.prog X.w) X.A (getItem v (.ref sl)) (EP X pins σ Q) X.xe s
def tSl (r : V -> Option Int -> Option Int -> Hp -> VK -> Prop) (te : TE) (tl th : TO) : TE := fun σ H Q => te σ H fun x H1 => tl σ H1 fun l H2 => th σ H2 fun u H3 => r x l u H3 Q
theorem kS {r : V -> Option Int -> Option Int -> Hp -> VK -> Prop} (hr : SlR X r) (he : PE X e te) (hl : PO X lo tl) (hu : PO X hi th) : PE X (.Subscript e (.Slice lo hi none p2) pos) (tSl r te tl th) := by
 intro pins s σ H Q I h
 refine Subscript_ (thn (he pins s σ H _ I h) fun v s1 ⟨x, H1, I1, r1, q1⟩ => ?_)
 refine wpAny_Slice (thn (hl pins s1 σ H1 _ I1 q1) fun vl s2 ⟨l, H2, I2, pl, q2⟩ => thn (hu pins s2 σ H2 _ I2 q2) fun vu s3 ⟨u, H3, I3, pu, q3⟩ => ?_)
 rw [evalPart_none]
 refine wpAny_pure ?_
 have I4 : Inv X pins σ H3 { s3 with heap := s3.heap.push { cls := .type "slice", data := .fields #[vl, vu, .none] } } := I3.kept (t' := s3.toks) fun b ob q => Heap.get?_push_of_some _ q
 obtain ⟨T, id, hT, ht, hg⟩ := hr pins { s3 with heap := s3.heap.push { cls := .type "slice", data := .fields #[vl, vu, .none] } } σ H3 x v vl vu l u s3.heap.objs.size Q I4 r1 (Heap.IsSliceOf.new ..) pl pu q3
 show wpAny (model X.prog X.w) X.A (subscriptTail e (.Slice lo hi none p2) v (.ref s3.heap.objs.size)) (EP X pins σ Q) X.xe { s3 with heap := s3.heap.push { cls := .type "slice", data := .fields #[vl, vu, .none] } }
 exact tail_any (ops := [.ref s3.heap.objs.size, v]) ht hT hg (by with_unfolding_all rfl)
def wj (xs : List V) (lo hi : Option Int) : List V := (xs.drop (HT.sIx xs.length 0 lo)).take (HT.sIx xs.length xs.length hi - HT.sIx xs.length 0 lo)
theorem Zf (xs : List V) (lo hi : Option Int) : (wj xs lo hi).length <= xs.length := by
 unfold wj
 rw [List.length_take, List.length_drop]
 omega
end
end L2
namespace L2
open PySem PySem.Spec PyProof.Rows
def ixN (n : Nat) (i : Int) : Option Nat := if 0 <= i then (if i < n then some i.toNat else none) else if -(n : Int) <= i then some (i + n).toNat else none
def atI {α : Type} (xs : List α) (i : Int) : Option α := (ixN xs.length i).bind fun j => xs[j]?
theorem QZ {n : Nat} {i : Int} {j : Nat} (h : ixN n i = some j) : seqIndex? i n = some j /\ j < n /\ -(n : Int) <= i /\ i < n := by
 unfold ixN at h
 by_cases h0 : 0 <= i
 ·rw [if_pos h0] at h
  by_cases h1 : i < n
  ·rw [if_pos h1] at h
   have e : i.toNat = j := Option.some.inj h
   exact ⟨by rw [seqIndex_of h0 h1, e], by omega, by omega, h1⟩
  ·rw [if_neg h1] at h; cases h
 ·rw [if_neg h0] at h
  by_cases h1 : -(n : Int) <= i
  ·rw [if_pos h1] at h
   have e : (i + n).toNat = j := Option.some.inj h
   exact ⟨by rw [seqIndex_neg (by omega) h1, e], by omega, h1, by omega⟩
  ·rw [if_neg h1] at h; cases h
theorem Jr {α : Type} {xs : List α} {i : Int} {v : α} (h : atI xs i = some v) : ∃ j, seqIndex? i xs.length = some j /\ xs[j]? = some v /\ j < xs.length /\ -(xs.length : Int) <= i /\ i < xs.length := by
 unfold atI at h
 cases e : ixN xs.length i with
 | none => rw [e] at h; cases h
 | some j =>
  rw [e] at h
  obtain ⟨h1, h2, h3, h4⟩ := QZ e
  exact ⟨j, h1, h, h2, h3, h4⟩
theorem VL {α : Type} {xs : List α} {j : Nat} {v : α} (h : xs[j]? = some v) : atI xs (j : Int) = some v := by
 have hj : j < xs.length := (List.getElem?_eq_some_iff.mp h).1
 have e : ixN xs.length (j : Int) = some j := by
  unfold ixN
  rw [if_pos (by omega), if_pos (by omega)]; simp
 unfold atI; rw [e]; exact h
def Wc (b : Expr) : Prop := ∀ o i, subscripted b false o i = operate [o, i] (getItem o i)
def IxR (X : Cx) (r : R2) : Prop :=
 ∀ (value slice : Expr) (pins : List (Addr × Obj)) (s : Shared) (σ : St) (H : Hp) (x y : V) (v u : Value) (Q : VK), Inv X pins σ H s -> zF x v -> zF y u -> r x y H Q ->
  subscripted slice false v u = operate [v, u] (getItem v u) -> wpAny (model X.prog X.w) X.A (subscriptTail value slice v u) (EP X pins σ Q) X.xe s
def MtR (X : Cx) (id : String) (r : V -> List V -> Hp -> VK -> Prop) : Prop :=
 ∀ (pins : List (Addr × Obj)) (s : Shared) (σ : St) (H : Hp) (x : V) (xs : List V) (v : Value) (us : List Value) (Q : VK), Inv X pins σ H s -> zF x v -> zC xs us -> r x xs H Q ->
  wpAny (model X.prog X.w) X.A (call (.builtin id) (v :: us)) (EP X pins σ Q) X.xe s
section
variable {X : Cx} {a b : Expr} {ta tb : TE} {pos : Pos}
theorem zE {r : R2} (hr : IxR X r) (ha : PE X a ta) (hb : PE X b tb) (hs : Wc b) : PE X (.Subscript a b pos) (tOp r ta tb) := by
 intro pins s σ H Q I h
 exact Subscript_ (Ao ha hb I h fun v u s2 x y H2 I2 rx ry q => hr a b pins s2 σ H2 x y v u Q I2 rx ry q (hs _ _))
def Dx (K : PySem.W.Frag) : R2 := fun x y H Q => ∃ p xs i v, x = .ref p /\ y = .int i /\ SqL K H p xs /\ atI xs i = some v /\ Q v H
def B8 (K : PySem.W.Frag) : R2 := fun x y H Q => ∃ p xs i v, x = .ref p /\ y = .int i /\ SqT K H p xs /\ atI xs i = some v /\ Q v H
theorem zN : IxR X (Dx X.K) := by
  intro value slice pins s σ H x y v u Q I rx ry h hs
  obtain ⟨p, xs, i, z, rfl, rfl, hq, he, q⟩ := h
  cases rx
  obtain ⟨t, rfl⟩ := ry
  obtain ⟨its, r, pl, hz⟩ := I.list hq
  obtain ⟨j, h1, h2, h3, h4, h5⟩ := Jr he
  obtain ⟨w, ew, rw'⟩ := r.get h2
  have hl := r.length
  have hn := yh
  have fin : EP X pins σ Q w s := ⟨z, H, I, rw', q⟩
  by_cases h0 : 0 <= i
  · have hj : i.toNat = j := by
      rw [seqIndex_of h0 h5] at h1
      exact Option.some.inj h1
    exact item_listR pl.isList h0 (by omega) (by rw [hj]; simpa using ew) fin hs
  · have hj : (i + (its.toArray.size : Int)).toNat = j := by
      rw [seqIndex_neg (by omega) h4] at h1
      rw [List.size_toArray, <- hl]
      exact Option.some.inj h1
    exact subscriptTail_builtinR (x := w) pl.isList.typeIs slot_list_getitem.lookup
      (wpAny_getItem_list_neg (Q := fun r s' => r = w /\ EP X pins σ Q r s') pl.isList (by omega) (by rw [List.size_toArray] <;> omega) (by omega) (by rw [hj]; simpa using ew) ⟨rfl, fin⟩) hs
theorem Z1 : IxR X (B8 X.K) := by
 intro value slice pins s σ H x y v u Q I rx ry h hs
 obtain ⟨p, xs, i, z, rfl, rfl, hq, he, q⟩ := h
 cases rx
 obtain ⟨t, rfl⟩ := ry
 obtain ⟨its, r, pl, hz⟩ := I.tuple hq
 obtain ⟨j, h1, h2, h3, h4, h5⟩ := Jr he
 obtain ⟨w, ew, rw'⟩ := r.get h2
 have hl := r.length
 have hn := yh
 have fin : EP X pins σ Q w s := ⟨z, H, I, rw', q⟩
 exact subscriptTail_builtinR (x := w) pl.typeIs slot_tuple_getitem.lookup
  (getItem_tuple (j := j) (Q := fun r s' => r = w /\ EP X pins σ Q r s') pl (by omega) (by omega) (by rw [List.size_toArray, <- hl]; exact h1) (by simpa using ew) ⟨rfl, fin⟩) hs
theorem Z9 (its : List Value) (n j : Nat) (u : Value) : Obj.mapSeq (·.setIfInBounds j u) { cls := .type "list", data := .seq its.toArray n } = { cls := .type "list", data := .seq (its.set j u).toArray n } := by
 simp [Obj.mapSeq]
theorem Inv.lst {pins : List (Addr × Obj)} {σ : St} {H : Hp} {s : Shared} {p : Addr} {xs : List V} (I : Inv X pins σ H s) (h : H p = some (.lst xs)) :
  ∃ (its : List Value) (n : Nat), zC xs its /\ s.heap.get? p = some { cls := .type "list", data := .seq its.toArray n } /\ xs.length <= sizeLine := by
 obtain ⟨z, its, n, r, e⟩ := I.hok p _ h
 exact ⟨its, n, r, e, z⟩
theorem Inv.lstUpd {pins : List (Addr × Obj)} {σ : St} {H : Hp} {s : Shared} {p : Addr} {xs ys : List V} {its its' : List Value} {n n' : Nat} {f : Obj -> Obj} (I : Inv X pins σ H s) (h : H p = some (.lst xs))
  (ho : s.heap.get? p = some { cls := .type "list", data := .seq its.toArray n }) (hf : f { cls := .type "list", data := .seq its.toArray n } = { cls := .type "list", data := .seq its'.toArray n' }) (r : zC ys its') (hz : ys.length <= sizeLine) (t : Nat) :
  Inv X pins σ (upd H p (.lst ys)) { s with heap := s.heap.update p f, toks := t } := by
 have e : (s.heap.update p f).get? p = some { cls := .type "list", data := .seq its'.toArray n' } := by
  rw [Heap.get?_update_self f ho (by rw [hf] <;> rfl), hf]
 refine I.write (x := p) (e := p) (by rw [h]; trivial) (.inl rfl) (fun b u hb q => (Heap.get?_update_other _ _ (Ne.symm hb)).trans q) ⟨_, e⟩ ?_
 exact ⟨hz, its', n', r, e⟩
def WU : V -> V -> V -> Hp -> (Hp -> Prop) -> Prop := fun o i v H Q => ∃ p xs k j, o = .ref p /\ i = .int k /\ H p = some (.lst xs) /\ ixN xs.length k = some j /\ Q (upd H p (.lst (xs.set j v)))
theorem KH : W6 X WU := by
  intro pins s σ H o i v ov iv u Q I ro ri rv h
  obtain ⟨p, xs, k, j, rfl, rfl, hp, hj, q⟩ := h
  cases ro
  obtain ⟨t, rfl⟩ := ri
  obtain ⟨its, n, r, ho, hz⟩ := I.lst hp
  obtain ⟨h1, h2, h3, h4⟩ := QZ hj
  have hl := r.length
  have hn := yh
  have I' : Inv X pins σ (upd H p (.lst (xs.set j v))) { s with heap := s.heap.update p (Obj.mapSeq (·.setIfInBounds j u)) } :=
    I.lstUpd hp ho (Z9 its n j u) (r.set rv j) (by rw [List.length_set]; exact hz) s.toks
  by_cases h0 : 0 <= k
  · have hk : k.toNat = j := by
      rw [seqIndex_of h0 h4] at h1
      exact Option.some.inj h1
    exact PySem.W.ki_setAt ho h0 (by omega) (by rw [List.size_toArray, <- hl]; exact h4) (by rw [hk]; exact ⟨_, I', q⟩)
  · have hk : (k + (its.toArray.size : Int)).toNat = j := by
      rw [seqIndex_neg (by omega) h3] at h1
      rw [List.size_toArray, <- hl]
      exact Option.some.inj h1
    exact PySem.W.ki_setBack ho (by omega) (by rw [List.size_toArray, <- hl]; exact h3) (by omega) (by rw [hk]; exact ⟨_, I', q⟩)
theorem vL (lo hi : Option Int) (n : Nat) : (sliceBounds lo hi none n).1 = ((HT.sIx n 0 lo : Nat) : Int) /\ (sliceBounds lo hi none n).2.1 = ((HT.sIx n n hi : Nat) : Int) /\ (sliceBounds lo hi none n).2.2 = 1 := by
 refine ⟨?_, ?_, rfl⟩
 ·cases lo with
  | none => simp [sliceBounds, HT.sIx]
  | some i =>
   simp only [sliceBounds, HT.sIx, Option.getD_none, show (1 : Int) > 0 by decide, if_true]
   by_cases h : i < 0
   ·simp only [h, if_true] <;> omega
   ·simp only [h, if_false] <;> omega
 ·cases hi with
  | none => simp [sliceBounds, HT.sIx]
  | some i =>
   simp only [sliceBounds, HT.sIx, Option.getD_none, show (1 : Int) > 0 by decide, if_true]
   by_cases h : i < 0
   ·simp only [h, if_true] <;> omega
   ·simp only [h, if_false] <;> omega
theorem yN (its : List Value) (lo hi : Option Int) : slicePick its.toArray lo hi none = ((its.drop (HT.sIx its.length 0 lo)).take (HT.sIx its.length its.length hi - HT.sIx its.length 0 lo)).toArray := by
 obtain ⟨h1, h2, h3⟩ := vL lo hi its.toArray.size
 unfold slicePick
 rw [h1, h2, h3]
 simp only [sliceRange_one, pick_run, List.size_toArray] <;> rfl
def Bd (K : PySem.W.Frag) : V -> Option Int -> Option Int -> Hp -> VK -> Prop := fun x lo hi H Q => ∃ a xs, x = .ref a /\ SqL K H a xs /\ ∀ p, H p = none -> Q (.ref p) (upd H p (.lst (wj xs lo hi)))
theorem xO : SlR X (Bd X.K) := by
 intro pins s σ H x v vl vu lo hi sl Q I rx hs pl pu h
 obtain ⟨a, xs, rfl, hx, q⟩ := h
 cases rx
 obtain ⟨its, r, ht, hz⟩ := I.list hx
 have hlen := r.length
 refine ⟨"list", _, slot_list_getitem.lookup, ht.isList.typeIs, ?_⟩
 refine wpAny_getItem_list_slice ht.isList hs pl pu .none (by simp) ?_ (by rw [List.size_toArray] <;> omega)
 rw [yN, <- hlen]
 refine ⟨.ref s.heap.objs.size, _, I.laid (t' := s.toks) (o := .lst (wj xs lo hi)) (fun b ob q => Heap.get?_push_of_some _ q) (Nat.le_refl _) ?_, rfl, q _ (I.hok.fresh (Nat.le_refl _))⟩
 exact ⟨Nat.le_trans (Zf xs lo hi) hz, _, 0, (r.drop (HT.sIx xs.length 0 lo)).take (HT.sIx xs.length xs.length hi - HT.sIx xs.length 0 lo), Heap.get?_push_size _ rfl⟩
theorem zp : qD X (.builtin "len") (fun xs H Q => ∃ p ys, xs = [.ref p] /\ (SqL X.K H p ys \/ SqT X.K H p ys) /\ Q (.int ys.length) H) := by
 intro pins s σ H xs us Q I r h
 obtain ⟨p, ys, rfl, hq, q⟩ := h
 obtain ⟨u, rfl, rx⟩ := jS r
 cases rx
 have hn := yh
 rcases hq with hq | hq
 ·obtain ⟨its, r', pl, hz⟩ := I.list hq
  have hlen := r'.length
  exact Calls.call_len_list pl.isList (by simp only [List.size_toArray] <;> omega) ⟨.int ys.length, H, I.tok _, ⟨s.toks + 1, by rw [List.size_toArray, hlen]⟩, q⟩
 ·obtain ⟨its, r', pl, hz⟩ := I.tuple hq
  have hlen := r'.length
  exact len_tuple pl (by simp only [List.size_toArray] <;> omega) ⟨.int ys.length, H, I.tok _, ⟨s.toks + 1, by rw [List.size_toArray, hlen]⟩, q⟩
theorem kP : qD X (.type "list") (fun xs H Q => ∃ p ys, xs = [.ref p] /\ (SqL X.K H p ys \/ SqT X.K H p ys) /\ ∀ l, H l = none -> Q (.ref l) (upd H l (.lst ys))) := by
 intro pins s σ H xs us Q I r h
 obtain ⟨p, ys, rfl, hq, q⟩ := h
 obtain ⟨u, rfl, rx⟩ := jS r
 cases rx
 have fin : ∀ (its : List Value), zC ys its -> ys.length <= sizeLine -> ∀ (h' : Heap) (c' : Nat), (∀ b o', s.heap.get? b = some o' -> h'.get? b = some o') ->
   h'.get? s.heap.objs.size = some { cls := .type "list", dict := none, data := .seq its.toArray c', slots := #[] } -> EP X pins σ Q (.ref s.heap.objs.size) { s with heap := h' } := fun its r' hz h' c' kp e =>
  ⟨.ref s.heap.objs.size, _, I.laid (t' := s.toks) kp (Nat.le_refl _) (show zT X.prog X.w _ h' _ (.lst ys) from ⟨hz, its, c', r', e⟩), rfl, q _ (I.hok.fresh (Nat.le_refl _))⟩
 rcases hq with hq | hq
 ·obtain ⟨its, r', pl, hz⟩ := I.list hq
  have hlen := r'.length
  obtain ⟨o, ho, hc, n, hd⟩ := pl.isList
  exact call_list_seq p (.inl rfl) ho hc hd (fun h' c' kp e => fin its r' hz h' c' kp e) (by simp only [List.size_toArray] <;> omega)
 ·obtain ⟨its, r', pl, hz⟩ := I.tuple hq
  have hlen := r'.length
  obtain ⟨o, ho, hc, n, hd⟩ := pl
  exact call_list_seq p (.inr rfl) ho hc hd (fun h' c' kp e => fin its r' hz h' c' kp e) (by simp only [List.size_toArray] <;> omega)
def tyV (K : PySem.W.Frag) (T : String) (x : V) (H : Hp) : Prop := match x with
  | .str _ => T = "str"
  | .int _ => T = "int"
  | .ref p => (T = "list" /\ ∃ xs, SqL K H p xs) \/ (T = "tuple" /\ ((∃ xs, Rd H p (.tup xs)) \/ ∃ o, K.lookup p = some o /\ o.cls = .type "tuple" /\ o.dict = none)) \/
      (T = "dict" /\ ((∃ kvs, H p = some (.dK kvs)) \/ ∃ kvs, H p = some (.dT kvs))) \/ (T = "set" /\ ∃ S n, H p = some (.set S n))
  | _ => False
theorem BH {pins : List (Addr × Obj)} {σ : St} {H : Hp} {s : Shared} {T : String} {x : V} {v : Value} (I : Inv X pins σ H s) (r : zF x v) (ty : tyV X.K T x H) :
    s.TypeIs v T /\ ∀ a, v = .ref a -> ∃ ob, s.heap.get? a = some ob /\ ob.dict = none := by
  cases x with
  | str z =>
    obtain ⟨t, rfl⟩ := r
    cases (show T = "str" from ty)
    exact ⟨typeIs_str s z t, fun _ e => nomatch e⟩
  | int i =>
    obtain ⟨t, rfl⟩ := r
    cases (show T = "int" from ty)
    exact ⟨typeIs_int s i t, fun _ e => nomatch e⟩
  | ref p =>
    cases r
    rcases ty with ⟨rfl, xs, hq⟩ | ⟨rfl, ⟨xs, hx⟩ | ⟨o, hk, hc, hd⟩⟩ | ⟨rfl, hk⟩ | ⟨rfl, S, n, hk⟩
    · obtain ⟨its, _, pl, _⟩ := I.list hq
      refine ⟨pl.isList.typeIs, fun a e => ?_⟩
      cases e
      obtain ⟨o, n, e, c, hd, _⟩ := pl
      exact ⟨o, e, hd⟩
    · obtain ⟨_, its, _, o, e, c, _, hd⟩ := hx.ok I.hok
      refine ⟨⟨o, e, c⟩, fun a e2 => ?_⟩
      cases e2
      exact ⟨o, e, hd⟩
    · refine ⟨⟨o, I.kIn p o hk, hc⟩, fun a e => ?_⟩
      cases e
      exact ⟨o, I.kIn _ o hk, hd⟩
    · have z : ∃ o, s.heap.get? p = some o /\ o.ExactDict := by
        rcases hk with ⟨kvs, hk⟩ | ⟨kvs, hk⟩
        · obtain ⟨_, _, _, _, o, _, _, e, ex, _⟩ := I.hok p _ hk
          exact ⟨o, e, ex⟩
        · obtain ⟨_, _, _, _, o, _, _, e, ex, _⟩ := I.hok p _ hk
          exact ⟨o, e, ex⟩
      obtain ⟨o, e, ex⟩ := z
      refine ⟨⟨o, e, ex.1⟩, fun a e2 => ?_⟩
      cases e2
      exact ⟨o, e, ex.2.1⟩
    · obtain ⟨o, _, _, _, e, ex, _⟩ := I.hok p _ hk
      refine ⟨⟨o, e, ex.1⟩, fun a e2 => ?_⟩
      cases e2
      exact ⟨o, e, ex.2.1⟩
  | _ => exact False.elim ty
def tBM (K : PySem.W.Frag) (T : String) (r : V -> List V -> Hp -> VK -> Prop) (to : TE) (t : TA) : TE := fun σ H Q => to σ H fun x H1 => tyV K T x H1 /\ t σ H1 fun xs H2 => r x xs H2 Q
variable {o e : Expr} {es : List Expr} {to : TE} {t : TA} {name : Str} {apos cpos : Pos} {T id : String} {r : V -> List V -> Hp -> VK -> Prop}
theorem Zk (pa : PlainAttrs T) (slot : Slot T name id) (hty : typeOf (.builtin id) = pure (.type "method_descriptor")) (hm : MtR X id r) (ho : PE X o to) (ha : PA X (e :: es) t)
  (hbase : attributeBase o name X.env (eval o X.env) = eval o X.env := by rfl)
  (hfew : ((backTo cpos (starEach (e :: es) X.env)).all (fun x => !x.1) && (backToKw cpos (keywordEach [] X.env)).all (fun x => x.1.isSome)
   && decide ((e :: es).length + ([] : List Keyword).length + (if ([] : List Keyword).isEmpty then 0 else 1) < 30)) = true := by rfl)
  (hline : (apos.endLine == cpos.line) = true := by rfl) (hs : starEach (e :: es) X.env = (false, eval e X.env) :: starEach es X.env := by rfl) (hplain : (backTo cpos (starEach es X.env)).any (·.1) = false := by rfl) :
  PE X (.Call (.Attribute o name apos) (e :: es) [] cpos) (tBM X.K T r to t) := by
 intro pins s σ H Q I h
 refine wpAny_Call_method_late hbase hfew hline rfl (thn (ho pins s σ H _ I h) fun v s1 ⟨x, H1, I1, r1, ty, q1⟩ => ?_)
 obtain ⟨h1, h2⟩ := BH I1 r1 ty
 refine ⟨T, id, pa, slot, hty, h1, h2, ?_⟩
 have hA := ha cpos pins s1 σ H1 _ I1 q1
 rw [hs] at hA ⊢
 refine Calls.callWith_builtin (by show (false || (backTo cpos (starEach es X.env)).any (·.1)) = false; rw [hplain] <;> rfl) (Calls.evalArgs_plain ?_)
 exact thn hA fun us s2 ⟨vs, H2, I2, r2, q2⟩ => hm pins s2 σ H2 x vs v us Q I2 r1 r2 q2
/- xs.append(e), list.index on a module's tuple .. are MtR facts of 06m -/
end
end L2
namespace L2
open PySem PySem.Spec PyProof.Rows
def MtM (X : Cx) (id : String) (r : V -> List V -> Hp -> VK -> Prop) : Prop :=
 ∀ (pins : List (Addr × Obj)) (s : Shared) (σ : St) (H : Hp) (x : V) (xs : List V) (v : Value) (us : List Value) (Q : VK), Inv X pins σ H s -> zF x v -> zC xs us -> r x xs H Q ->
  wpAny (model X.prog X.w) X.A (call (.builtin id) (v :: us)) (EP X pins σ Q) X.xe s
theorem zC.one : ∀ {x : V} {us : List Value}, zC [x] us -> ∃ u, us = [u] /\ zF x u
 | _, _, .cons r .nil => ⟨_, rfl, r⟩
theorem zC.two : ∀ {x y : V} {us : List Value}, zC [x, y] us -> ∃ u v, us = [u, v] /\ zF x u /\ zF y v
 | _, _, _, .cons r (.cons q .nil) => ⟨_, _, rfl, r, q⟩
theorem zC.rep {xs : List V} {us : List Value} (h : zC xs us) : ∀ k : Nat, zC (List.replicate k xs).flatten (List.replicate k us).flatten
 | 0 => .nil
 | k + 1 => by
  rw [List.replicate_succ, List.replicate_succ, List.flatten_cons, List.flatten_cons]
  exact zC.append h (zC.rep h k)
theorem vw (its : List Value) : ∀ (k : Nat) (acc : List Value),
  List.foldl (fun x1 x2 => x1 ++ x2) acc.toArray (List.replicate k its.toArray) = (acc ++ (List.replicate k its).flatten).toArray
 | 0, acc => by simp
 | k + 1, acc => by
  have e : acc.toArray ++ its.toArray = (acc ++ its).toArray := by simp
  have e2 : (acc ++ its) ++ (List.replicate k its).flatten = acc ++ (List.replicate (k + 1) its).flatten := by
   rw [List.replicate_succ, List.flatten_cons, List.append_assoc]
  rw [<- e2, <- vw its k (acc ++ its), <- e, List.replicate_succ, List.foldl_cons]
section
variable {X : Cx} {pins : List (Addr × Obj)} {σ : St} {H : Hp} {s : Shared} {l b : Addr} {xs ys zs : List V}
theorem Inv.lset {its its' : List Value} {n : Nat} {f : Array Value -> Array Value} {t' : Nat} (I : Inv X pins σ H s) (hH : H l = some (.lst xs))
  (e : s.heap.get? l = some { cls := .type "list", data := .seq its.toArray n }) (hf : f its.toArray = its'.toArray) (hv : zC ys its') (hz : ys.length <= sizeLine) :
  Inv X pins σ (upd H l (.lst ys)) { s with heap := s.heap.update l (Obj.mapSeq f), toks := t' } := by
 have q := PySem.IsL.update e f
 rw [hf] at q
 refine I.write (x := l) (e := l) (by rw [hH]; exact trivial) (.inl rfl) (fun b' u hb hu => (Heap.get?_update_other s.heap (Obj.mapSeq f) (Ne.symm hb)).trans hu) ⟨_, q⟩ ?_
 exact ⟨hz, its', _, hv, q⟩
theorem Inv.lnew {its : List Value} {t' : Nat} (I : Inv X pins σ H s) (hv : zC ys its) (hz : ys.length <= sizeLine) :
  Inv X pins σ (upd H s.heap.objs.size (.lst ys)) { s with heap := s.heap.push { cls := .type "list", data := .seq its.toArray }, toks := t' } :=
 I.laid (fun _ _ q => Heap.get?_push_of_some _ q) (Nat.le_refl _) ⟨hz, its, 0, hv, Heap.get?_push_size _ rfl⟩
theorem Inv.fresh (I : Inv X pins σ H s) : H s.heap.objs.size = none := I.hok.fresh (Nat.le_refl _)
theorem Inv.lstM (I : Inv X pins σ H s) (hH : H l = some (.lst xs)) : xs.length <= sizeLine /\ ∃ (its : List Value) (n : Nat), zC xs its /\ xs.length = its.length /\ s.heap.get? l = some { cls := .type "list", data := .seq its.toArray n } := by
 obtain ⟨z, its, n, r, e⟩ := I.hok l _ hH
 exact ⟨z, its, n, r, r.length, e⟩
theorem Zn {n : Nat} (h : n <= sizeLine) : Builtin.List.listTooLong n = false := by
 unfold Builtin.List.listTooLong
 exact decide_eq_false (by omega)
end
section
variable {X : Cx}
def vO : V -> List V -> Hp -> VK -> Prop := fun x vs H Q => ∃ l xs y, x = .ref l /\ vs = [y] /\ H l = some (.lst xs) /\ xs.length < sizeLine /\ Q .non (upd H l (.lst (xs ++ [y])))
theorem yU : MtM X "list.append" vO := by
 intro pins s σ H x vs v us Q I rx rv h
 obtain ⟨l, xs, y, rfl, rfl, hH, hz, q⟩ := h
 cases rx
 obtain ⟨u, rfl, ru⟩ := rv.one
 obtain ⟨z, its, n, r, hl, e⟩ := I.lstM hH
 refine call_meets F.slot_list_append ⟨_, e, rfl⟩ F.entry_list_append (F.args_list_append_2 _ _) (PySem.list_append l its.toArray n u (by rw [List.size_toArray]; omega)) ⟨e, ?_⟩
 refine ⟨.non, _, I.lset (its' := its ++ [u]) hH e (by simp) (r.append (.cons ru .nil)) ?_, rfl, q⟩
 rw [List.length_append, List.length_singleton]
 omega
def QY : V -> List V -> Hp -> VK -> Prop := fun x vs H Q => ∃ l b xs zs, x = .ref l /\ vs = [.ref b] /\ H l = some (.lst xs) /\ H b = some (.lst zs) /\ xs.length + zs.length <= sizeLine /\ Q .non (upd H l (.lst (xs ++ zs)))
theorem B5 : MtM X "list.extend" QY := by
 intro pins s σ H x vs v us Q I rx rv h
 obtain ⟨l, b, xs, zs, rfl, rfl, hH, hB, hz, q⟩ := h
 cases rx
 obtain ⟨u, rfl, ru⟩ := rv.one
 cases ru
 obtain ⟨z, its, n, r, hl, e⟩ := I.lstM hH
 obtain ⟨z2, its2, n2, r2, hl2, e2⟩ := I.lstM hB
 have hsz : its.toArray.size + its2.toArray.size <= sizeLine := by rw [List.size_toArray, List.size_toArray]; omega
 have hlong : ¬ (!its.toArray.isEmpty && Builtin.List.listTooLong (its.toArray.size + its2.toArray.size)) = true := by
  rw [Zn hsz, Bool.and_false]
  exact Bool.false_ne_true
 refine call_meets F.slot_list_extend ⟨_, e, rfl⟩ F.entry_list_extend (F.args_list_extend_2 _ _)
  (AutoSeq1.list_extend_list_list_0 l its.toArray n b its2.toArray n2 hlong (by rw [List.size_toArray]; omega) (by omega)) ⟨e, e2, ?_⟩
 refine ⟨.non, _, I.lset (its' := its ++ its2) hH e (by simp) (r.append r2) ?_, rfl, q⟩
 rw [List.length_append]
 omega
def Vv : R2 := fun x y H Q => ∃ l b xs zs, x = .ref l /\ y = .ref b /\ H l = some (.lst xs) /\ H b = some (.lst zs) /\ xs.length + zs.length <= sizeLine /\ ∀ p, H p = none -> Q (.ref p) (upd H p (.lst (xs ++ zs)))
theorem xW : OpR X (binaryOp .Add) Vv := by
 intro pins s σ H x y v u Q I rx ry h
 obtain ⟨l, b, xs, zs, rfl, rfl, hH, hB, hz, q⟩ := h
 cases rx
 cases ry
 obtain ⟨z, its, n, r, hl, e⟩ := I.lstM hH
 obtain ⟨z2, its2, n2, r2, hl2, e2⟩ := I.lstM hB
 refine PySem.P.add_list e e2 ?_ (by rw [List.size_toArray, List.size_toArray]; omega)
 have ea : its.toArray ++ its2.toArray = (its ++ its2).toArray := by simp
 rw [ea]
 exact ⟨.ref _, _, I.lnew (t' := s.toks) (r.append r2) (by rw [List.length_append]; omega), rfl, q _ I.fresh⟩
def WC : R2 := fun x y H Q => ∃ l k xs, x = .ref l /\ y = .int k /\ H l = some (.lst xs) /\ -(2 ^ 63) <= k /\ k < 2 ^ 63 /\ xs.length * k.toNat <= sizeLine /\
 ∀ p, H p = none -> Q (.ref p) (upd H p (.lst (List.replicate k.toNat xs).flatten))
theorem Wo {α : Type} (xs : List α) (k : Nat) : (List.replicate k xs).flatten.length = k * xs.length := by
 induction k with
 | zero => simp
 | succ k ih => rw [List.replicate_succ, List.flatten_cons, List.length_append, ih, Nat.succ_mul, Nat.add_comm]
theorem xq : OpR X (binaryOp .Mult) WC := by
 intro pins s σ H x y v u Q I rx ry h
 obtain ⟨l, k, xs, rfl, rfl, hH, h1, h2, hz, q⟩ := h
 cases rx
 obtain ⟨t, rfl⟩ := ry
 obtain ⟨z, its, n, r, hl, e⟩ := I.lstM hH
 have hlen : its.toArray.size * k.toNat <= sizeLine := by rw [List.size_toArray, <- hl]; exact hz
 have hcap : ¬ its.toArray.size * k.toNat > (2 ^ 63 - 1) / 8 := by
  have : (sizeLine : Nat) <= (2 ^ 63 - 1) / 8 := by decide
  omega
 have hfit : ¬ (!Builtin.List.listFitsIndex k) = true := by
  rw [fitsIndex_both h1 h2]
  exact Bool.false_ne_true
 have hlong : ¬ Builtin.List.listTooLong (its.toArray.size * k.toNat) = true := by
  rw [Zn hlen]
  exact Bool.false_ne_true
 have hnew : List.foldl (fun x1 x2 => x1 ++ x2) #[] (List.replicate (if its.toArray.isEmpty = true then 0 else k.toNat) its.toArray) = (List.replicate k.toNat its).flatten.toArray := by
  have f0 : ∀ m : Nat, List.foldl (fun x1 x2 => x1 ++ x2) #[] (List.replicate m its.toArray) = (List.replicate m its).flatten.toArray := fun m => by
   have := vw its m []
   rw [List.nil_append] at this
   exact this
  rw [f0]
  cases its with
  | nil => simp
  | cons a r' => rw [if_neg (by simp)]
 refine wpAny_binaryOp_repeat_ref (T := "list") (U := "int") (by decide) ⟨_, e, rfl⟩ (fun s' => typeIs_int s' k t) noFill_list_mul F.fills_int_mul F.slot_int_rmul repeat_list F.slot_int_index.lookup
  (call_meets F.slot_int_rmul (typeIs_int s k t) F.entry_int_rmul (F.args_int_rmul_2 _ _) (int___rmul___int_list k t l its.toArray n)
   ⟨e, rfl, ⟨_, e, rfl⟩, call_meets F.slot_list_mul ⟨_, e, rfl⟩ F.entry_list_mul (F.args_list_mul_2 _ _) (AutoListH.list___mul___list_int_3 l its.toArray n k t hfit hcap hlong) ⟨e, ?_⟩⟩)
 rw [hnew]
 exact ⟨.ref _, _, I.lnew (t' := s.toks) (r.rep k.toNat) (by rw [Wo, Nat.mul_comm]; exact hz), rfl, q _ I.fresh⟩
end
section
variable {prog : Program} {w : World} {A : Around} {E : Value -> Shared -> Prop} {s : Shared}
end
section
variable {X : Cx}
end
end L2
namespace Att
open PySem PySem.W PySem.Calls PyProof.Rows
theorem xM {P : Params} {h : Heap} : ∀ (ns : List Int) (vs : List Value), WellAll P h vs (ns.map WData.int) -> IntsAre vs ns := by
 intro ns
 induction ns with
 | nil =>
  intro vs w
  rw [List.map_nil] at w
  cases w
  exact .nil
 | cons n ns ih =>
  intro vs w
  rw [List.map_cons] at w
  cases w with
  | cons a b =>
   cases a
   exact .cons _ _ (ih _ b)
theorem J2 {l : OpenLaw} {n : Nat} (hn : l.most = some n) {P : Params} {h : Heap} {args : List WData} {vals : List Value}
  (hpre : l.row.toRowW.claim.pre args = true) (hwl : WellAll P h vals args) :
  ∃ a vs ns, vals = [Value.ref a] /\ args = [WData.list (ns.map WData.int)] /\ h.get? a = some { cls := .type "list", data := .seq vs.toArray } /\ IntsAre vs ns /\ ns.length <= n := by
 have hsh : WShape.hasAll [] args [.list .int] = true := (pre_splitW hpre).1
 have hc : l.pre.holds [] { args := args } = true := (pre_splitW hpre).2
 obtain ⟨d, r, rfl, h1, h2⟩ := hasAllW_cons hsh
 obtain rfl := hasAllW_nil h2
 obtain ⟨xs, rfl, h3⟩ := hasW_list h1
 obtain ⟨ns, rfl⟩ := items_int h3
 have hlen : ns.length <= n := by
  unfold OpenLaw.pre at hc
  have h4 : (WTm.not (.lt (.lit (.int (n : Int))) (.len (.arg 0)))).holds [] { args := [.list (ns.map .int)] } = true := by
   have h4 := (holds_andW hc).1
   rw [hn] at h4
   exact h4
  have h5 := condW_of h4 (w_not (w_lt w_lit (w_len_list (w_arg rfl))))
  rw [List.length_map] at h5
  refine Nat.le_of_not_lt fun q => ?_
  have q' : (n : Int) < ((ns.length : Nat) : Int) := by omega
  first
   | (rw [decide_eq_true q'] at h5; exact absurd h5 (by decide))
   | (simp at h5; omega)
 cases hwl with
 | cons w1 w2 =>
  cases w2
  cases w1 with
  | list ho hall => exact ⟨_, _, ns, rfl, rfl, ho, xM ns _ hall, hlen⟩
theorem Kt (l : OpenLaw) (args : List WData) : l.row.toRowW.claim.post args (.bool true) args = true :=
 postW_of (r := l.row.toRowW) (X := (true == true))
  (show WShape.has [] (.bool true) .bool = true by first | rfl | decide | simp [WShape.has, WShape.arms, WShape.armsAll])
  (show (WTm.eq .res (.lit (.bool true))).value [] { args := args, res := some (.bool true), after := args } = some (.bool (true == true)) from w_eq_bool (w_res rfl) w_lit) rfl
theorem attach_call {l : OpenLaw} {n : Nat} {q : Program} {loose : List Str} {XP : (Str -> Option Value) -> Heap -> Prop} {YP : World -> Heap -> Prop} {d : DefRec}
  (hn : l.most = some n) (hdf : d.params.defaults = [])
  (call : ∀ (w : World) (s₀ s₁ : Shared) (mg mb : Str -> Option Value) (fa : Addr) (o : Obj) (pm cd doc : Value) (a : Addr) (vs : List Value) (ns : List Int),
   Ground q loose [] XP w s₀ mg mb s₁.heap -> YP w s₁.heap ->
   s₁.heap.get? fa = some o -> o.data = .func (docDef d.name d.params d.body d.scope pm cd doc) -> s₁.heap.CodeRec cd d.name -> mg d.name = some (.ref fa) ->
   s₁.heap.get? a = some { cls := .type "list", data := .seq vs.toArray } -> IntsAre vs ns -> ns.length <= n -> s₁.gens = #[] ->
   codeAny (model l.prog w) callerA (.call (.ref fa) ⟨[.ref a], []⟩) (fun r s' => r = .ok (.ret (.bool true)) /\ OldK s₁.heap s'.heap /\ s'.os = s₁.os /\ AllBare s'.gens) s₁) :
  WalkO q loose XP YP l.row.toRowW d [] (fun f vs => PySem.call f vs) := by
 intro w s₀ s₁ mg mb G Y fa o pm cd doc dV kV ho hd hcd hD hmg hg args vals as hpre hlay hrd hwl hlo
 obtain rfl : dV = .none := Dflts.none hD hdf
 obtain rfl : kV = .none := Dflts.noKw hD
 obtain ⟨a, vs, ns, rfl, rfl, hobj, hints, hlen⟩ := J2 hn hpre hwl
 refine enter_call (codeAny_mono (call w s₀ s₁ mg mb fa o pm cd doc a vs ns G Y ho (fd_plain hd) hcd hmg hobj hints hlen hg) fun r s' hq => ?_)
 obtain ⟨rfl, h2, h3, h4⟩ := hq
 exact ⟨.inl ⟨.bool true, .bool true, [], rfl, fun _ => rfl, .bool true, Kt l _, fun _ => ⟨List.Pairwise.nil, fun _ hm => (nomatch hm)⟩⟩, h2, h3, h4⟩
section
variable {prog : Program} {w : World} {A : Around} {E : Value -> Shared -> Prop} {s : Shared} {K : Frag}
def DU (h : Heap) (L d : Addr) : List (Addr × Obj) := (List.range h.objs.size).filterMap fun a => if a = L \/ a = d then none else (h.get? a).map fun o => (a, o)
end
end Att
namespace L2
open PySem PySem.Spec PyProof.Rows
theorem xj : ∀ {vs : List Value} {ns : List Int}, IntsAre vs ns -> zC (ns.map V.int) vs
 | _, _, .nil => .nil
 | _, _, .cons n t h => .cons ⟨t, rfl⟩ (xj h)
def B2 (H : Hp) : Prop := ∀ b, H b = none \/ ∃ o xs, H b = some (.frz o (.lst xs))
theorem X8 {P : Program} {w : World} {K : PySem.W.Frag} {mg mb : Str -> Option Value} {CX : CXT} {k : Nat} {fa a : Addr} {fd : FuncData} {x : Str} {sp : Sp} {s₁ : Shared} {vs : List Value} {ns : List Int}
  (KX : K.In s₁.heap) (hns : s₁.heap.Ns mainGlobals mg) (hb : s₁.heap.Ns builtinsNs mb) (hbb : ∀ x : Str, x ≠ "__name__" -> mb x = bootBuiltins x) (hlim : s₁.heap.NoLimit) (hg : s₁.gens = #[])
  (ha : s₁.heap.get? a = some { cls := .type "list", data := .seq vs.toArray }) (hi : IntsAre vs ns) (hl : ns.length <= sizeLine) (hr : jr k callerA)
  (F : ∀ base : Heap, K.In base -> base.Ns mainGlobals mg -> kj P w K mg base CX k fa fd [x] sp) (hbind : ∀ (s : Shared) (u : Value), BindsTo s fd ⟨[u], []⟩ [(x, u)])
  (hsp : ∀ H : Hp, B2 H -> SqL K H a (ns.map V.int) -> sp [.ref a] H (fun v _ => v = .bl true) fun _ _ _ => False)
  (hCX : ∀ H e s', CX [] H s₁ (fun _ _ _ => False) e s' -> False) :
  codeAny (model P w) callerA (.call (.ref fa) ⟨[.ref a], []⟩) (fun r s' => r = .ok (.ret (.bool true)) /\ OldK s₁.heap s'.heap /\ s'.os = s₁.os /\ AllBare s'.gens) s₁ := by
 have rv := xj hi
 have lenV := hi.length
 have core : ∀ H : Hp, B2 H -> SqL K H a (ns.map V.int) -> HOk P w H s₁.heap -> (∀ b, H b ≠ none -> b = a) -> (H a ≠ none -> K.lookup a = none) ->
   codeAny (model P w) callerA (.call (.ref fa) ⟨[.ref a], []⟩) (fun r s' => r = .ok (.ret (.bool true)) /\ OldK s₁.heap s'.heap /\ s'.os = s₁.os /\ AllBare s'.gens) s₁ := by
  intro H hO hS hok hA hK
  have base_of : ∀ {b : Addr} {o : Obj}, s₁.heap.get? b = some o -> H b = none -> (vZ s₁.heap H).get? b = some o := fun e n => YN e n
  have noA : ∀ {b : Addr} {o : Obj} {es : Array DictEntry} {ep : Nat}, s₁.heap.get? b = some o -> o.data = .dict es ep -> H b = none := fun {b o es ep} e d => by
   cases q : H b with
   | none => rfl
   | some u =>
    have e' : b = a := hA b (by rw [q]; simp)
    subst e'
    rw [ha] at e; cases e
    have d' : Data.seq vs.toArray _ = Data.dict es ep := d
    cases d'
  have nsK : ∀ {b : Addr} {m : Str -> Option Value}, s₁.heap.Ns b m -> (vZ s₁.heap H).Ns b m := fun {b m} ⟨o, es, ep, e, d, r⟩ => ⟨o, es, ep, base_of e (noA e d), d, r⟩
  have hKb : K.In (vZ s₁.heap H) := fun b o e => base_of (KX b o e) (by
   cases q : H b with
   | none => rfl
   | some u =>
    have e' : b = a := hA b (by rw [q]; simp)
    subst e'
    rw [hK (by rw [q]; simp)] at e; cases e)
  have hM : Mod K mg (vZ s₁.heap H) := ⟨hKb, nsK hns, ⟨mb, nsK hb, hbb⟩, let ⟨mc, h1, h2⟩ := hlim; ⟨mc, nsK h1, h2⟩⟩
  have e0 : VC P w K mg (vZ s₁.heap H) callerA [] s₁ H := ⟨rfl, hM, fun b o e => Wt e, Nat.le_of_eq (JP _ _), trivial, fun b hb => absurd (show b ∈ ([] : List Addr) from hb) (by simp), hok, .of_eq hg⟩
  refine codeAny_mono ((F _ hKb (nsK hns)).run callerA [] s₁ H ⟨[.ref a], []⟩ [.ref a] [.ref a] _ _ hr e0 (hbind s₁ (.ref a)) (.cons rfl .nil) (hsp H hO hS)) fun r s' h => ?_
  cases r with
  | error e => exact (hCX H e s' h).elim
  | ok fl =>
   cases fl with
   | next => exact False.elim h
   | brk => exact False.elim h
   | cont => exact False.elim h
   | ret u =>
    obtain ⟨v, H', os, bare, un, hok', r', q⟩ := h
    have q' : v = .bl true := q
    subst q'
    obtain rfl : u = Value.bool true := r'
    refine ⟨rfl, OldK.of_keep fun b o e => ?_, os, bare⟩
    cases q : H b with
    | none => exact un.keep b o e q (by intro z; exact absurd (show b ∈ ([] : List Addr) from z) (by simp)) (by simp)
    | some u =>
     rcases hO b with z | ⟨ob, xs, z⟩
     ·rw [q] at z; cases z
     ·have z2 := un.frzs b ob _ z
      obtain ⟨e1, _⟩ := hok b _ z
      obtain ⟨e2, _⟩ := hok' b _ z2
      rw [e] at e1; cases e1
      exact e2
 cases hk : K.lookup a with
 | some o =>
  have e := KX a o hk
  rw [ha] at e
  cases e
  refine core (fun _ => none) (fun _ => .inl rfl) (.inr ⟨_, vs.toArray, _, hk, rfl, rfl, rfl, by rw [List.size_toArray, lenV]; exact hl, by simpa using rv⟩) (fun b u z => by have z' : (none : Option HO) = some u := z; cases z') (fun b z => absurd rfl z) fun z => absurd rfl z
 | none =>
  refine core (fun b => if b = a then some (.frz { cls := .type "list", data := .seq vs.toArray } (.lst (ns.map V.int))) else none) (fun b => ?_) (.inl (.inr ⟨{ cls := .type "list", data := .seq vs.toArray }, if_pos rfl⟩)) (fun b u z => ?_) (fun b z => ?_) fun _ => hk
  ·by_cases hb : b = a
   ·exact .inr ⟨_, _, if_pos hb⟩
   ·exact .inl (if_neg hb)
  ·by_cases hb : b = a
   ·have z' := (if_pos hb).symm.trans z
    cases z'
    subst hb
    exact ⟨ha, by rw [List.length_map]; exact hl, vs, _, rv, ha⟩
   ·have z' := (if_neg hb).symm.trans z
    cases z'
  ·by_cases hb : b = a
   ·exact hb
   ·exact absurd (if_neg hb) z
end L2
namespace L2
open PySem PySem.Spec PyProof.Rows
abbrev KOf {K : PySem.W.Frag} {h : Heap} (_ : K.In h) : PySem.W.Frag := K
theorem walk_of {l : PySem.W.OpenLaw} {n k : Nat} {q : Program} {loose : List Str} {XP : (Str -> Option Value) -> Heap -> Prop} {YP : World -> Heap -> Prop} {d : DefRec} {K : Params -> PySem.W.Frag} {CX : World -> CXT} {sp : World -> Sp} {x : Str}
  (hn : l.most = some n) (hn2 : n <= sizeLine) (hdf : d.params.defaults = []) (hr : jr k callerA)
  (hY : ∀ (w : World) (h : Heap), YP w h -> (K w.params).In h)
  (F : ∀ (w : World) (mg : Str -> Option Value) (fa : Addr) (h : Heap), (K w.params).In h -> h.Ns mainGlobals mg -> mg d.name = some (.ref fa) ->
   ∃ fd : FuncData, (∀ (s : Shared) (u : Value), BindsTo s fd ⟨[u], []⟩ [(x, u)]) /\
    ∀ base : Heap, (K w.params).In base -> base.Ns mainGlobals mg -> kj l.prog w (K w.params) mg base (CX w) k fa fd [x] (sp w))
  (hsp : ∀ (w : World) (H : Hp) (a : Addr) (ns : List Int), ns.length <= n -> B2 H -> SqL (K w.params) H a (ns.map V.int) -> sp w [.ref a] H (fun v _ => v = .bl true) fun _ _ _ => False)
  (hCX : ∀ (w : World) (H : Hp) (s : Shared) (e : Value) (s' : Shared), CX w [] H s (fun _ _ _ => False) e s' -> False) :
  PySem.W.WalkO q loose XP YP l.row.toRowW d [] (fun f vs => PySem.call f vs) := by
 refine Att.attach_call hn hdf fun w s₀ s₁ mg mb fa o pm cd doc a vs ns G Y ho hd hcd hmg hobj hints hlen hg => ?_
 have KX := hY w _ Y
 obtain ⟨fd, hb, hF⟩ := F w mg fa _ KX G.T.g hmg
 exact X8 KX G.T.g G.T.b G.T.builtins G.T.nolimit hg hobj hints (Nat.le_trans hlen hn2) hr hF hb (fun H hO hS => hsp w H a ns hlen hO hS) fun H e s' => hCX w H s₁ e s'
end L2
/- THE LAST THEOREM (shape; LID, My.* are yours):
   My.Adr: a structure of the addresses that your layer names (classes, functions); My.Txt K t: a structure (Prop) of the equations over K;
   My.txt_mk : {K} {implicit addresses ..} (e1 : nsIn K mainGlobals "law" = some (some (.ref f))) (e2 : K.lookup f = some ⟨oc, od, .func (fnOf "law" "law" params body scope dV kV doc pm an cdv ct), sl⟩) (e3 : codeIn K cdv "law" = true) .. : ∃ t, My.Txt K t
set_option maxRecDepth 100000 in
set_option maxHeartbeats 0 in
theorem PySem.Challenge.cw_LID_holds : PySem.Challenge.rw_LID.Holds := by
 w_on; o_law; k_head; (case hw => w_witness2)
 k_fill
 refine L2.walk_of (l := PySem.Challenge.rw_LID) (n := 63) (k := 40) (x := "script") (CX := fun w => ..) (sp := fun _ => My.sp_law) rfl (by decide) rfl ⟨rfl, by decide, by decide⟩ (fun w h Y => PySem.W.kIn_of Y) ?F ?S ?C
 case F =>
  intro w mg fa h KX G hmg
  have T : ∃ t, My.Txt (L2.KOf KX) t := by
   dsimp only [L2.KOf]                          -- K must stand as «<heap const> w.params» for k_is
   refine' My.txt_mk ?e1 ?e2 ?e3 ..
   (case e1 => PySem.W.k_is)                    -- in the order: a name -> its address -> its object -> its parts
   (case e2 => PySem.W.k_is)
   ..
  obtain ⟨t, T⟩ := T
  have e0 := hmg.symm.trans (PySem.W.mg_of KX G T.law)
  cases e0                                       -- fa is the law's own address
  exact ⟨_, fun s u => .of_eq rfl, fun base kb nb => My.law_fn T kb nb⟩     -- if «.of_eq rfl» comes too early: refine' ⟨_, ?b, fun base kb nb => My.law_fn T kb nb⟩; exact fun s u => .of_eq rfl
 case S => exact fun w H a ns hl hO hS => ..
 case C => exact ..
(the tactic k_is has no namespace: write k_is) -/
namespace L2
open PySem PySem.Spec PyProof.Rows
def jh (s : Stmt) : Arguments := match s with
 | .FunctionDef _ a _ _ _ _ _ _ _ _ => a
 | _ => { posonlyargs := [], args := [], vararg := none, kwonlyargs := [], kw_defaults := [], kwarg := none, defaults := [] }
def qB (s : Stmt) : List Stmt := match s with
 | .FunctionDef _ _ b _ _ _ _ _ _ _ => b
 | _ => []
def zj (s : Stmt) : Scope := match s with
 | .FunctionDef _ _ _ _ _ _ sc _ _ _ => sc
 | _ => { kind := .function, names := [], isGenerator := false, isCoroutine := false }
abbrev CX0 : CXT := fun _ _ _ _ _ _ => False
abbrev E0 : XK := fun _ _ _ => False
theorem Dt {X : Cx} : Qf CX0 X E0 := fun _ _ _ _ _ _ _ h => h.elim
structure Fun (K : PySem.W.Frag) (x qual : Str) (st : Stmt) (f : Addr) (fd : FuncData) : Prop where
 ex : ∃ (oc : Value) (od : Option Addr) (kV doc pm : Value) (an : Option Addr) (cdv ct : Value) (osl : Array (Option Value)),
  fd = PySem.W.fnOf x qual (jh st) (qB st) (zj st) .none kV doc pm an cdv ct /\ K.lookup f = some ⟨oc, od, .func fd, osl⟩ /\ PySem.W.codeIn K cdv qual = true
 kp : PySem.W.keepIn K (.ref f) = true
section
variable {P : Program} {w : World} {K : PySem.W.Frag} {mg : Str -> Option Value} {base : Heap}
theorem Fun.ok {x qual : Str} {st : Stmt} {f : Addr} {fd : FuncData} {N ps : List Str} {k : Nat} {sp : Sp} (F : Fun K x qual st f fd) (S : zt N ps (zj st)) (len : ∀ vs H Q E, sp vs H Q E -> vs.length = ps.length)
  (hbody : ∀ (cdv : Value) (A : Around) (outer : List Env) (s : Shared) (H : Hp) (vs : List V) (Q : VK) (E : XK), jr k (A.deeper (envOfC qual (zj st) s.heap.objs.size f cdv)) -> sp vs H Q E ->
   ∃ t, PSs (vW CX0 P w K mg base N qual (zj st) f cdv A outer s H E).nox (qB st) t /\ t { nx := fun _ H' => Q .non H', rt := Q } (start N vs) H) : kj P w K mg base CX0 (k + 1) f fd ps sp := by
 obtain ⟨oc, od, kV, doc, pm, an, cdv, ct, osl, rfl, lk, hcd⟩ := F.ex
 refine Di lk hcd S len fun A outer s H vs Q E hr hsp => ?_
 obtain ⟨t, h, q⟩ := hbody cdv A outer s H vs Q E hr hsp
 exact ⟨t, h.nox, q⟩
theorem Fun.binds {x qual : Str} {st : Stmt} {f : Addr} {fd : FuncData} {ps : List Str} (F : Fun K x qual st f fd)
  (h : ∀ (kV doc pm : Value) (an : Option Addr) (cdv ct : Value) (us : List Value), us.length = ps.length -> bindArgs (PySem.W.fnOf x qual (jh st) (qB st) (zj st) .none kV doc pm an cdv ct) ⟨us, []⟩ = pure (ps.zip us)) : yS K fd ps [] := by
 obtain ⟨oc, od, kV, doc, pm, an, cdv, ct, osl, rfl, lk, hcd⟩ := F.ex
 exact .all (h kV doc pm an cdv ct)
theorem Xh {x qual : Str} {st : Stmt} {f : Addr} {oc : Value} {od an : Option Addr} {osl : Array (Option Value)} {kV doc pm cdv ct : Value} (l : K.lookup f = some ⟨oc, od, .func (PySem.W.fnOf x qual (jh st) (qB st) (zj st) .none kV doc pm an cdv ct), osl⟩)
  (c : PySem.W.codeIn K cdv qual = true) (k : PySem.W.keepIn K (.ref f) = true) : Fun K x qual st f (PySem.W.fnOf x qual (jh st) (qB st) (zj st) .none kV doc pm an cdv ct) := ⟨⟨oc, od, kV, doc, pm, an, cdv, ct, osl, rfl, l, c⟩, k⟩
end
theorem JJ {n : Nat} (h : n <= 1000) : n < sizeLine := Nat.lt_of_le_of_lt h (by decide)
section
variable {X : Cx}
theorem pv (i : Nat) {x : Str} {pos : Pos} (hN : X.N[i]? = some x := by rfl) (hv : Vis X.env.scope x := by first | exact Or.inl rfl | exact Or.inr (Or.inl rfl) | exact Or.inr (Or.inr rfl)) (hd : (x == ("__debug__" : Str)) = false := by decide)
  (hcd : (x == ("__classdict__" : Str)) = false := by decide) : PE X (.Name x pos) (v8 i) := Ar hN hv hd hcd
end
theorem jl {c A B : Prop} [Decidable c] (h1 : c -> A) (h2 : ¬ c -> B) : if c then A else B := by
 by_cases h : c
 ·rw [if_pos h]
  exact h1 h
 ·rw [if_neg h]
  exact h2 h
end L2
namespace L2
open PySem PySem.Spec PyProof.Rows
section
variable {κ : Type} [DecidableEq κ]
end
section
variable {P : Program} {w : World} {H : Hp} {h : Heap} {a : Addr}
end
section
variable {X : Cx} {pins : List (Addr × Obj)} {σ : St} {H : Hp} {s : Shared} {a : Addr} {y v : V} {u r : Value} {o : Option V} {A : Around} {E : Value -> Shared -> Prop}
end
section
variable {X : Cx} {pins : List (Addr × Obj)} {σ : St} {H : Hp} {s : Shared} {a : Addr} {kvs : List (Key × V)} {k : Key} {u : Value} {A : Around} {E : Value -> Shared -> Prop}
end
section
variable {X : Cx} {o i e value : Expr} {pos pos' tpos : Pos} {td ty tv : TE}
end
section
variable {X : Cx} {pos : Pos}
end
structure M1 (X : Cx) (o : Expr) (m : Str) (apos : Pos) (e : Expr) (cpos : Pos) : Prop where
 base : attributeBase o m X.env (eval o X.env) = eval o X.env
 few : ((backTo cpos (starEach [e] X.env)).all (fun x => !x.1) && (backToKw cpos (keywordEach [] X.env)).all (fun x => x.1.isSome)
  && decide (([e] : List Expr).length + ([] : List Keyword).length + (if ([] : List Keyword).isEmpty then 0 else 1) < 30)) = true
 line : (apos.endLine == cpos.line) = true
 trees : backTo cpos (starEach [e] X.env) = [(false, eval e X.env)]
structure M2 (X : Cx) (o : Expr) (m : Str) (apos : Pos) (e f : Expr) (cpos : Pos) : Prop where
 base : attributeBase o m X.env (eval o X.env) = eval o X.env
 few : ((backTo cpos (starEach [e, f] X.env)).all (fun x => !x.1) && (backToKw cpos (keywordEach [] X.env)).all (fun x => x.1.isSome)
  && decide (([e, f] : List Expr).length + ([] : List Keyword).length + (if ([] : List Keyword).isEmpty then 0 else 1) < 30)) = true
 line : (apos.endLine == cpos.line) = true
 trees : backTo cpos (starEach [e, f] X.env) = [(false, eval e X.env), (false, eval f X.env)]
section
variable {X : Cx} {pins : List (Addr × Obj)} {σ : St} {H : Hp} {s : Shared} {a : Addr} {y d : V} {u r : Value} {o : Option V} {A : Around} {E : Value -> Shared -> Prop}
end
section
variable {X : Cx} {o e f : Expr} {apos cpos : Pos} {td ty tx : TE}
end
section
variable {X : Cx} {pins : List (Addr × Obj)} {σ : St} {H : Hp} {s : Shared} {a : Addr} {kvs : List (Key × V)} {A : Around} {E : Value -> Shared -> Prop}
end
section
variable {X : Cx} {pins : List (Addr × Obj)} {σ : St} {H : Hp} {s : Shared} {a : Addr} {y : V} {u : Value} {A : Around} {E : Value -> Shared -> Prop}
end
end L2
namespace L2
open PySem PySem.Spec PyProof.Rows
section
variable {κ : Type} [DecidableEq κ]
end
end L2
set_option Elab.async false
set_option linter.all false
set_option maxRecDepth 100000
set_option maxHeartbeats 4000000
namespace L2
open PySem PySem.Spec PyProof.Rows
def Xz (N : List Str) (ts : List Nat) (sc : Scope) (kind : Str -> Option NameKind) : Bool :=
 sc.kind == .function && sc.names.all (fun y => y.2 != .cell && (y.2 != .local || sc.names.lookup y.1 == some .local) && (y.2 != .free || kind y.1 == some .cell || kind y.1 == some .free)) &&
  N.zipIdx.all (fun p => sc.names.lookup p.1 != some .local || ts.contains p.2)
def qA (cells : List (Str × Addr)) : List (Str × NameKind) -> List (Str × Addr) -> List (Str × Addr)
 | [], acc => acc
 | (n, k) :: r, acc => qA cells r (if k = .free then (n, (cells.lookup n).getD 0) :: acc else acc)
theorem wn {env : Env} : ∀ (names : List (Str × NameKind)) (acc : List (Str × Addr)), (∀ y ∈ names, y.2 = .free -> ∃ c, env.cells.lookup y.1 = some c) ->
  (forIn names acc fun (x : Str × NameKind) (cs : List (Str × Addr)) => (match x with | (name, kind) => if (kind == NameKind.free) = true then (do let c <- cellOf env name; pure (ForInStep.yield ((name, c) :: cs))) else pure (ForInStep.yield cs) : Sem (ForInStep (List (Str × Addr))))) = pure (qA env.cells names acc)
 | [], acc, _ => rfl
 | (n, k) :: r, acc, h => by
  rw [List.forIn_cons]
  by_cases hk : k = .free
  ·subst hk
   obtain ⟨c, hc⟩ := h (n, .free) List.mem_cons_self rfl
   have e1 : cellOf env n = pure c := by unfold cellOf; rw [hc]
   simp only [beq_self_eq_true, if_true, e1, pure_bind]
   rw [wn r _ fun y hy => h y (List.mem_cons_of_mem _ hy)]
   show _ = pure (qA env.cells r (if NameKind.free = .free then _ else _))
   rw [if_pos rfl, hc]; rfl
  ·have hb : (k == NameKind.free) = false := by simpa using hk
   simp only [hb, Bool.false_eq_true, if_false, pure_bind]
   rw [wn r _ fun y hy => h y (List.mem_cons_of_mem _ hy)]
   show _ = pure (qA env.cells r (if k = .free then _ else _))
   rw [if_neg hk]
theorem xu {cells : List (Str × Addr)} : ∀ (names : List (Str × NameKind)) (acc : List (Str × Addr)), (∀ y ∈ names, y.2 = .free -> ∃ c, cells.lookup y.1 = some c) -> (∀ x c, acc.lookup x = some c -> cells.lookup x = some c) ->
    (∀ x c, (qA cells names acc).lookup x = some c -> cells.lookup x = some c) /\ (∀ x c, acc.lookup x = some c -> ∃ c', (qA cells names acc).lookup x = some c') /\ ∀ y ∈ names, y.2 = .free -> ∃ c, (qA cells names acc).lookup y.1 = some c
  | [], acc, _, h2 => ⟨h2, fun x c e => ⟨c, e⟩, fun y hy => nomatch hy⟩
  | (n, k) :: r, acc, h1, h2 => by
    by_cases hk : k = .free
    · subst hk
      obtain ⟨c, hc⟩ := h1 (n, .free) List.mem_cons_self rfl
      have hc : cells.lookup n = some c := hc
      have e : qA cells ((n, .free) :: r) acc = qA cells r ((n, c) :: acc) := by
        show qA cells r (if NameKind.free = .free then _ else _) = _
        rw [if_pos rfl, hc]; rfl
      rw [e]
      obtain ⟨q1, q2, q3⟩ := xu (cells := cells) r ((n, c) :: acc) (fun y hy => h1 y (List.mem_cons_of_mem _ hy)) (fun x c' e' => by
        rw [List.lookup_cons] at e'
        cases hx : x == n with
        | true => rw [hx] at e'; have : x = n := by simpa using hx
                  subst this; cases e'; exact hc
        | false => rw [hx] at e'; exact h2 x c' e')
      refine ⟨q1, fun x c' e' => ?_, fun y hy hf => ?_⟩
      · cases hx : x == n with
        | true => exact q2 x c (by rw [List.lookup_cons, hx])
        | false => exact q2 x c' (by rw [List.lookup_cons, hx]; exact e')
      · rcases List.mem_cons.mp hy with rfl | hy
        · exact q2 n c (by rw [List.lookup_cons, beq_self_eq_true])
        · exact q3 y hy hf
    · have e : qA cells ((n, k) :: r) acc = qA cells r acc := by
        show qA cells r (if k = .free then _ else _) = _
        rw [if_neg hk]
      rw [e]
      obtain ⟨q1, q2, q3⟩ := xu (cells := cells) r acc (fun y hy => h1 y (List.mem_cons_of_mem _ hy)) h2
      refine ⟨q1, q2, fun y hy hf => ?_⟩
      rcases List.mem_cons.mp hy with rfl | hy
      · exact absurd hf hk
      · exact q3 y hy hf
theorem QG {scope : Scope} {env : Env} (h : ∀ y ∈ scope.names, y.2 = .free -> ∃ c, env.cells.lookup y.1 = some c) :
  ∃ cl, closureFor scope env = pure cl /\ (∀ x c, cl.lookup x = some c -> env.cells.lookup x = some c) /\ ∀ y ∈ scope.names, y.2 = .free -> ∃ c, cl.lookup y.1 = some c := by
 obtain ⟨q1, _, q3⟩ := xu (cells := env.cells) scope.names [] h (fun x c e => nomatch e)
 refine ⟨qA env.cells scope.names [], ?_, q1, q3⟩
 unfold closureFor
 have := wn (env := env) scope.names [] h
 first
  | exact this
  | (simp only [bind_pure]; exact this)
  | (refine Eq.trans ?_ this; simp)
theorem kW {env : Env} : ∀ {names : List (Str × NameKind)} {x : Str}, (names.map fun (n, k) => if (k == NameKind.free && env.scope.kind == .function && env.kindOf n == some .cell) then (n, NameKind.cell) else (n, k)).lookup x =
  (names.lookup x).map fun k => if (k == NameKind.free && env.scope.kind == .function && env.kindOf x == some .cell) then NameKind.cell else k
 | [], _ => rfl
 | (n, k) :: r, x => by
  have ih := @kW env r x
  rw [List.map_cons]
  cases hx : x == n with
  | true =>
   have e : x = n := by simpa using hx
   subst e
   rw [List.lookup_cons (as := r), beq_self_eq_true]
   show List.lookup x ((if (k == NameKind.free && env.scope.kind == .function && env.kindOf x == some .cell) = true then (x, NameKind.cell) else (x, k)) :: _) = some _
   by_cases hc : (k == NameKind.free && env.scope.kind == .function && env.kindOf x == some .cell) = true
   ·rw [if_pos hc, List.lookup_cons, beq_self_eq_true]; dsimp only; rw [if_pos hc]
   ·rw [if_neg hc, List.lookup_cons, beq_self_eq_true]; dsimp only; rw [if_neg hc]
  | false =>
   rw [List.lookup_cons (as := r), hx]
   show List.lookup x ((if (k == NameKind.free && env.scope.kind == .function && env.kindOf n == some .cell) = true then (n, NameKind.cell) else (n, k)) :: _) = _
   by_cases hc : (k == NameKind.free && env.scope.kind == .function && env.kindOf n == some .cell) = true
   ·rw [if_pos hc, List.lookup_cons, hx]; exact ih
   ·rw [if_neg hc, List.lookup_cons, hx]; exact ih
abbrev cxC (X : Cx) (scope : Scope) (cl : List (Str × Addr)) (s : Shared) (H : Hp) (fp : List Addr) : Cx :=
 { X with s₀ := s, H₀ := H, env := compEnvC scope cl s.heap.objs.size X.env, outer := X.stack, ex := fp, fn := fun _ => false, pn := [], xe := fun _ _ => False }
def clr : List Nat -> St -> St
 | [], σ => σ
 | j :: r, σ => clr r (σ.set j none)
theorem QT : ∀ (ts : List Nat) (σ : St), (clr ts σ).length = σ.length
 | [], _ => rfl
 | j :: r, σ => by show (clr r (σ.set j none)).length = _; rw [QT r]; simp
theorem wL : ∀ (ts : List Nat) (σ : St) (i : Nat) (v : V), (clr ts σ)[i]? = some (some v) -> i ∉ ts /\ σ[i]? = some (some v)
 | [], _, _, _, h => ⟨by simp, h⟩
 | j :: r, σ, i, v, h => by
  obtain ⟨h1, h2⟩ := wL r (σ.set j none) i v h
  by_cases e : j = i
  ·subst e
   rw [List.getElem?_set] at h2
   simp at h2
  ·rw [List.getElem?_set_ne e] at h2
   exact ⟨by simp [h1, Ne.symm e], h2⟩
structure ScF (X : Cx) (ts : List Nat) (scope : Scope) : Prop where
 kind : scope.kind = .function
 cell : ∀ y ∈ scope.names, y.2 ≠ .cell
 loc : ∀ y ∈ scope.names, y.2 = .local -> scope.names.lookup y.1 = some .local
 free : ∀ y ∈ scope.names, y.2 = .free -> X.env.kindOf y.1 = some .cell \/ X.env.kindOf y.1 = some .free
 ts : ∀ (i : Nat) x, X.N[i]? = some x -> scope.names.lookup x = some .local -> i ∈ ts
theorem W5 {X : Cx} {ts : List Nat} {scope : Scope} (h : Xz X.N ts scope X.env.kindOf = true) : ScF X ts scope := by
  unfold Xz at h
  simp only [Bool.and_eq_true, List.all_eq_true, bne_iff_ne, ne_eq, Bool.or_eq_true, beq_iff_eq] at h
  obtain ⟨⟨h1, h2⟩, h3⟩ := h
  refine ⟨h1, fun y hy => (h2 y hy).1.1, fun y hy e => ?_, fun y hy e => ?_, fun i x e1 e2 => ?_⟩
  · rcases (h2 y hy).1.2 with z | z
    · exact absurd e z
    · exact z
  · rcases (h2 y hy).2 with (z | z) | z
    · exact absurd e z
    · exact .inl z
    · exact .inr z
  · have hm : (x, i) ∈ X.N.zipIdx := by
      rw [List.mem_zipIdx_iff_getElem?]; exact e1
    rcases h3 _ hm with z | z
    · exact absurd e2 z
    · simpa using z
section
variable {X : Cx} {ts : List Nat} {scope : Scope} {pins : List (Addr × Obj)} {σ : St} {H : Hp} {s : Shared} {fp : List Addr}
theorem Z7 (I : Inv X pins σ H s) (S : ScF X ts scope) (hf : ∀ b ∈ fp, xK X pins H b) (hfl : ∀ b ∈ fp, b < s.heap.objs.size) {cl : List (Str × Addr)} (c1 : ∀ x c, cl.lookup x = some c -> X.env.cells.lookup x = some c)
  (c2 : ∀ y ∈ scope.names, y.2 = .free -> ∃ c, cl.lookup y.1 = some c) {h1 : Heap} {t1 : Nat} (hns : h1.Ns s.heap.objs.size (fun x => ([] : List (Str × Value)).reverse.lookup x))
  (hk : ∀ b o, s.heap.get? b = some o -> h1.get? b = some o) : Inv (cxC X scope cl s H fp) [] (clr ts σ) H { s with heap := h1, toks := t1 } := by
 have hlk : ∀ x, (relabel scope X.env).names.lookup x = (scope.names.lookup x).map fun k => if (k == NameKind.free && X.env.scope.kind == .function && X.env.kindOf x == some .cell) then NameKind.cell else k := fun x => kW
 have cfree : ∀ x, ((relabel scope X.env).names.lookup x = some .cell \/ (relabel scope X.env).names.lookup x = some .free) -> (x, NameKind.free) ∈ scope.names := fun x hx => by
  rw [hlk] at hx
  cases e : scope.names.lookup x with
  | none => rw [e] at hx; rcases hx with hx | hx <;> cases hx
  | some k =>
   have hm := mem_of_lookup_some e
   cases k with
   | free => exact hm
   | cell => exact absurd rfl (S.cell _ hm)
   | «local» => rw [e] at hx; rcases hx with hx | hx <;> cases hx
   | globalExplicit => rw [e] at hx; rcases hx with hx | hx <;> cases hx
   | globalImplicit => rw [e] at hx; rcases hx with hx | hx <;> cases hx
 have ccell : ∀ x c, cl.lookup x = some c -> ∃ v, s.heap.IsCell c v := fun x c e => I.cell x c (c1 x c e)
 have fpne : ∀ b ∈ fp, b ∉ frs X.stack := fun b hb z => by
  obtain ⟨_, f1, f2, _⟩ := hf b hb
  rcases List.mem_cons.mp (I.stkSub b z) with e | e
  ·exact f1 e
  ·exact f2 e
 refine ⟨⟨I.ok.mod, S.kind, I.ok.glob, I.ok.blt, Nat.le_refl _, fun x y c e1 e2 => I.ok.inj x y c (c1 x c e1) (c1 y c e2), fun x hx => c2 (x, .free) (cfree x hx) rfl, (fun x c hx => nomatch hx), I.ok.hd, I.ok.frames, .inl rfl, fun b hb => ⟨Nat.ne_of_lt (hfl b hb), fun x c e => (hf b hb).2.2.2.2.1 x c (c1 x c e)⟩,
  I.bs, Nat.le_trans I.ok.bsz I.sz, fun b o e hb => ?_, fpne, I.stack, I.stkFree⟩, rfl, I.bare, Un.kept hk, ⟨_, hns, fun i x v e1 e2 e3 => ?_⟩, fun x c e => ?_, I.hok.fresh (Nat.le_refl _), fun x c e => I.freeC x c (c1 x c e), fun p hp => absurd hp (by simp), I.hok.kept hk, by rw [QT]; exact I.len⟩
 ·rcases (hf b hb).2.2.2.1 with z | z
  ·exact I.ok.noex b o e z
  ·exact absurd (Nat.lt_of_lt_of_le (Heap.lt_size e) (Nat.le_trans I.ok.bsz z)) (Nat.lt_irrefl _)
 ·obtain ⟨nt, e2⟩ := wL ts σ i v e2
  have e3' : (relabel scope X.env).names.lookup x = some .local \/ (relabel scope X.env).names.lookup x = some .cell \/ (relabel scope X.env).names.lookup x = some .free := e3
  rcases e3' with z | z
  ·rw [hlk] at z
   cases e : scope.names.lookup x with
   | none => rw [e] at z; cases z
   | some k =>
    rw [e] at z
    have z' : (if (k == NameKind.free && X.env.scope.kind == .function && X.env.kindOf x == some .cell) = true then NameKind.cell else k) = .local := Option.some.inj z
    split at z'
    ·cases z'
    ·subst z'
     exact absurd (S.ts i x e1 e) nt
  ·have hm := cfree x z
   obtain ⟨c, hc⟩ := c2 _ hm rfl
   obtain ⟨m, hn, hl⟩ := I.loc
   have vis : Vis X.env.scope x := by
    rcases S.free _ hm rfl with q | q
    ·exact .inr (.inl q)
    ·exact .inr (.inr q)
   obtain ⟨u, r, l⟩ := hl i x v e1 e2 vis
   refine ⟨u, r, .inr ⟨z, c, hc, ?_⟩⟩
   rcases l with ⟨q, _⟩ | ⟨_, c', hc', hcell⟩
   ·rcases S.free _ hm rfl with q' | q'
    ·rw [q'] at q; cases q
    ·rw [q'] at q; cases q
   ·rw [c1 x c hc] at hc'
    cases hc'
    obtain ⟨o, ho, hd⟩ := hcell
    exact ⟨o, hk _ _ ho, hd⟩
 ·obtain ⟨v, o, ho, hd⟩ := ccell x c e
  exact ⟨v, o, hk _ _ ho, hd⟩
end
section
variable {prog : Program} {w : World} {A : Around} {R : Result -> Shared -> Prop} {s : Shared}
theorem kl {elt target iter : Expr} {ifs : List Expr} {scope : Scope} {pos : Pos} {it acc : Value} {env : Env} (I : Nat -> Shared -> Prop)
    (turn : ∀ n s, I n s -> wpAny (model prog w) A (pyNext it) (fun r s₁ => match r with
      | none => R (.ok .next) s₁
      | some v => wpAny (model prog w) A (letOwnedTupleGo target it v) (fun _ s₀ => wpAny (model prog w) A (assign target env v) (fun _ s₂ =>
          wpAny (model prog w) A (forIn ifs true fun c r => if r = true then do let ok <- isTrue c env (eval c env); pure (ForInStep.yield ok) else pure (ForInStep.yield r)) (fun ok s₃ =>
            if ok = true then wpAny (model prog w) A (eval elt env) (fun x s₄ =>
              wpAny (model prog w) A (call (.builtin "list.append") [acc, x]) (fun _ s₅ => ∃ m, m < n /\ I m s₅) (fun _ _ => False) s₄) (fun _ _ => False) s₃
            else ∃ m, m < n /\ I m s₃) (fun _ _ => False) s₂) (fun _ _ => False) s₀) (fun _ _ => False) s₁) (fun _ _ => False) s)
    (n : Nat) (h : I n s) :
    codeAny (model prog w) A (.compLoop (.ListComp elt [⟨target, iter, ifs, 0⟩] scope pos) 0 it acc env) R s := by
  refine codeAny_loop rfl I (fun n s hI => ?_) n h
  show wpAny _ A ((compTurn (.ListComp elt [⟨target, iter, ifs, 0⟩] scope pos) 0 it acc env).onRaise (fun x => do noteFrame x env; theTreesLotGoes x)) _ _ s
  refine wpAny_noted ?_
  rw [compTurn_list]
  refine wpAny_bind (wpAny_standAt (wpAny_bind (wpAny_mono (turn n s hI) (fun r s₁ h₁ => ?_) fun _ _ h' => h'.elim)))
  cases r with
  | none => exact wpAny_pure h₁
  | some v =>
    refine wpAny_bind (wpAny_mono h₁ (fun _ s₀ h₀ => ?_) fun _ _ h' => h'.elim)
    refine wpAny_bind (wpAny_mono h₀ (fun _ s₂ h₂ => wpAny_bind (wpAny_mono h₂ (fun ok s₃ h₃ => ?_) fun _ _ h' => h'.elim)) fun _ _ h' => h'.elim)
    cases ok with
    | false => exact wpAny_pure ⟨rfl, h₃⟩
    | true =>
      exact wpAny_bind (wpAny_bind (wpAny_mono h₃ (fun x s₄ h₄ => wpAny_bind (wpAny_mono h₄ (fun _ s₅ h₅ => wpAny_pure (wpAny_pure ⟨rfl, h₅⟩)) fun _ _ h' => h'.elim)) fun _ _ h' => h'.elim))
end
def Xp : TT := fun _ H Q => Q true H
def PIf (X : Cx) (ifs : List Expr) (t : TT) : Prop :=
 ∀ (pins : List (Addr × Obj)) (s : Shared) (σ : St) (H : Hp) (Q : Bool -> Hp -> Prop), Inv X pins σ H s -> t σ H Q ->
  wpAny (model X.prog X.w) X.A (forIn ifs true fun c r => if r = true then do let ok <- isTrue c X.env (eval c X.env); pure (ForInStep.yield ok) else pure (ForInStep.yield r)) (TP X pins σ Q) X.xe s
theorem qE {X : Cx} : PIf X [] Xp := fun _ _ _ H _ I h => wpAny_tests_nil ⟨H, I, h⟩
theorem wf {X : Cx} {c : Expr} {t : TT} (h : PT X c t) : PIf X [c] t := fun pins s σ H Q I hq => wpAny_tests_one (h pins s σ H Q I hq)
def Zr (ts : List Nat) (wi : TI) (g : TG) (tt : TT) (te : TE) : TE := fun σ H Q => wi σ H fun J H1 => ∀ D, H1 D = none -> ∃ W : Nat -> Nat -> St -> Hp -> Prop, (∃ m, W 0 m (clr ts σ) (upd H1 D (.lst []))) /\ ∀ i m τ H2, W i m τ H2 ->
 (J.stop i H2 /\ Q (.ref D) H2) \/ (J.go i H2 /\ ∃ N : St -> Hp -> Prop, (∀ τ' H', N τ' H' -> ∃ m', m' < m /\ W (i + 1) m' τ' H') /\ ∀ x H', J.yld i H2 x H' -> g x τ H' fun τ2 H3 => tt τ2 H3 fun b H4 =>
  if b = true then te τ2 H4 fun v H5 => ∃ ys, H5 D = some (.lst ys) /\ ys.length < sizeLine /\ N τ2 (upd H5 D (.lst (ys ++ [v]))) else N τ2 H4)
section
variable {X : Cx} {ts : List Nat} {scope : Scope} {tg iter elt : Expr} {ifs : List Expr} {wi : TI} {g : TG} {tt : TT} {te : TE} {pos : Pos}
theorem Ze (hc : X.calm = true) (hsc : Xz X.N ts scope X.env.kindOf = true) (hi : PI X tg iter wi) (hg : ∀ cl s H fp, PG (cxC X scope cl s H fp) tg g) (ht : ∀ cl s H fp, PIf (cxC X scope cl s H fp) ifs tt) (he : ∀ cl s H fp, PE (cxC X scope cl s H fp) elt te)
  {pins : List (Addr × Obj)} {s : Shared} {σ : St} {H : Hp} {Q : VK} (I : Inv X pins σ H s) (h : Zr ts wi g tt te σ H Q) {use : Option (Value -> Sem Unit)} {Q' : Value -> Shared -> Prop}
  (fin : ∀ (D C : Addr) (H' : Hp) (s' : Shared), Inv X pins σ H' s' -> (∃ m, s'.heap.Ns C m) -> H' C = none -> C ≠ X.env.locals -> (∀ x c, X.env.cells.lookup x = some c -> c ≠ C) -> X.s₀.heap.objs.size <= C -> (∀ p ∈ X.pn ++ pins, p.1 ≠ C) -> C ∉ X.fs -> Q (.ref D) H' ->
   compPost (model X.prog X.w) X.A X.xe use Q' (.ref D) C (.ok .next) s')
  (hs : ∀ x, foldedSetIterable iter X.env x = pure x) :
  wpAny (model X.prog X.w) X.A (comprehension (.ListComp elt [⟨tg, iter, ifs, 0⟩] scope pos) scope X.env (firstIterPos [⟨tg, iter, ifs, 0⟩] pos) (newList []) false (eval iter X.env) use) Q' X.xe s := by
 have S := W5 hsc
 obtain ⟨cl, hcl, c1, c2⟩ := QG (scope := scope) (env := X.env) fun y hy e => I.ok.has y.1 (S.free y hy e)
 refine wpAny_comprehension_free (use := use) rfl hs hcl S.kind S.loc ?_
 refine wpAny_mono (hi pins s σ H _ I h) (fun v s1 h1 => wpAny_mono h1 (fun itv s2 h2 => ?_) fun _ _ e => e) fun _ _ e => e
 obtain ⟨it, fp, tn, J, H2, e, I2, T, st2, f2, q2⟩ := h2
 subst e
 have hD : H2 s2.heap.objs.size = none := I2.hok.fresh (Nat.le_refl _)
 obtain ⟨W, ⟨m0, w0⟩, turn⟩ := q2 _ hD
 refine wpAny_newObj_type (wpAny_newFunctionEnv S.cell (by intro y hy; simp at hy) (fun h₁ hns₁ hsb₁ => ?_) S.kind)
 dsimp only at hns₁ hsb₁ ⊢
 generalize hh3 : s2.heap.push { cls := .type "list", dict := none, data := .seq ([] : List Value).toArray } = g3 at hns₁ hsb₁ ⊢
 have I3 : Inv X pins σ (upd H2 s2.heap.objs.size (.lst [])) { s2 with heap := g3 } := by
  rw [<- hh3]
  exact I2.laid (t' := s2.toks) (fun b u e => Heap.get?_push_of_some _ e) (Nat.le_refl _) ⟨Nat.zero_le _, [], _, .nil, Heap.get?_push_size _ rfl⟩
 have st3 : tn 0 g3 := T.keep _ _ _ st2 fun b _ o e => by rw [<- hh3]; exact Heap.get?_push_of_some _ e
 have lt2 : ∀ b ∈ fp, b < s2.heap.objs.size := fun b hb => by obtain ⟨o, e, _⟩ := T.obj _ _ st2 b hb; exact Heap.lt_size e
 have hsz3 : g3.objs.size = s2.heap.objs.size + 1 := by rw [<- hh3, Heap.size_push]
 have f3 : ∀ b ∈ fp, xK X pins (upd H2 s2.heap.objs.size (.lst [])) b := fun b hb => ⟨by rw [zk (Nat.ne_of_lt (lt2 b hb))]; exact (f2 b hb).1, (f2 b hb).2⟩
 have lt3 : ∀ b ∈ fp, b < g3.objs.size := fun b hb => by rw [hsz3]; exact Nat.lt_succ_of_lt (lt2 b hb)
 have old : ∀ b o, g3.get? b = some o -> h₁.get? b = some o := fun b o e => hsb₁.extBut b o (Nat.ne_of_lt (Heap.lt_size e)) (Heap.get?_push_of_some _ e)
 have hns : h₁.Ns g3.objs.size (fun x => ([] : List (Str × Value)).reverse.lookup x) := hns₁
 have I4 : ∀ t, Inv (cxC X scope cl { s2 with heap := g3 } (upd H2 s2.heap.objs.size (.lst [])) fp) [] (clr ts σ) (upd H2 s2.heap.objs.size (.lst [])) { s2 with heap := h₁, toks := t } := fun t => Z7 I3 S f3 lt3 c1 c2 hns old
 have fpne : ∀ b ∈ fp, b ∉ frs X.stack := fun b hb z => by
  obtain ⟨_, f1, f2, _⟩ := f3 b hb
  rcases List.mem_cons.mp (I3.stkSub b z) with e | e
  ·exact f1 e
  ·exact f2 e
 have stat : ∀ {H' : Hp}, (∀ b ∈ fp, H' b = none) -> ∀ b ∈ fp, xK (cxC X scope cl { s2 with heap := g3 } (upd H2 s2.heap.objs.size (.lst [])) fp) [] H' b := fun hn b hb =>
  ⟨hn b hb, Nat.ne_of_lt (lt3 b hb), fpne b hb, .inl hb, fun x c e => (f2 b hb).2.2.2.2.1 x c (c1 x c e), fun p hp => absurd hp (by simp)⟩
 have loop : ∀ t, codeAny (model X.prog X.w) X.A (.compLoop (.ListComp elt [⟨tg, iter, ifs, 0⟩] scope pos) 0 (.ref it) (.ref s2.heap.objs.size) (compEnvC scope cl g3.objs.size X.env))
   (compPost (model X.prog X.w) X.A X.xe use Q' (.ref s2.heap.objs.size) g3.objs.size) { s2 with heap := h₁, toks := t } := by
  intro t
  refine kl (fun n s' => ∃ i τ H', Inv (cxC X scope cl { s2 with heap := g3 } (upd H2 s2.heap.objs.size (.lst [])) fp) [] τ H' s' /\ tn i s'.heap /\ (∀ b ∈ fp, H' b = none) /\ W i n τ H') ?_ m0
   ⟨0, clr ts σ, _, I4 t, T.keep _ _ _ st3 fun b _ o e => old b o e, fun b hb => (f3 b hb).1, w0⟩
  rintro n s5 ⟨i, τ, H5, I5, st5, fr5, w5⟩
  rcases turn i n τ H5 w5 with ⟨stop, qn⟩ | ⟨go, N, hN, step⟩
  ·refine thn (T.done (cxC X scope cl { s2 with heap := g3 } (upd H2 s2.heap.objs.size (.lst [])) fp) rfl rfl rfl hc i [] s5 τ H5 _ I5 (stat fr5) st5 stop) fun r s6 ⟨hr, I6⟩ => ?_
   subst hr
   have base : Un (frs X.stack) fp (upd H2 s2.heap.objs.size (.lst [])) H5 g3 s6.heap := I6.base
   have J6 : Inv X pins σ H5 s6 := I3.call' (ch := fp) I6.os base I6.hok I6.bare fun b hb => ⟨(f3 b hb).2.2.2.1, (f3 b hb).2.1, (f3 b hb).2.2.2.2.1, (f3 b hb).2.2.2.2.2⟩
   obtain ⟨m6, n6, _⟩ := I6.loc
   have hC : g3.get? g3.objs.size = none := Heap.get?_none_of_le (Nat.le_refl _)
   refine fin _ g3.objs.size H5 s6 J6 ⟨m6, n6⟩ I6.free (Nat.ne_of_gt I3.lt) (fun x c e z => ?_) I3.sz (fun p hp z => ?_) (I3.nofs (Nat.le_refl _)) qn
   ·obtain ⟨v, q⟩ := I3.cell x c e
    exact absurd q.lt (by rw [z]; exact Nat.lt_irrefl _)
   ·exact absurd (Heap.lt_size (I3.pin p hp).1) (by rw [z]; exact Nat.lt_irrefl _)
  ·refine thn (T.item (cxC X scope cl { s2 with heap := g3 } (upd H2 s2.heap.objs.size (.lst [])) fp) rfl rfl rfl hc i [] s5 τ H5 _ I5 (stat fr5) st5 go) fun r s6 ⟨u, hr, h6⟩ => ?_
   subst hr
   refine thn h6 fun _ s7 ⟨x, H7, I7, r7, y7, st7, fr7⟩ => ?_
   have I7' := I7.pinned (stat fr7) (T.obj _ _ st7)
   refine thn (hg cl { s2 with heap := g3 } _ fp _ s7 τ H7 x u _ I7' r7 (step x H7 y7)) fun _ s8 ⟨τ8, H8, I8, q8⟩ => ?_
   refine thn (ht cl { s2 with heap := g3 } _ fp _ s8 τ8 H8 _ I8 q8) fun b s9 ⟨H9, I9, q9⟩ => ?_
   have again : ∀ {τ9 : St} {H9 : Hp} {s9 : Shared}, Inv (cxC X scope cl { s2 with heap := g3 } (upd H2 s2.heap.objs.size (.lst [])) fp) ([] ++ yG fp s7.heap) τ9 H9 s9 -> N τ9 H9 ->
     ∃ m, m < n /\ ∃ i τ H', Inv (cxC X scope cl { s2 with heap := g3 } (upd H2 s2.heap.objs.size (.lst [])) fp) [] τ H' s9 /\ tn i s9.heap /\ (∀ b ∈ fp, H' b = none) /\ W i m τ H' := fun {τ9 H9 s9} I9 n9 => by
    obtain ⟨m', hm, w9⟩ := hN _ _ n9
    refine ⟨m', hm, i + 1, τ9, H9, I9.unpinned, T.keep _ _ _ st7 fun b hb o e => (I9.pin (b, o) (List.mem_append_right _ (List.mem_append_right _ (jO hb e)))).1, fun b hb => ?_, w9⟩
    obtain ⟨o, e, d⟩ := T.obj _ _ st7 b hb
    exact (I9.pin (b, o) (List.mem_append_right _ (List.mem_append_right _ (jO hb e)))).2.1
   cases b with
   | false =>
    rw [if_neg Bool.false_ne_true] at q9 ⊢
    exact again I9 q9
   | true =>
    rw [if_pos rfl] at q9 ⊢
    refine thn (he cl { s2 with heap := g3 } _ fp _ s9 τ8 H9 _ I9 q9) fun y s10 ⟨v, H10, I10, r10, ys, hys, hlen, n10⟩ => ?_
    exact thn (yU (X := cxC X scope cl { s2 with heap := g3 } (upd H2 s2.heap.objs.size (.lst [])) fp) _ s10 τ8 H10 (.ref s2.heap.objs.size) [v] (.ref s2.heap.objs.size) [y] (fun _ H11 => N τ8 H11) I10 rfl (.cons r10 .nil) ⟨_, ys, v, rfl, rfl, hys, hlen, n10⟩) fun _ s11 ⟨_, H11, I11, _, n11⟩ => again I11 n11
 have LW := loop (s2.toks + ([] : List (Str × Value)).length)
 exact codeAny_compStart_list LW (T.self _ 0 _ _ _ (T.keep _ _ _ st3 fun b _ o e => old b o e) LW)
end
end L2
set_option Elab.async false
set_option linter.all false
set_option maxRecDepth 100000
set_option maxHeartbeats 4000000
namespace L2
open PySem PySem.Spec PyProof.Rows
section
variable {X : Cx} {ts : List Nat} {scope : Scope} {tg iter elt : Expr} {ifs : List Expr} {wi : TI} {g : TG} {tt : TT} {te : TE} {pos : Pos}
theorem qK (hc : X.calm = true) (hsc : Xz X.N ts scope X.env.kindOf = true) (hi : PI X tg iter wi) (hg : ∀ cl s H fp, PG (cxC X scope cl s H fp) tg g) (ht : ∀ cl s H fp, PIf (cxC X scope cl s H fp) ifs tt) (he : ∀ cl s H fp, PE (cxC X scope cl s H fp) elt te)
  (hs : ∀ x, foldedSetIterable iter X.env x = pure x := by intro _; rfl) : PE X (.ListComp elt [⟨tg, iter, ifs, 0⟩] scope pos) (Zr ts wi g tt te) := by
 intro pins s σ H Q I h
 rw [eval_ListComp]
 refine Ze hc hsc hi hg ht he I h (use := none) (fun D C H' s' I' ⟨m, hn⟩ hC hL hce hsz hp hfs q => ⟨m, hn, fun h' hs' => ?_⟩) hs
 exact ⟨.ref D, H', I'.turned (t' := s'.toks) (it := C) (fun b o hb e => (hs'.2 b hb).trans e) hC hL (.inr hsz) hce hp, rfl, q⟩
theorem xP {j : Nat} {y : Str} {py spos : Pos} (hc : X.calm = true) (hN : X.N.Nodup) (hj : X.N[j]? = some y) (hy : Loc X.env.scope y) (hsc : Xz X.N ts scope X.env.kindOf = true) (hi : PI X tg iter wi) (hg : ∀ cl s H fp, PG (cxC X scope cl s H fp) tg g) (ht : ∀ cl s H fp, PIf (cxC X scope cl s H fp) ifs tt) (he : ∀ cl s H fp, PE (cxC X scope cl s H fp) elt te)
  (hsw : swapsWith (.ListComp elt [⟨tg, iter, ifs, 0⟩] scope pos) (some (.Name y py)) spos.line X.env = pure true := by rfl)
  (hs : ∀ x, foldedSetIterable iter X.env x = pure x := by intro _; rfl) (hf : X.fn y = true \/ X.env.scope.names.lookup y = some .local := by first | exact .inl rfl | exact .inr rfl | assumption) :
  PS X (.Assign [.Name y py] (.ListComp elt [⟨tg, iter, ifs, 0⟩] scope pos) spos) (Y9 (Zr ts wi g tt te) (wZ j)) := by
 intro pins s σ H D I h
 rw [exec_Assign_Name_used _ _ _ _ hsw]
 refine wpAny_bind (wpAny_standAt (wpAny_bind ?_))
 show wpAny _ _ (do let _ <- comprehension (.ListComp elt [⟨tg, iter, ifs, 0⟩] scope pos) scope X.env _ (newList []) false (eval iter X.env) (some (assign (.Name y py) X.env))) _ _ s
 refine wpAny_bind (wpAny_mono (Ze hc hsc hi hg ht he I h (use := some (assign (.Name y py) X.env)) (Q' := fun _ s' => SP X pins D .next s') (fun D' C H' s' I' ⟨m, hn⟩ hC hL hce hsz hp hfs q => ?_) hs) (fun _ s' hq => wpAny_pure (wpAny_pure hq)) fun _ _ e => e)
 show wpAny _ _ (assign (.Name y py) X.env (.ref D')) _ _ _
 refine wpAny_assign_Name (vg (v := .ref D') I' hN hj hy rfl (fun s2 I2 ⟨a, hsb, ha⟩ => ?_) hf)
 have hCa : C ≠ a := by
  rcases ha with rfl | ha
  ·exact hL
  ·exact Ne.symm (hce y a ha)
 refine ⟨m, hn.sameBut hsb hCa, fun h' hs' => ?_⟩
 exact ⟨_, H', I2.turned (t' := s2.toks) (it := C) (fun b o hb e => (hs'.2 b hb).trans e) hC hL (.inr hsz) hce hp, q⟩
end
def Ite (K : PySem.W.Frag) (a : Addr) : It :=
 ⟨fun i H => ∃ xs x, SqL K H a xs /\ xs[i]? = some x, fun i H y H' => ∃ p x, H p = none /\ y = .ref p /\ (∀ xs, SqL K H a xs -> xs[i]? = some x) /\ H' = upd H p (.tup [.int i, x]), fun i H => ∃ xs, SqL K H a xs /\ xs.length <= i⟩
theorem vj {P : Program} {w : World} {K : PySem.W.Frag} {es : List Expr} {kt : Nat} {tp : Pos} (a e it : Addr) (hei : e ≠ it) : QL P w K (.Tuple es kt tp) (Ite K a) [e, it] e (fun i h => (∃ old, IsEnum h e it (i : Nat) old) /\ h.IsListIter it a i) where
 mem := by simp
 obj := fun i h st b hb => by
  obtain ⟨⟨old, he⟩, ⟨o, e1, c, d⟩⟩ := st
  rcases List.mem_cons.mp hb with rfl | hb
  ·exact ⟨_, he, fun v z => by have z' : Data.fields _ = Data.cell v := z; cases z'⟩
  ·have e2 : b = it := by simpa using hb
   subst e2
   exact ⟨o, e1, fun v z => by rw [d] at z; cases z⟩
 keep := fun i h h' st k => by
  obtain ⟨⟨old, he⟩, st⟩ := st
  exact ⟨⟨old, k e (by simp) _ he⟩, st.at fun o e => k it (by simp) o e⟩
 item := by
  intro X hP hw hK hc i pins s σ H E I hf st hg
  subst hP hw hK
  obtain ⟨⟨old, he⟩, st⟩ := st
  obtain ⟨xs, x, hq, hx⟩ := hg
  obtain ⟨its, rv, p, hz⟩ := I.list hq
  obtain ⟨u, hu, ru⟩ := rv.get hx
  have fe := hf e (by simp)
  have fi := hf it (by simp)
  refine wpAny_pyNext_enum_item he st p.isList (x := u) (by simpa using hu) hei fun h1 heo hit1 ht1 hz1 hk1 => ?_
  refine ⟨.ref s.heap.objs.size, rfl, wpAny_letOwnedTupleGo_enum heo fun h2 he2 hs2 => ?_⟩
  replace hs2 : Heap.SameBut e h1 h2 := hs2
  have elt : e < s.heap.objs.size := Heap.lt_size he
  have hfr : H s.heap.objs.size = none := I.hok.fresh (Nat.le_refl _)
  have ht2 : h2.get? s.heap.objs.size = some { cls := .type "tuple", data := .seq #[.int i s.toks, u] } := (hs2.2 _ (Nat.ne_of_gt elt)).trans ht1
  have kk : ∀ b o, b ∉ [e, it] -> s.heap.get? b = some o -> h2.get? b = some o := fun b o hc q => by
   have n1 : b ≠ e := fun z => hc (by simp [z])
   have n2 : b ≠ it := fun z => hc (by simp [z])
   exact (hs2.2 b n1).trans (hk1 b o n1 n2 q)
  have nb : ∀ c v, H c = some v -> c ∉ [e, it] := fun c v z hm => by
   rcases List.mem_cons.mp hm with z' | z'
   ·rw [z', fe.1] at z; cases z
   ·have e2 : c = it := by simpa using z'
    rw [e2, fi.1] at z; cases z
  have I2 : Inv X pins σ (upd H s.heap.objs.size (.tup [.int i, x])) { s with heap := h2, toks := s.toks + 1 } := by
   refine I.step (g' := s.gens) (d' := s.drawn) (ch := [e, it]) (fun b hb => ?_) (fun b o _ _ hc q _ => kk b o hc q) (fun b o _ _ hc q _ => ⟨o.slots, kk b o hc q⟩) (fun b o _ q n => by rw [zk (Nat.ne_of_lt (Heap.lt_size q))]; exact n) (fun b o hc q => ⟨o, kk b o hc q⟩)
    (fun b xs q => by rw [zk (zh q hfr)]; exact q) (fun b o u q => by rw [zk (zh q hfr)]; exact q) (fun b ps q => ⟨#[], by rw [zk (zh q hfr), q]; simp⟩) (fun m hm => ?_) (fun b v q => ?_) I.bare
   ·rcases List.mem_cons.mp hb with z | hb
    ·rw [z]; exact ⟨fe.2.2.2.1, fe.2.1, fe.2.2.2.2.1, fe.2.2.2.2.2⟩
    ·have e2 : b = it := by simpa using hb
     rw [e2]; exact ⟨fi.2.2.2.1, fi.2.1, fi.2.2.2.2.1, fi.2.2.2.2.2⟩
   ·obtain ⟨o, es, ep, ho, r⟩ := hm
    exact ⟨o, es, ep, kk _ o (by simp [Ne.symm fe.2.1, Ne.symm fi.2.1]) ho, r⟩
   ·by_cases hb : b = s.heap.objs.size
    ·subst hb
     rw [zd] at q
     cases q
     exact ⟨by show 2 <= sizeLine; decide, [.int i s.toks, u], .cons ⟨_, rfl⟩ (.cons ru .nil), _, ht2, rfl, ⟨_, rfl⟩, rfl⟩
    ·rw [zk hb] at q
     refine (I.hok b v q).stay (fun c o hc q' => kk c o ?_ q') (fun c z => by rw [zk (zh z hfr)]; exact z) fun c xs z => by rw [zk (zh z hfr)]; exact z
     rcases hc with z | z
     ·rw [z]; exact nb b v q
     ·exact nb c _ z
  refine ⟨.ref s.heap.objs.size, _, I2, rfl, ⟨s.heap.objs.size, x, hfr, rfl, fun ys hy => by rw [I.list_inj hy hq]; exact hx, rfl⟩, ⟨⟨_, by simpa using he2⟩, hit1.extBut hs2.extBut (Ne.symm hei)⟩, fun b hb => ?_⟩
  have hlt : b < s.heap.objs.size := by
   rcases List.mem_cons.mp hb with rfl | hb
   ·exact elt
   ·have e2 : b = it := by simpa using hb
    subst e2
    obtain ⟨o, e1, _⟩ := st
    exact Heap.lt_size e1
  rw [zk (Nat.ne_of_lt hlt)]
  exact (hf b hb).1
 done := by
  intro X hP hw hK hc i pins s σ H E I hf st hg
  subst hP hw hK
  obtain ⟨⟨old, he⟩, st⟩ := st
  obtain ⟨xs, hq, hx⟩ := hg
  obtain ⟨its, rv, p, hz⟩ := I.list hq
  obtain ⟨f0, f1, f2, f3, f4, f5⟩ := hf it (by simp)
  have hl := rv.length
  exact wpAny_pyNext_enum_end (I.ok.hd hc) he st p.isList (by simp; omega) fun h' eb => ⟨rfl, I.turned (t' := s.toks) (fun b o hb e => eb b o hb e) f0 f1 f3 f4 f5⟩
 self := fun _ _ _ _ _ st h => by
  obtain ⟨⟨old, he⟩, _⟩ := st
  exact wpAny_pyIter_enum he h
end L2
set_option Elab.async false
set_option linter.all false
set_option maxRecDepth 100000
set_option maxHeartbeats 4000000
namespace L2
open PySem PySem.Spec PyProof.Rows
section
variable {X : Cx} {pins : List (Addr × Obj)} {σ : St} {H : Hp} {s : Shared}
theorem Inv.yieldTup {ch : List Addr} {h2 : Heap} {tk : Nat} {T : Addr} {xs : List V} {us : List Value} (I : Inv X pins σ H s) (hf : ∀ b ∈ ch, xK X pins H b) (kk : ∀ b o, b ∉ ch -> s.heap.get? b = some o -> h2.get? b = some o) (hT : s.heap.objs.size <= T)
  (ht2 : h2.get? T = some { cls := .type "tuple", data := .seq us.toArray }) (rv : zC xs us) (hz : xs.length <= sizeLine) : Inv X pins σ (upd H T (.tup xs)) { s with heap := h2, toks := tk } := by
 have hfr : H T = none := I.hok.fresh hT
 have nb : ∀ c v, H c = some v -> c ∉ ch := fun c v z hm => by rw [(hf c hm).1] at z; cases z
 refine I.step (g' := s.gens) (d' := s.drawn) (ch := ch) (fun b hb => ⟨(hf b hb).2.2.2.1, (hf b hb).2.1, (hf b hb).2.2.2.2.1, (hf b hb).2.2.2.2.2⟩) (fun b o _ _ hc q _ => kk b o hc q) (fun b o _ _ hc q _ => ⟨o.slots, kk b o hc q⟩)
  (fun b o _ q n => by rw [zk (Nat.ne_of_lt (Nat.lt_of_lt_of_le (Heap.lt_size q) hT))]; exact n) (fun b o hc q => ⟨o, kk b o hc q⟩)
  (fun b xs q => by rw [zk (zh q hfr)]; exact q) (fun b o u q => by rw [zk (zh q hfr)]; exact q) (fun b ps q => ⟨#[], by rw [zk (zh q hfr), q]; simp⟩) (fun m hm => ?_) (fun b v q => ?_) I.bare
 ·obtain ⟨o, es, ep, ho, r⟩ := hm
  exact ⟨o, es, ep, kk _ o (fun z => (hf _ z).2.1 rfl) ho, r⟩
 ·by_cases hb : b = T
  ·subst hb
   rw [zd] at q
   cases q
   exact ⟨hz, us, rv, _, ht2, rfl, ⟨_, rfl⟩, rfl⟩
  ·rw [zk hb] at q
   refine (I.hok b v q).stay (fun c o hc q' => kk c o ?_ q') (fun c z => by rw [zk (zh z hfr)]; exact z) fun c xs z => by rw [zk (zh z hfr)]; exact z
   rcases hc with z | z
   ·rw [z]; exact nb b v q
   ·exact nb c _ z
theorem Inv.turnedL {ch : List Addr} {h2 : Heap} {tk : Nat} (I : Inv X pins σ H s) (hf : ∀ b ∈ ch, xK X pins H b) (kk : ∀ b o, b ∉ ch -> s.heap.get? b = some o -> h2.get? b = some o) : Inv X pins σ H { s with heap := h2, toks := tk } := by
 have nb : ∀ c v, H c = some v -> c ∉ ch := fun c v z hm => by rw [(hf c hm).1] at z; cases z
 refine I.step (g' := s.gens) (d' := s.drawn) (ch := ch) (fun b hb => ⟨(hf b hb).2.2.2.1, (hf b hb).2.1, (hf b hb).2.2.2.2.1, (hf b hb).2.2.2.2.2⟩) (fun b o _ _ hc q _ => kk b o hc q) (fun b o _ _ hc q _ => ⟨o.slots, kk b o hc q⟩)
  (fun b o _ q n => n) (fun b o hc q => ⟨o, kk b o hc q⟩) (fun b xs q => q) (fun b o u q => q) (fun b ps q => ⟨#[], by rw [q]; simp⟩) (fun m hm => ?_) (fun b v q => ?_) I.bare
 ·obtain ⟨o, es, ep, ho, r⟩ := hm
  exact ⟨o, es, ep, kk _ o (fun z => (hf _ z).2.1 rfl) ho, r⟩
 ·refine (I.hok b v q).stay (fun c o hc q' => kk c o ?_ q') (fun c z => z) fun c xs z => z
  rcases hc with z | z
  ·rw [z]; exact nb b v q
  ·exact nb c _ z
end
def Itz (K : PySem.W.Frag) (a b : Addr) : It :=
 ⟨fun i H => ∃ xs ys x y, SqL K H a xs /\ SqL K H b ys /\ xs[i]? = some x /\ ys[i]? = some y, fun i H z H' => ∃ p x y, H p = none /\ z = .ref p /\ (∀ xs, SqL K H a xs -> xs[i]? = some x) /\ (∀ ys, SqL K H b ys -> ys[i]? = some y) /\ H' = upd H p (.tup [x, y]),
  fun i H => ∃ xs ys, SqL K H a xs /\ SqL K H b ys /\ (xs.length <= i \/ ys.length <= i)⟩
theorem Yw {P : Program} {w : World} {K : PySem.W.Frag} {es : List Expr} {kt : Nat} {tp : Pos} (l1 l2 z TI TO i1 i2 : Addr) (D : ZipApart z TI TO i1 i2 l1 l2) :
  QL P w K (.Tuple es kt tp) (Itz K l1 l2) [z, TI, TO, i1, i2] z (fun i h => IsZip h z TI TO .none /\ IsPair h TI (.ref i1) (.ref i2) /\ (∃ a b, IsPair h TO a b) /\ h.IsListIter i1 l1 i /\ h.IsListIter i2 l2 i) where
 mem := by simp
 obj := fun i h st b hb => by
  obtain ⟨hz, hTI, ⟨a, c, hTO⟩, ⟨o1, e1, c1, d1⟩, ⟨o2, e2, c2, d2⟩⟩ := st
  simp only [List.mem_cons, List.not_mem_nil, or_false] at hb
  rcases hb with rfl | rfl | rfl | rfl | rfl
  ·exact ⟨_, hz, fun v q => by have q' : Data.fields _ = Data.cell v := q; cases q'⟩
  ·exact ⟨_, hTI, fun v q => by have q' : Data.seq _ _ = Data.cell v := q; cases q'⟩
  ·exact ⟨_, hTO, fun v q => by have q' : Data.seq _ _ = Data.cell v := q; cases q'⟩
  ·exact ⟨o1, e1, fun v q => by rw [d1] at q; cases q⟩
  ·exact ⟨o2, e2, fun v q => by rw [d2] at q; cases q⟩
 keep := fun i h h' st k => by
  obtain ⟨hz, hTI, ⟨a, c, hTO⟩, h1, h2⟩ := st
  exact ⟨k _ (by simp) _ hz, k _ (by simp) _ hTI, ⟨a, c, k _ (by simp) _ hTO⟩, h1.at fun o e => k _ (by simp) o e, h2.at fun o e => k _ (by simp) o e⟩
 item := by
  intro X hP hw hK hc i pins s σ H E I hf st hg
  subst hP hw hK
  obtain ⟨hz, hTI, ⟨a, c, hTO⟩, h1, h2⟩ := st
  obtain ⟨xs, ys, x, y, hq1, hq2, hx, hy⟩ := hg
  obtain ⟨its1, rv1, p1, hz1⟩ := I.list hq1
  obtain ⟨its2, rv2, p2, hz2⟩ := I.list hq2
  obtain ⟨u, hu, ru⟩ := rv1.get hx
  obtain ⟨v, hv, rvv⟩ := rv2.get hy
  refine wpAny_pyNext_zip_item D hz hTI hTO h1 h2 p1.isList p2.isList (x := u) (y := v) (by simpa using hu) (by simpa using hv) fun g1 b1 b2 b3 b4 b5 b6 hk => ?_
  refine ⟨.ref s.heap.objs.size, rfl, wpAny_letOwnedTupleGo_zip b1 fun g2 hz2' hs2 => ?_⟩
  replace hs2 : Heap.SameBut z g1 g2 := hs2
  have zlt : z < s.heap.objs.size := Heap.lt_size hz
  have I2 : Inv X pins σ (upd H s.heap.objs.size (.tup [x, y])) { s with heap := g2, toks := s.toks } := by
   refine I.yieldTup (us := [u, v]) hf (fun b o hb e => ?_) (Nat.le_refl _) ((hs2.2 _ (Nat.ne_of_gt zlt)).trans b5) (.cons ru (.cons rvv .nil)) (by show 2 <= sizeLine; decide)
   simp only [List.mem_cons, List.not_mem_nil, or_false, not_or] at hb
   exact (hs2.2 b hb.1).trans (hk b o hb.1 hb.2.2.1 hb.2.2.2.1 hb.2.2.2.2 e)
  refine ⟨.ref s.heap.objs.size, _, I2, rfl, ⟨s.heap.objs.size, x, y, I.hok.fresh (Nat.le_refl _), rfl, fun xs' h' => by rw [I.list_inj h' hq1]; exact hx, fun ys' h' => by rw [I.list_inj h' hq2]; exact hy, rfl⟩,
   ⟨hz2', (hs2.2 _ D.TIz).trans (hk _ _ D.TIz D.TITO D.TIi1 D.TIi2 hTI), ⟨_, _, (hs2.2 _ D.TOz).trans b2⟩, b3.extBut hs2.extBut D.i1z, b4.extBut hs2.extBut D.i2z⟩, fun b hb => ?_⟩
  have hlt : b < s.heap.objs.size := by
   simp only [List.mem_cons, List.not_mem_nil, or_false] at hb
   rcases hb with rfl | rfl | rfl | rfl | rfl
   ·exact zlt
   ·exact Heap.lt_size hTI
   ·exact Heap.lt_size hTO
   ·obtain ⟨o, e, _⟩ := h1; exact Heap.lt_size e
   ·obtain ⟨o, e, _⟩ := h2; exact Heap.lt_size e
  rw [zk (Nat.ne_of_lt hlt)]
  exact (hf b hb).1
 done := by
  intro X hP hw hK hc i pins s σ H E I hf st hg
  subst hP hw hK
  obtain ⟨hz, hTI, ⟨a, c, hTO⟩, h1, h2⟩ := st
  obtain ⟨xs, ys, hq1, hq2, hend⟩ := hg
  obtain ⟨its1, rv1, p1, hz1⟩ := I.list hq1
  obtain ⟨its2, rv2, p2, hz2⟩ := I.list hq2
  have l1 := rv1.length
  have l2 := rv2.length
  refine wpAny_pyNext_zip_end (I.ok.hd hc) D hz hTI hTO h1 h2 p1.isList p2.isList (by simp; omega) fun h' hk => ⟨rfl, I.turnedL (tk := s.toks) hf fun b o hb e => ?_⟩
  simp only [List.mem_cons, List.not_mem_nil, or_false, not_or] at hb
  exact hk b o hb.1 hb.2.2.1 hb.2.2.2.1 hb.2.2.2.2 e
 self := fun _ _ _ _ _ st h => wpAny_pyIter_zip st.1 h
theorem yc : bootBuiltins "enumerate" = some (.type "enumerate") := by decide +kernel
theorem JW : bootBuiltins "zip" = some (.type "zip") := by decide +kernel
section
variable {X : Cx} {es : List Expr} {kt : Nat} {tp : Pos}
def WK (K : PySem.W.Frag) (ta : TA) : TI := fun σ H R => ta σ H fun vs H1 => ∃ a, vs = [.ref a] /\ (∃ xs, SqL K H1 a xs) /\ R (Ite K a) H1
theorem Wk {e : Expr} {ta : TA} {p pos : Pos} (hg : Gl X "enumerate") (hm : X.mg "enumerate" = none) (ha : PA X [e] ta) (hs : starEach [e] X.env = [(false, eval e X.env)] := by rfl) :
  PI X (.Tuple es kt tp) (.Call (.Name "enumerate" p) [e] [] pos) (WK X.K ta) := by
 intro pins s σ H R I h
 refine Call_ (j0 I hg hm (yc) (PyProof.Rows.callWith_type1 (thn (ha pos pins s σ H _ I h) fun us s1 ⟨vs, H1, I1, r1, q1⟩ => ?_) hs rfl))
 obtain ⟨a, e, ⟨xs, hq⟩, q⟩ := q1
 subst e
 obtain ⟨u, rfl, ru⟩ := jS r1
 cases ru
 obtain ⟨its, rv, pl, hz⟩ := I1.list hq
 refine call_enumerate_list pl.isList fun h' he hit hsz hk => wpAny_pyIter_enum he ?_
 have I2 : Inv X pins σ H1 { s1 with heap := h' } := I1.kept (t' := s1.toks) hk
 refine ⟨s1.heap.objs.size + 1, [s1.heap.objs.size + 1, s1.heap.objs.size], _, _, H1, rfl, I2, vj a _ _ (Nat.succ_ne_self _), ⟨⟨_, he⟩, hit⟩, fun b hb => ?_, q⟩
 have hb' : s1.heap.objs.size <= b := by
  simp only [List.mem_cons, List.not_mem_nil, or_false] at hb
  rcases hb with rfl | rfl
  ·exact Nat.le_succ _
  ·exact Nat.le_refl _
 exact I1.fpOk hb' (I1.hok.fresh hb')
def Ds (K : PySem.W.Frag) (ta : TA) : TI := fun σ H R => ta σ H fun vs H1 => ∃ a b, vs = [.ref a, .ref b] /\ (∃ xs, SqL K H1 a xs) /\ (∃ ys, SqL K H1 b ys) /\ R (Itz K a b) H1
theorem BN {e1 e2 : Expr} {ta : TA} {p pos : Pos} (hg : Gl X "zip") (hm : X.mg "zip" = none) (ha : PA X [e1, e2] ta) (hs : starEach [e1, e2] X.env = [(false, eval e1 X.env), (false, eval e2 X.env)] := by rfl) (hs2 : starEach [e2] X.env = [(false, eval e2 X.env)] := by rfl) :
  PI X (.Tuple es kt tp) (.Call (.Name "zip" p) [e1, e2] [] pos) (Ds X.K ta) := by
 intro pins s σ H R I h
 refine Call_ (j0 I hg hm JW (PyProof.Rows.callWith_type1 (thn (ha pos pins s σ H _ I h) fun us s1 ⟨vs, H1, I1, r1, q1⟩ => ?_) (by rw [hs, hs2]) (by rw [hs2]; rfl)))
 obtain ⟨a, b, e, ⟨xs, hq1⟩, ⟨ys, hq2⟩, q⟩ := q1
 subst e
 obtain ⟨u, v, rfl, ru, rv⟩ := Zq r1
 cases ru
 cases rv
 obtain ⟨its1, rv1, p1, hz1⟩ := I1.list hq1
 obtain ⟨its2, rv2, p2, hz2⟩ := I1.list hq2
 have la : a < s1.heap.objs.size := by obtain ⟨o, e, _⟩ := p1.isList; exact Heap.lt_size e
 have lb : b < s1.heap.objs.size := by obtain ⟨o, e, _⟩ := p2.isList; exact Heap.lt_size e
 refine call_zip_2 p1.isList p2.isList fun h' b1 b2 b3 b4 b5 hsz hk => wpAny_pyIter_zip b1 ?_
 have I2 : Inv X pins σ H1 { s1 with heap := h' } := I1.kept (t' := s1.toks) hk
 refine ⟨s1.heap.objs.size + 4, [s1.heap.objs.size + 4, s1.heap.objs.size + 2, s1.heap.objs.size + 3, s1.heap.objs.size, s1.heap.objs.size + 1], _, _, H1, rfl, I2, Yw a b _ _ _ _ _ (zipApart_new la lb), ⟨b1, b2, ⟨_, _, b3⟩, b4, b5⟩, fun c hb => ?_, q⟩
 have hb' : s1.heap.objs.size <= c := by
  simp only [List.mem_cons, List.not_mem_nil, or_false] at hb
  rcases hb with rfl | rfl | rfl | rfl | rfl <;> first | exact Nat.le_refl _ | exact Nat.le_add_right _ _
 exact I1.fpOk hb' (I1.hok.fresh hb')
end
theorem Yk {K : PySem.W.Frag} {a : Addr} {xs : List V} {g : TG} {tb : TS} {D : jP} {σ : St} {H : Hp} (Pv : Nat -> St -> Hp -> Prop) (h0 : Pv 0 σ H) (hl : ∀ i σ H, i <= xs.length -> Pv i σ H -> SqL K H a xs)
  (hs : ∀ i x p σ H, xs[i]? = some x -> H p = none -> Pv i σ H -> g (.ref p) σ (upd H p (.tup [.int i, x])) fun σ2 H2 => tb { D with nx := Pv (i + 1), ct := Pv (i + 1), bk := D.nx } σ2 H2) (hd : ∀ σ H, Pv xs.length σ H -> D.nx σ H) :
  ∃ W : Nat -> Nat -> St -> Hp -> Prop, (∃ m, W 0 m σ H) /\ ∀ i m σ H, W i m σ H ->
   ((Ite K a).stop i H /\ D.nx σ H) \/ ((Ite K a).go i H /\ ∃ N : St -> Hp -> Prop, (∀ σ' H', N σ' H' -> ∃ m', m' < m /\ W (i + 1) m' σ' H') /\ ∀ x H', (Ite K a).yld i H x H' -> g x σ H' fun σ2 H2 => tb { D with nx := N, ct := N, bk := D.nx } σ2 H2) := by
 refine ⟨fun i m σ H => m = xs.length - i /\ i <= xs.length /\ Pv i σ H, ⟨xs.length, by simp, Nat.zero_le _, h0⟩, ?_⟩
 rintro i m σ H ⟨rfl, hi, p⟩
 have q := hl i σ H hi p
 by_cases hlt : i < xs.length
 ·refine .inr ⟨⟨xs, xs[i], q, by simp [hlt]⟩, Pv (i + 1), fun σ' H' p' => ⟨xs.length - (i + 1), by omega, rfl, hlt, p'⟩, fun x H' y => ?_⟩
  obtain ⟨pp, x', hp, rfl, y, rfl⟩ := y
  exact hs i x' pp σ _ (y xs q) hp p
 ·have e : i = xs.length := by omega
  subst e
  exact .inl ⟨⟨xs, q, Nat.le_refl _⟩, hd σ H p⟩
end L2
set_option Elab.async false
set_option linter.all false
set_option maxRecDepth 100000
set_option maxHeartbeats 4000000
namespace L2
open PySem PySem.Spec PyProof.Rows
def jy (p : Addr) (a b c : Int) : HO := .ext fun h => ∃ t u v, h.get? p = some { cls := .type "range", data := .fields #[.int a t, .int b u, .int c v] }
theorem Xl {P : Program} {w : World} {H : Hp} {h : Heap} {p : Addr} {a b c : Int} {t u v : Tok} (e : h.get? p = some { cls := .type "range", data := .fields #[.int a t, .int b u, .int c v] }) : zT P w H h p (jy p a b c) :=
 ⟨⟨t, u, v, e⟩, ⟨_, e⟩, fun h1 h2 ⟨t, u, v, q⟩ k => ⟨t, u, v, k _ q⟩⟩
def zR (a c : Int) (n : Nat) : List Int := (List.range n).map fun (i : Nat) => a + (i : Int) * c
theorem zM (a c : Int) (n : Nat) : (zR a c n).length = n := by simp [zR]
theorem Qb {a c : Int} : ∀ {n : Nat} {acc : Array Value}, ItemsOf (fun (i : Nat) (v : Value) => ∃ t, v = Value.int (a + (i : Int) * c) t) acc n -> zC ((zR a c n).map V.int) acc.toList := by
 intro n acc ⟨hs, hi⟩
 have key : ∀ (k : Nat) (l : List Value), l.length = k -> (∀ (j : Nat) v, l[j]? = some v -> ∃ t, v = Value.int (a + (j : Int) * c) t) -> zC ((zR a c k).map V.int) l := by
  intro k
  induction k with
  | zero => intro l hl _; cases l with
   | nil => exact .nil
   | cons => simp at hl
  | succ k ih =>
   intro l hl hv
   obtain ⟨l', x, rfl⟩ : ∃ l' x, l = l' ++ [x] := ⟨l.dropLast, l.getLast (by intro e; rw [e] at hl; simp at hl), (List.dropLast_concat_getLast _).symm⟩
   have hl' : l'.length = k := by simpa using hl
   have e : (zR a c (k + 1)).map V.int = (zR a c k).map V.int ++ [.int (a + (k : Int) * c)] := by simp [zR, List.range_succ]
   rw [e]
   refine (ih l' hl' fun j v hj => hv j v ?_).append (.cons ?_ .nil)
   ·rw [List.getElem?_append_left (List.getElem?_eq_some_iff.mp hj).1]; exact hj
   ·obtain ⟨t, rfl⟩ := hv k x (by rw [List.getElem?_append_right (by omega), hl']; simp)
    exact ⟨t, rfl⟩
 exact key n acc.toList (by simpa using hs) fun j v hj => hi j v (by simpa using hj)
section
variable {X : Cx}
theorem qO : qD X (.type "range") (fun xs H Q => ∃ b : Int, xs = [.int b] /\ ∀ p, H p = none -> Q (.ref p) (upd H p (jy p 0 b 1))) := by
 intro pins s σ H xs us Q I r h
 obtain ⟨b, rfl, q⟩ := h
 obtain ⟨u, rfl, t, rfl⟩ := jS r
 refine call_range_1 ⟨.ref s.heap.objs.size, _, I.laid (fun b o e => Heap.get?_push_of_some _ e) (Nat.le_refl _) ?_, rfl, q _ (I.hok.fresh (Nat.le_refl _))⟩
 exact Xl (Heap.get?_push_size _ rfl)
theorem wU : qD X (.type "range") (fun xs H Q => ∃ a b c : Int, xs = [.int a, .int b, .int c] /\ c ≠ 0 /\ c.natAbs < 1073741824 /\ ∀ p, H p = none -> Q (.ref p) (upd H p (jy p a b c))) := by
 intro pins s σ H xs us Q I r h
 obtain ⟨a, b, c, rfl, hc, hb, q⟩ := h
 cases r with
 | cons r1 r => cases r with
  | cons r2 r => cases r with
   | cons r3 r =>
    cases r
    obtain ⟨t1, rfl⟩ := r1
    obtain ⟨t2, rfl⟩ := r2
    obtain ⟨t3, rfl⟩ := r3
    refine call_range_3 hc ⟨.ref s.heap.objs.size, _, I.laid (t' := s.toks) (fun b o e => Heap.get?_push_of_some _ e) (Nat.le_refl _) ?_, rfl, q _ (I.hok.fresh (Nat.le_refl _))⟩ (.inl (PyProof.noPylong_small (by omega)))
    exact Xl (Heap.get?_push_size _ rfl)
theorem qg (hc : X.calm = true) : qD X (.type "list") (fun xs H Q => ∃ p a b c n, xs = [.ref p] /\ H p = some (jy p a b c) /\ Builtin.Range.small a b c = true /\ Builtin.Range.rangeSize a b c = ((n : Nat) : Int) /\ n <= 100000 /\ ∀ l, H l = none -> Q (.ref l) (upd H l (.lst ((zR a c n).map V.int)))) := by
 intro pins s σ H xs us Q I r h
 obtain ⟨p, a, b, c, n, rfl, hp, hs, hn, hz, q⟩ := h
 obtain ⟨u, rfl, rx⟩ := jS r
 cases rx
 obtain ⟨⟨t, u, v, e⟩, _⟩ := (show zT X.prog X.w H s.heap p (jy p a b c) from I.hok _ _ hp)
 refine call_list_range (I.ok.hd hc) e hs hn (Nat.le_trans hz (by decide)) fun h' tk acc c' hk he hi => ?_
 refine ⟨.ref s.heap.objs.size, _, I.laid hk (Nat.le_refl _) (show zT X.prog X.w _ h' _ (.lst ((zR a c n).map V.int)) from ⟨?_, acc.toList, c', Qb hi, by simpa using he⟩), rfl, q _ (I.hok.fresh (Nat.le_refl _))⟩
 rw [List.length_map, zM]
 exact Nat.le_trans hz (by decide)
theorem V4 {i : Int} (h0 : 0 <= i) (h1 : i < 2 ^ 62) : ¬(!Builtin.List.listFitsIndex i) = true := by
 unfold Builtin.List.listFitsIndex
 simp
 omega
def vT : V -> List V -> Hp -> VK -> Prop := fun x vs H Q => ∃ l xs i y, x = .ref l /\ vs = [.int i, y] /\ H l = some (.lst xs) /\ 0 <= i /\ i <= xs.length /\ xs.length < sizeLine /\ Q .non (upd H l (.lst (xs.take i.toNat ++ y :: xs.drop i.toNat)))
theorem zC.insert {xs : List V} {us : List Value} {y : V} {u : Value} (r : zC xs us) (ry : zF y u) (k : Nat) : zC (xs.take k ++ y :: xs.drop k) (us.take k ++ u :: us.drop k) := (r.take k).append (.cons ry (r.drop k))
theorem Ky : MtM X "list.insert" vT := by
 intro pins s σ H x vs v us Q I rx rv h
 obtain ⟨l, xs, i, y, rfl, rfl, hH, h0, h1, hz, q⟩ := h
 cases rx
 obtain ⟨u, w, rfl, ⟨t, rfl⟩, rw'⟩ := rv.two
 obtain ⟨z, its, n, r, hl, e⟩ := I.lstM hH
 have l63 := yh
 have hb : i < 2 ^ 62 := by
  have : sizeLine < 2 ^ 62 := by rw [sizeLine_eq]; decide
  omega
 refine call_meets F.slot_list_insert ⟨_, e, rfl⟩ F.entry_list_insert (F.args_list_insert_3 _ _ _) (PySem.AutoSeq1.list_insert_list_int_val_1 l its.toArray n i t w (V4 h0 hb) (by rw [List.size_toArray]; omega)) ⟨e, ?_⟩
 refine ⟨.non, _, I.lset (its' := its.take i.toNat ++ w :: its.drop i.toNat) hH e ?_ (r.insert rw' i.toNat) ?_, rfl, q⟩
 ·dsimp only
  rw [if_neg (by omega)]
  have hm : min i.toNat its.toArray.size = i.toNat := by rw [List.size_toArray]; omega
  rw [hm]
  apply Array.ext'
  simp
  first | done | omega | (rw [List.take_of_length_le (by simp)])
 ·rw [List.length_append, List.length_cons, List.length_take, List.length_drop]; omega
theorem xb : qD X (.builtin "sorted") (fun xs H Q => ∃ p ns, xs = [.ref p] /\ SqL X.K H p (List.map V.int ns) /\ ns.length < 64 /\ ∀ l ns', H l = none -> ns'.Perm ns -> ns'.Pairwise (· <= ·) -> Q (.ref l) (upd H l (.lst (List.map V.int ns')))) := by
 intro pins s σ H xs us Q I r h
 obtain ⟨p, ns, rfl, hq, h64, q⟩ := h
 obtain ⟨u, rfl, rx⟩ := jS r
 cases rx
 obtain ⟨its, rv, pl, hz⟩ := I.list hq
 have hlen := rv.length
 rw [List.length_map] at hlen
 refine sorted_ints pl.isList (Qi rv) (by omega) fun out ns' a1 a2 a3 => ?_
 obtain ⟨k, he⟩ := sortedAll_at s.heap its out
 refine ⟨.ref (s.heap.objs.size + 1), _, I.laid (t' := s.toks) (fun _ _ => sortedAll_old) (Nat.le_succ _) (show zT X.prog X.w _ _ _ (.lst (List.map V.int ns')) from ⟨?_, out.toList, k, xj a1, by simpa [seqObj] using he⟩), rfl, q _ _ (I.hok.fresh (Nat.le_succ _)) a2 a3⟩
 rw [List.length_map, a2.length_eq]
 exact Nat.le_of_lt (JJ (by omega))
end
end L2
set_option Elab.async false
set_option linter.all false
set_option maxRecDepth 100000
set_option maxHeartbeats 4000000
namespace L2
open PySem PySem.Spec PyProof.Rows
section
variable {X : Cx}
def isT (t c : String) : Option Bool := if (Value.type t == Value.type c) = true then some true else if PySem.W.kitMeta c = true then (fastBuiltinMro t).map (·.contains (Value.type c)) else none
theorem QV (K : PySem.W.Frag) (t c : String) : PySem.W.kitOne K (.type t) (.type c) = isT t c := rfl
def xI (t : String) : List String -> Option Bool
 | [] => some false
 | c :: r => match isT t c with
  | some true => some true
  | some false => xI t r
  | none => none
theorem wF (K : PySem.W.Frag) (t : String) : ∀ cs : List String, PySem.W.kitAny K (.type t) (cs.map Value.type) = xI t cs
 | [] => rfl
 | c :: r => by
  show (match PySem.W.kitOne K (.type t) (.type c) with | some true => some true | some false => PySem.W.kitAny K (.type t) (r.map Value.type) | none => none) = _
  rw [QV, wF K t r]; rfl
theorem Za : qD X (.builtin "isinstance") (fun xs H Q => ∃ x t c b, xs = [x, .ty c] /\ j5 X.K H x (.type t) /\ isT t c = some b /\ Q (.bl b) H) := by
 intro pins s σ H xs us Q I r h
 obtain ⟨x, t, c, b, rfl, ty, e, q⟩ := h
 obtain ⟨u, v, rfl, ru, rv⟩ := Zq r
 cases rv
 exact JY I ru ty (by rw [QV]; exact e) fun tk => ⟨.bl b, H, I.tok _, rfl, q⟩
theorem w6 : ∀ {cs : List String} {us : List Value}, zC (cs.map V.ty) us -> us = cs.map Value.type
 | [], _, .nil => rfl
 | c :: cs, _, .cons r t => by rw [w6 t]; cases r; rfl
theorem vk : qD X (.builtin "isinstance") (fun xs H Q => ∃ x t p cs b, xs = [x, .ref p] /\ H p = some (.tup (List.map V.ty cs)) /\ j5 X.K H x (.type t) /\ xI t cs = some b /\ Q (.bl b) H) := by
 intro pins s σ H xs us Q I r h
 obtain ⟨x, t, p, cs, b, rfl, hp, ty, e, q⟩ := h
 obtain ⟨u, v, rfl, rx, rv⟩ := Zq r
 cases rv
 obtain ⟨_, its, rt, o, ho, hc, ⟨n, hd⟩, _⟩ := (show zT X.prog X.w H s.heap p (.tup (List.map V.ty cs)) from I.hok _ _ hp)
 obtain ⟨oc, od, odt, osl⟩ := o
 simp only at hc hd
 subst hc hd
 have e' : PySem.W.kitAny X.K (.type t) its = some b := by rw [w6 rt, wF]; exact e
 have fin : ∀ tk, EP X pins σ Q (.bool b) { s with toks := tk } := fun tk => ⟨.bl b, H, I.tok _, rfl, q⟩
 cases ty with
 | non => cases (show u = Value.none from rx); exact PySem.W.kia_tup PySem.W.kitx_none I.kIn True.intro ho e' (fun z => nomatch z) fin
 | bl y => cases (show u = Value.bool y from rx); exact PySem.W.kia_tup PySem.W.kitx_bool I.kIn True.intro ho e' (fun z => nomatch z) fin
 | int i => obtain ⟨t, q⟩ := (show ∃ t, u = Value.int i t from rx); cases q; exact PySem.W.kia_tup PySem.W.kitx_int I.kIn True.intro ho e' (fun z => nomatch z) fin
 | str y => obtain ⟨t, q⟩ := (show ∃ t, u = Value.str y t from rx); cases q; exact PySem.W.kia_tup PySem.W.kitx_str I.kIn True.intro ho e' (fun z => nomatch z) fin
 | flt y => obtain ⟨t, q⟩ := (show ∃ t, u = Value.float y t from rx); cases q; exact PySem.W.kia_tup PySem.W.kitx_float I.kIn True.intro ho e' (fun z => nomatch z) fin
 | @lst a xs ea =>
  cases (show u = Value.ref a from rx)
  obtain ⟨_, _, n, _, h1⟩ := (show zT X.prog X.w H s.heap a (.lst xs) from I.hok a _ ea)
  exact PySem.W.kia_tup PySem.W.kitx_list I.kIn ⟨_, h1, rfl⟩ ho e' (fun z => nomatch z) fin
 | @frz a ob xs ea =>
  cases (show u = Value.ref a from rx)
  obtain ⟨_, _, _, n, _, h1⟩ := (show zT X.prog X.w H s.heap a (.frz ob (.lst xs)) from I.hok a _ ea)
  exact PySem.W.kia_tup PySem.W.kitx_list I.kIn ⟨_, h1, rfl⟩ ho e' (fun z => nomatch z) fin
 | @tup a xs ea =>
  cases (show u = Value.ref a from rx)
  obtain ⟨_, _, _, p⟩ := (show zT X.prog X.w H s.heap a (.tup xs) from I.hok a _ ea)
  obtain ⟨o, h1, h2, _⟩ := p
  exact PySem.W.kia_tup PySem.W.kitx_tuple I.kIn ⟨o, h1, h2⟩ ho e' (fun z => nomatch z) fin
 | @dK a kvs ea =>
  cases (show u = Value.ref a from rx)
  obtain ⟨_, _, vs, _, p⟩ := (show zT X.prog X.w H s.heap a (.dK kvs) from I.hok a _ ea)
  obtain ⟨o, es, ep, h1, h2, _⟩ := p
  exact PySem.W.kia_tup PySem.W.kitx_dict I.kIn ⟨o, h1, h2.1⟩ ho e' (fun z => nomatch z) fin
 | @dT a kvs ea =>
  cases (show u = Value.ref a from rx)
  obtain ⟨_, _, xs, _, o, es, ep, h1, h2, _⟩ := (show zT X.prog X.w H s.heap a (.dT kvs) from I.hok a _ ea)
  exact PySem.W.kia_tup PySem.W.kitx_dict I.kIn ⟨o, h1, h2.1⟩ ho e' (fun z => nomatch z) fin
theorem Qc {lo : Int} {n : Nat} {g : TG} {tt : TT} {te : TE} {Q : VK} {τ : St} {H1 : Hp} {D : Addr} (Pv : Nat -> St -> Hp -> Prop) (h0 : Pv 0 τ (upd H1 D (.lst [])))
  (hs : ∀ i τ H, i < n -> Pv i τ H -> g (.int (lo + i)) τ H fun τ2 H3 => tt τ2 H3 fun b H4 => if b = true then te τ2 H4 fun v H5 => ∃ ys, H5 D = some (.lst ys) /\ ys.length < sizeLine /\ Pv (i + 1) τ2 (upd H5 D (.lst (ys ++ [v]))) else Pv (i + 1) τ2 H4)
  (hd : ∀ τ H, Pv n τ H -> Q (.ref D) H) :
  ∃ W : Nat -> Nat -> St -> Hp -> Prop, (∃ m, W 0 m τ (upd H1 D (.lst []))) /\ ∀ i m τ H2, W i m τ H2 ->
   ((Itr lo n).stop i H2 /\ Q (.ref D) H2) \/ ((Itr lo n).go i H2 /\ ∃ N : St -> Hp -> Prop, (∀ τ' H', N τ' H' -> ∃ m', m' < m /\ W (i + 1) m' τ' H') /\ ∀ x H', (Itr lo n).yld i H2 x H' -> g x τ H' fun τ2 H3 => tt τ2 H3 fun b H4 =>
    if b = true then te τ2 H4 fun v H5 => ∃ ys, H5 D = some (.lst ys) /\ ys.length < sizeLine /\ N τ2 (upd H5 D (.lst (ys ++ [v]))) else N τ2 H4) := by
 refine ⟨fun i m τ H => m = n - i /\ i <= n /\ Pv i τ H, ⟨n, by simp, Nat.zero_le _, h0⟩, ?_⟩
 rintro i m τ H ⟨rfl, hi, p⟩
 by_cases hlt : i < n
 ·refine .inr ⟨hlt, Pv (i + 1), fun σ' H' p' => ⟨n - (i + 1), by omega, rfl, hlt, p'⟩, fun x H' y => ?_⟩
  obtain ⟨e, y⟩ := y
  subst e y
  exact hs i τ _ hlt p
 ·have e : i = n := by omega
  subst e
  exact .inl ⟨Nat.le_refl _, hd τ H p⟩
theorem B4 {K : PySem.W.Frag} {a : Addr} {xs : List V} {g : TG} {tt : TT} {te : TE} {Q : VK} {τ : St} {H1 : Hp} {D : Addr} (Pv : Nat -> St -> Hp -> Prop) (h0 : Pv 0 τ (upd H1 D (.lst []))) (hl : ∀ i τ H, i <= xs.length -> Pv i τ H -> SqL K H a xs)
  (hs : ∀ i x τ H, xs[i]? = some x -> Pv i τ H -> g x τ H fun τ2 H3 => tt τ2 H3 fun b H4 => if b = true then te τ2 H4 fun v H5 => ∃ ys, H5 D = some (.lst ys) /\ ys.length < sizeLine /\ Pv (i + 1) τ2 (upd H5 D (.lst (ys ++ [v]))) else Pv (i + 1) τ2 H4)
  (hd : ∀ τ H, Pv xs.length τ H -> Q (.ref D) H) :
  ∃ W : Nat -> Nat -> St -> Hp -> Prop, (∃ m, W 0 m τ (upd H1 D (.lst []))) /\ ∀ i m τ H2, W i m τ H2 ->
   ((Itl K a).stop i H2 /\ Q (.ref D) H2) \/ ((Itl K a).go i H2 /\ ∃ N : St -> Hp -> Prop, (∀ τ' H', N τ' H' -> ∃ m', m' < m /\ W (i + 1) m' τ' H') /\ ∀ x H', (Itl K a).yld i H2 x H' -> g x τ H' fun τ2 H3 => tt τ2 H3 fun b H4 =>
    if b = true then te τ2 H4 fun v H5 => ∃ ys, H5 D = some (.lst ys) /\ ys.length < sizeLine /\ N τ2 (upd H5 D (.lst (ys ++ [v]))) else N τ2 H4) := by
 refine ⟨fun i m τ H => m = xs.length - i /\ i <= xs.length /\ Pv i τ H, ⟨xs.length, by simp, Nat.zero_le _, h0⟩, ?_⟩
 rintro i m τ H ⟨rfl, hi, p⟩
 have q := hl i τ H hi p
 by_cases hlt : i < xs.length
 ·refine .inr ⟨⟨xs, xs[i], q, by simp [hlt]⟩, Pv (i + 1), fun σ' H' p' => ⟨xs.length - (i + 1), by omega, rfl, hlt, p'⟩, fun x H' y => ?_⟩
  obtain ⟨e, y⟩ := y
  subst e
  exact hs i x τ _ (y xs q) p
 ·have e : i = xs.length := by omega
  subst e
  exact .inl ⟨⟨xs, q, Nat.le_refl _⟩, hd τ H p⟩
theorem J3 {K : PySem.W.Frag} {a : Addr} {xs : List V} {g : TG} {tt : TT} {te : TE} {Q : VK} {τ : St} {H1 : Hp} {D : Addr} (Pv : Nat -> St -> Hp -> Prop) (h0 : Pv 0 τ (upd H1 D (.lst []))) (hl : ∀ i τ H, i <= xs.length -> Pv i τ H -> SqL K H a xs)
  (hs : ∀ i x p τ H, xs[i]? = some x -> H p = none -> Pv i τ H -> g (.ref p) τ (upd H p (.tup [.int i, x])) fun τ2 H3 => tt τ2 H3 fun b H4 => if b = true then te τ2 H4 fun v H5 => ∃ ys, H5 D = some (.lst ys) /\ ys.length < sizeLine /\ Pv (i + 1) τ2 (upd H5 D (.lst (ys ++ [v]))) else Pv (i + 1) τ2 H4)
  (hd : ∀ τ H, Pv xs.length τ H -> Q (.ref D) H) :
  ∃ W : Nat -> Nat -> St -> Hp -> Prop, (∃ m, W 0 m τ (upd H1 D (.lst []))) /\ ∀ i m τ H2, W i m τ H2 ->
   ((Ite K a).stop i H2 /\ Q (.ref D) H2) \/ ((Ite K a).go i H2 /\ ∃ N : St -> Hp -> Prop, (∀ τ' H', N τ' H' -> ∃ m', m' < m /\ W (i + 1) m' τ' H') /\ ∀ x H', (Ite K a).yld i H2 x H' -> g x τ H' fun τ2 H3 => tt τ2 H3 fun b H4 =>
    if b = true then te τ2 H4 fun v H5 => ∃ ys, H5 D = some (.lst ys) /\ ys.length < sizeLine /\ N τ2 (upd H5 D (.lst (ys ++ [v]))) else N τ2 H4) := by
 refine ⟨fun i m τ H => m = xs.length - i /\ i <= xs.length /\ Pv i τ H, ⟨xs.length, by simp, Nat.zero_le _, h0⟩, ?_⟩
 rintro i m τ H ⟨rfl, hi, p⟩
 have q := hl i τ H hi p
 by_cases hlt : i < xs.length
 ·refine .inr ⟨⟨xs, xs[i], q, by simp [hlt]⟩, Pv (i + 1), fun σ' H' p' => ⟨xs.length - (i + 1), by omega, rfl, hlt, p'⟩, fun x H' y => ?_⟩
  obtain ⟨pp, x', hp, rfl, y, rfl⟩ := y
  exact hs i x' pp τ _ (y xs q) hp p
 ·have e : i = xs.length := by omega
  subst e
  exact .inl ⟨⟨xs, q, Nat.le_refl _⟩, hd τ H p⟩
end
end L2
set_option Elab.async false
set_option linter.all false
set_option maxRecDepth 100000
set_option maxHeartbeats 4000000
namespace L2
open PySem PySem.Spec PyProof.Rows
def At (K : PySem.W.Frag) (mg : Str -> Option Value) (x : Str) (st : Stmt) : Prop := ∃ f fd, Fun K x x st f fd /\ mg x = some (.ref f)
def Df (P : Program) (w : World) (K : PySem.W.Frag) (mg : Str -> Option Value) (base : Heap) (x : Str) (ps : List Str) (k : Nat) (sp : Sp) : Prop :=
 ∃ f fd, kj P w K mg base CX0 k f fd ps sp /\ yS K fd ps [] /\ PySem.W.keepIn K (.ref f) = true /\ mg x = some (.ref f) /\ ∃ oc od osl, K.lookup f = some ⟨oc, od, .func fd, osl⟩
theorem Df.mono {P : Program} {w : World} {K : PySem.W.Frag} {mg : Str -> Option Value} {base : Heap} {x : Str} {ps : List Str} {j k : Nat} {sp : Sp} (D : Df P w K mg base x ps j sp) (h : j <= k) : Df P w K mg base x ps k sp :=
 let ⟨f, fd, F, r⟩ := D
 ⟨f, fd, F.mono h, r⟩
section
variable {X : Cx} {k : Nat} {x : Str} {ps : List Str} {sp : Sp} {p pos : Pos} {e : Expr} {es : List Expr} {t : TA}
theorem zq (D : Df X.prog X.w X.K X.mg X.base x ps k sp) (hr : jr k X.A) (hg : Gl X x) (ha : PA X (e :: es) t) (hdb : (x == ("__debug__" : Str)) = false := by decide)
  (he : starEach (e :: es) X.env = (false, eval e X.env) :: starEach es X.env := by rfl) (hpl : (backTo pos (starEach es X.env)).any (·.1) = false := by rfl) : PE X (.Call (.Name x p) (e :: es) [] pos) (Jp sp [] E0 t) := by
 obtain ⟨f, fd, F, b, kp, m, _⟩ := D
 exact Wb F hr hg m kp b .nil Dt ha hdb he hpl
end
theorem qm {P : Program} {w : World} {K : PySem.W.Frag} {mg : Str -> Option Value} {base : Heap} {x : Str} {st : Stmt} {N ps : List Str} {k : Nat} {sp : Sp} (a : At K mg x st) (S : zt N ps (zj st))
  (hb : ∀ (kV doc pm : Value) (an : Option Addr) (cdv ct : Value) (us : List Value), us.length = ps.length -> bindArgs (PySem.W.fnOf x x (jh st) (qB st) (zj st) .none kV doc pm an cdv ct) ⟨us, []⟩ = pure (ps.zip us))
  (len : ∀ vs H Q E, sp vs H Q E -> vs.length = ps.length)
  (hbody : ∀ (f : Addr) (cdv : Value) (A : Around) (outer : List Env) (s : Shared) (H : Hp) (vs : List V) (Q : VK) (E : XK), jr k (A.deeper (envOfC x (zj st) s.heap.objs.size f cdv)) -> sp vs H Q E ->
   ∃ t, PSs (vW CX0 P w K mg base N x (zj st) f cdv A outer s H E).nox (qB st) t /\ t { nx := fun _ H' => Q .non H', rt := Q } (start N vs) H) : Df P w K mg base x ps (k + 1) sp := by
 obtain ⟨f, fd, F, m⟩ := a
 obtain ⟨oc, od, kV, doc, pm, an, cdv, ct, osl, _, lk, _⟩ := id F.ex
 exact ⟨f, fd, F.ok S len fun cdv A outer s H vs Q E => hbody f cdv A outer s H vs Q E, F.binds hb, F.kp, m, oc, od, osl, lk⟩
theorem at_mk {K : PySem.W.Frag} {mg : Str -> Option Value} {h : Heap} {x : Str} {st : Stmt} {f : Addr} {oc : Value} {od an : Option Addr} {osl : Array (Option Value)} {kV doc pm cdv ct : Value} (X : K.In h) (G : h.Ns mainGlobals mg) (a : PySem.W.nsIn K mainGlobals x = some (some (.ref f)))
  (l : K.lookup f = some ⟨oc, od, .func (PySem.W.fnOf x x (jh st) (qB st) (zj st) .none kV doc pm an cdv ct), osl⟩) (c : PySem.W.codeIn K cdv x = true) (k : PySem.W.keepIn K (.ref f) = true) : At K mg x st := ⟨f, _, Xh l c k, PySem.W.mg_of X G a⟩
theorem Df.fn {P : Program} {w : World} {K : PySem.W.Frag} {mg : Str -> Option Value} {base : Heap} {x : Str} {ps : List Str} {k : Nat} {sp : Sp} {f : Addr} {fd : FuncData} {oc : Value} {od : Option Addr} {osl : Array (Option Value)} (D : Df P w K mg base x ps k sp) (m : mg x = some (.ref f)) (l : K.lookup f = some ⟨oc, od, .func fd, osl⟩) : kj P w K mg base CX0 k f fd ps sp := by
 obtain ⟨f', fd', F, _, _, m', oc', od', osl', l'⟩ := D
 rw [m] at m'
 cases m'
 rw [l] at l'
 cases l'
 exact F
structure Blt (mg : Str -> Option Value) : Prop where
 len : mg "len" = none
 range : mg "range" = none
 list : mg "list" = none
 tuple : mg "tuple" = none
 int : mg "int" = none
 bool : mg "bool" = none
 str : mg "str" = none
 abs : mg "abs" = none
 divmod : mg "divmod" = none
 enumerate : mg "enumerate" = none
 zip : mg "zip" = none
 sorted : mg "sorted" = none
 max : mg "max" = none
 min : mg "min" = none
 isinstance : mg "isinstance" = none
 all : mg "all" = none
theorem blt_mk {K : PySem.W.Frag} {mg : Str -> Option Value} {h : Heap} (X : K.In h) (G : h.Ns mainGlobals mg) (z1 : PySem.W.nsIn K mainGlobals "len" = some none) (z2 : PySem.W.nsIn K mainGlobals "range" = some none) (z3 : PySem.W.nsIn K mainGlobals "list" = some none) (z4 : PySem.W.nsIn K mainGlobals "tuple" = some none) (z5 : PySem.W.nsIn K mainGlobals "int" = some none) (z6 : PySem.W.nsIn K mainGlobals "bool" = some none) (z7 : PySem.W.nsIn K mainGlobals "str" = some none) (z8 : PySem.W.nsIn K mainGlobals "abs" = some none)
  (z9 : PySem.W.nsIn K mainGlobals "divmod" = some none) (z10 : PySem.W.nsIn K mainGlobals "enumerate" = some none) (z11 : PySem.W.nsIn K mainGlobals "zip" = some none) (z12 : PySem.W.nsIn K mainGlobals "sorted" = some none) (z13 : PySem.W.nsIn K mainGlobals "max" = some none) (z14 : PySem.W.nsIn K mainGlobals "min" = some none) (z15 : PySem.W.nsIn K mainGlobals "isinstance" = some none) (z16 : PySem.W.nsIn K mainGlobals "all" = some none) : Blt mg :=
 ⟨PySem.W.mg_none_of X G z1, PySem.W.mg_none_of X G z2, PySem.W.mg_none_of X G z3, PySem.W.mg_none_of X G z4, PySem.W.mg_none_of X G z5, PySem.W.mg_none_of X G z6, PySem.W.mg_none_of X G z7, PySem.W.mg_none_of X G z8, PySem.W.mg_none_of X G z9, PySem.W.mg_none_of X G z10, PySem.W.mg_none_of X G z11, PySem.W.mg_none_of X G z12, PySem.W.mg_none_of X G z13, PySem.W.mg_none_of X G z14, PySem.W.mg_none_of X G z15, PySem.W.mg_none_of X G z16⟩
theorem qJ : bootBuiltins "isinstance" = some (.builtin "isinstance") := by decide +kernel
theorem yT : bootBuiltins "sorted" = some (.builtin "sorted") := by decide +kernel
theorem Yo : bootBuiltins "abs" = some (.builtin "abs") := by decide +kernel
theorem Kh : bootBuiltins "divmod" = some (.builtin "divmod") := by decide +kernel
theorem XT : bootBuiltins "max" = some (.builtin "max") := by decide +kernel
theorem qb : bootBuiltins "len" = some (.builtin "len") := by decide +kernel
theorem qM : bootBuiltins "list" = some (.type "list") := by decide +kernel
theorem wQ : bootBuiltins "tuple" = some (.type "tuple") := by decide +kernel
theorem Qu : bootBuiltins "int" = some (.type "int") := by decide +kernel
theorem VT : bootBuiltins "bool" = some (.type "bool") := by decide +kernel
theorem jt : bootBuiltins "range" = some (.type "range") := by decide +kernel
def Kp (bs : List Addr) (H H' : Hp) : Prop := ∀ c o, c ∉ bs -> H c = some o -> H' c = some o
theorem Kp.refl {bs : List Addr} {H : Hp} : Kp bs H H := fun _ _ _ h => h
theorem Kp.trans {bs : List Addr} {H H1 H2 : Hp} (a : Kp bs H H1) (b : Kp bs H1 H2) : Kp bs H H2 := fun c o n h => b c o n (a c o n h)
theorem Kp.new {bs : List Addr} {H : Hp} {p : Addr} (o : HO) (h : H p = none) : Kp bs H (upd H p o) := fun c u _ q => by rw [zk (zh q h)]; exact q
theorem Kp.set {bs : List Addr} {H : Hp} {p : Addr} (o : HO) (h : p ∈ bs) : Kp bs H (upd H p o) := fun c u n q => by have hne : c ≠ p := (fun e => n (by rw [e]; exact h)); rw [zk hne]; exact q
theorem Kp.mono {bs bs' : List Addr} {H H' : Hp} (a : Kp bs H H') (h : ∀ b ∈ bs, b ∈ bs') : Kp bs' H H' := fun c o n q => a c o (fun z => n (h c z)) q
theorem Kp.free {H H' : Hp} (e : Kp [] H H') {l : Addr} (h : H' l = Option.none) : H l = Option.none := by
 cases q : H l with
 | none => rfl
 | some o => rw [e l o (by simp) q] at h; cases h
def Bx (H : Hp) (b : Addr) (N : Nat) : Prop := ∃ x y z : Int, H b = some (.lst [.int x, .int y, .int z]) /\ 0 <= x /\ 0 <= y /\ y < 2147483648 /\ 0 <= z /\ z <= N
abbrev il (ns : List Int) : HO := .lst (ns.map V.int)
end L2
set_option Elab.async false
set_option linter.all false
set_option maxRecDepth 100000
set_option maxHeartbeats 4000000
namespace L2
open PySem PySem.Spec PyProof.Rows
theorem cxK {CX : CXT} {P : Program} {w : World} {K : PySem.W.Frag} {mg : Str -> Option Value} {base : Heap} {N : List Str} {qual : Str} {scope : Scope} {f : Addr} {cd : Value} {A : Around} {outer : List Env} {s : Shared} {H : Hp} {E : XK} :
  (vW CX P w K mg base N qual scope f cd A outer s H E).K = K := rfl
def QJ (J : It) (g : TG) (tb : TS) (D : jP) (σ : St) (H : Hp) : Prop := ∃ W : Nat -> Nat -> St -> Hp -> Prop, (∃ m, W 0 m σ H) /\ ∀ i m σ H, W i m σ H ->
 (J.stop i H /\ D.nx σ H) \/ (J.go i H /\ ∃ N : St -> Hp -> Prop, (∀ σ' H', N σ' H' -> ∃ m', m' < m /\ W (i + 1) m' σ' H') /\ ∀ x H', J.yld i H x H' -> g x σ H' fun σ2 H2 => tb { D with nx := N, ct := N, bk := D.nx } σ2 H2)
theorem JG {wi : TI} {g : TG} {tb : TS} {D : jP} {σ : St} {H : Hp} : Bt wi g tb D σ H = wi σ H (fun J H1 => QJ J g tb D σ H1) := rfl
def wM (J : It) (g : TG) (tt : TT) (te : TE) (D : Addr) (Q : VK) (τ : St) (H : Hp) : Prop := ∃ W : Nat -> Nat -> St -> Hp -> Prop, (∃ m, W 0 m τ H) /\ ∀ i m τ H2, W i m τ H2 ->
 (J.stop i H2 /\ Q (.ref D) H2) \/ (J.go i H2 /\ ∃ N : St -> Hp -> Prop, (∀ τ' H', N τ' H' -> ∃ m', m' < m /\ W (i + 1) m' τ' H') /\ ∀ x H', J.yld i H2 x H' -> g x τ H' fun τ2 H3 => tt τ2 H3 fun b H4 =>
  if b = true then te τ2 H4 fun v H5 => ∃ ys, H5 D = some (.lst ys) /\ ys.length < sizeLine /\ N τ2 (upd H5 D (.lst (ys ++ [v]))) else N τ2 H4)
theorem YR {ts : List Nat} {wi : TI} {g : TG} {tt : TT} {te : TE} {σ : St} {H : Hp} {Q : VK} :
  Zr ts wi g tt te σ H Q = wi σ H (fun J H1 => ∀ D, H1 D = none -> wM J g tt te D Q (clr ts σ) (upd H1 D (.lst []))) := rfl
theorem j6 {lo : Int} {n : Nat} {g : TG} {tb : TS} {D : jP} {σ : St} {H : Hp} (Pv : Nat -> St -> Hp -> Prop) (h0 : Pv 0 σ H)
  (hs : ∀ i σ H, i < n -> Pv i σ H -> g (.int (lo + i)) σ H fun σ2 H2 => tb { D with nx := Pv (i + 1), ct := Pv (i + 1), bk := D.nx } σ2 H2) (hd : ∀ σ H, Pv n σ H -> D.nx σ H) : QJ (Itr lo n) g tb D σ H := Kn Pv h0 hs hd
theorem Jm {K : PySem.W.Frag} {a : Addr} {xs : List V} {g : TG} {tb : TS} {D : jP} {σ : St} {H : Hp} (Pv : Nat -> St -> Hp -> Prop) (h0 : Pv 0 σ H) (hl : ∀ i σ H, i <= xs.length -> Pv i σ H -> SqL K H a xs)
  (hs : ∀ i x σ H, xs[i]? = some x -> Pv i σ H -> g x σ H fun σ2 H2 => tb { D with nx := Pv (i + 1), ct := Pv (i + 1), bk := D.nx } σ2 H2) (hd : ∀ σ H, Pv xs.length σ H -> D.nx σ H) : QJ (Itl K a) g tb D σ H := XO Pv h0 hl hs hd
theorem QX {K : PySem.W.Frag} {a : Addr} {xs : List V} {g : TG} {tb : TS} {D : jP} {σ : St} {H : Hp} (Pv : Nat -> St -> Hp -> Prop) (h0 : Pv 0 σ H) (hl : ∀ i σ H, i <= xs.length -> Pv i σ H -> SqL K H a xs)
  (hs : ∀ i x p σ H, xs[i]? = some x -> H p = none -> Pv i σ H -> g (.ref p) σ (upd H p (.tup [.int i, x])) fun σ2 H2 => tb { D with nx := Pv (i + 1), ct := Pv (i + 1), bk := D.nx } σ2 H2) (hd : ∀ σ H, Pv xs.length σ H -> D.nx σ H) : QJ (Ite K a) g tb D σ H := Yk Pv h0 hl hs hd
theorem Vh {K : PySem.W.Frag} {a b : Addr} {xs ys : List V} {g : TG} {tb : TS} {D : jP} {σ : St} {H : Hp} (Pv : Nat -> St -> Hp -> Prop) (hlen : ys.length <= xs.length) (h0 : Pv 0 σ H) (hl : ∀ i σ H, i <= ys.length -> Pv i σ H -> SqL K H a xs /\ SqL K H b ys)
  (hs : ∀ i x y p σ H, xs[i]? = some x -> ys[i]? = some y -> H p = none -> Pv i σ H -> g (.ref p) σ (upd H p (.tup [x, y])) fun σ2 H2 => tb { D with nx := Pv (i + 1), ct := Pv (i + 1), bk := D.nx } σ2 H2) (hd : ∀ σ H, Pv ys.length σ H -> D.nx σ H) : QJ (Itz K a b) g tb D σ H := by
 refine ⟨fun i m σ H => m = ys.length - i /\ i <= ys.length /\ Pv i σ H, ⟨ys.length, by simp, Nat.zero_le _, h0⟩, ?_⟩
 rintro i m σ H ⟨rfl, hi, p⟩
 obtain ⟨q, q'⟩ := hl i σ H hi p
 by_cases hlt : i < ys.length
 ·refine .inr ⟨⟨xs, ys, xs[i]'(by omega), ys[i], q, q', by first | (simp; done) | (simp; omega), by simp [hlt]⟩, Pv (i + 1), fun σ' H' p' => ⟨ys.length - (i + 1), by omega, rfl, hlt, p'⟩, fun x H' y => ?_⟩
  obtain ⟨pp, x', y', hp, rfl, y1, y2, rfl⟩ := y
  exact hs i x' y' pp σ _ (y1 xs q) (y2 ys q') hp p
 ·have e : i = ys.length := by omega
  subst e
  exact .inl ⟨⟨xs, ys, q, q', .inr (Nat.le_refl _)⟩, hd σ H p⟩
theorem jv {lo : Int} {n : Nat} {g : TG} {tt : TT} {te : TE} {Q : VK} {τ : St} {H1 : Hp} {D : Addr} (Pv : Nat -> St -> Hp -> Prop) (h0 : Pv 0 τ (upd H1 D (.lst [])))
  (hs : ∀ i τ H, i < n -> Pv i τ H -> g (.int (lo + i)) τ H fun τ2 H3 => tt τ2 H3 fun b H4 => if b = true then te τ2 H4 fun v H5 => ∃ ys, H5 D = some (.lst ys) /\ ys.length < sizeLine /\ Pv (i + 1) τ2 (upd H5 D (.lst (ys ++ [v]))) else Pv (i + 1) τ2 H4)
  (hd : ∀ τ H, Pv n τ H -> Q (.ref D) H) : wM (Itr lo n) g tt te D Q τ (upd H1 D (.lst [])) := Qc Pv h0 hs hd
theorem Wi {K : PySem.W.Frag} {a : Addr} {xs : List V} {g : TG} {tt : TT} {te : TE} {Q : VK} {τ : St} {H1 : Hp} {D : Addr} (Pv : Nat -> St -> Hp -> Prop) (h0 : Pv 0 τ (upd H1 D (.lst []))) (hl : ∀ i τ H, i <= xs.length -> Pv i τ H -> SqL K H a xs)
  (hs : ∀ i x p τ H, xs[i]? = some x -> H p = none -> Pv i τ H -> g (.ref p) τ (upd H p (.tup [.int i, x])) fun τ2 H3 => tt τ2 H3 fun b H4 => if b = true then te τ2 H4 fun v H5 => ∃ ys, H5 D = some (.lst ys) /\ ys.length < sizeLine /\ Pv (i + 1) τ2 (upd H5 D (.lst (ys ++ [v]))) else Pv (i + 1) τ2 H4)
  (hd : ∀ τ H, Pv xs.length τ H -> Q (.ref D) H) : wM (Ite K a) g tt te D Q τ (upd H1 D (.lst [])) := J3 Pv h0 hl hs hd
end L2
set_option Elab.async false
set_option linter.all false
set_option maxRecDepth 100000
set_option maxHeartbeats 4000000
namespace L2
open PySem PySem.Spec PyProof.Rows
def QK : List Expr -> Option (List Int)
 | [] => some []
 | .Constant (.int i) _ _ :: r => (QK r).map (i :: ·)
 | _ => none
def WN (is : List Int) : TA := fun _ H Q => Q (is.map V.int) H
theorem Q1 {X : Cx} : ∀ {es : List Expr} {is : List Int}, QK es = some is -> PA X es (WN is)
 | [], is, h => by
  cases (show some [] = some is from h)
  exact zb
 | .Constant (.int i) k p :: r, is, h => by
  obtain ⟨js, e, rfl⟩ := Option.map_eq_some_iff.mp (show (QK r).map (i :: ·) = some is from h)
  exact za (te := tC (.int i)) ze (Q1 e)
theorem vf {X : Cx} : qD X (.type "int") (fun xs H Q => ∃ k, xs = [.bl k] /\ Q (.int (if k then 1 else 0)) H) := by
 intro pins s σ H xs us Q I r h
 exact Kr pins s σ H xs us Q I r (.inr h)
theorem Bx.mono {H : Hp} {b : Addr} {N M : Nat} (h : Bx H b N) (le : N <= M) : Bx H b M := let ⟨x, y, z, h1, h2, h3, h4, h5, h6⟩ := h; ⟨x, y, z, h1, h2, h3, h4, h5, by omega⟩
theorem Bx.new {H : Hp} {b p : Addr} {N : Nat} {o : HO} (h : Bx H b N) (hp : H p = none) : Bx (upd H p o) b N := let ⟨x, y, z, h1, r⟩ := h; ⟨x, y, z, (zk (zh h1 hp)).trans h1, r⟩
theorem Bx.kp {H H' : Hp} {b : Addr} {N : Nat} (h : Bx H b N) (k : Kp [] H H') : Bx H' b N := let ⟨x, y, z, h1, r⟩ := h; ⟨x, y, z, k _ _ (by simp) h1, r⟩
end L2
set_option Elab.async false
set_option linter.all false
set_option maxRecDepth 100000
set_option maxHeartbeats 4000000
namespace L2
open PySem PySem.Spec PyProof.Rows
def zf (n : Nat) (ns : List Int) : Prop := ns.length = n /\ ns.Nodup /\ ∀ x ∈ ns, 0 <= x /\ x < (n : Int)
theorem zf.nil : zf 0 [] := ⟨rfl, List.nodup_nil, fun x h => nomatch h⟩
theorem ZE {α : Type} (xs : List α) (i : Nat) (y : α) : (xs.take i ++ y :: xs.drop i).Perm (y :: xs) := by
 refine (List.perm_middle).trans ?_
 rw [List.take_append_drop]
theorem zf.insert {k : Nat} {ns : List Int} (h : zf k ns) (i : Nat) : zf (k + 1) (ns.take i ++ (k : Int) :: ns.drop i) := by
 obtain ⟨h1, h2, h3⟩ := h
 have pm := ZE ns i (k : Int)
 refine ⟨by rw [pm.length_eq, List.length_cons, h1], ?_, fun x hx => ?_⟩
 ·refine pm.nodup_iff.mpr (List.nodup_cons.mpr ⟨fun hm => ?_, h2⟩)
  have := (h3 _ hm).2
  omega
 ·rcases List.mem_cons.mp (pm.mem_iff.mp hx) with rfl | hx
  ·omega
  ·have := h3 x hx; omega
theorem yB : ∀ (n : Nat) (l : List Int), l.Nodup -> (∀ x ∈ l, 0 <= x /\ x < (n : Int)) -> l.length <= n
 | 0, l, _, h => by
  cases l with
  | nil => exact Nat.le_refl _
  | cons x r => have := h x List.mem_cons_self; omega
 | n + 1, l, hn, h => by
  have ih := yB n (l.erase (n : Int)) (hn.erase _) (fun x hx => by
   have h1 := h x (List.mem_of_mem_erase hx)
   have h2 : x ≠ (n : Int) := fun e => by
    subst e
    exact (hn.not_mem_erase) hx
   omega)
  by_cases hm : (n : Int) ∈ l
  ·rw [List.length_erase_of_mem hm] at ih; omega
  ·rw [List.erase_of_not_mem hm] at ih; omega
theorem zf.surj {n : Nat} {ns : List Int} (h : zf n ns) {x : Int} (h0 : 0 <= x) (h1 : x < n) : x ∈ ns := by
 obtain ⟨l, d, b⟩ := h
 refine Classical.byContradiction fun hm => ?_
 have := yB n (x :: ns) (List.nodup_cons.mpr ⟨hm, d⟩) (fun y hy => by
  rcases List.mem_cons.mp hy with rfl | hy
  ·exact ⟨h0, h1⟩
  ·exact b y hy)
 rw [List.length_cons, l] at this
 omega
theorem zf.getD {n : Nat} {ns : List Int} (h : zf n ns) {i : Nat} (hi : i < n) : 0 <= ns.getD i 0 /\ ns.getD i 0 < n := by
 obtain ⟨l, d, b⟩ := h
 have hi' : i < ns.length := by omega
 have e : ns.getD i 0 = ns[i] := by rw [List.getD_eq_getElem?_getD, List.getElem?_eq_getElem hi']; rfl
 rw [e]
 exact b _ (List.getElem_mem hi')
theorem zB {ns : List Int} {i : Nat} (h : i < ns.length) : ns.getD i 0 = ns[i] := by rw [List.getD_eq_getElem?_getD, List.getElem?_eq_getElem h]; rfl
theorem zf.inj {n : Nat} {ns : List Int} (h : zf n ns) {i j : Nat} (hi : i < n) (hj : j < n) (e : ns.getD i 0 = ns.getD j 0) : i = j := by
 obtain ⟨l, d, b⟩ := h
 rw [zB (by omega), zB (by omega)] at e
 exact (List.getElem_inj d).mp e
theorem qj {n : Nat} {ns : List Int} (l : ns.length = n) (b : ∀ i, i < n -> 0 <= ns.getD i 0 /\ ns.getD i 0 < n) (j : ∀ i k, i < n -> k < n -> ns.getD i 0 = ns.getD k 0 -> i = k) : zf n ns := by
 refine ⟨l, ?_, fun x hx => ?_⟩
 ·rw [List.nodup_iff_pairwise_ne, List.pairwise_iff_getElem]
  intro i k hi hk hik e
  have := j i k (by omega) (by omega) (by rw [zB hi, zB hk]; exact e)
  omega
 ·obtain ⟨i, hi, rfl⟩ := List.mem_iff_getElem.mp hx
  have := b i (by omega)
  rwa [zB hi] at this
theorem zf.ex {n : Nat} {ns : List Int} (h : zf n ns) {j : Nat} (hj : j < n) : ∃ i, i < n /\ ns.getD i 0 = (j : Int) := by
 have hm := h.surj (x := (j : Int)) (by omega) (by omega)
 obtain ⟨i, hi, e⟩ := List.mem_iff_getElem.mp hm
 exact ⟨i, by rw [<- h.1]; exact hi, by rw [zB hi]; exact e⟩
theorem qf (n : Nat) {i : Nat} (h : i < n) : (zR 0 1 n).getD i 0 = (i : Int) := by
 rw [zB (by rw [zM]; exact h)]
 simp [zR]
theorem zf.rng (n : Nat) : zf n (zR 0 1 n) := by
 refine qj (zM 0 1 n) (fun i hi => ?_) (fun i k hi hk e => ?_)
 ·rw [qf n hi]; omega
 ·rw [qf n hi, qf n hk] at e; omega
theorem Kp.drop1 {bs : List Addr} {H H' : Hp} {p : Addr} {o : HO} (hp : H p = none) (k : Kp (p :: bs) (upd H p o) H') : Kp bs H H' := fun c u n h => by
 have hne : c ≠ p := zh h hp
 refine k c u ?_ ((zk hne).trans h)
 intro hm
 rcases List.mem_cons.mp hm with e | e
 ·exact hne e
 ·exact n e
theorem Bx.ne {H : Hp} {b p : Addr} {N : Nat} (h : Bx H b N) (hp : H p = none) : b ≠ p := let ⟨_, _, _, h1, _⟩ := h; zh h1 hp
theorem Bx.there {H : Hp} {b : Addr} {N : Nat} (h : Bx H b N) : ∃ o, H b = some o := let ⟨_, _, _, h1, _⟩ := h; ⟨_, h1⟩
theorem Bx.keep {H H' : Hp} {b : Addr} {N : Nat} {bs : List Addr} (h : Bx H b N) (k : Kp bs H H') (hb : b ∉ bs) : Bx H' b N := let ⟨x, y, z, h1, r⟩ := h; ⟨x, y, z, k _ _ hb h1, r⟩
theorem jq {ns : List Int} {i j : Nat} {v : Int} (h : i < ns.length) : (ns.set i v).getD j 0 = if j = i then v else ns.getD j 0 := by
 rw [List.getD_eq_getElem?_getD, List.getElem?_set]
 by_cases e : i = j
 ·subst e; simp [h]
 ·rw [if_neg e, if_neg (Ne.symm e), List.getD_eq_getElem?_getD]
theorem ZJ {xs ys : List Int} (l : xs.length = ys.length) (h : ∀ i, i < xs.length -> xs.getD i 0 = ys.getD i 0) : xs = ys := by
 refine List.ext_getElem l fun i h1 h2 => ?_
 have := h i h1
 rwa [zB h1, zB h2] at this
def Z3 : V -> V -> V -> Hp -> (Hp -> Prop) -> Prop := fun o i v H Q => ∃ k, i = .int k /\ ∃ p, o = .ref p /\ ∃ xs, H p = some (.lst xs) /\ ∃ j, ixN xs.length k = some j /\ Q (upd H p (.lst (xs.set j v)))
section
variable {X : Cx}
theorem ki : MtR X "list.append" vO := yU
theorem Kc : MtR X "list.insert" vT := Ky
theorem jG {es : List Expr} {k : Nat} {t : TGs} {pos : Pos} {K : PySem.W.Frag} (n : Nat) (h : X.K = K) (hc : X.calm = true) (hs : PGs X es t) (hn : (assignEach es X.env).length = n := by rfl) (hst : (assignEach es X.env).findIdx? (·.1) = none := by rfl) : PG X (.Tuple es k pos) (WB K n t) := h ▸ Bw hc hs hn hst
theorem zY : W6 X Z3 := by
 intro pins s σ H o i v ov iv u Q I ro ri rv h
 obtain ⟨k, e1, p, e2, xs, h1, j, h2, q⟩ := h
 exact KH pins s σ H o i v ov iv u Q I ro ri rv ⟨p, xs, k, j, e2, e1, h1, h2, q⟩
theorem yO {K : PySem.W.Frag} (h : X.K = K) : qD X (.builtin "len") (fun xs H Q => ∃ p ys, xs = [.ref p] /\ (SqL K H p ys \/ SqT K H p ys) /\ Q (.int ys.length) H) := h ▸ zp
end
end L2
set_option Elab.async false
set_option linter.all false
set_option maxRecDepth 100000
set_option maxHeartbeats 4000000
namespace L2
open PySem PySem.Spec PyProof.Rows
def aft (one other : List Int) : List Int := one.map fun x => other.getD x.toNat 0
theorem jA (a b : List Int) : (aft a b).length = a.length := List.length_map _
theorem ju {a : List Int} (b : List Int) {i : Nat} (h : i < a.length) : (aft a b).getD i 0 = b.getD (a.getD i 0).toNat 0 := by
 rw [zB (by rw [jA]; exact h), zB h]
 exact List.getElem_map _
theorem zf.aft {n : Nat} {a b : List Int} (ha : zf n a) (hb : zf n b) : zf n (aft a b) := by
 refine qj (by rw [jA, ha.1]) (fun i hi => ?_) (fun i k hi hk e => ?_)
 ·rw [ju b (by rw [ha.1]; exact hi)]
  have := ha.getD hi
  exact hb.getD (by omega)
 ·rw [ju b (by rw [ha.1]; exact hi), ju b (by rw [ha.1]; exact hk)] at e
  have h1 := ha.getD hi
  have h2 := ha.getD hk
  have := hb.inj (by omega) (by omega) e
  exact ha.inj hi hk (by omega)
def zJ (os bs : List Int) : Prop := bs.length = os.length /\ ∀ i, i < os.length -> bs.getD (os.getD i 0).toNat 0 = (i : Int)
theorem zJ.at {n : Nat} {os bs : List Int} (ho : zf n os) (h : zJ os bs) {j : Nat} (hj : j < n) : ∃ i : Nat, i < n /\ os.getD i 0 = (j : Int) /\ bs.getD j 0 = (i : Int) := by
 obtain ⟨i, hi, e⟩ := ho.ex hj
 refine ⟨i, hi, e, ?_⟩
 have := h.2 i (by rw [ho.1]; exact hi)
 rw [e, Int.toNat_natCast] at this
 exact this
theorem zJ.ord {n : Nat} {os bs : List Int} (ho : zf n os) (h : zJ os bs) : zf n bs := by
 refine qj (by rw [h.1, ho.1]) (fun j hj => ?_) (fun j k hj hk e => ?_)
 ·obtain ⟨i, hi, _, e⟩ := h.at ho hj
  rw [e]; omega
 ·obtain ⟨i, hi, e1, e2⟩ := h.at ho hj
  obtain ⟨i', hi', e1', e2'⟩ := h.at ho hk
  have : i = i' := by omega
  subst this
  omega
theorem zJ.right {n : Nat} {os bs : List Int} (ho : zf n os) (h : zJ os bs) : aft os bs = zR 0 1 n := by
 refine ZJ (by rw [jA, zM, ho.1]) fun i hi => ?_
 rw [jA] at hi
 rw [ju bs hi, h.2 i hi, qf n (by rw [<- ho.1]; exact hi)]
theorem zJ.unique {n : Nat} {os bs cs : List Int} (ho : zf n os) (h : zJ os bs) (hc : cs.length = n) (e : aft os cs = zR 0 1 n) : cs = bs := by
 refine ZJ (by rw [hc, h.1, ho.1]) fun j hj => ?_
 obtain ⟨i, hi, e1, e2⟩ := h.at ho (by omega : j < n)
 have := congrArg (fun l => l.getD i 0) e
 rw [ju cs (by rw [ho.1]; exact hi), e1, Int.toNat_natCast, qf n hi] at this
 rw [this, e2]
def Qz (os : List Int) (k : Nat) : Nat := ((List.range k).filter fun (i : Nat) => !decide (os.getD i 0 = (i : Int))).length
def pwl (n : Nat) (b : List Int) : Nat -> List Int
 | 0 => zR 0 1 n
 | k + 1 => aft (pwl n b k) b
theorem Jl {n : Nat} {b : List Int} (hb : zf n b) : ∀ k, zf n (pwl n b k)
 | 0 => zf.rng n
 | k + 1 => (Jl hb k).aft hb
end L2
set_option Elab.async false
set_option linter.all false
set_option maxRecDepth 100000
set_option maxHeartbeats 4000000
namespace L2
open PySem PySem.Spec PyProof.Rows
section
variable {X : Cx}
def Q7 (K : PySem.W.Frag) : R2 := fun x y H Q => ∃ p xs i v, x = .ref p /\ y = .int i /\ (SqL K H p xs \/ SqT K H p xs) /\ atI xs i = some v /\ Q v H
theorem ql : IxR X (Q7 X.K) := by
 intro value slice pins s σ H x y v u Q I rx ry h hs
 obtain ⟨p, xs, i, z, e1, e2, hq | hq, he, q⟩ := h
 ·exact zN value slice pins s σ H x y v u Q I rx ry ⟨p, xs, i, z, e1, e2, hq, he, q⟩ hs
 ·exact Z1 value slice pins s σ H x y v u Q I rx ry ⟨p, xs, i, z, e1, e2, hq, he, q⟩ hs
theorem QA {K : PySem.W.Frag} (h : X.K = K) : IxR X (Q7 K) := h ▸ ql
theorem Bj : bootBuiltins "all" = some (.builtin "all") := by decide +kernel
theorem yu : ∀ {bs : List Bool} {us : List Value}, zC (bs.map V.bl) us -> us = bs.map Value.bool
 | [], _, h => by cases h; rfl
 | b :: bs, _, h => by
  cases h with
  | cons r rs => cases r; rw [yu rs]; rfl
theorem QE (bs : List Bool) : ((List.range bs.length).all fun i => (bs[i]?).getD true) = bs.all id := by
 rw [Bool.eq_iff_iff, List.all_eq_true, List.all_eq_true]
 constructor
 ·intro h x hx
  obtain ⟨i, hi, rfl⟩ := List.getElem_of_mem hx
  have := h i (by simpa using hi)
  simpa [List.getElem?_eq_getElem hi] using this
 ·intro h i hi
  have hi' : i < bs.length := by simpa using hi
  simpa [List.getElem?_eq_getElem hi'] using h bs[i] (List.getElem_mem hi')
theorem Kv (hc : X.calm = true) : qD X (.builtin "all") (fun xs H Q => ∃ p bs, xs = [.ref p] /\ SqL X.K H p (List.map V.bl bs) /\ Q (.bl (bs.all id)) H) := by
  intro pins s σ H xs us Q I r h
  obtain ⟨p, bs, rfl, hq, q⟩ := h
  obtain ⟨u, rfl, rx⟩ := jS r
  cases rx
  obtain ⟨its, rv, pl, hz⟩ := I.list hq
  have hu := yu rv
  subst hu
  have hlt : p < s.heap.objs.size := by obtain ⟨_, e, _⟩ := pl.isList; exact Heap.lt_size e
  refine call_all_walk (wpAny_pyIter_list pl.isList ?_)
  refine ⟨s.heap.objs.size, [s.heap.objs.size, p], [s.heap.objs.size], (bs.map Value.bool).toArray.size, _, _, fun i => (bs[i]?).getD true, rfl, Walks.list (A := X.A.in1) (I.ok.hd hc) _ p (Nat.ne_of_lt hlt) (bs.map Value.bool).toArray,
    ⟨⟨_, Heap.get?_push_size _ rfl, rfl, rfl⟩, pl.isList.push _⟩, fun i v s' Q' E' hP hQ => ?_, fun h' tk hk => ?_⟩
  · have hP' : (bs.map Value.bool)[i]? = some v := by simpa using hP
    rw [List.getElem?_map] at hP'
    cases e : bs[i]? with
    | none => rw [e] at hP'; cases hP'
    | some b =>
      rw [e] at hP'
      cases hP'
      simp only [e, Option.getD_some] at hQ
      exact wpAny_truthy_bool hQ
  · have e : ((List.range (bs.map Value.bool).toArray.size).all fun i => (bs[i]?).getD true) = bs.all id := by
      rw [List.size_toArray, List.length_map]; exact QE bs
    rw [e]
    refine ⟨.bl (bs.all id), H, I.turnedL (ch := []) (tk := tk) (fun b hb => nomatch hb) (fun b o _ eb => ?_), rfl, q⟩
    exact hk b o (fun hm => by rw [List.mem_singleton.mp hm] at eb; exact Nat.lt_irrefl _ (Heap.lt_size eb)) (Heap.get?_push_of_some _ eb)
end
end L2
set_option Elab.async false
set_option linter.all false
set_option maxRecDepth 100000
set_option maxHeartbeats 4000000
namespace L2
open PySem PySem.Spec PyProof.Rows
def nxt (os : List Int) (p : Int) : Int := os.getD p.toNat 0
def itn (os : List Int) : Nat -> Int -> Int
 | 0, p => p
 | k + 1, p => nxt os (itn os k p)
theorem zW {n : Nat} {os : List Int} (h : zf n os) {p : Int} (p0 : 0 <= p) (p1 : p < n) : ∀ k, 0 <= itn os k p /\ itn os k p < n
 | 0 => ⟨p0, p1⟩
 | k + 1 => by
  have := zW h p0 p1 k
  exact h.getD (by omega)
theorem ji (os : List Int) (p : Int) (b : Nat) : ∀ a, itn os (a + b) p = itn os a (itn os b p)
 | 0 => by rw [Nat.zero_add]; rfl
 | a + 1 => by
  rw [show a + 1 + b = (a + b) + 1 by omega]
  show nxt os (itn os (a + b) p) = nxt os (itn os a (itn os b p))
  rw [ji os p b a]
theorem VP {n : Nat} {os : List Int} (h : zf n os) {x y : Int} (x0 : 0 <= x) (x1 : x < n) (y0 : 0 <= y) (y1 : y < n) (e : nxt os x = nxt os y) : x = y := by
 have := h.inj (i := x.toNat) (j := y.toNat) (by omega) (by omega) e
 omega
theorem wu {n : Nat} {os : List Int} (h : zf n os) {x y : Int} (x0 : 0 <= x) (x1 : x < n) (y0 : 0 <= y) (y1 : y < n) : ∀ k, itn os k x = itn os k y -> x = y
 | 0, e => e
 | k + 1, e => by
  have bx := zW h x0 x1 k
  have by' := zW h y0 y1 k
  exact wu h x0 x1 y0 y1 k (VP h bx.1 bx.2 by'.1 by'.2 e)
theorem kN {n : Nat} {os : List Int} (h : zf n os) {p : Int} (p0 : 0 <= p) (p1 : p < n) : ∃ M, 1 <= M /\ M <= n /\ itn os M p = p := by
 apply Classical.byContradiction
 intro hno
 have hp : ((List.range (n + 1)).map fun i => itn os i p).Nodup := by
  rw [List.Nodup, List.pairwise_map]
  refine List.Pairwise.imp_of_mem (R := fun a b => a < b) ?_ List.pairwise_lt_range
  intro a b ha hb hlt e
  have hb' : b < n + 1 := by simpa using hb
  refine hno ⟨b - a, by omega, by omega, ?_⟩
  have bb := zW h p0 p1 (b - a)
  refine (wu h p0 p1 bb.1 bb.2 a ?_).symm
  rw [<- ji, show a + (b - a) = b by omega]
  exact e
 have := yB n _ hp (fun x hx => by
  obtain ⟨i, _, rfl⟩ := List.mem_map.mp hx
  exact zW h p0 p1 i)
 rw [List.length_map, List.length_range] at this
 omega
def qv (os : List Int) (p : Int) (m : Nat) (e : Int) : Prop := 1 <= m /\ e = itn os m p /\ e <= p /\ ∀ j, 1 <= j -> j < m -> p < itn os j p
theorem qv.uniq {os : List Int} {p : Int} {m m' : Nat} {e e' : Int} (h : qv os p m e) (h' : qv os p m' e') : m = m' /\ e = e' := by
 obtain ⟨a1, a2, a3, a4⟩ := h
 obtain ⟨b1, b2, b3, b4⟩ := h'
 have : m = m' := by
  rcases Nat.lt_trichotomy m m' with z | z | z
  ·have := b4 m a1 z; omega
  ·exact z
  ·have := a4 m' b1 z; omega
 subst this
 exact ⟨rfl, a2.trans b2.symm⟩
open Classical in
noncomputable def wkM (os : List Int) (p : Int) : Nat := if h : ∃ m, ∃ e, qv os p m e then Classical.choose h else 0
open Classical in
noncomputable def wkE (os : List Int) (p : Int) : Int := itn os (wkM os p) p
theorem qv.wkM {os : List Int} {p : Int} {m : Nat} {e : Int} (h : qv os p m e) : wkM os p = m := by
 have hx : ∃ m, ∃ e, qv os p m e := ⟨m, e, h⟩
 obtain ⟨e', h'⟩ := Classical.choose_spec hx
 unfold L2.wkM
 rw [dif_pos hx]
 exact (h'.uniq h).1
theorem qv.wkE {os : List Int} {p : Int} {m : Nat} {e : Int} (h : qv os p m e) : wkE os p = e := by
 unfold L2.wkE
 rw [h.wkM]
 exact h.2.1.symm
end L2
set_option Elab.async false
set_option linter.all false
set_option maxRecDepth 100000
set_option maxHeartbeats 4000000
namespace L2
open PySem PySem.Spec PyProof.Rows
end L2
set_option Elab.async false
set_option linter.all false
set_option maxRecDepth 100000
set_option maxHeartbeats 4000000
namespace L2
open PySem PySem.Spec PyProof.Rows
section
variable {P : Program} {w : World} {A : Around} {E : Value -> Shared -> Prop} {s : Shared} {j t : Addr} {i : Nat} {its : Array Value} {Q : Value -> Shared -> Prop}
theorem v7 {x : Value} (hj : s.heap.IsTupleIter j t i) (ht : s.heap.IsTuple t its) (hx : its[i]? = some x) (hQ : ∀ h', h'.IsTupleIter j t (i + 1) -> Heap.SameBut j s.heap h' -> Q x { s with heap := h' }) : wpAny (model P w) A (Builtin.SmallTypes.nextOf (.ref j)) Q E s := by
 obtain ⟨o, ho, hc, hd⟩ := id hj
 obtain ⟨ot, hot, _, nt, hdt⟩ := ht
 unfold Builtin.SmallTypes.nextOf
 refine wpAny_bind (wpAny_callSpecial?_slot (name := Str.ofString "__next__") hj.typeIs F.slot_tuple_iterator_next (wpAny_call_entry F.slot_tuple_iterator_next hj.typeIs F.entry_tuple_iterator_next ?_ (F.args_tuple_iterator_next_1 _)))
 refine wpAny_bind (m := field (.ref j) 0) (wpAny_field ho hd (x := .ref t) rfl ?_); show wpAny _ _ (if (Value.ref t == Value.none) = true then _ else _) _ _ s; rw [if_neg (show ¬ ((Value.ref t == Value.none) = true) from Bool.false_ne_true)]
 refine wpAny_bind (m := field (.ref j) 1) (wpAny_field ho hd (x := .int i 0) rfl ?_); refine wpAny_bind (m := seqItems? (.ref t)) (wpAny_seqItems hot hdt ?_); simp only [Int.toNat_natCast, hx]
 refine wpAny_bind (wpAny_setField ho hd (by simp) (wpAny_pure ⟨x, rfl, wpAny_pure (hQ _ ⟨_, Heap.get?_update_self _ ho (Obj.isFreed_of_fields (Obj.data_mapFields hd _)), (Obj.cls_mapFields ..).trans hc, by rw [Obj.data_mapFields hd]; simp [rawInt]⟩ (Heap.SameBut.update ..))⟩))
theorem xC (hh : A.handled = none) (hj : s.heap.IsTupleIter j t i) (ht : s.heap.IsTuple t its) (hx : its[i]? = none) (hE : ∀ h' e, Heap.ExtBut j s.heap h' -> (∃ o, h'.get? e = some o /\ o.cls = .type "StopIteration") -> E (.ref e) { s with heap := h' }) : wpAny (model P w) A (Builtin.SmallTypes.nextOf (.ref j)) Q E s := by
 obtain ⟨o, ho, hc, hd⟩ := id hj
 obtain ⟨ot, hot, _, nt, hdt⟩ := ht
 unfold Builtin.SmallTypes.nextOf
 refine wpAny_bind (wpAny_callSpecial?_slot (name := Str.ofString "__next__") hj.typeIs F.slot_tuple_iterator_next (wpAny_call_entry F.slot_tuple_iterator_next hj.typeIs F.entry_tuple_iterator_next ?_ (F.args_tuple_iterator_next_1 _)))
 refine wpAny_bind (m := field (.ref j) 0) (wpAny_field ho hd (x := .ref t) rfl ?_); show wpAny _ _ (if (Value.ref t == Value.none) = true then _ else _) _ _ s; rw [if_neg (show ¬ ((Value.ref t == Value.none) = true) from Bool.false_ne_true)]
 refine wpAny_bind (m := field (.ref j) 1) (wpAny_field ho hd (x := .int i 0) rfl ?_); refine wpAny_bind (m := seqItems? (.ref t)) (wpAny_seqItems hot hdt ?_); simp only [Int.toNat_natCast, hx]
 refine wpAny_bind (wpAny_rule (wpAny_bind (wpAny_setField ho hd (by simp) ?_))); refine wpAny_bind (m := newExc (.type "StopIteration") []) ?_; simp only [newExc, newTuple]; refine wpAny_bind (wpAny_newObj_type ?_ (by size_fits)); refine wpAny_bind (m := firstArgMember _ _) (wpAny_of_eq (a := Value.none) (by first | rfl | (simp only [firstArgMember]; rfl)) ?_); refine wpAny_newObj_type ?_ (by size_fits); simp only [raiseNew]; refine wpAny_bind (wpAny_handled ?_)
 (first | rw [show A.in1.handled = none from hh] | rw [hh]); refine wpAny_bind (wpAny_pure (wpAny_throw ?_)); exact hE _ _ (((Heap.SameBut.update ..).extBut.push _).push _) ⟨_, Heap.get?_push_size _ rfl, rfl⟩
end
theorem Kf {P : Program} {w : World} {A : Around} (hh : A.handled = none) (j t : Addr) (hne : t ≠ j) (its : Array Value) :
  Draws P w A j [j, t] its.size (fun i v => its[i]? = some v) (fun i h => h.IsTupleIter j t i /\ h.IsTuple t its) where
 live := fun _ _ st => let ⟨o, ho, _⟩ := st.1; ⟨o, ho⟩
 frame := fun _ _ _ st hk => ⟨st.1.at fun o e => hk j (by simp) o e, let ⟨o, ho, r⟩ := st.2; ⟨o, hk t (by simp) o ho, r⟩⟩
 item := fun i s Q E hi st hQ => by
  refine v7 st.1 st.2 (x := its[i]) (by simp [hi]) fun h' hit' hs' => ?_
  exact hQ _ h' s.toks (by simp [hi]) ⟨hit', let ⟨o, ho, r⟩ := st.2; ⟨o, (hs'.2 t hne).trans ho, r⟩⟩ hs'
 done := fun s Q E st hE => xC hh st.1 st.2 (by simp) hE
open AutoSeq1 (wpAny_loadPart') in
theorem J8 (l : Addr) (its : Array Value) (n : Nat) (dct : Option Addr) (sl : Array (Option Value)) :
  Meets (Builtin.«enumerate.__new__» ⟨[.type "enumerate", .ref l], []⟩) (fun _ R s => s.heap.get? l = some { cls := .type "tuple", dict := dct, data := .seq its n, slots := sl } /\ R (.ok (.ret (.ref (s.heap.push { cls := .type "tuple_iterator", data := .fields #[.ref l, .int 0 0] }).objs.size))) { s with heap := (s.heap.push { cls := .type "tuple_iterator", data := .fields #[.ref l, .int 0 0] }).push { cls := .type "enumerate", data := .fields #[.none, .bool false, .ref s.heap.objs.size, rawInt 0, .none, .none] } }) :=
 .of_wp fun prog w A R s h => by
  obtain ⟨hp, g, d, tk, os⟩ := s
  obtain ⟨hl, h⟩ := h
  have hsub := sub_enumerate
  have hT : Heap.IsTuple (Shared.heap ⟨hp, g, d, tk, os⟩) l its := ⟨_, hl, rfl, n, rfl⟩
  wp_walk using wpAny_loadPart' hl
  refine wpAny_stack_any fun st => wpAny_pure ?_
  split
  ·rename_i c _ _ _ _ _
   cases (c == Value.type "enumerate")
   ·wp_walk using wpAny_loadPart' hl, wpAny_pyIter_tuple hT; exact ⟨_, rfl, h⟩
   ·wp_walk using wpAny_loadPart' hl, wpAny_pyIter_tuple hT; exact ⟨_, rfl, h⟩
  ·wp_walk using wpAny_loadPart' hl, wpAny_pyIter_tuple hT; exact ⟨_, rfl, h⟩
theorem QH {P : Program} {w : World} {A : Around} {E : Value -> Shared -> Prop} {s : Shared} {l : Addr} {its : Array Value} {Q : Value -> Shared -> Prop} (hT : s.heap.IsTuple l its)
  (h : ∀ h', IsEnum h' (s.heap.objs.size + 1) s.heap.objs.size 0 .none -> h'.IsTupleIter s.heap.objs.size l 0 -> (∀ b o, s.heap.get? b = some o -> h'.get? b = some o) -> Q (.ref (s.heap.objs.size + 1)) { s with heap := h' }) :
  wpAny (model P w) A (call (.type "enumerate") [.ref l]) Q E s := by
 obtain ⟨⟨c, dct, dt, sl⟩, hl, hc, n, hd⟩ := hT
 replace hc : c = .type "tuple" := hc
 replace hd : dt = .seq its n := hd
 subst hc hd
 refine callType_new F.called_enumerate (by decide) (F.typeCall_enumerate_1 _) (F.newCall_enumerate_1 _) (fun obj => F.args_object_init_2 obj _) F.entry_enumerate_new (J8 l its n dct sl) ⟨hl, ?_⟩
 have hz : (s.heap.push { cls := .type "tuple_iterator", data := .fields #[.ref l, .int 0 0] }).objs.size = s.heap.objs.size + 1 := Heap.size_push ..
 show _ /\ _
 rw [hz]
 have he : IsEnum ((s.heap.push { cls := .type "tuple_iterator", data := .fields #[.ref l, .int 0 0] }).push { cls := .type "enumerate", data := .fields #[.none, .bool false, .ref s.heap.objs.size, rawInt 0, .none, .none] }) (s.heap.objs.size + 1) s.heap.objs.size 0 .none := by
  have hg := Heap.get?_push_size (s.heap.push { cls := .type "tuple_iterator", data := .fields #[.ref l, .int 0 0] }) (o := { cls := .type "enumerate", data := .fields #[.none, .bool false, .ref s.heap.objs.size, rawInt 0, .none, .none] }) rfl
  rw [hz] at hg; exact hg
 exact ⟨⟨_, he, rfl⟩, h _ he ⟨_, Heap.get?_push_of_some _ (Heap.get?_push_size _ rfl), rfl, rfl⟩ fun b o x => Heap.get?_push_of_some _ (Heap.get?_push_of_some _ x)⟩
theorem JX {P : Program} {w : World} {A : Around} {E : Value -> Shared -> Prop} {s : Shared} {e j t : Addr} {i : Nat} {its : Array Value} {old : Value} {Q : Option Value -> Shared -> Prop} (hh : A.handled = none)
  (he : IsEnum s.heap e j i old) (hj : s.heap.IsTupleIter j t i) (ht : s.heap.IsTuple t its) (hx : its[i]? = none) (hQ : ∀ h', Heap.ExtBut j s.heap h' -> Q none { s with heap := h' }) : wpAny (model P w) A (pyNext (.ref e)) Q E s := by
 have hT : s.TypeIs (.ref e) "enumerate" := ⟨_, he, rfl⟩
 unfold pyNext
 refine wpAny_bind (wpAny_attempt (wpAny_callSpecial?_slot (name := Str.ofString "__next__") hT F.slot_enumerate_next (wpAny_call_entry F.slot_enumerate_next hT F.entry_enumerate_next ?_ (F.args_enumerate_next_1 _))))
 refine wpAny_bind (m := field (.ref e) 2) (wpAny_field he rfl (x := .ref j) rfl ?_); refine wpAny_bind (xC hh hj ht hx fun h' x he' hx' => ?_)
 obtain ⟨o, ho, hc⟩ := hx'
 refine wpAny_bind (wpAny_isInstance (T := "StopIteration") (b := true) ⟨o, ho, hc⟩ isSubtype_stop ?_); exact wpAny_pure (hQ _ he')
def Wl (K : PySem.W.Frag) (a : Addr) : It :=
 ⟨fun i H => ∃ xs x, SqT K H a xs /\ xs[i]? = some x, fun i H y H' => ∃ p x, H p = none /\ y = .ref p /\ (∀ xs, SqT K H a xs -> xs[i]? = some x) /\ H' = upd H p (.tup [.int i, x]), fun i H => ∃ xs, SqT K H a xs /\ xs.length <= i⟩
theorem QM {P : Program} {w : World} {K : PySem.W.Frag} {es : List Expr} {kt : Nat} {tp : Pos} (a e it : Addr) (hei : e ≠ it) (hea : e ≠ a) (hai : a ≠ it) : QL P w K (.Tuple es kt tp) (Wl K a) [e, it] e (fun i h => (∃ old, IsEnum h e it (i : Nat) old) /\ h.IsTupleIter it a i) where
 mem := by simp
 obj := fun i h st b hb => by
  obtain ⟨⟨old, he⟩, ⟨o, e1, c, d⟩⟩ := st
  rcases List.mem_cons.mp hb with rfl | hb
  ·exact ⟨_, he, fun v z => by have z' : Data.fields _ = Data.cell v := z; cases z'⟩
  ·have e2 : b = it := by simpa using hb
   subst e2
   exact ⟨o, e1, fun v z => by rw [d] at z; cases z⟩
 keep := fun i h h' st k => by
  obtain ⟨⟨old, he⟩, st⟩ := st
  exact ⟨⟨old, k e (by simp) _ he⟩, st.at fun o e => k it (by simp) o e⟩
 item := by
  intro X hP hw hK hc i pins s σ H E I hf st hg
  subst hP hw hK
  obtain ⟨⟨old, he⟩, st⟩ := st
  obtain ⟨xs, x, hq, hx⟩ := hg
  obtain ⟨its, rv, p, hz⟩ := I.tuple hq
  obtain ⟨u, hu, ru⟩ := rv.get hx
  have hlt : i < its.toArray.size := by
   have := (List.getElem?_eq_some_iff.mp hu).1
   simpa using this
  refine wpAny_pyNext_enum_itemD (Kf (A := X.A.in1) (I.ok.hd hc) it a hai its.toArray) he ⟨st, p⟩ hlt hei (by simp [hei, hea]) fun x' h1 tk hP heo hit1 ht1 hz1 hk1 => ?_
  have hxu : x' = u := by
   have h1' : its[i]? = some x' := by simpa using hP
   rw [hu] at h1'; cases h1'; rfl
  subst hxu
  refine ⟨.ref s.heap.objs.size, rfl, wpAny_letOwnedTupleGo_enum heo fun h2 he2 hs2 => ?_⟩
  replace hs2 : Heap.SameBut e h1 h2 := hs2
  have elt : e < s.heap.objs.size := Heap.lt_size he
  have ht2 := (hs2.2 _ (Nat.ne_of_gt elt)).trans ht1
  have I2 : Inv X pins σ (upd H s.heap.objs.size (.tup [.int i, x])) { s with heap := h2, toks := tk + 1 } := by
   refine I.yieldTup (us := [.int i tk, x']) hf (fun b o hb q => ?_) (Nat.le_refl _) ht2 (.cons ⟨_, rfl⟩ (.cons ru .nil)) (by show 2 <= sizeLine; decide)
   have n1 : b ≠ e := fun z => hb (by simp [z])
   have n2 : b ≠ it := fun z => hb (by simp [z])
   exact (hs2.2 b n1).trans (hk1 b o n1 n2 q)
  refine ⟨.ref s.heap.objs.size, _, I2, rfl, ⟨s.heap.objs.size, x, I.hok.fresh (Nat.le_refl _), rfl, fun ys hy => by rw [I.tuple_inj hy hq]; exact hx, rfl⟩, ⟨⟨_, by simpa using he2⟩, hit1.1.extBut hs2.extBut (Ne.symm hei)⟩, fun b hb => ?_⟩
  have hlt : b < s.heap.objs.size := by
   rcases List.mem_cons.mp hb with rfl | hb
   ·exact elt
   ·have e2 : b = it := by simpa using hb
    subst e2
    obtain ⟨o, e1, _⟩ := st
    exact Heap.lt_size e1
  rw [zk (Nat.ne_of_lt hlt)]
  exact (hf b hb).1
 done := by
  intro X hP hw hK hc i pins s σ H E I hf st hg
  subst hP hw hK
  obtain ⟨⟨old, he⟩, st⟩ := st
  obtain ⟨xs, hq, hx⟩ := hg
  obtain ⟨its, rv, p, hz⟩ := I.tuple hq
  obtain ⟨f0, f1, f2, f3, f4, f5⟩ := hf it (by simp)
  have hl := rv.length
  exact JX (I.ok.hd hc) he st p (by simp; omega) fun h' eb => ⟨rfl, I.turned (t' := s.toks) (fun b o hb e => eb b o hb e) f0 f1 f3 f4 f5⟩
 self := fun _ _ _ _ _ st h => by
  obtain ⟨⟨old, he⟩, _⟩ := st
  exact wpAny_pyIter_enum he h
section
variable {X : Cx} {es : List Expr} {kt : Nat} {tp : Pos}
def QU (K : PySem.W.Frag) (ta : TA) : TI := fun σ H R => ta σ H fun vs H1 => ∃ a, vs = [.ref a] /\ (((∃ xs, SqL K H1 a xs) /\ R (Ite K a) H1) \/ ((∃ xs, SqT K H1 a xs) /\ R (Wl K a) H1))
theorem vt {e : Expr} {ta : TA} {p pos : Pos} (hg : Gl X "enumerate") (hm : X.mg "enumerate" = none) (ha : PA X [e] ta) (hs : starEach [e] X.env = [(false, eval e X.env)] := by rfl) :
  PI X (.Tuple es kt tp) (.Call (.Name "enumerate" p) [e] [] pos) (QU X.K ta) := by
 intro pins s σ H R I h
 refine Call_ (j0 I hg hm (yc) (PyProof.Rows.callWith_type1 (thn (ha pos pins s σ H _ I h) fun us s1 ⟨vs, H1, I1, r1, q1⟩ => ?_) hs rfl))
 obtain ⟨a, e, q⟩ := q1
 subst e
 obtain ⟨u, rfl, ru⟩ := jS r1
 cases ru
 have hb' : ∀ b ∈ [s1.heap.objs.size + 1, s1.heap.objs.size], s1.heap.objs.size <= b := by
  intro b hb
  simp only [List.mem_cons, List.not_mem_nil, or_false] at hb
  omega
 rcases q with ⟨⟨xs, hq⟩, q⟩ | ⟨⟨xs, hq⟩, q⟩
 ·obtain ⟨its, rv, pl, hz⟩ := I1.list hq
  refine call_enumerate_list pl.isList fun h' he hit hsz hk => wpAny_pyIter_enum he ?_
  have I2 : Inv X pins σ H1 { s1 with heap := h' } := I1.kept (t' := s1.toks) hk
  exact ⟨s1.heap.objs.size + 1, [s1.heap.objs.size + 1, s1.heap.objs.size], _, _, H1, rfl, I2, vj a _ _ (Nat.succ_ne_self _), ⟨⟨_, he⟩, hit⟩, fun b hb => I1.fpOk (hb' b hb) (I1.hok.fresh (hb' b hb)), q⟩
 ·obtain ⟨its, rv, pl, hz⟩ := I1.tuple hq
  have alt : a < s1.heap.objs.size := by obtain ⟨o, e, _⟩ := pl; exact Heap.lt_size e
  refine QH pl fun h' he hit hk => wpAny_pyIter_enum he ?_
  have I2 : Inv X pins σ H1 { s1 with heap := h' } := I1.kept (t' := s1.toks) hk
  exact ⟨s1.heap.objs.size + 1, [s1.heap.objs.size + 1, s1.heap.objs.size], _, _, H1, rfl, I2, QM a (s1.heap.objs.size + 1) s1.heap.objs.size (Nat.succ_ne_self _) (Nat.ne_of_gt (Nat.lt_succ_of_lt alt)) (Nat.ne_of_lt alt), ⟨⟨_, he⟩, hit⟩, fun b hb => I1.fpOk (hb' b hb) (I1.hok.fresh (hb' b hb)), q⟩
end
theorem vF {K : PySem.W.Frag} {H H' : Hp} {a : Addr} {xs : List V} (h : SqT K H a xs) (e : Kp [] H H') : SqT K H' a xs := by
 rcases h with (h | ⟨o, h⟩) | h
 ·exact .inl (.inl (e _ _ (by simp) h))
 ·exact .inl (.inr ⟨o, e _ _ (by simp) h⟩)
 ·exact .inr h
theorem ww {K : PySem.W.Frag} {H H' : Hp} {a : Addr} {xs : List V} (h : SqL K H a xs) (e : Kp [] H H') : SqL K H' a xs := by
 rcases h with (h | ⟨o, h⟩) | h
 ·exact .inl (.inl (e _ _ (by simp) h))
 ·exact .inl (.inr ⟨o, e _ _ (by simp) h⟩)
 ·exact .inr h
end L2
set_option Elab.async false
set_option linter.all false
set_option maxRecDepth 100000
set_option maxHeartbeats 4000000
namespace L2
open PySem PySem.Spec PyProof.Rows
def kn (os bs : List Int) (p : Int) (s : Nat) : Int := if s % 2 = 1 then itn os ((s + 1) / 2) p else itn bs (s / 2) p
def jo (os bs : List Int) (p : Int) (s : Nat) : Prop := 1 <= s /\ kn os bs p s <= p /\ ∀ j, 1 <= j -> j < s -> p < kn os bs p j
theorem jo.uniq {os bs : List Int} {p : Int} {m m' : Nat} (h : jo os bs p m) (h' : jo os bs p m') : m = m' := by
 obtain ⟨a1, a3, a4⟩ := h
 obtain ⟨b1, b3, b4⟩ := h'
 rcases Nat.lt_trichotomy m m' with z | z | z
 ·have := b4 m a1 z; omega
 ·exact z
 ·have := a4 m' b1 z; omega
open Classical in
noncomputable def bth (os bs : List Int) (p : Int) : Nat := if h : ∃ m, jo os bs p m then Classical.choose h else 0
theorem jo.bth {os bs : List Int} {p : Int} {m : Nat} (h : jo os bs p m) : bth os bs p = m := by
 have hx : ∃ m, jo os bs p m := ⟨m, h⟩
 unfold L2.bth
 rw [dif_pos hx]
 exact (Classical.choose_spec hx).uniq h
theorem Xn {n : Nat} {os : List Int} (bs : List Int) (h : zf n os) {p : Int} (p0 : 0 <= p) (p1 : p < n) : ∃ M, 1 <= M /\ M <= n /\ kn os bs p (2 * M - 1) = p := by
 obtain ⟨M, h1, h2, h3⟩ := kN h p0 p1
 refine ⟨M, h1, h2, ?_⟩
 unfold kn
 rw [if_pos (by omega), show (2 * M - 1 + 1) / 2 = M by omega]
 exact h3
theorem yv (os bs : List Int) (p : Int) (k : Nat) : kn os bs p (2 * k + 1) = itn os (k + 1) p := by
 unfold kn
 rw [if_pos (by omega), show (2 * k + 1 + 1) / 2 = k + 1 by omega]
theorem vv (os bs : List Int) (p : Int) (k : Nat) : kn os bs p (2 * k) = itn bs k p := by
 unfold kn
 rw [if_neg (by omega), show 2 * k / 2 = k by omega]
noncomputable def btL (os bs : List Int) (k : Nat) : List Int := (List.range k).map fun (i : Nat) => ((bth os bs (i : Int) : Nat) : Int)
theorem YQ (os bs : List Int) (k : Nat) : btL os bs (k + 1) = btL os bs k ++ [((bth os bs (k : Int) : Nat) : Int)] := by
 unfold btL; rw [List.range_succ, List.map_append]; rfl
theorem xT (os bs : List Int) (k : Nat) : (btL os bs k).length = k := by simp [btL]
theorem w8 (os bs : List Int) {k i : Nat} (h : i < k) : (btL os bs k).getD i 0 = ((bth os bs (i : Int) : Nat) : Int) := by
 rw [zB (by rw [xT]; exact h)]
 simp [btL]
theorem zJ.same {n : Nat} {os bs cs : List Int} (ho : zf n os) (h : zJ os bs) (h' : zJ os cs) : cs = bs := zJ.unique ho h (h'.ord ho).1 (h'.right ho)
theorem Ql {K : PySem.W.Frag} {a : Addr} {xs : List V} {g : TG} {tb : TS} {D : jP} {σ : St} {H0 H : Hp} (hq : SqL K H0 a xs \/ SqT K H0 a xs) (Pv : Nat -> St -> Hp -> Prop) (h0 : Pv 0 σ H) (hl : ∀ i σ H', Pv i σ H' -> Kp [] H0 H')
  (hs : ∀ i x p σ H, xs[i]? = some x -> H p = none -> Pv i σ H -> g (.ref p) σ (upd H p (.tup [.int i, x])) fun σ2 H2 => tb { D with nx := Pv (i + 1), ct := Pv (i + 1), bk := D.nx } σ2 H2) (hd : ∀ σ H, Pv xs.length σ H -> D.nx σ H) :
  ((∃ xs, SqL K H a xs) /\ QJ (Ite K a) g tb D σ H) \/ ((∃ xs, SqT K H a xs) /\ QJ (Wl K a) g tb D σ H) := by
 rcases hq with hq | hq
 ·exact .inl ⟨⟨_, ww hq (hl 0 σ H h0)⟩, QX Pv h0 (fun i σ H' _ p => ww hq (hl i σ H' p)) hs hd⟩
 ·refine .inr ⟨⟨_, vF hq (hl 0 σ H h0)⟩, fun i m σ H => m = xs.length - i /\ i <= xs.length /\ Pv i σ H, ⟨xs.length, by simp, Nat.zero_le _, h0⟩, ?_⟩
  rintro i m σ H' ⟨rfl, hi, p⟩
  have q := vF hq (hl i σ H' p)
  by_cases hlt : i < xs.length
  ·refine .inr ⟨⟨xs, xs[i], q, by simp [hlt]⟩, Pv (i + 1), fun σ' H' p' => ⟨xs.length - (i + 1), by omega, rfl, hlt, p'⟩, fun x H' y => ?_⟩
   obtain ⟨pp, x', hp, rfl, y, rfl⟩ := y
   exact hs i x' pp σ _ (y xs q) hp p
  ·have e : i = xs.length := by omega
   subst e
   exact .inl ⟨⟨xs, q, Nat.le_refl _⟩, hd σ H' p⟩
def ME (t : TE) : Prop := ∀ σ H Q Q', (∀ v H1, Q v H1 -> Q' v H1) -> t σ H Q -> t σ H Q'
def MT (t : TT) : Prop := ∀ σ H Q Q', (∀ v H1, Q v H1 -> Q' v H1) -> t σ H Q -> t σ H Q'
def MR (r : R2) : Prop := ∀ x y H Q Q', (∀ z H1, Q z H1 -> Q' z H1) -> r x y H Q -> r x y H Q'
theorem X9 {i : Nat} : ME (v8 i) := fun _ _ _ _ hq ⟨v, e, h⟩ => ⟨v, e, hq _ _ h⟩
theorem B6 {r : R2} {ta tb : TE} (hr : MR r) (ha : ME ta) (hb : ME tb) : ME (tOp r ta tb) := fun _ _ _ _ hq h => ha _ _ _ _ (fun _ _ h1 => hb _ _ _ _ (fun _ _ h2 => hr _ _ _ _ _ hq h2) h1) h
theorem Vi {t : TE} (h : ME t) : MT (yf t) := fun _ _ _ _ hq q => h _ _ _ _ (fun _ _ ⟨k, e, z⟩ => ⟨k, e, hq _ _ z⟩) q
end L2
set_option Elab.async false
set_option linter.all false
set_option maxRecDepth 100000
set_option maxHeartbeats 4000000
namespace L2
open PySem PySem.Spec PyProof.Rows
theorem yl {p : Nat -> Prop} : ∀ n, p n -> ∃ m, p m /\ ∀ j, j < m -> ¬ p j := by
 intro n
 induction n using Nat.strongRecOn with
 | _ n ih =>
  intro h
  by_cases hx : ∃ j, j < n /\ p j
  ·obtain ⟨j, hj, pj⟩ := hx
   exact ih j hj pj
  ·exact ⟨n, h, fun j hj pj => hx ⟨j, hj, pj⟩⟩
def jj (os : List Int) (p : Int) (m : Nat) : Prop := 1 <= m /\ itn os m p = p /\ ∀ j, 1 <= j -> j < m -> itn os j p ≠ p
theorem jj.uniq {os : List Int} {p : Int} {m m' : Nat} (h : jj os p m) (h' : jj os p m') : m = m' := by
 obtain ⟨a1, a3, a4⟩ := h
 obtain ⟨b1, b3, b4⟩ := h'
 rcases Nat.lt_trichotomy m m' with z | z | z
 ·exact absurd a3 (b4 m a1 z)
 ·exact z
 ·exact absurd b3 (a4 m' b1 z)
theorem jY {n : Nat} {os : List Int} (h : zf n os) {p : Int} (p0 : 0 <= p) (p1 : p < n) : ∃ m, jj os p m /\ m <= n := by
 obtain ⟨M, h1, h2, h3⟩ := kN h p0 p1
 obtain ⟨m, ⟨m1, m2⟩, m3⟩ := yl (p := fun k => 1 <= k /\ itn os k p = p) M ⟨h1, h3⟩
 refine ⟨m, ⟨m1, m2, fun j j1 jm e => m3 j jm ⟨j1, e⟩⟩, ?_⟩
 rcases Nat.lt_or_ge M m with z | z
 ·exact absurd ⟨h1, h3⟩ (m3 M z)
 ·omega
open Classical in
noncomputable def per (os : List Int) (p : Int) : Nat := if h : ∃ m, jj os p m then Classical.choose h else 0
theorem jj.per {os : List Int} {p : Int} {m : Nat} (h : jj os p m) : per os p = m := by
 have hx : ∃ m, jj os p m := ⟨m, h⟩
 unfold L2.per
 rw [dif_pos hx]
 exact (Classical.choose_spec hx).uniq h
def itl (os : List Int) (p : Int) (k : Nat) : List Int := (List.range k).map fun i => itn os i p
theorem K6 (os : List Int) (p : Int) (k : Nat) : itl os p (k + 1) = itl os p k ++ [itn os k p] := by
 unfold itl; rw [List.range_succ, List.map_append]; rfl
theorem qk (os : List Int) (p : Int) (k : Nat) : (itl os p k).length = k := by simp [itl]
theorem qT {os : List Int} {p : Int} {k : Nat} {x : Int} : x ∈ itl os p k ↔ ∃ i, i < k /\ itn os i p = x := by
 unfold itl
 rw [List.mem_map]
 constructor
 ·rintro ⟨i, hi, e⟩
  exact ⟨i, by simpa using hi, e⟩
 ·rintro ⟨i, hi, e⟩
  exact ⟨i, by simpa using hi, e⟩
noncomputable def zn (os : List Int) (p : Int) : List Int := itl os p (per os p)
def Rch (os : List Int) (q x : Int) : Prop := ∃ k, itn os k q = x
theorem Rch.refl {os : List Int} {p : Int} : Rch os p p := ⟨0, rfl⟩
theorem Rch.trans {os : List Int} {p q r : Int} (a : Rch os p q) (b : Rch os q r) : Rch os p r := by
 obtain ⟨i, rfl⟩ := a
 obtain ⟨j, rfl⟩ := b
 exact ⟨j + i, ji os p i j⟩
theorem vD {os : List Int} {p : Int} {m : Nat} (h : itn os m p = p) : ∀ k, itn os (k * m) p = p
 | 0 => by rw [Nat.zero_mul]; rfl
 | k + 1 => by rw [Nat.succ_mul, Nat.add_comm, ji, vD h k, h]
theorem Vu {os : List Int} {p : Int} {m : Nat} (h : itn os m p = p) (k : Nat) : itn os k p = itn os (k % m) p := by
 have e : k = k % m + (k / m) * m := by rw [Nat.mul_comm]; exact (Nat.mod_add_div k m).symm
 conv => lhs; rw [e]
 rw [ji, vD h]
theorem Rch.symm {n : Nat} {os : List Int} (h : zf n os) {p q : Int} (p0 : 0 <= p) (p1 : p < n) (a : Rch os p q) : Rch os q p := by
 obtain ⟨k, rfl⟩ := a
 obtain ⟨M, h1, _, h3⟩ := kN h p0 p1
 refine ⟨(k + 1) * M - k, ?_⟩
 have hle : k <= (k + 1) * M := Nat.le_trans (Nat.le_succ k) (Nat.le_mul_of_pos_right _ h1)
 rw [<- ji, Nat.sub_add_cancel hle, vD h3]
theorem Rch.mem_ring {os : List Int} {p x : Int} {m : Nat} (h : jj os p m) : Rch os p x ↔ x ∈ itl os p m := by
 rw [qT]
 constructor
 ·rintro ⟨k, rfl⟩
  exact ⟨k % m, Nat.mod_lt _ h.1, (Vu h.2.1 k).symm⟩
 ·rintro ⟨i, _, e⟩
  exact ⟨i, e⟩
def qx (os : List Int) (p : Nat) : Prop := ∀ q : Nat, q < p -> ¬ Rch os (q : Int) (p : Int)
open Classical in
noncomputable def zG (os : List Int) : Nat -> List (List Int)
 | 0 => []
 | i + 1 => zG os i ++ if qx os i /\ 1 < per os (i : Int) then [zn os (i : Int)] else []
def qr (os : List Int) (i : Nat) (x : Int) : Prop := ∃ q : Nat, q < i /\ Rch os (q : Int) x
theorem qr.succ {os : List Int} {i : Nat} {x : Int} : qr os (i + 1) x ↔ qr os i x \/ Rch os (i : Int) x := by
 constructor
 ·rintro ⟨q, hq, r⟩
  by_cases e : q = i
  ·subst e; exact .inr r
  ·exact .inl ⟨q, by omega, r⟩
 ·rintro (⟨q, hq, r⟩ | r)
  ·exact ⟨q, by omega, r⟩
  ·exact ⟨i, by omega, r⟩
theorem jd {os : List Int} {i : Nat} : qx os i ↔ ¬ qr os i (i : Int) := by
 constructor
 ·rintro h ⟨q, hq, r⟩; exact h q hq r
 ·intro h q hq r; exact h ⟨q, hq, r⟩
theorem qr.step {n : Nat} {os : List Int} (h : zf n os) {i : Nat} (hi : i < n) (hs : qr os i (i : Int)) {x : Int} : qr os (i + 1) x ↔ qr os i x := by
 rw [qr.succ]
 constructor
 ·rintro (z | z)
  ·exact z
  ·obtain ⟨q, hq, r⟩ := hs
   exact ⟨q, hq, r.trans z⟩
 ·exact .inl
theorem qr.apart {n : Nat} {os : List Int} (h : zf n os) {i : Nat} (hi : i < n) (hs : ¬ qr os i (i : Int)) {x : Int} (r : Rch os (i : Int) x) : ¬ qr os i x := by
 rintro ⟨q, hq, rq⟩
 exact hs ⟨q, hq, rq.trans (r.symm h (by omega) (by omega))⟩
theorem qV (os : List Int) : ∀ i, (zG os i).length <= i
 | 0 => Nat.le_refl _
 | i + 1 => by
  unfold zG
  rw [List.length_append]
  have := qV os i
  split <;> simp <;> omega
theorem jC {n : Nat} {os : List Int} (h : zf n os) {r : List Int} : ∀ {i : Nat}, i <= n -> r ∈ zG os i -> 1 < r.length /\ r.length <= n
 | 0, _, hr => by simp [zG] at hr
 | i + 1, hi, hr => by
  unfold zG at hr
  rcases List.mem_append.mp hr with z | z
  ·exact jC h (by omega) z
  ·by_cases c : qx os i /\ 1 < per os (i : Int)
   ·rw [if_pos c] at z
    rw [List.mem_singleton.mp z]
    obtain ⟨m, hm, hle⟩ := jY h (p := (i : Int)) (by omega) (by omega)
    unfold zn
    rw [qk]
    have := hm.per
    omega
   ·rw [if_neg c] at z; cases z
theorem Jz (n : Nat) {p : Int} (p0 : 0 <= p) (p1 : p < n) : itn (zR 0 1 n) 1 p = p := by
 show (zR 0 1 n).getD p.toNat 0 = p
 rw [qf n (by omega)]
 omega
end L2
set_option Elab.async false
set_option linter.all false
set_option maxRecDepth 100000
set_option maxHeartbeats 4000000
namespace L2
open PySem PySem.Spec PyProof.Rows
def Mkd (os : List Int) (mk : Nat) : Nat -> Int -> Prop
 | 0, _ => False
 | i + 1, x => Mkd os mk i x \/ (¬ Mkd os mk i (i : Int) /\ wkE os (i : Int) = (i : Int) /\ Rch os (i : Int) x /\ x < (mk : Int))
theorem Mkd.lt {os : List Int} {mk : Nat} {x : Int} : ∀ {i : Nat}, Mkd os mk i x -> x < (mk : Int)
 | 0, h => h.elim
 | i + 1, h => by
  rcases h with h | h
  ·exact Mkd.lt h
  ·exact h.2.2.2
open Classical in
noncomputable def cnt (os : List Int) (mk : Nat) (i : Nat) : Int := if Mkd os mk i (i : Int) then 0 else ((wkM os (i : Int) : Nat) : Int)
noncomputable def qy (os : List Int) (mk k : Nat) : List Int := (List.range k).map fun (i : Nat) => cnt os mk i
theorem jw (os : List Int) (mk k : Nat) : qy os mk (k + 1) = qy os mk k ++ [cnt os mk k] := by
 unfold qy; rw [List.range_succ, List.map_append]; rfl
theorem qX (os : List Int) (mk k : Nat) : (qy os mk k).length = k := by simp [qy]
theorem xN {n : Nat} {os : List Int} (h : zf n os) {p : Int} (p0 : 0 <= p) (p1 : p < n) : ∃ m e, qv os p m e /\ m <= n := by
 obtain ⟨M, h1, h2, h3⟩ := kN h p0 p1
 obtain ⟨m, ⟨m1, m2⟩, m3⟩ := yl (p := fun k => 1 <= k /\ itn os k p <= p) M ⟨h1, by omega⟩
 refine ⟨m, _, ⟨m1, rfl, m2, fun j j1 jm => ?_⟩, ?_⟩
 ·have := m3 j jm
  rcases (show p < itn os j p \/ itn os j p <= p by omega) with z | z
  ·exact z
  ·exact absurd ⟨j1, z⟩ this
 ·rcases Nat.lt_or_ge M m with z | z
  ·exact absurd ⟨h1, by omega⟩ (m3 M z)
  ·omega
theorem qv.per {os : List Int} {p : Int} {m : Nat} {e : Int} (h : qv os p m e) (he : e = p) : jj os p m :=
 ⟨h.1, by rw [<- h.2.1]; exact he, fun j j1 jm z => by have := h.2.2.2 j j1 jm; omega⟩
end L2
set_option Elab.async false
set_option linter.all false
set_option maxRecDepth 100000
set_option maxHeartbeats 4000000
namespace L2
open PySem PySem.Spec PyProof.Rows
def iLT (K : PySem.W.Frag) (tl : TE) : TI := fun σ H R => tl σ H fun x H1 => ∃ a, x = .ref a /\ (((∃ xs, SqL K H1 a xs) /\ R (Itl K a) H1) \/ ((∃ xs, SqT K H1 a xs) /\ R (Itt K a) H1))
theorem ya {X : Cx} {tg : Expr} {l : Expr} {tl : TE} (hl : PE X l tl) : PI X tg l (iLT X.K tl) := by
 intro pins s σ H R I h
 refine thn (hl pins s σ H _ I h) fun v s1 ⟨x, H1, I1, r1, q1⟩ => ?_
 obtain ⟨a, e, q⟩ := q1
 subst e
 cases r1
 have fo : ∀ b ∈ [s1.heap.objs.size], xK X pins H1 b := fun b hb => by
  have e : b = s1.heap.objs.size := by simpa using hb
  subst e
  exact I1.fpOk (Nat.le_refl _) (I1.hok.fresh (Nat.le_refl _))
 rcases q with ⟨⟨xs, hq⟩, q⟩ | ⟨⟨xs, hq⟩, q⟩
 ·obtain ⟨its, rv, p, hz⟩ := I1.list hq
  refine wpAny_pyIter_list p.isList ?_
  exact ⟨s1.heap.objs.size, [s1.heap.objs.size], _, _, H1, rfl, I1.kept (t' := s1.toks) fun b o e => Heap.get?_push_of_some _ e, yR a _, ⟨_, Heap.get?_push_size _ rfl, rfl, rfl⟩, fo, q⟩
 ·obtain ⟨its, rv, p, hz⟩ := I1.tuple hq
  refine wpAny_pyIter_tuple (show s1.heap.IsTuple a its.toArray from p) ?_
  exact ⟨s1.heap.objs.size, [s1.heap.objs.size], _, _, H1, rfl, I1.kept (t' := s1.toks) fun b o e => Heap.get?_push_of_some _ e, Qj a _, ⟨_, Heap.get?_push_size _ rfl, rfl, rfl⟩, fo, q⟩
theorem Vk {n : Nat} {b : List Int} (hb : zf n b) {i : Nat} (hi : i < n) : ∀ k, (pwl n b k).getD i 0 = itn b k (i : Int)
 | 0 => qf n hi
 | k + 1 => by
  show (aft (pwl n b k) b).getD i 0 = nxt b (itn b k (i : Int))
  rw [ju b (by rw [(Jl hb k).1]; exact hi), Vk hb hi k]
  rfl
theorem Zy {n : Nat} {os bs : List Int} (ho : zf n os) (h : zJ os bs) {x : Int} (x0 : 0 <= x) (x1 : x < n) : nxt os (nxt bs x) = x := by
 obtain ⟨i, hi, e1, e2⟩ := zJ.at ho h (j := x.toNat) (by omega)
 show os.getD (bs.getD x.toNat 0).toNat 0 = x
 rw [e2, Int.toNat_natCast, e1]
 omega
theorem yq {n : Nat} {os bs : List Int} (ho : zf n os) (h : zJ os bs) {x : Int} (x0 : 0 <= x) (x1 : x < n) : ∀ m, itn os m (itn bs m x) = x
 | 0 => rfl
 | m + 1 => by
  have hb := zW (h.ord ho) x0 x1 m
  rw [ji os _ 1 m]
  show itn os m (nxt os (nxt bs (itn bs m x))) = x
  rw [Zy ho h hb.1 hb.2]
  exact yq ho h x0 x1 m
end L2
set_option Elab.async false
set_option linter.all false
set_option maxRecDepth 100000
set_option maxHeartbeats 4000000
namespace L2
open PySem PySem.Spec PyProof.Rows
open Classical in
theorem Vr {n : Nat} {os : List Int} (h : zf n os) : ∃ bs, zJ os bs := by
 refine ⟨(List.range n).map fun (j : Nat) => if hx : ∃ i : Nat, i < n /\ os.getD i 0 = (j : Int) then ((Classical.choose hx : Nat) : Int) else 0, ?_, fun i hi => ?_⟩
 ·rw [List.length_map, List.length_range, h.1]
 ·have hi' : i < n := by rw [<- h.1]; exact hi
  have hb := h.getD hi'
  have hl : (os.getD i 0).toNat < n := by omega
  rw [zB (by rw [List.length_map, List.length_range]; exact hl), List.getElem_map, List.getElem_range]
  have hx : ∃ i' : Nat, i' < n /\ os.getD i' 0 = (((os.getD i 0).toNat : Nat) : Int) := ⟨i, hi', by omega⟩
  rw [dif_pos hx]
  obtain ⟨c1, c2⟩ := Classical.choose_spec hx
  have : Classical.choose hx = i := h.inj c1 hi' (by rw [c2]; omega)
  omega
end L2
set_option Elab.async false
set_option linter.all false
set_option maxRecDepth 100000
set_option maxHeartbeats 4000000
namespace L2
open PySem PySem.Spec PyProof.Rows
section
variable {X : Cx}
theorem QP : bootBuiltins "sum" = some (.builtin "sum") := by decide +kernel
theorem yj : ∀ {ns : List Int} {us : List Value}, zC (ns.map V.int) us -> ∃ ps : List (Int × Tok), us = ps.map (fun p => Value.int p.1 p.2) /\ ps.map (·.1) = ns
 | [], _, h => by cases h; exact ⟨[], rfl, rfl⟩
 | n :: ns, _, h => by
  cases h with
  | cons r rs =>
   obtain ⟨ps, e1, e2⟩ := yj rs
   obtain ⟨t, rfl⟩ := r
   exact ⟨(n, t) :: ps, by rw [e1]; rfl, by rw [<- e2]; rfl⟩
theorem KU {ps : List (Int × Tok)} {i : Nat} (h : i < ps.length) : numAt ps.toArray i = (ps.map (·.1)).getD i 0 := by
 unfold numAt
 rw [List.getD_eq_getElem?_getD, List.getElem?_map, List.getElem?_toArray]
theorem vB {ps : List (Int × Tok)} : ∀ k, k <= ps.length -> preSum (numAt ps.toArray) k = ((ps.map (·.1)).take k).sum
 | 0, _ => rfl
 | k + 1, h => by
  show preSum (numAt ps.toArray) k + numAt ps.toArray k = _
  rw [vB k (by omega), KU (by omega)]
  have hk : k < (ps.map (·.1)).length := by rw [List.length_map]; omega
  rw [zB hk, <- List.take_append_getElem hk, List.sum_append]
  simp
theorem XR : ∀ {ns : List Int}, (∀ x ∈ ns, 0 <= x /\ x <= (1000000 : Int)) -> 0 <= ns.sum /\ ns.sum <= 1000000 * (ns.length : Int)
 | [], _ => by simp
 | n :: ns, h => by
  have h1 := h n (by simp)
  have h2 := XR (ns := ns) fun x hx => h x (by simp [hx])
  rw [List.sum_cons, List.length_cons]
  omega
theorem xl (hc : X.calm = true) : qD X (.builtin "sum") (fun xs H Q => ∃ p ns, xs = [.ref p] /\ SqL X.K H p (List.map V.int ns) /\ (∀ x ∈ ns, 0 <= x /\ x <= (1000000 : Int)) /\ ns.length <= 100000 /\ Q (.int ns.sum) H) := by
  intro pins s σ H xs us Q I r h
  obtain ⟨p, ns, rfl, hq, hb, hl, q⟩ := h
  obtain ⟨u, rfl, rx⟩ := jS r
  cases rx
  obtain ⟨its, rv, pl, hz⟩ := I.list hq
  obtain ⟨ps, rfl, rfl⟩ := yj rv
  rw [List.length_map] at hl
  have hL : s.heap.IsList p (intItems ps.toArray) := by
    have := pl.isList
    unfold intItems
    simpa using this
  refine sum_intList (I.ok.hd hc) hL (fun j hj => ?_) fun h' tk t' hk => ?_
  · have hj' : j < ps.length := by simpa using hj
    rw [KU hj', vB (j + 1) (by omega)]
    have hjm : j < (ps.map (·.1)).length := by rw [List.length_map]; exact hj'
    have b1 := hb ((ps.map (·.1)).getD j 0) (by rw [zB hjm]; exact List.getElem_mem hjm)
    have b2 := XR (ns := (ps.map (·.1)).take (j + 1)) fun x hx => hb x (List.mem_of_mem_take hx)
    rw [List.length_take, List.length_map] at b2
    constructor
    · constructor <;> omega
    · constructor <;> omega
  · have es : preSum (numAt ps.toArray) ps.toArray.size = (ps.map (·.1)).sum := by
      rw [List.size_toArray, vB _ (Nat.le_refl _), List.take_of_length_le (by rw [List.length_map]; exact Nat.le_refl _)]
    rw [es]
    exact ⟨.int (ps.map (·.1)).sum, H, I.turnedL (ch := []) (tk := tk) (fun b hb => nomatch hb) (fun b o _ eb => hk b o eb), ⟨t', rfl⟩, q⟩
end
theorem Wh {K : PySem.W.Frag} {a : Addr} {xs : List V} {g : TG} {tt : TT} {te : TE} {Q : VK} {τ : St} {H1 : Hp} (hq : SqL K H1 a xs \/ SqT K H1 a xs)
  (h : ∀ D, H1 D = none -> ∃ Pv : Nat -> St -> Hp -> Prop, Pv 0 τ (upd H1 D (.lst [])) /\ (∀ i τ H', Pv i τ H' -> Kp [] H1 H') /\
   (∀ i x p τ H, xs[i]? = some x -> H p = none -> Pv i τ H -> g (.ref p) τ (upd H p (.tup [.int i, x])) fun τ2 H3 => tt τ2 H3 fun b H4 => if b = true then te τ2 H4 fun v H5 => ∃ ys, H5 D = some (.lst ys) /\ ys.length < sizeLine /\ Pv (i + 1) τ2 (upd H5 D (.lst (ys ++ [v]))) else Pv (i + 1) τ2 H4) /\
   (∀ τ H, Pv xs.length τ H -> Q (.ref D) H)) :
  ((∃ xs, SqL K H1 a xs) /\ ∀ D, H1 D = none -> wM (Ite K a) g tt te D Q τ (upd H1 D (.lst []))) \/ ((∃ xs, SqT K H1 a xs) /\ ∀ D, H1 D = none -> wM (Wl K a) g tt te D Q τ (upd H1 D (.lst []))) := by
 rcases hq with hq | hq
 ·refine .inl ⟨⟨_, hq⟩, fun D hD => ?_⟩
  obtain ⟨Pv, h0, hl, hs, hd⟩ := h D hD
  exact Wi Pv h0 (fun i τ H' _ p => ww hq (hl i τ H' p)) hs hd
 ·refine .inr ⟨⟨_, hq⟩, fun D hD => ?_⟩
  obtain ⟨Pv, h0, hl, hs, hd⟩ := h D hD
  refine ⟨fun i m τ H => m = xs.length - i /\ i <= xs.length /\ Pv i τ H, ⟨xs.length, by simp, Nat.zero_le _, h0⟩, ?_⟩
  rintro i m τ H ⟨rfl, hi, p⟩
  have q := vF hq (hl i τ H p)
  by_cases hlt : i < xs.length
  ·refine .inr ⟨⟨xs, xs[i], q, by simp [hlt]⟩, Pv (i + 1), fun σ' H' p' => ⟨xs.length - (i + 1), by omega, rfl, hlt, p'⟩, fun x H' y => ?_⟩
   obtain ⟨pp, x', hp, rfl, y, rfl⟩ := y
   exact hs i x' pp τ _ (y xs q) hp p
  ·have e : i = xs.length := by omega
   subst e
   exact .inl ⟨⟨xs, q, Nat.le_refl _⟩, hd τ H p⟩
end L2
set_option Elab.async false
set_option linter.all false
set_option maxRecDepth 100000
set_option maxHeartbeats 4000000
namespace L2
open PySem PySem.Spec PyProof.Rows
section
variable {X : Cx}
end
end L2
set_option Elab.async false
set_option linter.all false
set_option maxRecDepth 100000
set_option maxHeartbeats 4000000
namespace L2
open PySem PySem.Spec PyProof.Rows
end L2
set_option Elab.async false
set_option linter.all false
set_option maxRecDepth 100000
set_option maxHeartbeats 4000000
namespace L2
open PySem PySem.Spec PyProof.Rows
section
variable {prog : Program} {w : World} {A : Around} {R : Result -> Shared -> Prop} {s : Shared}
end
def CL (J : It) (g : TG) (tt : TT) (tr : St -> Hp -> (St -> Hp -> Prop) -> Prop) (N : St -> Hp -> Prop) (σ : St) (H : Hp) : Prop := ∃ W : Nat -> Nat -> St -> Hp -> Prop, (∃ m, W 0 m σ H) /\ ∀ i m τ H2, W i m τ H2 ->
 (J.stop i H2 /\ N τ H2) \/ (J.go i H2 /\ ∃ N1 : St -> Hp -> Prop, (∀ τ' H', N1 τ' H' -> ∃ m', m' < m /\ W (i + 1) m' τ' H') /\ ∀ x H', J.yld i H2 x H' -> g x τ H' fun τ2 H3 => tt τ2 H3 fun b H4 =>
  if b = true then tr τ2 H4 N1 else N1 τ2 H4)
abbrev TR := St -> Hp -> (St -> Hp -> Prop) -> Prop
def Z0 (te : TE) (D : Addr) : TR := fun σ H N => te σ H fun v H5 => ∃ ys, H5 D = some (.lst ys) /\ ys.length < sizeLine /\ N σ (upd H5 D (.lst (ys ++ [v])))
def B0 (wi : TI) (g : TG) (tt : TT) (tr : Addr -> TR) (D : Addr) : TR := fun σ H N => wi σ H fun J H1 => CL J g tt (tr D) N σ H1
section
variable {C : Cx} {elt tg iter : Expr} {ifs : List Expr} {gens : List Comprehension} {scope : Scope} {pos : Pos} {d : Nat} {D : Addr} {g : TG} {tt : TT} {te : TE} {tr : TR}
end
def Yx (ts : List Nat) (wi : TI) (g : TG) (tt : TT) (tr : Addr -> TR) : TE := fun σ H Q => wi σ H fun J H1 => ∀ D, H1 D = none -> CL J g tt (tr D) (fun _ H2 => Q (.ref D) H2) (clr ts σ) (upd H1 D (.lst []))
section
variable {X : Cx} {ts : List Nat} {scope : Scope} {tg iter elt : Expr} {ifs : List Expr} {ku : List Comprehension} {wi : TI} {g : TG} {tt : TT} {tr : Addr -> TR} {pos : Pos}
end
theorem JO {ts : List Nat} {wi : TI} {g : TG} {tt : TT} {tr : Addr -> TR} {σ : St} {H : Hp} {Q : VK} :
  Yx ts wi g tt tr σ H Q = wi σ H (fun J H1 => ∀ D, H1 D = none -> CL J g tt (tr D) (fun _ H2 => Q (.ref D) H2) (clr ts σ) (upd H1 D (.lst []))) := rfl
theorem Ks {wi : TI} {g : TG} {tt : TT} {tr : Addr -> TR} {D : Addr} {σ : St} {H : Hp} {N : St -> Hp -> Prop} : B0 wi g tt tr D σ H N = wi σ H (fun J H1 => CL J g tt (tr D) N σ H1) := rfl
theorem J0 {te : TE} {D : Addr} {σ : St} {H : Hp} {N : St -> Hp -> Prop} : Z0 te D σ H N = te σ H (fun v H5 => ∃ ys, H5 D = some (.lst ys) /\ ys.length < sizeLine /\ N σ (upd H5 D (.lst (ys ++ [v])))) := rfl
end L2
set_option Elab.async false
set_option linter.all false
set_option maxRecDepth 100000
set_option maxHeartbeats 4000000
namespace L2
open PySem PySem.Spec PyProof.Rows
section
variable {P : Program} {w : World} {A : Around} {E : Value -> Shared -> Prop} {it l : Addr} {items : Array Value}
end
section
variable {X : Cx} {pos : Pos}
end
end L2
set_option Elab.async false
set_option linter.all false
set_option maxRecDepth 100000
set_option maxHeartbeats 4000000
namespace L2
open PySem PySem.Spec PyProof.Rows
def rep (o : Nat) (G : List Int) : List Int := (List.range (o * G.length)).map fun (i : Nat) => ((i / G.length * G.length : Nat) : Int) + G.getD (i % G.length) 0
end L2
set_option Elab.async false
set_option linter.all false
set_option maxRecDepth 100000
set_option maxHeartbeats 4000000
namespace L2
open PySem PySem.Spec PyProof.Rows
section
variable {P : Program} {w : World} {A : Around} {E : Value -> Shared -> Prop} {s : Shared} {z TI TO i1 i2 l1 l2 : Addr} {k : Nat} {xs ys : Array Value} {x y a b : Value} {Q : Option Value -> Shared -> Prop}
end
open AutoSeq1 (wpAny_loadPart') in
section
variable {X : Cx} {es : List Expr} {kt : Nat} {tp : Pos}
end
end L2
set_option Elab.async false
set_option linter.all false
set_option maxRecDepth 100000
set_option maxHeartbeats 4000000
namespace L2
open PySem PySem.Spec PyProof.Rows
section
variable {X : Cx} {e st : Expr} {te : TE} {lo hi : Option Expr} {tl th ts : TO} {p2 pos : Pos}
end
end L2
set_option Elab.async false
set_option linter.all false
set_option maxRecDepth 100000
set_option maxHeartbeats 4000000
namespace L2
open PySem PySem.Spec PyProof.Rows
theorem j4 {α : Type} (p q : α -> Bool) : ∀ (l : List α), (∀ x ∈ l, ¬ (p x = true /\ q x = true)) -> l.countP (fun x => p x || q x) = l.countP p + l.countP q
 | [], _ => rfl
 | x :: l, h => by
  have ih := j4 p q l fun y hy => h y (by simp [hy])
  have hx := h x (by simp)
  rw [List.countP_cons, List.countP_cons, List.countP_cons, ih]
  cases hp : p x <;> cases hq : q x
  ·simp
  ·simp; omega
  ·simp; omega
  ·exact absurd ⟨hp, hq⟩ hx
theorem QS (n y : Nat) (h : y < n) : (List.range n).countP (fun x => decide (x = y)) = 1 := by
 induction n with
 | zero => omega
 | succ n ih =>
  rw [List.range_succ, List.countP_append]
  by_cases e : y = n
  ·subst e
   have : (List.range y).countP (fun x => decide (x = y)) = 0 := by
    rw [List.countP_eq_zero]
    intro x hx
    have : x < y := by simpa using hx
    simp; omega
   rw [this]; simp
  ·rw [ih (by omega)]
   have : ¬ n = y := fun z => e z.symm
   simp [this]
theorem xY (n : Nat) : ∀ (R : List Nat), R.Nodup -> (∀ x ∈ R, x < n) -> (List.range n).countP (fun x => decide (x ∈ R)) = R.length
 | [], _, _ => by simp
 | y :: R, nd, hb => by
  have hy := List.nodup_cons.mp nd
  have e : (fun x => decide (x ∈ y :: R)) = fun x => decide (x = y) || decide (x ∈ R) := by
   funext x
   rw [Bool.eq_iff_iff]
   simp
  rw [e, j4, QS n y (hb y (by simp)), xY n R hy.2 fun x hx => hb x (by simp [hx]), List.length_cons, Nat.add_comm]
  intro x _ ⟨h1, h2⟩
  have h1' : x = y := by simpa using h1
  subst h1'
  exact hy.1 (by simpa using h2)
theorem wg {n : Nat} {os : List Int} (h : zf n os) {i : Nat} (hi : i < n) : 1 < per os (i : Int) ↔ ¬ os.getD i 0 = (i : Int) := by
 obtain ⟨M, hM, hMn⟩ := jY h (p := (i : Int)) (by omega) (by omega)
 rw [hM.per]
 have e1 : itn os 1 (i : Int) = os.getD i 0 := by
  show os.getD ((i : Int)).toNat 0 = _
  rw [Int.toNat_natCast]
 constructor
 ·intro z e
  exact hM.2.2 1 (Nat.le_refl _) z (by rw [e1, e])
 ·intro z
  rcases Nat.lt_or_ge 1 M with y | y
  ·exact y
  ·have : M = 1 := by have := hM.1; omega
   rw [this] at hM
   exact absurd (by rw [<- e1, hM.2.1]) z
theorem Kw {n : Nat} {os : List Int} (h : zf n os) {p : Int} (p0 : 0 <= p) (p1 : p < n) {M : Nat} (hM : jj os p M) : (itl os p M).Nodup := by
 rw [List.nodup_iff_pairwise_ne, List.pairwise_iff_getElem]
 intro i j hi hj hij e
 rw [qk] at hi hj
 have e' : itn os i p = itn os j p := by
  have e1 : (itl os p M)[i]'(by rw [qk]; exact hi) = itn os i p := by simp [itl]
  have e2 : (itl os p M)[j]'(by rw [qk]; exact hj) = itn os j p := by simp [itl]
  rw [<- e1, <- e2]; exact e
 have b := zW h p0 p1 (j - i)
 have e2 : itn os (j - i) p = p := by
  refine (wu h p0 p1 b.1 b.2 i ?_).symm
  rw [<- ji, show i + (j - i) = j by omega]
  exact e'
 exact hM.2.2 (j - i) (by omega) (by omega) e2
theorem QN {n : Nat} {os : List Int} (h : zf n os) {i x : Nat} (hi : i < n) (hx : x < n) (hp : 1 < per os (i : Int)) (r : Rch os (i : Int) (x : Int)) : ¬ os.getD x 0 = (x : Int) := by
 intro e
 have r2 := r.symm h (by omega) (by omega)
 obtain ⟨k, hk⟩ := r2
 have hfix : ∀ k, itn os k (x : Int) = (x : Int) := by
  intro k
  induction k with
  | zero => rfl
  | succ k ih =>
   show nxt os (itn os k (x : Int)) = _
   rw [ih]
   show os.getD ((x : Int)).toNat 0 = _
   rw [Int.toNat_natCast, e]
 rw [hfix k] at hk
 have : x = i := by omega
 subst this
 exact (wg h hi).mp hp e
open Classical in
noncomputable def yM (os : List Int) (n i : Nat) : Nat := (List.range n).countP fun (x : Nat) => decide (qr os i (x : Int) /\ ¬ os.getD x 0 = (x : Int))
def kx (rs : List (List Int)) : Nat := (rs.map List.length).sum
theorem ZD (a b : List (List Int)) : kx (a ++ b) = kx a + kx b := by unfold kx; rw [List.map_append, List.sum_append]
open Classical in
theorem yd {n : Nat} {os : List Int} (h : zf n os) : ∀ i, i <= n -> kx (zG os i) = yM os n i
 | 0, _ => by
  unfold yM
  have : (List.range n).countP (fun (x : Nat) => decide (qr os 0 (x : Int) /\ ¬ os.getD x 0 = (x : Int))) = 0 := by
   rw [List.countP_eq_zero]
   intro x _ hx
   have := (of_decide_eq_true hx).1
   obtain ⟨q, hq, _⟩ := this
   omega
  rw [this]; rfl
 | i + 1, hi => by
  have ih := yd h i (by omega)
  show kx (zG os i ++ _) = _
  rw [ZD, ih]
  obtain ⟨M, hM, hMn⟩ := jY h (p := (i : Int)) (by omega) (by omega)
  by_cases hL : qx os i
  ·have hns := jd.mp hL
   by_cases hp : 1 < per os (i : Int)
   ·rw [if_pos ⟨hL, hp⟩]
    have e : (fun x : Nat => decide (qr os (i + 1) (x : Int) /\ ¬ os.getD x 0 = (x : Int))) = fun x : Nat => decide (qr os i (x : Int) /\ ¬ os.getD x 0 = (x : Int)) || decide (Rch os (i : Int) (x : Int) /\ ¬ os.getD x 0 = (x : Int)) := by
     funext x
     rw [Bool.eq_iff_iff, Bool.or_eq_true, decide_eq_true_eq, decide_eq_true_eq, decide_eq_true_eq, qr.succ]
     constructor
     ·rintro ⟨a | a, b⟩
      ·exact .inl ⟨a, b⟩
      ·exact .inr ⟨a, b⟩
     ·rintro (⟨a, b⟩ | ⟨a, b⟩)
      ·exact ⟨.inl a, b⟩
      ·exact ⟨.inr a, b⟩
    unfold yM
    rw [e, j4]
    ·congr 1
     have e2 : (List.range n).countP (fun x : Nat => decide (Rch os (i : Int) (x : Int) /\ ¬ os.getD x 0 = (x : Int))) = (List.range n).countP (fun x : Nat => decide (x ∈ (itl os (i : Int) M).map Int.toNat)) := by
      refine List.countP_congr fun x hx => ?_
      have hx' : x < n := by simpa using hx
      rw [decide_eq_true_eq, decide_eq_true_eq, List.mem_map]
      constructor
      ·rintro ⟨r, _⟩
       exact ⟨(x : Int), (Rch.mem_ring hM).mp r, by simp⟩
      ·rintro ⟨y, hy, e⟩
       obtain ⟨k, hk, ek⟩ := qT.mp hy
       have b := zW h (p := (i : Int)) (by omega) (by omega) k
       have hyx : y = (x : Int) := by omega
       rw [hyx] at hy
       have r := (Rch.mem_ring hM).mpr hy
       exact ⟨r, QN h (by omega) hx' hp r⟩
     have hnd := Kw h (p := (i : Int)) (by omega) (by omega) hM
     rw [e2, xY]
     ·rw [List.length_map, qk]
      unfold kx zn
      rw [hM.per]
      simp [qk]
     ·rw [List.nodup_iff_pairwise_ne, List.pairwise_map]
      refine List.Pairwise.imp_of_mem (fun {a b} ha hb hab e => ?_) (List.nodup_iff_pairwise_ne.mp hnd)
      obtain ⟨k1, _, e1⟩ := qT.mp ha
      obtain ⟨k2, _, e2⟩ := qT.mp hb
      have b1 := zW h (p := (i : Int)) (by omega) (by omega) k1
      have b2 := zW h (p := (i : Int)) (by omega) (by omega) k2
      exact hab (by omega)
     ·intro x hx
      obtain ⟨y, hy, e⟩ := List.mem_map.mp hx
      obtain ⟨k, hk, ek⟩ := qT.mp hy
      have b := zW h (p := (i : Int)) (by omega) (by omega) k
      omega
    ·intro x _ ⟨h1, h2⟩
     exact qr.apart h (by omega) hns (of_decide_eq_true h2).1 (of_decide_eq_true h1).1
   ·rw [if_neg (fun z => hp z.2)]
    have e : yM os n (i + 1) = yM os n i := by
     unfold yM
     refine List.countP_congr fun x hx => ?_
     have hx' : x < n := by simpa using hx
     rw [decide_eq_true_eq, decide_eq_true_eq, qr.succ]
     have hfix : os.getD i 0 = (i : Int) := Classical.byContradiction fun z => hp ((wg h (by omega)).mpr z)
     constructor
     ·rintro ⟨a | a, b⟩
      ·exact ⟨a, b⟩
      ·exfalso
       obtain ⟨k, hk⟩ := a
       have hstay : ∀ k, itn os k (i : Int) = (i : Int) := by
        intro k
        induction k with
        | zero => rfl
        | succ k ih =>
         show nxt os (itn os k (i : Int)) = _
         rw [ih]
         show os.getD ((i : Int)).toNat 0 = _
         rw [Int.toNat_natCast, hfix]
       rw [hstay k] at hk
       have : i = x := by omega
       subst this
       exact b hfix
     ·rintro ⟨a, b⟩
      exact ⟨.inl a, b⟩
    rw [e]
    rfl
  ·rw [if_neg (fun z => hL z.1)]
   have hs : qr os i (i : Int) := Classical.byContradiction fun z => hL (jd.mpr z)
   have e : yM os n (i + 1) = yM os n i := by
    unfold yM
    refine List.countP_congr fun x hx => ?_
    rw [decide_eq_true_eq, decide_eq_true_eq, qr.step h (by omega) hs]
   rw [e]
   rfl
open Classical in
theorem Xe {n : Nat} {os : List Int} (h : zf n os) : kx (zG os n) = Qz os n := by
 rw [yd h n (Nat.le_refl n)]
 unfold yM Qz
 rw [List.countP_eq_length_filter]
 congr 1
 refine List.filter_congr fun x hx => ?_
 have hx' : x < n := by simpa using hx
 rw [Bool.eq_iff_iff]
 constructor
 ·intro z
  have := (of_decide_eq_true z).2
  simpa using this
 ·intro z
  have z' : ¬ os.getD x 0 = (x : Int) := by simpa using z
  exact decide_eq_true ⟨⟨x, hx', Rch.refl⟩, z'⟩
theorem zJ.symm {n : Nat} {os bs : List Int} (ho : zf n os) (h : zJ os bs) : zJ bs os := by
 refine ⟨h.1.symm, fun j hj => ?_⟩
 rw [h.1, ho.1] at hj
 have := Zy ho h (x := (j : Int)) (by omega) (by omega)
 have e : nxt os (nxt bs (j : Int)) = os.getD (bs.getD ((j : Int)).toNat 0).toNat 0 := rfl
 rw [e, Int.toNat_natCast] at this
 exact this
theorem yw {n : Nat} {os bs : List Int} (ho : zf n os) (h : zJ os bs) {p x : Int} (p0 : 0 <= p) (p1 : p < n) (r : Rch bs p x) : Rch os p x := by
 obtain ⟨k, rfl⟩ := r
 have b := zW (h.ord ho) p0 p1 k
 have r2 : Rch os (itn bs k p) p := ⟨k, yq ho h p0 p1 k⟩
 exact r2.symm ho b.1 b.2
theorem Km {n : Nat} {os bs : List Int} (ho : zf n os) (h : zJ os bs) {i : Nat} (hi : i < n) : qx bs i ↔ qx os i := by
 have hb := h.ord ho
 have hs := h.symm ho
 constructor
 ·intro z q hq r
  exact z q hq (yw hb hs (by omega) (by omega) r)
 ·intro z q hq r
  exact z q hq (yw ho h (by omega) (by omega) r)
theorem Va {n : Nat} {os bs : List Int} (ho : zf n os) (h : zJ os bs) {i : Nat} (hi : i < n) : bs.getD i 0 = (i : Int) ↔ os.getD i 0 = (i : Int) := by
 have h1 := h.2 i (by rw [ho.1]; exact hi)
 have h2 := (h.symm ho).2 i (by rw [h.1, ho.1]; exact hi)
 constructor
 ·intro e; rw [e, Int.toNat_natCast] at h2; exact h2
 ·intro e; rw [e, Int.toNat_natCast] at h1; exact h1
end L2
set_option Elab.async false
set_option linter.all false
set_option maxRecDepth 100000
set_option maxHeartbeats 4000000
namespace L2
open PySem PySem.Spec PyProof.Rows
end L2
set_option Elab.async false
set_option linter.all false
set_option maxRecDepth 100000
set_option maxHeartbeats 4000000
namespace L2
open PySem PySem.Spec PyProof.Rows
end L2
set_option Elab.async false
set_option linter.all false
set_option maxRecDepth 100000
set_option maxHeartbeats 4000000
namespace L2
open PySem PySem.Spec PyProof.Rows
section
variable {X : Cx}
variable {o e : Expr} {es : List Expr} {to : TE} {t : TA} {name : Str} {apos cpos : Pos} {T id : String} {r : V -> List V -> Hp -> VK -> Prop} {K : PySem.W.Frag}
end
end L2
set_option Elab.async false
set_option linter.all false
set_option maxRecDepth 100000
set_option maxHeartbeats 4000000
namespace L2
open PySem PySem.Spec PyProof.Rows
section
variable {X : Cx} {tg : Expr}
end
inductive Dd where
 | take (p : Nat) | move (p g : Nat) | lay (g : Nat)
abbrev RS := List (Option Int) × Option Int × List Int
def inc (mv : List Int) (x : Int) : List Int := mv.set x.toNat (mv.getD x.toNat 0 + 1)
inductive Do : Dd -> RS -> RS -> Prop
 | take {p : Nat} {row : List (Option Int)} {mv : List Int} {x : Int} : row[p]? = some (some x) -> Do (.take p) (row, none, mv) (row.set p none, some x, inc mv x)
 | move {p g : Nat} {row : List (Option Int)} {h : Option Int} {mv : List Int} {x : Int} : row[p]? = some (some x) -> row[g]? = some none -> Do (.move p g) (row, h, mv) ((row.set p none).set g (some x), h, inc mv x)
 | lay {g : Nat} {row : List (Option Int)} {mv : List Int} {x : Int} : row[g]? = some none -> Do (.lay g) (row, some x, mv) (row.set g (some x), none, inc mv x)
inductive Dos : List Dd -> RS -> RS -> Prop
 | nil {s : RS} : Dos [] s s
 | cons {d : Dd} {l : List Dd} {s t u : RS} : Do d s t -> Dos l t u -> Dos (d :: l) s u
end L2
set_option Elab.async false
set_option linter.all false
set_option maxRecDepth 100000
set_option maxHeartbeats 4000000
namespace L2
open PySem PySem.Spec PyProof.Rows
section
variable {X : Cx} {K : PySem.W.Frag}
end
end L2
set_option Elab.async false
set_option linter.all false
set_option maxRecDepth 100000
set_option maxHeartbeats 4000000
namespace L2
open PySem PySem.Spec PyProof.Rows
section
variable {X : Cx}
end
end L2
set_option Elab.async false
set_option linter.all false
set_option maxRecDepth 100000
set_option maxHeartbeats 4000000
namespace L2
open PySem PySem.Spec PyProof.Rows
section
variable {X : Cx}
end
section
variable {X : Cx} {e st : Expr} {te : TE} {ts : TO} {p2 pos : Pos}
end
end L2
set_option Elab.async false
set_option linter.all false
set_option maxRecDepth 100000
set_option maxHeartbeats 4000000
namespace L2
open PySem PySem.Spec PyProof.Rows
section
variable {X : Cx}
end
end L2
set_option Elab.async false
set_option linter.all false
set_option maxRecDepth 100000
set_option maxHeartbeats 4000000
namespace L2
open PySem PySem.Spec PyProof.Rows
def AtM (K : PySem.W.Frag) (C : Addr) (m qual : Str) (st : Stmt) : Prop := ∃ f fd, Fun K m qual st f fd /\ DM K C m f
section
variable {X : Cx} {k : Nat} {C : Addr} {m x : Str} {ps : List Str} {sp : Sp} {p pos apos : Pos} {o e : Expr} {es : List Expr} {t : TA} {to : TE}
end
structure KD (K : PySem.W.Frag) (w : World) (a : Addr) (kvs : List (Key × V)) : Prop where
 ex : ∃ es ep, K.lookup a = some ⟨.type "dict", none, .dict es ep, #[]⟩ /\ ∀ P : Program, PySem.KeysOf (xR P w) es /\ ∃ vs, KV kvs vs /\ Pairs (xR P w) es.toList vs /\ (vs.map (·.1)).Nodup
 ns : (a == sysModules) = false
section
variable {X : Cx} {e : Expr} {ty : TE} {p apos cpos : Pos} {x : Str} {a : Addr} {kvs : List (Key × V)}
end
end L2
set_option Elab.async false
set_option linter.all false
set_option maxRecDepth 100000
set_option maxHeartbeats 4000000
namespace L2
open PySem PySem.Spec PyProof.Rows
section
variable {X : Cx}
end
theorem DN {K : PySem.W.Frag} {C f : Addr} {m qual : Str} {st : Stmt} {oc kV dc pm cd ct : Value} {od an : Option Addr} {sl : Array (Option Value)} (a1 : PySem.W.findIn K (.ref C) m = some (some (.ref f))) (i1 : PySem.W.isFn K (.ref f) = true)
  (l1 : K.lookup f = some ⟨oc, od, .func (PySem.W.fnOf m qual (jh st) (qB st) (zj st) .none kV dc pm an cd ct), sl⟩) (c1 : PySem.W.codeIn K cd qual = true) (k1 : PySem.W.keepIn K (.ref f) = true) : AtM K C m qual st := ⟨f, _, Xh l1 c1 k1, ⟨a1, i1, k1⟩⟩
end L2
set_option Elab.async false
set_option linter.all false
set_option maxRecDepth 100000
set_option maxHeartbeats 4000000
namespace L2
open PySem PySem.Spec PyProof.Rows
section
variable {X : Cx}
end
end L2
set_option Elab.async false
set_option linter.all false
set_option maxRecDepth 100000
set_option maxHeartbeats 4000000
namespace L2
open PySem PySem.Spec PyProof.Rows
structure ScG (X : Cx) (ts : List Nat) (scope : Scope) : Prop where
 kind : scope.kind = .function
 cell : ∀ y ∈ scope.names, y.2 = .cell -> scope.names.lookup y.1 = some .cell
 loc : ∀ y ∈ scope.names, y.2 = .local -> scope.names.lookup y.1 = some .local
 free : ∀ y ∈ scope.names, y.2 = .free -> X.env.kindOf y.1 = some .cell \/ X.env.kindOf y.1 = some .free
 ts : ∀ (i : Nat) x, X.N[i]? = some x -> scope.names.lookup x = some .local \/ scope.names.lookup x = some .cell -> i ∈ ts
section
variable {X : Cx} {ts : List Nat} {scope : Scope} {pins : List (Addr × Obj)} {σ : St} {H : Hp} {s : Shared} {fp : List Addr}
end
section
variable {X : Cx} {ts : List Nat} {scope : Scope} {tg iter elt : Expr} {ifs : List Expr} {wi : TI} {g : TG} {tt : TT} {te : TE} {pos : Pos}
end
end L2
set_option Elab.async false
set_option linter.all false
set_option maxRecDepth 100000
set_option maxHeartbeats 4000000
namespace L2
open PySem PySem.Spec PyProof.Rows
section
variable {X : Cx}
end
end L2
set_option Elab.async false
set_option linter.all false
set_option maxRecDepth 100000
set_option maxHeartbeats 4000000
namespace L2
open PySem PySem.Spec PyProof.Rows
inductive Dat where
 | non | bl (b : Bool) | int (i : Int) | str (x : Str) | ty (n : String) | lst (l : List Dat) | tup (l : List Dat) | rng (lo hi c : Int) | scr (K : PySem.W.Frag) (l : List Int)
inductive AV where
 | d (x : Dat) | ref (a : Addr)
inductive MO where
 | lst (l : List AV) | dK (kvs : List (Key × AV)) | ins (C : Addr) (fs : List (Str × AV))
abbrev MH := Addr -> Option MO
abbrev ASt := List (Option AV)
def mup (M : MH) (a : Addr) (o : MO) : MH := fun b => if b = a then some o else M b
theorem zO {M : MH} {a : Addr} {o : MO} : mup M a o a = some o := if_pos rfl
theorem qe {M : MH} {a b : Addr} {o : MO} (h : b ≠ a) : mup M a o b = M b := if_neg h
theorem VF {M : MH} {a : Addr} {o u : MO} : mup (mup M a o) a u = mup M a u := by
 funext b; unfold mup; split <;> rfl
abbrev Own := Addr -> Prop
inductive Rep (H : Hp) (O : Own) : V -> Dat -> Prop
 | non : Rep H O .non .non
 | bl {b : Bool} : Rep H O (.bl b) (.bl b)
 | int {i : Int} : Rep H O (.int i) (.int i)
 | str {x : Str} : Rep H O (.str x) (.str x)
 | ty {n : String} : Rep H O (.ty n) (.ty n)
 | lst {a : Addr} {xs : List V} {l : List Dat} : ¬ O a -> H a = some (.lst xs) -> xs.length = l.length -> (∀ (i : Nat) x d, xs[i]? = some x -> l[i]? = some d -> Rep H O x d) -> Rep H O (.ref a) (.lst l)
 | tup {a : Addr} {xs : List V} {l : List Dat} : ¬ O a -> H a = some (.tup xs) -> xs.length = l.length -> (∀ (i : Nat) x d, xs[i]? = some x -> l[i]? = some d -> Rep H O x d) -> Rep H O (.ref a) (.tup l)
 | rng {a : Addr} {lo hi c : Int} : ¬ O a -> H a = some (jy a lo hi c) -> Rep H O (.ref a) (.rng lo hi c)
 | scr {a : Addr} {K : PySem.W.Frag} {l : List Int} : ¬ O a -> Rd H a (.lst (l.map V.int)) -> Rep H O (.ref a) (.scr K l)
 | scrK {a : Addr} {K : PySem.W.Frag} {l : List Int} : SqL K (fun _ => none) a (l.map V.int) -> Rep H O (.ref a) (.scr K l)
def Kl (H : Hp) (O : Own) (xs : List V) (l : List Dat) : Prop := xs.length = l.length /\ ∀ (i : Nat) x d, xs[i]? = some x -> l[i]? = some d -> Rep H O x d
def zA (H : Hp) (O : Own) (M : MH) (v : V) : AV -> Prop
 | .d x => Rep H O v x
 | .ref a => v = .ref a /\ M a ≠ none
def zi (H : Hp) (O : Own) (M : MH) (xs : List V) (l : List AV) : Prop := xs.length = l.length /\ ∀ (i : Nat) x d, xs[i]? = some x -> l[i]? = some d -> zA H O M x d
def ZN {κ : Type} (H : Hp) (O : Own) (M : MH) (xs : List (κ × V)) (l : List (κ × AV)) : Prop := xs.map (·.1) = l.map (·.1) /\ zi H O M (xs.map (·.2)) (l.map (·.2))
def qR (H : Hp) (O : Own) (M : MH) (a : Addr) : MO -> Prop
 | .lst l => ∃ xs, H a = some (.lst xs) /\ zi H O M xs l
 | .dK kvs => ∃ xs, H a = some (.dK xs) /\ ZN H O M xs kvs
 | .ins C fs => ∃ dx xs, H a = some (.ins C dx xs) /\ ZN H O M xs fs /\ O dx /\ M dx = none /\ H dx = some (.own a)
structure Wf (H : Hp) (O : Own) (M : MH) : Prop where
 mo : ∀ a o, M a = some o -> qR H O M a o
 own : ∀ a, M a ≠ none -> O a
 al : ∀ a, O a -> ∃ o, H a = some o /\ ∀ xs, o ≠ .tup xs
theorem Wf.ne {H : Hp} {O : Own} {M : MH} (w : Wf H O M) (a : Addr) (h : O a) : H a ≠ none := by obtain ⟨o, e, _⟩ := w.al a h; rw [e]; exact fun z => nomatch z
structure Ext (H : Hp) (O : Own) (M : MH) (H' : Hp) (O' : Own) (M' : MH) : Prop where
 fix : ∀ a o, ¬ O a -> H a = some o -> H' a = some o /\ ¬ O' a
 prv : ∀ a, O a -> M a = none -> H' a = H a /\ O' a /\ M' a = none
 mst : ∀ a, M a ≠ none -> M' a ≠ none
theorem Ext.refl {H : Hp} {O : Own} {M : MH} : Ext H O M H O M := ⟨fun _ _ h e => ⟨e, h⟩, fun _ h e => ⟨rfl, h, e⟩, fun _ h => h⟩
theorem Ext.trans {H H1 H2 : Hp} {O O1 O2 : Own} {M M1 M2 : MH} (a : Ext H O M H1 O1 M1) (b : Ext H1 O1 M1 H2 O2 M2) : Ext H O M H2 O2 M2 :=
 ⟨fun x o h e => let ⟨e1, h1⟩ := a.fix x o h e; b.fix x o h1 e1, fun x h e => by
  obtain ⟨e1, h1, n1⟩ := a.prv x h e
  obtain ⟨e2, h2, n2⟩ := b.prv x h1 n1
  exact ⟨e2.trans e1, h2, n2⟩, fun x h => b.mst x (a.mst x h)⟩
theorem Rep.imp {H H' : Hp} {O O' : Own} (k : ∀ a o, ¬ O a -> H a = some o -> H' a = some o /\ ¬ O' a) {v : V} {d : Dat} (r : Rep H O v d) : Rep H' O' v d := by
 induction r with
 | non => exact .non
 | bl => exact .bl
 | int => exact .int
 | str => exact .str
 | ty => exact .ty
 | lst h e l _ ih => exact .lst (k _ _ h e).2 (k _ _ h e).1 l ih
 | tup h e l _ ih => exact .tup (k _ _ h e).2 (k _ _ h e).1 l ih
 | rng h e => exact .rng (k _ _ h e).2 (k _ _ h e).1
 | scr h e =>
  rcases e with e | ⟨o, e⟩
  ·exact .scr (k _ _ h e).2 (.inl (k _ _ h e).1)
  ·exact .scr (k _ _ h e).2 (.inr ⟨o, (k _ _ h e).1⟩)
 | scrK h => exact .scrK h
theorem VJ {H : Hp} {O : Own} {K : PySem.W.Frag} {v : V} {l : List Int} (r : Rep H O v (.scr K l)) : ∃ a, v = .ref a /\ SqL K H a (l.map V.int) := by
 cases r with
 | @scr a _ _ _ h => exact ⟨a, rfl, .inl h⟩
 | @scrK a _ _ h =>
  rcases h with (h | ⟨o, h⟩) | h
  ·cases h
  ·cases h
  ·exact ⟨a, rfl, .inr h⟩
theorem VY {H : Hp} {O : Own} {K : PySem.W.Frag} {a : Addr} {l : List Int} (ho : ∀ a, ¬ O a) (h : SqL K H a (l.map V.int)) : Rep H O (.ref a) (.scr K l) := by
 rcases h with h | h
 ·exact .scr (ho a) h
 ·exact .scrK (.inr h)
theorem Rep.ext {H H' : Hp} {O O' : Own} {M M' : MH} (k : Ext H O M H' O' M') {v : V} {d : Dat} (r : Rep H O v d) : Rep H' O' v d := r.imp k.fix
theorem zA.ext {H H' : Hp} {O O' : Own} {M M' : MH} (k : Ext H O M H' O' M') {v : V} {x : AV} (r : zA H O M v x) : zA H' O' M' v x := by
 cases x with
 | d x => exact Rep.ext k r
 | ref a => exact ⟨r.1, k.mst a r.2⟩
theorem zi.ext {H H' : Hp} {O O' : Own} {M M' : MH} (k : Ext H O M H' O' M') {xs : List V} {l : List AV} (r : zi H O M xs l) : zi H' O' M' xs l := ⟨r.1, fun i x d e1 e2 => (r.2 i x d e1 e2).ext k⟩
theorem ZN.ext {κ : Type} {H H' : Hp} {O O' : Own} {M M' : MH} (k : Ext H O M H' O' M') {xs : List (κ × V)} {l : List (κ × AV)} (r : ZN H O M xs l) : ZN H' O' M' xs l := ⟨r.1, r.2.ext k⟩
theorem zi.nil {H : Hp} {O : Own} {M : MH} : zi H O M [] [] := ⟨rfl, fun i x d e => by simp at e⟩
theorem zi.cons {H : Hp} {O : Own} {M : MH} {x : V} {d : AV} {xs : List V} {l : List AV} (h : zA H O M x d) (r : zi H O M xs l) : zi H O M (x :: xs) (d :: l) :=
 ⟨by simp [r.1], fun i y e h1 h2 => by
  cases i with
  | zero => simp at h1 h2; subst h1 h2; exact h
  | succ i => simp at h1 h2; exact r.2 i y e h1 h2⟩
theorem zi.head {H : Hp} {O : Own} {M : MH} {x : V} {d : AV} {xs : List V} {l : List AV} (r : zi H O M (x :: xs) (d :: l)) : zA H O M x d /\ zi H O M xs l :=
 ⟨r.2 0 x d rfl rfl, by have := r.1; simpa using this, fun i y e h1 h2 => r.2 (i + 1) y e (by simpa using h1) (by simpa using h2)⟩
theorem zi.nil_inv {H : Hp} {O : Own} {M : MH} {xs : List V} (r : zi H O M xs []) : xs = [] := List.length_eq_zero_iff.mp r.1
theorem zi.cons_inv {H : Hp} {O : Own} {M : MH} {xs : List V} {d : AV} {l : List AV} (r : zi H O M xs (d :: l)) : ∃ x r', xs = x :: r' /\ zA H O M x d /\ zi H O M r' l := by
 cases xs with
 | nil => have := r.1; simp at this
 | cons x r' => exact ⟨x, r', rfl, r.head⟩
theorem zi.append {H : Hp} {O : Own} {M : MH} {xs ys : List V} {l m : List AV} (a : zi H O M xs l) (b : zi H O M ys m) : zi H O M (xs ++ ys) (l ++ m) :=
 ⟨by rw [List.length_append, List.length_append, a.1, b.1], fun i x d h1 h2 => by
  by_cases c : i < xs.length
  ·rw [List.getElem?_append_left c] at h1
   rw [List.getElem?_append_left (by rw [<- a.1]; exact c)] at h2
   exact a.2 i x d h1 h2
  ·rw [List.getElem?_append_right (by omega)] at h1
   rw [List.getElem?_append_right (by rw [<- a.1]; omega), <- a.1] at h2
   exact b.2 _ x d h1 h2⟩
theorem zi.snoc {H : Hp} {O : Own} {M : MH} {xs : List V} {l : List AV} {x : V} {d : AV} (a : zi H O M xs l) (b : zA H O M x d) : zi H O M (xs ++ [x]) (l ++ [d]) := a.append (.cons b .nil)
theorem zi.set {H : Hp} {O : Own} {M : MH} {xs : List V} {l : List AV} {x : V} {d : AV} (a : zi H O M xs l) (b : zA H O M x d) (j : Nat) : zi H O M (xs.set j x) (l.set j d) :=
 ⟨by rw [List.length_set, List.length_set, a.1], fun i y e h1 h2 => by
  rw [List.getElem?_set] at h1 h2
  by_cases c : j = i
  ·rw [if_pos c] at h1 h2
   split at h1
   ·split at h2
    ·cases h1; cases h2; exact b
    ·cases h2
   ·cases h1
  ·rw [if_neg c] at h1 h2
   exact a.2 i y e h1 h2⟩
theorem zi.get {H : Hp} {O : Own} {M : MH} {xs : List V} {l : List AV} (a : zi H O M xs l) {i : Nat} {d : AV} (h : l[i]? = some d) : ∃ x, xs[i]? = some x /\ zA H O M x d := by
 have hi := (List.getElem?_eq_some_iff.mp h).1
 have hx : i < xs.length := by rw [a.1]; exact hi
 exact ⟨xs[i], by simp [hx], a.2 i _ _ (by simp [hx]) h⟩
theorem zi.drop {H : Hp} {O : Own} {M : MH} {xs : List V} {l : List AV} (a : zi H O M xs l) (k : Nat) : zi H O M (xs.drop k) (l.drop k) :=
 ⟨by rw [List.length_drop, List.length_drop, a.1], fun i x d h1 h2 => by rw [List.getElem?_drop] at h1 h2; exact a.2 _ x d h1 h2⟩
theorem zi.take {H : Hp} {O : Own} {M : MH} {xs : List V} {l : List AV} (a : zi H O M xs l) (k : Nat) : zi H O M (xs.take k) (l.take k) :=
 ⟨by rw [List.length_take, List.length_take, a.1], fun i x d h1 h2 => by
  rw [List.getElem?_take] at h1 h2
  by_cases c : i < k
  ·rw [if_pos c] at h1 h2
   exact a.2 _ x d h1 h2
  ·rw [if_neg c] at h1
   cases h1⟩
theorem Kl.av {H : Hp} {O : Own} {M : MH} {xs : List V} {l : List Dat} (r : Kl H O xs l) : zi H O M xs (l.map .d) :=
 ⟨by rw [List.length_map]; exact r.1, fun i x d h1 h2 => by
  rw [List.getElem?_map] at h2
  cases e : l[i]? with
  | none => rw [e] at h2; cases h2
  | some y => rw [e] at h2; cases h2; exact r.2 i x y h1 e⟩
theorem zi.pure {H : Hp} {O : Own} {M : MH} {xs : List V} {l : List Dat} (r : zi H O M xs (l.map .d)) : Kl H O xs l :=
 ⟨by have := r.1; rwa [List.length_map] at this, fun i x d h1 h2 => r.2 i x (.d d) h1 (by rw [List.getElem?_map, h2]; rfl)⟩
theorem Wf.fresh {H : Hp} {O : Own} {M : MH} (w : Wf H O M) {p : Addr} (h : H p = none) : ¬ O p /\ M p = none := by
 have : ¬ O p := fun z => w.ne p z h
 exact ⟨this, by
  cases e : M p with
  | none => rfl
  | some o => exact absurd (w.own p (by rw [e]; exact fun z => nomatch z)) this⟩
theorem qR.ext {H H' : Hp} {O O' : Own} {M M' : MH} (k : Ext H O M H' O' M') {a : Addr} {o : MO} (e : H' a = H a) (r : qR H O M a o) : qR H' O' M' a o := by
 cases o with
 | lst l => obtain ⟨xs, h, r⟩ := r; exact ⟨xs, e.trans h, r.ext k⟩
 | dK l => obtain ⟨xs, h, r⟩ := r; exact ⟨xs, e.trans h, r.ext k⟩
 | ins C fs => obtain ⟨dx, xs, h, r, q1, q2, q3⟩ := r; obtain ⟨x1, x2, x3⟩ := k.prv dx q1 q2; exact ⟨dx, xs, e.trans h, r.ext k, x2, x3, x1.trans q3⟩
theorem xS {H : Hp} {O : Own} {M : MH} (w : Wf H O M) {p : Addr} (h : H p = none) (o : HO) : Ext H O M (upd H p o) O M :=
 ⟨fun a u ha e => ⟨by rw [zk (zh e h)]; exact e, ha⟩, fun a ha e => ⟨zk (fun z => w.ne a ha (by rw [z]; exact h)), ha, e⟩, fun _ h => h⟩
theorem YX {H : Hp} {O : Own} {M : MH} (w : Wf H O M) {p : Addr} (h : H p = none) (o : HO) : Wf (upd H p o) O M :=
 ⟨fun a mo e => qR.ext (xS w h o) (zk (fun z => by rw [z, (w.fresh h).2] at e; cases e)) (w.mo a mo e), w.own, fun a ha => by
  have : a ≠ p := fun z => w.ne a ha (by rw [z]; exact h)
  rw [zk this]; exact w.al a ha⟩
def J5 (O : Own) (p : Addr) : Own := fun a => a = p \/ O a
def Wm (O : Own) (p : Addr) : Own := fun a => a ≠ p /\ O a
theorem wc {H : Hp} {O : Own} {M : MH} (w : Wf H O M) {p : Addr} (h : M p ≠ none) (o : HO) (mo : MO) : Ext H O M (upd H p o) O (mup M p mo) :=
 ⟨fun a u ha e => ⟨by rw [zk (fun z => ha (by rw [z]; exact w.own p h))]; exact e, ha⟩, fun a ha e => by
  have hne : a ≠ p := fun z => h (by rw [<- z]; exact e)
  exact ⟨zk hne, ha, by rw [qe hne]; exact e⟩, fun a ha => by
  by_cases e : a = p
  ·rw [e, zO]; exact fun z => nomatch z
  ·rw [qe e]; exact ha⟩
theorem Ak {H : Hp} {O : Own} {M : MH} (w : Wf H O M) {p : Addr} (h : M p ≠ none) {o : HO} {mo : MO} (ho : ∀ xs, o ≠ .tup xs) (r : qR (upd H p o) O (mup M p mo) p mo) : Wf (upd H p o) O (mup M p mo) := by
 refine ⟨fun a u e => ?_, fun a ha => ?_, fun a ha => ?_⟩
 ·by_cases c : a = p
  ·subst c; rw [zO] at e; cases e; exact r
  ·rw [qe c] at e
   exact qR.ext (wc w h o mo) (zk c) (w.mo a u e)
 ·by_cases c : a = p
  ·subst c; exact w.own a h
  ·rw [qe c] at ha; exact w.own a ha
 ·by_cases c : a = p
  ·rw [c, zd]; exact ⟨o, rfl, ho⟩
  ·rw [zk c]; exact w.al a ha
theorem qL {H : Hp} {O : Own} {M : MH} (w : Wf H O M) {p : Addr} (h : H p = none) (o : HO) : Ext H O M (upd H p o) (J5 O p) M :=
 ⟨fun a u ha e => ⟨by rw [zk (zh e h)]; exact e, fun z => z.elim (zh e h) ha⟩, fun a ha e => by
  have hne : a ≠ p := fun z => w.ne a ha (by rw [z]; exact h)
  exact ⟨zk hne, .inr ha, e⟩, fun _ h => h⟩
theorem yg {H : Hp} {O : Own} {M : MH} (w : Wf H O M) {p : Addr} (h : H p = none) (o : HO) (ho : ∀ xs, o ≠ .tup xs) : Wf (upd H p o) (J5 O p) M :=
 ⟨fun a mo e => qR.ext (qL w h o) (zk (fun z => by rw [z, (w.fresh h).2] at e; cases e)) (w.mo a mo e), fun a ha => .inr (w.own a ha), fun a ha => by
  by_cases c : a = p
  ·rw [c, zd]; exact ⟨o, rfl, ho⟩
  ·rw [zk c]; exact w.al a (ha.resolve_left c)⟩
theorem xU {H : Hp} {O : Own} {p : Addr} (hO : O p) (o : HO) : ∀ a u, ¬ O a -> H a = some u -> upd H p o a = some u /\ ¬ O a := fun a u ha e => ⟨by rw [zk (fun z => ha (by rw [z]; exact hO))]; exact e, ha⟩
theorem zA.imp {H H' : Hp} {O O' : Own} {M M' : MH} (k : ∀ a o, ¬ O a -> H a = some o -> H' a = some o /\ ¬ O' a) (hm : ∀ a, M a ≠ none -> M' a ≠ none) {v : V} {x : AV} (r : zA H O M v x) : zA H' O' M' v x := by
 cases x with
 | d x => exact Rep.imp k r
 | ref a => exact ⟨r.1, hm a r.2⟩
theorem zi.imp {H H' : Hp} {O O' : Own} {M M' : MH} (k : ∀ a o, ¬ O a -> H a = some o -> H' a = some o /\ ¬ O' a) (hm : ∀ a, M a ≠ none -> M' a ≠ none) {xs : List V} {l : List AV} (r : zi H O M xs l) : zi H' O' M' xs l := ⟨r.1, fun i x d e1 e2 => (r.2 i x d e1 e2).imp k hm⟩
theorem qR.imp {H H' : Hp} {O O' : Own} {M : MH} (k : ∀ a o, ¬ O a -> H a = some o -> H' a = some o /\ ¬ O' a) {a : Addr} {o : MO} (e : H' a = H a) (hd : ∀ dx x, O dx -> M dx = none -> H dx = some (.own x) -> H' dx = some (.own x) /\ O' dx) (r : qR H O M a o) : qR H' O' M a o := by
 cases o with
 | lst l => obtain ⟨xs, h, r⟩ := r; exact ⟨xs, e.trans h, r.imp k fun _ z => z⟩
 | dK l => obtain ⟨xs, h, r⟩ := r; exact ⟨xs, e.trans h, r.1, r.2.imp k fun _ z => z⟩
 | ins C fs => obtain ⟨dx, xs, h, r, q1, q2, q3⟩ := r; exact ⟨dx, xs, e.trans h, ⟨r.1, r.2.imp k fun _ z => z⟩, (hd dx a q1 q2 q3).2, q2, (hd dx a q1 q2 q3).1⟩
theorem Z4 {H : Hp} {O : Own} {M : MH} (w : Wf H O M) {p : Addr} (hO : O p) (hM : M p = none) {xs : List V} (hp : H p = some (.lst xs)) (o : HO) (ho : ∀ xs, o ≠ .tup xs) : Wf (upd H p o) O M :=
 ⟨fun a mo e => qR.imp (xU hO o) (zk (fun z => by rw [z, hM] at e; cases e)) (fun dx x h1 _ h3 => ⟨by rw [zk (X4 h3 hp (fun z => nomatch z))]; exact h3, h1⟩) (w.mo a mo e), w.own, fun a ha => by
  by_cases c : a = p
  ·rw [c, zd]; exact ⟨o, rfl, ho⟩
  ·rw [zk c]; exact w.al a ha⟩
theorem xo {H : Hp} {O : Own} (p : Addr) : ∀ a u, ¬ O a -> H a = some u -> H a = some u /\ ¬ Wm O p a := fun a u ha e => ⟨e, fun z => ha z.2⟩
theorem X2 {H : Hp} {O : Own} {M : MH} (w : Wf H O M) {p : Addr} (hM : M p = none) {xs : List V} (hp : H p = some (.lst xs)) : Wf H (Wm O p) M :=
 ⟨fun a mo e => qR.imp (xo p) rfl (fun dx x h1 _ h3 => ⟨h3, ⟨X4 h3 hp (fun z => nomatch z), h1⟩⟩) (w.mo a mo e), fun a ha => ⟨fun z => ha (by rw [z]; exact hM), w.own a ha⟩, fun a ha => w.al a ha.2⟩
end L2
set_option Elab.async false
set_option linter.all false
set_option maxRecDepth 100000
set_option maxHeartbeats 4000000
namespace L2
open PySem PySem.Spec PyProof.Rows
abbrev AK := AV -> MH -> Prop
abbrev AE := ASt -> MH -> AK -> Prop
abbrev AT := ASt -> MH -> (Bool -> MH -> Prop) -> Prop
abbrev AA := ASt -> MH -> (List AV -> MH -> Prop) -> Prop
structure ye where
 nx : ASt -> MH -> Prop
 rt : AK
 bk : ASt -> MH -> Prop := fun _ _ => False
 ct : ASt -> MH -> Prop := fun _ _ => False
abbrev AS := MH -> ye -> ASt -> MH -> Prop
abbrev AG := AV -> ASt -> MH -> (ASt -> MH -> Prop) -> Prop
abbrev AGs := List AV -> ASt -> MH -> (ASt -> MH -> Prop) -> Prop
abbrev AI := ASt -> MH -> (List AV -> (MH -> Prop) -> MH -> Prop) -> Prop
structure Er (H : Hp) (O : Own) (M : MH) (σ : St) (ρ : ASt) : Prop where
 len : σ.length = ρ.length
 get : ∀ (i : Nat) x, ρ[i]? = some (some x) -> ∃ v, σ[i]? = some (some v) /\ zA H O M v x
theorem Er.ext {H H' : Hp} {O O' : Own} {M M' : MH} {σ : St} {ρ : ASt} (e : Er H O M σ ρ) (k : Ext H O M H' O' M') : Er H' O' M' σ ρ := ⟨e.len, fun i x h => let ⟨v, h1, h2⟩ := e.get i x h; ⟨v, h1, h2.ext k⟩⟩
theorem Er.set {H : Hp} {O : Own} {M : MH} {σ : St} {ρ : ASt} (e : Er H O M σ ρ) {v : V} {x : AV} (r : zA H O M v x) (j : Nat) : Er H O M (σ.set j (some v)) (ρ.set j (some x)) :=
 ⟨by rw [List.length_set, List.length_set, e.len], fun i y h => by
  rw [List.getElem?_set] at h ⊢
  by_cases c : j = i
  ·rw [if_pos c] at h ⊢
   by_cases c2 : j < ρ.length
   ·rw [if_pos c2] at h; rw [if_pos (by rw [e.len]; exact c2)]; cases h; exact ⟨v, rfl, r⟩
   ·rw [if_neg c2] at h; cases h
  ·rw [if_neg c] at h ⊢; exact e.get i y h⟩
def Wr : List Nat -> ASt -> ASt
 | [], σ => σ
 | j :: r, σ => Wr r (σ.set j none)
theorem Er.clr {H : Hp} {O : Own} {M : MH} : ∀ (ts : List Nat) {σ : St} {ρ : ASt}, Er H O M σ ρ -> Er H O M (clr ts σ) (Wr ts ρ)
  | [], _, _, e => e
  | j :: r, σ, ρ, e => Er.clr r ⟨by rw [List.length_set, List.length_set, e.len], fun i y h => by
      rw [List.getElem?_set] at h ⊢
      by_cases c : j = i
      · rw [if_pos c] at h
        split at h <;> cases h
      · rw [if_neg c] at h ⊢; exact e.get i y h⟩
structure zX (t : TE) (a : AE) : Prop where
 go : ∀ {σ : St} {H : Hp} {O : Own} {ρ : ASt} {M : MH} {Q : VK} {Q' : AK}, Wf H O M -> Er H O M σ ρ -> a ρ M Q' -> (∀ x M' v H' O', Q' x M' -> Ext H O M H' O' M' -> Wf H' O' M' -> zA H' O' M' v x -> Q v H') -> t σ H Q
structure xH (t : TT) (a : AT) : Prop where
 go : ∀ {σ : St} {H : Hp} {O : Own} {ρ : ASt} {M : MH} {Q : Bool -> Hp -> Prop} {Q' : Bool -> MH -> Prop}, Wf H O M -> Er H O M σ ρ -> a ρ M Q' -> (∀ b M' H' O', Q' b M' -> Ext H O M H' O' M' -> Wf H' O' M' -> Q b H') -> t σ H Q
structure xG (t : TA) (a : AA) : Prop where
 go : ∀ {σ : St} {H : Hp} {O : Own} {ρ : ASt} {M : MH} {Q : List V -> Hp -> Prop} {Q' : List AV -> MH -> Prop}, Wf H O M -> Er H O M σ ρ -> a ρ M Q' -> (∀ x M' v H' O', Q' x M' -> Ext H O M H' O' M' -> Wf H' O' M' -> zi H' O' M' v x -> Q v H') -> t σ H Q
structure Zw (t : TE) (a : ASt -> MH -> (List AV -> MH -> Prop) -> Prop) : Prop where
 go : ∀ {σ : St} {H : Hp} {O : Own} {ρ : ASt} {M : MH} {Q : VK} {Q' : List AV -> MH -> Prop}, Wf H O M -> Er H O M σ ρ -> a ρ M Q' ->
  (∀ l M' p xs H' O', Q' l M' -> Ext H O M H' O' M' -> Wf H' O' M' -> O' p -> M' p = none -> H p = none -> H' p = some (.lst xs) -> zi H' O' M' xs l -> Q (.ref p) H') -> t σ H Q
abbrev AR2 := AV -> AV -> MH -> AK -> Prop
structure ZH (r : R2) (a : AR2) : Prop where
 go : ∀ {x y : V} {dx dy : AV} {H : Hp} {O : Own} {M : MH} {Q : VK} {Q' : AK}, Wf H O M -> zA H O M x dx -> zA H O M y dy -> a dx dy M Q' -> (∀ x M' v H' O', Q' x M' -> Ext H O M H' O' M' -> Wf H' O' M' -> zA H' O' M' v x -> Q v H') -> r x y H Q
structure Dm (r : V -> Hp -> VK -> Prop) (a : AV -> MH -> AK -> Prop) : Prop where
 go : ∀ {x : V} {dx : AV} {H : Hp} {O : Own} {M : MH} {Q : VK} {Q' : AK}, Wf H O M -> zA H O M x dx -> a dx M Q' -> (∀ x M' v H' O', Q' x M' -> Ext H O M H' O' M' -> Wf H' O' M' -> zA H' O' M' v x -> Q v H') -> r x H Q
structure Zj (r : List V -> Hp -> VK -> Prop) (a : List AV -> MH -> AK -> Prop) : Prop where
 go : ∀ {vs : List V} {xs : List AV} {H : Hp} {O : Own} {M : MH} {Q : VK} {Q' : AK}, Wf H O M -> zi H O M vs xs -> a xs M Q' -> (∀ x M' v H' O', Q' x M' -> Ext H O M H' O' M' -> Wf H' O' M' -> zA H' O' M' v x -> Q v H') -> r vs H Q
def ZC (i : Nat) : AE := fun ρ M Q => ∃ x, ρ[i]? = some (some x) /\ Q x M
def aC (d : Dat) : AE := fun _ M Q => Q (.d d) M
theorem We {i : Nat} : zX (v8 i) (ZC i) := ⟨fun w e ⟨x, h, q⟩ k => let ⟨v, h1, h2⟩ := e.get i x h; ⟨v, h1, k _ _ _ _ _ q .refl w h2⟩⟩
theorem A3 {i : Int} : zX (tC (.int i)) (aC (.int i)) := ⟨fun w _ q k => k _ _ _ _ _ q .refl w .int⟩
theorem Bz {i : Bool} : zX (tC (.bl i)) (aC (.bl i)) := ⟨fun w _ q k => k _ _ _ _ _ q .refl w .bl⟩
theorem BK {i : String} : zX (tC (.ty i)) (aC (.ty i)) := ⟨fun w _ q k => k _ _ _ _ _ q .refl w .ty⟩
def aOp (r : AR2) (a b : AE) : AE := fun ρ M Q => a ρ M fun x M1 => b ρ M1 fun y M2 => r x y M2 Q
theorem BW {r : R2} {ra : AR2} {t u : TE} {a b : AE} (hr : ZH r ra) (h1 : zX t a) (h2 : zX u b) : zX (tOp r t u) (aOp ra a b) :=
 ⟨fun w e q k => h1.go w e q fun x M1 v H1 O1 q1 k1 w1 r1 => h2.go w1 (e.ext k1) q1 fun y M2 u H2 O2 q2 k2 w2 r2 => hr.go w2 (r1.ext k2) r2 q2 fun z M3 v3 H3 O3 q3 k3 w3 r3 => k z M3 v3 H3 O3 q3 ((k1.trans k2).trans k3) w3 r3⟩
def aUn (r : AV -> MH -> AK -> Prop) (a : AE) : AE := fun ρ M Q => a ρ M fun x M1 => r x M1 Q
theorem B3 {r : V -> Hp -> VK -> Prop} {ra : AV -> MH -> AK -> Prop} {t : TE} {a : AE} (hr : Dm r ra) (h1 : zX t a) : zX (tUn r t) (aUn ra a) :=
 ⟨fun w e q k => h1.go w e q fun x M1 v H1 O1 q1 k1 w1 r1 => hr.go w1 r1 q1 fun z M3 v3 H3 O3 q3 k3 w3 r3 => k z M3 v3 H3 O3 q3 (k1.trans k3) w3 r3⟩
def Vz : AA := fun _ M Q => Q [] M
def ZV (a : AE) (b : AA) : AA := fun ρ M Q => a ρ M fun x M1 => b ρ M1 fun xs M2 => Q (x :: xs) M2
theorem Vw : xG A7 Vz := ⟨fun w _ q k => k _ _ _ _ _ q .refl w .nil⟩
theorem Yv {t : TE} {u : TA} {a : AE} {b : AA} (h1 : zX t a) (h2 : xG u b) : xG (XS t u) (ZV a b) :=
 ⟨fun w e q k => h1.go w e q fun x M1 v H1 O1 q1 k1 w1 r1 => h2.go w1 (e.ext k1) q1 fun y M2 u H2 O2 q2 k2 w2 r2 => k _ _ _ _ _ q2 (k1.trans k2) w2 (.cons (r1.ext k2) r2)⟩
theorem vA {H : Hp} {O : Own} {M : MH} (is : List Int) : zi H O M (is.map V.int) (is.map fun i => .d (.int i)) := by
 induction is with
 | nil => exact .nil
 | cons i r ih => exact .cons .int ih
def aCB (r : List AV -> MH -> AK -> Prop) (b : AA) : AE := fun ρ M Q => b ρ M fun xs M1 => r xs M1 Q
theorem AH {r : List V -> Hp -> VK -> Prop} {ra : List AV -> MH -> AK -> Prop} {u : TA} {b : AA} (hr : Zj r ra) (h2 : xG u b) : zX (tCB r u) (aCB ra b) :=
 ⟨fun w e q k => h2.go w e q fun x M1 v H1 O1 q1 k1 w1 r1 => hr.go w1 r1 q1 fun z M3 v3 H3 O3 q3 k3 w3 r3 => k z M3 v3 H3 O3 q3 (k1.trans k3) w3 r3⟩
abbrev ASp := List AV -> MH -> AK -> Prop
def cSp (a : ASp) : Sp := fun vs H Q _ => ∃ xs M O Q', Wf H O M /\ zi H O M vs xs /\ a xs M Q' /\ ∀ x M' v H' O', Q' x M' -> Ext H O M H' O' M' -> Wf H' O' M' -> zA H' O' M' v x -> Q v H'
def XF (sp : ASp) (b : AA) : AE := fun ρ M Q => b ρ M fun xs M1 => sp xs M1 Q
theorem Xx {sp : ASp} {u : TA} {b : AA} (h : xG u b) : zX (Jp (cSp sp) [] E0 u) (XF sp b) :=
 ⟨fun w e q k => h.go w e q fun x M1 v H1 O1 q1 k1 w1 r1 => ⟨x, M1, O1, _, w1, by rw [List.append_nil]; exact r1, q1, fun z M3 v3 H3 O3 q3 k3 w3 r3 => k z M3 v3 H3 O3 q3 (k1.trans k3) w3 r3⟩⟩
def pur : List AV -> Option (List Dat)
 | [] => some []
 | .d x :: r => match pur r with | some l => some (x :: l) | none => none
 | .ref _ :: _ => none
theorem VH : pur [] = some [] := rfl
theorem XB {x : Dat} {r : List AV} {l : List Dat} (h : pur r = some l) : pur (.d x :: r) = some (x :: l) := by unfold pur; rw [h]
theorem jB (l : List Dat) : pur (l.map .d) = some l := by
 induction l with
 | nil => rfl
 | cons x r ih => exact XB ih
theorem kE : ∀ {xs : List AV} {l : List Dat}, pur xs = some l -> xs = l.map .d
 | [], l, h => by cases h; rfl
 | .d x :: r, l, h => by
  unfold pur at h
  cases e : pur r with
  | none => rw [e] at h; cases h
  | some m => rw [e] at h; cases h; rw [kE e]; rfl
 | .ref _ :: _, _, h => by cases h
theorem Ext.shown {H H' : Hp} {O O' : Own} {M M' : MH} {p : Addr} (w : Wf H O M) (k : Ext H O M H' O' M') (h : H p = none) : Ext H O M H' (Wm O' p) M' :=
 ⟨fun a o ha e => ⟨(k.fix a o ha e).1, fun z => (k.fix a o ha e).2 z.2⟩, fun a ha e => ⟨(k.prv a ha e).1, ⟨fun z => w.ne a ha (by rw [z]; exact h), (k.prv a ha e).2.1⟩, (k.prv a ha e).2.2⟩, k.mst⟩
theorem Ext.owned {H H' : Hp} {O O' : Own} {M M' : MH} {p : Addr} (w : Wf H O M) (k : Ext H O M H' O' M') (h : H p = none) (mo : MO) : Ext H O M H' O' (mup M' p mo) :=
 ⟨k.fix, fun a ha e => ⟨(k.prv a ha e).1, (k.prv a ha e).2.1, by rw [qe (fun z => w.ne a ha (by rw [z]; exact h))]; exact (k.prv a ha e).2.2⟩, fun a ha => by
  by_cases e : a = p
  ·rw [e, zO]; exact fun z => nomatch z
  ·rw [qe e]; exact k.mst a ha⟩
theorem ZM {H : Hp} {O : Own} {M : MH} {p : Addr} (w : Wf H O M) (hO : O p) (hM : M p = none) {xs : List V} {l : List AV} (hp : H p = some (.lst xs)) (r : zi H O M xs l) : Wf H O (mup M p (.lst l)) := by
 have km : ∀ a, M a ≠ none -> mup M p (.lst l) a ≠ none := fun a ha => by
  by_cases e : a = p
  ·rw [e, zO]; exact fun z => nomatch z
  ·rw [qe e]; exact ha
 refine ⟨fun a u e => ?_, fun a ha => ?_, w.al⟩
 ·by_cases c : a = p
  ·subst c; rw [zO] at e; cases e; exact ⟨xs, hp, r.imp (fun _ _ z h => ⟨h, z⟩) km⟩
  ·rw [qe c] at e
   have := w.mo a u e
   cases u with
   | lst m => obtain ⟨ys, h1, h2⟩ := this; exact ⟨ys, h1, h2.imp (fun _ _ z h => ⟨h, z⟩) km⟩
   | dK m => obtain ⟨ys, h1, h2⟩ := this; exact ⟨ys, h1, h2.1, h2.2.imp (fun _ _ z h => ⟨h, z⟩) km⟩
   | ins C fs =>
    obtain ⟨dx, ys, h1, h2, h3, h4, h5⟩ := this
    exact ⟨dx, ys, h1, ⟨h2.1, h2.2.imp (fun _ _ z h => ⟨h, z⟩) km⟩, h3, by rw [qe (X4 h5 hp (fun z => nomatch z))]; exact h4, h5⟩
 ·by_cases c : a = p
  ·rw [c]; exact hO
  ·rw [qe c] at ha; exact w.own a ha
abbrev AF := ASt -> MH -> (List AV -> MH -> Prop) -> Prop
def aFz (a : AF) : AE := fun ρ M Q => a ρ M fun l M' => ∃ ds, pur l = some ds /\ Q (.d (.lst ds)) M'
def aOw (a : AF) : AE := fun ρ M Q => a ρ M fun l M' => ∀ p, M p = none -> M' p = none -> Q (.ref p) (mup M' p (.lst l))
def Dl (t : TE) : TE := t
theorem K0 {X : Cx} {e : Expr} {t : TE} (h : PE X e t) : PE X e (Dl t) := h
theorem xf {t : TE} {a : AF} (h : Zw t a) : zX t (aFz a) :=
 ⟨fun w e q k => h.go w e q fun l M' p xs H' O' q1 k1 w1 o1 m1 hp hx r1 => by
  obtain ⟨ds, e1, q2⟩ := q1
  rw [kE e1] at r1
  have r2 := r1.pure
  exact k _ _ _ _ _ q2 (k1.shown w hp) (X2 w1 m1 hx) (Rep.lst (fun z => z.1 rfl) hx r2.1 fun i x d e1 e2 => (r2.2 i x d e1 e2).imp (xo p))⟩
theorem Vl {t : TE} {a : AF} (h : Zw t a) : zX (Dl t) (aOw a) :=
 ⟨fun w e q k => h.go w e q fun l M' p xs H' O' q1 k1 w1 o1 m1 hp hx r1 => k _ _ _ _ _ (q1 p (w.fresh hp).2 m1) (k1.owned w hp _) (ZM w1 o1 m1 hx r1) ⟨rfl, by rw [zO]; exact fun z => nomatch z⟩⟩
def Dg (b : AA) : AF := fun ρ M Q => b ρ M fun xs M1 => xs.length <= sizeLine /\ Q xs M1
theorem KB {u : TA} {b : AA} (h : xG u b) : Zw (W9 u) (Dg b) :=
 ⟨fun w e q k => h.go w e q fun x M1 v H1 O1 q1 k1 w1 r1 => ⟨by rw [r1.1]; exact q1.1, fun p hp =>
  k x M1 p v _ _ q1.2 (k1.trans (qL w1 hp _)) (yg w1 hp _ (fun _ z => nomatch z)) (.inl rfl) (w1.fresh hp).2 (by
   cases e0 : (_ : Hp) p with
   | none => exact e0
   | some o =>
    exfalso
    rename_i H0 O0 _ M0 _ _
    by_cases c : O0 p
    ·by_cases c2 : M0 p = none
     ·exact w1.ne p (k1.prv p c c2).2.1 hp
     ·exact w1.ne p (w1.own p (k1.mst p c2)) hp
    ·rw [(k1.fix p o c e0).1] at hp; cases hp) zd (r1.ext (qL w1 hp _))⟩⟩
def DG (b : AA) : AE := fun ρ M Q => b ρ M fun xs M1 => xs.length <= sizeLine /\ ∃ ds, pur xs = some ds /\ Q (.d (.tup ds)) M1
theorem Wu {u : TA} {b : AA} (h : xG u b) : zX (W2 u) (DG b) :=
 ⟨fun w e q k => h.go w e q fun x M1 v H1 O1 q1 k1 w1 r1 => ⟨by rw [r1.1]; exact q1.1, fun p hp => by
  obtain ⟨_, ds, e1, q2⟩ := q1
  rw [kE e1] at r1
  have r2 := r1.pure
  exact k _ _ _ _ _ q2 (k1.trans (xS w1 hp _)) (YX w1 hp _) (Rep.tup (w1.fresh hp).1 zd r2.1 fun i x d e1 e2 => (r2.2 i x d e1 e2).ext (xS w1 hp _))⟩⟩
def aB (a : AE) : AT := fun ρ M Q => a ρ M fun x M1 => ∃ b, x = .d (.bl b) /\ Q b M1
theorem xr {H : Hp} {O : Own} {v : V} {b : Bool} (r : Rep H O v (.bl b)) : v = .bl b := by cases r; rfl
theorem zK {H : Hp} {O : Own} {v : V} {b : Int} (r : Rep H O v (.int b)) : v = .int b := by cases r; rfl
theorem Vb {H : Hp} {O : Own} {v : V} {b : String} (r : Rep H O v (.ty b)) : v = .ty b := by cases r; rfl
theorem De {t : TE} {a : AE} (h : zX t a) : xH (tB t) (aB a) := ⟨fun w e q k => h.go w e q fun x M1 v H1 O1 ⟨b, e1, q1⟩ k1 w1 r1 => by
 subst e1; exact ⟨b, xr r1, k _ _ _ _ q1 k1 w1⟩⟩
theorem Yn {t : TE} {a : AE} (h : zX t a) : xH (yf t) (aB a) := ⟨fun w e q k => h.go w e q fun x M1 v H1 O1 ⟨b, e1, q1⟩ k1 w1 r1 => by
 subst e1; exact ⟨b, xr r1, k _ _ _ _ q1 k1 w1⟩⟩
def ZX : AT := fun _ M Q => Q true M
theorem YL : xH Xp ZX := ⟨fun w _ q k => k _ _ _ _ q .refl w⟩
def aOr (a b : AT) : AT := fun ρ M Q => a ρ M fun c M1 => if c = true then Q true M1 else b ρ M1 Q
def Ae (a : AT) : AT := fun ρ M Q => a ρ M fun c M1 => Q (!c) M1
theorem Bb {t u : TT} {a b : AT} (h1 : xH t a) (h2 : xH u b) : xH (tOr t u) (aOr a b) := ⟨fun w e q k => h1.go w e q fun c M1 H1 O1 q1 k1 w1 => by
 cases c with
 | false => exact h2.go w1 (e.ext k1) q1 fun c M2 H2 O2 q2 k2 w2 => k _ _ _ _ q2 (k1.trans k2) w2
 | true => exact k _ _ _ _ q1 k1 w1⟩
theorem Wj {t : TT} {a : AT} (h1 : xH t a) : xH (An t) (Ae a) := ⟨fun w e q k => h1.go w e q fun c M1 H1 O1 q1 k1 w1 => k _ _ _ _ q1 k1 w1⟩
def WQ (a b : AE) : AE := fun ρ M Q => a ρ M fun x M1 => ∃ c, x = .d (.bl c) /\ if c = true then b ρ M1 Q else Q (.d (.bl false)) M1
theorem XE {t u : TE} {a b : AE} (h1 : zX t a) (h2 : zX u b) : zX (KI t u) (WQ a b) := ⟨fun w e q k => h1.go w e q fun x M1 v H1 O1 ⟨c, e1, q1⟩ k1 w1 r1 => by
 subst e1
 refine ⟨c, xr r1, ?_⟩
 cases c with
 | true => exact h2.go w1 (e.ext k1) q1 fun c M2 v2 H2 O2 q2 k2 w2 r2 => k _ _ _ _ _ q2 (k1.trans k2) w2 r2
 | false => exact k _ _ _ _ _ q1 k1 w1 .bl⟩
def XI (r r' : AR2) (a b c : AE) : AE := fun ρ M Q => a ρ M fun x M1 => b ρ M1 fun y M2 => r x y M2 fun z M3 => ∃ k, z = .d (.bl k) /\ if k = true then c ρ M3 fun u M4 => r' y u M4 Q else Q (.d (.bl false)) M3
end L2
set_option Elab.async false
set_option linter.all false
set_option maxRecDepth 100000
set_option maxHeartbeats 4000000
namespace L2
open PySem PySem.Spec PyProof.Rows
theorem Kq {r r' : R2} {ar ar' : AR2} {t u v : TE} {a b c : AE} (hr : ZH r ar) (hr' : ZH r' ar') (h1 : zX t a) (h2 : zX u b) (h3 : zX v c) : zX (Qd r r' t u v) (XI ar ar' a b c) :=
 ⟨fun w e q k => h1.go w e q fun x M1 v H1 O1 q1 k1 w1 r1 => h2.go w1 (e.ext k1) q1 fun y M2 u H2 O2 q2 k2 w2 r2 => hr.go w2 (r1.ext k2) r2 q2 fun z M3 v3 H3 O3 ⟨c, e3, q3⟩ k3 w3 r3 => by
  subst e3
  refine ⟨c, xr r3, ?_⟩
  have k13 := (k1.trans k2).trans k3
  cases c with
  | false => exact k _ _ _ _ _ q3 k13 w3 .bl
  | true => exact h3.go w3 (e.ext k13) q3 fun z4 M4 v4 H4 O4 q4 k4 w4 r4 => hr'.go w4 ((r2.ext k3).ext k4) r4 q4 fun z5 M5 v5 H5 O5 q5 k5 w5 r5 => k _ _ _ _ _ q5 ((k13.trans k4).trans k5) w5 r5⟩
structure ED (H0 : Hp) (O0 : Own) (M0 : MH) (D : jP) (D' : ye) : Prop where
 nx : ∀ σ H O ρ M, Wf H O M -> Er H O M σ ρ -> Ext H0 O0 M0 H O M -> D'.nx ρ M -> D.nx σ H
 rt : ∀ v x H O M, Wf H O M -> Ext H0 O0 M0 H O M -> zA H O M v x -> D'.rt x M -> D.rt v H
 bk : ∀ σ H O ρ M, Wf H O M -> Er H O M σ ρ -> Ext H0 O0 M0 H O M -> D'.bk ρ M -> D.bk σ H
 ct : ∀ σ H O ρ M, Wf H O M -> Er H O M σ ρ -> Ext H0 O0 M0 H O M -> D'.ct ρ M -> D.ct σ H
theorem ED.tr {H0 H1 : Hp} {O0 O1 : Own} {M0 M1 : MH} {D : jP} {D' : ye} (E : ED H0 O0 M0 D D') (k : Ext H0 O0 M0 H1 O1 M1) : ED H1 O1 M1 D D' :=
 ⟨fun σ H O ρ M w e x q => E.nx σ H O ρ M w e (k.trans x) q, fun v y H O M w x r q => E.rt v y H O M w (k.trans x) r q, fun σ H O ρ M w e x q => E.bk σ H O ρ M w e (k.trans x) q, fun σ H O ρ M w e x q => E.ct σ H O ρ M w e (k.trans x) q⟩
structure kA (t : TS) (a : AS) : Prop where
 go : ∀ {H0 : Hp} {O0 : Own} {M0 : MH} {D : jP} {D' : ye} {σ : St} {H : Hp} {O : Own} {ρ : ASt} {M : MH}, Wf H0 O0 M0 -> Wf H O M -> Er H O M σ ρ -> Ext H0 O0 M0 H O M -> a M0 D' ρ M -> ED H0 O0 M0 D D' -> t D σ H
def Qo : AS := fun _ D ρ M => D.nx ρ M
theorem Yj : kA Yb Qo := ⟨fun _ w e x q E => E.nx _ _ _ _ _ w e x q⟩
def Qr (a b : AS) : AS := fun B D ρ M => a B { D with nx := b B D } ρ M
theorem Ws {t u : TS} {a b : AS} (h1 : kA t a) (h2 : kA u b) : kA (Bn t u) (Qr a b) :=
 ⟨fun w0 w e x q E => h1.go w0 w e x q ⟨fun σ H O ρ M w e x q => h2.go w0 w e x q E, E.rt, E.bk, E.ct⟩⟩
def BX (a : AE) : AS := fun _ D ρ M => a ρ M D.rt
theorem VB {t : TE} {a : AE} (h : zX t a) : kA (Ac t) (BX a) := ⟨fun _ w e x q E => h.go w e q fun y M1 v H1 O1 q1 k1 w1 r1 => E.rt _ _ _ _ _ w1 (x.trans k1) r1 q1⟩
def AJ (c : AT) (a b : AS) : AS := fun B D ρ M => c ρ M fun k M1 => if k = true then a B D ρ M1 else b B D ρ M1
theorem VS {c : TT} {t u : TS} {ac : AT} {a b : AS} (hc : xH c ac) (h1 : kA t a) (h2 : kA u b) : kA (BQ c t u) (AJ ac a b) :=
 ⟨fun w0 w e x q E => hc.go w e q fun k M1 H1 O1 q1 k1 w1 => by
  cases k with
  | true => exact h1.go w0 w1 (e.ext k1) (x.trans k1) q1 E
  | false => exact h2.go w0 w1 (e.ext k1) (x.trans k1) q1 E⟩
structure vK (g : TG) (a : AG) : Prop where
 go : ∀ {v : V} {x : AV} {σ : St} {H : Hp} {O : Own} {ρ : ASt} {M : MH} {Q : St -> Hp -> Prop} {Q' : ASt -> MH -> Prop}, Wf H O M -> Er H O M σ ρ -> zA H O M v x -> a x ρ M Q' ->
  (∀ σ' H' O' ρ' M', Q' ρ' M' -> Ext H O M H' O' M' -> Wf H' O' M' -> Er H' O' M' σ' ρ' -> Q σ' H') -> g v σ H Q
structure Jw (g : TGs) (a : AGs) : Prop where
 go : ∀ {v : List V} {x : List AV} {σ : St} {H : Hp} {O : Own} {ρ : ASt} {M : MH} {Q : St -> Hp -> Prop} {Q' : ASt -> MH -> Prop}, Wf H O M -> Er H O M σ ρ -> zi H O M v x -> a x ρ M Q' ->
  (∀ σ' H' O' ρ' M', Q' ρ' M' -> Ext H O M H' O' M' -> Wf H' O' M' -> Er H' O' M' σ' ρ' -> Q σ' H') -> g v σ H Q
def ky (i : Nat) : AG := fun x ρ M Q => Q (ρ.set i (some x)) M
theorem JM {i : Nat} : vK (wZ i) (ky i) := ⟨fun w e r q k => k _ _ _ _ _ q .refl w (e.set r i)⟩
def WS : AGs := fun xs ρ M Q => xs = [] /\ Q ρ M
def KJ (a : AG) (b : AGs) : AGs := fun xs ρ M Q => ∃ x r, xs = x :: r /\ a x ρ M fun ρ' M' => b r ρ' M' Q
theorem Yz : Jw W7 WS := ⟨fun w e r q k => by obtain ⟨e1, q⟩ := q; subst e1; exact ⟨r.nil_inv, k _ _ _ _ _ q .refl w e⟩⟩
theorem Ka {g : TG} {u : TGs} {a : AG} {b : AGs} (h1 : vK g a) (h2 : Jw u b) : Jw (Xg g u) (KJ a b) := ⟨fun w e r q k => by
 obtain ⟨x, r', e1, q⟩ := q; subst e1
 obtain ⟨v, vr, e2, rv, rr⟩ := r.cons_inv
 subst e2
 exact ⟨v, vr, rfl, h1.go w e rv q fun σ' H' O' ρ' M' q1 k1 w1 e1 => h2.go w1 e1 (rr.ext k1) q1 fun σ2 H2 O2 ρ2 M2 q2 k2 w2 e2 => k _ _ _ _ _ q2 (k1.trans k2) w2 e2⟩⟩
def WR (n : Nat) (b : AGs) : AG := fun x ρ M Q => ∃ l, x = .d (.tup l) /\ l.length = n /\ b (l.map .d) ρ M Q
theorem YB {K : PySem.W.Frag} {n : Nat} {u : TGs} {b : AGs} (h : Jw u b) : vK (WB K n u) (WR n b) := ⟨fun {v x σ H O ρ M Q Q'} w e r q k => by
 obtain ⟨l, e1, ln, q⟩ := q; subst e1
 cases (show Rep H O v (.tup l) from r) with
 | @tup a xs _ o1 h1 l1 r1 => exact ⟨a, xs, rfl, SqT.of h1, l1.trans ln, h.go w e (Kl.av ⟨l1, r1⟩) q k⟩⟩
def qZ (x : AV) (M : MH) : Option (List AV) := match x with
 | .d (.lst l) => some (l.map .d)
 | .ref a => match M a with
  | some (.lst l) => some l
  | _ => none
 | _ => none
def AM (x : AV) : Option (List AV) := match x with
 | .d (.tup l) => some (l.map .d)
 | _ => none
def qq (x : AV) (M : MH) : Option (List AV) := match x with
 | .d (.lst l) => some (l.map .d)
 | .d (.tup l) => some (l.map .d)
 | .ref a => match M a with
  | some (.lst l) => some l
  | _ => none
 | _ => none
theorem YI (l : List Dat) (M : MH) : qZ (.d (.lst l)) M = some (l.map .d) := rfl
theorem BY (l : List Dat) : AM (.d (.tup l)) = some (l.map .d) := rfl
theorem BM (l : List Dat) (M : MH) : qq (.d (.lst l)) M = some (l.map .d) := rfl
theorem AY (l : List Dat) (M : MH) : qq (.d (.tup l)) M = some (l.map .d) := rfl
theorem Zi {a : Addr} {M : MH} {l : List AV} (h : M a = some (.lst l)) : qZ (.ref a) M = some l := by unfold qZ; dsimp only; rw [h]
theorem wO {a : Addr} {M : MH} {l : List AV} (h : M a = some (.lst l)) : qq (.ref a) M = some l := by unfold qq; dsimp only; rw [h]
theorem xZ {x : AV} {M : MH} {l : List AV} (h : qZ x M = some l) : (∃ m, x = .d (.lst m) /\ l = m.map .d) \/ ∃ a, x = .ref a /\ M a = some (.lst l) := by
 cases x with
 | d x =>
  cases x with
  | lst m => cases h; exact .inl ⟨m, rfl, rfl⟩
  | _ => cases h
 | ref a =>
  unfold qZ at h
  dsimp only at h
  cases e : M a with
  | none => rw [e] at h; cases h
  | some o =>
   rw [e] at h
   cases o with
   | lst m => cases h; exact .inr ⟨a, rfl, e⟩
   | _ => cases h
theorem xc {x : AV} {M : MH} {l : List AV} (h : qq x M = some l) : qZ x M = some l \/ ∃ m, x = .d (.tup m) /\ l = m.map .d := by
 cases x with
 | d x =>
  cases x with
  | lst m => cases h; exact .inl rfl
  | tup m => cases h; exact .inr ⟨m, rfl, rfl⟩
  | _ => cases h
 | ref a => exact .inl h
theorem jc {H : Hp} {O : Own} {M : MH} {v : V} {x : AV} {l : List AV} (w : Wf H O M) (r : zA H O M v x) (h : qZ x M = some l) : ∃ a xs, v = .ref a /\ H a = some (.lst xs) /\ zi H O M xs l := by
 rcases xZ h with ⟨m, rfl, rfl⟩ | ⟨a, rfl, e⟩
 ·cases (show Rep H O v (.lst m) from r) with
  | @lst a xs _ o1 h1 l1 r1 => exact ⟨a, xs, rfl, h1, Kl.av ⟨l1, r1⟩⟩
 ·obtain ⟨xs, h1, r1⟩ := w.mo a _ e
  exact ⟨a, xs, r.1, h1, r1⟩
theorem vN {H : Hp} {O : Own} {M : MH} {v : V} {x : AV} {l : List AV} (r : zA H O M v x) (h : AM x = some l) : ∃ a xs, v = .ref a /\ H a = some (.tup xs) /\ zi H O M xs l := by
 cases x with
 | ref a => cases h
 | d x =>
  cases x with
  | tup m =>
   cases h
   cases (show Rep H O v (.tup m) from r) with
   | @tup a xs _ o1 h1 l1 r1 => exact ⟨a, xs, rfl, h1, Kl.av ⟨l1, r1⟩⟩
  | _ => cases h
theorem wz {H : Hp} {O : Own} {M : MH} {v : V} {x : AV} {l : List AV} (w : Wf H O M) (r : zA H O M v x) (h : qq x M = some l) : ∃ a xs, v = .ref a /\ (H a = some (.lst xs) \/ H a = some (.tup xs)) /\ zi H O M xs l := by
 rcases xc h with e | ⟨m, rfl, rfl⟩
 ·obtain ⟨a, xs, h1, h2, h3⟩ := jc w r e; exact ⟨a, xs, h1, .inl h2, h3⟩
 ·obtain ⟨a, xs, h1, h2, h3⟩ := vN (l := m.map .d) r rfl; exact ⟨a, xs, h1, .inr h2, h3⟩
structure Yu (t : XJ) (a : AV -> AV -> AV -> MH -> (MH -> Prop) -> Prop) : Prop where
 go : ∀ {o i v : V} {ao ai av : AV} {H : Hp} {O : Own} {M : MH} {Q : Hp -> Prop} {Q' : MH -> Prop}, Wf H O M -> zA H O M o ao -> zA H O M i ai -> zA H O M v av -> a ao ai av M Q' -> (∀ M' H' O', Q' M' -> Ext H O M H' O' M' -> Wf H' O' M' -> Q H') -> t o i v H Q
def XX (a b : AE) (s : AV -> AV -> AV -> MH -> (MH -> Prop) -> Prop) : AG := fun x ρ M Q => a ρ M fun o M1 => b ρ M1 fun i M2 => s o i x M2 fun M3 => Q ρ M3
theorem Xw {to ti : TE} {t : XJ} {a b : AE} {s : AV -> AV -> AV -> MH -> (MH -> Prop) -> Prop} (h1 : zX to a) (h2 : zX ti b) (h3 : Yu t s) : vK (Bm to ti t) (XX a b s) := ⟨fun w e r q k =>
 h1.go w e q fun x M1 v H1 O1 q1 k1 w1 r1 => h2.go w1 (e.ext k1) q1 fun y M2 u H2 O2 q2 k2 w2 r2 => h3.go w2 (r1.ext k2) r2 (r.ext (k1.trans k2)) q2 fun M3 H3 O3 q3 k3 w3 => k _ _ _ _ _ q3 ((k1.trans k2).trans k3) w3 (e.ext ((k1.trans k2).trans k3))⟩
theorem kc {M : MH} {p : Addr} {o : MO} (h : M p = some o) : M p ≠ none := by rw [h]; exact fun z => nomatch z
def asL : AV -> AV -> AV -> MH -> (MH -> Prop) -> Prop := fun o i v M Q => ∃ p l k j, o = .ref p /\ i = .d (.int k) /\ M p = some (.lst l) /\ ixN l.length k = some j /\ Q (mup M p (.lst (l.set j v)))
theorem XD : Yu Z3 asL := ⟨fun w ro ri rv q k => by
 obtain ⟨p, l, n, j, rfl, rfl, hm, hj, q⟩ := q
 obtain ⟨xs, hx, rx⟩ := w.mo p _ hm
 have np := kc hm
 refine ⟨n, zK ri, p, ro.1, xs, hx, j, by rw [rx.1]; exact hj, k _ _ _ q (wc w np _ _) (Ak w np (fun _ z => nomatch z) ⟨_, zd, (rx.set rv j).ext (wc w np _ _)⟩)⟩⟩
def AW (a : AE) (g : AG) : AS := fun _ D ρ M => a ρ M fun x M1 => g x ρ M1 D.nx
theorem VX {t : TE} {g : TG} {a : AE} {ag : AG} (h : zX t a) (hg : vK g ag) : kA (Y9 t g) (AW a ag) := ⟨fun _ w e x q E => h.go w e q fun y M1 v H1 O1 q1 k1 w1 r1 => hg.go w1 (e.ext k1) r1 q1 fun σ2 H2 O2 ρ2 M2 q2 k2 w2 e2 => E.nx _ _ _ _ _ w2 e2 ((x.trans k1).trans k2) q2⟩
def DF (i j : Nat) (a : AA) : AS := fun _ D ρ M => a ρ M fun xs M1 => ∃ x y, xs = [x, y] /\ D.nx ((ρ.set i (some x)).set j (some y)) M1
theorem V9 {i j : Nat} {t : TA} {a : AA} (h : xG t a) : kA (BR i j t) (DF i j a) := ⟨fun _ w e x q E => h.go w e q fun ys M1 vs H1 O1 q1 k1 w1 r1 => by
 obtain ⟨y, z, rfl, q2⟩ := q1
 obtain ⟨v1, r', rfl, a1, r2⟩ := r1.cons_inv
 obtain ⟨v2, r', rfl, a2, r3⟩ := r2.cons_inv
 rw [r3.nil_inv]
 exact ⟨v1, v2, rfl, E.nx _ _ _ _ _ w1 (((e.ext k1).set a1 i).set a2 j) (x.trans k1) q2⟩⟩
structure DX (t : TIp) (a : AR2) : Prop where
 go : ∀ {x y : V} {dx dy : AV} {H : Hp} {O : Own} {M : MH} {Q : VK} {Q' : AK}, Wf H O M -> zA H O M x dx -> zA H O M y dy -> a dx dy M Q' -> (∀ x M' v H' O', Q' x M' -> Ext H O M H' O' M' -> Wf H' O' M' -> zA H' O' M' v x -> Q v H') -> t x y H Q
def wx (J : It) (H : Hp) (O : Own) (M : MH) (l : List AV) (G : MH -> Prop) : Prop :=
 ∀ (H' : Hp) (O' : Own) (M' : MH), (∀ a o, ¬ O a -> H a = some o -> H' a = some o /\ ¬ O' a) -> (∀ a, M a ≠ none -> M' a ≠ none) -> Wf H' O' M' -> G M' -> ∀ i : Nat, (i = l.length -> J.stop i H') /\
  ∀ y, l[i]? = some y -> J.go i H' /\ ∀ x H'', J.yld i H' x H'' -> Ext H' O' M' H'' O' M' /\ Wf H'' O' M' /\ zA H'' O' M' x y
structure K5 (wi : TI) (ai : AI) : Prop where
 go : ∀ {σ : St} {H : Hp} {O : Own} {ρ : ASt} {M : MH} {R : It -> Hp -> Prop} {R' : List AV -> (MH -> Prop) -> MH -> Prop}, Wf H O M -> Er H O M σ ρ -> ai ρ M R' -> (∀ l G M' J H' O', R' l G M' -> Ext H O M H' O' M' -> Wf H' O' M' -> wx J H' O' M' l G -> R J H') -> wi σ H R
def WG (ag : AG) (ab : AS) (B : MH) (D : ye) (G : MH -> Prop) (l : List AV) (ρ : ASt) (M : MH) : Prop :=
 ∃ Pv : Nat -> ASt -> MH -> Prop, Pv 0 ρ M /\ (∀ i x ρ M, l[i]? = some x -> Pv i ρ M -> G M /\ ag x ρ M fun ρ' M' => ab B { D with nx := Pv (i + 1), ct := Pv (i + 1), bk := D.nx } ρ' M') /\ ∀ ρ M, Pv l.length ρ M -> G M /\ D.nx ρ M
def Dv (ai : AI) (ag : AG) (ab : AS) : AS := fun _ D ρ M => ai ρ M fun l G M1 => WG ag ab M1 D G l ρ M1
theorem V0 {wi : TI} {g : TG} {t : TS} {ai : AI} {ag : AG} {ab : AS} (hi : K5 wi ai) (hg : vK g ag) (hb : kA t ab) : kA (Bt wi g t) (Dv ai ag ab) := ⟨fun {H0 O0 M0 D D' σ H O ρ M} w0 w e x q E => by
 rw [JG]
 refine hi.go w e q fun l G M1 J H1 O1 q1 k1 w1 hj => ?_
 have E1 := E.tr (x.trans k1)
 obtain ⟨Pv, p0, ps, pd⟩ := q1
 refine ⟨fun i m σ H => m = l.length - i /\ i <= l.length /\ ∃ O ρ M, Wf H O M /\ Er H O M σ ρ /\ Ext H1 O1 M1 H O M /\ Pv i ρ M, ⟨l.length, by simp, Nat.zero_le _, O1, ρ, M1, w1, e.ext k1, .refl, p0⟩, ?_⟩
 rintro i m σ H ⟨rfl, hi, O, ρ, M, w, e, x, hf⟩
 by_cases hil : i < l.length
 ·have hy : l[i]? = some l[i] := List.getElem?_eq_getElem hil
  obtain ⟨hG, q2⟩ := ps i l[i] ρ M hy hf
  obtain ⟨j1, j2⟩ := (hj H O M x.fix x.mst w hG i).2 l[i] hy
  refine .inr ⟨j1, fun σ' H' => ∃ O ρ M, Wf H' O M /\ Er H' O M σ' ρ /\ Ext H1 O1 M1 H' O M /\ Pv (i + 1) ρ M, fun σ' H' z => ⟨l.length - (i + 1), by omega, rfl, hil, z⟩, fun v H' hv => ?_⟩
  obtain ⟨k2, w2, r2⟩ := j2 v H' hv
  refine hg.go w2 (e.ext k2) r2 q2 fun σ3 H3 O3 ρ3 M3 q3 k3 w3 e3 => ?_
  exact hb.go w1 w3 e3 ((x.trans k2).trans k3) q3 ⟨fun σ H O ρ M w e x q => ⟨O, ρ, M, w, e, x, q⟩, E1.rt, E1.nx, fun σ H O ρ M w e x q => ⟨O, ρ, M, w, e, x, q⟩⟩
 ·have e0 : i = l.length := by omega
  subst e0
  obtain ⟨hG, q2⟩ := pd ρ M hf
  exact .inl ⟨(hj H O M x.fix x.mst w hG l.length).1 rfl, E1.nx _ _ _ _ _ w e x q2⟩⟩
end L2
set_option Elab.async false
set_option linter.all false
set_option maxRecDepth 100000
set_option maxHeartbeats 4000000
namespace L2
open PySem PySem.Spec PyProof.Rows
theorem kL {H H1 : Hp} {O O1 : Own} {M M1 : MH} (w1 : Wf H1 O1 M1) (k1 : Ext H O M H1 O1 M1) {p : Addr} (hp : H1 p = none) : H p = none := by
 cases e0 : H p with
 | none => rfl
 | some o =>
  exfalso
  by_cases c : O p
  ·by_cases c2 : M p = none
   ·exact w1.ne p (k1.prv p c c2).2.1 hp
   ·exact w1.ne p (w1.own p (k1.mst p c2)) hp
  ·rw [(k1.fix p o c e0).1] at hp; cases hp
theorem JS {K : PySem.W.Frag} {H : Hp} {O : Own} {M : MH} {a : Addr} {x : AV} {l : List AV} (r : zA H O M (.ref a) x) (h : qZ x M = some l) : wx (Itl K a) H O M l (fun M' => qZ x M' = some l) := by
 intro H' O' M' fix mst w' hG i
 obtain ⟨a', xs, e, h1, r1⟩ := jc w' (r.imp fix mst) hG
 cases e
 refine ⟨fun e => ⟨xs, SqL.of h1, by rw [r1.1]; omega⟩, fun y hy => ?_⟩
 obtain ⟨v, hv, rv⟩ := r1.get hy
 refine ⟨⟨xs, v, SqL.of h1, hv⟩, fun z H'' hz => ?_⟩
 obtain ⟨e1, e2⟩ := hz
 subst e1
 have := e2 xs (SqL.of h1)
 rw [hv] at this; cases this
 exact ⟨.refl, w', rv⟩
theorem Xr {K : PySem.W.Frag} {H : Hp} {O : Own} {M : MH} {a : Addr} {x : AV} {l : List AV} (r : zA H O M (.ref a) x) (h : AM x = some l) : wx (Itt K a) H O M l (fun _ => True) := by
 intro H' O' M' fix mst w' hG i
 obtain ⟨a', xs, e, h1, r1⟩ := vN (r.imp fix mst) h
 cases e
 refine ⟨fun e => ⟨xs, SqT.of h1, by rw [r1.1]; omega⟩, fun y hy => ?_⟩
 obtain ⟨v, hv, rv⟩ := r1.get hy
 refine ⟨⟨xs, v, SqT.of h1, hv⟩, fun z H'' hz => ?_⟩
 obtain ⟨e1, e2⟩ := hz
 subst e1
 have := e2 xs (SqT.of h1)
 rw [hv] at this; cases this
 exact ⟨.refl, w', rv⟩
def aiS (a : AE) : AI := fun ρ M R => a ρ M fun x M1 => ∃ l, qq x M1 = some l /\ R l (fun M' => qq x M' = some l) M1
theorem wx.mono {J : It} {H : Hp} {O : Own} {M : MH} {l : List AV} {G G' : MH -> Prop} (h : wx J H O M l G) (k : ∀ M, G' M -> G M) : wx J H O M l G' := fun H' O' M' fix mst w' hG => h H' O' M' fix mst w' (k _ hG)
theorem Az {K : PySem.W.Frag} {t : TE} {a : AE} (h : zX t a) : K5 (iLT K t) (aiS a) := ⟨fun w e q k => h.go w e q fun x M1 v H1 O1 ⟨l, hl, q1⟩ k1 w1 r1 => by
 rcases xc hl with hl' | ⟨m, rfl, rfl⟩
 ·obtain ⟨a, xs, rfl, h1, _⟩ := jc w1 r1 hl'
  refine ⟨a, rfl, .inl ⟨⟨xs, SqL.of h1⟩, k _ _ _ _ _ _ q1 k1 w1 ((JS r1 hl').mono fun M hM => ?_)⟩⟩
  rcases xc hM with z | ⟨m, rfl, rfl⟩
  ·exact z
  ·cases hl'
 ·obtain ⟨a, xs, rfl, h1, _⟩ := vN (l := m.map .d) r1 rfl
  exact ⟨a, rfl, .inr ⟨⟨xs, SqT.of h1⟩, k _ _ _ _ _ _ q1 k1 w1 ((Xr r1 rfl).mono fun _ _ => trivial)⟩⟩⟩
def Qx (lo c : Int) (n : Nat) : List AV := (List.range n).map fun (k : Nat) => .d (.int (lo + (k : Int) * c))
theorem jZ (lo c : Int) (n : Nat) : (Qx lo c n).length = n := by simp [Qx]
theorem kT {lo c : Int} {n i : Nat} {y : AV} (h : (Qx lo c n)[i]? = some y) : i < n /\ y = .d (.int (lo + (i : Int) * c)) := by
 have hi := (List.getElem?_eq_some_iff.mp h).1
 rw [jZ] at hi
 unfold Qx at h
 rw [List.getElem?_map, List.getElem?_range hi] at h
 cases h
 exact ⟨hi, rfl⟩
theorem YJ {H : Hp} {O : Own} {M : MH} (lo : Int) (n : Nat) : wx (Itr lo n) H O M (Qx lo 1 n) (fun _ => True) := by
 intro H' O' M' fix mst w' hG i
 refine ⟨fun e => by rw [jZ] at e; exact Nat.le_of_eq e.symm, fun y hy => ?_⟩
 obtain ⟨hi, rfl⟩ := kT hy
 refine ⟨hi, fun z H'' hz => ?_⟩
 obtain ⟨rfl, rfl⟩ := hz
 rw [Int.mul_one]
 exact ⟨.refl, w', .int⟩
def Dj (a : AA) : AI := fun ρ M R => a ρ M fun xs M1 => ∃ j : Int, xs = [.d (.int j)] /\ -(2 ^ 62) <= j /\ j < 2 ^ 62 /\ R (Qx 0 1 j.toNat) (fun _ => True) M1
theorem Wn {t : TA} {a : AA} (h : xG t a) : K5 (Xb t) (Dj a) := ⟨fun w e q k => h.go w e q fun x M1 v H1 O1 ⟨j, e1, j1, j2, q1⟩ k1 w1 r1 => by
 subst e1
 obtain ⟨v1, r', rfl, a1, r2⟩ := r1.cons_inv
 rw [r2.nil_inv, zK a1]
 exact ⟨j, rfl, j1, j2, k _ _ _ _ _ _ q1 k1 w1 (YJ _ _)⟩⟩
structure xJ (D : Addr) (H : Hp) (O : Own) (M : MH) (H' : Hp) (O' : Own) (M' : MH) : Prop where
 fix : ∀ a o, ¬ O a -> H a = some o -> H' a = some o /\ ¬ O' a
 prv : ∀ a, a ≠ D -> O a -> M a = none -> H' a = H a /\ O' a /\ M' a = none
 mst : ∀ a, M a ≠ none -> M' a ≠ none
theorem Ext.x {D : Addr} {H H' : Hp} {O O' : Own} {M M' : MH} (k : Ext H O M H' O' M') : xJ D H O M H' O' M' := ⟨k.fix, fun a _ => k.prv a, k.mst⟩
theorem xJ.trans {D : Addr} {H H1 H2 : Hp} {O O1 O2 : Own} {M M1 M2 : MH} (a : xJ D H O M H1 O1 M1) (b : xJ D H1 O1 M1 H2 O2 M2) : xJ D H O M H2 O2 M2 :=
 ⟨fun x o h e => let ⟨e1, h1⟩ := a.fix x o h e; b.fix x o h1 e1, fun x hx h e => by
  obtain ⟨e1, h1, n1⟩ := a.prv x hx h e
  obtain ⟨e2, h2, n2⟩ := b.prv x hx h1 n1
  exact ⟨e2.trans e1, h2, n2⟩, fun x h => b.mst x (a.mst x h)⟩
theorem xJ.set {D : Addr} {H : Hp} {O : Own} {M : MH} (hO : O D) (o : HO) : xJ D H O M (upd H D o) O M := ⟨xU hO o, fun a ha h e => ⟨zk ha, h, e⟩, fun _ h => h⟩
theorem Er.imp {H H' : Hp} {O O' : Own} {M M' : MH} {σ : St} {ρ : ASt} (e : Er H O M σ ρ) (k : ∀ a o, ¬ O a -> H a = some o -> H' a = some o /\ ¬ O' a) (hm : ∀ a, M a ≠ none -> M' a ≠ none) : Er H' O' M' σ ρ := ⟨e.len, fun i x h => let ⟨v, h1, h2⟩ := e.get i x h; ⟨v, h1, h2.imp k hm⟩⟩
abbrev ATR := List AV -> ASt -> MH -> (List AV -> ASt -> MH -> Prop) -> Prop
structure Ja (D : Addr) (tr : TR) (a : ATR) : Prop where
 go : ∀ {σ : St} {H : Hp} {O : Own} {ρ : ASt} {M : MH} {acc : List AV} {ys : List V} {N : St -> Hp -> Prop} {N' : List AV -> ASt -> MH -> Prop}, Wf H O M -> Er H O M σ ρ -> O D -> M D = none -> H D = some (.lst ys) -> zi H O M ys acc -> a acc ρ M N' ->
  (∀ acc' ρ' M' σ' H' O' ys', N' acc' ρ' M' -> xJ D H O M H' O' M' -> Wf H' O' M' -> Er H' O' M' σ' ρ' -> O' D -> M' D = none -> H' D = some (.lst ys') -> zi H' O' M' ys' acc' -> N σ' H') -> tr σ H N
def va (a : AE) : ATR := fun acc ρ M N => a ρ M fun x M1 => acc.length < sizeLine /\ N (acc ++ [x]) ρ M1
theorem ZZ {D : Addr} {t : TE} {a : AE} (h : zX t a) : Ja D (Z0 t D) (va a) := ⟨fun {σ H O ρ M acc ys N N'} w e o m hd r q k => h.go w e q fun x M1 v H1 O1 ⟨q0, q1⟩ k1 w1 r1 => by
 obtain ⟨e1, o1, m1⟩ := k1.prv D o m
 have r' := r.ext k1
 refine ⟨ys, e1.trans hd, by rw [r.1]; exact q0, k _ _ _ _ _ _ (ys ++ [v]) q1 (k1.x.trans (xJ.set o1 _)) (Z4 w1 o1 m1 (e1.trans hd) _ (fun _ z => nomatch z)) ((e.ext k1).imp (xU o1 _) (fun _ z => z)) o1 m1 zd ((r'.snoc r1).imp (xU o1 _) (fun _ z => z))⟩⟩
def KG (ag : AG) (at_ : AT) (tr : ATR) (G : MH -> Prop) (N : List AV -> ASt -> MH -> Prop) (l acc : List AV) (ρ : ASt) (M : MH) : Prop :=
 ∃ Pv : Nat -> List AV -> ASt -> MH -> Prop, Pv 0 acc ρ M /\ (∀ i x acc ρ M, l[i]? = some x -> Pv i acc ρ M -> G M /\ ag x ρ M fun ρ2 M2 => at_ ρ2 M2 fun b M3 => if b = true then tr acc ρ2 M3 (Pv (i + 1)) else Pv (i + 1) acc ρ2 M3) /\ ∀ acc ρ M, Pv l.length acc ρ M -> G M /\ N acc ρ M
theorem Af {D : Addr} {g : TG} {tt : TT} {tr : TR} {ag : AG} {at_ : AT} {atr : ATR} (hg : vK g ag) (ht : xH tt at_) (hr : Ja D tr atr) {J : It} {H1 : Hp} {O1 : Own} {M1 : MH} {l : List AV} {G : MH -> Prop} (hj : wx J H1 O1 M1 l G) {N' : List AV -> ASt -> MH -> Prop} {N : St -> Hp -> Prop}
  {σ : St} {ρ : ASt} {acc : List AV} {ys : List V} (w : Wf H1 O1 M1) (e : Er H1 O1 M1 σ ρ) (o : O1 D) (m : M1 D = none) (hd : H1 D = some (.lst ys)) (r : zi H1 O1 M1 ys acc) (q : KG ag at_ atr G N' l acc ρ M1)
  (k : ∀ acc' ρ' M' σ' H' O' ys', N' acc' ρ' M' -> xJ D H1 O1 M1 H' O' M' -> Wf H' O' M' -> Er H' O' M' σ' ρ' -> O' D -> M' D = none -> H' D = some (.lst ys') -> zi H' O' M' ys' acc' -> N σ' H') : CL J g tt tr N σ H1 := by
 obtain ⟨Pv, p0, ps, pd⟩ := q
 refine ⟨fun i n σ H => n = l.length - i /\ i <= l.length /\ ∃ O ρ M acc ys, Wf H O M /\ Er H O M σ ρ /\ xJ D H1 O1 M1 H O M /\ O D /\ M D = none /\ H D = some (.lst ys) /\ zi H O M ys acc /\ Pv i acc ρ M,
  ⟨l.length, by simp, Nat.zero_le _, O1, ρ, M1, acc, ys, w, e, Ext.refl.x, o, m, hd, r, p0⟩, ?_⟩
 rintro i n σ H ⟨rfl, hi, O, ρ, M, acc, ys, w, e, x, o, m, hd, r, hf⟩
 by_cases hil : i < l.length
 ·have hy : l[i]? = some l[i] := List.getElem?_eq_getElem hil
  obtain ⟨hG, q2⟩ := ps i l[i] acc ρ M hy hf
  obtain ⟨j1, j2⟩ := (hj H O M x.fix x.mst w hG i).2 l[i] hy
  refine .inr ⟨j1, fun σ' H' => ∃ O ρ M acc ys, Wf H' O M /\ Er H' O M σ' ρ /\ xJ D H1 O1 M1 H' O M /\ O D /\ M D = none /\ H' D = some (.lst ys) /\ zi H' O M ys acc /\ Pv (i + 1) acc ρ M, fun σ' H' z => ⟨l.length - (i + 1), by omega, rfl, hil, z⟩, fun v H' hv => ?_⟩
  obtain ⟨k2, w2, r2⟩ := j2 v H' hv
  refine hg.go w2 (e.ext k2) r2 q2 fun σ3 H3 O3 ρ3 M3 q3 k3 w3 e3 => ?_
  refine ht.go w3 e3 q3 fun b M4 H4 O4 q4 k4 w4 => ?_
  have k24 := (k2.trans k3).trans k4
  obtain ⟨d4, o4, m4⟩ := k24.prv D o m
  have r4 := r.ext k24
  cases b with
  | true =>
   exact hr.go w4 (e3.ext k4) o4 m4 (d4.trans hd) r4 q4 fun acc' ρ' M' σ' H' O' ys' q5 k5 w5 e5 o5 m5 d5 r5 => ⟨O', ρ', M', acc', ys', w5, e5, (x.trans k24.x).trans k5, o5, m5, d5, r5, q5⟩
  | false =>
   exact ⟨O4, ρ3, M4, acc, ys, w4, e3.ext k4, x.trans k24.x, o4, m4, d4.trans hd, r4, q4⟩
 ·have e0 : i = l.length := by omega
  subst e0
  obtain ⟨hG, q2⟩ := pd acc ρ M hf
  exact .inl ⟨(hj H O M x.fix x.mst w hG l.length).1 rfl, k _ _ _ _ _ _ _ q2 x w e o m hd r⟩
def YZ (ts : List Nat) (ai : AI) (ag : AG) (at_ : AT) (atr : ATR) : AF := fun ρ M Q => ai ρ M fun l G M1 => KG ag at_ atr G (fun acc _ M' => Q acc M') l [] (Wr ts ρ) M1
theorem QB {ts : List Nat} {wi : TI} {g : TG} {tt : TT} {tr : Addr -> TR} {ai : AI} {ag : AG} {at_ : AT} {atr : ATR} (hi : K5 wi ai) (hg : vK g ag) (ht : xH tt at_) (hr : ∀ D, Ja D (tr D) atr) : Zw (Yx ts wi g tt tr) (YZ ts ai ag at_ atr) := ⟨fun {σ H O ρ M Q Q'} w e q k => by
 refine hi.go w e q fun l G M1 J H1 O1 q1 k1 w1 hj D hD => ?_
 have kp := qL w1 hD (.lst [])
 have hj' : wx J (upd H1 D (.lst [])) (J5 O1 D) M1 l G := fun H' O' M' fix mst w' hG => hj H' O' M' (fun a o ha ho => fix a o (kp.fix a o ha ho).2 (kp.fix a o ha ho).1) mst w' hG
 refine Af hg ht (hr D) hj' (yg w1 hD _ (fun _ z => nomatch z)) (((e.ext k1).clr ts).ext kp) (.inl rfl) (w1.fresh hD).2 zd .nil q1 fun acc' ρ' M' σ' H' O' ys' q5 k5 w5 e5 o5 m5 d5 r5 => ?_
 have hH := kL w1 k1 hD
 refine k _ _ _ _ _ _ q5 ⟨fun a o ha ho => ?_, fun a ha hm => ?_, fun a hm => k5.mst a (k1.mst a hm)⟩ w5 o5 m5 hH d5 r5
 ·obtain ⟨x1, x2⟩ := (k1.trans kp).fix a o ha ho
  exact k5.fix a o x2 x1
 ·obtain ⟨x1, x2, x3⟩ := (k1.trans kp).prv a ha hm
  obtain ⟨y1, y2, y3⟩ := k5.prv a (fun z => w.ne a ha (by rw [z]; exact hH)) x2 x3
  exact ⟨y1.trans x1, y2, y3⟩⟩
theorem J7 {ts : List Nat} {wi : TI} {g : TG} {tt : TT} {te : TE} {ai : AI} {ag : AG} {at_ : AT} {ae : AE} (hi : K5 wi ai) (hg : vK g ag) (ht : xH tt at_) (he : zX te ae) : Zw (Zr ts wi g tt te) (YZ ts ai ag at_ (va ae)) :=
 ⟨fun w e q k => (QB (ts := ts) (tr := Z0 te) hi hg ht fun D => ZZ he).go w e q k⟩
end L2
set_option Elab.async false
set_option linter.all false
set_option maxRecDepth 100000
set_option maxHeartbeats 4000000
namespace L2
open PySem PySem.Spec PyProof.Rows
def aI (C : Int -> Int -> Prop) (g : Int -> Int -> Dat) : AR2 := fun x y M Q => ∃ i j, x = .d (.int i) /\ y = .d (.int j) /\ C i j /\ Q (.d (g i j)) M
def aI0 (g : Int -> Int -> Dat) : AR2 := fun x y M Q => ∃ i j, x = .d (.int i) /\ y = .d (.int j) /\ Q (.d (g i j)) M
theorem BE {C : Int -> Int -> Prop} {f : Int -> Int -> Int} : ZH (rI C fun i j => .int (f i j)) (aI C fun i j => .int (f i j)) := ⟨fun w r1 r2 ⟨i, j, e1, e2, c, q⟩ k => by
 subst e1 e2; exact ⟨i, j, zK r1, zK r2, c, k _ _ _ _ _ q .refl w .int⟩⟩
theorem Vj {f : Int -> Int -> Int} : ZH (rI0 fun i j => .int (f i j)) (aI0 fun i j => .int (f i j)) := ⟨fun w r1 r2 ⟨i, j, e1, e2, q⟩ k => by
 subst e1 e2; exact ⟨i, j, zK r1, zK r2, k _ _ _ _ _ q .refl w .int⟩⟩
theorem XC {f : Int -> Int -> Bool} : ZH (rI0 fun i j => .bl (f i j)) (aI0 fun i j => .bl (f i j)) := ⟨fun w r1 r2 ⟨i, j, e1, e2, q⟩ k => by
 subst e1 e2; exact ⟨i, j, zK r1, zK r2, k _ _ _ _ _ q .refl w .bl⟩⟩
def aU (g : Int -> Dat) : AV -> MH -> AK -> Prop := fun x M Q => ∃ i, x = .d (.int i) /\ Q (.d (g i)) M
theorem A9 {f : Int -> Int} : Dm (rU fun i => .int (f i)) (aU fun i => .int (f i)) := ⟨fun w r1 ⟨i, e1, q⟩ k => by
 subst e1; exact ⟨i, zK r1, k _ _ _ _ _ q .refl w .int⟩⟩
def eqS : Dat -> Dat -> Option Bool
 | .non, .non => some true | .non, .int _ => some false | .int _, .non => some false | .non, .bl _ => some false | .bl _, .non => some false | .non, .str _ => some false | .str _, .non => some false
 | .int i, .int j => some (decide (i = j)) | .bl a, .bl b => some (decide (a = b)) | .str a, .str b => some (decide (a = b))
 | .int _, .str _ => some false | .str _, .int _ => some false | .bl _, .str _ => some false | .str _, .bl _ => some false
 | _, _ => none
def xF : AV -> Bool
 | .d .non => true
 | _ => false
theorem VU {H : Hp} {O : Own} {M : MH} {xs : List V} {l : List AV} (r : zi H O M xs l) {i : Int} {x : AV} (h : atI l i = some x) : ∃ v, atI xs i = some v /\ zA H O M v x := by
 unfold atI at h ⊢
 rw [r.1]
 cases e : ixN l.length i with
 | none => rw [e] at h; cases h
 | some j => rw [e] at h; exact r.get h
def aIx (s : AV -> MH -> Option (List AV)) : AR2 := fun x y M Q => ∃ l i z, s x M = some l /\ y = .d (.int i) /\ atI l i = some z /\ Q z M
theorem Xv {K : PySem.W.Frag} : ZH (Q7 K) (aIx qq) := ⟨fun w r1 r2 ⟨l, i, z, h, e, hz, q⟩ k => by
 subst e
 obtain ⟨a, xs, rfl, h1, r⟩ := wz w r1 h
 obtain ⟨v, hv, rv⟩ := VU r hz
 exact ⟨a, xs, i, v, rfl, zK r2, h1.elim (fun h => .inl (SqL.of h)) (fun h => .inr (SqT.of h)), hv, k _ _ _ _ _ q .refl w rv⟩⟩
structure YW (r : R2) (a : AV -> AV -> MH -> (List AV -> Prop) -> Prop) : Prop where
 go : ∀ {x y : V} {dx dy : AV} {H : Hp} {O : Own} {M : MH} {Q : VK} {Q' : List AV -> Prop}, Wf H O M -> zA H O M x dx -> zA H O M y dy -> a dx dy M Q' -> (∀ l ys, Q' l -> zi H O M ys l -> ∀ p, H p = none -> Q (.ref p) (upd H p (.lst ys))) -> r x y H Q
def fOp (r : AV -> AV -> MH -> (List AV -> Prop) -> Prop) (a b : AE) : AF := fun ρ M Q => a ρ M fun x M1 => b ρ M1 fun y M2 => r x y M2 fun l => Q l M2
theorem wd {r : R2} {ra : AV -> AV -> MH -> (List AV -> Prop) -> Prop} {t u : TE} {a b : AE} (hr : YW r ra) (h1 : zX t a) (h2 : zX u b) : Zw (tOp r t u) (fOp ra a b) :=
 ⟨fun w e q k => h1.go w e q fun x M1 v H1 O1 q1 k1 w1 r1 => h2.go w1 (e.ext k1) q1 fun y M2 u H2 O2 q2 k2 w2 r2 => hr.go w2 (r1.ext k2) r2 q2 fun l ys q3 r3 p hp =>
  k l M2 p ys _ _ q3 ((k1.trans k2).trans (qL w2 hp _)) (yg w2 hp _ (fun _ z => nomatch z)) (.inl rfl) (w2.fresh hp).2 (kL w2 (k1.trans k2) hp) zd (r3.ext (qL w2 hp _))⟩
def BZ : AV -> AV -> MH -> (List AV -> Prop) -> Prop := fun x y M Q => ∃ l m, qZ x M = some l /\ qZ y M = some m /\ l.length + m.length <= sizeLine /\ Q (l ++ m)
theorem ZL : YW Vv BZ := ⟨fun w r1 r2 ⟨l, m, h1, h2, hs, q⟩ k => by
 obtain ⟨a, xs, rfl, e1, p1⟩ := jc w r1 h1
 obtain ⟨b, ys, rfl, e2, p2⟩ := jc w r2 h2
 exact ⟨a, b, xs, ys, rfl, rfl, e1, e2, by rw [p1.1, p2.1]; exact hs, k _ _ q (p1.append p2)⟩⟩
theorem zi.rep {H : Hp} {O : Own} {M : MH} {xs : List V} {l : List AV} (a : zi H O M xs l) : ∀ k : Nat, zi H O M (List.replicate k xs).flatten (List.replicate k l).flatten
 | 0 => .nil
 | k + 1 => by rw [List.replicate_succ, List.replicate_succ, List.flatten_cons, List.flatten_cons]; exact a.append (zi.rep a k)
def AL : AV -> AV -> MH -> (List AV -> Prop) -> Prop := fun x y M Q => ∃ l k, qZ x M = some l /\ y = .d (.int k) /\ -(2 ^ 63) <= k /\ k < 2 ^ 63 /\ l.length * k.toNat <= sizeLine /\ Q (List.replicate k.toNat l).flatten
theorem Zu : YW WC AL := ⟨fun w r1 r2 ⟨l, n, h1, e, b1, b2, hs, q⟩ k => by
 subst e
 obtain ⟨a, xs, rfl, e1, p1⟩ := jc w r1 h1
 exact ⟨a, n, xs, rfl, zK r2, e1, b1, b2, by rw [p1.1]; exact hs, k _ _ q (p1.rep _)⟩⟩
abbrev AO := ASt -> MH -> (Option Int -> MH -> Prop) -> Prop
structure VN (t : TO) (a : AO) : Prop where
 go : ∀ {σ : St} {H : Hp} {O : Own} {ρ : ASt} {M : MH} {Q : Option Int -> Hp -> Prop} {Q' : Option Int -> MH -> Prop}, Wf H O M -> Er H O M σ ρ -> a ρ M Q' -> (∀ x M' H' O', Q' x M' -> Ext H O M H' O' M' -> Wf H' O' M' -> Q x H') -> t σ H Q
def Dr : AO := fun _ M Q => Q none M
def WD (a : AE) : AO := fun ρ M Q => a ρ M fun x M1 => ∃ i, x = .d (.int i) /\ Q (some i) M1
theorem Vs : VN v9 Dr := ⟨fun w _ q k => k _ _ _ _ q .refl w⟩
theorem KW {t : TE} {a : AE} (h : zX t a) : VN (X7 t) (WD a) := ⟨fun w e q k => h.go w e q fun x M1 v H1 O1 ⟨i, e1, q1⟩ k1 w1 r1 => by
 subst e1; exact ⟨i, zK r1, k _ _ _ _ q1 k1 w1⟩⟩
def wl {α : Type} (xs : List α) (lo hi : Option Int) : List α := (xs.drop (HT.sIx xs.length 0 lo)).take (HT.sIx xs.length xs.length hi - HT.sIx xs.length 0 lo)
theorem zi.cut {H : Hp} {O : Own} {M : MH} {xs : List V} {l : List AV} (a : zi H O M xs l) (lo hi : Option Int) : zi H O M (wj xs lo hi) (wl l lo hi) := by
 unfold wj wl
 rw [a.1]
 exact (a.drop _).take _
theorem Xu {α β : Type} (f : α -> β) (l : List α) (lo hi : Option Int) : wl (l.map f) lo hi = (wl l lo hi).map f := by
 unfold wl
 rw [List.length_map, <- List.map_drop, <- List.map_take]
def fSl (a : AE) (lo hi : AO) : AF := fun ρ M Q => a ρ M fun x M1 => lo ρ M1 fun i M2 => hi ρ M2 fun j M3 => ∃ l, qZ x M3 = some l /\ Q (wl l i j) M3
theorem Vx {K : PySem.W.Frag} {t : TE} {tl th : TO} {a : AE} {lo hi : AO} (h1 : zX t a) (h2 : VN tl lo) (h3 : VN th hi) : Zw (tSl (Bd K) t tl th) (fSl a lo hi) :=
 ⟨fun w e q k => h1.go w e q fun x M1 v H1 O1 q1 k1 w1 r1 => h2.go w1 (e.ext k1) q1 fun i M2 H2 O2 q2 k2 w2 => h3.go w2 (e.ext (k1.trans k2)) q2 fun j M3 H3 O3 ⟨l, hl, q3⟩ k3 w3 => by
  obtain ⟨a, xs, rfl, e1, p1⟩ := jc w3 (r1.ext (k2.trans k3)) hl
  exact ⟨a, xs, rfl, SqL.of e1, fun p hp => k _ _ p _ _ _ q3 (((k1.trans k2).trans k3).trans (qL w3 hp _)) (yg w3 hp _ (fun _ z => nomatch z)) (.inl rfl) (w3.fresh hp).2 (kL w3 ((k1.trans k2).trans k3) hp) zd ((p1.cut i j).ext (qL w3 hp _))⟩⟩
end L2
set_option Elab.async false
set_option linter.all false
set_option maxRecDepth 100000
set_option maxHeartbeats 4000000
namespace L2
open PySem PySem.Spec PyProof.Rows
mutual
def eqD : Dat -> Dat -> Bool
 | .non, .non => true
 | .bl a, .bl b => a == b
 | .bl a, .int b => (if a then 1 else 0) == b
 | .int a, .bl b => a == (if b then 1 else 0)
 | .int a, .int b => a == b
 | .str a, .str b => a == b
 | .lst a, .lst b => ka a b
 | .tup a, .tup b => ka a b
 | _, _ => false
def ka : List Dat -> List Dat -> Bool
 | [], [] => true
 | a :: r, b :: r' => eqD a b && ka r r'
 | _, _ => false
end
mutual
def dp : Dat -> Nat
 | .lst l => dps l + 1
 | .tup l => dps l + 1
 | .rng _ _ _ => 1000
 | .scr _ _ => 1000
 | .ty _ => 1000
 | _ => 0
def dps : List Dat -> Nat
 | [] => 0
 | a :: r => max (dp a) (dps r)
end
theorem wq {l : List Dat} {n : Nat} (h : ∀ d ∈ l, dp d <= n) : dps l <= n := by
 induction l with
 | nil => exact Nat.zero_le _
 | cons a r ih => rw [dps]; exact Nat.max_le.mpr ⟨h a (by simp), ih fun d hd => h d (by simp [hd])⟩
theorem qi {l : List Dat} {d : Dat} (h : d ∈ l) : dp d <= dps l := by
 induction l with
 | nil => cases h
 | cons a r ih =>
  rw [dps]
  rcases List.mem_cons.mp h with rfl | h
  ·exact Nat.le_max_left _ _
  ·exact Nat.le_trans (ih h) (Nat.le_max_right _ _)
theorem j7 : ∀ (l m : List Dat), l.length = m.length -> ka l m = (List.range l.length).all fun j => eqD (l.getD j .non) (m.getD j .non)
 | [], [], _ => rfl
 | a :: r, b :: r', h => by
  rw [ka, j7 r r' (by simpa using h), List.length_cons, List.range_succ_eq_map, List.all_cons, List.all_map]; rfl
 | [], _ :: _, h => by simp at h
 | _ :: _, [], h => by simp at h
theorem j3 : ∀ (l m : List Dat), l.length ≠ m.length -> ka l m = false
 | [], [], h => absurd rfl h
 | a :: r, b :: r', h => by rw [ka, j3 r r' (fun z => h (by simp [z])), Bool.and_false]
 | [], _ :: _, h => by simp [ka]
 | _ :: _, [], h => by simp [ka]
theorem YC (l m : List Dat) : eqD (.lst l) (.tup m) = false := by simp [eqD]
theorem Xs (l m : List Dat) : eqD (.tup l) (.lst m) = false := by simp [eqD]
theorem VA {p : Dat -> Prop} (h : ∀ a, (∀ b, dp b < dp a -> p b) -> p a) (a : Dat) : p a := by
 have : ∀ n a, dp a <= n -> p a := fun n => by
  induction n with
  | zero => intro a ha; exact h a fun b hb => absurd hb (by omega)
  | succ n ih => intro a ha; exact h a fun b hb => ih b (by omega)
 exact this (dp a) a (Nat.le_refl _)
theorem yW {l : List Dat} (h : ∀ d ∈ l, eqD d d = true) : ka l l = true := by
 induction l with
 | nil => rfl
 | cons a r ih => rw [ka, h a (by simp), ih fun d hd => h d (by simp [hd])]; rfl
theorem X5 {a : Dat} : dp a < 1000 -> eqD a a = true := by
 refine VA (p := fun a => dp a < 1000 -> eqD a a = true) (fun a ih ha => ?_) a
 cases a with
 | non => rfl
 | bl b => rw [eqD]; simp
 | int i => rw [eqD]; simp
 | str x => rw [eqD]; simp
 | lst l =>
  rw [eqD]
  rw [dp] at ha ih
  exact yW fun d hd => ih d (by have := qi hd; omega) (by have := qi hd; omega)
 | tup l =>
  rw [eqD]
  rw [dp] at ha ih
  exact yW fun d hd => ih d (by have := qi hd; omega) (by have := qi hd; omega)
 | rng a b c => rw [dp] at ha; omega
 | scr _ l => rw [dp] at ha; omega
 | ty l => rw [dp] at ha; omega
theorem Rep.fn {H : Hp} {O O' : Own} {v : V} {a b : Dat} (r : Rep H O v a) : Rep H O' v b -> dp a < 1000 -> dp b < 1000 -> a = b := by
 induction r generalizing b with
 | non => intro r' _ _; cases r'; rfl
 | bl => intro r' _ _; cases r'; rfl
 | int => intro r' _ _; cases r'; rfl
 | str => intro r' _ _; cases r'; rfl
 | ty => intro r' h _; rw [dp] at h; omega
 | rng _ _ => intro r' h _; rw [dp] at h; omega
 | scr _ _ => intro r' h _; rw [dp] at h; omega
 | scrK _ => intro r' h _; rw [dp] at h; omega
 | @lst a xs l o1 h1 l1 r1 ih =>
  intro r' ha hb
  cases r' with
  | @lst _ ys m o2 h2 l2 r2 =>
   rw [h1] at h2; cases h2
   congr 1
   refine List.ext_getElem (l1.symm.trans l2) fun i i1 i2 => ?_
   have i0 : i < xs.length := by omega
   rw [dp] at ha hb
   refine ih i xs[i] l[i] (by simp [i0]) (by simp [i1]) (r2 i xs[i] m[i] (by simp [i0]) (by simp [i2])) ?_ ?_
   ·have := qi (List.getElem_mem i1); omega
   ·have := qi (List.getElem_mem i2); omega
  | @tup _ ys m o2 h2 => rw [h1] at h2; cases h2
  | rng o2 h2 => rw [dp] at hb; omega
  | scr o2 h2 => rw [dp] at hb; omega
  | scrK _ => rw [dp] at hb; omega
 | @tup a xs l o1 h1 l1 r1 ih =>
  intro r' ha hb
  cases r' with
  | @tup _ ys m o2 h2 l2 r2 =>
   rw [h1] at h2; cases h2
   congr 1
   refine List.ext_getElem (l1.symm.trans l2) fun i i1 i2 => ?_
   have i0 : i < xs.length := by omega
   rw [dp] at ha hb
   refine ih i xs[i] l[i] (by simp [i0]) (by simp [i1]) (r2 i xs[i] m[i] (by simp [i0]) (by simp [i2])) ?_ ?_
   ·have := qi (List.getElem_mem i1); omega
   ·have := qi (List.getElem_mem i2); omega
  | @lst _ ys m o2 h2 => rw [h1] at h2; cases h2
  | rng o2 h2 => rw [dp] at hb; omega
  | scr o2 h2 => rw [dp] at hb; omega
  | scrK _ => rw [dp] at hb; omega
section
variable {X : Cx} {pins : List (Addr × Obj)} {s : Shared} {σ : St} {H : Hp}
theorem jW {xs : List V} {us : List Value} (r : zC xs us) {j : Nat} (h : j < us.toArray.size) : ∃ x, xs[j]? = some x /\ zF x us.toArray[j] := by
 have h' : j < us.length := by simpa using h
 have hx : j < xs.length := by rw [r.length]; exact h'
 obtain ⟨u, hu, ru⟩ := r.get (i := j) (List.getElem?_eq_getElem hx)
 have e : us.toArray[j] = u := by
  have := (List.getElem?_eq_some_iff.mp hu).2
  simpa using this
 exact ⟨xs[j], List.getElem?_eq_getElem hx, by rw [e]; exact ru⟩
theorem K1 (I : Inv X pins σ H s) {A : Around} {p q : Addr} {O O' : Own} {a b : Dat} (ih : ∀ (c d : Dat) (v u : V) (v' u' : Value), dp c < dp a -> Rep H O v c -> Rep H O' u d -> dp d < 1000 -> zF v v' -> zF u u' -> SeqAt.EqAt A.in1 s v' u' (eqD c d))
    (ra : Rep H O (.ref p) a) (rb : Rep H O' (.ref q) b) (ha : dp a < 1000) (hb : dp b < 1000) (hu : A.units < cLine) : SeqAt.RcAt A s (.ref p) (.ref q) (eqD a b) := by
  cases ra with
  | @lst _ xs l o1 h1 l1 r1 =>
    obtain ⟨us, u1, p1, z1⟩ := I.list (SqL.of h1)
    cases rb with
    | @lst _ ys m o2 h2 l2 r2 =>
      obtain ⟨ws, u2, p2, z2⟩ := I.list (SqL.of h2)
      have s1 : us.toArray.size = l.length := by rw [List.size_toArray, <- u1.length, l1]
      have s2 : ws.toArray.size = m.length := by rw [List.size_toArray, <- u2.length, l2]
      by_cases e : l.length = m.length
      · have h := SeqAt.RcAt.lists (A := A) (e := fun j => eqD (l.getD j .non) (m.getD j .non)) p1.isList p2.isList (by rw [s1, s2, e]) hu (fun j j1 j2 => by
          obtain ⟨x, hx, rx⟩ := jW u1 j1
          obtain ⟨y, hy, ry⟩ := jW u2 j2
          have k1 : j < l.length := by rw [<- s1]; exact j1
          have k2 : j < m.length := by rw [<- s2]; exact j2
          rw [dp] at ha hb ih
          refine ih _ _ x y _ _ ?_ (r1 j x _ hx ?_) (r2 j y _ hy ?_) ?_ rx ry
          · rw [List.getD_eq_getElem?_getD, List.getElem?_eq_getElem k1]
            have := qi (List.getElem_mem k1); show dp l[j] < _; omega
          · rw [List.getD_eq_getElem?_getD, List.getElem?_eq_getElem k1]; rfl
          · rw [List.getD_eq_getElem?_getD, List.getElem?_eq_getElem k2]; rfl
          · rw [List.getD_eq_getElem?_getD, List.getElem?_eq_getElem k2]
            have := qi (List.getElem_mem k2); show dp m[j] < _; omega)
        rw [s1, <- j7 l m e] at h
        rw [eqD]; exact h
      · rw [eqD, j3 l m e]
        exact SeqAt.RcAt.lists_lengths p1.isList p2.isList (by rw [s1, s2]; simpa using e) hu
    | @tup _ ys m o2 h2 l2 r2 =>
      obtain ⟨ws, u2, p2, z2⟩ := I.tuple (SqT.of h2)
      rw [YC]
      exact SeqAt.RcAt.list_tuple p1.isList p2 hu
    | rng o2 h2 => rw [dp] at hb; omega
    | scr o2 h2 => rw [dp] at hb; omega
    | scrK _ => rw [dp] at hb; omega
  | @tup _ xs l o1 h1 l1 r1 =>
    obtain ⟨us, u1, p1, z1⟩ := I.tuple (SqT.of h1)
    cases rb with
    | @tup _ ys m o2 h2 l2 r2 =>
      obtain ⟨ws, u2, p2, z2⟩ := I.tuple (SqT.of h2)
      have s1 : us.toArray.size = l.length := by rw [List.size_toArray, <- u1.length, l1]
      have s2 : ws.toArray.size = m.length := by rw [List.size_toArray, <- u2.length, l2]
      have h := SeqAt.RcAt.tuples (A := A) (e := fun j => eqD (l.getD j .non) (m.getD j .non)) (show s.heap.IsTuple p us.toArray from p1) (show s.heap.IsTuple q ws.toArray from p2) hu (fun j j1 j2 => by
          obtain ⟨x, hx, rx⟩ := jW u1 j1
          obtain ⟨y, hy, ry⟩ := jW u2 j2
          have k1 : j < l.length := by rw [<- s1]; exact j1
          have k2 : j < m.length := by rw [<- s2]; exact j2
          rw [dp] at ha hb ih
          refine ih _ _ x y _ _ ?_ (r1 j x _ hx ?_) (r2 j y _ hy ?_) ?_ rx ry
          · rw [List.getD_eq_getElem?_getD, List.getElem?_eq_getElem k1]
            have := qi (List.getElem_mem k1); show dp l[j] < _; omega
          · rw [List.getD_eq_getElem?_getD, List.getElem?_eq_getElem k1]; rfl
          · rw [List.getD_eq_getElem?_getD, List.getElem?_eq_getElem k2]; rfl
          · rw [List.getD_eq_getElem?_getD, List.getElem?_eq_getElem k2]
            have := qi (List.getElem_mem k2); show dp m[j] < _; omega)
      rw [s1, s2] at h
      rw [eqD]
      by_cases e : l.length = m.length
      · rw [<- e, Nat.min_self, beq_self_eq_true, Bool.and_true, <- j7 l m e] at h
        exact h
      · rw [j3 l m e]
        rw [show (l.length == m.length) = false by simpa using e, Bool.and_false] at h
        exact h
    | @lst _ ys m o2 h2 l2 r2 =>
      obtain ⟨ws, u2, p2, z2⟩ := I.list (SqL.of h2)
      rw [Xs]
      exact SeqAt.RcAt.tuple_list p1 p2.isList hu
    | rng o2 h2 => rw [dp] at hb; omega
    | scr o2 h2 => rw [dp] at hb; omega
    | scrK _ => rw [dp] at hb; omega
  | rng o2 h2 => rw [dp] at ha; omega
  | scr o2 h2 => rw [dp] at ha; omega
  | scrK _ => rw [dp] at ha; omega
theorem DW (I : Inv X pins σ H s) {a : Addr} {xs : List V} (h : H a = some (.lst xs)) : ∃ us, s.heap.IsList a us := let ⟨_, _, p, _⟩ := I.list (SqL.of h); ⟨_, p.isList⟩
theorem DK (I : Inv X pins σ H s) {a : Addr} {xs : List V} (h : H a = some (.tup xs)) : ∃ us, s.heap.IsTuple a us := let ⟨_, _, p, _⟩ := I.tuple (SqT.of h); ⟨_, p⟩
local macro_rules | `(tactic| walk_at "sc") => `(tactic| first
 | with_reducible exact .same _ | with_reducible exact .none_none | with_reducible exact .none_bool _ | with_reducible exact .none_int _ _ | with_reducible exact .none_str _ _ | with_reducible exact .bool_none _ | with_reducible exact .bool_bool _ _ | with_reducible exact .bool_int _ _ _ | with_reducible exact .bool_str _ _ _ | with_reducible exact .int_none _ _ | with_reducible exact .int_bool _ _ _ | with_reducible exact .int_int _ _ _ _ | with_reducible exact .int_str _ _ _ _ | with_reducible exact .str_none _ _ | with_reducible exact .str_bool _ _ _ | with_reducible exact .str_int _ _ _ _ | with_reducible exact .str_str _ _ _ _)
theorem ls_ (I : Inv X pins σ H s) {a : Addr} {xs : List V} (h : H a = some (.lst xs)) : s.heap.IsList a (Classical.choose (DW I h)) := Classical.choose_spec _
theorem ts_ (I : Inv X pins σ H s) {a : Addr} {xs : List V} (h : H a = some (.tup xs)) : s.heap.IsTuple a (Classical.choose (DK I h)) := Classical.choose_spec _
local macro_rules | `(tactic| walk_at "sq") => `(tactic| first
 | with_reducible exact .none_list (ls_ (by assumption) (by assumption)) (by assumption) | with_reducible exact .bool_list _ (ls_ (by assumption) (by assumption)) (by assumption) | with_reducible exact .int_list _ _ (ls_ (by assumption) (by assumption)) (by assumption) | with_reducible exact .str_list _ _ (ls_ (by assumption) (by assumption)) (by assumption) | with_reducible exact .list_none (ls_ (by assumption) (by assumption)) (by assumption) | with_reducible exact .list_bool _ (ls_ (by assumption) (by assumption)) (by assumption) | with_reducible exact .list_int _ _ (ls_ (by assumption) (by assumption)) (by assumption) | with_reducible exact .list_str _ _ (ls_ (by assumption) (by assumption)) (by assumption)
 | with_reducible exact .none_tuple (ts_ (by assumption) (by assumption)) (by assumption) | with_reducible exact .bool_tuple _ (ts_ (by assumption) (by assumption)) (by assumption) | with_reducible exact .int_tuple _ _ (ts_ (by assumption) (by assumption)) (by assumption) | with_reducible exact .str_tuple _ _ (ts_ (by assumption) (by assumption)) (by assumption) | with_reducible exact .tuple_none (ts_ (by assumption) (by assumption)) (by assumption) | with_reducible exact .tuple_bool _ (ts_ (by assumption) (by assumption)) (by assumption) | with_reducible exact .tuple_int _ _ (ts_ (by assumption) (by assumption)) (by assumption) | with_reducible exact .tuple_str _ _ (ts_ (by assumption) (by assumption)) (by assumption))
theorem JB (I : Inv X pins σ H s) {O O' : Own} (A : Around) (hu : A.units < cLine) (a b : Dat) (v u : V) (v' u' : Value) (ha : dp a < 1000) (ra : Rep H O v a) (rb : Rep H O' u b) (hb : dp b < 1000) (rv : zF v v') (ru : zF u u')
    (ih : ∀ (c d : Dat) (v u : V) (v' u' : Value), dp c < dp a -> Rep H O v c -> Rep H O' u d -> dp d < 1000 -> zF v v' -> zF u u' -> SeqAt.EqAt A.in1 s v' u' (eqD c d)) : SeqAt.EqAt A s v' u' (eqD a b) := by
  by_cases hr : ∃ p q, v = .ref p /\ u = .ref q
  · obtain ⟨p, q, rfl, rfl⟩ := hr
    cases rv
    cases ru
    by_cases e : p = q
    · subst e
      rw [<- ra.fn rb ha hb, X5 ha]
      exact .same _
    · exact .of_refs e (K1 I ih ra rb ha hb hu)
  · cases ra <;> cases rb <;> first
      | with_reducible exact absurd ⟨_, _, rfl, rfl⟩ hr
      | (rw [dp] at ha; omega)
      | (rw [dp] at hb; omega)
      | ((first | (obtain ⟨t0, rfl⟩ := rv) | cases rv); (first | (obtain ⟨t1, rfl⟩ := ru) | cases ru); simp only [eqD, Bool.not_false, Bool.not_true]; first | walk_at "sc" | walk_at "sq")
theorem Yr (I : Inv X pins σ H s) {O O' : Own} : ∀ (n : Nat) (A : Around), A.units + n < cLine -> ∀ (a b : Dat) (v u : V) (v' u' : Value), dp a <= n -> n < 1000 -> Rep H O v a -> Rep H O' u b -> dp b < 1000 -> zF v v' -> zF u u' -> SeqAt.EqAt A s v' u' (eqD a b) := by
 intro n
 induction n with
 | zero =>
  intro A hu a b v u v' u' ha _ ra rb hb rv ru
  exact JB I A (by omega) a b v u v' u' (by omega) ra rb hb rv ru fun _ _ _ _ _ _ h => absurd h (by omega)
 | succ n ih =>
  intro A hu a b v u v' u' ha hn ra rb hb rv ru
  exact JB I A (by omega) a b v u v' u' (by omega) ra rb hb rv ru fun c d x y x' y' hc rc rd hd rx ry => ih A.in1 (by show A.units + 1 + n < _; omega) c d x y x' y' (by omega) (by omega) rc rd hd rx ry
def Ad (f : Bool -> Bool) : R2 := fun x y H Q => ∃ O O' a b, Rep H O x a /\ Rep H O' y b /\ dp a <= 40 /\ dp b <= 40 /\ Q (.bl (f (eqD a b))) H
theorem BI (I : Inv X pins σ H s) {O O' : Own} (A : Around) (hu : A.units + 41 < cLine) (a b : Dat) (v u : V) (v' u' : Value) (ha : dp a <= 40) (ra : Rep H O v a) (rb : Rep H O' u b) (hb : dp b <= 40) (rv : zF v v') (ru : zF u u') : SeqAt.RcAt A s v' u' (eqD a b) := by
  have ih : ∀ (c d : Dat) (v u : V) (v' u' : Value), dp c < dp a -> Rep H O v c -> Rep H O' u d -> dp d < 1000 -> zF v v' -> zF u u' -> SeqAt.EqAt A.in1 s v' u' (eqD c d) := fun c d v u v' u' hc rc rd hd rv ru => Yr I 40 A.in1 (by show A.units + 1 + 40 < _; omega) c d v u v' u' (by omega) (by omega) rc rd hd rv ru
  replace hu : A.units < cLine := by omega
  by_cases hr : ∃ p q, v = .ref p /\ u = .ref q
  · obtain ⟨p, q, rfl, rfl⟩ := hr
    cases rv
    cases ru
    exact K1 I ih ra rb (by omega) (by omega) hu
  · cases ra <;> cases rb <;> first
      | with_reducible exact absurd ⟨_, _, rfl, rfl⟩ hr
      | (rw [dp] at ha; omega)
      | (rw [dp] at hb; omega)
      | ((first | (obtain ⟨t0, rfl⟩ := rv) | cases rv); (first | (obtain ⟨t1, rfl⟩ := ru) | cases ru); simp only [eqD, Bool.not_false, Bool.not_true]; first | walk_at "sc" | walk_at "sq")
theorem Yf (I : Inv X pins σ H s) {A : Around} {p q : Addr} {O O' : Own} {a b : Dat} (ih : ∀ (c d : Dat) (v u : V) (v' u' : Value), dp c < dp a -> Rep H O v c -> Rep H O' u d -> dp d < 1000 -> zF v v' -> zF u u' -> SeqAt.EqAt A.in1 s v' u' (eqD c d))
    (ra : Rep H O (.ref p) a) (rb : Rep H O' (.ref q) b) (ha : dp a < 1000) (hb : dp b < 1000) (hu : A.units < cLine) : SeqAt.RcNeAt A s (.ref p) (.ref q) (!(eqD a b)) := by
  cases ra with
  | @lst _ xs l o1 h1 l1 r1 =>
    obtain ⟨us, u1, p1, z1⟩ := I.list (SqL.of h1)
    cases rb with
    | @lst _ ys m o2 h2 l2 r2 =>
      obtain ⟨ws, u2, p2, z2⟩ := I.list (SqL.of h2)
      have s1 : us.toArray.size = l.length := by rw [List.size_toArray, <- u1.length, l1]
      have s2 : ws.toArray.size = m.length := by rw [List.size_toArray, <- u2.length, l2]
      by_cases e : l.length = m.length
      · have h := SeqAt.RcNeAt.lists (A := A) (e := fun j => eqD (l.getD j .non) (m.getD j .non)) p1.isList p2.isList (by rw [s1, s2, e]) hu (fun j j1 j2 => by
          obtain ⟨x, hx, rx⟩ := jW u1 j1
          obtain ⟨y, hy, ry⟩ := jW u2 j2
          have k1 : j < l.length := by rw [<- s1]; exact j1
          have k2 : j < m.length := by rw [<- s2]; exact j2
          rw [dp] at ha hb ih
          refine ih _ _ x y _ _ ?_ (r1 j x _ hx ?_) (r2 j y _ hy ?_) ?_ rx ry
          · rw [List.getD_eq_getElem?_getD, List.getElem?_eq_getElem k1]
            have := qi (List.getElem_mem k1); show dp l[j] < _; omega
          · rw [List.getD_eq_getElem?_getD, List.getElem?_eq_getElem k1]; rfl
          · rw [List.getD_eq_getElem?_getD, List.getElem?_eq_getElem k2]; rfl
          · rw [List.getD_eq_getElem?_getD, List.getElem?_eq_getElem k2]
            have := qi (List.getElem_mem k2); show dp m[j] < _; omega)
        rw [s1, <- j7 l m e] at h
        rw [eqD]; exact h
      · rw [eqD, j3 l m e]
        exact SeqAt.RcNeAt.lists_lengths p1.isList p2.isList (by rw [s1, s2]; simpa using e) hu
    | @tup _ ys m o2 h2 l2 r2 =>
      obtain ⟨ws, u2, p2, z2⟩ := I.tuple (SqT.of h2)
      rw [YC]
      exact SeqAt.RcNeAt.list_tuple p1.isList p2 hu
    | rng o2 h2 => rw [dp] at hb; omega
    | scr o2 h2 => rw [dp] at hb; omega
    | scrK _ => rw [dp] at hb; omega
  | @tup _ xs l o1 h1 l1 r1 =>
    obtain ⟨us, u1, p1, z1⟩ := I.tuple (SqT.of h1)
    cases rb with
    | @tup _ ys m o2 h2 l2 r2 =>
      obtain ⟨ws, u2, p2, z2⟩ := I.tuple (SqT.of h2)
      have s1 : us.toArray.size = l.length := by rw [List.size_toArray, <- u1.length, l1]
      have s2 : ws.toArray.size = m.length := by rw [List.size_toArray, <- u2.length, l2]
      have h := SeqAt.RcNeAt.tuples (A := A) (e := fun j => eqD (l.getD j .non) (m.getD j .non)) (show s.heap.IsTuple p us.toArray from p1) (show s.heap.IsTuple q ws.toArray from p2) hu (fun j j1 j2 => by
          obtain ⟨x, hx, rx⟩ := jW u1 j1
          obtain ⟨y, hy, ry⟩ := jW u2 j2
          have k1 : j < l.length := by rw [<- s1]; exact j1
          have k2 : j < m.length := by rw [<- s2]; exact j2
          rw [dp] at ha hb ih
          refine ih _ _ x y _ _ ?_ (r1 j x _ hx ?_) (r2 j y _ hy ?_) ?_ rx ry
          · rw [List.getD_eq_getElem?_getD, List.getElem?_eq_getElem k1]
            have := qi (List.getElem_mem k1); show dp l[j] < _; omega
          · rw [List.getD_eq_getElem?_getD, List.getElem?_eq_getElem k1]; rfl
          · rw [List.getD_eq_getElem?_getD, List.getElem?_eq_getElem k2]; rfl
          · rw [List.getD_eq_getElem?_getD, List.getElem?_eq_getElem k2]
            have := qi (List.getElem_mem k2); show dp m[j] < _; omega)
      rw [s1, s2] at h
      rw [eqD]
      by_cases e : l.length = m.length
      · rw [<- e, Nat.min_self, beq_self_eq_true, Bool.and_true, <- j7 l m e] at h
        exact h
      · rw [j3 l m e]
        rw [show (l.length == m.length) = false by simpa using e, Bool.and_false] at h
        exact h
    | @lst _ ys m o2 h2 l2 r2 =>
      obtain ⟨ws, u2, p2, z2⟩ := I.list (SqL.of h2)
      rw [Xs]
      exact SeqAt.RcNeAt.tuple_list p1 p2.isList hu
    | rng o2 h2 => rw [dp] at hb; omega
    | scr o2 h2 => rw [dp] at hb; omega
    | scrK _ => rw [dp] at hb; omega
  | rng o2 h2 => rw [dp] at ha; omega
  | scr o2 h2 => rw [dp] at ha; omega
  | scrK _ => rw [dp] at ha; omega
theorem Xo (I : Inv X pins σ H s) {O O' : Own} (A : Around) (hu : A.units + 41 < cLine) (a b : Dat) (v u : V) (v' u' : Value) (ha : dp a <= 40) (ra : Rep H O v a) (rb : Rep H O' u b) (hb : dp b <= 40) (rv : zF v v') (ru : zF u u') : SeqAt.RcNeAt A s v' u' (!(eqD a b)) := by
  have ih : ∀ (c d : Dat) (v u : V) (v' u' : Value), dp c < dp a -> Rep H O v c -> Rep H O' u d -> dp d < 1000 -> zF v v' -> zF u u' -> SeqAt.EqAt A.in1 s v' u' (eqD c d) := fun c d v u v' u' hc rc rd hd rv ru => Yr I 40 A.in1 (by show A.units + 1 + 40 < _; omega) c d v u v' u' (by omega) (by omega) rc rd hd rv ru
  replace hu : A.units < cLine := by omega
  by_cases hr : ∃ p q, v = .ref p /\ u = .ref q
  · obtain ⟨p, q, rfl, rfl⟩ := hr
    cases rv
    cases ru
    exact Yf I ih ra rb (by omega) (by omega) hu
  · cases ra <;> cases rb <;> first
      | with_reducible exact absurd ⟨_, _, rfl, rfl⟩ hr
      | (rw [dp] at ha; omega)
      | (rw [dp] at hb; omega)
      | ((first | (obtain ⟨t0, rfl⟩ := rv) | cases rv); (first | (obtain ⟨t1, rfl⟩ := ru) | cases ru); simp only [eqD, Bool.not_false, Bool.not_true]; first | walk_at "sc" | walk_at "sq")
theorem j9 (hu : X.A.units + 64 < cLine) : OpR X (compareOp .Eq) (Ad id) := by
 intro pins s σ H x y v u Q I rx ry h
 obtain ⟨O, O', a, b, ra, rb, ha, hb, k⟩ := h
 exact BI I X.A (by omega) a b x y v u ha ra rb hb rx ry _ _ _ _ ⟨.bl _, H, I, rfl, k⟩
theorem jD (hu : X.A.units + 64 < cLine) : OpR X (compareOp .NotEq) (Ad not) := by
 intro pins s σ H x y v u Q I rx ry h
 obtain ⟨O, O', a, b, ra, rb, ha, hb, k⟩ := h
 exact Xo I X.A (by omega) a b x y v u ha ra rb hb rx ry _ _ _ _ ⟨.bl _, H, I, rfl, k⟩
end
def xL (x : AV) (M : MH) : Option Dat := match x with
 | .d x => some x
 | .ref a => match M a with
  | some (.lst l) => (pur l).map .lst
  | _ => none
theorem W4 (x : Dat) (M : MH) : xL (.d x) M = some x := rfl
theorem ZT {H : Hp} {O : Own} {M : MH} {v : V} {x : AV} {d : Dat} (w : Wf H O M) (r : zA H O M v x) (h : xL x M = some d) : ∃ O', Rep H O' v d := by
 cases x with
 | d x => cases h; exact ⟨O, r⟩
 | ref a =>
  unfold xL at h
  dsimp only at h
  cases e : M a with
  | none => rw [e] at h; cases h
  | some o =>
   rw [e] at h
   cases o with
   | lst l =>
    dsimp only at h
    cases ep : pur l with
    | none => rw [ep] at h; cases h
    | some ds =>
     rw [ep] at h
     cases h
     obtain ⟨xs, hx, rx⟩ := w.mo a _ e
     rw [kE ep] at rx
     have rp := rx.pure
     refine ⟨Wm O a, ?_⟩
     rw [r.1]
     exact Rep.lst (fun z => z.1 rfl) hx rp.1 fun i x d e1 e2 => (rp.2 i x d e1 e2).imp (xo a)
   | _ => cases h
def Dh (f : Bool -> Bool) : AR2 := fun x y M Q => ∃ a b, xL x M = some a /\ xL y M = some b /\ dp a <= 40 /\ dp b <= 40 /\ Q (.d (.bl (f (eqD a b)))) M
theorem V2 {f : Bool -> Bool} : ZH (Ad f) (Dh f) := ⟨fun w r1 r2 ⟨a, b, e1, e2, h1, h2, q⟩ k => by
 obtain ⟨O1, p1⟩ := ZT w r1 e1
 obtain ⟨O2, p2⟩ := ZT w r2 e2
 exact ⟨O1, O2, a, b, p1, p2, h1, h2, k _ _ _ _ _ q .refl w .bl⟩⟩
theorem Yg (i : Int) : dp (.int i) = 0 := by simp [dp]
theorem qc (ns : List Int) : dp (.lst (ns.map .int)) <= 1 := by
 rw [dp]
 have : dps (ns.map Dat.int) <= 0 := wq fun d hd => by
  obtain ⟨i, _, rfl⟩ := List.mem_map.mp hd
  rw [Yg]; exact Nat.le_refl _
 omega
theorem yY : ∀ (ns ms : List Int), ka (ns.map .int) (ms.map .int) = decide (ns = ms)
 | [], [] => by simp [ka]
 | [], _ :: _ => by simp [ka]
 | _ :: _, [] => by simp [ka]
 | a :: r, b :: r' => by
  rw [List.map_cons, List.map_cons, ka, yY r r', show eqD (.int a) (.int b) = (a == b) by simp [eqD]]
  by_cases h : a = b <;> simp [h]
theorem qP (ns ms : List Int) : eqD (.lst (ns.map .int)) (.lst (ms.map .int)) = decide (ns = ms) := by rw [eqD, yY]
end L2
set_option Elab.async false
set_option linter.all false
set_option maxRecDepth 100000
set_option maxHeartbeats 4000000
namespace L2
open PySem PySem.Spec PyProof.Rows
theorem qH {H : Hp} {O : Own} {M : MH} {vs : List V} {x : AV} (r : zi H O M vs [x]) : ∃ v, vs = [v] /\ zA H O M v x := by
 obtain ⟨v1, r', rfl, a1, r2⟩ := r.cons_inv
 rw [r2.nil_inv]; exact ⟨v1, rfl, a1⟩
theorem jk {H : Hp} {O : Own} {M : MH} {vs : List V} {x y : AV} (r : zi H O M vs [x, y]) : ∃ v u, vs = [v, u] /\ zA H O M v x /\ zA H O M u y := by
 obtain ⟨v1, r', rfl, a1, r2⟩ := r.cons_inv
 obtain ⟨v2, rfl, a2⟩ := qH r2
 exact ⟨v1, v2, rfl, a1, a2⟩
def Bs : List AV -> MH -> AK -> Prop := fun xs M Q => ∃ x l, xs = [x] /\ qq x M = some l /\ Q (.d (.int (l.length : Nat))) M
theorem Vp {K : PySem.W.Frag} : Zj (fun xs H Q => ∃ p ys, xs = [V.ref p] /\ (SqL K H p ys \/ SqT K H p ys) /\ Q (V.int ys.length) H) Bs := ⟨fun w r ⟨x, l, e, h, q⟩ k => by
 subst e
 obtain ⟨v, rfl, rv⟩ := qH r
 obtain ⟨a, xs, rfl, h1, r1⟩ := wz w rv h
 exact ⟨a, xs, rfl, h1.elim (fun h => .inl (SqL.of h)) (fun h => .inr (SqT.of h)), by rw [r1.1]; exact k _ _ _ _ _ q .refl w .int⟩⟩
def bI2 (f : Int -> Int -> Int) : List AV -> MH -> AK -> Prop := fun xs M Q => ∃ i j, xs = [.d (.int i), .d (.int j)] /\ Q (.d (.int (f i j))) M
theorem Bf {f : Int -> Int -> Int} : Zj (fun xs H Q => ∃ i j, xs = [V.int i, V.int j] /\ Q (V.int (f i j)) H) (bI2 f) := ⟨fun w r ⟨i, j, e, q⟩ k => by
 subst e
 obtain ⟨v, u, rfl, rv, ru⟩ := jk r
 exact ⟨i, j, by rw [zK rv, zK ru], k _ _ _ _ _ q .refl w .int⟩⟩
structure Q5 (r : List V -> Hp -> VK -> Prop) (a : List AV -> MH -> (List AV -> Prop) -> Prop) : Prop where
 go : ∀ {vs : List V} {xs : List AV} {H : Hp} {O : Own} {M : MH} {Q : VK} {Q' : List AV -> Prop}, Wf H O M -> zi H O M vs xs -> a xs M Q' -> (∀ l ys, Q' l -> zi H O M ys l -> ∀ p, H p = none -> Q (.ref p) (upd H p (.lst ys))) -> r vs H Q
def fCB (r : List AV -> MH -> (List AV -> Prop) -> Prop) (b : AA) : AF := fun ρ M Q => b ρ M fun xs M1 => r xs M1 fun l => Q l M1
theorem vY {r : List V -> Hp -> VK -> Prop} {ra : List AV -> MH -> (List AV -> Prop) -> Prop} {u : TA} {b : AA} (hr : Q5 r ra) (h : xG u b) : Zw (tCB r u) (fCB ra b) :=
 ⟨fun w e q k => h.go w e q fun x M1 v H1 O1 q1 k1 w1 r1 => hr.go w1 r1 q1 fun l ys q3 r3 p hp =>
  k l M1 p ys _ _ q3 (k1.trans (qL w1 hp _)) (yg w1 hp _ (fun _ z => nomatch z)) (.inl rfl) (w1.fresh hp).2 (kL w1 k1 hp) zd (r3.ext (qL w1 hp _))⟩
def X1 : List AV -> MH -> (List AV -> Prop) -> Prop := fun xs M Q => ∃ x l, xs = [x] /\ qq x M = some l /\ Q l
theorem yX {K : PySem.W.Frag} : Q5 (fun xs H Q => ∃ p ys, xs = [V.ref p] /\ (SqL K H p ys \/ SqT K H p ys) /\ ∀ l, H l = none -> Q (V.ref l) (upd H l (HO.lst ys))) X1 := ⟨fun w r ⟨x, l, e, h, q⟩ k => by
 subst e
 obtain ⟨v, rfl, rv⟩ := qH r
 obtain ⟨a, xs, rfl, h1, r1⟩ := wz w rv h
 exact ⟨a, xs, rfl, h1.elim (fun h => .inl (SqL.of h)) (fun h => .inr (SqT.of h)), k _ _ q r1⟩⟩
def v0 : List AV -> MH -> (List AV -> Prop) -> Prop := fun xs M Q => ∃ x ns, xs = [x] /\ qZ x M = some (List.map (fun i => AV.d (.int i)) ns) /\ ns.length < 64 /\ ∀ ns', ns'.Perm ns -> List.Pairwise (fun x1 x2 => x1 <= x2) ns' -> Q (List.map (fun i => AV.d (.int i)) ns')
theorem jp {H : Hp} {O : Own} {M : MH} : ∀ {ns : List Int} {xs : List V}, zi H O M xs (ns.map fun i => AV.d (.int i)) -> xs = ns.map V.int
 | [], xs, r => r.nil_inv
 | i :: ns, xs, r => by
  obtain ⟨v, r', rfl, a1, r2⟩ := r.cons_inv
  rw [zK a1, jp r2]; rfl
theorem xE {K : PySem.W.Frag} : Q5 (fun xs H Q => ∃ p ns, xs = [V.ref p] /\ SqL K H p (List.map V.int ns) /\ ns.length < 64 /\ ∀ (l : Addr) (ns' : List Int), H l = none -> ns'.Perm ns -> List.Pairwise (fun x1 x2 => x1 <= x2) ns' -> Q (V.ref l) (upd H l (HO.lst (List.map V.int ns')))) v0 := ⟨fun w r ⟨x, ns, e, h, hl, q⟩ k => by
 subst e
 obtain ⟨v, rfl, rv⟩ := qH r
 obtain ⟨a, xs, rfl, h1, r1⟩ := jc w rv h
 rw [jp r1] at h1
 exact ⟨a, ns, rfl, SqL.of h1, hl, fun l ns' hp h2 h3 => k _ _ (q ns' h2 h3) (vA ns') l hp⟩⟩
def tyA (x : AV) (M : MH) : Option String := match x with
 | .d .non => some "NoneType"
 | .d (.bl _) => some "bool"
 | .d (.int _) => some "int"
 | .d (.str _) => some "str"
 | .d (.lst _) => some "list"
 | .d (.tup _) => some "tuple"
 | .ref a => match M a with
  | some (.lst _) => some "list"
  | some (.dK _) => some "dict"
  | _ => none
 | _ => none
theorem KM {K : PySem.W.Frag} {H : Hp} {O : Own} {M : MH} {v : V} {x : AV} {t : String} (w : Wf H O M) (r : zA H O M v x) (h : tyA x M = some t) : j5 K H v (.type t) := by
 cases x with
 | d x =>
  cases (show Rep H O v x from r) with
  | non => cases h; exact .non
  | bl => cases h; exact .bl _
  | int => cases h; exact .int _
  | str => cases h; exact .str _
  | lst o e => cases h; exact .lst e
  | tup o e => cases h; exact .tup e
  | ty => cases h
  | rng _ _ => cases h
  | scr _ _ => cases h
  | scrK _ => cases h
 | ref a =>
  unfold tyA at h
  dsimp only at h
  rw [r.1]
  cases e : M a with
  | none => rw [e] at h; cases h
  | some o =>
   rw [e] at h
   have := w.mo a o e
   cases o with
   | lst l => cases h; obtain ⟨xs, hx, _⟩ := this; exact .lst hx
   | dK l => cases h; obtain ⟨xs, hx, _⟩ := this; exact .dK hx
   | ins C fs => cases h
def Da : List AV -> MH -> AK -> Prop := fun xs M Q => ∃ x t c b, xs = [x, .d (.ty c)] /\ tyA x M = some t /\ isT t c = some b /\ Q (.d (.bl b)) M
theorem Vf {K : PySem.W.Frag} : Zj (fun xs H Q => ∃ x t c b, xs = [x, V.ty c] /\ j5 K H x (Value.type t) /\ isT t c = some b /\ Q (V.bl b) H) Da := ⟨fun w r ⟨x, t, c, b, e, h, hb, q⟩ k => by
 subst e
 obtain ⟨v, u, rfl, rv, ru⟩ := jk r
 exact ⟨v, t, c, b, by rw [Vb ru], KM w rv h, hb, k _ _ _ _ _ q .refl w .bl⟩⟩
theorem JE {H : Hp} {O : Own} {M : MH} : ∀ {ns : List String} {xs : List V}, zi H O M xs ((ns.map Dat.ty).map .d) -> xs = ns.map V.ty
 | [], xs, r => r.nil_inv
 | i :: ns, xs, r => by
  obtain ⟨v, r', rfl, a1, r2⟩ := r.cons_inv
  rw [Vb a1, JE r2]; rfl
def Zp : List Dat -> Option (List String)
 | [] => some []
 | .ty n :: r => (Zp r).map (n :: ·)
 | _ => none
theorem Q3 : ∀ {l : List Dat} {cs : List String}, Zp l = some cs -> l = cs.map Dat.ty
 | [], cs, h => by cases h; rfl
 | .ty n :: r, cs, h => by
  unfold Zp at h
  cases e : Zp r with
  | none => rw [e] at h; cases h
  | some m => rw [e] at h; cases h; rw [Q3 e]; rfl
 | .non :: _, _, h => by cases h
 | .bl _ :: _, _, h => by cases h
 | .int _ :: _, _, h => by cases h
 | .str _ :: _, _, h => by cases h
 | .lst _ :: _, _, h => by cases h
 | .tup _ :: _, _, h => by cases h
 | .rng _ _ _ :: _, _, h => by cases h
 | .scr _ _ :: _, _, h => by cases h
def WF : List AV -> MH -> AK -> Prop := fun xs M Q => ∃ x t l cs b, xs = [x, .d (.tup l)] /\ Zp l = some cs /\ tyA x M = some t /\ xI t cs = some b /\ Q (.d (.bl b)) M
theorem K4 {K : PySem.W.Frag} : Zj (fun xs H Q => ∃ x t p cs b, xs = [x, V.ref p] /\ H p = some (HO.tup (List.map V.ty cs)) /\ j5 K H x (Value.type t) /\ xI t cs = some b /\ Q (V.bl b) H) WF := ⟨fun w r ⟨x, t, l, cs, b, e, hc, h, hb, q⟩ k => by
 subst e
 obtain ⟨v, u, rfl, rv, ru⟩ := jk r
 rw [Q3 hc] at ru
 obtain ⟨a, xs, rfl, h1, r1⟩ := vN (l := (cs.map Dat.ty).map .d) ru rfl
 rw [JE r1] at h1
 exact ⟨v, t, a, cs, b, rfl, h1, KM w rv h, hb, k _ _ _ _ _ q .refl w .bl⟩⟩
def WJ : List AV -> MH -> AK -> Prop := fun xs M Q => ∃ x ns, xs = [x] /\ qZ x M = some (List.map (fun i => AV.d (.int i)) ns) /\ (∀ (x : Int), x ∈ ns -> 0 <= x /\ x <= 1000000) /\ ns.length <= 100000 /\ Q (.d (.int ns.sum)) M
theorem Y8 {K : PySem.W.Frag} : Zj (fun xs H Q => ∃ p ns, xs = [V.ref p] /\ SqL K H p (List.map V.int ns) /\ (∀ (x : Int), x ∈ ns -> 0 <= x /\ x <= 1000000) /\ ns.length <= 100000 /\ Q (V.int ns.sum) H) WJ := ⟨fun w r ⟨x, ns, e, h, h2, h3, q⟩ k => by
 subst e
 obtain ⟨v, rfl, rv⟩ := qH r
 obtain ⟨a, xs, rfl, h1, r1⟩ := jc w rv h
 rw [jp r1] at h1
 exact ⟨a, ns, rfl, SqL.of h1, h2, h3, k _ _ _ _ _ q .refl w .int⟩⟩
theorem JC {H : Hp} {O : Own} {M : MH} : ∀ {ns : List Bool} {xs : List V}, zi H O M xs (ns.map fun i => AV.d (.bl i)) -> xs = ns.map V.bl
 | [], xs, r => r.nil_inv
 | i :: ns, xs, r => by
  obtain ⟨v, r', rfl, a1, r2⟩ := r.cons_inv
  rw [xr a1, JC r2]; rfl
def DH (f : List Bool -> Bool) : List AV -> MH -> AK -> Prop := fun xs M Q => ∃ x bs, xs = [x] /\ qZ x M = some (List.map (fun b => AV.d (.bl b)) bs) /\ Q (.d (.bl (f bs))) M
theorem Vm {K : PySem.W.Frag} {f : List Bool -> Bool} : Zj (fun xs H Q => ∃ p bs, xs = [V.ref p] /\ SqL K H p (List.map V.bl bs) /\ Q (V.bl (f bs)) H) (DH f) := ⟨fun w r ⟨x, bs, e, h, q⟩ k => by
 subst e
 obtain ⟨v, rfl, rv⟩ := qH r
 obtain ⟨a, xs, rfl, h1, r1⟩ := jc w rv h
 rw [JC r1] at h1
 exact ⟨a, bs, rfl, SqL.of h1, k _ _ _ _ _ q .refl w .bl⟩⟩
def WE : List AV -> MH -> AK -> Prop := fun xs M Q => ∃ b, xs = [.d (.int b)] /\ Q (.d (.rng 0 b 1)) M
theorem KO : Zj (fun xs H Q => ∃ b, xs = [V.int b] /\ ∀ (p : Addr), H p = none -> Q (V.ref p) (upd H p (jy p 0 b 1))) WE := ⟨fun w r ⟨b, e, q⟩ k => by
 subst e
 obtain ⟨v, rfl, rv⟩ := qH r
 exact ⟨b, by rw [zK rv], fun p hp => k _ _ _ _ _ q (xS w hp _) (YX w hp _) (Rep.rng (w.fresh hp).1 zd)⟩⟩
def WY : List AV -> MH -> (List AV -> Prop) -> Prop := fun xs M Q => ∃ a b c n, xs = [.d (.rng a b c)] /\ Builtin.Range.small a b c = true /\ Builtin.Range.rangeSize a b c = ((n : Nat) : Int) /\ n <= 100000 /\ Q ((zR a c n).map fun i => AV.d (.int i))
theorem Kj : Q5 (fun xs H Q => ∃ p a b c n, xs = [.ref p] /\ H p = some (jy p a b c) /\ Builtin.Range.small a b c = true /\ Builtin.Range.rangeSize a b c = ((n : Nat) : Int) /\ n <= 100000 /\ ∀ l, H l = none -> Q (.ref l) (upd H l (.lst ((zR a c n).map V.int)))) WY := ⟨fun {vs xs H O M Q Q'} w r ⟨a, b, c, n, e, h1, h2, h3, q⟩ k => by
 subst e
 obtain ⟨v, rfl, rv⟩ := qH r
 cases (show Rep H O v (.rng a b c) from rv) with
 | rng o h => exact ⟨_, a, b, c, n, rfl, h, h1, h2, h3, k _ _ q (vA _)⟩⟩
structure DY (r : V -> List V -> Hp -> VK -> Prop) (a : AV -> List AV -> MH -> AK -> Prop) : Prop where
 go : ∀ {x : V} {dx : AV} {vs : List V} {xs : List AV} {H : Hp} {O : Own} {M : MH} {Q : VK} {Q' : AK}, Wf H O M -> zA H O M x dx -> zi H O M vs xs -> a dx xs M Q' -> (∀ x M' v H' O', Q' x M' -> Ext H O M H' O' M' -> Wf H' O' M' -> zA H' O' M' v x -> Q v H') -> r x vs H Q
def YS (r : Addr) : MO -> Prop
 | .lst l => AV.ref r ∈ l
 | .dK kvs => AV.ref r ∈ kvs.map (·.2)
 | .ins _ fs => AV.ref r ∈ fs.map (·.2)
structure Y6 (M0 M' : MH) (x x' : AV) (M'' : MH) : Prop where
 sub : ∀ q, M'' q = M' q \/ (M0 q = none /\ M'' q = none)
 cl : ∀ q o, M'' q = some o -> M0 q = some o \/ ∀ r, YS r o -> M'' r ≠ none
 res : (x' = x /\ ∀ p, x = .ref p -> M'' p ≠ none) \/ ∃ p l ds, x = .ref p /\ M' p = some (.lst l) /\ pur l = some ds /\ M'' p = none /\ x' = .d (.lst ds)
theorem Qm {H0 H : Hp} {O0 O : Own} {M0 M' M'' : MH} {x x' : AV} {v : V} (w0 : Wf H0 O0 M0) (w : Wf H O M') (k : Ext H0 O0 M0 H O M') (r : zA H O M' v x) (f : Y6 M0 M' x x' M'') :
    ∃ O'', Wf H O'' M'' /\ Ext H0 O0 M0 H O'' M'' /\ zA H O'' M'' v x' := by
  have ks : ∀ a u, ¬ O a -> H a = some u -> H a = some u /\ ¬ (O a /\ ¬ (M' a ≠ none /\ M'' a = none)) := fun a u h e => ⟨e, fun z => h z.1⟩
  have k0 : ∀ a, M0 a ≠ none -> M'' a = M' a := fun a h => (f.sub a).elim (fun z => z) (fun z => absurd z.1 h)
  have m0 : ∀ a, M0 a ≠ none -> M'' a ≠ none := fun a h => by rw [k0 a h]; exact k.mst a h
  have avs : ∀ {xs : List V} {l : List AV}, zi H O M' xs l -> (∀ r, AV.ref r ∈ l -> M'' r ≠ none) -> zi H (fun a => O a /\ ¬ (M' a ≠ none /\ M'' a = none)) M'' xs l := fun {xs l} rr hr => ⟨rr.1, fun i y d e1 e2 => by
    have := rr.2 i y d e1 e2
    cases d with
    | d d => exact Rep.imp ks this
    | ref a => exact ⟨this.1, hr a (List.mem_of_getElem? e2)⟩⟩
  have refs0 : ∀ q o, M0 q = some o -> ∀ r, YS r o -> M0 r ≠ none := fun q o e r hr => by
    have := w0.mo q o e
    cases o with
    | lst l =>
      obtain ⟨xs, _, rr⟩ := this
      obtain ⟨i, hi⟩ := List.getElem?_of_mem hr
      obtain ⟨y, _, ry⟩ := rr.get hi
      exact ry.2
    | dK l =>
      obtain ⟨xs, _, rr⟩ := this
      obtain ⟨i, hi⟩ := List.getElem?_of_mem hr
      obtain ⟨y, _, ry⟩ := rr.2.get hi
      exact ry.2
    | ins C l =>
      obtain ⟨dx, xs, _, rr, _⟩ := this
      obtain ⟨i, hi⟩ := List.getElem?_of_mem hr
      obtain ⟨y, _, ry⟩ := rr.2.get hi
      exact ry.2
  refine ⟨fun a => O a /\ ¬ (M' a ≠ none /\ M'' a = none), ⟨fun q o e => ?_, fun a h => ?_, fun a h => w.al a h.1⟩, ⟨fun a u h e => ?_, fun a h e => ?_, m0⟩, ?_⟩
  · have e' : M' q = some o := by
      rcases f.sub q with z | z
      · rw [<- z]; exact e
      · rw [z.2] at e; cases e
    have hr : ∀ r, YS r o -> M'' r ≠ none := by
      rcases f.cl q o e with z | z
      · exact fun r hr => m0 r (refs0 q o z r hr)
      · exact z
    have := w.mo q o e'
    cases o with
    | lst l => obtain ⟨xs, h1, rr⟩ := this; exact ⟨xs, h1, avs rr hr⟩
    | dK l => obtain ⟨xs, h1, rr⟩ := this; exact ⟨xs, h1, rr.1, avs rr.2 hr⟩
    | ins C l =>
      obtain ⟨dx, xs, h1, rr, h2, h3, h4⟩ := this
      refine ⟨dx, xs, h1, ⟨rr.1, avs rr.2 hr⟩, ⟨h2, fun z => z.1 h3⟩, ?_, h4⟩
      rcases f.sub dx with z | z
      · rw [z]; exact h3
      · exact z.2
  · refine ⟨w.own a ?_, fun z => h z.2⟩
    rcases f.sub a with z | z
    · rw [<- z]; exact h
    · exact absurd z.2 h
  · obtain ⟨x1, x2⟩ := k.fix a u h e
    exact ⟨x1, fun z => x2 z.1⟩
  · obtain ⟨x1, x2, x3⟩ := k.prv a h e
    refine ⟨x1, ⟨x2, fun z => z.1 x3⟩, ?_⟩
    rcases f.sub a with z | z
    · rw [z]; exact x3
    · exact z.2
  · rcases f.res with ⟨rfl, hp⟩ | ⟨p, l, ds, rfl, hm, hp, hn, rfl⟩
    · cases x' with
      | d d => exact Rep.imp ks r
      | ref a => exact ⟨r.1, hp a rfl⟩
    · obtain ⟨xs, hx, rx⟩ := w.mo p _ hm
      rw [kE hp] at rx
      have rp := rx.pure
      rw [r.1]
      exact Rep.lst (fun z => z.2 ⟨kc hm, hn⟩) hx rp.1 fun i x d e1 e2 => (rp.2 i x d e1 e2).imp ks
def Fr (M0 M : MH) : Prop := ∀ q, M0 q ≠ none -> M q = M0 q
theorem Fr.refl {M : MH} : Fr M M := fun _ _ => rfl
theorem Fr.mup {M0 M : MH} (f : Fr M0 M) {p : Addr} (h : M0 p = none) (o : MO) : Fr M0 (mup M p o) := fun q hq => by rw [qe (fun z => hq (by rw [z]; exact h))]; exact f q hq
theorem Fr.sub {M0 M : MH} (f : Fr M0 M) (q : Addr) : M0 q = M q \/ (M0 q = none /\ M0 q = none) := by
 cases e : M0 q with
 | none => exact .inr ⟨rfl, rfl⟩
 | some o => exact .inl (by rw [f q (by rw [e]; exact fun z => nomatch z), e])
theorem QW {M0 M : MH} (f : Fr M0 M) (d : Dat) : Y6 M0 M (.d d) (.d d) M0 := ⟨f.sub, fun q o e => .inl e, .inl ⟨rfl, fun p z => nomatch z⟩⟩
theorem VD {M0 M : MH} (f : Fr M0 M) {p : Addr} {l : List AV} {ds : List Dat} (h0 : M0 p = none) (h : M p = some (.lst l)) (hp : pur l = some ds) : Y6 M0 M (.ref p) (.d (.lst ds)) M0 := ⟨f.sub, fun q o e => .inl e, .inr ⟨p, l, ds, rfl, h, hp, h0, rfl⟩⟩
theorem V3 {l : List AV} {ds : List Dat} (h : pur l = some ds) (r : Addr) : AV.ref r ∉ l := by
 rw [kE h]; intro z
 obtain ⟨d, _, e⟩ := List.mem_map.mp z
 cases e
theorem Vn {M0 M : MH} (f : Fr M0 M) {p : Addr} {l : List AV} {ds : List Dat} (h0 : M0 p = none) (h : M p = some (.lst l)) (hp : pur l = some ds) : Y6 M0 M (.ref p) (.ref p) (mup M0 p (.lst l)) := by
 refine ⟨fun q => ?_, fun q o e => ?_, .inl ⟨rfl, fun q z => by cases z; rw [zO]; exact fun z => nomatch z⟩⟩
 ·by_cases c : q = p
  ·rw [c, zO, h]; exact .inl rfl
  ·rw [qe c]; exact f.sub q
 ·by_cases c : q = p
  ·rw [c, zO] at e
   cases e
   exact .inr fun r hr => absurd hr (V3 hp r)
  ·rw [qe c] at e; exact .inl e
def qQ (N : List Str) (xs : List AV) : ASt := xs.map some ++ List.replicate (N.length - xs.length) none
theorem Y5 {H : Hp} {O : Own} {M : MH} {vs : List V} {xs : List AV} (r : zi H O M vs xs) (N : List Str) : Er H O M (start N vs) (qQ N xs) := by
 unfold start qQ
 refine ⟨by simp [r.1], fun i x h => ?_⟩
 by_cases c : i < xs.length
 ·rw [List.getElem?_append_left (by simpa using c), List.getElem?_map] at h
  cases e : xs[i]? with
  | none => rw [e] at h; cases h
  | some y =>
   rw [e] at h
   cases h
   obtain ⟨v, hv, rv⟩ := r.get e
   exact ⟨v, by rw [List.getElem?_append_left (by rw [List.length_map, r.1]; exact c), List.getElem?_map, hv]; rfl, rv⟩
 ·rw [List.getElem?_append_right (by simp; omega), List.getElem?_replicate] at h
  split at h <;> cases h
def rtA (M0 : MH) (Q : AK) : AK := fun x M' => ∃ x' M'', Y6 M0 M' x x' M'' /\ Q x' M''
theorem dfA {P : Program} {w : World} {K : PySem.W.Frag} {mg : Str -> Option Value} {base : Heap} {x : Str} {st : Stmt} {N ps : List Str} {k : Nat} {a : ASp} (at_ : At K mg x st) (S : zt N ps (zj st))
  (hb : ∀ (kV doc pm : Value) (an : Option Addr) (cdv ct : Value) (us : List Value), us.length = ps.length -> bindArgs (PySem.W.fnOf x x (jh st) (qB st) (zj st) .none kV doc pm an cdv ct) ⟨us, []⟩ = pure (ps.zip us))
  (len : ∀ xs M Q, a xs M Q -> xs.length = ps.length)
  (hbody : ∀ (f : Addr) (cdv : Value) (A : Around) (outer : List Env) (s : Shared) (H : Hp) (E : XK), jr k (A.deeper (envOfC x (zj st) s.heap.objs.size f cdv)) ->
   ∃ t, PSs (vW CX0 P w K mg base N x (zj st) f cdv A outer s H E).nox (qB st) t /\ ∃ b, kA t b /\ ∀ xs M Q, a xs M Q -> b M { nx := fun _ M' => rtA M Q (.d .non) M', rt := rtA M Q } (qQ N xs) M) : Df P w K mg base x ps (k + 1) (cSp a) := by
 refine qm at_ S hb (fun vs H Q E h => ?_) (fun f cdv A outer s H vs Q E hr h => ?_)
 ·obtain ⟨xs, M, O, Q', w, r, q, _⟩ := h
  rw [r.1]; exact len xs M Q' q
 ·obtain ⟨t, ht, b, hb, hq⟩ := hbody f cdv A outer s H E hr
  refine ⟨t, ht, ?_⟩
  obtain ⟨xs, M, O, Q', w, r, q, kk⟩ := h
  refine hb.go w w (Y5 r N) .refl (hq xs M Q' q) ⟨fun σ H' O' ρ M' w' e' x' q' => ?_, fun v y H' O' M' w' x' r' q' => ?_, fun _ _ _ _ _ _ _ _ z => z.elim, fun _ _ _ _ _ _ _ _ z => z.elim⟩
  ·obtain ⟨y', M'', f, q2⟩ := q'
   obtain ⟨O'', w2, k2, r2⟩ := Qm w w' x' (show zA H' O' M' .non (.d .non) from .non) f
   exact kk _ _ _ _ _ q2 k2 w2 r2
  ·obtain ⟨y', M'', f, q2⟩ := q'
   obtain ⟨O'', w2, k2, r2⟩ := Qm w w' x' r' f
   exact kk _ _ _ _ _ q2 k2 w2 r2
end L2
set_option Elab.async false
set_option linter.all false
set_option maxRecDepth 100000
set_option maxHeartbeats 4000000
namespace L2
open PySem PySem.Spec PyProof.Rows
structure DV (tr : Addr -> TR) (a : ATR) : Prop where
 go : ∀ D, Ja D (tr D) a
theorem KY {t u : TE} {a b : AE} (h1 : zX t a) (h2 : zX u b) : zX (tOp Vv t u) (aFz (fOp BZ a b)) := xf (wd ZL h1 h2)
theorem Yd {t u : TE} {a b : AE} (h1 : zX t a) (h2 : zX u b) : zX (tOp WC t u) (aFz (fOp AL a b)) := xf (wd Zu h1 h2)
theorem J9 {K : PySem.W.Frag} {u : TA} {b : AA} (h : xG u b) : zX (tCB (fun xs H Q => ∃ p ys, xs = [V.ref p] /\ (SqL K H p ys \/ SqT K H p ys) /\ ∀ l, H l = none -> Q (V.ref l) (upd H l (HO.lst ys))) u) (aFz (fCB X1 b)) := xf (vY yX h)
theorem Kb {K : PySem.W.Frag} {u : TA} {b : AA} (h : xG u b) : zX (tCB (fun xs H Q => ∃ p ns, xs = [V.ref p] /\ SqL K H p (List.map V.int ns) /\ ns.length < 64 /\ ∀ (l : Addr) (ns' : List Int), H l = none -> ns'.Perm ns -> List.Pairwise (fun x1 x2 => x1 <= x2) ns' -> Q (V.ref l) (upd H l (HO.lst (List.map V.int ns')))) u) (aFz (fCB v0 b)) := xf (vY xE h)
theorem ex2 {t : TS} {q : AS -> Prop} {b : AS} (h : kA t b) (k : q b) : ∃ b, kA t b /\ q b := ⟨b, h, k⟩
section
variable {X : Cx} {K : PySem.W.Frag}
theorem QI (h : X.K = K) (hc : X.calm = true) : qD X (.builtin "sum") (fun xs H Q => ∃ p ns, xs = [.ref p] /\ SqL K H p (List.map V.int ns) /\ (∀ x ∈ ns, 0 <= x /\ x <= (1000000 : Int)) /\ ns.length <= 100000 /\ Q (.int ns.sum) H) := h ▸ xl hc
end
theorem wA {τ : Type} (R : τ -> ASt) (f : AV -> AV) {ag : AG} {ae : AE} {G : MH -> Prop} {N : List AV -> ASt -> MH -> Prop} {l : List AV} {ρ : ASt} {M : MH} (h0 : ∃ o, ρ = R o) (hG : G M) (hl : l.length <= 100000)
  (hs : ∀ (o : τ) (x : AV) (Q : AV -> ASt -> MH -> Prop), x ∈ l -> (∀ o', Q (f x) (R o') M) -> ag x (R o) M fun ρ2 M2 => ae ρ2 M2 fun y M3 => Q y ρ2 M3) (hN : ∀ o, N (l.map f) (R o) M) : KG ag ZX (va ae) G N l [] ρ M := by
 have hsl : 100000 < sizeLine := by rw [sizeLine_eq]; decide
 refine ⟨fun i acc ρ' M' => i <= l.length /\ acc = (l.take i).map f /\ M' = M /\ ∃ o, ρ' = R o, ⟨Nat.zero_le _, rfl, rfl, h0⟩, ?_, ?_⟩
 ·rintro i x acc ρ' M' hx ⟨hi, rfl, rfl, o, rfl⟩
  have hil := (List.getElem?_eq_some_iff.mp hx).1
  refine ⟨hG, ?_⟩
  refine hs o x (fun y ρ2 M3 => ((l.take i).map f).length < sizeLine /\ (i + 1 <= l.length /\ (l.take i).map f ++ [y] = (l.take (i + 1)).map f /\ M3 = M' /\ ∃ o, ρ2 = R o)) (List.mem_of_getElem? hx) fun o' => ⟨by rw [List.length_map, List.length_take]; omega, hil, ?_, rfl, o', rfl⟩
  rw [List.take_add_one, hx, List.map_append]; rfl
 ·rintro acc ρ' M' ⟨_, rfl, rfl, o, rfl⟩
  rw [List.take_length]
  exact ⟨hG, hN o⟩
theorem V7 {τ : Type} (R : τ -> ASt) (f : Nat -> AV) {ag : AG} {ae : AE} {G : MH -> Prop} {N : List AV -> ASt -> MH -> Prop} {l : List AV} {ρ : ASt} {M : MH} (h0 : ∃ o, ρ = R o) (hG : G M) (hl : l.length <= 100000)
  (hs : ∀ (o : τ) (i : Nat) (x : AV) (Q : AV -> ASt -> MH -> Prop), l[i]? = some x -> (∀ o', Q (f i) (R o') M) -> ag x (R o) M fun ρ2 M2 => ae ρ2 M2 fun y M3 => Q y ρ2 M3) (hN : ∀ o, N ((List.range l.length).map f) (R o) M) : KG ag ZX (va ae) G N l [] ρ M := by
 have hsl : 100000 < sizeLine := by rw [sizeLine_eq]; decide
 refine ⟨fun i acc ρ' M' => i <= l.length /\ acc = (List.range i).map f /\ M' = M /\ ∃ o, ρ' = R o, ⟨Nat.zero_le _, rfl, rfl, h0⟩, ?_, ?_⟩
 ·rintro i x acc ρ' M' hx ⟨hi, rfl, rfl, o, rfl⟩
  have hil := (List.getElem?_eq_some_iff.mp hx).1
  refine ⟨hG, ?_⟩
  refine hs o i x (fun y ρ2 M3 => ((List.range i).map f).length < sizeLine /\ (i + 1 <= l.length /\ (List.range i).map f ++ [y] = (List.range (i + 1)).map f /\ M3 = M' /\ ∃ o, ρ2 = R o)) hx fun o' => ⟨by rw [List.length_map, List.length_range]; omega, hil, ?_, rfl, o', rfl⟩
  rw [List.range_succ, List.map_append]; rfl
 ·rintro acc ρ' M' ⟨_, rfl, rfl, o, rfl⟩
  exact ⟨hG, hN o⟩
theorem By : isT "int" "int" = some true := by decide +kernel
theorem W8 : isT "int" "bool" = some false := by decide +kernel
theorem W1 : isT "int" "str" = some false := by decide +kernel
theorem Bq : isT "int" "list" = some false := by decide +kernel
theorem AX : isT "int" "tuple" = some false := by decide +kernel
theorem AD : isT "bool" "int" = some true := by decide +kernel
theorem Bp : isT "bool" "bool" = some true := by decide +kernel
theorem Au : isT "bool" "str" = some false := by decide +kernel
theorem AC : isT "bool" "list" = some false := by decide +kernel
theorem Bi : isT "bool" "tuple" = some false := by decide +kernel
theorem BV : isT "str" "int" = some false := by decide +kernel
theorem BJ : isT "str" "bool" = some false := by decide +kernel
theorem BO : isT "str" "str" = some true := by decide +kernel
theorem Ah : isT "str" "list" = some false := by decide +kernel
theorem BA : isT "str" "tuple" = some false := by decide +kernel
theorem Be : isT "NoneType" "int" = some false := by decide +kernel
theorem BL : isT "NoneType" "bool" = some false := by decide +kernel
theorem AZ : isT "NoneType" "str" = some false := by decide +kernel
theorem AB : isT "NoneType" "list" = some false := by decide +kernel
theorem AQ : isT "NoneType" "tuple" = some false := by decide +kernel
theorem Av : isT "list" "int" = some false := by decide +kernel
theorem Ap : isT "list" "bool" = some false := by decide +kernel
theorem A2 : isT "list" "str" = some false := by decide +kernel
theorem Al : isT "list" "list" = some true := by decide +kernel
theorem A1 : isT "list" "tuple" = some false := by decide +kernel
theorem Aa : isT "tuple" "int" = some false := by decide +kernel
theorem Br : isT "tuple" "bool" = some false := by decide +kernel
theorem A8 : isT "tuple" "str" = some false := by decide +kernel
theorem BU : isT "tuple" "list" = some false := by decide +kernel
theorem BS : isT "tuple" "tuple" = some true := by decide +kernel
theorem YO : xI "int" ["list", "tuple"] = some false := by decide +kernel
theorem KP : xI "bool" ["list", "tuple"] = some false := by decide +kernel
theorem XN : xI "str" ["list", "tuple"] = some false := by decide +kernel
theorem Yt : xI "NoneType" ["list", "tuple"] = some false := by decide +kernel
theorem Qh : xI "list" ["list", "tuple"] = some true := by decide +kernel
theorem QD : xI "tuple" ["list", "tuple"] = some true := by decide +kernel
theorem KZ : Zp [] = some [] := rfl
theorem Kx {n : String} {r : List Dat} : Zp (.ty n :: r) = (Zp r).map (n :: ·) := rfl
theorem Dc (M : MH) : tyA (.d .non) M = some "NoneType" := rfl
theorem Dz (b : Bool) (M : MH) : tyA (.d (.bl b)) M = some "bool" := rfl
theorem B7 (i : Int) (M : MH) : tyA (.d (.int i)) M = some "int" := rfl
theorem Du (s : Str) (M : MH) : tyA (.d (.str s)) M = some "str" := rfl
theorem Dq (l : List Dat) (M : MH) : tyA (.d (.lst l)) M = some "list" := rfl
theorem DA (l : List Dat) (M : MH) : tyA (.d (.tup l)) M = some "tuple" := rfl
theorem JU (x : Dat) (r : List AV) : pur (.d x :: r) = match pur r with | some l => some (x :: l) | none => none := rfl
theorem BP (i j : Int) : eqS (.int i) (.int j) = some (decide (i = j)) := rfl
theorem Bk (i j : Bool) : eqS (.bl i) (.bl j) = some (decide (i = j)) := rfl
theorem Am (i j : Str) : eqS (.str i) (.str j) = some (decide (i = j)) := rfl
theorem WA : xF (.d .non) = true := rfl
theorem Vq (i : Int) : xF (.d (.int i)) = false := rfl
theorem VQ (i : List Dat) : xF (.d (.lst i)) = false := rfl
theorem VZ (i : List Dat) : xF (.d (.tup i)) = false := rfl
theorem VE (i : Addr) : xF (.ref i) = false := rfl
theorem V5 (i : Str) : xF (.d (.str i)) = false := rfl
theorem VV (i : Bool) : xF (.d (.bl i)) = false := rfl
end L2
set_option Elab.async false
set_option linter.all false
set_option maxRecDepth 100000
set_option maxHeartbeats 4000000
namespace L2
open PySem PySem.Spec PyProof.Rows
theorem jK {H H' : Hp} {O : Own} {M : MH} (w : Wf H O M) (k : Kp [] H H') : Ext H O M H' O M /\ Wf H' O M := by
 have e : Ext H O M H' O M := ⟨fun a o h e => ⟨k a o (by simp) e, h⟩, fun a h e => ⟨by
  obtain ⟨o, ho, _⟩ := w.al a h
  rw [ho]; exact k a o (by simp) ho, h, e⟩, fun _ h => h⟩
 refine ⟨e, ⟨fun a o h => qR.ext e ?_ (w.mo a o h), w.own, fun a h => ?_⟩⟩
 ·obtain ⟨u, hu, _⟩ := w.al a (w.own a (by rw [h]; exact fun z => nomatch z))
  rw [hu]; exact k a u (by simp) hu
 ·obtain ⟨o, ho, hn⟩ := w.al a h
  exact ⟨o, k a o (by simp) ho, hn⟩
theorem Bl {H H' : Hp} {O : Own} {M : MH} (w : Wf H O M) {b : Addr} {l : List AV} (hb : M b = some (.lst l)) (k : Kp [b] H H') {ns : List Int} (h : H' b = some (.lst (ns.map V.int))) :
  Ext H O M H' O (mup M b (.lst (ns.map fun i => .d (.int i)))) /\ Wf H' O (mup M b (.lst (ns.map fun i => .d (.int i)))) := by
 have hOb := w.own b (kc hb)
 have kk : ∀ a o, a ≠ b -> H a = some o -> H' a = some o := fun a o ha e => k a o (by simpa using ha) e
 have e : Ext H O M H' O (mup M b (.lst (ns.map fun i => .d (.int i)))) := ⟨fun a o h e => ⟨kk a o (fun z => h (by rw [z]; exact hOb)) e, h⟩, fun a ha e => by
  have hne : a ≠ b := fun z => by rw [z, hb] at e; cases e
  obtain ⟨o, ho, _⟩ := w.al a ha
  exact ⟨by rw [ho]; exact kk a o hne ho, ha, by rw [qe hne]; exact e⟩, fun a ha => by
  by_cases c : a = b
  ·rw [c, zO]; exact fun z => nomatch z
  ·rw [qe c]; exact ha⟩
 refine ⟨e, ⟨fun a o ho => ?_, fun a ha => ?_, fun a ha => ?_⟩⟩
 ·by_cases c : a = b
  ·subst c; rw [zO] at ho; cases ho; exact ⟨_, h, vA ns⟩
  ·rw [qe c] at ho
   refine qR.ext e ?_ (w.mo a o ho)
   obtain ⟨u, hu, _⟩ := w.al a (w.own a (kc ho))
   rw [hu]; exact kk a u c hu
 ·by_cases c : a = b
  ·rw [c]; exact hOb
  ·rw [qe c] at ha; exact w.own a ha
 ·by_cases c : a = b
  ·rw [c]; exact ⟨_, h, fun xs z => nomatch z⟩
  ·obtain ⟨o, ho, hn⟩ := w.al a ha
   exact ⟨o, kk a o c ho, hn⟩
theorem qN {H : Hp} {O : Own} {p : Addr} {ns : List Int} (ho : ¬ O p) (h : H p = some (.lst (ns.map V.int))) : Rep H O (.ref p) (.lst (ns.map .int)) :=
 Rep.lst ho h (by simp) fun i x d e1 e2 => by
  rw [List.getElem?_map] at e1 e2
  cases e : ns[i]? with
  | none => rw [e] at e1; cases e1
  | some n => rw [e] at e1 e2; cases e1; cases e2; exact .int
theorem jg {H : Hp} {O : Own} {M : MH} {v : V} {x : AV} {ns : List Int} (w : Wf H O M) (r : zA H O M v x) (h : qq x M = some (ns.map fun i => .d (.int i))) : ∃ a, v = .ref a /\ (H a = some (.lst (ns.map V.int)) \/ H a = some (.tup (ns.map V.int))) := by
 obtain ⟨a, xs, rfl, h1, r1⟩ := wz w r h
 rw [jp r1] at h1
 exact ⟨a, rfl, h1⟩
theorem KC {H : Hp} {O : Own} {M : MH} {v : V} {x : AV} {ns : List Int} (w : Wf H O M) (r : zA H O M v x) (h : qZ x M = some (ns.map fun i => .d (.int i))) : ∃ a, v = .ref a /\ H a = some (.lst (ns.map V.int)) := by
 obtain ⟨a, xs, rfl, h1, r1⟩ := jc w r h
 rw [jp r1] at h1
 exact ⟨a, rfl, h1⟩
theorem Df.imp' {P : Program} {w : World} {K : PySem.W.Frag} {mg : Str -> Option Value} {base : Heap} {x : Str} {ps : List Str} {sp sp' : Sp} {k : Nat} (D : Df P w K mg base x ps k sp) (h : ∀ vs H Q E, sp' vs H Q E -> sp vs H Q E) : Df P w K mg base x ps k sp' :=
 let ⟨f, fd, F, r⟩ := D
 ⟨f, fd, F.imp h, r⟩
mutual
def wdt : Dat -> Nat
 | .lst l => max l.length (Qg l)
 | .tup l => max l.length (Qg l)
 | _ => 0
def Qg : List Dat -> Nat
 | [] => 0
 | a :: r => max (wdt a) (Qg r)
end
theorem JH {l : List Dat} {n : Nat} (h : ∀ d ∈ l, wdt d <= n) : Qg l <= n := by
 induction l with
 | nil => exact Nat.zero_le _
 | cons a r ih => rw [Qg]; exact Nat.max_le.mpr ⟨h a (by simp), ih fun d hd => h d (by simp [hd])⟩
theorem Je {l : List Dat} {d : Dat} (h : d ∈ l) : wdt d <= Qg l := by
 induction l with
 | nil => cases h
 | cons a r ih =>
  rw [Qg]
  rcases List.mem_cons.mp h with rfl | h
  ·exact Nat.le_max_left _ _
  ·exact Nat.le_trans (ih h) (Nat.le_max_right _ _)
def jn (n : Nat) (d : Dat) : Prop := dp d <= n /\ wdt d <= 100000
theorem jn.mono {n m : Nat} {d : Dat} (h : jn n d) (k : n <= m) : jn m d := ⟨Nat.le_trans h.1 k, h.2⟩
theorem Y7 {n : Nat} {l : List Dat} (hl : l.length <= 100000) (h : ∀ d ∈ l, jn n d) : jn (n + 1) (.lst l) := ⟨by rw [dp]; exact Nat.succ_le_succ (wq fun d hd => (h d hd).1), by rw [wdt]; exact Nat.max_le.mpr ⟨hl, JH fun d hd => (h d hd).2⟩⟩
theorem YG {n : Nat} {l : List Dat} (hl : l.length <= 100000) (h : ∀ d ∈ l, jn n d) : jn (n + 1) (.tup l) := ⟨by rw [dp]; exact Nat.succ_le_succ (wq fun d hd => (h d hd).1), by rw [wdt]; exact Nat.max_le.mpr ⟨hl, JH fun d hd => (h d hd).2⟩⟩
theorem ZG (n : Nat) (i : Int) : jn n (.int i) := ⟨by simp [dp], by simp [wdt]⟩
theorem ke {ns : List Int} (h : ns.length <= 100000) : jn 1 (.lst (ns.map .int)) := Y7 (by simpa using h) fun d hd => by obtain ⟨i, _, rfl⟩ := List.mem_map.mp hd; exact ZG 0 i
theorem Qt {ns : List Int} (h : ns.length <= 100000) : jn 1 (.tup (ns.map .int)) := YG (by simpa using h) fun d hd => by obtain ⟨i, _, rfl⟩ := List.mem_map.mp hd; exact ZG 0 i
theorem jn.lst {n : Nat} {l : List Dat} (h : jn (n + 1) (.lst l)) : l.length <= 100000 /\ ∀ d ∈ l, jn n d := by
 obtain ⟨h1, h2⟩ := h
 rw [dp] at h1
 rw [wdt] at h2
 exact ⟨(Nat.max_le.mp h2).1, fun d hd => ⟨by have := qi hd; omega, Nat.le_trans (Je hd) (Nat.max_le.mp h2).2⟩⟩
theorem jn.tup {n : Nat} {l : List Dat} (h : jn (n + 1) (.tup l)) : l.length <= 100000 /\ ∀ d ∈ l, jn n d := by
 obtain ⟨h1, h2⟩ := h
 rw [dp] at h1
 rw [wdt] at h2
 exact ⟨(Nat.max_le.mp h2).1, fun d hd => ⟨by have := qi hd; omega, Nat.le_trans (Je hd) (Nat.max_le.mp h2).2⟩⟩
theorem yD {x : AV} {M : MH} {l : List Dat} (h : xL x M = some (.lst l)) : qZ x M = some (l.map .d) /\ qq x M = some (l.map .d) /\ tyA x M = some "list" /\ xF x = false := by
 cases x with
 | d x => cases h; exact ⟨rfl, rfl, rfl, rfl⟩
 | ref a =>
  unfold xL at h
  dsimp only at h
  cases e : M a with
  | none => rw [e] at h; cases h
  | some o =>
   rw [e] at h
   cases o with
   | lst m =>
    dsimp only at h
    cases ep : pur m with
    | none => rw [ep] at h; cases h
    | some ds =>
     rw [ep] at h
     cases h
     rw [kE ep] at e
     exact ⟨Zi e, wO e, by unfold tyA; dsimp only; rw [e], rfl⟩
   | _ => cases h
theorem qa {x : AV} {M : MH} {d : Dat} (h : xL x M = some d) (hd : ∀ l, d ≠ .lst l) : x = .d d := by
 cases x with
 | d x => cases h; rfl
 | ref a =>
  unfold xL at h
  dsimp only at h
  cases e : M a with
  | none => rw [e] at h; cases h
  | some o =>
   rw [e] at h
   cases o with
   | lst m =>
    dsimp only at h
    cases ep : pur m with
    | none => rw [ep] at h; cases h
    | some ds => rw [ep] at h; cases h; exact absurd rfl (hd ds)
   | _ => cases h
theorem DC (b : Bool) : dp (.bl b) = 0 := by simp [dp]
theorem BG (b : Str) : dp (.str b) = 0 := by simp [dp]
theorem A4 : dp .non = 0 := by simp [dp]
theorem AR (a b : Bool) : eqD (.bl a) (.bl b) = decide (a = b) := by rw [eqD]; cases a <;> cases b <;> rfl
theorem A5 (a b : Int) : eqD (.int a) (.int b) = decide (a = b) := by rw [eqD]; by_cases h : a = b <;> simp [h]
theorem AN (a b : Str) : eqD (.str a) (.str b) = decide (a = b) := by rw [eqD]; by_cases h : a = b <;> simp [h]
theorem Bh : eqD .non .non = true := by simp [eqD]
theorem B1 (i : Int) : eqD .non (.int i) = false := by simp [eqD]
theorem AU (i : Int) : eqD (.int i) .non = false := by simp [eqD]
theorem W3 (i : Int) (s : Str) : eqD (.int i) (.str s) = false := by simp [eqD]
theorem Aj (i : Int) (s : Str) : eqD (.str s) (.int i) = false := by simp [eqD]
theorem Bg (s : Str) : eqD (.str s) .non = false := by simp [eqD]
theorem Ab (s : Str) : eqD .non (.str s) = false := by simp [eqD]
theorem KR {x : AV} {M : MH} {l : List AV} (h : qZ x M = some l) {p : Addr} (hp : M p = none) (o : MO) : qZ x (mup M p o) = some l := by
 rcases xZ h with ⟨m, rfl, rfl⟩ | ⟨a, rfl, e⟩
 ·rfl
 ·exact Zi (by rw [qe (fun z => by rw [z, hp] at e; cases e)]; exact e)
theorem yy {x : AV} {M : MH} {l : List AV} (h : qq x M = some l) {p : Addr} (hp : M p = none) (o : MO) : qq x (mup M p o) = some l := by
 rcases xc h with h' | ⟨m, rfl, rfl⟩
 ·have := KR h' hp o
  rcases xZ h' with ⟨m, rfl, rfl⟩ | ⟨a, rfl, e⟩
  ·rfl
  ·exact this
 ·rfl
theorem jQ (ns : List Int) : List.map AV.d (List.map Dat.int ns) = List.map (fun i => AV.d (.int i)) ns := by rw [List.map_map]; rfl
theorem X0 (ns : List Bool) : List.map AV.d (List.map Dat.bl ns) = List.map (fun i => AV.d (.bl i)) ns := by rw [List.map_map]; rfl
theorem qC (ns : List Int) : pur (List.map (fun i => AV.d (.int i)) ns) = some (ns.map Dat.int) := by rw [<- jQ, jB]
theorem Wq (ns : List Bool) : pur (List.map (fun i => AV.d (.bl i)) ns) = some (ns.map Dat.bl) := by rw [<- X0, jB]
theorem Ju {α β : Type} (f : α -> β) (l : List α) (i : Int) : atI (l.map f) i = (atI l i).map f := by
 unfold atI
 rw [List.length_map]
 cases ixN l.length i with
 | none => rfl
 | some j => exact List.getElem?_map ..
theorem Y0 {n : Nat} {i : Int} (h0 : 0 <= i) (h1 : i < n) : ixN n i = some i.toNat := by unfold ixN; rw [if_pos h0, if_pos h1]
theorem XA {α : Type} {l : List α} {i : Int} (h0 : 0 <= i) (h1 : i < l.length) (d : α) : atI l i = some (l.getD i.toNat d) := by
 unfold atI
 rw [Y0 h0 h1]
 show l[i.toNat]? = _
 rw [List.getD_eq_getElem?_getD, List.getElem?_eq_getElem (by omega)]; rfl
theorem qt {ns : List Int} {i : Int} (h0 : 0 <= i) (h1 : i < ns.length) : atI (ns.map fun i => AV.d (.int i)) i = some (.d (.int (ns.getD i.toNat 0))) := by rw [Ju, XA h0 h1 0]; rfl
theorem JL {α : Type} (xs : List α) (k : Nat) : wl xs (some (k : Int)) none = xs.drop k := by
 unfold wl
 rw [HT.sIx_nat, HT.sIx_none, List.take_of_length_le (by rw [List.length_drop]; omega)]
 by_cases h : k <= xs.length
 ·rw [Nat.min_eq_left h]
 ·rw [Nat.min_eq_right (by omega), List.drop_length, List.drop_of_length_le (by omega)]
theorem zH {a ku : AS} {B : MH} {D : ye} {ρ : ASt} {M : MH} (h : ∀ r, r = ku -> Qr a r B D ρ M) : Qr a ku B D ρ M := h ku rfl
theorem Fr.non {M M' : MH} (f : Fr M M') {p : Addr} (h : M' p = none) : M p = none := by
 cases e : M p with
 | none => rfl
 | some o => rw [f p (by rw [e]; exact fun z => nomatch z), e] at h; cases h
abbrev ilD (os : List Int) : Dat := .lst (os.map .int)
theorem VG (ns : List Int) (M : MH) : qZ (.d (ilD ns)) M = some (ns.map fun i => .d (.int i)) := by rw [YI, jQ]
def BxM (M : MH) (b : Addr) (N : Nat) : Prop := ∃ x y z : Int, M b = some (.lst [.d (.int x), .d (.int y), .d (.int z)]) /\ 0 <= x /\ 0 <= y /\ y < 2147483648 /\ 0 <= z /\ z <= N
theorem BxM.ne {M : MH} {b : Addr} {N : Nat} (h : BxM M b N) : M b ≠ none := by obtain ⟨x, y, z, h1, _⟩ := h; exact kc h1
theorem BxM.bx {H : Hp} {O : Own} {M : MH} {b : Addr} {N : Nat} (w : Wf H O M) (h : BxM M b N) : Bx H b N := by
 obtain ⟨x, y, z, h1, h2⟩ := h
 obtain ⟨xs, hx, rx⟩ := w.mo b _ h1
 rw [jp (ns := [x, y, z]) rx] at hx
 exact ⟨x, y, z, hx, h2⟩
def BxS (M M' : MH) (b : Addr) (N : Nat) : Prop := BxM M' b N /\ ∃ o, M' = mup M b o
theorem BxS.at {M M' : MH} {b : Addr} {N : Nat} (h : BxS M M' b N) {q : Addr} (hq : q ≠ b) : M' q = M q := by
 obtain ⟨_, o, rfl⟩ := h
 exact qe hq
theorem Z8 {H H' : Hp} {O : Own} {M : MH} (w : Wf H O M) {b : Addr} {N N' : Nat} (hb : BxM M b N) (k : Kp [b] H H') (h : Bx H' b N') : ∃ M', BxS M M' b N' /\ Ext H O M H' O M' /\ Wf H' O M' := by
 obtain ⟨x, y, z, h1, _⟩ := hb
 obtain ⟨x', y', z', g1, g2⟩ := h
 obtain ⟨e1, e2⟩ := Bl w h1 k (ns := [x', y', z']) g1
 exact ⟨_, ⟨⟨x', y', z', zO, g2⟩, _, rfl⟩, e1, e2⟩
end L2
set_option Elab.async false
set_option linter.all false
set_option maxRecDepth 100000
set_option maxHeartbeats 4000000
namespace L2
open PySem PySem.Spec PyProof.Rows
mutual
def pdD : Dat -> PyData
 | .bl b => .bool b
 | .int i => .int i
 | .str x => .str x
 | .lst l => .list (vU l)
 | .tup l => .tuple (vU l)
 | _ => .none
def vU : List Dat -> List PyData
 | [] => []
 | a :: r => pdD a :: vU r
end
section
variable {X : Cx} {pins : List (Addr × Obj)} {s : Shared} {σ : St} {H : Hp} {O : Own}
mutual
theorem A6 : ∀ d : Dat, (pdD d).hasDict = false
 | .non => by simp [pdD, PyData.hasDict]
 | .bl _ => by simp [pdD, PyData.hasDict]
 | .int _ => by simp [pdD, PyData.hasDict]
 | .str _ => by simp [pdD, PyData.hasDict]
 | .ty _ => by simp [pdD, PyData.hasDict]
 | .rng _ _ _ => by simp [pdD, PyData.hasDict]
 | .scr _ _ => by simp [pdD, PyData.hasDict]
 | .lst l => by rw [pdD, PyData.hasDict]; exact vH l
 | .tup l => by rw [pdD, PyData.hasDict]; exact vH l
theorem vH : ∀ l : List Dat, PyData.hasDictAll (vU l) = false
 | [] => by simp [vU, PyData.hasDictAll]
 | a :: r => by rw [vU, PyData.hasDictAll, A6 a, vH r]; rfl
end
mutual
theorem XW : ∀ d : Dat, (pdD d).depth <= dp d
 | .non => by simp [pdD, PyData.depth]
 | .bl _ => by simp [pdD, PyData.depth]
 | .int _ => by simp [pdD, PyData.depth]
 | .str _ => by simp [pdD, PyData.depth]
 | .ty _ => by simp [pdD, PyData.depth]
 | .rng _ _ _ => by simp [pdD, PyData.depth]
 | .scr _ _ => by simp [pdD, PyData.depth]
 | .lst l => by rw [pdD, PyData.depth, dp]; exact Nat.succ_le_succ (xv l)
 | .tup l => by rw [pdD, PyData.depth, dp]; exact Nat.succ_le_succ (xv l)
theorem xv : ∀ l : List Dat, PyData.depthAll (vU l) <= dps l
 | [] => by simp [vU, PyData.depthAll]
 | a :: r => by rw [vU, PyData.depthAll, dps]; exact Nat.max_le.mpr ⟨Nat.le_trans (XW a) (Nat.le_max_left _ _), Nat.le_trans (xv r) (Nat.le_max_right _ _)⟩
end
end
section
variable {X : Cx}
end
structure Sh (b : Nat) (d : Dat) : Prop where
 s : (pdD d).showable = true
 l : (pdD d).shown.length <= b
theorem Wx {a b : ASp} (h : ∀ xs M Q, b xs M Q -> a xs M (rtA M Q)) (vs : List V) (H : Hp) (Q : VK) (E : XK) (q : cSp b vs H Q E) : cSp a vs H Q E := by
 obtain ⟨xs, M, O, Q', w, r, q, k⟩ := q
 refine ⟨xs, M, O, _, w, r, h xs M Q' q, fun x M' v H' O' q' e' w' r' => ?_⟩
 obtain ⟨y', M'', f, q2⟩ := q'
 obtain ⟨O'', w2, k2, r2⟩ := Qm w w' e' r' f
 exact k _ _ _ _ _ q2 k2 w2 r2
end L2
set_option Elab.async false
set_option linter.all false
set_option maxRecDepth 100000
set_option maxHeartbeats 4000000
namespace L2
open PySem PySem.Spec PyProof.Rows
structure SB (M0 M : MH) (b : Addr) (N : Nat) : Prop where
 bx : BxM M b N
 fr : ∀ q, M0 q ≠ none -> q ≠ b -> M q = M0 q
 b0 : M0 b ≠ none
theorem SB.refl {M : MH} {b : Addr} {N : Nat} (h : BxM M b N) : SB M M b N := ⟨h, fun _ _ _ => rfl, h.ne⟩
theorem SB.go {M0 M M' : MH} {b : Addr} {N N' : Nat} (s : SB M0 M b N) (t : BxS M M' b N') : SB M0 M' b N' := ⟨t.1, fun q hq hb => (t.at hb).trans (s.fr q hq hb), s.b0⟩
theorem ZP {M0 M : MH} {Q : AK} {d : Dat} (f : Fr M0 M) (q : Q (.d d) M0) : rtA M0 Q (.d d) M := ⟨_, _, QW f d, q⟩
theorem SB.frm {M M2 M' : MH} {b : Addr} {N : Nat} (f : Fr M M2) (hb : M b = none) (s : SB M2 M' b N) : Fr M M' := fun q hq => by
 have h1 : q ≠ b := fun z => hq (by rw [z]; exact hb)
 rw [s.fr q (by rw [f q hq]; exact hq) h1, f q hq]
theorem V6 (l m : List Dat) : pur (l.map AV.d ++ m.map AV.d) = some (l ++ m) := by rw [<- List.map_append, jB]
section
variable {X : Cx}
end
section
open PySem.SeqAt
open PySem.AutoSeq1 (wpAny_loadPart')
open PySem.MeetsSeq PySem.MeetsSeq2 PySem.MeetsSeq3 PySem.SeqRoads2
end
section
variable {X : Cx}
end
end L2
set_option Elab.async false
set_option linter.all false
set_option maxRecDepth 100000
set_option maxHeartbeats 4000000
namespace L2
open PySem PySem.Spec PyProof.Rows
section
variable {X : Cx} {pins : List (Addr × Obj)} {σ : St} {H : Hp} {s : Shared} {a b : Addr} {kvs : List (List Key × V)} {k : List Key} {v : V} {r : Value} {A : Around} {E : Value -> Shared -> Prop}
end
end L2
set_option Elab.async false
set_option linter.all false
set_option maxRecDepth 100000
set_option maxHeartbeats 4000000
namespace Ot
open PySem PySem.Spec PyProof.Rows L2
def top (i : Nat) : Stmt := PySem.Challenge.pw_ownturn_k24_whole_walks_together.main.body.getD i (.Pass ⟨0, 0, 0, 0⟩)
section
variable {P : Program} {w : World} {K : PySem.W.Frag} {mg : Str -> Option Value} {base : Heap} {k : Nat}
local macro_rules | `(tactic| walk_at "rd") => `(tactic| try simp only [Xp, Bn, BQ, yf, tOp, tUn, rU, v8, tC, tB, Dx, B8, Q7, rI0, rI, Y9, wZ, Ac, WV, Yb, WB, Xg, W7, Bm, tCB, XS, A7, WN, Jp, WU, Z3, Vv, WC, rEq, rNe, W9, W2, tBM, vO, vT, QY, JO, ipI, Ks, J0, tOr, Dw, An, KI, BR, B9, JG, YR, cxK, Xb, WM, WO, iLT, WK, QU, Ds, tSl, X7, v9, Bd, List.append_nil,
 List.getElem?_cons_zero, List.getElem?_cons_succ, Option.some.injEq, exists_eq_left', exists_eq_left, V.int.injEq, V.ref.injEq, V.bl.injEq, List.cons.injEq, and_true, true_and, and_assoc, decide_eq_true_eq, Bool.not_eq_true', decide_eq_false_iff_not, Bool.false_eq_true, if_false, if_true, reduceIte, exists_and_left, exists_and_right, List.set_cons_zero, List.set_cons_succ, List.nil_append, List.cons_append])
theorem j8 {H : Hp} {a b : Addr} {o : HO} (h' : H b = none) (h : H a = some o) : a ≠ b := zh h h'
theorem kU {H H' : Hp} {l : Addr} (h : H' l = none) (e : Kp [] H H') : H l = none := e.free h
theorem Z6 {K : PySem.W.Frag} {H H' : Hp} {a : Addr} {xs : List V} (h : SqL K H a xs) (e : Kp [] H H') : SqL K H' a xs := by
 rcases h with (h | ⟨o, h⟩) | h
 ·exact .inl (.inl (e _ _ (by simp) h))
 ·exact .inl (.inr ⟨o, e _ _ (by simp) h⟩)
 ·exact .inr h
theorem hsl : 100000 < sizeLine := by rw [sizeLine_eq]; decide
theorem wK {α : Type} (k : Nat) (v : α) : (List.replicate k [v]).flatten = List.replicate k v := by simp
theorem jf (i : Int) {j : Int} (h : 0 < j) : 0 <= i % j /\ i % j < j := ⟨Int.emod_nonneg _ (by omega), Int.emod_lt_of_pos _ h⟩
theorem Qk {i j : Int} (h1 : 0 <= i) (h2 : i < 18446744073709551616) : KS i j := .inl ⟨by omega, by omega⟩
theorem Ya {i j : Int} (h1 : 0 <= j) (h2 : j < 18446744073709551616) : KS i j := .inr ⟨by omega, by omega⟩
theorem b01 (c : Prop) [Decidable c] : 0 <= (if c then (1 : Int) else 0) := by split <;> decide
theorem Wd {i j : Int} (h1 : 0 < j) (h2 : j < 1073741824) : Ag i j := ⟨h1, h2⟩
local macro_rules | `(tactic| walk_at "ne") => `(tactic| first | (with_reducible assumption) | exact Ne.symm (by with_reducible assumption) | exact j8 (by with_reducible assumption) (by walk_at "hp") | exact Ne.symm (j8 (by with_reducible assumption) (by walk_at "hp")))
local macro_rules | `(tactic| walk_at "hp") => `(tactic| first | (with_reducible assumption) | (with_reducible exact zd) | ((with_reducible refine Eq.trans (zk ?ne) ?_); (case ne => walk_at "ne"); walk_at "hp"))
local macro_rules | `(tactic| walk_at "kp") => `(tactic| first | (with_reducible assumption) | (with_reducible exact Kp.refl) | ((with_reducible refine Kp.trans ?_ (Kp.new _ ?h)); (case h => with_reducible assumption); walk_at "kp") | ((with_reducible refine Kp.trans ?_ (Kp.set _ ?h)); (case h => (simp; done)); walk_at "kp"))
local macro_rules | `(tactic| walk_at "fr") => `(tactic| first | (with_reducible assumption) | exact kU (by with_reducible assumption) (by walk_at "kp"))
local macro_rules | `(tactic| walk_at "sz") => `(tactic| (simp only [List.length_cons, List.length_nil, List.length_map, List.length_append, List.length_replicate, List.length_take, List.length_drop, zM, wK, Nat.zero_add, Nat.one_mul]; omega))
local macro_rules | `(tactic| walk_at "fact") => `(tactic| first | (with_reducible assumption) | exact rfl | exact SqL.of (by walk_at "hp") | exact SqT.of (by walk_at "hp") | exact Or.inl (SqL.of (by walk_at "hp")) | exact Or.inr (SqT.of (by walk_at "hp")) | exact Or.inl (by with_reducible assumption) | exact Z6 (by with_reducible assumption) (by walk_at "kp") | exact Or.inl (Z6 (by with_reducible assumption) (by walk_at "kp")) | exact Exists.intro _ (SqL.of (by walk_at "hp")) | exact Exists.intro _ (Z6 (by with_reducible assumption) (by walk_at "kp")) | (walk_at "hp") | decide | omega | exact Qk (by omega) (by omega) | exact Ya (by omega) (by omega) | exact Wd (by omega) (by omega) | exact ⟨by omega, by omega⟩ | (walk_at "sz") | exact ⟨by decide, by decide, by decide⟩ | exact Ya (b01 _) (b01' _) | (walk_at "fr"))
local macro_rules | `(tactic| walk_at "x1") => `(tactic| first
 | ((with_reducible refine Exists.intro ?w (And.intro ?h ?_)); (case h => walk_at "fact"))
 | ((with_reducible refine And.intro ?h ?_); (case h => walk_at "fact"))
 | ((with_reducible refine Exists.intro ?w (Exists.intro ?w2 (And.intro ?h ?_))); (case h => walk_at "fact")))
local macro_rules | `(tactic| walk_at "xs") => `(tactic| repeat walk_at "x1")
local macro_rules | `(tactic| walk_at "sim1") => `(tactic| first
 | (with_reducible apply Yv) | with_reducible exact We | with_reducible exact A3 | with_reducible exact Bz | with_reducible exact BK | with_reducible exact Vw | with_reducible exact YL | with_reducible exact JM | with_reducible exact Yz | with_reducible exact Vs
 | with_reducible exact Yj | with_reducible exact V2 | with_reducible exact BE | with_reducible exact Vj | with_reducible exact XC | with_reducible exact Xv
 | with_reducible exact A9 | with_reducible exact XD | with_reducible exact Vp
 | with_reducible exact Bf | with_reducible exact Vf | with_reducible exact K4 | with_reducible exact Y8 | with_reducible exact Vm | with_reducible exact KO
 | with_reducible exact ZL | with_reducible exact Zu | with_reducible exact yX
 | with_reducible exact xE | with_reducible exact Kj
 | (with_reducible apply Ws) | (with_reducible apply VS) | (with_reducible apply VX) | (with_reducible apply VB) | (with_reducible apply V0) | (with_reducible apply V9) | (with_reducible apply YB)
 | (with_reducible apply Ka) | (with_reducible apply Xw) | (with_reducible apply Yn) | (with_reducible apply De) | (with_reducible apply Bb) | (with_reducible apply Wj) | (with_reducible apply Az) | (with_reducible apply Wn)
 | (with_reducible apply Xx) | (with_reducible apply Wu) | (with_reducible apply Kq) | (with_reducible apply XE)
 | (with_reducible apply KW) | (with_reducible apply B3) | (with_reducible apply ZZ) | (with_reducible apply KB) | (with_reducible apply wd)
 | (with_reducible apply Vx) | (with_reducible apply vY) | (with_reducible apply J7) | (with_reducible apply Vl) | (with_reducible apply KY) | (with_reducible apply Yd) | (with_reducible apply BW) | (with_reducible apply J9) | (with_reducible apply Kb) | (with_reducible apply AH)
 | (with_reducible apply xf))
local macro_rules | `(tactic| walk_at "sim") => `(tactic| repeat' walk_at "sim1")
local macro_rules | `(tactic| walk_at "ra") => `(tactic| try simp only [ ZC, aC, aOp, aUn, Vz, ZV, aCB, XF, aFz, aOw, Dg, DG, aB, ZX, aOr, Ae, WQ, XI, Qo, Qr, BX, AJ, ky, WS, KJ, WR, XX, asL, AW, DF, Dv, aiS, Dj, va, YZ, aI, aI0, aU, aIx, fOp, BZ, AL, Dr, WD, fSl, Dh, Bs, bI2, fCB, X1, v0, Da, WF, WJ, DH, WE, WY, Wr, W4, YI, BY, BM, AY, Dc, Dz, B7, Du, Dq, DA, KZ, Kx, Option.map_some, YO, KP, XN, Yt, Qh, QD, By, W8, W1, Bq, AX, AD, Bp, Au, AC, Bi, BV, BJ, BO, Ah, BA, Be, BL, AZ, AB, AQ, Av, Ap, A2, Al, A1, Aa, Br, A8, BU, BS, VH, JU, jB, qC, Wq, jQ, X0, BP, Bk, Am, WA, Vq, VQ, VZ, VE, V5, VV, Yg, DC, BG, A4, AR, A5, AN, Bh, B1, AU, W3, Aj, Bg, Ab, id, decide_true, decide_false, Bool.decide_eq_true, not_true_eq_false, not_false_eq_true, VF,
 List.getElem?_cons_zero, List.getElem?_cons_succ, Option.some.injEq, exists_eq_left', exists_eq_left, AV.d.injEq, AV.ref.injEq, Dat.int.injEq, Dat.bl.injEq, Dat.str.injEq, Dat.lst.injEq, Dat.tup.injEq, Dat.ty.injEq, List.cons.injEq, and_true, true_and, and_assoc, decide_eq_true_eq, Bool.not_eq_true', decide_eq_false_iff_not, Bool.false_eq_true, if_false, if_true, reduceIte, exists_and_left, exists_and_right, List.set_cons_zero, List.set_cons_succ, List.nil_append, List.cons_append, List.length_map, List.map_cons, List.map_nil, Nat.zero_le, Bool.not_true, Bool.not_false, Bool.true_eq_false, eq_self, List.length_cons, List.length_nil])
theorem yA (ns : List Int) (lo hi : Option Int) : wj (ns.map V.int) lo hi = List.map V.int ((ns.drop (HT.sIx ns.length 0 lo)).take (HT.sIx ns.length ns.length hi - HT.sIx ns.length 0 lo)) := by
 unfold wj
 rw [List.length_map, <- List.map_drop, <- List.map_take]
theorem kh (cs : List Int) (j : Nat) (v : Int) : (cs.map V.int).set j (.int v) = (cs.set j v).map V.int := by rw [List.map_set]
theorem zw {cs : List Int} {k : Int} (h0 : 0 <= k) (h1 : k < cs.length) : ixN (cs.map V.int).length k = some k.toNat /\ atI (cs.map V.int) k = some (.int (cs.getD k.toNat 0)) := by
 have hk : k.toNat < cs.length := by omega
 have e1 : ixN (cs.map V.int).length k = some k.toNat := by unfold ixN; rw [List.length_map, if_pos h0, if_pos h1]
 refine ⟨e1, ?_⟩
 unfold atI
 rw [e1]
 show (cs.map V.int)[k.toNat]? = _
 rw [List.getElem?_map, List.getD_eq_getElem?_getD, List.getElem?_eq_getElem hk]; rfl
theorem qd {ns : List Int} {i : Nat} {x : V} (h : (ns.map V.int)[i]? = some x) : x = .int (ns.getD i 0) /\ i < ns.length := by
 rw [List.getElem?_map] at h
 cases e : ns[i]? with
 | none => rw [e] at h; cases h
 | some v =>
  rw [e] at h
  cases h
  exact ⟨by rw [List.getD_eq_getElem?_getD, e]; rfl, (List.getElem?_eq_some_iff.mp e).1⟩
theorem Kp.un {bs : List Addr} {p : Addr} {H H' : Hp} (h : Kp (p :: bs) H H') (hp : H p = none) : Kp bs H H' := fun c o n e => h c o (by
 intro z
 rcases List.mem_cons.mp z with z | z
 ·subst z; rw [hp] at e; cases e
 ·exact n z) e
theorem je {K : PySem.W.Frag} {H H' : Hp} {a : Addr} {xs : List V} (h : SqL K H a xs \/ SqT K H a xs) (e : Kp [] H H') : SqL K H' a xs \/ SqT K H' a xs := h.imp (fun z => ww z e) (fun z => vF z e)
def rfs (rs : List (Addr × List Int)) : List V := rs.map fun r => V.ref r.1
abbrev QC : Stmt := top 24
theorem JI : zt ["_law_box_here", "_law_many", "_law_once", "_law_found"] ["_law_box_here", "_law_many"] (zj QC) := ⟨rfl, rfl, rfl, by decide +kernel, rfl, by decide +kernel, by decide +kernel⟩
def kz : Sp := fun vs H Q _ => ∃ (b : Addr) (many : Int) (N : Nat), vs = [.ref b, .int many] /\ Bx H b N /\ N < 1000000000 /\ 0 < many /\ many < 1073741824 /\ ∀ r H', Kp [b] H H' -> Bx H' b (N + 1) -> 0 <= r -> r < many -> Q (.int r) H'
theorem V1 (a : At K mg "_law_take" QC) (B : Blt mg) : Df P w K mg base "_law_take" ["_law_box_here", "_law_many"] 1 kz := by
 refine qm (k := 0) a JI (fun _ _ _ _ _ _ us hl => match us, hl with | [_, _], _ => rfl) (fun vs H Q E h => ?_) (fun f cdv A outer s H vs Q E hr h => ?_)
 ·obtain ⟨b, m, N, rfl, _⟩ := h; rfl
 obtain ⟨b, m, N, rfl, ⟨x, y, z, hb, hx, hy, hy', hz, hz'⟩, hN, hm, hm', q⟩ := h
 have sc := JI
 refine ⟨_, (zc (zS (zx Xf (zE zN (pv 0) ze (fun _ _ => rfl)) ze (zu _)) (zc (qY (zo wD rfl B.divmod Kh (za (zE zN (pv 0) ze (fun _ _ => rfl)) (za (pv 1) zb))) (jG (K := K) 2 rfl rfl (zV (jb (pv 0) ze zY) (zV (zr (i := 3) sc.nd rfl (by first | exact Or.inl rfl | exact Or.inr rfl)) jH))))
  (zg (zm (pv 3)))) zD)
  (zc (qY (zl zP (zE zN (pv 0) ze (fun _ _ => rfl)) ze) (jb (pv 0) ze zY))
  (zc (zy (i := 2) sc.nd rfl (by first | exact Or.inl rfl | exact Or.inr rfl) (zl qu (zl qI (zl zP (zE zN (pv 0) ze (fun _ _ => rfl)) (zl qI ze (zE zN (pv 0) ze (fun _ _ => rfl)))) (zl zP ze (zE zN (pv 0) ze (fun _ _ => rfl)))) ze))
  (zc (qY (zl qu (zl zP (zl qI (pv 2) (zl zP (zl qu (pv 2) ze) ze)) (zE zN (pv 0) ze (fun _ _ => rfl))) ze) (jb (pv 0) ze zY))
  (zg (zm (zl qu (zl kQ (zl qu (zl qI (zE zN (pv 0) ze (fun _ _ => rfl)) (zl zP (zl qu (zE zN (pv 0) ze (fun _ _ => rfl)) ze) ze)) ze) ze) (pv 1)))))))), ?_⟩
 rw [show start ["_law_box_here", "_law_many", "_law_once", "_law_found"] [V.ref b, V.int m] = [some (.ref b), some (.int m), none, none] from rfl]
 walk_at "rd"
 walk_at "xs"
 refine jl (fun c => ?_) (fun c => ?_)
 ·walk_at "xs"
  refine fun p hp => ?_
  walk_at "xs"
  refine q _ _ ((Kp.new _ hp).trans (Kp.set _ (by simp))) ⟨_, _, _, zd, Int.ediv_nonneg hx (by omega), hy, hy', hz, by omega⟩ (jf x hm).1 (jf x hm).2
 ·walk_at "xs"
  refine q _ _ ((Kp.set _ (by simp)).trans (Kp.set _ (by simp))) ⟨_, _, _, zd, hx, ?_, ?_, ?_, ?_⟩ (jf _ hm).1 (jf _ hm).2
  ·exact (jf _ (by decide)).1
  ·exact Int.lt_trans (jf _ (by decide)).2 (by decide)
  ·omega
  ·omega
abbrev YE : Stmt := top 23
theorem KE : zt ["_law_script", "_law_k", "_law_cell"] ["_law_script", "_law_k"] (zj YE) := ⟨rfl, rfl, rfl, by decide +kernel, rfl, by decide +kernel, by decide +kernel⟩
def WW : Sp := fun vs H Q _ => ∃ (a : Addr) (k : Int) (cs : List Int), vs = [.ref a, .int k] /\ H a = some (il cs) /\ 0 <= k /\ k <= 1000 /\ cs.length <= 1000 /\ ∀ p H', Kp [] H H' -> H p = none -> Bx H' p 0 -> Q (.ref p) H'
theorem Wg {cs : List Int} {k : Int} (h0 : 0 <= k) : ∃ c : Int, atI (cs.map V.int ++ List.replicate (k + 1).toNat (V.int 0)) k = some (.int c) := by
 have e : cs.map V.int ++ List.replicate (k + 1).toNat (V.int 0) = (cs ++ List.replicate (k + 1).toNat 0).map V.int := by simp
 have ek : k = ((k.toNat : Nat) : Int) := by omega
 have hk : k.toNat < (cs ++ List.replicate (k + 1).toNat (0 : Int)).length := by rw [List.length_append, List.length_replicate]; omega
 refine ⟨(cs ++ List.replicate (k + 1).toNat 0)[k.toNat], ?_⟩
 rw [e]
 have q : atI ((cs ++ List.replicate (k + 1).toNat (0 : Int)).map V.int) ((k.toNat : Nat) : Int) = some (.int (cs ++ List.replicate (k + 1).toNat 0)[k.toNat]) := VL (by rw [List.getElem?_map, List.getElem?_eq_getElem hk] <;> rfl)
 rw [<- ek] at q
 exact q
theorem Bu (a : At K mg "_law_box" YE) (B : Blt mg) : Df P w K mg base "_law_box" ["_law_script", "_law_k"] 1 WW := by
 refine qm (k := 0) a KE (fun _ _ _ _ _ _ us hl => match us, hl with | [_, _], _ => rfl) (fun vs H Q E h => ?_) (fun f cdv A outer s H vs Q E hr h => ?_)
 ·obtain ⟨a, k, cs, rfl, _⟩ := h; rfl
 obtain ⟨a, k, cs, rfl, ha, hk, hk', hcs, q⟩ := h
 have sc := KE
 have hsl := hsl
 refine ⟨_, (zc (zy (i := 2) sc.nd rfl (by first | exact Or.inl rfl | exact Or.inr rfl) (zE zN (zl xW (pv 0) (zl xq (zZ (za ze zb)) (zl zP (pv 1) ze))) (pv 1) (fun _ _ => rfl)))
  (zg (zm (zZ (za (zl qI (zo ZY rfl B.abs Yo (za (pv 2) zb)) (zL vf rfl B.int Qu (za (qS Yl (zo ZY rfl B.abs Yo (za (pv 2) zb)) (zl A0 ze ze) (zu _)) zb))) (za (zl qu (zl qI (zl zP (zl zP (zl qu (pv 2) ze) (zl qI ze (pv 1))) ze) ze) ze) (za ze zb))))))), ?_⟩
 rw [show start ["_law_script", "_law_k", "_law_cell"] [V.ref a, V.int k] = [some (.ref a), some (.int k), none] from rfl]
 walk_at "rd"
 walk_at "xs"
 intro p1 hp1
 walk_at "xs"
 intro p2 hp2
 walk_at "xs"
 intro p3 hp3
 simp only [wK] at hp3 ⊢
 obtain ⟨c, hc⟩ := Wg (cs := cs) hk
 walk_at "xs"
 intro p4 hp4
 refine q _ _ (by walk_at "kp") (by walk_at "fr") ⟨_, _, _, zd, ?_, ?_, ?_, ?_, ?_⟩
 ·exact Int.mul_nonneg (by split <;> omega) (b01 _)
 ·exact (jf _ (by decide)).1
 ·exact Int.lt_trans (jf _ (by decide)).2 (by decide)
 ·decide
 ·decide
abbrev yJ : Stmt := top 25
theorem vb : zt ["_law_script", "_law_many", "_law_cells", "_law_k", "_law_cell"] ["_law_script", "_law_many"] (zj yJ) := ⟨rfl, rfl, rfl, by decide +kernel, rfl, by decide +kernel, by decide +kernel⟩
def ZU (K : PySem.W.Frag) : Sp := fun vs H Q _ => ∃ (a : Addr) (m : Int) (ns : List Int), vs = [.ref a, .int m] /\ SqL K H a (ns.map V.int) /\ 0 < m /\ m <= 60 /\ ns.length <= 63 /\ ∀ p H' cs, Kp [] H H' -> H p = none -> H' p = some (il cs) -> cs.length <= 1000 -> Q (.ref p) H'
theorem Kd (a : At K mg "_law_folded" yJ) (B : Blt mg) : Df P w K mg base "_law_folded" ["_law_script", "_law_many"] 1 (ZU K) := by
 refine qm (k := 0) a vb (fun _ _ _ _ _ _ us hl => match us, hl with | [_, _], _ => rfl) (fun vs H Q E h => ?_) (fun f cdv A outer s H vs Q E hr h => ?_)
 ·obtain ⟨a, k, cs, rfl, _⟩ := h; rfl
 obtain ⟨a, m, ns, rfl, ha, hm, hm', hns, q⟩ := h
 obtain ⟨M, rfl⟩ : ∃ M : Nat, m = M := ⟨m.toNat, by omega⟩
 have sc := vb
 have hsl := hsl
 refine ⟨_, (zc (zy (i := 2) sc.nd rfl (by first | exact Or.inl rfl | exact Or.inr rfl) (zL kP rfl B.list qM (za (kS xO (pv 0) wa (kI (pv 1))) zb)))
  (zc (qF PassesOwn.never rfl (Wk rfl B.enumerate (za (kS xO (pv 0) (kI (pv 1)) (kI ze)) zb)) (jG (K := K) 2 rfl rfl (zV (zr (i := 3) sc.nd rfl (by first | exact Or.inl rfl | exact Or.inr rfl)) (zV (zr (i := 4) sc.nd rfl (by first | exact Or.inl rfl | exact Or.inr rfl)) jH))) (zg (qY (zl zP (zE zN (pv 2) (zl qu (pv 3) (pv 1)) (fun _ _ => rfl)) (zl qI (pv 4) (zl zP (pv 3) ze))) (jb (pv 2) (zl qu (pv 3) (pv 1)) zY))))
  (zg (zm (pv 2))))), ?_⟩
 rw [show start ["_law_script", "_law_many", "_law_cells", "_law_k", "_law_cell"] [V.ref a, V.int M] = [some (.ref a), some (.int M), none, none, none] from rfl]
 walk_at "rd"
 walk_at "xs"
 intro p1 hp1
 rw [yA]
 walk_at "xs"
 intro p2 hp2
 walk_at "xs"
 intro p3 hp3
 rw [yA]
 have e63 : (63 : Int) = ((63 : Nat) : Int) := rfl
 simp only [HT.sIx_none, HT.sIx_nat, e63, List.drop_zero, Nat.sub_zero] at hp2 hp3 ⊢
 walk_at "xs"
 generalize hc0 : ns.take (min M ns.length) = c0 at hp2 hp3 ⊢
 generalize hd0 : (ns.drop (min M ns.length)).take (min 63 ns.length - min M ns.length) = d0 at hp2 hp3 ⊢
 have lc : c0.length = min M ns.length := by rw [<- hc0, List.length_take]; omega
 have ld : d0.length <= ns.length - M := by rw [<- hd0, List.length_take, List.length_drop]; omega
 have n23 : p2 ≠ p3 := by walk_at "ne"
 refine QX (xs := d0.map V.int) (fun i τ H' => ∃ u v cs, τ = [some (.ref a), some (.int M), some (.ref p2), u, v] /\ Kp [p2] (upd (upd (upd H p1 (HO.lst (List.map V.int c0))) p2 (HO.lst (List.map V.int c0))) p3 (HO.lst (List.map V.int d0))) H' /\ H' p2 = some (il cs) /\ cs.length = c0.length) ?_ ?_ ?_ ?_
 ·exact ⟨none, none, c0, rfl, Kp.refl, by walk_at "hp", rfl⟩
 ·rintro i τ H' _ ⟨u, v, cs, rfl, kp, _⟩
  exact SqL.of (kp _ _ (by simp [Ne.symm n23]) (by walk_at "hp"))
 ·rintro i x pp τ H' hx hpp ⟨u, v, cs, rfl, kp, hcs, hl⟩
  obtain ⟨rfl, hi⟩ := qd hx
  have b1 := jf (i : Int) hm
  obtain ⟨g1, g2⟩ := zw (cs := cs) (k := (i : Int) % (M : Int)) b1.1 (by omega)
  have hcs' : upd H' pp (HO.tup [V.int i, V.int (d0.getD i 0)]) p2 = some (il cs) := by walk_at "hp"
  walk_at "rd"
  walk_at "xs"
  refine ⟨(kp.trans (Kp.new _ hpp)).trans (Kp.set _ (by simp)), _, zd.trans (congrArg some (congrArg HO.lst (kh _ _ _))), by rw [List.length_set]; exact hl⟩
 ·rintro τ H' ⟨u, v, cs, rfl, kp, hcs, hl⟩
  walk_at "rd"
  refine q _ _ cs (fun c o hc hh => kp c o ?_ ((((Kp.new _ hp1).trans (Kp.new _ hp2)).trans (Kp.new _ hp3)) c o hc hh)) (by walk_at "fr") hcs (by omega)
  have : c ≠ p2 := j8 (kU hp2 (Kp.new _ hp1)) hh
  simpa using this
abbrev wR : List Int := [0, 1, 2, 3, 4, 5, 6, 7, 4, 5, 6, 7]
abbrev yn : Stmt := top 31
theorem y9 : zt ["_law_box_here", "_law_most", "_law_few"] ["_law_box_here", "_law_most"] (zj yn) := ⟨rfl, rfl, rfl, by decide +kernel, rfl, by decide +kernel, by decide +kernel⟩
def ZS : Sp := fun vs H Q _ => ∃ (b : Addr) (m : Int) (N : Nat), vs = [.ref b, .int m] /\ Bx H b N /\ N < 100000000 /\ 24 <= m /\ m <= 1000 /\ ∀ r H', Kp [b] H H' -> Bx H' b (N + 10) -> 0 <= r -> r <= m -> Q (.int r) H'
theorem Kg (a : At K mg "_law_length" yn) (B : Blt mg) (D_law_take : Df P w K mg base "_law_take" ["_law_box_here", "_law_many"] 1 kz) : Df P w K mg base "_law_length" ["_law_box_here", "_law_most"] 2 ZS := by
 refine qm (k := 1) a y9 (fun _ _ _ _ _ _ us hl => match us, hl with | [_, _], _ => rfl) (fun vs H Q E h => ?_) (fun f cdv A outer s H vs Q E hr h => ?_)
 ·obtain ⟨a, k, cs, rfl, _⟩ := h; rfl
 obtain ⟨b, m, N, rfl, hb, hN, hm, hm', q⟩ := h
 have sc := y9
 have hsl := hsl
 refine' ⟨_, zc (zS (zx ko (zq D_law_take hr rfl (za (pv 0) (za ze zb))) ze (zu _)) (zg (zm (zl jL (pv 1) (zq D_law_take hr rfl (za (pv 0) (za (zo (vd rfl) rfl B.max XT (za ze (za (zl kQ (pv 1) ze) zb))) zb)))))) zD) (zc _ _), ?_⟩
 rotate_left 2
 ·refine' zy (i := 2) _ _ _ _ _ _
  rotate_left 1
  ·exact sc.nd
  ·rfl
  ·first | exact Or.inl rfl | exact Or.inr rfl
  ·refine' zE _ _ _ _
   rotate_left 3
   ·exact zN
   ·refine' zZ _
    rotate_left 1
    refine' Q1 (is := [0, 1, 2, 3, 4, 5, 6, 7, 4, 5, 6, 7]) _
    rfl
   ·exact (zq D_law_take hr rfl (za (pv 0) (za ze zb)))
   ·exact (fun _ _ => rfl)
  ·rfl
  ·first | exact .inl rfl | exact .inr rfl | assumption
 ·refine' zg _
  rotate_left 1
  refine' zm _
  rotate_left 1
  refine' zE _ _ _ _
  rotate_left 3
  ·exact zN
  ·refine' zZ _
   rotate_left 1
   refine' za _ _ _
   rotate_left 2
   ·exact pv 2
   ·exact (za (zl zP ze (zq D_law_take hr rfl (za (pv 0) (za ze zb)))) zb)
   ·rfl
  ·exact (zL vf rfl B.int Qu (za (qS ko (zq D_law_take hr rfl (za (pv 0) (za ze zb))) ze (zu _)) zb))
  ·exact (fun _ _ => rfl)
 rw [show start ["_law_box_here", "_law_most", "_law_few"] [V.ref b, V.int m] = [some (.ref b), some (.int m), none] from rfl]
 walk_at "rd"
 refine ⟨b, 16, N, rfl, hb, by omega, by decide, by decide, fun r1 H1 k1 b1 l1 u1 => ⟨rfl, ?_⟩⟩
 walk_at "rd"
 refine jl (fun c => ?_) (fun c => ?_)
 ·walk_at "xs"
  refine ⟨b, _, _, rfl, b1, by omega, by split <;> omega, by split <;> omega, fun r2 H2 k2 b2 l2 u2 => ⟨_, rfl, ?_⟩⟩
  refine q _ _ (k1.trans k2) (b2.mono (by omega)) ?_ ?_
  ·split at u2 <;> omega
  ·omega
 ·walk_at "xs"
  intro p1 hp1
  refine ⟨b, 12, _, rfl, b1.new hp1, by omega, by decide, by decide, fun r2 H2 k2 b2 l2 u2 => ?_⟩
  have hne : p1 ≠ b := by obtain ⟨_, _, _, h, _⟩ := b1; exact Ne.symm (zh h hp1)
  have h2 := k2 p1 _ (by simpa using hne) zd
  obtain ⟨e1, e2⟩ := zw (cs := wR) (k := r2) l2 (by simpa using u2)
  refine ⟨_, _, rfl, SqL.of h2, _, e2, b, 17, _, rfl, b2, by omega, by decide, by decide, fun r3 H3 k3 b3 l3 u3 => ?_⟩
  have hv : 0 <= wR.getD r2.toNat 0 /\ wR.getD r2.toNat 0 <= (24 : Int) := by
   have : ∀ j : Nat, 0 <= wR.getD j 0 /\ wR.getD j 0 <= (24 : Int) := by
    intro j
    by_cases hj : j < 12
    ·have hd : ∀ j : Nat, j < 12 -> 0 <= wR.getD j 0 /\ wR.getD j 0 <= (24 : Int) := by decide
     exact hd j hj
    ·have e : wR.getD j (0 : Int) = 0 := by rw [List.getD_eq_getElem?_getD, List.getElem?_eq_none (by simpa using hj)]; rfl
     rw [e]; decide
   exact this _
  refine ⟨_, rfl, by show 2 <= sizeLine; decide, fun p2 hp2 => ?_⟩
  refine ⟨b, 6, _, rfl, b3.new hp2, by omega, by decide, by decide, fun r4 H4 k4 b4 l4 u4 => ⟨rfl, ?_⟩⟩
  have hne2 : p2 ≠ b := by obtain ⟨_, _, _, h, _⟩ := b3; exact Ne.symm (zh h hp2)
  have h4 := k4 p2 _ (by simpa using hne2) zd
  have fin : ∀ r, 0 <= r -> r <= 24 -> Q (.int r) H4 := fun r g1 g2 => by
   refine q r H4 ?_ (b4.mono (by omega)) g1 (by omega)
   exact (((k1.trans (Kp.new _ hp1)).trans k2).trans k3).trans ((Kp.new _ hp2).trans k4)
  by_cases c4 : r4 = 0
  ·subst c4
   exact ⟨_, SqL.of h4, _, rfl, fin _ (by omega) (by omega)⟩
  ·rw [if_neg (fun z => c4 (V.int.inj z))]
   exact ⟨_, SqL.of h4, _, rfl, fin _ hv.1 hv.2⟩
abbrev kB : Stmt := top 26
theorem xD : zt ["_law_box_here", "_law_n", "_law_row", "_law_k"] ["_law_box_here", "_law_n"] (zj kB) := ⟨rfl, rfl, rfl, by decide +kernel, rfl, by decide +kernel, by decide +kernel⟩
def jF : Sp := fun vs H Q _ => ∃ (b : Addr) (n N : Nat), vs = [.ref b, .int n] /\ Bx H b N /\ N < 10000000 /\ n <= 1000 /\ ∀ p H' ns, Kp [b] H H' -> H p = none -> Bx H' b (N + 1000) -> H' p = some (il ns) -> zf n ns -> Q (.ref p) H'
theorem Wa (ns : List Int) (i : Nat) (v : Int) : (ns.map V.int).take i ++ V.int v :: (ns.map V.int).drop i = (ns.take i ++ v :: ns.drop i).map V.int := by simp [List.map_take, List.map_drop]
theorem ZI (a : At K mg "_law_shuffled" kB) (B : Blt mg) (D_law_take : Df P w K mg base "_law_take" ["_law_box_here", "_law_many"] 1 kz) : Df P w K mg base "_law_shuffled" ["_law_box_here", "_law_n"] 2 jF := by
 refine qm (k := 1) a xD (fun _ _ _ _ _ _ us hl => match us, hl with | [_, _], _ => rfl) (fun vs H Q E h => ?_) (fun f cdv A outer s H vs Q E hr h => ?_)
 ·obtain ⟨a, k, cs, rfl, _⟩ := h; rfl
 obtain ⟨b, n, N, rfl, hb, hN, hn, q⟩ := h
 have sc := xD
 have hsl := hsl
 refine ⟨_, (zc (zy (i := 2) sc.nd rfl (by first | exact Or.inl rfl | exact Or.inr rfl) (zZ zb))
  (zc (qF PassesOwn.never rfl (zQ rfl B.range (za (pv 1) zb)) (zr (i := 3) sc.nd rfl (by first | exact Or.inl rfl | exact Or.inr rfl)) (zg (kd (Zk PySem.F.plainAttrs_list PySem.F.slot_list_insert PySem.F.type_list_insert Kc (pv 2) (za (zq D_law_take hr rfl (za (pv 0) (za (zl zP (pv 3) ze) zb))) (za (pv 3) zb))))))
  (zg (zm (pv 2))))), ?_⟩
 rw [show start ["_law_box_here", "_law_n", "_law_row", "_law_k"] [V.ref b, V.int n] = [some (.ref b), some (.int n), none, none] from rfl]
 walk_at "rd"
 walk_at "xs"
 intro p hp
 walk_at "xs"
 have hne : b ≠ p := hb.ne hp
 rw [Int.toNat_natCast]
 refine j6 (fun i τ H' => ∃ u ns, τ = [some (.ref b), some (.int n), some (.ref p), u] /\ Kp [p, b] (upd H p (.lst [])) H' /\ Bx H' b (N + i) /\ H' p = some (il ns) /\ zf i ns) ?_ ?_ ?_
 ·exact ⟨none, [], rfl, Kp.refl, hb.new hp, zd, zf.nil⟩
 ·rintro i τ H' hi ⟨u, ns, rfl, kp, b1, hns, ho⟩
  walk_at "rd"
  refine ⟨.inl ⟨rfl, _, SqL.of hns⟩, b, _, N + i, rfl, b1, by omega, by omega, by omega, fun r H2 k2 b2 l2 u2 => ?_⟩
  have h2 := k2 p _ (by simpa using Ne.symm hne) hns
  have ol := ho.1
  refine ⟨_, _, rfl, h2, l2, by rw [List.length_map, ol]; omega, by rw [List.length_map, ol]; omega, (kp.trans (k2.mono (by simp))).trans (Kp.set _ (by simp)), ?_, _, zd.trans (by rw [show (0 : Int) + (i : Int) = i by omega, Wa]), ho.insert _⟩
  exact b2.keep (Kp.set (bs := [p]) _ (by simp)) (by simpa using hne)
 ·rintro τ H' ⟨u, ns, rfl, kp, b1, hns, ho⟩
  walk_at "rd"
  exact q p H' ns (Kp.drop1 hp kp) hp (b1.mono (by omega)) hns ho
abbrev yK : Stmt := top 27
theorem ve : zt ["_law_box_here", "_law_n", "_law_many", "_law_row", "_law_order_here", "_law_cuts", "_law_begin", "_law_end", "_law_k"] ["_law_box_here", "_law_n", "_law_many"] (zj yK) := ⟨rfl, rfl, rfl, by decide +kernel, rfl, by decide +kernel, by decide +kernel⟩
def wJ : Sp := fun vs H Q _ => ∃ (b : Addr) (n m N : Nat), vs = [.ref b, .int n, .int m] /\ Bx H b N /\ N < 5000000 /\ 2 <= n /\ n <= 1000 /\ 1 <= m /\ m <= 10 /\ ∀ p H' ns, Kp [b] H H' -> H p = none -> Bx H' b (N + 2000) -> H' p = some (il ns) -> zf n ns -> Q (.ref p) H'
def vJ (n : Nat) (row os : List Int) (c : Nat) : Prop := os.length = n /\ (∃ ν : Nat -> Nat, (∀ j, j < c -> ν j < c) /\ (∀ j k, j < c -> k < c -> ν j = ν k -> j = k) /\ ∀ j, j < c -> os.getD (row.getD j 0).toNat 0 = row.getD (ν j) 0) /\ ∀ j, c <= j -> j < n -> os.getD (row.getD j 0).toNat 0 = row.getD j 0
theorem vJ.start {n : Nat} {row : List Int} (ho : zf n row) : vJ n row (zR 0 1 n) 0 := by
 refine ⟨zM 0 1 n, ⟨id, (fun j hj => absurd hj (Nat.not_lt_zero _)), (fun j k hj => absurd hj (Nat.not_lt_zero _)), (fun j hj => absurd hj (Nat.not_lt_zero _))⟩, fun j _ hj => ?_⟩
 have := ho.getD hj
 rw [qf n (by omega)]; omega
theorem vJ.fin {n : Nat} {row os : List Int} (ho : zf n row) (h : vJ n row os n) : zf n os := by
 obtain ⟨l, ⟨ν, h1, h2, h3⟩, _⟩ := h
 refine qj l (fun i hi => ?_) (fun i k hi hk e => ?_)
 ·obtain ⟨j, hj, e⟩ := ho.ex hi
  have := h3 j hj
  rw [e, Int.toNat_natCast] at this
  rw [this]; exact ho.getD (h1 j hj)
 ·obtain ⟨j, hj, e1⟩ := ho.ex hi
  obtain ⟨j', hj', e2⟩ := ho.ex hk
  have a := h3 j hj
  have b := h3 j' hj'
  rw [e1, Int.toNat_natCast] at a
  rw [e2, Int.toNat_natCast] at b
  have := h2 j j' hj hj' (ho.inj (h1 j hj) (h1 j' hj') (by rw [<- a, <- b, e]))
  subst this
  omega
def ym (n : Nat) (row os : List Int) (c e t : Nat) : Prop := os.length = n /\ (∃ ν : Nat -> Nat, (∀ j, j < c -> ν j < c) /\ (∀ j k, j < c -> k < c -> ν j = ν k -> j = k) /\ ∀ j, j < c -> os.getD (row.getD j 0).toNat 0 = row.getD (ν j) 0) /\ (∀ j, c <= j -> j < c + t -> os.getD (row.getD j 0).toNat 0 = row.getD (if j + 1 = e then c else j + 1) 0) /\ ∀ j, c + t <= j -> j < n -> os.getD (row.getD j 0).toNat 0 = row.getD j 0
theorem vJ.go {n : Nat} {row os : List Int} {c : Nat} (e : Nat) (h : vJ n row os c) : ym n row os c e 0 := ⟨h.1, h.2.1, fun j h1 h2 => by omega, fun j h1 h2 => h.2.2 j (by omega) h2⟩
theorem ym.step {n : Nat} {row os : List Int} {c e t : Nat} (ho : zf n row) (h : ym n row os c e t) (ht : c + t < e) (he : e <= n) : ym n row (os.set (row.getD (c + t) 0).toNat (row.getD (if c + t + 1 = e then c else c + t + 1) 0)) c e (t + 1) := by
 obtain ⟨l, ⟨ν, h1, h2, h3⟩, h4, h5⟩ := h
 have gt := ho.getD (i := c + t) (by omega)
 have g : ∀ j, j < n -> (os.set (row.getD (c + t) 0).toNat (row.getD (if c + t + 1 = e then c else c + t + 1) 0)).getD (row.getD j 0).toNat 0 = if j = c + t then row.getD (if c + t + 1 = e then c else c + t + 1) 0 else os.getD (row.getD j 0).toNat 0 := fun j hj => by
  have gj := ho.getD hj
  rw [jq (by omega)]
  by_cases z : j = c + t
  ·subst z; rw [if_pos rfl, if_pos rfl]
  ·rw [if_neg z, if_neg]
   intro z'
   exact z (ho.inj hj (by omega) (by omega))
 refine ⟨by rw [List.length_set, l], ⟨ν, h1, h2, fun j hj => ?_⟩, fun j j1 j2 => ?_, fun j j1 j2 => ?_⟩
 ·rw [g j (by omega), if_neg (by omega)]; exact h3 j hj
 ·rw [g j (by omega)]
  by_cases z : j = c + t
  ·rw [if_pos z, z]
  ·rw [if_neg z]; exact h4 j j1 (by omega)
 ·rw [g j j2, if_neg (by omega)]; exact h5 j (by omega) j2
theorem ym.done {n : Nat} {row os : List Int} {c e : Nat} (h : ym n row os c e (e - c)) (hc : c <= e) : vJ n row os e := by
 obtain ⟨l, ⟨ν, h1, h2, h3⟩, h4, h5⟩ := h
 refine ⟨l, ⟨fun j => if j < c then ν j else if j + 1 = e then c else j + 1, fun j hj => ?_, fun j k hj hk z => ?_, fun j hj => ?_⟩, fun j j1 j2 => h5 j (by omega) j2⟩
 ·dsimp only
  split
  ·have := h1 j (by assumption); omega
  ·split <;> omega
 ·dsimp only at z
  by_cases a : j < c
  ·rw [if_pos a] at z
   have := h1 j a
   by_cases b : k < c
   ·rw [if_pos b] at z; exact h2 j k a b z
   ·rw [if_neg b] at z; split at z <;> omega
  ·rw [if_neg a] at z
   by_cases b : k < c
   ·rw [if_pos b] at z
    have := h1 k b
    split at z <;> omega
   ·rw [if_neg b] at z
    split at z <;> split at z <;> omega
 ·dsimp only
  by_cases a : j < c
  ·rw [if_pos a]; exact h3 j a
  ·rw [if_neg a]; exact h4 j (by omega) (by omega)
theorem vz {cs : List Int} (hp : cs.Pairwise (· <= ·)) (h0 : (0 : Int) ∈ cs) (hb : ∀ x ∈ cs, 0 <= x) : cs.getD 0 0 = 0 := by
 cases cs with
 | nil => rfl
 | cons x r =>
  show x = 0
  have := hb x List.mem_cons_self
  rcases List.mem_cons.mp h0 with e | e
  ·exact e.symm
  ·have := (List.pairwise_cons.mp hp).1 0 e; omega
theorem wG {cs : List Int} {n : Int} (hp : cs.Pairwise (· <= ·)) (h0 : n ∈ cs) (hb : ∀ x ∈ cs, x <= n) : cs.getD (cs.length - 1) 0 = n := by
 obtain ⟨i, hi, e⟩ := List.mem_iff_getElem.mp h0
 have hl : cs.length - 1 < cs.length := by omega
 rw [zB hl]
 have h1 := hb _ (List.getElem_mem hl)
 by_cases z : i = cs.length - 1
 ·subst z; exact e
 ·have := List.pairwise_iff_getElem.mp hp i (cs.length - 1) hi hl (by omega); omega
theorem wI {cs : List Int} (hp : cs.Pairwise (· <= ·)) {i : Nat} (hi : i + 1 < cs.length) : cs.getD i 0 <= cs.getD (i + 1) 0 := by
 rw [zB (by omega), zB hi]
 exact List.pairwise_iff_getElem.mp hp i (i + 1) (by omega) hi (by omega)
theorem DP (cs : List Int) : wj (cs.map V.int) (some 1) none = List.map V.int ((cs.drop (min 1 cs.length)).take (cs.length - min 1 cs.length)) := by
 rw [yA, show (1 : Int) = ((1 : Nat) : Int) from rfl, HT.sIx_nat, HT.sIx_none]
theorem Y3 {k b e : Int} (h1 : b <= k) (h2 : k < e) : b + (k + 1 - b) % (e - b) = if k + 1 = e then b else k + 1 := by
 by_cases z : k + 1 = e
 ·rw [if_pos z, show k + 1 - b = e - b by omega, Int.emod_self]; omega
 ·rw [if_neg z, Int.emod_eq_of_lt (by omega) (by omega)]; omega
theorem Ko (a : At K mg "_law_ringed" yK) (B : Blt mg) (D_law_take : Df P w K mg base "_law_take" ["_law_box_here", "_law_many"] 2 kz) (D_law_shuffled : Df P w K mg base "_law_shuffled" ["_law_box_here", "_law_n"] 2 jF) : Df P w K mg base "_law_ringed" ["_law_box_here", "_law_n", "_law_many"] 3 wJ := by
 refine qm (k := 2) a ve (fun _ _ _ _ _ _ us hl => match us, hl with | [_, _, _], _ => rfl) (fun vs H Q E h => ?_) (fun f cdv A outer s H vs Q E hr h => ?_)
 ·obtain ⟨b, n, m, N, rfl, _⟩ := h; rfl
 obtain ⟨b, n, m, N, rfl, hb, hN, hn2, hn, hm1, hm, q⟩ := h
 have sc := ve
 have hsl := hsl
 refine ⟨_, (zc (zy (i := 3) sc.nd rfl (by first | exact Or.inl rfl | exact Or.inr rfl) (zq D_law_shuffled hr rfl (za (pv 0) (za (pv 1) zb))))
  (zc (zy (i := 4) sc.nd rfl (by first | exact Or.inl rfl | exact Or.inr rfl) (zL (qg rfl) rfl B.list qM (za (zL qO rfl B.range jt (za (pv 1) zb)) zb)))
  (zc (zy (i := 5) sc.nd rfl (by first | exact Or.inl rfl | exact Or.inr rfl) (zo xb rfl B.sorted yT (za (zl xW (zZ (za ze (za (pv 1) zb))) (qK (ts := [8]) rfl rfl (zQ rfl B.range (za (zl jL (pv 2) ze) zb)) (fun _ _ _ _ => (zr (i := 8) sc.nd rfl (by first | exact Or.inl rfl | exact Or.inr rfl))) (fun _ _ _ _ => qE) (fun _ _ _ _ => (zq D_law_take hr rfl (za (pv 0) (za (zl zP (pv 1) ze) zb)))))) zb)))
  (zc (qF PassesOwn.never rfl (BN rfl B.zip (za (pv 5) (za (kS xO (pv 5) (kI ze) wa) zb))) (jG (K := K) 2 rfl rfl (zV (zr (i := 6) sc.nd rfl (by first | exact Or.inl rfl | exact Or.inr rfl)) (zV (zr (i := 7) sc.nd rfl (by first | exact Or.inl rfl | exact Or.inr rfl)) jH))) (zg (qF PassesOwn.never rfl (vq rfl B.range (za (pv 6) (za (pv 7) zb))) (zr (i := 8) sc.nd rfl (by first | exact Or.inl rfl | exact Or.inr rfl)) (zg (qY (zE zN (pv 3) (zl zP (pv 6) (zl qu (zl jL (zl zP (pv 8) ze) (pv 6)) (zl jL (pv 7) (pv 6)))) (fun _ _ => rfl)) (jb (pv 4) (zE zN (pv 3) (pv 8) (fun _ _ => rfl)) zY))))))
  (zg (zm (pv 4))))))), ?_⟩
 rw [show start ["_law_box_here", "_law_n", "_law_many", "_law_row", "_law_order_here", "_law_cuts", "_law_begin", "_law_end", "_law_k"] [V.ref b, V.int n, V.int m] = [some (.ref b), some (.int n), some (.int m), none, none, none, none, none, none] from rfl]
 walk_at "rd"
 refine ⟨b, n, N, rfl, hb, by omega, by omega, fun p1 H1 row k1 hp1 b1 h1 ho => ?_⟩
 walk_at "rd"
 walk_at "xs"
 intro p2 hp2
 refine ⟨0, n, 1, zd, small_one (by omega) (by omega) (by omega) (by omega), n, by rw [rangeSize_one]; split <;> omega, by omega, fun p3 hp3 => ?_⟩
 walk_at "xs"
 intro p4 hp4
 walk_at "xs"
 intro D hD
 have ol := ho.1
 have bG : Bx (upd (upd (upd H1 p2 (jy p2 0 n 1)) p3 (il (zR 0 1 n))) p4 (.lst [.int 0, .int n])) b (N + 1000) := ((b1.new hp2).new hp3).new hp4
 have nbD : b ≠ D := bG.ne hD
 have h3G : upd (upd (upd H1 p2 (jy p2 0 n 1)) p3 (il (zR 0 1 n))) p4 (.lst [.int 0, .int n]) p3 = some (il (zR 0 1 n)) := by walk_at "hp"
 have h4G : upd (upd (upd H1 p2 (jy p2 0 n 1)) p3 (il (zR 0 1 n))) p4 (.lst [.int 0, .int n]) p4 = some (.lst [.int 0, .int n]) := zd
 have h1G : upd (upd (upd H1 p2 (jy p2 0 n 1)) p3 (il (zR 0 1 n))) p4 (.lst [.int 0, .int n]) p1 = some (il row) := by walk_at "hp"
 have kG : Kp [] H1 (upd (upd (upd H1 p2 (jy p2 0 n 1)) p3 (il (zR 0 1 n))) p4 (.lst [.int 0, .int n])) := by walk_at "kp"
 have hn3 : H1 p3 = none := by walk_at "fr"
 have nb1 : b ≠ p1 := hb.ne hp1
 have nb3 : b ≠ p3 := b1.ne hn3
 generalize upd (upd (upd H1 p2 (jy p2 0 n 1)) p3 (il (zR 0 1 n))) p4 (.lst [.int 0, .int n]) = G at hD bG h3G h4G h1G kG ⊢
 have n3D : p3 ≠ D := zh h3G hD
 have n4D : p4 ≠ D := zh h4G hD
 have n1D : p1 ≠ D := zh h1G hD
 have nb4 : b ≠ p4 := fun z => by
  obtain ⟨x, y, zz, e, _⟩ := bG
  rw [z, h4G] at e; cases e
 rw [show ((m : Int) - 1).toNat = m - 1 by omega]
 refine jv (fun i τ H' => ∃ u ts, τ = [some (.ref b), some (.int n), some (.int m), some (.ref p1), some (.ref p3), none, none, none, u] /\ Kp [D, b] (upd G D (.lst [])) H' /\ Bx H' b (N + 1000 + i) /\ H' D = some (il ts) /\ ts.length = i /\ ∀ t ∈ ts, 0 <= t /\ t <= (n : Int)) ?_ ?_ ?_
 ·exact ⟨none, [], rfl, Kp.refl, bG.new hD, zd, rfl, fun t ht => nomatch ht⟩
 ·rintro i τ H' hi ⟨u, ts, rfl, kp, b', hts, hl, hbd⟩
  walk_at "rd"
  refine ⟨b, _, _, rfl, b', by omega, by omega, by omega, fun r H2 k2 b2 l2 u2 => ?_⟩
  have h2 := k2 D _ (by simpa using Ne.symm nbD) hts
  refine ⟨_, h2, by rw [List.length_map]; omega, ((kp.trans (k2.mono (by simp))).trans (Kp.set _ (by simp))), b2.keep (Kp.set (bs := [D]) _ (by simp)) (by simpa using nbD), ts ++ [r], zd.trans (congrArg some (congrArg HO.lst (by rw [List.map_append]; rfl))), by rw [List.length_append, hl]; rfl, fun t ht => ?_⟩
  rcases List.mem_append.mp ht with z | z
  ·exact hbd t z
  ·have : t = r := by simpa using z
   subst this; omega
 ·rintro τ H' ⟨u, ts, rfl, kp, b', hts, hl, hbd⟩
  have kD : Kp [b] G H' := Kp.drop1 hD kp
  have g3 := kD _ _ (by simpa using Ne.symm nb3) h3G
  have g4 := kD _ _ (by simpa using Ne.symm nb4) h4G
  have g1 := kD _ _ (by simpa using Ne.symm nb1) h1G
  refine ⟨D, rfl, _, g4, _, hts, by rw [List.length_map]; show 2 + _ <= _; omega, fun p6 hp6 => ?_⟩
  refine ⟨0 :: (n : Int) :: ts, SqL.of (zd.trans rfl), by rw [List.length_cons, List.length_cons]; omega, fun p7 cs hp7 pm pw => ?_⟩
  refine ⟨_, SqL.of zd, fun p8 hp8 => ?_⟩
  have lcs : cs.length = m + 1 := by rw [pm.length_eq, List.length_cons, List.length_cons]; omega
  rw [DP, lcs]
  generalize hd : (cs.drop (min 1 (m + 1))).take (m + 1 - min 1 (m + 1)) = d
  have ld : d.length = m := by rw [<- hd, List.length_take, List.length_drop]; omega
  have gd : ∀ i, i < m -> d.getD i 0 = cs.getD (i + 1) 0 := fun i hi => by
   rw [<- hd, List.getD_eq_getElem?_getD, List.getElem?_take, if_pos (by omega), List.getElem?_drop, List.getD_eq_getElem?_getD]
   congr 2; omega
  have bcs : ∀ x ∈ cs, 0 <= x /\ x <= (n : Int) := fun x hx => by
   have := pm.mem_iff.mp hx
   rcases List.mem_cons.mp this with z | z
   ·omega
   ·rcases List.mem_cons.mp z with z | z
    ·omega
    ·exact hbd x z
  have c0 := vz pw (pm.mem_iff.mpr List.mem_cons_self) (fun x hx => (bcs x hx).1)
  have cn := wG pw (pm.mem_iff.mpr (List.mem_cons_of_mem _ List.mem_cons_self)) (fun x hx => (bcs x hx).2)
  rw [lcs, Nat.add_sub_cancel] at cn
  have cb : ∀ i, i <= m -> 0 <= cs.getD i 0 /\ cs.getD i 0 <= (n : Int) := fun i hi => by
   rw [zB (by omega)]; exact bcs _ (List.getElem_mem _)
  have n36 : p3 ≠ p6 := zh g3 hp6
  have h36 : upd H' p6 (HO.lst ([V.int 0, V.int n] ++ List.map V.int ts)) p3 = some (il (zR 0 1 n)) := (zk n36).trans g3
  have n37 : p3 ≠ p7 := zh h36 hp7
  have n16 : p1 ≠ p6 := zh g1 hp6
  have h16 : upd H' p6 (HO.lst ([V.int 0, V.int n] ++ List.map V.int ts)) p1 = some (il row) := (zk n16).trans g1
  have n17 : p1 ≠ p7 := zh h16 hp7
  have n78 : p7 ≠ p8 := zh zd hp8
  have g83 : upd (upd (upd H' p6 (HO.lst ([V.int 0, V.int n] ++ List.map V.int ts))) p7 (HO.lst (List.map V.int cs))) p8 (HO.lst (List.map V.int d)) p3 = some (il (zR 0 1 n)) := by walk_at "hp"
  have g81 : upd (upd (upd H' p6 (HO.lst ([V.int 0, V.int n] ++ List.map V.int ts))) p7 (HO.lst (List.map V.int cs))) p8 (HO.lst (List.map V.int d)) p1 = some (il row) := by walk_at "hp"
  have g87 : upd (upd (upd H' p6 (HO.lst ([V.int 0, V.int n] ++ List.map V.int ts))) p7 (HO.lst (List.map V.int cs))) p8 (HO.lst (List.map V.int d)) p7 = some (il cs) := by walk_at "hp"
  have g88 : upd (upd (upd H' p6 (HO.lst ([V.int 0, V.int n] ++ List.map V.int ts))) p7 (HO.lst (List.map V.int cs))) p8 (HO.lst (List.map V.int d)) p8 = some (il d) := zd
  have k8 : Kp [] H' (upd (upd (upd H' p6 (HO.lst ([V.int 0, V.int n] ++ List.map V.int ts))) p7 (HO.lst (List.map V.int cs))) p8 (HO.lst (List.map V.int d))) := by walk_at "kp"
  refine ⟨⟨_, SqL.of g87⟩, ⟨_, SqL.of g88⟩, ?_⟩
  generalize upd (upd (upd H' p6 (HO.lst ([V.int 0, V.int n] ++ List.map V.int ts))) p7 (HO.lst (List.map V.int cs))) p8 (HO.lst (List.map V.int d)) = G8 at g83 g81 g87 g88 k8 ⊢
  have n38 : p3 ≠ p8 := fun z => by
   have : H' p3 ≠ none := by rw [g3]; simp
   exact this (by
    have := kU hp8 (((Kp.new (bs := []) (HO.lst ([V.int 0, V.int n] ++ List.map V.int ts)) hp6).trans (Kp.new (HO.lst (List.map V.int cs)) hp7)))
    rw [z]; exact this)
  have n13 : p1 ≠ p3 := zh h1 hn3
  refine Vh (xs := cs.map V.int) (ys := d.map V.int) (fun i τ H2 => ∃ u v x os, τ = [some (.ref b), some (.int n), some (.int m), some (.ref p1), some (.ref p3), some (.ref p7), u, v, x] /\ Kp [p3] G8 H2 /\ H2 p3 = some (il os) /\ vJ n row os (cs.getD i 0).toNat) ?_ ?_ ?_ ?_ ?_
  ·rw [List.length_map, List.length_map]; omega
  ·refine ⟨none, none, none, zR 0 1 n, rfl, Kp.refl, g83, ?_⟩
   rw [c0]; exact vJ.start ho
  ·rintro i τ H2 _ ⟨u, v, x, os, rfl, kp2, _⟩
   exact ⟨SqL.of (kp2 _ _ (by simpa using Ne.symm n37) g87), SqL.of (kp2 _ _ (by simpa using Ne.symm n38) g88)⟩
  ·rintro i x y pp τ H2 hx hy hpp ⟨u, v, x', os, rfl, kp2, hos, gone⟩
   obtain ⟨rfl, hi⟩ := qd hx
   obtain ⟨rfl, hi'⟩ := qd hy
   have him : i < m := by omega
   rw [gd i him]
   have q1 := cb i (by omega)
   have q2 := cb (i + 1) (by omega)
   have q3 := wI pw (i := i) (by omega)
   generalize cs.getD (i + 1) 0 = ei at q2 q3 ⊢
   generalize cs.getD i 0 = ci at q1 q3 gone ⊢
   obtain ⟨c, rfl⟩ : ∃ c : Nat, ci = c := ⟨ci.toNat, by omega⟩
   obtain ⟨e, rfl⟩ : ∃ e : Nat, ei = e := ⟨ei.toNat, by omega⟩
   rw [Int.toNat_natCast] at gone ⊢
   walk_at "rd"
   walk_at "xs"
   rw [show ((e : Int) - (c : Int)).toNat = e - c by omega]
   have hos' : upd H2 pp (HO.tup [V.int c, V.int e]) p3 = some (il os) := by walk_at "hp"
   refine j6 (fun t τ H4 => ∃ x os', τ = [some (.ref b), some (.int n), some (.int m), some (.ref p1), some (.ref p3), some (.ref p7), some (.int c), some (.int e), x] /\ Kp [p3] (upd H2 pp (HO.tup [V.int c, V.int e])) H4 /\ H4 p3 = some (il os') /\ ym n row os' c e t) ?_ ?_ ?_
   ·exact ⟨_, os, rfl, Kp.refl, hos', gone.go e⟩
   ·rintro t τ H4 ht ⟨x2, os2, rfl, kp4, hos2, going⟩
    have hrow : H4 p1 = some (il row) := kp4 _ _ (by simpa using n13) (Kp.new (bs := []) _ hpp _ _ (by simp) (kp2 _ _ (by simpa using n13) g81))
    have gl := going.1
    have gt := ho.getD (i := c + t) (by omega)
    have mn := Y3 (k := (c : Int) + t) (b := c) (e := e) (by omega) (by omega)
    obtain ⟨_, a1⟩ := zw (cs := row) (k := (c : Int) + ((c : Int) + t + 1 - c) % ((e : Int) - c)) (by rw [mn]; split <;> omega) (by rw [mn]; split <;> omega)
    obtain ⟨_, a2⟩ := zw (cs := row) (k := (c : Int) + t) (by omega) (by omega)
    rw [show ((c : Int) + t).toNat = c + t by omega] at a2
    have e3 : ((c : Int) + ((c : Int) + t + 1 - c) % ((e : Int) - c)).toNat = if c + t + 1 = e then c else c + t + 1 := by
     rw [mn]; split <;> split <;> omega
    rw [e3] at a1
    have f1 : ixN (List.map V.int os2).length (row.getD (c + t) 0) = some (row.getD (c + t) 0).toNat := (zw (cs := os2) gt.1 (by omega)).1
    have st := going.step ho (by omega) (by omega)
    walk_at "rd"
    walk_at "xs"
    exact ⟨kp4.trans (Kp.set _ (by simp)), _, zd.trans (congrArg some (congrArg HO.lst (kh _ _ _))), st⟩
   ·rintro τ H4 ⟨x2, os2, rfl, kp4, hos2, going⟩
    walk_at "rd"
    exact ⟨⟨_, rfl⟩, (kp2.trans (Kp.new _ hpp)).trans kp4, os2, hos2, going.done (by omega)⟩
  ·rintro τ H2 ⟨u, v, x, os, rfl, kp2, hos, gone⟩
   walk_at "rd"
   rw [List.length_map, ld, cn, Int.toNat_natCast] at gone
   refine q p3 H2 os ?_ ?_ (((b'.keep k8 (by simp)).keep kp2 (by simpa using nb3)).mono (by omega)) hos (gone.fin ho)
   ·intro c o hc hh
    have a1 := k1 c o hc hh
    have c3 : c ≠ p3 := zh a1 hn3
    exact kp2 c o (by simpa using c3) (k8 c o (by simp) (kD c o hc (kG c o (by simp) a1)))
   ·cases z : H p3 with
    | none => rfl
    | some o => exact absurd (k1 p3 o (by simpa using Ne.symm nb3) z) (by rw [hn3]; simp)
abbrev jT : Stmt := top 28
theorem kZ : zt ["_law_box_here", "_law_n", "_law_order_here", "_law_row", "_law_k", "_law_one", "_law_other"] ["_law_box_here", "_law_n"] (zj jT) := ⟨rfl, rfl, rfl, by decide +kernel, rfl, by decide +kernel, by decide +kernel⟩
def YF : Sp := fun vs H Q _ => ∃ (b : Addr) (n N : Nat), vs = [.ref b, .int n] /\ Bx H b N /\ N < 5000000 /\ 2 <= n /\ n <= 1000 /\ ∀ p H' ns, Kp [b] H H' -> H p = none -> Bx H' b (N + 2000) -> H' p = some (il ns) -> zf n ns -> Q (.ref p) H'
theorem zf.swap {n : Nat} {os : List Int} (h : zf n os) {x y : Nat} (hx : x < n) (hy : y < n) (ne : x ≠ y) (ex : os.getD x 0 = (x : Int)) (ey : os.getD y 0 = (y : Int)) : zf n ((os.set x (y : Int)).set y (x : Int)) := by
 have l := h.1
 have g : ∀ i, ((os.set x (y : Int)).set y (x : Int)).getD i 0 = if i = y then (x : Int) else if i = x then (y : Int) else os.getD i 0 := fun i => by
  rw [jq (by rw [List.length_set]; omega), jq (by omega)]
 refine qj (by rw [List.length_set, List.length_set, l]) (fun i hi => ?_) (fun i k hi hk e => ?_)
 ·rw [g]
  split
  ·omega
  ·split
   ·omega
   ·exact h.getD hi
 ·rw [g, g] at e
  by_cases i1 : i = y
  ·rw [if_pos i1] at e
   by_cases k1 : k = y
   ·omega
   ·rw [if_neg k1] at e
    by_cases k2 : k = x
    ·rw [if_pos k2] at e; omega
    ·rw [if_neg k2, <- ex] at e
     exact absurd (h.inj hx hk e).symm k2
  ·rw [if_neg i1] at e
   by_cases i2 : i = x
   ·rw [if_pos i2] at e
    by_cases k1 : k = y
    ·rw [if_pos k1] at e; omega
    ·rw [if_neg k1] at e
     by_cases k2 : k = x
     ·omega
     ·rw [if_neg k2, <- ey] at e
      exact absurd (h.inj hy hk e).symm k1
   ·rw [if_neg i2] at e
    by_cases k1 : k = y
    ·rw [if_pos k1, <- ex] at e
     exact absurd (h.inj hi hx e) i2
    ·rw [if_neg k1] at e
     by_cases k2 : k = x
     ·rw [if_pos k2, <- ey] at e
      exact absurd (h.inj hi hy e) i1
     ·rw [if_neg k2] at e
      exact h.inj hi hk e
theorem vG {j : Int} (h : 0 <= j) : Builtin.Range.rangeSize 0 j 1 = (j.toNat : Int) := by rw [rangeSize_one]; split <;> omega
theorem wB (a : At K mg "_law_exchanged" jT) (B : Blt mg) (D_law_take : Df P w K mg base "_law_take" ["_law_box_here", "_law_many"] 2 kz) (D_law_shuffled : Df P w K mg base "_law_shuffled" ["_law_box_here", "_law_n"] 2 jF) : Df P w K mg base "_law_exchanged" ["_law_box_here", "_law_n"] 3 YF := by
 refine qm (k := 2) a kZ (fun _ _ _ _ _ _ us hl => match us, hl with | [_, _], _ => rfl) (fun vs H Q E h => ?_) (fun f cdv A outer s H vs Q E hr h => ?_)
 ·obtain ⟨a, k, cs, rfl, _⟩ := h; rfl
 obtain ⟨b, n, N, rfl, hb, hN, hn2, hn, q⟩ := h
 have sc := kZ
 have hsl := hsl
 refine ⟨_, (zc (zy (i := 2) sc.nd rfl (by first | exact Or.inl rfl | exact Or.inr rfl) (zL (qg rfl) rfl B.list qM (za (zL qO rfl B.range jt (za (pv 1) zb)) zb)))
  (zc (zy (i := 3) sc.nd rfl (by first | exact Or.inl rfl | exact Or.inr rfl) (zq D_law_shuffled hr rfl (za (pv 0) (za (pv 1) zb))))
  (zc (qF PassesOwn.never rfl (zQ rfl B.range (za (zq D_law_take hr rfl (za (pv 0) (za (zl zP (zl kQ (pv 1) ze) ze) zb))) zb)) (zr (i := 4) sc.nd rfl (by first | exact Or.inl rfl | exact Or.inr rfl)) (zc (QF (i := 5) (j := 6) rfl sc.nd rfl rfl (by decide) rfl rfl (za (zE zN (pv 3) (zl qI ze (pv 4)) (fun _ _ => rfl)) (za (zE zN (pv 3) (zl zP (zl qI ze (pv 4)) ze) (fun _ _ => rfl)) zb)) rfl)
  (zg (qY (xt (za (pv 6) (za (pv 5) zb))) (jG (K := K) 2 rfl rfl (zV (jb (pv 2) (pv 5) zY) (zV (jb (pv 2) (pv 6) zY) jH)))))))
  (zg (zm (pv 2)))))), ?_⟩
 rw [show start ["_law_box_here", "_law_n", "_law_order_here", "_law_row", "_law_k", "_law_one", "_law_other"] [V.ref b, V.int n] = [some (.ref b), some (.int n), none, none, none, none, none] from rfl]
 walk_at "rd"
 walk_at "xs"
 intro p1 hp1
 refine ⟨0, n, 1, zd, small_one (by omega) (by omega) (by omega) (by omega), n, vG (by omega), by omega, fun p2 hp2 => ?_⟩
 have hn2' : H p2 = none := by walk_at "fr"
 have b2 : Bx (upd (upd H p1 (jy p1 0 n 1)) p2 (il (zR 0 1 n))) b N := (hb.new hp1).new hp2
 refine ⟨b, n, N, rfl, b2, by omega, by omega, fun p3 H3 row k3 hp3 b3 hrow ho => ?_⟩
 walk_at "rd"
 walk_at "xs"
 refine ⟨b, _, _, rfl, b3, by omega, by omega, by omega, fun m H4 k4 b4 l4 u4 => ?_⟩
 refine ⟨m, rfl, by omega, by omega, ?_⟩
 have nb2 : p2 ≠ b := by obtain ⟨o, e⟩ := hb.there; exact Ne.symm (zh e hn2')
 have nb3 : p3 ≠ b := by obtain ⟨o, e⟩ := b2.there; exact Ne.symm (zh e hp3)
 have n23 : p2 ≠ p3 := zh zd hp3
 have h32 : H3 p2 = some (il (zR 0 1 n)) := k3 _ _ (by simpa using nb2) zd
 have h42 : H4 p2 = some (il (zR 0 1 n)) := k4 _ _ (by simpa using nb2) h32
 have h43 : H4 p3 = some (il row) := k4 _ _ (by simpa using nb3) hrow
 refine j6 (fun i τ H' => ∃ u v x os, τ = [some (.ref b), some (.int n), some (.ref p2), some (.ref p3), u, v, x] /\ Kp [p2] H4 H' /\ H' p2 = some (il os) /\ zf n os /\ ∀ j : Nat, 2 * i <= j -> j < n -> os.getD (row.getD j 0).toNat 0 = row.getD j 0) ?_ ?_ ?_
 ·refine ⟨none, none, none, zR 0 1 n, rfl, Kp.refl, h42, zf.rng n, fun j _ hj => ?_⟩
  have := ho.getD hj
  rw [qf n (by omega)]; omega
 ·rintro i τ H' hi ⟨u, v, x, os, rfl, kp, hos, oo, hst⟩
  have h3 : H' p3 = some (il row) := kp _ _ (by simpa using Ne.symm n23) h43
  have ol := ho.1
  have ool := oo.1
  have g0 := ho.getD (i := 2 * i) (by omega)
  have g1 := ho.getD (i := 2 * i + 1) (by omega)
  obtain ⟨_, e1⟩ := zw (cs := row) (k := 2 * (0 + (i : Int))) (by omega) (by omega)
  obtain ⟨_, e2⟩ := zw (cs := row) (k := 2 * (0 + (i : Int)) + 1) (by omega) (by omega)
  rw [show (2 * (0 + (i : Int))).toNat = 2 * i by omega] at e1
  rw [show (2 * (0 + (i : Int)) + 1).toNat = 2 * i + 1 by omega] at e2
  have f1 : ixN (List.map V.int os).length (row.getD (2 * i) 0) = some (row.getD (2 * i) 0).toNat := (zw (cs := os) g0.1 (by omega)).1
  have f2 : ixN ((List.map V.int os).set (row.getD (2 * i) 0).toNat (V.int (row.getD (2 * i + 1) 0))).length (row.getD (2 * i + 1) 0) = some (row.getD (2 * i + 1) 0).toNat := by rw [List.length_set]; exact (zw (cs := os) g1.1 (by omega)).1
  walk_at "rd"
  walk_at "xs"
  intro p hp
  have np : p2 ≠ p := zh hos hp
  refine ⟨_, SqT.of zd, rfl, _, _, rfl, _, rfl, _, (zk np).trans hos, _, f1, _, _, rfl, _, rfl, _, zd, _, f2, rfl, ?_⟩
  have s0 := hst (2 * i) (by omega) (by omega)
  have s1 := hst (2 * i + 1) (by omega) (by omega)
  have ne01 : (row.getD (2 * i) 0).toNat ≠ (row.getD (2 * i + 1) 0).toNat := fun z => by
   have := ho.inj (i := 2 * i) (j := 2 * i + 1) (by omega) (by omega) (by omega)
   omega
  have sw := zf.swap oo (x := (row.getD (2 * i) 0).toNat) (y := (row.getD (2 * i + 1) 0).toNat) (by omega) (by omega) ne01 (by omega) (by omega)
  rw [Int.toNat_of_nonneg g0.1, Int.toNat_of_nonneg g1.1] at sw
  refine ⟨((kp.trans (Kp.new _ hp)).trans (Kp.set _ (by simp))).trans (Kp.set _ (by simp)), _, zd.trans (congrArg some (congrArg HO.lst (by rw [kh, kh]))), sw, fun j hj1 hj2 => ?_⟩
  have gj := ho.getD (i := j) hj2
  rw [jq (by rw [List.length_set]; omega), jq (by omega), if_neg, if_neg]
  ·exact hst j (by omega) hj2
  ·intro z
   have := ho.inj (i := j) (j := 2 * i) hj2 (by omega) (by omega)
   omega
  ·intro z
   have := ho.inj (i := j) (j := 2 * i + 1) hj2 (by omega) (by omega)
   omega
 ·rintro τ H' ⟨u, v, x, os, rfl, kp, hos, oo, hst⟩
  walk_at "rd"
  refine q p2 H' os ?_ hn2' ((b4.keep kp (by simpa using Ne.symm nb2)).mono (by omega)) hos oo
  intro c o hc hh
  have c2 : c ≠ p2 := zh hh hn2'
  exact kp c o (by simpa using c2) (k4 c o hc (k3 c o hc (((Kp.new (bs := []) _ hp1).trans (Kp.new _ hp2)) c o (by simp) hh)))
abbrev wy : Stmt := top 29
theorem wY : zt ["_law_n", "_law_rows", "_law_columns", "_law_place"] ["_law_n", "_law_rows"] (zj wy) := ⟨rfl, rfl, rfl, by decide +kernel, rfl, by decide +kernel, by decide +kernel⟩
def Jc : Sp := fun vs H Q _ => ∃ (n r c : Nat), vs = [.int n, .int r] /\ n = r * c /\ 1 <= r /\ 1 <= c /\ n <= 1000 /\ ∀ p H' ns, Kp [] H H' -> H p = none -> H' p = some (il ns) -> zf n ns -> Q (.ref p) H'
def yP (r c n : Nat) : List Int := (List.range n).map fun (i : Nat) => (i : Int) % (c : Int) * (r : Int) + (i : Int) / (c : Int)
theorem Ku {r c n i : Nat} (h : i < n) : (yP r c n).getD i 0 = (i : Int) % (c : Int) * (r : Int) + (i : Int) / (c : Int) := by
 rw [zB (by simp [yP]; exact h)]; simp [yP]
theorem Xc {r c n : Nat} (h : n = r * c) (hr : 1 <= r) (hc : 1 <= c) : zf n (yP r c n) := by
 have key : ∀ i : Nat, i < n -> (i / c < r /\ i % c < c /\ (yP r c n).getD i 0 = ((i % c * r + i / c : Nat) : Int)) := fun i hi => by
  refine ⟨?_, Nat.mod_lt _ hc, ?_⟩
  ·rw [Nat.div_lt_iff_lt_mul hc]; omega
  ·rw [Ku hi]; simp
 have bd : ∀ i : Nat, i < n -> i % c * r + i / c < n := fun i hi => by
  obtain ⟨h1, h2, _⟩ := key i hi
  have : (i % c + 1) * r <= c * r := Nat.mul_le_mul_right r h2
  have e : c * r = n := by rw [h, Nat.mul_comm]
  have e2 : (i % c + 1) * r = i % c * r + r := Nat.succ_mul _ _
  omega
 refine qj (by simp [yP]) (fun i hi => ?_) (fun i k hi hk e => ?_)
 ·obtain ⟨h1, h2, h3⟩ := key i hi
  have := bd i hi
  rw [h3]; exact ⟨Int.natCast_nonneg _, Int.ofNat_lt.mpr this⟩
 ·obtain ⟨h1, h2, h3⟩ := key i hi
  obtain ⟨k1, k2, k3⟩ := key k hk
  rw [h3, k3] at e
  have e' : i % c * r + i / c = k % c * r + k / c := by omega
  have d1 : (i % c * r + i / c) / r = i % c := by rw [Nat.add_comm, Nat.add_mul_div_right _ _ hr, Nat.div_eq_of_lt h1, Nat.zero_add]
  have d2 : (k % c * r + k / c) / r = k % c := by rw [Nat.add_comm, Nat.add_mul_div_right _ _ hr, Nat.div_eq_of_lt k1, Nat.zero_add]
  have m : i % c = k % c := by rw [<- d1, <- d2, e']
  have d : i / c = k / c := by rw [m] at e'; omega
  rw [<- Nat.div_add_mod i c, <- Nat.div_add_mod k c, m, d]
theorem XH (a : At K mg "_law_table" wy) (B : Blt mg) : Df P w K mg base "_law_table" ["_law_n", "_law_rows"] 1 Jc := by
 refine qm (k := 0) a wY (fun _ _ _ _ _ _ us hl => match us, hl with | [_, _], _ => rfl) (fun vs H Q E h => ?_) (fun f cdv A outer s H vs Q E hr h => ?_)
 ·obtain ⟨n, r, c, rfl, _⟩ := h; rfl
 obtain ⟨n, r, c, rfl, hn, hr1, hc1, hz, q⟩ := h
 have sc := wY
 have hsl := hsl
 have hrn : r <= n := by rw [hn]; exact Nat.le_mul_of_pos_right r hc1
 have hcn : c <= n := by rw [hn]; exact Nat.le_mul_of_pos_left c hr1
 have ec : (n : Int) / (r : Int) = (c : Int) := by
  rw [hn]; push_cast; exact Int.mul_ediv_cancel_left _ (by omega)
 refine ⟨_, (zc (zy (i := 2) sc.nd rfl (by first | exact Or.inl rfl | exact Or.inr rfl) (zl kQ (pv 0) (pv 1)))
  (zg (zm (qK (ts := [3]) rfl rfl (zQ rfl B.range (za (pv 0) zb)) (fun _ _ _ _ => (zr (i := 3) sc.nd rfl (by first | exact Or.inl rfl | exact Or.inr rfl))) (fun _ _ _ _ => qE) (fun _ _ _ _ => (zl zP (zl qI (zl qu (pv 3) (pv 2)) (pv 1)) (zl kQ (pv 3) (pv 2)))))))), ?_⟩
 rw [show start ["_law_n", "_law_rows", "_law_columns", "_law_place"] [V.int n, V.int r] = [some (.int n), some (.int r), none, none] from rfl]
 walk_at "rd"
 walk_at "xs"
 intro D hD
 rw [Int.toNat_natCast, ec]
 refine jv (fun i τ H' => ∃ u, τ = [some (.int n), some (.int r), some (.int c), u] /\ Kp [D] (upd H D (.lst [])) H' /\ H' D = some (il (yP r c i))) ?_ ?_ ?_
 ·exact ⟨none, rfl, Kp.refl, zd⟩
 ·rintro i τ H' hi ⟨u, rfl, kp, hd⟩
  have m1 := jf (0 + (i : Int)) (show (0 : Int) < c by omega)
  walk_at "rd"
  walk_at "xs"
  refine ⟨by rw [List.length_map]; simp [yP]; omega, kp.trans (Kp.set _ (by simp)), zd.trans (congrArg some (congrArg HO.lst ?_))⟩
  show _ = List.map V.int (yP r c (i + 1))
  unfold yP
  rw [List.range_succ, List.map_append, List.map_append, Int.zero_add]; rfl
 ·rintro τ H' ⟨u, rfl, kp, hd⟩
  exact q D H' _ (Kp.drop1 hD kp) hD hd (Xc hn hr1 hc1)
abbrev vS : Stmt := top 30
theorem Zb : zt ["_law_box_here", "_law_n", "_law_way", "_law_begin", "_law_by", "_law_some", "_law_k", "_law_rows"] ["_law_box_here", "_law_n"] (zj vS) := ⟨rfl, rfl, rfl, by decide +kernel, rfl, by decide +kernel, by decide +kernel⟩
def Jv : Sp := fun vs H Q _ => ∃ (b : Addr) (n N : Nat), vs = [.ref b, .int n] /\ Bx H b N /\ N < 1000000 /\ n <= 1000 /\ ∀ p H' ns, Kp [b] H H' -> H p = none -> Bx H' b (N + 3000) -> H' p = some (il ns) -> zf n ns -> Q (.ref p) H'
theorem ZW {n : Nat} (hn : 0 < n) (by' : Int) : zf n ((List.range n).map fun (i : Nat) => ((i : Int) + by') % (n : Int)) := by
  have g : ∀ i, i < n -> ((List.range n).map fun (i : Nat) => ((i : Int) + by') % (n : Int)).getD i 0 = ((i : Int) + by') % (n : Int) := fun i hi => by
    rw [zB (by simp; exact hi)]; simp
  refine qj (by simp) (fun i hi => ?_) (fun i k hi hk e => ?_)
  · rw [g i hi]; exact jf _ (by omega)
  · rw [g i hi, g k hk] at e
    have h1 := Int.emod_emod_of_dvd
    have d : ((i : Int) - (k : Int)) % (n : Int) = 0 := by
      have := Int.emod_eq_emod_iff_emod_sub_eq_zero.mp e
      rw [show (i : Int) + by' - ((k : Int) + by') = (i : Int) - k by omega] at this
      exact this
    obtain ⟨z, hz⟩ := Int.dvd_of_emod_eq_zero d
    by_cases z0 : z = 0
    · rw [z0, Int.mul_zero] at hz; omega
    · have : (n : Int) <= (n : Int) * z \/ (n : Int) * z <= -(n : Int) := by
        rcases Int.lt_or_gt_of_ne z0 with h | h
        · right
          have := Int.mul_le_mul_of_nonneg_left (show z <= -1 by omega) (show (0 : Int) <= n by omega)
          omega
        · left
          have := Int.mul_le_mul_of_nonneg_left (show 1 <= z by omega) (show (0 : Int) <= n by omega)
          omega
      omega
theorem J4 {n b : Nat} (h : b <= n) : zf n (zR 0 1 b ++ zR ((n : Int) - 1) (-1) (n - b)) := by
 have g : ∀ i, i < n -> (zR 0 1 b ++ zR ((n : Int) - 1) (-1) (n - b)).getD i 0 = if i < b then (i : Int) else (n : Int) - 1 - ((i - b : Nat) : Int) := fun i hi => by
  by_cases z : i < b
  ·rw [if_pos z, List.getD_eq_getElem?_getD, List.getElem?_append_left (by rw [zM]; exact z), <- List.getD_eq_getElem?_getD, qf b z]
  ·rw [if_neg z, List.getD_eq_getElem?_getD, List.getElem?_append_right (by rw [zM]; omega), zM, <- List.getD_eq_getElem?_getD, zB (by rw [zM]; omega)]
   simp [zR]; omega
 refine qj (by rw [List.length_append, zM, zM]; omega) (fun i hi => ?_) (fun i k hi hk e => ?_)
 ·rw [g i hi]; split <;> omega
 ·rw [g i hi, g k hk] at e
  split at e <;> split at e <;> omega
theorem VR {n b : Nat} (h : b <= n) : Builtin.Range.rangeSize ((n : Int) - 1) ((b : Int) - 1) (-1) = ((n - b : Nat) : Int) := by
 unfold Builtin.Range.rangeSize
 rw [if_neg (by decide)]
 split
 ·rw [show (-(-1) : Int) = 1 from rfl, Int.ediv_one]; omega
 ·omega
theorem Z2 {n b : Nat} (h : n <= 1000) (hb : b <= 1000) : Builtin.Range.small ((n : Int) - 1) ((b : Int) - 1) (-1) = true := by
 unfold Builtin.Range.small
 unfold Builtin.Range.rangeSize
 simp only [Builtin.Range.rangeFitsLong, Bool.and_eq_true, Bool.or_eq_true, decide_eq_true_eq, beq_iff_eq, show ¬ (-1 : Int) > 0 by decide, if_false, Int.neg_neg, Int.ediv_one]
 split <;> omega
theorem Yi (a : At K mg "_law_order" vS) (B : Blt mg) (D_law_take : Df P w K mg base "_law_take" ["_law_box_here", "_law_many"] 3 kz) (D_law_shuffled : Df P w K mg base "_law_shuffled" ["_law_box_here", "_law_n"] 3 jF) (D_law_ringed : Df P w K mg base "_law_ringed" ["_law_box_here", "_law_n", "_law_many"] 3 wJ)
  (D_law_exchanged : Df P w K mg base "_law_exchanged" ["_law_box_here", "_law_n"] 3 YF) (D_law_table : Df P w K mg base "_law_table" ["_law_n", "_law_rows"] 3 Jc) : Df P w K mg base "_law_order" ["_law_box_here", "_law_n"] 4 Jv := by
 refine qm (k := 3) a Zb (fun _ _ _ _ _ _ us hl => match us, hl with | [_, _], _ => rfl) (fun vs H Q E h => ?_) (fun f cdv A outer s H vs Q E hr h => ?_)
 ·obtain ⟨b, n, N, rfl, _⟩ := h; rfl
 obtain ⟨b, n, N, rfl, hb, hN, hn, q⟩ := h
 have sc := Zb
 have hsl := hsl
 refine ⟨_, (zc (zy (i := 2) sc.nd rfl (by first | exact Or.inl rfl | exact Or.inr rfl) (zq D_law_take hr rfl (za (pv 0) (za ze zb))))
  (zc (zS (PW.pt (jR (zx vo (pv 1) ze (zu _)) (jz (zx ko (pv 2) ze (zu _))))) (zg (zm (zL (qg rfl) rfl B.list qM (za (zL qO rfl B.range jt (za (pv 1) zb)) zb)))) zD)
  (zc (zS (zx vo (pv 2) ze (zu _)) (zg (zm (zq D_law_shuffled hr rfl (za (pv 0) (za (pv 1) zb))))) zD)
  (zc (zS (zx ko (pv 2) ze (zu _)) (zg (zm (zq D_law_ringed hr rfl (za (pv 0) (za (pv 1) (za ze zb)))))) zD)
  (zc (zS (zx ko (pv 2) ze (zu _)) (zg (zm (zq D_law_ringed hr rfl (za (pv 0) (za (pv 1) (za (zl zP ze (zq D_law_take hr rfl (za (pv 0) (za ze zb)))) zb)))))) zD)
  (zc (zS (zx ko (pv 2) ze (zu _)) (zg (zm (zq D_law_exchanged hr rfl (za (pv 0) (za (pv 1) zb))))) zD)
  (zc (zS (zx ko (pv 2) ze (zu _)) (zc (zy (i := 4) sc.nd rfl (by first | exact Or.inl rfl | exact Or.inr rfl) (zq D_law_take hr rfl (za (pv 0) (za (pv 1) zb))))
  (zg (zm (qK (ts := [6]) rfl rfl (zQ rfl B.range (za (pv 1) zb)) (fun _ _ _ _ => (zr (i := 6) sc.nd rfl (by first | exact Or.inl rfl | exact Or.inr rfl))) (fun _ _ _ _ => qE) (fun _ _ _ _ => (zl qu (zl zP (pv 6) (pv 4)) (pv 1))))))) zD)
  (zc (zS (zx ko (pv 2) ze (zu _)) (zc (xP (j := 5) rfl sc.nd rfl (by first | exact Or.inl rfl | exact Or.inr rfl) (ts := [7]) rfl (vq rfl B.range (za ze (za (zl zP (pv 1) ze) zb))) (fun _ _ _ _ => (zr (i := 7) sc.nd rfl (by first | exact Or.inl rfl | exact Or.inr rfl))) (fun _ _ _ _ => wf (zx ko (zl qu (pv 1) (pv 7)) ze (zu _))) (fun _ _ _ _ => (pv 7)))
  (zg (zm (zq D_law_table hr rfl (za (pv 1) (za (zE zN (pv 5) (zq D_law_take hr rfl (za (pv 0) (za (zo zp rfl B.len qb (za (pv 5) zb)) zb))) (fun _ _ => rfl)) zb)))))) zD)
  (zc (zy (i := 3) sc.nd rfl (by first | exact Or.inl rfl | exact Or.inr rfl) (zq D_law_take hr rfl (za (pv 0) (za (pv 1) zb))))
  (zg (zm (zl xW (zL (qg rfl) rfl B.list qM (za (zL qO rfl B.range jt (za (pv 3) zb)) zb)) (zL (qg rfl) rfl B.list qM (za (zL wU rfl B.range jt (za (zl jL (pv 1) ze) (za (zl jL (pv 3) ze) (za (WX KQ ze) zb)))) zb)))))))))))))), ?_⟩
 rw [show start ["_law_box_here", "_law_n", "_law_way", "_law_begin", "_law_by", "_law_some", "_law_k", "_law_rows"] [V.ref b, V.int n] = [some (.ref b), some (.int n), none, none, none, none, none, none] from rfl]
 walk_at "rd"
 refine ⟨b, 9, N, rfl, hb, by omega, by decide, by decide, fun way H1 k1 b1 l1 u1 => ?_⟩
 have fr : ∀ p, H1 p = none -> H p = none := fun p hp => by
  cases z : H p with
  | none => rfl
  | some o =>
   by_cases pb : p = b
   ·subst pb; obtain ⟨o', e⟩ := b1.there; rw [e] at hp; cases hp
   ·exact absurd (k1 p o (by simpa using pb) z) (by rw [hp]; simp)
 have bx : ∀ p, H1 p = none -> b ≠ p := fun p hp => b1.ne hp
 have rr : ∀ p, H1 p = none -> ∃ x x_1 x_2, upd H1 p (jy p 0 (n : Int) 1) p = some (jy p x x_1 x_2) /\ Builtin.Range.small x x_1 x_2 = true /\ ∃ x_3 : Nat, Builtin.Range.rangeSize x x_1 x_2 = (x_3 : Int) /\ x_3 <= 100000 /\
   ∀ l, upd H1 p (jy p 0 (n : Int) 1) l = none -> Q (V.ref l) (upd (upd H1 p (jy p 0 (n : Int) 1)) l (HO.lst (List.map V.int (zR x x_2 x_3)))) := fun p hp => by
  refine ⟨0, n, 1, zd, small_one (by omega) (by omega) (by omega) (by omega), n, vG (by omega), by omega, fun l hl => ?_⟩
  have hl1 : H1 l = none := kU hl (Kp.new _ hp)
  exact q l _ _ (k1.trans ((Kp.new _ hp).trans (Kp.new _ hl))) (fr l hl1) (((b1.new hp).new hl).mono (by omega)) zd (zf.rng n)
 refine jl (fun c => rr) (fun c => ⟨rfl, jl (fun c => rr) (fun c8 => ⟨way, rfl, ?_⟩)⟩)
 refine jl (fun c => ?_) (fun c2 => ⟨rfl, jl (fun c => ?_) (fun c => ⟨rfl, jl (fun c => ?_) (fun c => ⟨rfl, jl (fun c => ?_) (fun c => ⟨rfl, jl (fun c => ?_) (fun c => ⟨rfl, jl (fun c => ?_) (fun c => ?_)⟩)⟩)⟩)⟩)⟩)
 ·exact ⟨b, n, N + 1, rfl, b1, by omega, hn, fun p H' ns k hp b' h' ho => q p H' ns (k1.trans k) (fr p hp) (b'.mono (by omega)) h' ho⟩
 ·exact ⟨b, n, 1, N + 1, rfl, b1, by omega, by omega, hn, by omega, by omega, fun p H' ns k hp b' h' ho => q p H' ns (k1.trans k) (fr p hp) (b'.mono (by omega)) h' ho⟩
 ·refine ⟨b, 4, _, rfl, b1, by omega, by decide, by decide, fun r H2 k2 b2 l2 u2 => ⟨_, rfl, ?_⟩⟩
  have fr2 : ∀ p, H2 p = none -> H p = none := fun p hp => by
   cases z : H p with
   | none => rfl
   | some o =>
    by_cases pb : p = b
    ·subst pb; obtain ⟨o', e⟩ := b2.there; rw [e] at hp; cases hp
    ·exact absurd (k2 p o (by simpa using pb) (k1 p o (by simpa using pb) z)) (by rw [hp]; simp)
  refine ⟨b, n, (2 + r).toNat, _, ?_, b2, by omega, by omega, hn, by omega, by omega, fun p H' ns k hp b' h' ho => q p H' ns ((k1.trans k2).trans k) (fr2 p hp) (b'.mono (by omega)) h' ho⟩
  rw [show (((2 + r).toNat : Nat) : Int) = 2 + r by omega]
 ·exact ⟨b, n, N + 1, rfl, b1, by omega, by omega, hn, fun p H' ns k hp b' h' ho => q p H' ns (k1.trans k) (fr p hp) (b'.mono (by omega)) h' ho⟩
 ·refine ⟨b, _, _, rfl, b1, by omega, by omega, by omega, fun r H2 k2 b2 l2 u2 => ⟨by omega, by omega, fun D hD => ?_⟩⟩
  have fr2 : ∀ p, H2 p = none -> H p = none := fun p hp => by
   cases z : H p with
   | none => rfl
   | some o =>
    by_cases pb : p = b
    ·subst pb; obtain ⟨o', e⟩ := b2.there; rw [e] at hp; cases hp
    ·exact absurd (k2 p o (by simpa using pb) (k1 p o (by simpa using pb) z)) (by rw [hp]; simp)
  rw [Int.toNat_natCast]
  refine jv (fun i τ H' => ∃ u, τ = [some (.ref b), some (.int n), some (.int way), none, some (.int r), none, u, none] /\ Kp [D] (upd H2 D (.lst [])) H' /\ H' D = some (il ((List.range i).map fun (i : Nat) => ((i : Int) + r) % (n : Int)))) ?_ ?_ ?_
  ·exact ⟨none, rfl, Kp.refl, zd⟩
  ·rintro i τ H' hi ⟨u, rfl, kp, hd⟩
   walk_at "rd"
   walk_at "xs"
   refine ⟨by rw [List.length_map, List.length_map, List.length_range]; omega, kp.trans (Kp.set _ (by simp)), zd.trans (congrArg some (congrArg HO.lst ?_))⟩
   rw [List.range_succ, List.map_append, List.map_append, Int.zero_add]; rfl
  ·rintro τ H' ⟨u, rfl, kp, hd⟩
   exact q D H' _ ((k1.trans k2).trans ((Kp.drop1 hD kp).mono (by simp))) (fr2 D hD) ((b2.kp (Kp.drop1 hD kp)).mono (by omega)) hd (ZW (by omega) r)
 ·refine ⟨by decide, by decide, by omega, by omega, fun D hD => ?_⟩
  rw [show ((n : Int) + 1 - 1).toNat = n by omega]
  have nbD := bx D hD
  refine jv (fun i τ H' => ∃ u ts, τ = [some (.ref b), some (.int n), some (.int way), none, none, none, none, u] /\ Kp [D] (upd H1 D (.lst [])) H' /\ H' D = some (il ts) /\ ts.length <= i /\ (1 <= i -> 1 <= ts.length) /\ ∀ t ∈ ts, 1 <= t /\ t <= (n : Int) /\ (n : Int) % t = 0) ?_ ?_ ?_
  ·exact ⟨none, [], rfl, Kp.refl, zd, Nat.le_refl _, (fun h => absurd h (by decide)), fun t ht => nomatch ht⟩
  ·rintro i τ H' hi ⟨u, ts, rfl, kp, hd, hl, hl1, hbd⟩
   walk_at "rd"
   refine ⟨by omega, rfl, jl (fun c => ?_) (fun c => ?_)⟩
   ·refine ⟨_, hd, by rw [List.length_map]; omega, kp.trans (Kp.set _ (by simp)), ts ++ [1 + (i : Int)], zd.trans (congrArg some (congrArg HO.lst (by rw [List.map_append]; rfl))), by rw [List.length_append, List.length_singleton]; omega, fun _ => by rw [List.length_append, List.length_singleton]; omega, fun t ht => ?_⟩
    rcases List.mem_append.mp ht with z | z
    ·exact hbd t z
    ·have : t = 1 + (i : Int) := by simpa using z
     subst this
     exact ⟨by omega, by omega, c⟩
   ·refine ⟨kp, ts, hd, by omega, fun _ => ?_, hbd⟩
    by_cases z : i = 0
    ·subst z
     exact absurd (by show (n : Int) % (1 + 0) = 0; rw [Int.add_zero, Int.emod_one]) c
    ·exact hl1 (by omega)
  ·rintro τ H' ⟨u, ts, rfl, kp, hd, hl, hl1, hbd⟩
   have kD := Kp.drop1 hD kp
   have l1' := hl1 (by omega)
   refine ⟨D, rfl, _, .inl (SqL.of hd), b, _, N + 1, rfl, b1.kp kD, by omega, by rw [List.length_map]; omega, by rw [List.length_map]; omega, fun r H2 k2 b2 l2 u2 => ?_⟩
   rw [List.length_map] at u2
   obtain ⟨e1, e2⟩ := zw (cs := ts) (k := r) l2 u2
   have hd2 := k2 _ _ (by simpa using Ne.symm nbD) hd
   have hm : ts.getD r.toNat 0 ∈ ts := by rw [zB (by omega)]; exact List.getElem_mem _
   obtain ⟨t1, t2, t3⟩ := hbd _ hm
   refine ⟨D, rfl, _, _, rfl, SqL.of hd2, _, e2, ?_⟩
   generalize ts.getD r.toNat 0 = t at t1 t2 t3
   obtain ⟨T, rfl⟩ : ∃ T : Nat, t = T := ⟨t.toNat, by omega⟩
   have dv : T ∣ n := Int.natCast_dvd_natCast.mp (Int.dvd_of_emod_eq_zero t3)
   obtain ⟨C, hC⟩ := dv
   refine ⟨n, T, C, rfl, hC, by omega, ?_, hn, fun p H3 ns k3 hp3 h3 ho => ?_⟩
   ·rcases Nat.eq_zero_or_pos C with z | z
    ·rw [z, Nat.mul_zero] at hC; omega
    ·exact z
   ·refine q p H3 ns (((k1.trans (kD.mono (by simp))).trans k2).trans (k3.mono (by simp))) ?_ ((b2.kp k3).mono (by omega)) h3 ho
    cases z : H p with
    | none => rfl
    | some o =>
     by_cases pb : p = b
     ·subst pb; obtain ⟨o', e⟩ := b2.there; rw [e] at hp3; cases hp3
     ·exact absurd (k2 p o (by simpa using pb) (kD p o (by simp) (k1 p o (by simpa using pb) z))) (by rw [hp3]; simp)
 ·refine ⟨b, _, _, rfl, b1, by omega, by omega, by omega, fun r H2 k2 b2 l2 u2 => ?_⟩
  obtain ⟨R, rfl⟩ : ∃ R : Nat, r = R := ⟨r.toNat, by omega⟩
  have fr2 : ∀ p, H2 p = none -> H p = none := fun p hp => by
   cases z : H p with
   | none => rfl
   | some o =>
    by_cases pb : p = b
    ·subst pb; obtain ⟨o', e⟩ := b2.there; rw [e] at hp; cases hp
    ·exact absurd (k2 p o (by simpa using pb) (k1 p o (by simpa using pb) z)) (by rw [hp]; simp)
  refine ⟨_, rfl, fun p hp => ⟨0, R, 1, zd, small_one (by omega) (by omega) (by omega) (by omega), R, vG (by omega), by omega, fun l hl => ?_⟩⟩
  refine ⟨_, rfl, by decide, by decide, fun p1 hp1 => ⟨_, _, _, zd, Z2 hn (by omega), n - R, VR (by omega), by omega, fun l1 hl1 => ?_⟩⟩
  walk_at "xs"
  intro p2 hp2
  refine q p2 _ (zR 0 1 R ++ zR ((n : Int) - 1) (-1) (n - R)) ?_ ?_ ?_ (zd.trans (congrArg some (congrArg HO.lst (by rw [List.map_append])))) (J4 (by omega))
  ·exact (k1.trans k2).trans (by walk_at "kp")
  ·exact fr2 p2 (by walk_at "fr")
  ·exact (b2.kp (by walk_at "kp")).mono (by omega)
theorem DB : MR rNe := fun _ _ _ _ _ hq ⟨e, h⟩ => ⟨e, hq _ _ h⟩
theorem jI {ss : List Bool} {i : Nat} (h : i < ss.length) : ixN (ss.map V.bl).length (i : Int) = some i /\ atI (ss.map V.bl) (i : Int) = some (.bl (ss.getD i false)) := by
 have e1 : ixN (ss.map V.bl).length (i : Int) = some i := by unfold ixN; rw [List.length_map, if_pos (by omega), if_pos (by omega), Int.toNat_natCast]
 refine ⟨e1, ?_⟩
 unfold atI
 rw [e1]
 show (ss.map V.bl)[i]? = _
 rw [List.getElem?_map, List.getD_eq_getElem?_getD, List.getElem?_eq_getElem h]; rfl
theorem xn {ss : List Bool} {i j : Nat} {v : Bool} (h : i < ss.length) : (ss.set i v).getD j false = if j = i then v else ss.getD j false := by
 rw [List.getD_eq_getElem?_getD, List.getD_eq_getElem?_getD, List.getElem?_set]
 by_cases e : i = j
 ·subst e; rw [if_pos rfl, if_pos h, if_pos rfl]; rfl
 ·rw [if_neg e, if_neg (fun z => e z.symm)]
abbrev jX : Stmt := top 6
theorem kO : zt ["order", "first", "ring", "place"] ["order", "first"] (zj jX) := ⟨rfl, rfl, rfl, by decide +kernel, rfl, by decide +kernel, by decide +kernel⟩
def kC (K : PySem.W.Frag) : Sp := fun vs H Q _ => ∃ (a : Addr) (n : Nat) (os : List Int) (p : Int), vs = [.ref a, .int p] /\ (SqL K H a (os.map V.int) \/ SqT K H a (os.map V.int)) /\ zf n os /\ n <= 1000 /\ 0 <= p /\ p < n /\ ∀ t H', Kp [] H H' -> H t = none -> H' t = some (il (zn os p)) -> Q (.ref t) H'
theorem vR (a : At K mg "ring_from" jX) (B : Blt mg) : Df P w K mg base "ring_from" ["order", "first"] 1 (kC K) := by
  refine qm (k := 0) a kO (fun _ _ _ _ _ _ us hl => match us, hl with | [_, _], _ => rfl) (fun vs H Q E h => ?_) (fun f cdv A outer s H vs Q E hr h => ?_)
  · obtain ⟨a, _, _, _, rfl, _⟩ := h; rfl
  obtain ⟨a, n, os, p, rfl, ha, ho, hn, p0, p1, q⟩ := h
  have sc := kO
  have hsl := hsl
  have ol := ho.1
  obtain ⟨M, hM, hMn⟩ := jY ho p0 p1
  refine ⟨_, (zc (zy (i := 2) sc.nd rfl (by first | exact Or.inl rfl | exact Or.inr rfl) (zZ (za (pv 1) zb)))
    (zc (zy (i := 3) sc.nd rfl (by first | exact Or.inl rfl | exact Or.inr rfl) (zE ql (pv 0) (pv 1) (fun _ _ => rfl)))
    (zc (xV PassesOwn.never (zx WH (pv 3) (pv 1) (zu _)) (zc (kd (Zk PySem.F.plainAttrs_list PySem.F.slot_list_append PySem.F.type_list_append ki (pv 2) (za (pv 3) zb)))
    (zg (zy (i := 3) sc.nd rfl (by first | exact Or.inl rfl | exact Or.inr rfl) (zE ql (pv 0) (pv 3) (fun _ _ => rfl))))))
    (zg (zm (pv 2)))))), ?_⟩
  rw [show start ["order", "first", "ring", "place"] [V.ref a, V.int p] = [some (.ref a), some (.int p), none, none] from rfl]
  walk_at "rd"
  obtain ⟨e1, e2⟩ := zw (cs := os) (k := p) p0 (by omega)
  refine ⟨by show 1 <= sizeLine; decide, fun t ht => ⟨_, je ha (Kp.new _ ht), _, e2, ?_⟩⟩
  refine yi (fun τ H' => ∃ (j : Nat), τ = [some (.ref a), some (.int p), some (.ref t), some (.int (itn os j p))] /\ Kp [t] (upd H t (.lst [.int p])) H' /\ H' t = some (il (itl os p j)) /\ 1 <= j /\ j <= M /\ ∀ i, 1 <= i -> i < j -> itn os i p ≠ p)
    (fun _ H' => match H' t with | some (.lst xs) => M + 1 - xs.length | _ => 0) ?_ ?_ (Vi (B6 DB X9 X9))
  · exact ⟨1, rfl, Kp.refl, zd, Nat.le_refl _, hM.1, fun i h1 h2 => by omega⟩
  · rintro τ H' ⟨j, rfl, kp, hH, j1, jM, hj⟩
    have bd := zW ho p0 p1 j
    have k0 := Kp.drop1 ht kp
    walk_at "rd"
    refine ⟨rfl, jl (fun c => ?_) (fun c => ?_)⟩
    · have jM' : j < M := by
        rcases Nat.lt_or_ge j M with z | z
        · exact z
        · have e : j = M := by omega
          subst e
          exact absurd hM.2.1 c
      obtain ⟨g1, g2⟩ := zw (cs := os) (k := itn os j p) bd.1 (by omega)
      have k1 : Kp [] H (upd H' t (HO.lst (List.map V.int (itl os p j) ++ [V.int (itn os j p)]))) := Kp.drop1 ht (kp.trans (Kp.set _ (by simp)))
      refine ⟨.inl ⟨rfl, _, SqL.of hH⟩, _, hH, by rw [List.length_map, qk]; omega, _, je ha k1, _, g2, ⟨j + 1, rfl, kp.trans (Kp.set _ (by simp)), ?_, by omega, by omega, fun i h1 h2 => ?_⟩, ?_⟩
      · rw [K6]
        exact zd.trans (congrArg some (congrArg HO.lst (by rw [List.map_append]; rfl)))
      · by_cases e : i = j
        · subst e; exact c
        · exact hj i h1 (by omega)
      · rw [zd, hH]
        show M + 1 - (List.map V.int (itl os p j) ++ [V.int (itn os j p)]).length < M + 1 - (List.map V.int (itl os p j)).length
        rw [List.length_append, List.length_map, qk]
        show M + 1 - (j + 1) < M + 1 - j
        omega
    · have hw : jj os p j := ⟨j1, by by_cases z : itn os j p = p; exact z; exact absurd z c, hj⟩
      refine q _ _ k0 ht ?_
      unfold zn
      rw [hw.per]
      exact hH
abbrev vy : Stmt := top 7
theorem Zz : zt ["order", "seen", "found", "first", "ring", "place"] ["order"] (zj vy) := ⟨rfl, rfl, rfl, by decide +kernel, rfl, by decide +kernel, by decide +kernel⟩
def Jn (K : PySem.W.Frag) : Sp := fun vs H Q _ => ∃ (a : Addr) (n : Nat) (os : List Int), vs = [.ref a] /\ (SqL K H a (os.map V.int) \/ SqT K H a (os.map V.int)) /\ zf n os /\ n <= 1000 /\
 ∀ p H' rs, Kp [] H H' -> H p = none -> H' p = some (.lst (rfs rs)) -> (∀ r ∈ rs, H r.1 = none /\ r.1 ≠ p /\ H' r.1 = some (il r.2)) -> rs.map (·.2) = zG os n -> Q (.ref p) H'
theorem KL (a : At K mg "rings" vy) (B : Blt mg) (D_ring_from : Df P w K mg base "ring_from" ["order", "first"] 1 (kC K)) : Df P w K mg base "rings" ["order"] 2 (Jn K) := by
 refine qm (k := 1) a Zz (fun _ _ _ _ _ _ us hl => match us, hl with | [_], _ => rfl) (fun vs H Q E h => ?_) (fun f cdv A outer s H vs Q E hr h => ?_)
 ·obtain ⟨a, _, _, rfl, _⟩ := h; rfl
 obtain ⟨a, n, os, rfl, ha, ho, hn, q⟩ := h
 have sc := Zz
 have hsl := hsl
 have ol := ho.1
 refine ⟨_, (zc (zy (i := 1) sc.nd rfl (by first | exact Or.inl rfl | exact Or.inr rfl) (zl xq (zZ (za qp zb)) (zo zp rfl B.len qb (za (pv 0) zb))))
  (zc (zy (i := 2) sc.nd rfl (by first | exact Or.inl rfl | exact Or.inr rfl) (zZ zb))
  (zc (qF PassesOwn.never rfl (zQ rfl B.range (za (zo zp rfl B.len qb (za (pv 0) zb)) zb)) (zr (i := 3) sc.nd rfl (by first | exact Or.inl rfl | exact Or.inr rfl)) (zg (zS (qG (qh (zE zN (pv 1) (pv 3) (fun _ _ => rfl)) (fun _ => rfl))) (zc (zy (i := 4) sc.nd rfl (by first | exact Or.inl rfl | exact Or.inr rfl) (zq D_ring_from hr rfl (za (pv 0) (za (pv 3) zb))))
  (zc (qF PassesOwn.never rfl (Q4 (pv 4)) (zr (i := 5) sc.nd rfl (by first | exact Or.inl rfl | exact Or.inr rfl)) (zg (qY qp (jb (pv 1) (pv 5) zY))))
  (zg (zS (zx Xf (zo zp rfl B.len qb (za (pv 4) zb)) ze (zu _)) (zg (kd (Zk PySem.F.plainAttrs_list PySem.F.slot_list_append PySem.F.type_list_append ki (pv 2) (za (pv 4) zb)))) zD)))) zD)))
  (zg (zm (pv 2)))))), ?_⟩
 rw [show start ["order", "seen", "found", "first", "ring", "place"] [V.ref a] = [some (.ref a), none, none, none, none, none] from rfl]
 walk_at "rd"
 refine ⟨by show 1 <= sizeLine; decide, fun pz hpz => ⟨_, je ha (Kp.new _ hpz), _, zd, ?_⟩⟩
 rw [List.length_map, ol, Int.toNat_natCast, wK]
 refine ⟨by omega, by omega, by show 1 * n <= sizeLine; omega, fun ps hps => ?_⟩
 refine ⟨Nat.zero_le _, fun pf hpf => ?_⟩
 have kH := ((Kp.new (bs := []) (HO.lst [V.bl false]) hpz).trans (Kp.new (HO.lst (List.replicate n (V.bl false))) hps)).trans (Kp.new (HO.lst []) hpf)
 have nps : H ps = none := (Kp.new (bs := []) _ hpz).free hps
 have npf : H pf = none := ((Kp.new (bs := []) _ hpz).trans (Kp.new _ hps)).free hpf
 have hps0 := (Kp.new (bs := []) (HO.lst []) hpf) ps _ (by simp) (zd (H := upd H pz (HO.lst [V.bl false])) (o := HO.lst (List.replicate n (V.bl false))))
 have hpf0 := zd (H := upd (upd H pz (HO.lst [V.bl false])) ps (HO.lst (List.replicate n (V.bl false)))) (a := pf) (o := HO.lst [])
 have nsf : ps ≠ pf := zh zd hpf
 generalize upd (upd (upd H pz (HO.lst [V.bl false])) ps (HO.lst (List.replicate n (V.bl false)))) pf (HO.lst []) = H0 at *
 refine ⟨_, je ha kH, ?_⟩
 rw [List.length_map, ol]
 refine ⟨by omega, by omega, ?_⟩
 rw [Int.toNat_natCast]
 refine j6 (fun i τ G => ∃ (x3 x4 x5 : Option V) (ss : List Bool) (rs : List (Addr × List Int)), τ = [some (.ref a), some (.ref ps), some (.ref pf), x3, x4, x5] /\ Kp [ps, pf] H0 G /\ G ps = some (.lst (ss.map V.bl)) /\ ss.length = n /\ (∀ x : Nat, x < n -> (ss.getD x false = true ↔ qr os i (x : Int))) /\ G pf = some (.lst (rfs rs)) /\ (∀ r ∈ rs, H r.1 = none /\ r.1 ≠ pf /\ r.1 ≠ ps /\ G r.1 = some (il r.2)) /\ rs.map (·.2) = zG os i) ?_ ?_ ?_
 ·refine ⟨none, none, none, List.replicate n false, [], rfl, Kp.refl, by rw [List.map_replicate]; exact hps0, by simp, fun x hx => ?_, hpf0, fun r hr => (nomatch hr), rfl⟩
  constructor
  ·intro z
   rw [List.getD_eq_getElem?_getD, List.getElem?_replicate, if_pos hx] at z
   cases z
  ·rintro ⟨q, hq, _⟩; omega
 ·rintro i τ G hi ⟨x3, x4, x5, ss, rs, rfl, kG, gs, ls, hs, gf, hr, er⟩
  have kHG : Kp [] H G := Kp.un (Kp.un ((kH.mono (by simp)).trans kG) nps) npf
  obtain ⟨s1, s2⟩ := jI (ss := ss) (i := i) (by omega)
  have lrs : rs.length <= i := by
   have := qV os i
   rw [<- er, List.length_map] at this
   exact this
  rw [Int.zero_add]
  walk_at "rd"
  refine ⟨_, SqL.of gs, _, s2, _, rfl, jl (fun c => ?_) (fun c => ?_)⟩
  ·have hns : ¬ qr os i (i : Int) := by rw [<- hs i hi, c]; simp
   refine ⟨a, n, os, i, rfl, je ha kHG, ho, hn, by omega, by omega, fun t G1 k1 ht h1 => ?_⟩
   have gs1 := k1 _ _ (by simp) gs
   have gf1 := k1 _ _ (by simp) gf
   obtain ⟨M, hM, hMn⟩ := jY ho (p := (i : Int)) (by omega) (by omega)
   have hrl : (zn os (i : Int)).length = M := by unfold zn; rw [qk, hM.per]
   have nts : t ≠ ps := Ne.symm (zh gs ht)
   have ntf : t ≠ pf := Ne.symm (zh gf ht)
   refine ⟨t, rfl, ⟨_, SqL.of h1⟩, ?_⟩
   refine Jm (xs := (zn os (i : Int)).map V.int) (fun j τ G' => ∃ (x5 : Option V) (ss' : List Bool), τ = [some (.ref a), some (.ref ps), some (.ref pf), some (.int (i : Int)), some (.ref t), x5] /\ Kp [ps] G1 G' /\ G' ps = some (.lst (ss'.map V.bl)) /\ ss'.length = n /\ ∀ x : Nat, x < n -> (ss'.getD x false = true ↔ qr os i (x : Int) \/ (x : Int) ∈ (zn os (i : Int)).take j)) ?_ ?_ ?_ ?_
   ·exact ⟨x5, ss, rfl, Kp.refl, gs1, ls, fun x hx => by rw [hs x hx]; simp⟩
   ·rintro j τ G' _ ⟨_, ss', rfl, kp, _⟩
    exact SqL.of (kp _ _ (by simpa using nts) h1)
   ·rintro j x τ G' hx ⟨y5, ss', rfl, kp, gs', ls', hs'⟩
    obtain ⟨rfl, hj⟩ := qd hx
    have hm : (zn os (i : Int)).getD j 0 ∈ zn os (i : Int) := by rw [zB hj]; exact List.getElem_mem hj
    have hb : 0 <= (zn os (i : Int)).getD j 0 /\ (zn os (i : Int)).getD j 0 < (n : Int) := by
     obtain ⟨k, _, e⟩ := qT.mp hm
     rw [<- e]
     exact zW ho (by omega) (by omega) k
    have htk : (zn os (i : Int)).take (j + 1) = (zn os (i : Int)).take j ++ [(zn os (i : Int)).getD j 0] := by
     rw [zB hj]; exact (List.take_append_getElem hj).symm
    generalize (zn os (i : Int)).getD j 0 = v at *
    obtain ⟨vn, rfl⟩ : ∃ vn : Nat, v = vn := ⟨v.toNat, by omega⟩
    obtain ⟨g1, g2⟩ := jI (ss := ss') (i := vn) (by omega)
    walk_at "rd"
    refine ⟨_, gs', vn, g1, kp.trans (Kp.set _ (by simp)), ss'.set vn true, zd.trans (congrArg some (congrArg HO.lst (by rw [List.map_set]))), by rw [List.length_set]; exact ls', fun x hx => ?_⟩
    rw [xn (by omega), htk, List.mem_append, List.mem_singleton]
    by_cases e : x = vn
    ·subst e; rw [if_pos rfl]; simp
    ·have e' : ¬ ((x : Int) = (vn : Int)) := by omega
     rw [if_neg e, hs' x hx]
     simp [e']
   ·rintro τ G' ⟨y5, ss', rfl, kp, gs', ls', hs'⟩
    rw [List.length_map, List.take_length] at hs'
    have h1' := kp _ _ (by simpa using nts) h1
    have gf' := kp _ _ (by simpa using Ne.symm nsf) gf1
    have hs'' : ∀ x : Nat, x < n -> (ss'.getD x false = true ↔ qr os (i + 1) (x : Int)) := fun x hx => by
     rw [hs' x hx, qr.succ, Rch.mem_ring hM]
     unfold zn
     rw [hM.per]
    have kp2 : Kp [ps, pf] H0 G' := (kG.trans (k1.mono (by simp))).trans (kp.mono (by simp))
    have hr' : ∀ r ∈ rs, H r.1 = none /\ r.1 ≠ pf /\ r.1 ≠ ps /\ G' r.1 = some (il r.2) := fun r hr0 => by
     obtain ⟨z1, z2, z3, z4⟩ := hr r hr0
     exact ⟨z1, z2, z3, kp _ _ (by simpa using z3) (k1 _ _ (by simp) z4)⟩
    have hL : qx os i := jd.mpr hns
    walk_at "rd"
    refine ⟨_, .inl (SqL.of h1'), jl (fun c1 => ?_) (fun c1 => ?_)⟩
    ·have hpe : 1 < per os (i : Int) := by rw [hM.per]; rw [List.length_map, hrl] at c1; omega
     refine ⟨.inl ⟨rfl, _, SqL.of gf'⟩, _, gf', by unfold rfs; rw [List.length_map]; omega, ⟨_, rfl⟩, kp2.trans (Kp.set _ (by simp)), ss', (zk nsf).trans gs', ls', hs'', rs ++ [(t, zn os (i : Int))], ?_, fun r hr0 => ?_, ?_⟩
     ·refine zd.trans (congrArg some (congrArg HO.lst ?_))
      unfold rfs; rw [List.map_append]; rfl
     ·rcases List.mem_append.mp hr0 with z | z
      ·obtain ⟨z1, z2, z3, z4⟩ := hr' r z
       exact ⟨z1, z2, z3, (zk z2).trans z4⟩
      ·rw [List.mem_singleton.mp z]
       exact ⟨kHG.free ht, ntf, nts, (zk ntf).trans h1'⟩
     ·show _ = zG os i ++ _
      rw [if_pos ⟨hL, hpe⟩, List.map_append, er]
      rfl
    ·have hpe : ¬ 1 < per os (i : Int) := by rw [hM.per]; rw [List.length_map, hrl] at c1; omega
     refine ⟨⟨_, rfl⟩, kp2, ss', gs', ls', hs'', rs, gf', hr', ?_⟩
     show _ = zG os i ++ _
     rw [if_neg (fun z => hpe z.2), List.append_nil, er]
  ·have hsi : qr os i (i : Int) := (hs i hi).mp (by cases z : ss.getD i false with | true => rfl | false => exact absurd z c)
   refine ⟨kG, ss, gs, ls, fun x hx => by rw [hs x hx, qr.step ho hi hsi], rs, gf, hr, ?_⟩
   show _ = zG os i ++ _
   rw [if_neg (fun z => jd.mp z.1 hsi), List.append_nil, er]
 ·rintro τ G ⟨x3, x4, x5, ss, rs, rfl, kG, gs, ls, hs, gf, hr, er⟩
  have kHG : Kp [] H G := Kp.un (Kp.un ((kH.mono (by simp)).trans kG) nps) npf
  walk_at "rd"
  exact q _ _ rs kHG npf gf (fun r hr0 => ⟨(hr r hr0).1, (hr r hr0).2.1, (hr r hr0).2.2.2⟩) er
theorem Xd {i j : Nat} {r : R2} (hr : ∀ x y H Q Q', (∀ z H1, Q z H1 -> Q' z H1) -> r x y H Q -> r x y H Q') : ∀ σ H Q Q', (∀ b H1, Q b H1 -> Q' b H1) -> yf (tOp r (v8 i) (v8 j)) σ H Q -> yf (tOp r (v8 i) (v8 j)) σ H Q' := by
 rintro σ H Q Q' hq ⟨x, e, y, e2, h⟩
 exact ⟨x, e, y, e2, hr _ _ _ _ _ (fun z H1 ⟨k, e, q⟩ => ⟨k, e, hq _ _ q⟩) h⟩
abbrev xx : Stmt := top 10
theorem yx : zt ["order", "place", "at", "steps"] ["order", "place"] (zj xx) := ⟨rfl, rfl, rfl, by decide +kernel, rfl, by decide +kernel, by decide +kernel⟩
def yI (K : PySem.W.Frag) : Sp := fun vs H Q _ => ∃ (a : Addr) (n : Nat) (os : List Int) (p : Int), vs = [.ref a, .int p] /\ (SqL K H a (os.map V.int) \/ SqT K H a (os.map V.int)) /\ zf n os /\ 0 <= p /\ p < n /\ ∀ m e, qv os p m e -> ∀ t, H t = none -> Q (.ref t) (upd H t (.tup [.int m, .int e]))
theorem Qv (a : At K mg "walk_of" xx) (B : Blt mg) : Df P w K mg base "walk_of" ["order", "place"] 1 (yI K) := by
 refine qm (k := 0) a yx (fun _ _ _ _ _ _ us hl => match us, hl with | [_, _], _ => rfl) (fun vs H Q E h => ?_) (fun f cdv A outer s H vs Q E hr h => ?_)
 ·obtain ⟨a, _, _, _, rfl, _⟩ := h; rfl
 obtain ⟨a, n, os, p, rfl, ha, ho, p0, p1, q⟩ := h
 have sc := yx
 have hsl := hsl
 have ol := ho.1
 obtain ⟨M, hM1, _, hM⟩ := kN ho p0 p1
 refine ⟨_, (zc (zy (i := 2) sc.nd rfl (by first | exact Or.inl rfl | exact Or.inr rfl) (zE ql (pv 0) (pv 1) (fun _ _ => rfl)))
  (zc (zy (i := 3) sc.nd rfl (by first | exact Or.inl rfl | exact Or.inr rfl) ze)
  (zc (xV PassesOwn.never (zx Xf (pv 2) (pv 1) (zu _)) (zc (zy (i := 2) sc.nd rfl (by first | exact Or.inl rfl | exact Or.inr rfl) (zE ql (pv 0) (pv 2) (fun _ _ => rfl)))
  (zg (Z5 (i := 3) sc.nd rfl (by first | exact Or.inl rfl | exact Or.inr rfl) ze Qa))))
  (zg (zm (xt (za (pv 3) (za (pv 2) zb)))))))), ?_⟩
 rw [show start ["order", "place", "at", "steps"] [V.ref a, V.int p] = [some (.ref a), some (.int p), none, none] from rfl]
 walk_at "rd"
 obtain ⟨e1, e2⟩ := zw (cs := os) (k := p) p0 (by omega)
 refine ⟨_, ha, _, e2, ?_⟩
 refine yi (fun τ H' => H' = H /\ ∃ (j : Nat), τ = [some (.ref a), some (.int p), some (.int (itn os j p)), some (.int j)] /\ 1 <= j /\ j <= M /\ ∀ i, 1 <= i -> i < j -> p < itn os i p)
  (fun τ _ => match τ with | [_, _, _, some (.int l)] => M - l.toNat | _ => 0) ?_ ?_ (Xd fun x y H Q Q' hq ⟨i, j, e1, e2, q⟩ => ⟨i, j, e1, e2, hq _ _ q⟩)
 ·exact ⟨rfl, 1, rfl, Nat.le_refl _, hM1, fun i h1 h2 => by omega⟩
 ·rintro τ H' ⟨rfl, j, rfl, j1, jM, hj⟩
  have bd := zW ho p0 p1 j
  walk_at "rd"
  refine jl (fun c => ?_) (fun c => ?_)
  ·obtain ⟨g1, g2⟩ := zw (cs := os) (k := itn os j p) bd.1 (by omega)
   have jM' : j < M := by
    rcases Nat.lt_or_ge j M with z | z
    ·exact z
    ·have : j = M := by omega
     subst this; omega
   refine ⟨_, ha, _, g2, ⟨j + 1, rfl, rfl, by omega, by omega, fun i h1 h2 => ?_⟩, ?_⟩
   ·by_cases e : i = j
    ·subst e; omega
    ·exact hj i h1 (by omega)
   ·show M - ((j : Int) + 1).toNat < M - (j : Int).toNat
    omega
  ·walk_at "rd"
   refine ⟨by show 2 <= sizeLine; decide, fun t ht => q _ _ ⟨j1, rfl, by omega, hj⟩ t ht⟩
abbrev jJ : Stmt := top 11
theorem kq : zt ["order", "place"] ["order", "place"] (zj jJ) := ⟨rfl, rfl, rfl, by decide +kernel, rfl, by decide +kernel, by decide +kernel⟩
def vI (K : PySem.W.Frag) : Sp := fun vs H Q _ => ∃ (a : Addr) (n : Nat) (os : List Int) (p : Int), vs = [.ref a, .int p] /\ (SqL K H a (os.map V.int) \/ SqT K H a (os.map V.int)) /\ zf n os /\ 0 <= p /\ p < n /\ ∀ H', Kp [] H H' -> Q (.int (wkM os p)) H'
theorem yL (a : At K mg "steps_from" jJ) (B : Blt mg) (D_walk_of : Df P w K mg base "walk_of" ["order", "place"] 1 (yI K)) : Df P w K mg base "steps_from" ["order", "place"] 2 (vI K) := by
 refine qm (k := 1) a kq (fun _ _ _ _ _ _ us hl => match us, hl with | [_, _], _ => rfl) (fun vs H Q E h => ?_) (fun f cdv A outer s H vs Q E hr h => ?_)
 ·obtain ⟨a, _, _, _, rfl, _⟩ := h; rfl
 obtain ⟨a, n, os, p, rfl, ha, ho, p0, p1, q⟩ := h
 have sc := kq
 refine ⟨_, (zg (zm (zE Z1 (zq D_walk_of hr rfl (za (pv 0) (za (pv 1) zb))) ze (fun _ _ => rfl)))), ?_⟩
 rw [show start ["order", "place"] [V.ref a, V.int p] = [some (.ref a), some (.int p)] from rfl]
 walk_at "rd"
 refine ⟨a, n, os, p, rfl, ha, ho, p0, p1, fun m e hw t ht => ⟨_, rfl, _, SqT.of zd, _, rfl, ?_⟩⟩
 rw [<- hw.wkM]
 exact q _ (Kp.new _ ht)
abbrev vP : Stmt := top 12
theorem ZK : zt ["order", "place"] ["order", "place"] (zj vP) := ⟨rfl, rfl, rfl, by decide +kernel, rfl, by decide +kernel, by decide +kernel⟩
def xQ (K : PySem.W.Frag) : Sp := fun vs H Q _ => ∃ (a : Addr) (n : Nat) (os : List Int) (p : Int), vs = [.ref a, .int p] /\ (SqL K H a (os.map V.int) \/ SqT K H a (os.map V.int)) /\ zf n os /\ 0 <= p /\ p < n /\ ∀ H', Kp [] H H' -> Q (.bl (decide (wkE os p = p))) H'
theorem Xi (a : At K mg "leads" vP) (B : Blt mg) (D_walk_of : Df P w K mg base "walk_of" ["order", "place"] 1 (yI K)) : Df P w K mg base "leads" ["order", "place"] 2 (xQ K) := by
 refine qm (k := 1) a ZK (fun _ _ _ _ _ _ us hl => match us, hl with | [_, _], _ => rfl) (fun vs H Q E h => ?_) (fun f cdv A outer s H vs Q E hr h => ?_)
 ·obtain ⟨a, _, _, _, rfl, _⟩ := h; rfl
 obtain ⟨a, n, os, p, rfl, ha, ho, p0, p1, q⟩ := h
 have sc := ZK
 refine ⟨_, (zg (zm (qS ko (zE Z1 (zq D_walk_of hr rfl (za (pv 0) (za (pv 1) zb))) ze (fun _ _ => rfl)) (pv 1) (zu _)))), ?_⟩
 rw [show start ["order", "place"] [V.ref a, V.int p] = [some (.ref a), some (.int p)] from rfl]
 walk_at "rd"
 refine ⟨a, n, os, p, rfl, ha, ho, p0, p1, fun m e hw t ht => ⟨_, rfl, _, SqT.of zd, _, rfl, rfl, ?_⟩⟩
 rw [<- hw.wkE, show decide (V.int (wkE os p) = V.int p) = decide (wkE os p = p) by simp]
 exact q _ (Kp.new _ ht)
abbrev vV : Stmt := top 13
theorem Zx : zt ["order", "place"] ["order"] (zj vV) := ⟨rfl, rfl, rfl, by decide +kernel, rfl, by decide +kernel, by decide +kernel⟩
noncomputable def wkL (os : List Int) (k : Nat) : List Int := (List.range k).map fun (i : Nat) => ((wkM os (i : Int) : Nat) : Int)
theorem Ys (os : List Int) (k : Nat) : wkL os (k + 1) = wkL os k ++ [((wkM os (k : Int) : Nat) : Int)] := by
 unfold wkL; rw [List.range_succ, List.map_append]; rfl
theorem qU (os : List Int) (k : Nat) : (wkL os k).length = k := by simp [wkL]
def vX (K : PySem.W.Frag) : Sp := fun vs H Q _ => ∃ (a : Addr) (n : Nat) (os : List Int), vs = [.ref a] /\ (SqL K H a (os.map V.int) \/ SqT K H a (os.map V.int)) /\ zf n os /\ n <= 1000 /\ ∀ p H', Kp [] H H' -> H p = none -> H' p = some (il (wkL os n)) -> Q (.ref p) H'
theorem Y2 (a : At K mg "walks" vV) (B : Blt mg) (D_steps_from : Df P w K mg base "steps_from" ["order", "place"] 2 (vI K)) : Df P w K mg base "walks" ["order"] 3 (vX K) := by
 refine qm (k := 2) a Zx (fun _ _ _ _ _ _ us hl => match us, hl with | [_], _ => rfl) (fun vs H Q E h => ?_) (fun f cdv A outer s H vs Q E hr h => ?_)
 ·obtain ⟨a, _, _, rfl, _⟩ := h; rfl
 obtain ⟨a, n, os, rfl, ha, ho, hn, q⟩ := h
 have sc := Zx
 have hsl := hsl
 have ol := ho.1
 refine ⟨_, (zg (zm (qK (ts := [1]) rfl rfl (zQ rfl B.range (za (zo zp rfl B.len qb (za (pv 0) zb)) zb)) (fun _ _ _ _ => (zr (i := 1) sc.nd rfl (by first | exact Or.inl rfl | exact Or.inr rfl))) (fun _ _ _ _ => qE) (fun _ _ _ _ => (zq D_steps_from hr rfl (za (pv 0) (za (pv 1) zb))))))), ?_⟩
 rw [show start ["order", "place"] [V.ref a] = [some (.ref a), none] from rfl]
 walk_at "rd"
 refine ⟨_, ha, ?_⟩
 rw [List.length_map, ol]
 refine ⟨by omega, by omega, fun D hD => ?_⟩
 rw [Int.toNat_natCast]
 refine jv (fun i τ H' => ∃ u, τ = [some (.ref a), u] /\ Kp [D] (upd H D (.lst [])) H' /\ H' D = some (il (wkL os i))) ?_ ?_ ?_
 ·exact ⟨none, rfl, Kp.refl, zd⟩
 ·rintro i τ H' hi ⟨u, rfl, kp, hd⟩
  have k0 := Kp.drop1 hD kp
  walk_at "rd"
  refine ⟨a, n, os, _, rfl, je ha k0, ho, by omega, by omega, fun H2 k2 => ?_⟩
  refine ⟨_, k2 _ _ (by simp) hd, by rw [List.length_map, qU]; omega, (kp.trans (k2.mono (by simp))).trans (Kp.set _ (by simp)), ?_⟩
  rw [Ys, Int.zero_add]
  exact zd.trans (congrArg some (congrArg HO.lst (by rw [List.map_append]; rfl)))
 ·rintro τ H' ⟨u, rfl, kp, hd⟩
  exact q _ _ (Kp.drop1 hD kp) hD hd
abbrev xw : Stmt := top 4
theorem yC : zt ["order", "back", "place", "goal"] ["order"] (zj xw) := ⟨rfl, rfl, rfl, by decide +kernel, rfl, by decide +kernel, by decide +kernel⟩
def yk (K : PySem.W.Frag) : Sp := fun vs H Q _ => ∃ (a : Addr) (n : Nat) (os : List Int), vs = [.ref a] /\ (SqL K H a (os.map V.int) \/ SqT K H a (os.map V.int)) /\ zf n os /\ n <= 1000 /\ ∀ p H' bs, Kp [] H H' -> H p = none -> H' p = some (il bs) -> zJ os bs -> Q (.ref p) H'
theorem Qp (a : At K mg "back_of" xw) (B : Blt mg) : Df P w K mg base "back_of" ["order"] 1 (yk K) := by
 refine qm (k := 0) a yC (fun _ _ _ _ _ _ us hl => match us, hl with | [_], _ => rfl) (fun vs H Q E h => ?_) (fun f cdv A outer s H vs Q E hr h => ?_)
 ·obtain ⟨a, _, _, rfl, _⟩ := h; rfl
 obtain ⟨a, n, os, rfl, ha, ho, hn, q⟩ := h
 have sc := yC
 have hsl := hsl
 have ol := ho.1
 refine ⟨_, (zc (zy (i := 1) sc.nd rfl (by first | exact Or.inl rfl | exact Or.inr rfl) (zl xq (zZ (za ze zb)) (zo zp rfl B.len qb (za (pv 0) zb))))
  (zc (qF PassesOwn.never rfl (vt rfl B.enumerate (za (pv 0) zb)) (jG (K := K) 2 rfl rfl (zV (zr (i := 2) sc.nd rfl (by first | exact Or.inl rfl | exact Or.inr rfl)) (zV (zr (i := 3) sc.nd rfl (by first | exact Or.inl rfl | exact Or.inr rfl)) jH))) (zg (qY (pv 2) (jb (pv 1) (pv 3) zY))))
  (zg (zm (pv 1))))), ?_⟩
 rw [show start ["order", "back", "place", "goal"] [V.ref a] = [some (.ref a), none, none, none] from rfl]
 walk_at "rd"
 refine ⟨by show 1 <= sizeLine; decide, fun p1 hp1 => ?_⟩
 have ha1 := je ha (Kp.new (.lst [.int 0]) hp1)
 refine ⟨_, ha1, _, zd, ?_⟩
 rw [List.length_map, ol, Int.toNat_natCast, wK]
 refine ⟨by omega, by omega, by show 1 * n <= sizeLine; omega, fun p2 hp2 => ?_⟩
 have hn2 : H p2 = none := by walk_at "fr"
 refine Ql (xs := os.map V.int) ha (fun i τ H' => ∃ u v bs, τ = [some (.ref a), some (.ref p2), u, v] /\ Kp [p2] (upd (upd H p1 (.lst [.int 0])) p2 (.lst (List.replicate n (.int 0)))) H' /\ H' p2 = some (il bs) /\ bs.length = n /\ ∀ j, j < i -> bs.getD (os.getD j 0).toNat 0 = (j : Int)) ?_ ?_ ?_ ?_
 ·exact ⟨none, none, List.replicate n 0, rfl, Kp.refl, zd.trans (by simp), by simp, fun j hj => nomatch hj⟩
 ·rintro i τ H' ⟨u, v, bs, rfl, kp, _⟩
  exact (Kp.new _ hp1).trans (Kp.drop1 hp2 kp)
 ·rintro i x pp τ H' hx hpp ⟨u, v, bs, rfl, kp, hbs, hl, hj⟩
  obtain ⟨rfl, hi⟩ := qd hx
  have gb := ho.getD (i := i) (by omega)
  obtain ⟨g1, g2⟩ := zw (cs := bs) (k := os.getD i 0) gb.1 (by omega)
  have hb' : upd H' pp (HO.tup [V.int i, V.int (os.getD i 0)]) p2 = some (il bs) := by walk_at "hp"
  walk_at "rd"
  walk_at "xs"
  refine ⟨(kp.trans (Kp.new _ hpp)).trans (Kp.set _ (by simp)), _, zd.trans (congrArg some (congrArg HO.lst (kh _ _ _))), by rw [List.length_set]; exact hl, fun j hj' => ?_⟩
  rw [jq (by omega)]
  by_cases e : j = i
  ·subst e; rw [if_pos rfl]
  ·rw [if_neg, hj j (by omega)]
   intro z
   have gj := ho.getD (i := j) (by omega)
   exact e (ho.inj (by omega) (by omega) (by omega))
 ·rintro τ H' ⟨u, v, bs, rfl, kp, hbs, hl, hj⟩
  walk_at "rd"
  rw [List.length_map] at hj
  exact q _ _ bs ((Kp.new _ hp1).trans (Kp.drop1 hp2 kp)) hn2 hbs ⟨by omega, hj⟩
abbrev K9 : Stmt := top 15
theorem Xj : zt ["order", "back", "place", "ahead", "behind", "steps"] ["order", "back", "place"] (zj K9) := ⟨rfl, rfl, rfl, by decide +kernel, rfl, by decide +kernel, by decide +kernel⟩
def JA (K : PySem.W.Frag) : Sp := fun vs H Q _ => ∃ (a b : Addr) (n : Nat) (os bs : List Int) (p : Int), vs = [.ref a, .ref b, .int p] /\ (SqL K H a (os.map V.int) \/ SqT K H a (os.map V.int)) /\ SqL K H b (bs.map V.int) /\ zf n os /\ zf n bs /\ 0 <= p /\ p < n /\ Q (.int (bth os bs p)) H
theorem Wv : ∀ σ H Q Q', (∀ b H1, Q b H1 -> Q' b H1) -> tB (tC (V.bl true)) σ H Q -> tB (tC (V.bl true)) σ H Q' := by
 rintro σ H Q Q' hq ⟨d, e, h⟩
 exact ⟨d, e, hq _ _ h⟩
theorem Bc (a : At K mg "steps_by_turns" K9) (B : Blt mg) : Df P w K mg base "steps_by_turns" ["order", "back", "place"] 1 (JA K) := by
  refine qm (k := 0) a Xj (fun _ _ _ _ _ _ us hl => match us, hl with | [_, _, _], _ => rfl) (fun vs H Q E h => ?_) (fun f cdv A outer s H vs Q E hr h => ?_)
  · obtain ⟨a, b, _, _, _, _, rfl, _⟩ := h; rfl
  obtain ⟨a, b, n, os, bs, p, rfl, ha, hb, ho, hbo, p0, p1, q⟩ := h
  have sc := Xj
  have hsl := hsl
  have ol := ho.1
  have bl := hbo.1
  obtain ⟨M, hM1, _, hM⟩ := Xn bs ho p0 p1
  refine ⟨_, (zc (zy (i := 3) sc.nd rfl (by first | exact Or.inl rfl | exact Or.inr rfl) (pv 2))
    (zc (zy (i := 4) sc.nd rfl (by first | exact Or.inl rfl | exact Or.inr rfl) (pv 2))
    (zc (zy (i := 5) sc.nd rfl (by first | exact Or.inl rfl | exact Or.inr rfl) ze)
    (zg (xV PassesOwn.never (qh qp (fun _ => rfl)) (zc (zy (i := 3) sc.nd rfl (by first | exact Or.inl rfl | exact Or.inr rfl) (zE ql (pv 0) (pv 3) (fun _ _ => rfl)))
    (zc (Z5 (i := 5) sc.nd rfl (by first | exact Or.inl rfl | exact Or.inr rfl) ze Qa)
    (zc (zS (zx Xq (pv 3) (pv 2) (zu _)) (zg (zm (pv 5))) zD)
    (zc (zy (i := 4) sc.nd rfl (by first | exact Or.inl rfl | exact Or.inr rfl) (zE zN (pv 1) (pv 4) (fun _ _ => rfl)))
    (zc (Z5 (i := 5) sc.nd rfl (by first | exact Or.inl rfl | exact Or.inr rfl) ze Qa)
    (zg (zS (zx Xq (pv 4) (pv 2) (zu _)) (zg (zm (pv 5))) zD)))))))))))), ?_⟩
  rw [show start ["order", "back", "place", "ahead", "behind", "steps"] [V.ref a, V.ref b, V.int p] = [some (.ref a), some (.ref b), some (.int p), none, none, none] from rfl]
  walk_at "rd"
  refine yi (fun τ H' => H' = H /\ ∃ (j : Nat), τ = [some (.ref a), some (.ref b), some (.int p), some (.int (itn os j p)), some (.int (itn bs j p)), some (.int (2 * j : Nat))] /\ j <= M /\ ∀ i, 1 <= i -> i <= 2 * j -> p < kn os bs p i)
    (fun τ _ => match τ with | [_, _, _, _, _, some (.int l)] => 2 * M + 2 - l.toNat | _ => 0) ?_ ?_ Wv
  · exact ⟨rfl, 0, rfl, Nat.zero_le _, fun i h1 h2 => by omega⟩
  · rintro τ H' ⟨rfl, j, rfl, jM, hj⟩
    have b1 := zW ho p0 p1 j
    have b2 := zW hbo p0 p1 j
    obtain ⟨g1, g2⟩ := zw (cs := os) (k := itn os j p) b1.1 (by omega)
    obtain ⟨g3, g4⟩ := zw (cs := bs) (k := itn bs j p) b2.1 (by omega)
    walk_at "rd"
    have e1 : os.getD (itn os j p).toNat 0 = kn os bs p (2 * j + 1) := (yv os bs p j).symm
    have e2 : bs.getD (itn bs j p).toNat 0 = kn os bs p (2 * (j + 1)) := (vv os bs p (j + 1)).symm
    refine ⟨_, ha, _, g2, _, rfl, jl (fun c => ?_) (fun c => ?_)⟩
    · have hw : jo os bs p (2 * j + 1) := ⟨by omega, by rw [<- e1]; exact c, fun i h1 h2 => hj i h1 (by omega)⟩
      rw [hw.bth] at q
      exact q
    refine ⟨_, hb, _, g4, _, rfl, jl (fun c2 => ?_) (fun c2 => ?_)⟩
    · have hw : jo os bs p (2 * (j + 1)) := ⟨by omega, by rw [<- e2]; exact c2, fun i h1 h2 => by
        by_cases z : i = 2 * j + 1
        · subst z; rw [<- e1]; omega
        · exact hj i h1 (by omega)⟩
      rw [hw.bth] at q
      have ec : ((2 * (j + 1) : Nat) : Int) = ((2 * j : Nat) : Int) + 1 + 1 := by omega
      rw [ec] at q
      exact q
    · have hj2 : ∀ i, 1 <= i -> i <= 2 * (j + 1) -> p < kn os bs p i := by
        intro i h1 h2
        by_cases z : i = 2 * j + 1
        · subst z; rw [<- e1]; omega
        · by_cases z2 : i = 2 * (j + 1)
          · subst z2; rw [<- e2]; omega
          · exact hj i h1 (by omega)
      have jM' : j + 1 <= M := by
        rcases Nat.lt_or_ge j M with z | z
        · exact z
        · have := hj2 (2 * M - 1) (by omega) (by omega)
          omega
      refine ⟨⟨j + 1, rfl, rfl, by omega, jM', hj2⟩, ?_⟩
      show 2 * M + 2 - (((2 * j : Nat) : Int) + 1 + 1).toNat < 2 * M + 2 - ((2 * j : Nat) : Int).toNat
      omega
abbrev jE : Stmt := top 16
theorem kr : zt ["order", "back", "place"] ["order"] (zj jE) := ⟨rfl, rfl, rfl, by decide +kernel, rfl, by decide +kernel, by decide +kernel⟩
def Zo (K : PySem.W.Frag) : Sp := fun vs H Q _ => ∃ (a : Addr) (n : Nat) (os bs : List Int), vs = [.ref a] /\ (SqL K H a (os.map V.int) \/ SqT K H a (os.map V.int)) /\ zf n os /\ zJ os bs /\ n <= 1000 /\ ∀ p H', Kp [] H H' -> H p = none -> H' p = some (il (btL os bs n)) -> Q (.ref p) H'
theorem yQ (a : At K mg "walks_both" jE) (B : Blt mg) (D_back_of : Df P w K mg base "back_of" ["order"] 1 (yk K)) (D_steps_by_turns : Df P w K mg base "steps_by_turns" ["order", "back", "place"] 1 (JA K)) : Df P w K mg base "walks_both" ["order"] 2 (Zo K) := by
 refine qm (k := 1) a kr (fun _ _ _ _ _ _ us hl => match us, hl with | [_], _ => rfl) (fun vs H Q E h => ?_) (fun f cdv A outer s H vs Q E hr h => ?_)
 ·obtain ⟨a, _, _, _, rfl, _⟩ := h; rfl
 obtain ⟨a, n, os, bs, rfl, ha, ho, hbk, hn, q⟩ := h
 have sc := kr
 have hsl := hsl
 have ol := ho.1
 refine ⟨_, (zc (zy (i := 1) sc.nd rfl (by first | exact Or.inl rfl | exact Or.inr rfl) (zq D_back_of hr rfl (za (pv 0) zb)))
  (zg (zm (qK (ts := [2]) rfl rfl (zQ rfl B.range (za (zo zp rfl B.len qb (za (pv 0) zb)) zb)) (fun _ _ _ _ => (zr (i := 2) sc.nd rfl (by first | exact Or.inl rfl | exact Or.inr rfl))) (fun _ _ _ _ => qE) (fun _ _ _ _ => (zq D_steps_by_turns hr rfl (za (pv 0) (za (pv 1) (za (pv 2) zb))))))))), ?_⟩
 rw [show start ["order", "back", "place"] [V.ref a] = [some (.ref a), none, none] from rfl]
 walk_at "rd"
 refine ⟨a, n, os, rfl, ha, ho, hn, fun p2 H2 cs k2 hp2 h2 hc => ?_⟩
 obtain rfl := zJ.same ho hbk hc
 have ha2 := je ha k2
 refine ⟨_, ha2, ?_⟩
 rw [List.length_map, ol]
 refine ⟨by omega, by omega, fun D hD => ?_⟩
 rw [Int.toNat_natCast]
 refine jv (fun i τ H' => ∃ u, τ = [some (.ref a), some (.ref p2), u] /\ Kp [D] (upd H2 D (.lst [])) H' /\ H' D = some (il (btL os cs i))) ?_ ?_ ?_
 ·exact ⟨none, rfl, Kp.refl, zd⟩
 ·rintro i τ H' hi ⟨u, rfl, kp, hd⟩
  have k0 := Kp.drop1 hD kp
  walk_at "rd"
  refine ⟨a, p2, n, os, cs, _, rfl, je ha2 k0, SqL.of (k0 _ _ (by simp) h2), ho, hc.ord ho, by omega, by omega, ?_⟩
  refine ⟨_, hd, by rw [List.length_map, xT]; omega, kp.trans (Kp.set _ (by simp)), ?_⟩
  rw [YQ, Int.zero_add]
  exact zd.trans (congrArg some (congrArg HO.lst (by rw [List.map_append]; rfl)))
 ·rintro τ H' ⟨u, rfl, kp, hd⟩
  exact q _ _ (k2.trans (Kp.drop1 hD kp)) (k2.free hD) hd
abbrev jV : Stmt := top 17
theorem kM : zt ["order", "first", "marked", "place"] ["order", "first", "marked"] (zj jV) := ⟨rfl, rfl, rfl, by decide +kernel, rfl, by decide +kernel, by decide +kernel⟩
def yt (K : PySem.W.Frag) : Sp := fun vs H Q _ => ∃ (a b : Addr) (n : Nat) (os : List Int) (p : Int) (bs : List Bool), vs = [.ref a, .int p, .ref b] /\ (∀ G, Kp [b] H G -> SqL K G a (os.map V.int) \/ SqT K G a (os.map V.int)) /\ zf n os /\ n <= 1000 /\ 0 <= p /\ p < n /\ H b = some (.lst (bs.map V.bl)) /\
 ∀ H' (bs' : List Bool), Kp [b] H H' -> H' b = some (.lst (bs'.map V.bl)) -> bs'.length = bs.length -> (∀ x : Nat, x < bs.length -> (bs'.getD x false = true ↔ bs.getD x false = true \/ Rch os p (x : Int))) -> Q .non H'
theorem vC (a : At K mg "set_marks" jV) (B : Blt mg) (D_ring_from : Df P w K mg base "ring_from" ["order", "first"] 1 (kC K)) : Df P w K mg base "set_marks" ["order", "first", "marked"] 2 (yt K) := by
 refine qm (k := 1) a kM (fun _ _ _ _ _ _ us hl => match us, hl with | [_, _, _], _ => rfl) (fun vs H Q E h => ?_) (fun f cdv A outer s H vs Q E hr h => ?_)
 ·obtain ⟨a, _, _, _, _, _, rfl, _⟩ := h; rfl
 obtain ⟨a, b, n, os, p, bs, rfl, ha, ho, hn, p0, p1, hb, q⟩ := h
 have sc := kM
 have hsl := hsl
 obtain ⟨M, hM, hMn⟩ := jY ho p0 p1
 refine ⟨_, (zg (qF PassesOwn.never rfl (Q4 (zq D_ring_from hr rfl (za (pv 0) (za (pv 1) zb)))) (zr (i := 3) sc.nd rfl (by first | exact Or.inl rfl | exact Or.inr rfl)) (zg (zS (zx vo (pv 3) (zo zp rfl B.len qb (za (pv 2) zb)) (zu _)) (zg (qY qp (jb (pv 2) (pv 3) zY))) zD)))), ?_⟩
 rw [show start ["order", "first", "marked", "place"] [V.ref a, V.int p, V.ref b] = [some (.ref a), some (.int p), some (.ref b), none] from rfl]
 walk_at "rd"
 refine ⟨a, n, os, p, rfl, ha _ Kp.refl, ho, hn, p0, p1, fun t H1 k1 ht h1 => ?_⟩
 have hb1 := k1 _ _ (by simp) hb
 have ntb : t ≠ b := Ne.symm (zh hb ht)
 refine ⟨t, rfl, ⟨_, SqL.of h1⟩, ?_⟩
 refine Jm (xs := (zn os p).map V.int) (fun j τ G => ∃ (u : Option V) (bs' : List Bool), τ = [some (.ref a), some (.int p), some (.ref b), u] /\ Kp [b] H1 G /\ G b = some (.lst (bs'.map V.bl)) /\ bs'.length = bs.length /\ ∀ x : Nat, x < bs.length -> (bs'.getD x false = true ↔ bs.getD x false = true \/ (x : Int) ∈ (zn os p).take j)) ?_ ?_ ?_ ?_
 ·exact ⟨none, bs, rfl, Kp.refl, hb1, rfl, fun x hx => by simp⟩
 ·rintro j τ G _ ⟨_, bs', rfl, kp, _⟩
  exact SqL.of (kp _ _ (by simpa using ntb) h1)
 ·rintro j x τ G hx ⟨u, bs', rfl, kp, gb, lb, hs⟩
  obtain ⟨rfl, hj⟩ := qd hx
  have hm : (zn os p).getD j 0 ∈ zn os p := by rw [zB hj]; exact List.getElem_mem hj
  have hbd : 0 <= (zn os p).getD j 0 /\ (zn os p).getD j 0 < (n : Int) := by
   obtain ⟨k, _, e⟩ := qT.mp hm
   rw [<- e]
   exact zW ho p0 p1 k
  have htk : (zn os p).take (j + 1) = (zn os p).take j ++ [(zn os p).getD j 0] := by
   rw [zB hj]; exact (List.take_append_getElem hj).symm
  generalize (zn os p).getD j 0 = v at *
  obtain ⟨vn, rfl⟩ : ∃ vn : Nat, v = vn := ⟨v.toNat, by omega⟩
  walk_at "rd"
  refine ⟨_, .inl (SqL.of gb), ?_⟩
  rw [List.length_map]
  refine jl (fun c => ?_) (fun c => ?_)
  ·obtain ⟨g1, g2⟩ := jI (ss := bs') (i := vn) (by omega)
   refine ⟨_, gb, vn, g1, kp.trans (Kp.set _ (by simp)), bs'.set vn true, zd.trans (congrArg some (congrArg HO.lst (by rw [List.map_set]))), by rw [List.length_set]; exact lb, fun x hx => ?_⟩
   rw [xn (by omega), htk, List.mem_append, List.mem_singleton]
   by_cases e : x = vn
   ·subst e; rw [if_pos rfl]; simp
   ·have e' : ¬ ((x : Int) = (vn : Int)) := by omega
    rw [if_neg e, hs x hx]
    simp [e']
  ·refine ⟨kp, bs', gb, lb, fun x hx => ?_⟩
   have e' : ¬ ((x : Int) = (vn : Int)) := by omega
   rw [htk, List.mem_append, List.mem_singleton, hs x hx]
   simp [e']
 ·rintro τ G ⟨u, bs', rfl, kp, gb, lb, hs⟩
  rw [List.length_map, List.take_length] at hs
  walk_at "rd"
  refine q _ bs' ((k1.mono (by simp)).trans kp) gb lb fun x hx => ?_
  rw [hs x hx, Rch.mem_ring hM]
  unfold zn
  rw [hM.per]
abbrev BC : Stmt := top 18
theorem WZ : zt ["order", "marks", "marked", "counts", "place"] ["order", "marks"] (zj BC) := ⟨rfl, rfl, rfl, by decide +kernel, rfl, by decide +kernel, by decide +kernel⟩
def wN (K : PySem.W.Frag) : Sp := fun vs H Q _ => ∃ (a : Addr) (n mk : Nat) (os : List Int), vs = [.ref a, .int mk] /\ (SqL K H a (os.map V.int) \/ SqT K H a (os.map V.int)) /\ zf n os /\ n <= 1000 /\ mk <= n /\ ∀ p H', Kp [] H H' -> H p = none -> H' p = some (il (qy os mk n)) -> Q (.ref p) H'
theorem Dy (a : At K mg "walks_marked" BC) (B : Blt mg) (D_steps_from : Df P w K mg base "steps_from" ["order", "place"] 2 (vI K)) (D_leads : Df P w K mg base "leads" ["order", "place"] 2 (xQ K)) (D_set_marks : Df P w K mg base "set_marks" ["order", "first", "marked"] 2 (yt K)) : Df P w K mg base "walks_marked" ["order", "marks"] 3 (wN K) := by
 refine qm (k := 2) a WZ (fun _ _ _ _ _ _ us hl => match us, hl with | [_, _], _ => rfl) (fun vs H Q E h => ?_) (fun f cdv A outer s H vs Q E hr h => ?_)
 ·obtain ⟨a, _, _, _, rfl, _⟩ := h; rfl
 obtain ⟨a, n, mk, os, rfl, ha, ho, hn, hmk, q⟩ := h
 have sc := WZ
 have hsl := hsl
 have ol := ho.1
 refine ⟨_, (zc (zy (i := 2) sc.nd rfl (by first | exact Or.inl rfl | exact Or.inr rfl) (zl xq (zZ (za qp zb)) (pv 1)))
  (zc (zy (i := 3) sc.nd rfl (by first | exact Or.inl rfl | exact Or.inr rfl) (zZ zb))
  (zc (qF PassesOwn.never rfl (zQ rfl B.range (za (zo zp rfl B.len qb (za (pv 0) zb)) zb)) (zr (i := 4) sc.nd rfl (by first | exact Or.inl rfl | exact Or.inr rfl)) (zg (zS (PW.pt (YK (zx vo (pv 4) (pv 1) (zu _)) (Js (qh (zE zN (pv 2) (pv 4) (fun _ _ => rfl)) (fun _ => rfl))))) (zg (kd (Zk PySem.F.plainAttrs_list PySem.F.slot_list_append PySem.F.type_list_append ki (pv 3) (za ze zb)))) (zc (kd (Zk PySem.F.plainAttrs_list PySem.F.slot_list_append PySem.F.type_list_append ki (pv 3) (za (zq D_steps_from hr rfl (za (pv 0) (za (pv 4) zb))) zb)))
  (zg (zS (qh (zq D_leads hr rfl (za (pv 0) (za (pv 4) zb))) (fun _ => rfl)) (zg (kd (zq D_set_marks hr rfl (za (pv 0) (za (pv 4) (za (pv 2) zb)))))) zD))))))
  (zg (zm (pv 3)))))), ?_⟩
 rw [show start ["order", "marks", "marked", "counts", "place"] [V.ref a, V.int mk] = [some (.ref a), some (.int mk), none, none, none] from rfl]
 walk_at "rd"
 refine ⟨by show 1 <= sizeLine; decide, fun pz hpz => ⟨_, zd, ?_⟩⟩
 rw [Int.toNat_natCast, wK]
 refine ⟨by omega, by omega, by show 1 * mk <= sizeLine; omega, fun ps hps => ⟨Nat.zero_le _, fun pf hpf => ?_⟩⟩
 have kH := ((Kp.new (bs := []) (HO.lst [V.bl false]) hpz).trans (Kp.new (HO.lst (List.replicate mk (V.bl false))) hps)).trans (Kp.new (HO.lst []) hpf)
 have nps : H ps = none := (Kp.new (bs := []) _ hpz).free hps
 have npf : H pf = none := ((Kp.new (bs := []) _ hpz).trans (Kp.new _ hps)).free hpf
 have hps0 := (Kp.new (bs := []) (HO.lst []) hpf) ps _ (by simp) (zd (H := upd H pz (HO.lst [V.bl false])) (o := HO.lst (List.replicate mk (V.bl false))))
 have hpf0 := zd (H := upd (upd H pz (HO.lst [V.bl false])) ps (HO.lst (List.replicate mk (V.bl false)))) (a := pf) (o := HO.lst [])
 have nsf : ps ≠ pf := zh zd hpf
 generalize upd (upd (upd H pz (HO.lst [V.bl false])) ps (HO.lst (List.replicate mk (V.bl false)))) pf (HO.lst []) = H0 at *
 refine ⟨_, je ha kH, ?_⟩
 rw [List.length_map, ol]
 refine ⟨by omega, by omega, ?_⟩
 rw [Int.toNat_natCast]
 refine j6 (fun i τ G => ∃ (x4 : Option V) (ss : List Bool), τ = [some (.ref a), some (.int mk), some (.ref ps), some (.ref pf), x4] /\ Kp [ps, pf] H0 G /\ G ps = some (.lst (ss.map V.bl)) /\ ss.length = mk /\ (∀ x : Nat, x < mk -> (ss.getD x false = true ↔ Mkd os mk i (x : Int))) /\ G pf = some (il (qy os mk i))) ?_ ?_ ?_
 ·refine ⟨none, List.replicate mk false, rfl, Kp.refl, by rw [List.map_replicate]; exact hps0, by simp, fun x hx => ?_, hpf0⟩
  constructor
  ·intro z
   rw [List.getD_eq_getElem?_getD, List.getElem?_replicate, if_pos hx] at z
   cases z
  ·intro z; exact z.elim
 ·rintro i τ G hi ⟨x4, ss, rfl, kG, gs, ls, hs, gf⟩
  have kHG : Kp [] H G := Kp.un (Kp.un ((kH.mono (by simp)).trans kG) nps) npf
  rw [Int.zero_add]
  walk_at "rd"
  refine (fun (main : ¬ Mkd os mk i (i : Int) -> ?AA) => ?kk) ?mm
  case kk =>
   by_cases c : i < mk
   ·rw [if_pos (by omega)]
    obtain ⟨s1, s2⟩ := jI (ss := ss) (i := i) (by omega)
    refine ⟨_, SqL.of gs, _, s2, _, rfl, jl (fun c1 => ?_) (fun c1 => ?_)⟩
    ·have hMi : Mkd os mk i (i : Int) := (hs i c).mp c1
     refine ⟨.inl ⟨rfl, _, SqL.of gf⟩, _, gf, by rw [List.length_map, qX]; omega, kG.trans (Kp.set _ (by simp)), ss, (zk nsf).trans gs, ls, fun x hx => ?_, ?_⟩
     ·rw [hs x hx]
      exact ⟨.inl, fun z => z.elim id fun y => absurd hMi y.1⟩
     ·rw [jw, show cnt os mk i = 0 from if_pos hMi]
      exact zd.trans (congrArg some (congrArg HO.lst (by rw [List.map_append]; rfl)))
    ·exact main fun z => c1 ((hs i c).mpr z)
   ·rw [if_neg (by omega)]
    exact main fun z => by have := Mkd.lt z; omega
  case mm =>
   intro hMi
   refine ⟨.inl ⟨rfl, _, SqL.of gf⟩, a, n, os, i, rfl, je ha kHG, ho, by omega, by omega, fun G1 k1 => ?_⟩
   have gf1 := k1 _ _ (by simp) gf
   have gs1 := k1 _ _ (by simp) gs
   have kX := Kp.un (((kHG.trans k1).mono (bs' := [pf]) (by simp)).trans (Kp.set (HO.lst (List.map V.int (qy os mk i) ++ [V.int (wkM os (i : Int) : Nat)])) (by simp : pf ∈ [pf]))) npf
   have ec : cnt os mk i = ((wkM os (i : Int) : Nat) : Int) := if_neg hMi
   refine ⟨_, gf1, by rw [List.length_map, qX]; omega, a, n, os, i, rfl, je ha kX, ho, by omega, by omega, fun G2 k2 => ⟨_, rfl, ?_⟩⟩
   have gs2 := k2 _ _ (by simp) ((zk nsf).trans gs1)
   have gf2 : G2 pf = some (il (qy os mk (i + 1))) := by
    rw [jw, ec]
    exact (k2 _ _ (by simp) zd).trans (congrArg some (congrArg HO.lst (by rw [List.map_append]; rfl)))
   have K2 : Kp [ps, pf] H0 G2 := ((kG.trans (k1.mono (by simp))).trans (Kp.set _ (by simp : pf ∈ [ps, pf]))).trans (k2.mono (by simp))
   have kHG2 := kX.trans k2
   refine jl (fun c2 => ?_) (fun c2 => ?_)
   ·have hwk : wkE os (i : Int) = (i : Int) := by simpa using c2
    refine ⟨a, ps, n, os, i, ss, rfl, fun G' kg => je ha (Kp.un ((kHG2.mono (by simp)).trans kg) nps), ho, hn, by omega, by omega, gs2, fun G3 ss' k3 gs3 ls3 hs3 => ⟨K2.trans (k3.mono (by simp)), ss', gs3, by omega, fun x hx => ?_, k3 _ _ (by simpa using Ne.symm nsf) gf2⟩⟩
    rw [hs3 x (by omega), hs x hx]
    constructor
    ·rintro (z | z)
     ·exact .inl z
     ·exact .inr ⟨hMi, hwk, z, by omega⟩
    ·rintro (z | z)
     ·exact .inl z
     ·exact .inr z.2.2.1
   ·have hwk : ¬ wkE os (i : Int) = (i : Int) := by simpa using c2
    exact ⟨K2, ss, gs2, ls, fun x hx => (hs x hx).trans ⟨.inl, fun z => z.elim id fun y => absurd y.2.1 hwk⟩, gf2⟩
 ·rintro τ G ⟨x4, ss, rfl, kG, gs, ls, hs, gf⟩
  have kHG : Kp [] H G := Kp.un (Kp.un ((kH.mono (by simp)).trans kG) nps) npf
  walk_at "rd"
  exact q _ _ kHG npf gf
open Classical in
noncomputable def QO (os : List Int) : Nat -> List (List Int)
 | 0 => []
 | i + 1 => QO os i ++ if qx os i then [zn os (i : Int)] else []
theorem Xm (os : List Int) : ∀ i, (QO os i).length <= i
 | 0 => Nat.le_refl _
 | i + 1 => by
  have := Xm os i
  show (QO os i ++ _).length <= _
  rw [List.length_append]
  split
  ·show _ + 1 <= _; omega
  ·show _ + 0 <= _; omega
theorem qw {n : Nat} {os : List Int} (h : zf n os) {i : Nat} (hi : i < n) : wkE os (i : Int) = (i : Int) ↔ qx os i := by
 obtain ⟨m, e, hw, hm⟩ := xN h (p := (i : Int)) (by omega) (by omega)
 rw [hw.wkE]
 constructor
 ·intro he q hq r
  have hp := hw.per he
  have r2 := r.symm h (by omega) (by omega)
  obtain ⟨j, hj, ej⟩ := qT.mp ((Rch.mem_ring hp).mp r2)
  rcases Nat.eq_zero_or_pos j with z | z
  ·subst z
   have : (i : Int) = (q : Int) := ej
   omega
  ·have := hw.2.2.2 j z hj
   omega
 ·intro hL
  have b := zW h (p := (i : Int)) (by omega) (by omega) m
  rw [<- hw.2.1] at b
  have le := hw.2.2.1
  rcases (show e < (i : Int) \/ e = (i : Int) by omega) with z | z
  ·exfalso
   have r : Rch os (i : Int) e := ⟨m, hw.2.1.symm⟩
   have r2 := r.symm h (by omega) (by omega)
   obtain ⟨q, hq⟩ : ∃ q : Nat, e = q := ⟨e.toNat, by omega⟩
   rw [hq] at r2 z
   exact hL q (by omega) r2
  ·exact z
open Classical in
noncomputable def ldL (os : List Int) : Nat -> List Int
 | 0 => []
 | i + 1 => ldL os i ++ if ¬ (i : Int) = os.getD i 0 /\ wkE os (i : Int) = (i : Int) then [(i : Int)] else []
theorem Jf (os : List Int) : ∀ i, (ldL os i).length <= i
 | 0 => Nat.le_refl _
 | i + 1 => by
  have := Jf os i
  show (ldL os i ++ _).length <= _
  rw [List.length_append]
  split
  ·show _ + 1 <= _; omega
  ·show _ + 0 <= _; omega
def hds (rs : List (List Int)) : List Int := (rs.filter fun r => decide (1 < r.length)).map fun r => r.getD 0 0
theorem V8 (a b : List (List Int)) : hds (a ++ b) = hds a ++ hds b := by unfold hds; rw [List.filter_append, List.map_append]
theorem Jd {n : Nat} {os : List Int} (h : zf n os) : ∀ k, k <= n -> hds (QO os k) = ldL os k
 | 0, _ => rfl
 | k + 1, hk => by
  show hds (QO os k ++ _) = ldL os k ++ _
  rw [V8, Jd h k (by omega)]
  congr 1
  obtain ⟨M, hM, hMn⟩ := jY h (p := (k : Int)) (by omega) (by omega)
  by_cases hL : qx os k
  ·rw [if_pos hL]
   have hlen : (zn os (k : Int)).length = M := by unfold zn; rw [qk, hM.per]
   have hfix : 1 < M ↔ ¬ (k : Int) = os.getD k 0 := by
    have e1 : itn os 1 (k : Int) = os.getD k 0 := by
     show os.getD (itn os 0 (k : Int)).toNat 0 = _
     show os.getD ((k : Int)).toNat 0 = _
     rw [Int.toNat_natCast]
    constructor
    ·intro z e
     exact hM.2.2 1 (Nat.le_refl _) z (by rw [e1, <- e])
    ·intro z
     rcases Nat.lt_or_ge 1 M with y | y
     ·exact y
     ·have : M = 1 := by have := hM.1; omega
      rw [this] at hM
      exact absurd (by rw [<- e1, hM.2.1]) z
   by_cases hf : ¬ (k : Int) = os.getD k 0
   ·rw [if_pos ⟨hf, (qw h (by omega)).mpr hL⟩]
    unfold hds
    rw [List.filter_cons_of_pos (by rw [hlen]; exact decide_eq_true (hfix.mpr hf))]
    show [(zn os (k : Int)).getD 0 0] = _
    have h0 : 0 < (zn os (k : Int)).length := by rw [hlen]; exact hM.1
    have : (zn os (k : Int)).getD 0 0 = (k : Int) := by
     unfold zn itl
     rw [hM.per, List.getD_eq_getElem?_getD, List.getElem?_map, List.getElem?_range hM.1]
     rfl
    rw [this]
   ·rw [if_neg (fun z => hf z.1)]
    unfold hds
    rw [List.filter_cons_of_neg (by rw [hlen]; simp; have := fun z => hf (hfix.mp z); omega)]
    rfl
  ·rw [if_neg hL, if_neg (fun z => hL ((qw h (by omega)).mp z.2))]
   rfl
theorem Bv {n : Nat} {os : List Int} (h : zf n os) (hn : n <= 1000) : ∀ x ∈ wkL os n, 0 <= x /\ x <= (1000000 : Int) := by
 intro x hx
 unfold wkL at hx
 obtain ⟨i, hi, e⟩ := List.mem_map.mp hx
 have hi' : i < n := by simpa using hi
 obtain ⟨m, e2, hw, hm⟩ := xN h (p := (i : Int)) (by omega) (by omega)
 have := hw.wkM
 have e : ((wkM os (i : Int) : Nat) : Int) = x := e
 omega
abbrev yb : Stmt := top 14
theorem vh : zt ["order", "found", "place", "goal"] ["order"] (zj yb) := ⟨rfl, rfl, rfl, by decide +kernel, rfl, by decide +kernel, by decide +kernel⟩
def Zh (K : PySem.W.Frag) : Sp := fun vs H Q _ => ∃ (a : Addr) (n : Nat) (os : List Int), vs = [.ref a] /\ (SqL K H a (os.map V.int) \/ SqT K H a (os.map V.int)) /\ zf n os /\ n <= 1000 /\ ∀ (p t : Addr) (H' : Hp), Kp [] H H' -> H p = none -> H t = none -> H' p = some (il (ldL os n)) -> H' t = some (.tup [.ref p, .int (wkL os n).sum]) -> Q (.ref t) H'
theorem Ki (a : At K mg "leaders_found" yb) (B : Blt mg) (Bsum : mg "sum" = none) (D_leads : Df P w K mg base "leads" ["order", "place"] 3 (xQ K)) (D_walks : Df P w K mg base "walks" ["order"] 3 (vX K)) : Df P w K mg base "leaders_found" ["order"] 4 (Zh K) := by
 refine qm (k := 3) a vh (fun _ _ _ _ _ _ us hl => match us, hl with | [_], _ => rfl) (fun vs H Q E h => ?_) (fun f cdv A outer s H vs Q E hr h => ?_)
 ·obtain ⟨a, _, _, rfl, _⟩ := h; rfl
 obtain ⟨a, n, os, rfl, ha, ho, hn, q⟩ := h
 have sc := vh
 have hsl := hsl
 have ol := ho.1
 refine ⟨_, (zc (xP (j := 1) rfl sc.nd rfl (by first | exact Or.inl rfl | exact Or.inr rfl) (ts := [2, 3]) rfl (vt rfl B.enumerate (za (pv 0) zb)) (fun _ _ _ _ => (jG (K := K) 2 rfl rfl (zV (zr (i := 2) sc.nd rfl (by first | exact Or.inl rfl | exact Or.inr rfl)) (zV (zr (i := 3) sc.nd rfl (by first | exact Or.inl rfl | exact Or.inr rfl)) jH)))) (fun _ _ _ _ => wf (PW.pt (YK (zx WH (pv 2) (pv 3) (zu _)) (Js (qh (zq D_leads hr rfl (za (pv 0) (za (pv 2) zb))) (fun _ => rfl)))))) (fun _ _ _ _ => (pv 2)))
  (zg (zm (xt (za (pv 1) (za (zo (xl rfl) rfl Bsum QP (za (zq D_walks hr rfl (za (pv 0) zb)) zb)) zb)))))), ?_⟩
 rw [show start ["order", "found", "place", "goal"] [V.ref a] = [some (.ref a), none, none, none] from rfl]
 walk_at "rd"
 refine Wh ha fun D hD => ⟨fun i τ G => ∃ u v, τ = [some (.ref a), none, u, v] /\ Kp [D] (upd H D (.lst [])) G /\ G D = some (il (ldL os i)), ?_, ?_, ?_, ?_⟩
 ·exact ⟨none, none, rfl, Kp.refl, zd⟩
 ·rintro i τ G ⟨u, v, rfl, kp, hd⟩
  exact Kp.drop1 hD kp
 ·rintro i x pp τ G hx hpp ⟨u, v, rfl, kp, hd⟩
  obtain ⟨rfl, hi⟩ := qd hx
  have hle := Jf os i
  have k0 := (Kp.drop1 hD kp).trans (Kp.new (bs := []) (HO.tup [V.int i, V.int (os.getD i 0)]) hpp)
  have hd1 := (Kp.new (bs := []) (HO.tup [V.int i, V.int (os.getD i 0)]) hpp) _ _ (by simp) hd
  have kp1 := kp.trans ((Kp.new (bs := []) (HO.tup [V.int i, V.int (os.getD i 0)]) hpp).mono (bs' := [D]) (by simp))
  walk_at "rd"
  refine ⟨_, SqT.of zd, rfl, _, _, rfl, _, _, rfl, rfl, rfl, ?_⟩
  refine jl (fun c => ?_) (fun c => ?_)
  ·have c' : ¬ (i : Int) = os.getD i 0 := fun e => c (congrArg V.int e)
   refine ⟨a, n, os, _, rfl, je ha k0, ho, by omega, by omega, fun G1 k1 => ⟨_, rfl, ?_⟩⟩
   have hd2 := k1 _ _ (by simp) hd1
   have kp2 := kp1.trans (k1.mono (bs' := [D]) (by simp))
   by_cases hw : wkE os (i : Int) = (i : Int)
   ·rw [if_pos (decide_eq_true hw)]
    refine ⟨_, hd2, by rw [List.length_map]; omega, kp2.trans (Kp.set _ (by simp)), ?_⟩
    show _ = some (il (ldL os i ++ _))
    rw [if_pos ⟨c', hw⟩]
    exact zd.trans (congrArg some (congrArg HO.lst (by rw [List.map_append]; rfl)))
   ·rw [if_neg (by simpa using hw)]
    refine ⟨kp2, ?_⟩
    show _ = some (il (ldL os i ++ _))
    rw [if_neg (fun z => hw z.2), List.append_nil]
    exact hd2
  ·refine ⟨kp1, ?_⟩
   show _ = some (il (ldL os i ++ _))
   rw [if_neg (fun z => z.1 (V.int.inj (Classical.byContradiction c))), List.append_nil]
   exact hd1
 ·rintro τ G ⟨u, v, rfl, kp, hd⟩
  rw [List.length_map, ol] at hd
  have k0 := Kp.drop1 hD kp
  walk_at "rd"
  refine ⟨a, n, os, rfl, je ha k0, ho, hn, fun p1 G1 k1 hp1 h1 => ⟨p1, rfl, _, SqL.of h1, Bv ho hn, by rw [qU]; omega, by show 2 <= sizeLine; omega, fun t ht => ?_⟩⟩
  have kt := Kp.new (bs := []) (HO.tup [V.ref D, V.int (wkL os n).sum]) ht
  exact q D t _ ((k0.trans k1).trans kt) hD ((k0.trans k1).free ht) ((k1.trans kt) _ _ (by simp) hd) zd
def WT : ASp := fun xs M Q => ∃ (b : Addr) (many : Int) (N : Nat), xs = [.ref b, .d (.int many)] /\ BxM M b N /\ N < 1000000000 /\ 0 < many /\ many < 1073741824 /\ ∀ r M', BxS M M' b (N + 1) -> 0 <= r -> r < many -> Q (.d (.int r)) M'
theorem Vt (vs : List V) (H : Hp) (Q : VK) (E : XK) (h : cSp WT vs H Q E) : kz vs H Q E := by
 obtain ⟨xs, M, O, Q', w, r, ⟨b, many, N, rfl, hb, h1, h2, h3, q⟩, k⟩ := h
 obtain ⟨v, u, rfl, rv, ru⟩ := jk r
 rw [zK ru, rv.1]
 refine ⟨b, many, N, rfl, hb.bx w, h1, h2, h3, fun r H' kp hb' r0 r1 => ?_⟩
 obtain ⟨M', s, e, w'⟩ := Z8 w hb kp hb'
 exact k _ _ _ _ _ (q r M' s r0 r1) e w' .int
def DE : ASp := fun xs M Q => ∃ (x : AV) (k : Int) (cs : List Int), xs = [x, .d (.int k)] /\ qZ x M = some (cs.map fun i => .d (.int i)) /\ 0 <= k /\ k <= 1000 /\ cs.length <= 1000 /\ ∀ p o, M p = none -> BxM (mup M p o) p 0 -> Q (.ref p) (mup M p o)
theorem W0 (vs : List V) (H : Hp) (Q : VK) (E : XK) (h : cSp DE vs H Q E) : WW vs H Q E := by
 obtain ⟨xs, M, O, Q', w, r, ⟨x, n, cs, rfl, hx, h1, h2, h3, q⟩, k⟩ := h
 obtain ⟨v, u, rfl, rv, ru⟩ := jk r
 rw [zK ru]
 obtain ⟨a, rfl, ha⟩ := KC w rv hx
 refine ⟨a, n, cs, rfl, ha, h1, h2, h3, fun p H' kp hp hb' => ?_⟩
 obtain ⟨x', y', z', g1, g2⟩ := hb'
 obtain ⟨e1, w1⟩ := jK w kp
 have fr := w.fresh hp
 have e2 := Ext.owned (O' := J5 O p) (p := p) w ⟨fun a o h e => ⟨(e1.fix a o h e).1, fun z => z.elim (zh e hp) h⟩, fun a h e => ⟨(e1.prv a h e).1, .inr h, e⟩, fun _ h => h⟩ hp (.lst ([x', y', z'].map fun i => .d (.int i)))
 refine k _ _ _ _ _ (q p _ fr.2 ⟨x', y', z', zO, g2⟩) e2 (ZM (O := J5 O p) (xs := [V.int x', V.int y', V.int z']) ⟨fun a o h => ?_, fun a h => .inr (w1.own a h), fun a h => ?_⟩ (.inl rfl) fr.2 g1 (vA [x', y', z'])) ⟨rfl, by rw [zO]; exact fun z => nomatch z⟩
 ·have e3 : Ext H O M H' (J5 O p) M := ⟨fun a o h e => ⟨(e1.fix a o h e).1, fun z => z.elim (zh e hp) h⟩, fun a h e => ⟨(e1.prv a h e).1, .inr h, e⟩, fun _ h => h⟩
  refine qR.ext e3 ?_ (w.mo a o h)
  obtain ⟨u, hu, _⟩ := w.al a (w.own a (kc h))
  rw [hu]; exact kp a u (by simp) hu
 ·rcases h with rfl | h
  ·exact ⟨_, g1, fun xs z => nomatch z⟩
  ·exact w1.al a h
def Q8 (K : PySem.W.Frag) : ASp := fun xs M Q => ∃ (m : Int) (ns : List Int), xs = [.d (.scr K ns), .d (.int m)] /\ 0 < m /\ m <= 60 /\ ns.length <= 63 /\ ∀ cs : List Int, cs.length <= 1000 -> Q (.d (.lst (cs.map .int))) M
theorem JT (vs : List V) (H : Hp) (Q : VK) (E : XK) (h : cSp (Q8 K) vs H Q E) : ZU K vs H Q E := by
 obtain ⟨xs, M, O, Q', w, r, ⟨m, ns, rfl, h1, h2, h3, q⟩, k⟩ := h
 obtain ⟨v, u, rfl, rv, ru⟩ := jk r
 rw [zK ru]
 obtain ⟨a, rfl, ha⟩ := VJ rv
 refine ⟨a, m, ns, rfl, ha, h1, h2, h3, fun p H' cs kp hp hc lc => ?_⟩
 obtain ⟨e1, w1⟩ := jK w kp
 exact k _ _ _ _ _ (q cs lc) e1 w1 (qN (w.fresh hp).1 hc)
def Q6 : ASp := fun xs M Q => ∃ (b : Addr) (m : Int) (N : Nat), xs = [.ref b, .d (.int m)] /\ BxM M b N /\ N < 100000000 /\ 24 <= m /\ m <= 1000 /\ ∀ r M', BxS M M' b (N + 10) -> 0 <= r -> r <= m -> Q (.d (.int r)) M'
theorem JR (vs : List V) (H : Hp) (Q : VK) (E : XK) (h : cSp Q6 vs H Q E) : ZS vs H Q E := by
 obtain ⟨xs, M, O, Q', w, r, ⟨b, many, N, rfl, hb, h1, h2, h3, q⟩, k⟩ := h
 obtain ⟨v, u, rfl, rv, ru⟩ := jk r
 rw [zK ru, rv.1]
 refine ⟨b, many, N, rfl, hb.bx w, h1, h2, h3, fun r H' kp hb' r0 r1 => ?_⟩
 obtain ⟨M', s, e, w'⟩ := Z8 w hb kp hb'
 exact k _ _ _ _ _ (q r M' s r0 r1) e w' .int
def Ym : ASp := fun xs M Q => ∃ (b : Addr) (n N : Nat), xs = [.ref b, .d (.int n)] /\ BxM M b N /\ N < 1000000 /\ n <= 1000 /\ ∀ os M', BxS M M' b (N + 3000) -> zf n os -> Q (.d (.lst (os.map .int))) M'
theorem Yc (vs : List V) (H : Hp) (Q : VK) (E : XK) (h : cSp Ym vs H Q E) : Jv vs H Q E := by
 obtain ⟨xs, M, O, Q', w, r, ⟨b, n, N, rfl, hb, h1, h2, q⟩, k⟩ := h
 obtain ⟨v, u, rfl, rv, ru⟩ := jk r
 rw [zK ru, rv.1]
 refine ⟨b, n, N, rfl, hb.bx w, h1, h2, fun p H' ns kp hp hb' hq ho => ?_⟩
 obtain ⟨M', s, e, w'⟩ := Z8 w hb kp hb'
 exact k _ _ _ _ _ (q ns M' s ho) e w' (qN (w.fresh hp).1 hq)
def Qe : ASp := fun xs M Q => ∃ (x : AV) (n : Nat) (os : List Int), xs = [x] /\ qq x M = some (os.map fun i => .d (.int i)) /\ zf n os /\ n <= 1000 /\ Q (.d (.lst ((zG os n).map ilD))) M
theorem KN (vs : List V) (H : Hp) (Q : VK) (E : XK) (h : cSp Qe vs H Q E) : Jn K vs H Q E := by
 obtain ⟨xs, M, O, Q', w, r, ⟨x, n, os, rfl, hx, ho, hn, q⟩, k⟩ := h
 obtain ⟨v, rfl, rv⟩ := qH r
 obtain ⟨a, rfl, ha⟩ := jg w rv hx
 refine ⟨a, n, os, rfl, ha.elim (fun h => .inl (SqL.of h)) (fun h => .inr (SqT.of h)), ho, hn, fun p H' rs kp hp h1 h2 er => ?_⟩
 obtain ⟨e1, w1⟩ := jK w kp
 refine k _ _ _ _ _ q e1 w1 (Rep.lst (w.fresh hp).1 h1 (by rw [<- er]; unfold rfs; simp) fun i x d i1 i2 => ?_)
 rw [<- er] at i2
 unfold rfs at i1
 rw [List.getElem?_map] at i1 i2
 rw [List.getElem?_map] at i2
 cases e : rs[i]? with
 | none => rw [e] at i1; cases i1
 | some y =>
  rw [e] at i1 i2
  cases i1; cases i2
  have := h2 y (List.mem_of_getElem? e)
  exact qN (w.fresh this.1).1 this.2.2
abbrev xp : Stmt := top 2
theorem yp : zt ["thing", "seen", "place"] ["thing"] (zj xp) := ⟨rfl, rfl, rfl, by decide +kernel, rfl, by decide +kernel, by decide +kernel⟩
abbrev kF : Stmt := top 1
theorem xB : zt ["thing", "n"] ["thing", "n"] (zj kF) := ⟨rfl, rfl, rfl, by decide +kernel, rfl, by decide +kernel, by decide +kernel⟩
def qz (d : Dat) (n : Int) : Bool := match d with
 | .int i => decide (0 <= i /\ i < n)
 | _ => false
def xa : ASp := fun xs M Q => ∃ (d : Dat) (n : Int), xs = [.d d, .d (.int n)] /\ dp d <= 100 /\ Q (.d (.bl (qz d n))) M
theorem wW (a : At K mg "is_place" kF) (B : Blt mg) : Df P w K mg base "is_place" ["thing", "n"] 1 (cSp xa) := by
 refine dfA (k := 0) a xB (fun _ _ _ _ _ _ us hl => match us, hl with | [_, _], _ => rfl) (fun xs M Q h => ?_) (fun f cdv A outer s H E hr => ?_)
 ·obtain ⟨_, _, rfl, _⟩ := h; rfl
 have sc := xB
 have hsl := hsl
 refine ⟨_, (zc (zS (PW.pt (jR (qh (zo Za rfl B.isinstance qJ (za (pv 0) (za (kf (v := .ty "bool") rfl B.bool VT rfl) zb))) (fun _ => rfl)) (jz (qG (qh (zo Za rfl B.isinstance qJ (za (pv 0) (za (kf (v := .ty "int") rfl B.int Qu rfl) zb))) (fun _ => rfl)))))) (zg (zm qp)) zD)
  (zg (zm (YT Xq vo ze (pv 0) (pv 1))))), ?_⟩
 refine ex2 (by walk_at "sim") ?_
 rintro xs M Q ⟨d, n, rfl, hd, q⟩
 rw [show qQ ["thing", "n"] [.d d, .d (.int n)] = [some (.d d), some (.d (.int n))] from rfl]
 have fin := fun b => QW (M0 := M) Fr.refl (.bl b)
 cases d with
 | non => walk_at "ra"; exact ⟨_, _, fin _, q⟩
 | bl b => walk_at "ra"; exact ⟨_, _, fin _, q⟩
 | str b => walk_at "ra"; exact ⟨_, _, fin _, q⟩
 | lst b => walk_at "ra"; exact ⟨_, _, fin _, q⟩
 | tup b => walk_at "ra"; exact ⟨_, _, fin _, q⟩
 | int i =>
  walk_at "ra"
  have q : Q (.d (.bl (decide (0 <= i /\ i < n)))) M := q
  by_cases c : 0 <= i
  ·rw [if_pos c]
   rw [show decide (0 <= i /\ i < n) = decide (i < n) by simp [c]] at q
   walk_at "ra"
   exact ⟨_, _, fin _, q⟩
  ·rw [if_neg c]
   rw [show decide (0 <= i /\ i < n) = false by simp [c]] at q
   walk_at "ra"
   exact ⟨_, _, fin _, q⟩
 | ty _ => rw [dp] at hd; omega
 | rng _ _ _ => rw [dp] at hd; omega
 | scr _ _ => rw [dp] at hd; omega
def ja (l : List Dat) : Prop := ∃ os : List Int, l = os.map .int /\ zf l.length os
open Classical in
noncomputable def vp : Dat -> Bool
 | .lst l => decide (ja l)
 | .tup l => decide (ja l)
 | _ => false
open Classical in
theorem Jh (l : List Dat) : vp (.lst l) = if ja l then true else false := by
 unfold vp
 by_cases h : ja l <;> simp [h]
open Classical in
theorem Ji (l : List Dat) : vp (.tup l) = if ja l then true else false := by
 unfold vp
 by_cases h : ja l <;> simp [h]
theorem qj {n : Nat} {os : List Int} (h : zf n os) : ja (os.map .int) := ⟨os, rfl, by rw [List.length_map, h.1]; exact h⟩
theorem xA {d : Dat} {n : Int} (h : qz d n = true) : ∃ k : Int, d = .int k /\ 0 <= k /\ k < n := by
 cases d with
 | int k => exact ⟨k, rfl, of_decide_eq_true h⟩
 | _ => cases h
theorem Ve {l : List Dat} (h : ja l) {i : Nat} {d : Dat} (hi : l[i]? = some d) : qz d (l.length : Nat) = true := by
 obtain ⟨os, rfl, ho⟩ := h
 rw [List.getElem?_map] at hi
 cases e : os[i]? with
 | none => rw [e] at hi; cases hi
 | some k =>
  rw [e] at hi; cases hi
  exact decide_eq_true (ho.2.2 k (List.mem_of_getElem? e))
theorem Wz {l : List Dat} (h : ja l) {os : List Int} {i : Nat} {k : Int} (ht : l.take i = os.map .int) (hi : l[i]? = some (.int k)) : k ∉ os := by
 obtain ⟨qs, rfl, ho⟩ := h
 intro hk
 rw [List.getElem?_map] at hi
 cases e : qs[i]? with
 | none => rw [e] at hi; cases hi
 | some k' =>
  rw [e] at hi; cases hi
  have ht : qs.take i = os := by
   rw [<- List.map_take] at ht
   exact (List.map_inj_right (fun _ _ z => Dat.int.inj z)).mp ht
  rw [<- ht] at hk
  obtain ⟨j, hj, ej⟩ := List.mem_take_iff_getElem.mp hk
  obtain ⟨hi', ei⟩ := List.getElem?_eq_some_iff.mp e
  have := (List.getElem_inj (h₀ := by omega) (h₁ := hi') ho.2.1).mp (ej.trans ei.symm)
  omega
def Zd : ASp := fun xs M Q => ∃ (x : AV) (d : Dat), xs = [x] /\ xL x M = some d /\ jn 100 d /\ Q (.d (.bl (vp d))) M
theorem yr {x : AV} {l : List Dat} {M : MH} {p : Addr} {D : ye} {G : MH -> Prop} (hG : ∀ o, G (mup M p o)) (hp : M p = none) (hl : l.length <= 100000) (hd : ∀ d ∈ l, dp d <= 100) (hx : qq x M = some (l.map .d)) (hrt : ∀ M', Fr M M' -> ¬ ja l -> D.rt (.d (.bl false)) M') (hnx : ∀ u M', Fr M M' -> ja l -> D.nx [some x, some (.ref p), u] M') {B : MH} :
  WG (ky 2) (Qr (AJ (aOr (Ae (aB (XF xa (ZV (ZC 2) (ZV (aCB Bs (ZV (ZC 0) Vz)) Vz))))) (aB (aOp (aIx qq) (ZC 1) (ZC 2)))) (BX (aC (Dat.bl false))) Qo) (AW (aC (Dat.bl true)) (XX (ZC 1) (ZC 2) asL)))
   B D G (l.map .d) [some x, some (.ref p), none] (mup M p (.lst ((List.replicate l.length false).map fun b => .d (.bl b)))) := by
 refine ⟨fun i ρ M' => ∃ (u : Option AV) (bs : List Bool) (os : List Int), ρ = [some x, some (.ref p), u] /\ M' = mup M p (.lst (bs.map fun b => .d (.bl b))) /\ bs.length = l.length /\ l.take i = os.map .int /\ os.Nodup /\ (∀ k ∈ os, 0 <= k /\ k < (l.length : Int)) /\ ∀ k : Nat, k < l.length -> (bs.getD k false = true ↔ (k : Int) ∈ os), ?_, ?_, ?_⟩
 ·refine ⟨none, _, [], rfl, rfl, List.length_replicate, rfl, List.nodup_nil, (fun k hk => nomatch hk), fun k hk => ?_⟩
  rw [List.getD_eq_getElem?_getD, List.getElem?_replicate, if_pos hk]
  simp
 ·rintro i y ρ M' hy ⟨u, bs, os, rfl, rfl, lb, ht, nd, hb, hm⟩
  rw [List.getElem?_map] at hy
  cases e : l[i]? with
  | none => rw [e] at hy; cases hy
  | some d =>
   rw [e] at hy
   cases hy
   refine ⟨hG _, ?_⟩
   walk_at "ra"
   rw [yy hx hp]
   walk_at "ra"
   refine ⟨d, _, rfl, hd d (List.mem_of_getElem? e), _, rfl, ?_⟩
   cases c : qz d (l.length : Nat) with
   | false =>
    walk_at "ra"
    exact hrt _ (Fr.refl.mup hp _) fun z => by rw [Ve z e] at c; cases c
   | true =>
    obtain ⟨k, rfl, k0, k1⟩ := xA c
    walk_at "ra"
    rw [wO zO]
    have hk := hm k.toNat (by omega)
    rw [Int.toNat_of_nonneg k0] at hk
    have hat : atI (bs.map fun b => AV.d (.bl b)) k = some (.d (.bl (bs.getD k.toNat false))) := by rw [Ju, XA k0 (by omega) false]; rfl
    walk_at "ra"
    rw [hat]
    walk_at "ra"
    cases c2 : bs.getD k.toNat false with
    | true =>
     walk_at "ra"
     exact hrt _ (Fr.refl.mup hp _) fun z => Wz z ht e (hk.mp c2)
    | false =>
     walk_at "ra"
     have hno : k ∉ os := fun z => by rw [hk.mpr z] at c2; cases c2
     refine ⟨_, zO, k.toNat, by rw [List.length_map, Y0 k0 (by omega)], bs.set k.toNat true, ?_, by rw [List.length_set]; exact lb, os ++ [k], ?_, ?_, ?_, ?_⟩
     ·rw [List.map_set]
     ·rw [List.take_add_one, e, ht, List.map_append]; rfl
     ·rw [List.nodup_append]
      exact ⟨nd, by simp, fun a ha b hb' => by rw [List.mem_singleton.mp hb']; exact fun z => hno (z ▸ ha)⟩
     ·intro j hj
      rcases List.mem_append.mp hj with z | z
      ·exact hb j z
      ·rw [List.mem_singleton.mp z]; exact ⟨k0, k1⟩
     ·intro j hj
      rw [xn (by omega), List.mem_append, List.mem_singleton]
      by_cases cj : j = k.toNat
      ·rw [if_pos cj]
       exact ⟨fun _ => .inr (by omega), fun _ => rfl⟩
      ·rw [if_neg cj, hm j hj]
       exact ⟨.inl, fun z => z.resolve_right (by omega)⟩
 ·rintro ρ M' ⟨u, bs, os, rfl, rfl, lb, ht, nd, hb, hm⟩
  rw [List.length_map, List.take_length] at ht
  refine ⟨hG _, hnx u _ (Fr.refl.mup hp _) ⟨os, ht, ?_, nd, hb⟩⟩
  rw [ht, List.length_map]
theorem wV (a : At K mg "is_order" xp) (B : Blt mg) (D_is_place : Df P w K mg base "is_place" ["thing", "n"] 1 (cSp xa)) : Df P w K mg base "is_order" ["thing"] 2 (cSp Zd) := by
 refine dfA (k := 1) a yp (fun _ _ _ _ _ _ us hl => match us, hl with | [_], _ => rfl) (fun xs M Q h => ?_) (fun f cdv A outer s H E hr => ?_)
 ·obtain ⟨_, _, rfl, _⟩ := h; rfl
 have sc := yp
 have hsl := hsl
 have hs2 : 0 + 1 + 1 <= sizeLine := by omega
 refine ⟨_, (zc (zS (qG (qh (zo vk rfl B.isinstance qJ (za (pv 0) (za (xt (za (kf (v := .ty "list") rfl B.list qM rfl) (za (kf (v := .ty "tuple") rfl B.tuple wQ rfl) zb))) zb))) (fun _ => rfl))) (zg (zm qp)) zD)
  (zc (zy (i := 1) sc.nd rfl (by first | exact Or.inl rfl | exact Or.inr rfl) (K0 (zl xq (zZ (za qp zb)) (zo zp rfl B.len qb (za (pv 0) zb)))))
  (zc (qF PassesOwn.never rfl (ya (pv 0)) (zr (i := 2) sc.nd rfl (by first | exact Or.inl rfl | exact Or.inr rfl)) (zc (zS (PW.pt (jR (qG (qh (zq D_is_place hr rfl (za (pv 2) (za (zo zp rfl B.len qb (za (pv 0) zb)) zb))) (fun _ => rfl))) (jz (qh (zE ql (pv 1) (pv 2) (fun _ _ => rfl)) (fun _ => rfl))))) (zg (zm qp)) zD)
  (zg (qY qp (jb (pv 1) (pv 2) zY)))))
  (zg (zm qp))))), ?_⟩
 refine ex2 (by walk_at "sim") ?_
 rintro xs M Q ⟨x, d, rfl, hx, hd, q⟩
 rw [show qQ ["thing", "seen", "place"] [x] = [some x, none, none] from rfl]
 have fin := fun b M' (f : Fr M M') => QW f (.bl b)
 cases d with
 | non => obtain rfl := qa hx (fun _ z => nomatch z); walk_at "ra"; exact ⟨hs2, _, _, fin _ _ Fr.refl, q⟩
 | bl b => obtain rfl := qa hx (fun _ z => nomatch z); walk_at "ra"; exact ⟨hs2, _, _, fin _ _ Fr.refl, q⟩
 | int b => obtain rfl := qa hx (fun _ z => nomatch z); walk_at "ra"; exact ⟨hs2, _, _, fin _ _ Fr.refl, q⟩
 | str b => obtain rfl := qa hx (fun _ z => nomatch z); walk_at "ra"; exact ⟨hs2, _, _, fin _ _ Fr.refl, q⟩
 | lst l =>
  obtain ⟨_, hs, t1, _⟩ := yD hx
  have t2 := Qh
  obtain ⟨hl, hdl⟩ := hd.lst
  have hdl : ∀ d ∈ l, dp d <= 100 := fun d h => Nat.le_trans (hdl d h).1 (by omega)
  have he := Jh l
  walk_at "ra"
  rw [t1]
  walk_at "ra"
  rw [hs]
  walk_at "ra"
  refine ⟨by omega, by omega, by omega, by omega, by omega, fun p hp _ => ⟨_, yy hs hp _, ?_⟩⟩
  rw [Int.toNat_natCast, wK, show List.replicate l.length (AV.d (Dat.bl false)) = (List.replicate l.length false).map fun b => AV.d (.bl b) by rw [List.map_replicate]]
  refine yr (fun o => yy hs hp o) hp hl hdl hs (fun M' f hn => ?_) fun u M' f hn => ?_
  ·rw [he, if_neg hn] at q
   exact ⟨_, _, fin _ _ f, q⟩
  ·rw [he, if_pos hn] at q
   walk_at "ra"
   exact ⟨_, _, fin _ _ f, q⟩
 | tup l =>
  obtain rfl := qa hx (fun _ z => nomatch z)
  have hs : qq (.d (.tup l)) M = some (l.map .d) := rfl
  have t1 : tyA (.d (.tup l)) M = some "tuple" := rfl
  have t2 := QD
  obtain ⟨hl, hdl⟩ := hd.tup
  have hdl : ∀ d ∈ l, dp d <= 100 := fun d h => Nat.le_trans (hdl d h).1 (by omega)
  have he := Ji l
  walk_at "ra"
  refine ⟨by omega, by omega, by omega, by omega, by omega, fun p hp _ => ?_⟩
  rw [Int.toNat_natCast, wK, show List.replicate l.length (AV.d (Dat.bl false)) = (List.replicate l.length false).map fun b => AV.d (.bl b) by rw [List.map_replicate]]
  refine yr (fun o => trivial) hp hl hdl hs (fun M' f hn => ?_) fun u M' f hn => ?_
  ·rw [he, if_neg hn] at q
   exact ⟨_, _, fin _ _ f, q⟩
  ·rw [he, if_pos hn] at q
   walk_at "ra"
   exact ⟨_, _, fin _ _ f, q⟩
 | ty t => have := hd.1; rw [dp] at this; omega
 | rng _ _ _ => have := hd.1; rw [dp] at this; omega
 | scr _ _ => have := hd.1; rw [dp] at this; omega
abbrev xg : Stmt := top 8
theorem yE : zt ["order", "ring"] ["order"] (zj xg) := ⟨rfl, rfl, rfl, by decide +kernel, rfl, by decide +kernel, by decide +kernel⟩
noncomputable def qW (os : List Int) (n : Nat) : List Int := (zG os n).map fun r => r.getD 0 0
def wC : ASp := fun xs M Q => ∃ (x : AV) (n : Nat) (os : List Int), xs = [x] /\ qq x M = some (os.map fun i => .d (.int i)) /\ zf n os /\ n <= 1000 /\ Q (.d (ilD (qW os n))) M
def hdA : AV -> AV
 | .d (.lst (x :: _)) => .d x
 | _ => .d .non
theorem QR {r : List Int} (h : 1 <= r.length) : hdA (.d (ilD r)) = .d (.int (r.getD 0 0)) := by
 cases r with
 | nil => simp at h
 | cons a l => rfl
theorem yz {n : Nat} {os : List Int} (ho : zf n os) : (((zG os n).map ilD).map AV.d).map hdA = (qW os n).map fun i => AV.d (.int i) := by
 unfold qW
 rw [List.map_map, List.map_map, List.map_map]
 refine List.map_congr_left fun r hr => ?_
 have := jC ho (Nat.le_refl n) hr
 exact QR (by omega)
theorem QQ (a : At K mg "leaders" xg) (B : Blt mg) (D_rings : Df P w K mg base "rings" ["order"] 2 (cSp Qe)) : Df P w K mg base "leaders" ["order"] 3 (cSp wC) := by
 refine dfA (k := 2) a yE (fun _ _ _ _ _ _ us hl => match us, hl with | [_], _ => rfl) (fun xs M Q h => ?_) (fun f cdv A outer s H E hr => ?_)
 ·obtain ⟨_, _, _, rfl, _⟩ := h; rfl
 have sc := yE
 have hsl := hsl
 refine ⟨_, (zg (zm (qK (ts := [1]) rfl rfl (ya (zq D_rings hr rfl (za (pv 0) zb))) (fun _ _ _ _ => (zr (i := 1) sc.nd rfl (by first | exact Or.inl rfl | exact Or.inr rfl))) (fun _ _ _ _ => qE) (fun _ _ _ _ => (zE (QA (K := K) rfl) (pv 1) ze (fun _ _ => rfl)))))), ?_⟩
 refine ex2 (by walk_at "sim") ?_
 rintro xs M Q ⟨x, n, os, rfl, hx, ho, hn, q⟩
 rw [show qQ ["order", "ring"] [x] = [some x, none] from rfl]
 walk_at "ra"
 refine ⟨x, n, os, rfl, hx, ho, hn, _, rfl, ?_⟩
 refine wA (fun o => [some x, o]) hdA ⟨_, rfl⟩ rfl (by rw [List.length_map, List.length_map]; have := qV os n; omega) (fun o y Q hy q => ?_) fun o => ?_
 ·rw [List.map_map] at hy
  obtain ⟨r, hr, rfl⟩ := List.mem_map.mp hy
  have := jC ho (Nat.le_refl n) hr
  have h0 := qt (ns := r) (i := 0) (by omega) (by omega)
  rw [Int.toNat_zero] at h0
  show ky 1 (AV.d (ilD r)) _ _ _
  walk_at "ra"
  rw [h0]
  walk_at "ra"
  have q := q (some (.d (ilD r)))
  rw [show hdA ((AV.d ∘ ilD) r) = _ from QR (by omega)] at q
  exact q
 ·rw [yz ho, qC]
  exact ⟨_, rfl, _, _, QW Fr.refl _, q⟩
theorem xy (os : List Int) : ∀ k, (QO os k).filter (fun r => decide (1 < r.length)) = zG os k
 | 0 => rfl
 | k + 1 => by
  show (QO os k ++ _).filter _ = zG os (k + 1)
  unfold zG
  rw [List.filter_append, xy os k]
  congr 1
  have hlen : (zn os (k : Int)).length = per os (k : Int) := by unfold zn; rw [qk]
  by_cases hL : qx os k
  ·rw [if_pos hL]
   by_cases hp : 1 < per os (k : Int)
   ·rw [if_pos ⟨hL, hp⟩, List.filter_cons_of_pos (by rw [hlen]; exact decide_eq_true hp), List.filter_nil]
   ·rw [if_neg (fun z => hp z.2), List.filter_cons_of_neg (by rw [hlen]; simp [hp]), List.filter_nil]
  ·rw [if_neg hL, if_neg (fun z => hL z.1), List.filter_nil]
theorem vc {n : Nat} {os : List Int} (h : zf n os) {r : List Int} : ∀ {i : Nat}, i <= n -> r ∈ zG os i -> ∃ k : Nat, k < i /\ r.getD 0 0 = (k : Int)
 | 0, _, hr => by simp [zG] at hr
 | i + 1, hi, hr => by
  unfold zG at hr
  rcases List.mem_append.mp hr with z | z
  ·obtain ⟨k, hk, e⟩ := vc h (by omega) z
   exact ⟨k, by omega, e⟩
  ·by_cases c : qx os i /\ 1 < per os (i : Int)
   ·rw [if_pos c] at z
    rw [List.mem_singleton.mp z]
    refine ⟨i, by omega, ?_⟩
    have hp : 0 < per os (i : Int) := by omega
    unfold zn
    rw [List.getD_eq_getElem?_getD, show (itl os (i : Int) (per os (i : Int)))[0]? = some (itn os 0 (i : Int)) by unfold itl; rw [List.getElem?_map, List.getElem?_range hp]; rfl]
    rfl
   ·rw [if_neg c] at z; cases z
theorem Vo {n : Nat} {os : List Int} (h : zf n os) {x : Int} (hx : x ∈ qW os n) : 0 <= x /\ x < n := by
 unfold qW at hx
 obtain ⟨r, hr, rfl⟩ := List.mem_map.mp hx
 obtain ⟨k, hk, e⟩ := vc h (Nat.le_refl n) hr
 rw [e]; omega
theorem ZA (os : List Int) (n : Nat) : (qW os n).length <= n := by unfold qW; rw [List.length_map]; exact qV os n
def kY : Dat -> Option (List Dat)
 | .lst l => some l
 | .tup l => some l
 | _ => none
open Classical in
noncomputable def kJ (os : List Int) (n : Nat) (d : Dat) : Bool := decide (kY d = some ((qW os n).map .int))
theorem xi {os : List Int} {n : Nat} {d : Dat} : kJ os n d = true ↔ kY d = some ((qW os n).map .int) := by unfold kJ; simp
theorem JF {os : List Int} {n : Nat} {d : Dat} (h : kY d ≠ some ((qW os n).map .int)) : kJ os n d = false := by
 cases e : kJ os n d with
 | false => rfl
 | true => exact absurd (xi.mp e) h
theorem Y4 {os : List Int} {n : Nat} {d : Dat} {ks : List Int} (h : kY d = some (ks.map .int)) : kJ os n d = decide (ks = qW os n) := by
 by_cases e : ks = qW os n
 ·rw [decide_eq_true e, xi, h, e]
 ·rw [decide_eq_false e]
  refine JF fun z => e ?_
  rw [h] at z
  injection z with z
  exact (List.map_inj_right (fun _ _ z => Dat.int.inj z)).mp z
theorem YU {os : List Int} {n : Nat} {d : Dat} (h : kY d = none) : kJ os n d = false := by
 unfold kJ; rw [h]; simp
theorem DD {x : AV} {M : MH} {d : Dat} {l : List Dat} (h : xL x M = some d) (hs : kY d = some l) : qq x M = some (l.map .d) := by
 cases d with
 | lst m => cases hs; exact (yD h).2.1
 | tup m => cases hs; rw [qa h (fun _ z => nomatch z)]; rfl
 | _ => cases hs
theorem Vy {x : AV} {M : MH} {d : Dat} (h : xL x M = some d) (hd : dp d <= 100) : ∃ t, tyA x M = some t /\ xI t ["list", "tuple"] = some (kY d).isSome := by
 cases d with
 | lst l => exact ⟨_, (yD h).2.2.1, Qh⟩
 | tup l => rw [qa h (fun _ z => nomatch z)]; exact ⟨_, rfl, QD⟩
 | non => rw [qa h (fun _ z => nomatch z)]; exact ⟨_, rfl, Yt⟩
 | bl b => rw [qa h (fun _ z => nomatch z)]; exact ⟨_, rfl, KP⟩
 | int b => rw [qa h (fun _ z => nomatch z)]; exact ⟨_, rfl, YO⟩
 | str b => rw [qa h (fun _ z => nomatch z)]; exact ⟨_, rfl, XN⟩
 | ty t => rw [dp] at hd; omega
 | rng _ _ _ => rw [dp] at hd; omega
 | scr _ _ => rw [dp] at hd; omega
theorem YH {n : Nat} {d : Dat} {l : List Dat} (h : jn (n + 1) d) (hs : kY d = some l) : l.length <= 100000 /\ ∀ d ∈ l, jn n d := by
 cases d with
 | lst m => cases hs; exact h.lst
 | tup m => cases hs; exact h.tup
 | _ => cases hs
def Jy : ASp := fun xs M Q => ∃ (dx d : Dat) (n : Nat) (os : List Int), xs = [.d dx, .d d] /\ kY dx = some (os.map .int) /\ zf n os /\ n <= 1000 /\ jn 30 d /\ Q (.d (.bl (kJ os n d))) M
theorem v6 {d : Dat} {l : List Dat} (h : kY d = some l) (M : MH) : qq (.d d) M = some (l.map .d) := by
 cases d with
 | lst m => cases h; rfl
 | tup m => cases h; rfl
 | _ => cases h
theorem Yq {d : Dat} {os : List Int} (h : kY d = some (os.map .int)) (M : MH) : qq (.d d) M = some (os.map fun i => .d (.int i)) := by rw [v6 h, jQ]
theorem JQ {d : Dat} {os : List Int} {n : Nat} (h : kY d = some (os.map .int)) (ho : zf n os) : vp d = true := by
 cases d with
 | lst m => cases h; rw [Jh, if_pos (qj ho)]
 | tup m => cases h; rw [Ji, if_pos (qj ho)]
 | _ => cases h
theorem Wy {d : Dat} {os : List Int} {n : Nat} (h : kY d = some (os.map .int)) (ho : zf n os) (hn : n <= 1000) : jn 100 d := by
 have h1 := ho.1
 cases d with
 | lst m => cases h; exact (ke (by omega)).mono (by omega)
 | tup m => cases h; exact (Qt (by omega)).mono (by omega)
 | _ => cases h
theorem Zt {l : List Dat} {n : Int} (h : (l.map fun d => qz d n).all id = true) : ∃ ks : List Int, l = ks.map .int /\ ∀ k ∈ ks, 0 <= k /\ k < n := by
 induction l with
 | nil => exact ⟨[], rfl, fun k hk => nomatch hk⟩
 | cons a r ih =>
  simp only [List.map_cons, List.all_cons, id, Bool.and_eq_true] at h
  obtain ⟨ks, rfl, hk⟩ := ih h.2
  obtain ⟨k, rfl, k0, k1⟩ := xA h.1
  refine ⟨k :: ks, rfl, fun x hx => ?_⟩
  rcases List.mem_cons.mp hx with rfl | hx
  ·exact ⟨k0, k1⟩
  ·exact hk x hx
theorem ZR {n : Int} {ks : List Int} (h : ∀ k ∈ ks, 0 <= k /\ k < n) : ((ks.map Dat.int).map fun d => qz d n).all id = true := by
 simp only [List.all_eq_true, List.mem_map]
 rintro b ⟨d, ⟨k, hk, rfl⟩, rfl⟩
 exact decide_eq_true (h k hk)
abbrev wv : Stmt := top 19
theorem ZF : zt ["order", "thing", "part"] ["order", "thing"] (zj wv) := ⟨rfl, rfl, rfl, by decide +kernel, rfl, by decide +kernel, by decide +kernel⟩
theorem K7 (a : At K mg "shows_leaders" wv) (B : Blt mg) (Ball : mg "all" = none) (D_is_order : Df P w K mg base "is_order" ["thing"] 3 (cSp Zd)) (D_is_place : Df P w K mg base "is_place" ["thing", "n"] 3 (cSp xa)) (D_leaders : Df P w K mg base "leaders" ["order"] 3 (cSp wC)) : Df P w K mg base "shows_leaders" ["order", "thing"] 4 (cSp Jy) := by
 refine dfA (k := 3) a ZF (fun _ _ _ _ _ _ us hl => match us, hl with | [_, _], _ => rfl) (fun xs M Q h => ?_) (fun f cdv A outer s H E hr => ?_)
 ·obtain ⟨_, _, _, _, rfl, _⟩ := h; rfl
 have sc := ZF
 have hsl := hsl
 refine ⟨_, (zc (zS (PW.pt (jR (qG (qh (zq D_is_order hr rfl (za (pv 0) zb)) (fun _ => rfl))) (jz (qG (qh (zo vk rfl B.isinstance qJ (za (pv 1) (za (xt (za (kf (v := .ty "list") rfl B.list qM rfl) (za (kf (v := .ty "tuple") rfl B.tuple wQ rfl) zb))) zb))) (fun _ => rfl)))))) (zg (zm qp)) zD)
  (zc (zS (qG (qh (zo (Kv rfl) rfl Ball Bj (za (qK (ts := [2]) rfl rfl (ya (pv 1)) (fun _ _ _ _ => (zr (i := 2) sc.nd rfl (by first | exact Or.inl rfl | exact Or.inr rfl))) (fun _ _ _ _ => qE) (fun _ _ _ _ => (zq D_is_place hr rfl (za (pv 2) (za (zo (yO (K := K) rfl) rfl B.len qb (za (pv 0) zb)) zb))))) zb)) (fun _ => rfl))) (zg (zm qp)) zD)
  (zg (zm (qS (j9 hr.units) (zL kP rfl B.list qM (za (pv 1) zb)) (zq D_leaders hr rfl (za (pv 0) zb)) (zu _)))))), ?_⟩
 refine ex2 (by walk_at "sim") ?_
 rintro xs M Q ⟨dx, d, n, os, rfl, hx, ho, hn, hd, q⟩
 rw [show qQ ["order", "thing", "part"] [.d dx, .d d] = [some (.d dx), some (.d d), none] from rfl]
 refine zH fun r hr0 => ?_
 walk_at "ra"
 have h1 := ho.1
 refine ⟨_, dx, rfl, rfl, Wy hx ho hn, _, rfl, ?_⟩
 rw [JQ hx ho, if_neg (by decide)]
 obtain ⟨t, ht, hts⟩ := Vy (x := .d d) (M := M) rfl (Nat.le_trans hd.1 (by omega))
 refine ⟨by omega, t, ht, _, hts, ?_⟩
 cases hs : kY d with
 | none =>
  rw [YU hs] at q
  walk_at "ra"
  exact ZP Fr.refl q
 | some l =>
  rw [Option.isSome_some, if_neg (by decide)]
  obtain ⟨hl, hdl⟩ := YH (n := 29) hd hs
  subst hr0
  refine zH fun r hr0 => ?_
  walk_at "ra"
  refine ⟨_, v6 hs M, ?_⟩
  refine wA (fun o => [some (.d dx), some (.d d), o]) (fun z => match z with | .d z => .d (.bl (qz z n)) | _ => .d .non) ⟨_, rfl⟩ (v6 hs M) (by rw [List.length_map]; omega) (fun o y Q hy q => ?_) fun o => ?_
  ·obtain ⟨z, hz, rfl⟩ := List.mem_map.mp hy
   walk_at "ra"
   refine ⟨_, Yq hx M, z, _, rfl, Nat.le_trans (hdl z hz).1 (by omega), ?_⟩
   rw [List.length_map, h1]
   exact q _
  rw [List.map_map]
  refine ⟨(l.map fun z => qz z n).map .bl, ?_, l.map fun z => qz z n, X0 _, ?_⟩
  ·rw [<- jB ((l.map fun z => qz z n).map Dat.bl), List.map_map, List.map_map]; rfl
  have lb := ZA os n
  cases c : (l.map fun z => qz z n).all id with
  | false =>
   rw [if_pos rfl]
   rw [JF fun z => by
    rw [hs] at z
    injection z with z
    rw [z, ZR fun k hk => Vo ho hk] at c
    cases c] at q
   exact ZP Fr.refl q
  | true =>
   rw [if_neg (by decide)]
   obtain ⟨ks, rfl, hk⟩ := Zt c
   subst hr0
   walk_at "ra"
   rw [List.length_map] at hl
   refine ⟨_, v6 hs M, _, jB _, _, n, os, rfl, Yq hx M, ho, hn, _, rfl, Nat.le_trans (ke (ns := ks) (by omega)).1 (by omega), Nat.le_trans (ke (ns := qW os n) (by omega)).1 (by omega), ?_⟩
   rw [qP]
   refine ZP Fr.refl ?_
   rw [<- Y4 hs]
   exact q
def vM : ASp := fun xs M Q => ∃ (x : AV) (n : Nat) (os : List Int), xs = [x] /\ qq x M = some (os.map fun i => .d (.int i)) /\ zf n os /\ n <= 1000 /\ Q (.d (ilD (wkL os n))) M
theorem YD (vs : List V) (H : Hp) (Q : VK) (E : XK) (h : cSp vM vs H Q E) : vX K vs H Q E := by
 obtain ⟨xs, M, O, Q', w, r, ⟨x, n, os, rfl, hx, ho, hn, q⟩, k⟩ := h
 obtain ⟨v, rfl, rv⟩ := qH r
 obtain ⟨a, rfl, ha⟩ := jg w rv hx
 refine ⟨a, n, os, rfl, ha.elim (fun h => .inl (SqL.of h)) (fun h => .inr (SqT.of h)), ho, hn, fun p H' kp hp h1 => ?_⟩
 obtain ⟨e1, w1⟩ := jK w kp
 exact k _ _ _ _ _ q e1 w1 (qN (w.fresh hp).1 h1)
def XU : ASp := fun xs M Q => ∃ (x : AV) (n : Nat) (os : List Int), xs = [x] /\ qq x M = some (os.map fun i => .d (.int i)) /\ zf n os /\ n <= 1000 /\ ∀ bs, zJ os bs -> Q (.d (ilD bs)) M
theorem Xy (vs : List V) (H : Hp) (Q : VK) (E : XK) (h : cSp XU vs H Q E) : yk K vs H Q E := by
 obtain ⟨xs, M, O, Q', w, r, ⟨x, n, os, rfl, hx, ho, hn, q⟩, k⟩ := h
 obtain ⟨v, rfl, rv⟩ := qH r
 obtain ⟨a, rfl, ha⟩ := jg w rv hx
 refine ⟨a, n, os, rfl, ha.elim (fun h => .inl (SqL.of h)) (fun h => .inr (SqT.of h)), ho, hn, fun p H' bs kp hp h1 hb => ?_⟩
 obtain ⟨e1, w1⟩ := jK w kp
 exact k _ _ _ _ _ (q bs hb) e1 w1 (qN (w.fresh hp).1 h1)
def Jt : ASp := fun xs M Q => ∃ (x : AV) (n : Nat) (os bs : List Int), xs = [x] /\ qq x M = some (os.map fun i => .d (.int i)) /\ zf n os /\ zJ os bs /\ n <= 1000 /\ Q (.d (ilD (btL os bs n))) M
theorem J1 (vs : List V) (H : Hp) (Q : VK) (E : XK) (h : cSp Jt vs H Q E) : Zo K vs H Q E := by
 obtain ⟨xs, M, O, Q', w, r, ⟨x, n, os, bs, rfl, hx, ho, hb, hn, q⟩, k⟩ := h
 obtain ⟨v, rfl, rv⟩ := qH r
 obtain ⟨a, rfl, ha⟩ := jg w rv hx
 refine ⟨a, n, os, bs, rfl, ha.elim (fun h => .inl (SqL.of h)) (fun h => .inr (SqT.of h)), ho, hb, hn, fun p H' kp hp h1 => ?_⟩
 obtain ⟨e1, w1⟩ := jK w kp
 exact k _ _ _ _ _ q e1 w1 (qN (w.fresh hp).1 h1)
def vQ : ASp := fun xs M Q => ∃ (x : AV) (n mk : Nat) (os : List Int), xs = [x, .d (.int mk)] /\ qq x M = some (os.map fun i => .d (.int i)) /\ zf n os /\ n <= 1000 /\ mk <= n /\ Q (.d (ilD (qy os mk n))) M
theorem Kz (vs : List V) (H : Hp) (Q : VK) (E : XK) (h : cSp vQ vs H Q E) : wN K vs H Q E := by
 obtain ⟨xs, M, O, Q', w, r, ⟨x, n, mk, os, rfl, hx, ho, hn, hm, q⟩, k⟩ := h
 obtain ⟨v, u, rfl, rv, ru⟩ := jk r
 obtain ⟨a, rfl, ha⟩ := jg w rv hx
 rw [zK ru]
 refine ⟨a, n, mk, os, rfl, ha.elim (fun h => .inl (SqL.of h)) (fun h => .inr (SqT.of h)), ho, hn, hm, fun p H' kp hp h1 => ?_⟩
 obtain ⟨e1, w1⟩ := jK w kp
 exact k _ _ _ _ _ q e1 w1 (qN (w.fresh hp).1 h1)
def Xt : ASp := fun xs M Q => ∃ (x : AV) (n : Nat) (os : List Int) (p : Int), xs = [x, .d (.int p)] /\ qq x M = some (os.map fun i => .d (.int i)) /\ zf n os /\ 0 <= p /\ p < n /\ Q (.d (.bl (decide (wkE os p = p)))) M
theorem K8 (vs : List V) (H : Hp) (Q : VK) (E : XK) (h : cSp Xt vs H Q E) : xQ K vs H Q E := by
 obtain ⟨xs, M, O, Q', w, r, ⟨x, n, os, p, rfl, hx, ho, p0, p1, q⟩, k⟩ := h
 obtain ⟨v, u, rfl, rv, ru⟩ := jk r
 obtain ⟨a, rfl, ha⟩ := jg w rv hx
 rw [zK ru]
 refine ⟨a, n, os, p, rfl, ha.elim (fun h => .inl (SqL.of h)) (fun h => .inr (SqT.of h)), ho, p0, p1, fun H' kp => ?_⟩
 obtain ⟨e1, w1⟩ := jK w kp
 exact k _ _ _ _ _ q e1 w1 .bl
def Q0 : ASp := fun xs M Q => ∃ (x : AV) (n : Nat) (os : List Int), xs = [x] /\ qq x M = some (os.map fun i => .d (.int i)) /\ zf n os /\ n <= 1000 /\ Q (.d (.tup [ilD (ldL os n), .int (wkL os n).sum])) M
theorem JK (vs : List V) (H : Hp) (Q : VK) (E : XK) (h : cSp Q0 vs H Q E) : Zh K vs H Q E := by
 obtain ⟨xs, M, O, Q', w, r, ⟨x, n, os, rfl, hx, ho, hn, q⟩, k⟩ := h
 obtain ⟨v, rfl, rv⟩ := qH r
 obtain ⟨a, rfl, ha⟩ := jg w rv hx
 refine ⟨a, n, os, rfl, ha.elim (fun h => .inl (SqL.of h)) (fun h => .inr (SqT.of h)), ho, hn, fun p t H' kp hp ht h1 h2 => ?_⟩
 obtain ⟨e1, w1⟩ := jK w kp
 refine k _ _ _ _ _ q e1 w1 (Rep.tup (w.fresh ht).1 h2 rfl fun i x d i1 i2 => ?_)
 match i, i1, i2 with
 | 0, i1, i2 => cases i1; cases i2; exact qN (w.fresh hp).1 h1
 | 1, i1, i2 => cases i1; cases i2; exact .int
 | (i + 2), i1, _ => cases i1
theorem Ye {τ : Type} (R : τ -> ASt) (f : Nat -> Int) {ag : AG} {ae : AE} {G : MH -> Prop} {N : List AV -> ASt -> MH -> Prop} {n : Nat} {ρ : ASt} {M : MH} (h0 : ∃ o, ρ = R o) (hG : G M) (hl : n <= 100000)
  (hs : ∀ (o : τ) (i : Nat) (Q : AV -> ASt -> MH -> Prop), i < n -> (∀ o', Q (.d (.int (f i))) (R o') M) -> ag (.d (.int (i : Int))) (R o) M fun ρ2 M2 => ae ρ2 M2 fun y M3 => Q y ρ2 M3) (hN : ∀ o, N (((List.range n).map f).map fun i => AV.d (.int i)) (R o) M) : KG ag ZX (va ae) G N (Qx 0 1 n) [] ρ M := by
 refine V7 R (fun i => .d (.int (f i))) h0 hG (by rw [jZ]; exact hl) (fun o i x Q hx q => ?_) fun o => ?_
 ·obtain ⟨hi, rfl⟩ := kT hx
  rw [Int.zero_add, Int.mul_one]
  exact hs o i Q hi q
 ·rw [jZ]
  have := hN o
  rw [List.map_map] at this
  exact this
theorem qc (ns : List Int) : dp (ilD ns) <= 40 := by
 have : ∀ ns : List Int, dps (ns.map .int) <= 0 := fun ns => wq fun d hd => by obtain ⟨i, _, rfl⟩ := List.mem_map.mp hd; simp [dp]
 rw [dp]; have := this ns; omega
def qo (n : Nat) (k : Int) : List Int := (List.range n).map fun (i : Nat) => ((i : Int) + k) % (n : Int)
def WP : ASp := fun xs M Q => ∃ (n : Nat) (k : Int), xs = [.d (.int n), .d (.int k)] /\ n <= 2000 /\ Q (.d (ilD (qo n k))) M
abbrev Qn : Stmt := top 21
theorem Jg : zt ["n", "k", "place"] ["n", "k"] (zj Qn) := ⟨rfl, rfl, rfl, by decide +kernel, rfl, by decide +kernel, by decide +kernel⟩
theorem VI (a : At K mg "roll_order" Qn) (B : Blt mg) : Df P w K mg base "roll_order" ["n", "k"] 1 (cSp WP) := by
 refine dfA (k := 0) a Jg (fun _ _ _ _ _ _ us hl => match us, hl with | [_, _], _ => rfl) (fun xs M Q h => ?_) (fun f cdv A outer s H E hr => ?_)
 ·obtain ⟨_, _, rfl, _⟩ := h; rfl
 have sc := Jg
 have hsl := hsl
 refine ⟨_, (zg (zm (qK (ts := [2]) rfl rfl (zQ rfl B.range (za (pv 0) zb)) (fun _ _ _ _ => (zr (i := 2) sc.nd rfl (by first | exact Or.inl rfl | exact Or.inr rfl))) (fun _ _ _ _ => qE) (fun _ _ _ _ => (zl qu (zl zP (pv 2) (pv 1)) (pv 0)))))), ?_⟩
 refine ex2 (by walk_at "sim") ?_
 rintro xs M Q ⟨n, k, rfl, hn, q⟩
 rw [show qQ ["n", "k", "place"] [.d (.int n), .d (.int k)] = [some (.d (.int n)), some (.d (.int k)), none] from rfl]
 walk_at "ra"
 refine ⟨by omega, by omega, ?_⟩
 rw [Int.toNat_natCast]
 refine Ye (fun o => [some (.d (.int n)), some (.d (.int k)), o]) (fun i => ((i : Int) + k) % (n : Int)) ⟨_, rfl⟩ trivial (by omega) (fun o i Q hi q => ?_) fun o => ⟨_, qC _, ZP Fr.refl q⟩
 walk_at "ra"
 exact ⟨by omega, q _⟩
abbrev xk : Stmt := top 3
theorem xX : zt ["n"] ["n"] (zj xk) := ⟨rfl, rfl, rfl, by decide +kernel, rfl, by decide +kernel, by decide +kernel⟩
def yV : ASp := fun xs M Q => ∃ n : Nat, xs = [.d (.int n)] /\ n <= 1000 /\ ∀ p, M p = none -> Q (.ref p) (mup M p (.lst ((zR 0 1 n).map fun i => .d (.int i))))
theorem Zc (a : At K mg "staying" xk) (B : Blt mg) : Df P w K mg base "staying" ["n"] 1 (cSp yV) := by
 refine dfA (k := 0) a xX (fun _ _ _ _ _ _ us hl => match us, hl with | [_], _ => rfl) (fun xs M Q h => ?_) (fun f cdv A outer s H E hr => ?_)
 ·obtain ⟨_, rfl, _⟩ := h; rfl
 have sc := xX
 have hsl := hsl
 refine ⟨_, (zg (zm (K0 (zL (qg rfl) rfl B.list qM (za (zL qO rfl B.range jt (za (pv 0) zb)) zb))))), ?_⟩
 refine ex2 (by walk_at "sim") ?_
 rintro xs M Q ⟨n, rfl, hn, q⟩
 rw [show qQ ["n"] [.d (.int n)] = [some (.d (.int n))] from rfl]
 walk_at "ra"
 refine ⟨_, _, _, rfl, small_one (by omega) (by omega) (by omega) (by omega), n, by rw [rangeSize_one]; split <;> omega, by omega, fun p hp _ => ?_⟩
 exact ⟨_, _, Vn (Fr.refl.mup hp _) hp zO (qC _), q p hp⟩
def wH : ASp := fun xs M Q => ∃ n : Nat, xs = [.d (.int n)] /\ n <= 1000 /\ Q (.d (ilD (zR 0 1 n))) M
theorem Qs (vs : List V) (H : Hp) (Q : VK) (E : XK) : cSp wH vs H Q E -> cSp yV vs H Q E := Wx (fun xs M Q ⟨n, e, h1, q⟩ => ⟨n, e, h1, fun p hp => ⟨_, _, VD (Fr.refl.mup hp _) hp zO (qC _), q⟩⟩) vs H Q E
theorem Zl {n : Nat} {os : List Int} (h : zf n os) {i : Nat} (hi : i < n) : qv os (i : Int) (wkM os (i : Int)) (wkE os (i : Int)) := by
 obtain ⟨m, e, hw, _⟩ := xN h (p := (i : Int)) (by omega) (by omega)
 rw [hw.wkM, hw.wkE]; exact hw
theorem jx {n : Nat} {os : List Int} (h : zf n os) {i : Nat} (hi : i < n) (hL : qx os i) : jj os (i : Int) (wkM os (i : Int)) := (Zl h hi).per ((qw h hi).mpr hL)
theorem yF {n : Nat} {os : List Int} (h : zf n os) {i : Nat} (hi : i < n) (hL : qx os i) : wkM os (i : Int) = per os (i : Int) := (jx h hi hL).per.symm
theorem YY {n : Nat} {os : List Int} (h : zf n os) (bs : List Int) {i : Nat} (hi : i < n) : ∃ s, jo os bs (i : Int) s /\ s + 1 <= 2 * wkM os (i : Int) := by
 have hw := Zl h hi
 have m1 := hw.1
 have hb : kn os bs (i : Int) (2 * (wkM os (i : Int) - 1) + 1) <= (i : Int) := by
  rw [yv, show wkM os (i : Int) - 1 + 1 = wkM os (i : Int) by omega]
  have := hw.2.2.1
  rw [hw.2.1] at this
  exact this
 obtain ⟨s, ⟨s1, s2⟩, s3⟩ := yl (p := fun k => 1 <= k /\ kn os bs (i : Int) k <= (i : Int)) _ ⟨by omega, hb⟩
 refine ⟨s, ⟨s1, s2, fun j j1 js => ?_⟩, ?_⟩
 ·have := s3 j js
  rcases (show (i : Int) < kn os bs (i : Int) j \/ kn os bs (i : Int) j <= (i : Int) by omega) with z | z
  ·exact z
  ·exact absurd ⟨j1, z⟩ this
 ·rcases Nat.lt_or_ge (2 * (wkM os (i : Int) - 1) + 1) s with z | z
  ·exact absurd ⟨by omega, hb⟩ (s3 _ z)
  ·omega
theorem Ba {n : Nat} {os : List Int} (h : zf n os) (bs : List Int) {i : Nat} (hi : i < n) : bth os bs (i : Int) < 2 * wkM os (i : Int) := by
 obtain ⟨s, hs, hl⟩ := YY h bs hi
 rw [hs.bth]; omega
theorem Xa {n : Nat} {os bs : List Int} (h : zf n os) (hb : zJ os bs) {i : Nat} (hi : i < n) (hL : qx os i) : bth os bs (i : Int) + 1 = 2 * wkM os (i : Int) := by
 have hw := Zl h hi
 have hp := jx h hi hL
 have hbo := hb.ord h
 obtain ⟨s, hs, hl⟩ := YY h bs hi
 rw [hs.bth]
 obtain ⟨s1, s2, s3⟩ := hs
 rcases Nat.mod_two_eq_zero_or_one s with z | z
 ·exfalso
  obtain ⟨k, rfl⟩ : ∃ k, s = 2 * k := ⟨s / 2, by omega⟩
  rw [vv] at s2
  have bd := zW hbo (p := (i : Int)) (by omega) (by omega) k
  have r := yw h hb (p := (i : Int)) (by omega) (by omega) ⟨k, rfl⟩
  have bi := yq h hb (x := (i : Int)) (by omega) (by omega) k
  rcases Int.lt_or_eq_of_le s2 with y | y
  ·have r2 := r.symm h (by omega) (by omega)
   obtain ⟨q, hq⟩ : ∃ q : Nat, itn bs k (i : Int) = q := ⟨(itn bs k (i : Int)).toNat, by omega⟩
   rw [hq] at r2 y
   exact hL q (by omega) r2
  ·rw [y] at bi
   exact hp.2.2 k (by omega) (by omega) bi
 ·obtain ⟨k, rfl⟩ : ∃ k, s = 2 * k + 1 := ⟨s / 2, by omega⟩
  rw [yv] at s2
  rcases Nat.lt_or_ge (k + 1) (wkM os (i : Int)) with y | y
  ·have := hw.2.2.2 (k + 1) (by omega) y
   omega
  ·omega
theorem kK {n : Nat} {os : List Int} (h : zf n os) (mk : Nat) {x : Int} : ∀ {i : Nat}, i <= n -> (Mkd os mk i x ↔ qr os i x /\ x < (mk : Int))
 | 0, _ => ⟨fun z => z.elim, fun ⟨⟨q, hq, _⟩, _⟩ => by omega⟩
 | i + 1, hi => by
  have ih := kK h mk (x := x) (i := i) (by omega)
  have ii := kK h mk (x := (i : Int)) (i := i) (by omega)
  show Mkd os mk i x \/ (¬ Mkd os mk i (i : Int) /\ wkE os (i : Int) = (i : Int) /\ Rch os (i : Int) x /\ x < (mk : Int)) ↔ _
  rw [ih, ii, qw h (by omega), jd]
  by_cases hs : qr os i (i : Int)
  ·rw [qr.step h (by omega) hs]
   constructor
   ·rintro (z | z)
    ·exact z
    ·exact absurd hs z.2.1
   ·exact .inl
  ·rw [qr.succ]
   constructor
   ·rintro (z | z)
    ·exact ⟨.inl z.1, z.2⟩
    ·exact ⟨.inr z.2.2.1, z.2.2.2⟩
   ·rintro ⟨z | z, y⟩
    ·exact .inl ⟨z, y⟩
    ·exact .inr ⟨fun w => hs w.1, hs, z, y⟩
theorem kR {n : Nat} {os : List Int} (h : zf n os) (mk : Nat) {i : Nat} (hi : i < n) (hL : qx os i) : cnt os mk i = (wkM os (i : Int) : Nat) := by
 unfold L2.cnt
 rw [if_neg (fun z => jd.mp hL ((kK h mk (by omega)).mp z).1)]
theorem vE {n : Nat} {os : List Int} (h : zf n os) {mk : Nat} {i : Nat} (hi : i < n) (hm : mk <= i) : cnt os mk i = (wkM os (i : Int) : Nat) := by
 unfold L2.cnt
 rw [if_neg (fun z => by have := ((kK h mk (by omega)).mp z).2; omega)]
theorem Qw {n : Nat} {os : List Int} (h : zf n os) {mk : Nat} {i : Nat} (hi : i < n) (hm : i < mk) (hL : ¬ qx os i) : cnt os mk i = 0 := by
 unfold L2.cnt
 rw [if_pos ((kK h mk (by omega)).mpr ⟨Classical.byContradiction fun z => hL (jd.mpr z), by omega⟩)]
theorem Yh {n : Nat} {os : List Int} (h : zf n os) {a b : Nat} (hab : a <= b) {i : Nat} (hi : i < n) : cnt os b i <= cnt os a i := by
 by_cases hL : qx os i
 ·rw [kR h b hi hL, kR h a hi hL]; exact Int.le_refl _
 ·by_cases hb : i < b
  ·rw [Qw h hi hb hL]
   unfold L2.cnt
   split <;> omega
  ·rw [vE h hi (by omega), vE h hi (by omega)]; exact Int.le_refl _
theorem yH (l : List Int) (x : Int) : (l ++ [x]).sum = l.sum + x := by rw [List.sum_append]; simp
theorem xh {n : Nat} {os : List Int} (h : zf n os) {a b : Nat} (hab : a <= b) : ∀ k, k <= n -> (qy os b k).sum <= (qy os a k).sum
 | 0, _ => by simp [qy]
 | k + 1, hk => by
  have := xh h hab k (by omega)
  have := Yh h hab (i := k) (by omega)
  rw [jw, jw, yH, yH]
  omega
theorem XG {n : Nat} {os : List Int} (h : zf n os) : qy os 0 n = wkL os n := by
 unfold qy wkL
 refine List.map_congr_left fun i hi => vE h (by simpa using hi) (by omega)
theorem wX {n : Nat} {os : List Int} (h : zf n os) : ∀ k, k <= n -> (qy os n k).sum + Qz os k = (kx (zG os k) : Int) + k
 | 0, _ => by simp [qy, Qz, zG, kx]
 | k + 1, hk => by
  have ih := wX h k (by omega)
  rw [jw, yH]
  have ho : Qz os (k + 1) = Qz os k + if os.getD k 0 = (k : Int) then 0 else 1 := by
   unfold Qz
   rw [List.range_succ, List.filter_append, List.length_append]
   by_cases c : os.getD k 0 = (k : Int)
   ·rw [if_pos c, List.filter_cons_of_neg (by rw [decide_eq_true c]; decide)]; rfl
   ·rw [if_neg c, List.filter_cons_of_pos (by rw [decide_eq_false c]; rfl)]; rfl
  rw [ho]
  have fi := wg h (i := k) (by omega)
  show _ = ((kx (zG os k ++ _) : Nat) : Int) + _
  rw [ZD]
  by_cases hL : qx os k
  ·rw [kR h n (by omega) hL, yF h (by omega) hL]
   by_cases c : os.getD k 0 = (k : Int)
   ·have p1 : ¬ 1 < per os (k : Int) := fun z => fi.mp z c
    have p0 := (jx h (by omega) hL).1
    rw [yF h (by omega) hL] at p0
    rw [if_pos c, if_neg (show ¬ (qx os k /\ 1 < per os (k : Int)) from fun z => p1 z.2)]
    have : kx [] = 0 := rfl
    push_cast
    omega
   ·have p1 := fi.mpr c
    have hlen : (zn os (k : Int)).length = per os (k : Int) := by unfold zn; rw [qk]
    rw [if_neg c, if_pos (show qx os k /\ 1 < per os (k : Int) from ⟨hL, p1⟩)]
    have : kx [zn os (k : Int)] = per os (k : Int) := by unfold kx; simp [hlen]
    push_cast
    omega
  ·rw [Qw h (by omega) (by omega) hL, if_neg (show ¬ (qx os k /\ 1 < per os (k : Int)) from fun z => hL z.1)]
   have c : ¬ os.getD k 0 = (k : Int) := by
    obtain ⟨q, hq, r⟩ : ∃ q : Nat, q < k /\ Rch os (q : Int) (k : Int) := Classical.byContradiction fun z => hL fun q hq r => z ⟨q, hq, r⟩
    intro e
    obtain ⟨j, hj⟩ := r.symm h (by omega) (by omega)
    have fx : ∀ j, itn os j (k : Int) = (k : Int) := fun j => by
     induction j with
     | zero => rfl
     | succ j ih => show os.getD (itn os j (k : Int)).toNat 0 = _; rw [ih, Int.toNat_natCast]; exact e
    rw [fx] at hj
    omega
   rw [if_neg c]
   have : kx [] = 0 := rfl
   push_cast
   omega
theorem Y1 {n : Nat} {os : List Int} (h : zf n os) : (qy os n n).sum = (n : Int) := by
 have := wX h n (Nat.le_refl _)
 rw [Xe h] at this
 omega
theorem Zg {n : Nat} {os bs : List Int} (h : zf n os) (hb : zJ os bs) : ∀ k, k <= n -> ldL bs k = ldL os k
 | 0, _ => rfl
 | k + 1, hk => by
  have e1 := Km h hb (i := k) (by omega)
  have e2 := Va h hb (i := k) (by omega)
  show ldL bs k ++ _ = ldL os k ++ _
  rw [Zg h hb k (by omega)]
  congr 1
  have : (¬ (k : Int) = bs.getD k 0 /\ wkE bs (k : Int) = (k : Int)) ↔ (¬ (k : Int) = os.getD k 0 /\ wkE os (k : Int) = (k : Int)) := by
   rw [qw (hb.ord h) (by omega), qw h (by omega), e1, show ((k : Int) = bs.getD k 0) ↔ ((k : Int) = os.getD k 0) from ⟨fun z => (e2.mp z.symm).symm, fun z => (e2.mpr z.symm).symm⟩]
  simp only [this]
theorem JD {os : List Int} {p : Int} {m : Nat} (m1 : 1 <= m) (h : itn os m p <= p) (hj : ∀ j, 1 <= j -> j < m -> p < itn os j p) : wkM os p = m := qv.wkM ⟨m1, rfl, h, hj⟩
theorem Qy (os : List Int) {n i : Nat} (hi : i < n) (h : i < (wkL os n).length) : (wkL os n)[i] = ((wkM os (i : Int) : Nat) : Int) := by simp [wkL]
theorem Ww (n : Nat) : wkL (zR 0 1 n) n = List.replicate n 1 := by
 refine List.ext_getElem (by rw [qU, List.length_replicate]) fun i h1 h2 => ?_
 have h3 : i < n := by rw [qU] at h1; exact h1
 rw [List.getElem_replicate, Qy _ h3 h1]
 rw [JD (m := 1) (Nat.le_refl _) (by rw [Jz n (by omega) (by omega)]; exact Int.le_refl _) (fun j a b => by omega)]
 rfl
theorem Q9 (n : Nat) : ∀ k, k <= n -> ldL (zR 0 1 n) k = []
 | 0, _ => rfl
 | k + 1, hk => by
  show ldL (zR 0 1 n) k ++ _ = []
  rw [Q9 n k (by omega), if_neg, List.append_nil]
  rintro ⟨c, _⟩
  have := Jz n (p := (k : Int)) (by omega) (by omega)
  exact c (by rw [<- Int.toNat_natCast k]; exact this.symm)
theorem X3 (n : Nat) : (List.replicate n (1 : Int)).sum = n := by
 induction n with
 | zero => rfl
 | succ n ih => rw [List.replicate_succ, List.sum_cons, ih]; push_cast; omega
theorem jN {n : Nat} {k : Int} {i : Nat} (h : i < n) : (qo n k).getD i 0 = ((i : Int) + k) % (n : Int) := by
 unfold qo
 rw [zB (by rw [List.length_map, List.length_range]; exact h), List.getElem_map, List.getElem_range]
theorem we {n i : Nat} : ∀ j, i + j < n -> itn (qo n 1) j (i : Int) = ((i + j : Nat) : Int)
 | 0, _ => rfl
 | j + 1, h => by
  show (qo n 1).getD (itn (qo n 1) j (i : Int)).toNat 0 = _
  rw [we j (by omega), Int.toNat_natCast, jN (by omega), Int.emod_eq_of_lt (by omega) (by omega)]
  push_cast; omega
theorem BF (n : Nat) : wkL (qo n 1) n = (List.range n).map fun (i : Nat) => ((n : Int) - (i : Int)) := by
 unfold wkL
 refine List.map_congr_left fun i hi => ?_
 have hi : i < n := by simpa using hi
 have e : itn (qo n 1) (n - i) (i : Int) = 0 := by
  rw [show n - i = (n - i - 1) + 1 by omega]
  show (qo n 1).getD (itn (qo n 1) (n - i - 1) (i : Int)).toNat 0 = _
  rw [we (n - i - 1) (by omega), Int.toNat_natCast, jN (by omega), show (((i + (n - i - 1) : Nat) : Int) + 1) = (n : Int) by omega]
  exact Int.emod_self
 rw [JD (m := n - i) (by omega) (by rw [e]; omega) (fun j a b => by rw [we j (by omega)]; omega)]
 omega
theorem Yp {n i : Nat} (h : i + 1 < n) : nxt (qo n (-1)) ((i + 1 : Nat) : Int) = (i : Int) := by
 unfold nxt
 rw [Int.toNat_natCast, jN h, Int.emod_eq_of_lt (by omega) (by omega)]
 omega
theorem Vg {n : Nat} (h : 0 < n) : nxt (qo n (-1)) 0 = ((n - 1 : Nat) : Int) := by
 unfold nxt
 have := jN (k := -1) h
 rw [show (0 : Int).toNat = 0 from rfl, this, show (((0 : Nat) : Int) + -1) = ((n - 1 : Nat) : Int) + (n : Int) * (-1) by omega, Int.add_mul_emod_self_left]
 exact Int.emod_eq_of_lt (by omega) (by omega)
theorem xm {n : Nat} (h : 0 < n) : ∀ j, 1 <= j -> j <= n -> itn (qo n (-1)) j 0 = ((n - j : Nat) : Int)
 | 0, h1, _ => by omega
 | 1, _, _ => Vg h
 | j + 2, _, hj => by
  show nxt (qo n (-1)) (itn (qo n (-1)) (j + 1) 0) = _
  rw [xm h (j + 1) (by omega) (by omega), show n - (j + 1) = (n - (j + 2)) + 1 by omega]
  exact Yp (by omega)
theorem XY {n : Nat} (h : 0 < n) : wkL (qo n (-1)) n = [(n : Int)] ++ List.replicate (n - 1) 1 := by
 refine List.ext_getElem (by rw [qU, List.length_append, List.length_replicate]; show n = 1 + (n - 1); omega) fun i h1 h2 => ?_
 have h3 : i < n := by rw [qU] at h1; exact h1
 rw [Qy _ h3 h1]
 cases i with
 | zero =>
  rw [show wkM (qo n (-1)) ((0 : Nat) : Int) = n from JD h (by show itn _ n 0 <= 0; rw [xm h n h (Nat.le_refl _)]; omega) (fun j a b => by show 0 < itn _ j 0; rw [xm h j a (by omega)]; omega)]
  rfl
 | succ i =>
  rw [show wkM (qo n (-1)) ((i + 1 : Nat) : Int) = 1 from JD (Nat.le_refl _) (by show nxt (qo n (-1)) ((i + 1 : Nat) : Int) <= _; rw [Yp h3]; omega) (fun j a b => by omega)]
  rw [List.getElem_append_right (by simp), List.getElem_replicate]
  rfl
theorem Zs {n : Nat} {os : List Int} (h : zf n os) {i : Nat} (hi : i < n) (hL : qx os i) : (zn os (i : Int)).length = wkM os (i : Int) /\ 1 <= wkM os (i : Int) /\ wkM os (i : Int) <= n /\ (zn os (i : Int)).getD 0 0 = (i : Int) := by
 have hp := jx h hi hL
 obtain ⟨m, hm, hmn⟩ := jY h (p := (i : Int)) (by omega) (by omega)
 have e := hp.uniq hm
 refine ⟨by unfold zn; rw [qk, yF h hi hL], hp.1, by omega, ?_⟩
 unfold zn itl
 rw [hp.per, List.getD_eq_getElem?_getD, List.getElem?_map, List.getElem?_range hp.1]
 rfl
theorem JZ {n : Nat} {os : List Int} (h : zf n os) {i : Nat} (hi : i < n) (hL : qx os i) {x : Int} (hx : x ∈ (zn os (i : Int)).drop 1) : ∃ k : Nat, x = k /\ k < n /\ ¬ qx os k := by
 have hw := Zl h hi
 obtain ⟨j, hj, e⟩ := List.getElem_of_mem hx
 rw [List.getElem_drop] at e
 rw [List.length_drop, (Zs h hi hL).1] at hj
 have e2 : itn os (1 + j) (i : Int) = x := by rw [<- e]; simp [zn, itl]
 have b := zW h (p := (i : Int)) (by omega) (by omega) (1 + j)
 have g := hw.2.2.2 (1 + j) (by omega) (by omega)
 rw [e2] at b g
 refine ⟨x.toNat, by omega, by omega, fun z => z i (by omega) ⟨1 + j, by rw [e2]; omega⟩⟩
theorem ZQ (os : List Int) {n i : Nat} (hi : i < n) : (wkL os n).getD i 0 = ((wkM os (i : Int) : Nat) : Int) := by rw [zB (by rw [qU]; exact hi)]; exact Qy _ hi _
theorem yZ (os : List Int) {mk n i : Nat} (hi : i < n) : (qy os mk n).getD i 0 = L2.cnt os mk i := by rw [zB (by rw [qX]; exact hi)]; simp [qy]
theorem Jj {n : Nat} {os : List Int} (h : zf n os) (hn : n <= 1000) (mk : Nat) : ∀ x ∈ qy os mk n, 0 <= x /\ x <= (1000000 : Int) := by
 intro x hx
 unfold qy at hx
 obtain ⟨i, hi, e⟩ := List.mem_map.mp hx
 have hi' : i < n := by simpa using hi
 obtain ⟨m, e2, hw, hm⟩ := xN h (p := (i : Int)) (by omega) (by omega)
 have := hw.wkM
 unfold L2.cnt at e
 split at e <;> omega
theorem VM (l : List Int) : wl l (some 1) none = l.drop 1 := JL l 1
def aWR : ASp := fun xs M Q => ∃ (n : Nat) (os : List Int) (rs : List (List Int)), xs = [.d (ilD os), .d (.lst (rs.map ilD))] /\ zf n os /\ n <= 1000 /\ rs.length <= 2000 /\ (∀ r ∈ rs, ∃ i : Nat, i < n /\ qx os i /\ r = zn os (i : Int)) /\ Q (.d (.bl true)) M
abbrev Bo : Stmt := top 32
theorem WL : zt ["_law_order_here", "_law_some", "_law_marked", "_law_ring", "_law_both", "_law_alone", "_law_place"] ["_law_order_here", "_law_some"] (zj Bo) := ⟨rfl, rfl, rfl, by decide +kernel, rfl, by decide +kernel, by decide +kernel⟩
theorem DI (a : At K mg "_law_walks_right" Bo) (B : Blt mg) (Bsum : mg "sum" = none) (D_walks_both : Df P w K mg base "walks_both" ["order"] 9 (cSp Jt)) (D_walks : Df P w K mg base "walks" ["order"] 9 (cSp vM)) (D_walks_marked : Df P w K mg base "walks_marked" ["order", "marks"] 9 (cSp vQ)) (D_leads : Df P w K mg base "leads" ["order", "place"] 9 (cSp Xt)) : Df P w K mg base "_law_walks_right" ["_law_order_here", "_law_some"] 10 (cSp aWR) := by
 refine dfA (k := 9) a WL (fun _ _ _ _ _ _ us hl => match us, hl with | [_, _], _ => rfl) (fun xs M Q h => ?_) (fun f cdv A outer s H E hr => ?_)
 ·obtain ⟨_, _, _, rfl, _⟩ := h; rfl
 have sc := WL
 have hsl := hsl
 refine ⟨_, (zc (QF (i := 4) (j := 5) rfl sc.nd rfl rfl (by decide) rfl rfl (za (zq D_walks_both hr rfl (za (pv 0) zb)) (za (zq D_walks hr rfl (za (pv 0) zb)) zb)) rfl)
  (zc (zy (i := 2) sc.nd rfl (by first | exact Or.inl rfl | exact Or.inr rfl) (zq D_walks_marked hr rfl (za (pv 0) (za (zo zp rfl B.len qb (za (pv 0) zb)) zb))))
  (zc (qF PassesOwn.never rfl (ya (pv 1)) (zr (i := 3) sc.nd rfl (by first | exact Or.inl rfl | exact Or.inr rfl)) (zc (zS (PW.pt (jR (zx (jD hr.units) (zE ql (pv 5) (zE ql (pv 3) ze (fun _ _ => rfl)) (fun _ _ => rfl)) (zo zp rfl B.len qb (za (pv 3) zb)) (zu _)) (jR (zx (jD hr.units) (zE ql (pv 4) (zE ql (pv 3) ze (fun _ _ => rfl)) (fun _ _ => rfl)) (zl jL (zl qI ze (zo zp rfl B.len qb (za (pv 3) zb))) ze) (zu _)) (jz (zx (jD hr.units) (zE ql (pv 2) (zE ql (pv 3) ze (fun _ _ => rfl)) (fun _ _ => rfl)) (zo zp rfl B.len qb (za (pv 3) zb)) (zu _)))))) (zg (zm qp)) zD)
  (zc (qF PassesOwn.never rfl (ya (kS xO (pv 3) (kI ze) wa)) (zr (i := 6) sc.nd rfl (by first | exact Or.inl rfl | exact Or.inr rfl)) (zg (zS (PW.pt (jR (qh (zq D_leads hr rfl (za (pv 0) (za (pv 6) zb))) (fun _ => rfl)) (jR (zx (jD hr.units) (zE ql (pv 2) (pv 6) (fun _ _ => rfl)) ze (zu _)) (jz (qG (zx vo (zE ql (pv 4) (pv 6) (fun _ _ => rfl)) (zl qI ze (zE ql (pv 5) (pv 6) (fun _ _ => rfl))) (zu _))))))) (zg (zm qp)) zD)))
  (zg (zS (qG (qh (zq D_leads hr rfl (za (pv 0) (za (zE ql (pv 3) ze (fun _ _ => rfl)) zb))) (fun _ => rfl))) (zg (zm qp)) zD)))))
  (zg (zm (qS (j9 hr.units) (zo (xl rfl) rfl Bsum QP (za (pv 2) zb)) (zo zp rfl B.len qb (za (pv 0) zb)) (zu _))))))), ?_⟩
 refine ex2 (by walk_at "sim") ?_
 rintro xs M Q ⟨n, os, rs, rfl, ho, hn, lr, hrs, q⟩
 rw [show qQ ["_law_order_here", "_law_some", "_law_marked", "_law_ring", "_law_both", "_law_alone", "_law_place"] [.d (ilD os), .d (.lst (rs.map ilD))] = [some (.d (ilD os)), some (.d (.lst (rs.map ilD))), none, none, none, none, none] from rfl]
 have h1 := ho.1
 obtain ⟨bs, hb⟩ := Vr ho
 have so : qq (.d (ilD os)) M = some (os.map fun i => .d (.int i)) := by rw [<- jQ]; rfl
 refine zH fun r hr0 => ?_
 walk_at "ra"
 refine ⟨_, n, os, bs, rfl, so, ho, hb, hn, _, n, os, rfl, so, ho, hn, ?_⟩
 subst hr0
 refine zH fun r hr0 => ?_
 walk_at "ra"
 refine ⟨_, n, n, os, by rw [h1], so, ho, hn, Nat.le_refl _, ?_⟩
 subst hr0
 refine zH fun r hr0 => ?_
 walk_at "ra"
 refine ⟨fun i ρ M' => M = M' /\ ∃ x3 x6, ρ = [some (AV.d (ilD os)), some (AV.d (Dat.lst (List.map ilD rs))), some (AV.d (ilD (qy os n n))), x3, some (AV.d (ilD (btL os bs n))), some (AV.d (ilD (wkL os n))), x6], ⟨rfl, _, _, rfl⟩, ?_, ?_⟩
 ·rintro i y ρ M' hy ⟨rfl, x3, x6, rfl⟩
  rw [List.map_map, List.getElem?_map] at hy
  cases e : rs[i]? with
  | none => rw [e] at hy; cases hy
  | some rg =>
   rw [e] at hy
   cases hy
   obtain ⟨k, hk, hL, hrk⟩ := hrs rg (List.mem_of_getElem? e)
   obtain ⟨g1, g2, g3, g4⟩ := Zs ho hk hL
   have gt : ∀ x ∈ rg.drop 1, ∃ k : Nat, x = k /\ k < n /\ ¬ qx os k := fun x hx => JZ ho hk hL (hrk ▸ hx)
   rw [<- hrk] at g1 g4
   have a0 := qt (ns := rg) (i := 0) (by omega) (by omega)
   rw [Int.toNat_zero, g4] at a0
   have a1 := qt (ns := wkL os n) (i := (k : Int)) (by omega) (by rw [qU]; omega)
   have a2 := qt (ns := btL os bs n) (i := (k : Int)) (by omega) (by rw [xT]; omega)
   have a3 := qt (ns := qy os n n) (i := (k : Int)) (by omega) (by rw [qX]; omega)
   rw [Int.toNat_natCast] at a1 a2 a3
   rw [ZQ _ hk] at a1
   rw [w8 _ _ hk] at a2
   rw [yZ _ hk, kR ho n hk hL] at a3
   have bl := Xa ho hb hk hL
   refine ⟨trivial, ?_⟩
   show Qr _ _ _ _ _ _
   refine zH fun r2 hr2 => ?_
   walk_at "ra"
   have sr : qq ((AV.d ∘ ilD) rg) M = some (rg.map fun i => .d (.int i)) := by rw [<- jQ]; rfl
   refine ⟨_, sr, _, a0, _, rfl, _, a1, _, sr, _, rfl, by simp [dp], ?_⟩
   rw [if_neg (by rw [List.length_map, g1]; simp [eqD])]
   refine ⟨_, sr, _, a0, _, rfl, _, a2, _, sr, Qk (by omega) (by omega), _, rfl, by simp [dp], ?_⟩
   rw [if_neg (by rw [List.length_map, g1]; rw [show (2 * ((wkM os (k : Int) : Nat) : Int) - 1) = ((bth os bs (k : Int) : Nat) : Int) by omega]; simp [eqD])]
   refine ⟨_, sr, _, a0, _, rfl, _, a3, _, sr, _, rfl, by simp [dp], ?_⟩
   rw [if_neg (by rw [List.length_map, g1]; simp [eqD])]
   subst hr2
   refine zH fun r2 hr2 => ?_
   walk_at "ra"
   have sl : qZ ((AV.d ∘ ilD) rg) M = some (rg.map fun i => .d (.int i)) := by rw [<- jQ]; rfl
   refine ⟨_, sl, (rg.drop 1).map .int, by rw [Xu, VM, qC], ?_⟩
   refine ⟨fun j ρ M' => M = M' /\ ∃ x6, ρ = [some (AV.d (ilD os)), some (AV.d (Dat.lst (List.map ilD rs))), some (AV.d (ilD (qy os n n))), some (AV.d (ilD rg)), some (AV.d (ilD (btL os bs n))), some (AV.d (ilD (wkL os n))), x6], ⟨rfl, _, rfl⟩, ?_, ?_⟩
   ·rintro j y ρ M' hy ⟨rfl, x6, rfl⟩
    rw [List.map_map, List.getElem?_map] at hy
    cases e2 : (rg.drop 1)[j]? with
    | none => rw [e2] at hy; cases hy
    | some z =>
     rw [e2] at hy
     cases hy
     obtain ⟨x, rfl, hx, nL⟩ := gt z (List.mem_of_getElem? e2)
     have b1 := qt (ns := wkL os n) (i := (x : Int)) (by omega) (by rw [qU]; omega)
     have b2 := qt (ns := btL os bs n) (i := (x : Int)) (by omega) (by rw [xT]; omega)
     have b3 := qt (ns := qy os n n) (i := (x : Int)) (by omega) (by rw [qX]; omega)
     rw [Int.toNat_natCast] at b1 b2 b3
     rw [ZQ _ hx] at b1
     rw [w8 _ _ hx] at b2
     rw [yZ _ hx, Qw ho hx hx nL] at b3
     have lt := Ba ho bs hx
     have wm := (Zl ho hx).1
     refine ⟨trivial, ?_⟩
     show ky _ _ _ _ _
     walk_at "ra"
     refine ⟨_, n, os, _, rfl, so, ho, by omega, by omega, _, rfl, ?_⟩
     rw [if_neg (by simpa using fun z => nL ((qw ho hx).mp z))]
     refine ⟨_, rfl, _, b3, _, rfl, by simp [dp], ?_⟩
     rw [if_neg (by simp [eqD])]
     refine ⟨_, rfl, _, b2, _, rfl, _, b1, _, rfl, Qk (by omega) (by omega), _, rfl, ?_⟩
     rw [if_neg (by omega)]
     exact ⟨rfl, _, rfl⟩
   ·rintro ρ M' ⟨rfl, x6', rfl⟩
    refine ⟨trivial, ?_⟩
    subst hr2
    walk_at "ra"
    refine ⟨_, a0, _, n, os, _, rfl, so, ho, by omega, by omega, _, rfl, ?_⟩
    rw [decide_eq_true ((qw ho hk).mpr hL), if_neg (by decide)]
    exact ⟨rfl, _, rfl⟩
 ·rintro ρ M' ⟨rfl, x3, x6, rfl⟩
  subst hr0
  walk_at "ra"
  refine ⟨_, rfl, Jj ho hn n, by rw [qX]; omega, ?_⟩
  rw [Y1 ho, h1, decide_eq_true rfl]
  exact ZP Fr.refl q
theorem YV (n : Nat) : pur (List.replicate n (AV.d (.int 1))) = some (List.replicate n (Dat.int 1)) := by
 have := qC (List.replicate n 1)
 rw [List.map_replicate, List.map_replicate] at this
 exact this
theorem Jo (n : Int) (k : Nat) : Dat.lst (Dat.int n :: List.replicate k (.int 1)) = ilD (n :: List.replicate k 1) := by
 show _ = Dat.lst ((n :: List.replicate k 1).map .int)
 rw [List.map_cons, List.map_replicate]
def Jx : ASp := fun xs M Q => ∃ n : Nat, xs = [.d (.int n)] /\ 1 <= n /\ n <= 1000 /\ Q (.d (.bl true)) M
abbrev yo : Stmt := top 33
theorem y8 : zt ["_law_n", "_law_on", "_law_back", "_law_place"] ["_law_n"] (zj yo) := ⟨rfl, rfl, rfl, by decide +kernel, rfl, by decide +kernel, by decide +kernel⟩
theorem JV (a : At K mg "_law_rolled" yo) (B : Blt mg) (D_walks : Df P w K mg base "walks" ["order"] 9 (cSp vM)) (D_roll_order : Df P w K mg base "roll_order" ["n", "k"] 9 (cSp WP)) : Df P w K mg base "_law_rolled" ["_law_n"] 10 (cSp Jx) := by
 refine dfA (k := 9) a y8 (fun _ _ _ _ _ _ us hl => match us, hl with | [_], _ => rfl) (fun xs M Q h => ?_) (fun f cdv A outer s H E hr => ?_)
 ·obtain ⟨_, rfl, _⟩ := h; rfl
 have sc := y8
 have hsl := hsl
 refine ⟨_, (zc (QF (i := 1) (j := 2) rfl sc.nd rfl rfl (by decide) rfl rfl (za (zq D_walks hr rfl (za (zq D_roll_order hr rfl (za (pv 0) (za ze zb))) zb)) (za (zq D_walks hr rfl (za (zq D_roll_order hr rfl (za (pv 0) (za (WX KQ ze) zb))) zb)) zb)) rfl)
  (zc (zS (zx (j9 hr.units) (pv 0) ze (zu _)) (zg (zm (XM (qS (j9 hr.units) (pv 1) (zZ (za ze zb)) (zu _)) (KF (qS (j9 hr.units) (pv 2) (zZ (za ze zb)) (zu _)))))) zD)
  (zg (zm (XM (qS (j9 hr.units) (pv 1) (qK (ts := [3]) rfl rfl (zQ rfl B.range (za (pv 0) zb)) (fun _ _ _ _ => (zr (i := 3) sc.nd rfl (by first | exact Or.inl rfl | exact Or.inr rfl))) (fun _ _ _ _ => qE) (fun _ _ _ _ => (zl jL (pv 0) (pv 3)))) (zu _)) (KF (qS (j9 hr.units) (pv 2) (zl xW (zZ (za (pv 0) zb)) (zl xq (zZ (za ze zb)) (zl jL (pv 0) ze))) (zu _)))))))), ?_⟩
 refine ex2 (by walk_at "sim") ?_
 rintro xs M Q ⟨n, rfl, n1, hn, q⟩
 rw [show qQ ["_law_n", "_law_on", "_law_back", "_law_place"] [.d (.int n)] = [some (.d (.int n)), none, none, none] from rfl]
 refine zH fun r hr0 => ?_
 walk_at "ra"
 have ro : ∀ k, zf n (qo n k) := fun k => ZW (by omega) k
 refine ⟨n, 1, rfl, by omega, _, n, _, rfl, by rw [<- jQ]; rfl, ro 1, hn, n, -1, rfl, by omega, _, n, _, rfl, by rw [<- jQ]; rfl, ro (-1), hn, ?_⟩
 subst hr0
 walk_at "ra"
 have w1 := BF n
 have w2 := XY (n := n) (by omega)
 by_cases c : (n : Int) = 1
 ·rw [if_pos c]
  obtain rfl : n = 1 := by omega
  rw [w1, w2]
  refine ⟨by omega, qc _, qc [1], ?_⟩
  have e1 : eqD (ilD (List.map (fun (i : Nat) => (((1 : Nat) : Int) - (i : Int))) (List.range 1))) (Dat.lst [Dat.int 1]) = true := (qP _ [1]).trans (decide_eq_true (by decide))
  rw [e1, if_pos rfl]
  refine ⟨by omega, qc _, qc [1], ?_⟩
  rw [show eqD (ilD ([((1 : Nat) : Int)] ++ List.replicate (1 - 1) 1)) (Dat.lst [Dat.int 1]) = true from (qP _ [1]).trans (decide_eq_true (by decide))]
  exact ZP Fr.refl q
 ·rw [if_neg c, Int.toNat_natCast]
  refine ⟨by omega, by omega, ?_⟩
  refine Ye (fun o => [some (.d (.int n)), some (AV.d (ilD (wkL (qo n 1) n))), some (AV.d (ilD (wkL (qo n (-1)) n))), o]) (fun i => ((n : Int) - (i : Int))) ⟨_, rfl⟩ trivial (by omega) (fun o i Q hi q => ?_) fun o => ?_
  ·walk_at "ra"
   exact q _
  ·refine ⟨_, qC _, qc _, qc _, ?_⟩
   rw [w1, if_pos (show eqD (ilD _) (ilD _) = true by rw [qP]; exact decide_eq_true rfl)]
   rw [show ((n : Int) - 1).toNat = n - 1 by omega, wK]
   refine ⟨by omega, by omega, by omega, by omega, by omega, List.replicate (n - 1) (.int 1), YV _, by rw [List.length_replicate]; omega, qc _, ?_, ?_⟩
   ·have := qc ((n : Int) :: List.replicate (n - 1) 1)
    rw [<- Jo] at this
    exact this
   ·rw [w2, Jo, qP]
    rw [show decide ([(n : Int)] ++ List.replicate (n - 1) 1 = (n : Int) :: List.replicate (n - 1) 1) = true from decide_eq_true rfl]
    exact ZP Fr.refl q
abbrev Yy : Stmt := top 34
theorem Xk : zt ["_law_script", "_law_cells", "_law_k", "_law_box_here", "_law_order_here", "_law_n", "_law_some", "_law_stays", "_law_sums", "_law_led", "_law_steps", "_law_place", "_law_marks", "_law_ring"] ["_law_script"] (zj Yy) := ⟨rfl, rfl, rfl, by decide +kernel, rfl, by decide +kernel, by decide +kernel⟩
def Q2 (K : PySem.W.Frag) : Sp := fun vs H Q _ => ∃ (a : Addr) (ns : List Int), vs = [.ref a] /\ SqL K H a (ns.map V.int) /\ ns.length <= 63 /\ ∀ H', Q (.bl true) H'
def Dn (K : PySem.W.Frag) : ASp := fun xs M Q => ∃ ns : List Int, xs = [.d (.scr K ns)] /\ ns.length <= 63 /\ Q (.d (.bl true)) M
theorem sp_law (vs : List V) (H : Hp) (Q : VK) (E : XK) (h : Q2 K vs H Q E) : cSp (Dn K) vs H Q E := by
 obtain ⟨a, ns, rfl, ha, hn, q⟩ := h
 refine ⟨[.d (.scr K ns)], fun _ => none, fun _ => False, fun x _ => x = .d (.bl true), ⟨(fun a o e => nomatch e), (fun a h => h rfl), fun a h => h.elim⟩, .cons (VY (fun _ z => z) ha) .nil, ⟨ns, rfl, hn, rfl⟩, fun x M' v H' O' hx _ _ r => ?_⟩
 subst hx
 rw [xr r]
 exact q H'
theorem y6 {os : List Int} {r : List Int} : ∀ {i : Nat}, r ∈ zG os i -> ∃ k : Nat, k < i /\ qx os k /\ r = zn os (k : Int)
 | 0, hr => by simp [zG] at hr
 | i + 1, hr => by
  unfold zG at hr
  rcases List.mem_append.mp hr with z | z
  ·obtain ⟨k, hk, e⟩ := y6 z
   exact ⟨k, by omega, e⟩
  ·by_cases c : qx os i /\ 1 < per os (i : Int)
   ·rw [if_pos c] at z
    exact ⟨i, by omega, c.1, List.mem_singleton.mp z⟩
   ·rw [if_neg c] at z; cases z
theorem XZ {n : Nat} {os : List Int} (h : zf n os) {k : Nat} (hk : k < n) (e : os.getD k 0 = (k : Int)) : qx os k /\ [(k : Int)] = zn os (k : Int) := by
 have hp : jj os (k : Int) 1 := ⟨Nat.le_refl _, by show os.getD ((k : Int)).toNat 0 = _; rw [Int.toNat_natCast]; exact e, fun j a b => by omega⟩
 refine ⟨fun q hq r => ?_, by unfold zn; rw [hp.per]; rfl⟩
 obtain ⟨j, hj, ej⟩ := qT.mp ((Rch.mem_ring hp).mp (r.symm h (by omega) (by omega)))
 obtain rfl : j = 0 := by omega
 have : (k : Int) = (q : Int) := ej
 omega
theorem Ax {n : Nat} {os : List Int} (h : zf n os) : ldL os n = qW os n := by
 rw [<- Jd h n (Nat.le_refl _)]
 unfold hds qW
 rw [xy]
noncomputable def DQ (os : List Int) (n : Nat) : AV -> AV
 | .d (.int k) => .d (.int (qy os k.toNat n).sum)
 | x => x
theorem As (a : At K mg "law" Yy) (B : Blt mg) (Bsum : mg "sum" = none) (D_law_take : Df P w K mg base "_law_take" ["_law_box_here", "_law_many"] 19 (cSp WT)) (D_law_box : Df P w K mg base "_law_box" ["_law_script", "_law_k"] 19 (cSp DE)) (D_law_folded : Df P w K mg base "_law_folded" ["_law_script", "_law_many"] 19 (cSp (Q8 K))) (D_law_length : Df P w K mg base "_law_length" ["_law_box_here", "_law_most"] 19 (cSp Q6)) (D_law_order : Df P w K mg base "_law_order" ["_law_box_here", "_law_n"] 19 (cSp Ym))
  (D_rings : Df P w K mg base "rings" ["order"] 19 (cSp Qe)) (D_law_walks_right : Df P w K mg base "_law_walks_right" ["_law_order_here", "_law_some"] 19 (cSp aWR)) (D_leaders_found : Df P w K mg base "leaders_found" ["order"] 19 (cSp Q0)) (D_shows_leaders : Df P w K mg base "shows_leaders" ["order", "thing"] 19 (cSp Jy)) (D_back_of : Df P w K mg base "back_of" ["order"] 19 (cSp XU)) (D_walks_marked : Df P w K mg base "walks_marked" ["order", "marks"] 19 (cSp vQ)) (D_walks : Df P w K mg base "walks" ["order"] 19 (cSp vM)) (D_staying : Df P w K mg base "staying" ["n"] 19 (cSp wH)) (D_law_rolled : Df P w K mg base "_law_rolled" ["_law_n"] 19 (cSp Jx)) :
  Df P w K mg base "law" ["_law_script"] 20 (cSp (Dn K)) := by
 refine dfA (k := 19) a Xk (fun _ _ _ _ _ _ us hl => match us, hl with | [_], _ => rfl) (fun xs M Q h => ?_) (fun f cdv A outer s H E hr => ?_)
 ·obtain ⟨_, rfl, _⟩ := h; rfl
 have sc := Xk
 have hsl := hsl
 refine ⟨_, (zc (zy (i := 1) sc.nd rfl (by first | exact Or.inl rfl | exact Or.inr rfl) (zq D_law_folded hr rfl (za (pv 0) (za ze zb))))
  (zc (qF PassesOwn.never rfl (zQ rfl B.range (za (zo (vd rfl) rfl B.max XT (za ze (za (zo zp rfl B.len qb (za (pv 1) zb)) zb))) zb)) (zr (i := 2) sc.nd rfl (by first | exact Or.inl rfl | exact Or.inr rfl)) (zc (zy (i := 3) sc.nd rfl (by first | exact Or.inl rfl | exact Or.inr rfl) (zq D_law_box hr rfl (za (pv 1) (za (pv 2) zb))))
  (zc (zy (i := 4) sc.nd rfl (by first | exact Or.inl rfl | exact Or.inr rfl) (zq D_law_order hr rfl (za (pv 3) (za (zq D_law_length hr rfl (za (pv 3) (za ze zb))) zb))))
  (zc (zy (i := 5) sc.nd rfl (by first | exact Or.inl rfl | exact Or.inr rfl) (zo zp rfl B.len qb (za (pv 4) zb)))
  (zc (zy (i := 6) sc.nd rfl (by first | exact Or.inl rfl | exact Or.inr rfl) (zq D_rings hr rfl (za (pv 4) zb)))
  (zc (xP (j := 7) rfl sc.nd rfl (by first | exact Or.inl rfl | exact Or.inr rfl) (ts := [11]) rfl (zQ rfl B.range (za (pv 5) zb)) (fun _ _ _ _ => (zr (i := 11) sc.nd rfl (by first | exact Or.inl rfl | exact Or.inr rfl))) (fun _ _ _ _ => wf (zx (j9 hr.units) (zE (QA (K := K) rfl) (pv 4) (pv 11) (fun _ _ => rfl)) (pv 11) (zu _))) (fun _ _ _ _ => (zZ (za (pv 11) zb))))
  (zc (zS (qG (qh (zq D_law_walks_right hr rfl (za (pv 4) (za (zl xW (pv 6) (pv 7)) zb))) (fun _ => rfl))) (zg (zm qp)) zD)
  (zc (qY (zq D_leaders_found hr rfl (za (pv 4) zb)) (jG (K := K) 2 rfl rfl (zV (zr (i := 9) sc.nd rfl (by first | exact Or.inl rfl | exact Or.inr rfl)) (zV (zr (i := 10) sc.nd rfl (by first | exact Or.inl rfl | exact Or.inr rfl)) jH))))
  (zc (zS (PW.pt (jR (zx (jD hr.units) (pv 9) (qK (ts := [13]) rfl rfl (ya (pv 6)) (fun _ _ _ _ => (zr (i := 13) sc.nd rfl (by first | exact Or.inl rfl | exact Or.inr rfl))) (fun _ _ _ _ => qE) (fun _ _ _ _ => (zE (QA (K := K) rfl) (pv 13) ze (fun _ _ => rfl)))) (zu _)) (jz (qG (qh (zq D_shows_leaders hr rfl (za (pv 4) (za (pv 9) zb))) (fun _ => rfl)))))) (zg (zm qp)) zD)
  (zc (zS (zx (jD hr.units) (zE ql (zq D_leaders_found hr rfl (za (zq D_back_of hr rfl (za (pv 4) zb)) zb)) ze (fun _ _ => rfl)) (pv 9) (zu _)) (zg (zm qp)) zD)
  (zc (xP (j := 8) rfl sc.nd rfl (by first | exact Or.inl rfl | exact Or.inr rfl) (ts := [12]) rfl (ya (zo xb rfl B.sorted yT (za (zZ (za ze (za (zq D_law_take hr rfl (za (pv 3) (za (zl zP (pv 5) ze) zb))) (za (pv 5) zb)))) zb))) (fun _ _ _ _ => (zr (i := 12) sc.nd rfl (by first | exact Or.inl rfl | exact Or.inr rfl))) (fun _ _ _ _ => qE) (fun _ _ _ _ => (zo (QI (K := K) rfl rfl) rfl Bsum QP (za (zq D_walks_marked hr rfl (za (pv 4) (za (pv 12) zb))) zb))))
  (zc (zS (PW.pt (jR (zx (jD hr.units) (zE ql (pv 8) ze (fun _ _ => rfl)) (pv 10) (zu _)) (jR (qG (YM Yl Yl (zE ql (pv 8) ze (fun _ _ => rfl)) (zE ql (pv 8) ze (fun _ _ => rfl)) (zE ql (pv 8) ze (fun _ _ => rfl)))) (jz (zx (jD hr.units) (zq D_walks_marked hr rfl (za (pv 4) (za ze zb))) (zq D_walks hr rfl (za (pv 4) zb)) (zu _)))))) (zg (zm qp)) zD)
  (zg (zS (PW.pt (jR (zx (jD hr.units) (zq D_leaders_found hr rfl (za (zq D_staying hr rfl (za (pv 5) zb)) zb)) (xt (za (zZ zb) (za (pv 5) zb))) (zu _)) (jz (qG (qh (zq D_law_rolled hr rfl (za (zl zP ze (zq D_law_take hr rfl (za (pv 3) (za ze zb)))) zb)) (fun _ => rfl)))))) (zg (zm qp)) zD))))))))))))))
  (zg (zm qp)))), ?_⟩
 refine ex2 (by walk_at "sim") ?_
 rintro xs M Q ⟨ns, rfl, hn, q⟩
 rw [show qQ ["_law_script", "_law_cells", "_law_k", "_law_box_here", "_law_order_here", "_law_n", "_law_some", "_law_stays", "_law_sums", "_law_led", "_law_steps", "_law_place", "_law_marks", "_law_ring"] [.d (.scr K ns)] = [some (.d (.scr K ns)), none, none, none, none, none, none, none, none, none, none, none, none, none] from rfl]
 refine zH fun r hr0 => ?_
 walk_at "ra"
 refine ⟨4, ns, rfl, by omega, by omega, hn, fun cs lc => ?_⟩
 subst hr0
 refine zH fun r hr0 => ?_
 walk_at "ra"
 refine ⟨by split <;> omega, by split <;> omega, ?_⟩
 refine ⟨fun i ρ M' => (∃ x2 x3 x4 x5 x6 x7 x8 x9 x10 x11 x12 x13, ρ = [some (.d (.scr K ns)), some (.d (ilD cs)), x2, x3, x4, x5, x6, x7, x8, x9, x10, x11, x12, x13]) /\ Fr M M', ⟨⟨_, _, _, _, _, _, _, _, _, _, _, _, rfl⟩, Fr.refl⟩, ?_, ?_⟩
 ·rintro i y ρ M1 hy ⟨⟨x2, x3, x4, x5, x6, x7, x8, x9, x10, x11, x12, x13, rfl⟩, f1⟩
  obtain ⟨hi, rfl⟩ := kT hy
  have hi' : (i : Int) <= 1000 := by
   have : (i : Int) < (if (cs.length : Int) > 1 then (cs.length : Int) else 1) := by omega
   split at this <;> omega
  refine ⟨trivial, ?_⟩
  rw [Int.zero_add, Int.mul_one]
  show Qr _ _ _ _ _ _
  refine zH fun r2 hr2 => ?_
  walk_at "ra"
  refine ⟨_, i, cs, rfl, VG _ _, by omega, by omega, by omega, fun b o hb bx => ?_⟩
  have b0 := f1.non hb
  have f2 := f1.mup b0 o
  have sb := SB.refl bx
  generalize mup M1 b o = M2 at *
  subst hr2
  refine zH fun r2 hr2 => ?_
  walk_at "ra"
  refine ⟨b, 100, 0, rfl, sb.bx, by omega, by omega, by omega, fun n M3 s3 n0 n1 => ?_⟩
  have sb := sb.go s3
  obtain ⟨n, rfl⟩ : ∃ k : Nat, n = k := ⟨n.toNat, by omega⟩
  refine ⟨b, n, _, rfl, sb.bx, by omega, by omega, fun os M4 s4 ho => ?_⟩
  have sb := sb.go s4
  have h1 := ho.1
  subst hr2
  refine zH fun r2 hr2 => ?_
  walk_at "ra"
  subst hr2
  refine zH fun r2 hr2 => ?_
  have so : ∀ M : MH, qq (.d (ilD os)) M = some (os.map fun i => .d (.int i)) := fun M => by rw [<- jQ]; rfl
  rw [h1]
  walk_at "ra"
  refine ⟨_, n, os, rfl, so _, ho, by omega, ?_⟩
  subst hr2
  refine zH fun r2 hr2 => ?_
  walk_at "ra"
  refine ⟨by omega, by omega, ?_⟩
  rw [Int.toNat_natCast]
  refine ⟨fun j acc ρ M' => M4 = M' /\ ∃ ks : List Nat, acc = ks.map (fun (k : Nat) => AV.d (ilD [(k : Int)])) /\ ks.length <= j /\ (∀ k ∈ ks, k < n /\ os.getD k 0 = (k : Int)) /\ ∃ x11, ρ = [some (.d (.scr K ns)), some (.d (ilD cs)), some (.d (.int i)), some (.ref b), some (.d (ilD os)), some (.d (.int n)), some (.d (.lst ((zG os n).map ilD))), x7, x8, x9, x10, x11, x12, x13], ⟨rfl, [], rfl, Nat.le_refl _, (fun k hk => nomatch hk), _, rfl⟩, ?_, ?_⟩
  ·rintro j y acc ρ M' hy ⟨rfl, ks, rfl, lk, hks, x11', rfl⟩
   obtain ⟨hj, rfl⟩ := kT hy
   refine ⟨trivial, ?_⟩
   rw [Int.zero_add, Int.mul_one]
   have a1 := qt (ns := os) (i := (j : Int)) (by omega) (by omega)
   rw [Int.toNat_natCast] at a1
   walk_at "ra"
   rw [a1]
   walk_at "ra"
   by_cases c : os.getD j 0 = (j : Int)
   ·rw [if_pos c]
    refine ⟨by omega, by omega, ks ++ [j], by rw [List.map_append]; rfl, by rw [List.length_append]; show _ + 1 <= _; omega, fun k hk => ?_, _, rfl⟩
    rcases List.mem_append.mp hk with z | z
    ·exact hks k z
    ·rw [List.mem_singleton.mp z]; exact ⟨hj, c⟩
   ·rw [if_neg c]
    exact ⟨ks, rfl, by omega, hks, _, rfl⟩
  rintro acc ρ M' ⟨rfl, ks, rfl, lk, hks, x11', rfl⟩
  rw [jZ] at lk
  refine ⟨trivial, ks.map (fun (k : Nat) => ilD [(k : Int)]), by rw [show (ks.map fun (k : Nat) => AV.d (ilD [(k : Int)])) = (ks.map fun (k : Nat) => ilD [(k : Int)]).map .d by rw [List.map_map]; rfl, jB], ?_⟩
  subst hr2
  refine zH fun r2 hr2 => ?_
  walk_at "ra"
  have rl := qV os n
  refine ⟨by omega, _, V6 _ _, n, os, zG os n ++ ks.map (fun (k : Nat) => [(k : Int)]), by rw [List.map_append, List.map_map]; rfl, ho, by omega, by rw [List.length_append, List.length_map]; omega, fun r hr => ?_, _, rfl, ?_⟩
  ·rcases List.mem_append.mp hr with z | z
   ·obtain ⟨k, hk, hL, e⟩ := y6 z
    exact ⟨k, hk, hL, e⟩
   ·obtain ⟨k, hk, rfl⟩ := List.mem_map.mp z
    obtain ⟨k1, k2⟩ := hks k hk
    obtain ⟨z1, z2⟩ := XZ ho k1 k2
    exact ⟨k, k1, z1, z2⟩
  rw [if_neg (by decide)]
  subst hr2
  refine zH fun r2 hr2 => ?_
  walk_at "ra"
  refine ⟨_, n, os, rfl, so _, ho, by omega, ?_⟩
  walk_at "ra"
  subst hr2
  refine zH fun r2 hr2 => ?_
  walk_at "ra"
  have ell := Ax ho
  have ll := ZA os n
  rw [ell]
  refine wA (fun o => [some (.d (.scr K ns)), some (.d (ilD cs)), some (.d (.int i)), some (.ref b), some (.d (ilD os)), some (.d (.int n)), some (.d (.lst ((zG os n).map ilD))), some (.d (.lst (ks.map (fun (k : Nat) => ilD [(k : Int)])))), x8, some (.d (ilD (qW os n))), some (.d (.int (wkL os n).sum)), x11, x12, o]) hdA ⟨_, rfl⟩ trivial (by rw [List.length_map, List.length_map]; omega) (fun o y Q hy q => ?_) fun o => ?_
  ·rw [List.map_map] at hy
   obtain ⟨r, hr, rfl⟩ := List.mem_map.mp hy
   have := jC ho (Nat.le_refl n) hr
   have h0 := qt (ns := r) (i := 0) (by omega) (by omega)
   rw [Int.toNat_zero] at h0
   show ky 13 (AV.d (ilD r)) _ _ _
   walk_at "ra"
   rw [h0]
   walk_at "ra"
   have q := q (some (.d (ilD r)))
   rw [show hdA ((AV.d ∘ ilD) r) = _ from QR (by omega)] at q
   exact q
  rw [yz ho, qC]
  refine ⟨_, rfl, qc _, qc _, ?_⟩
  rw [if_neg (by rw [show eqD (ilD (qW os n)) (Dat.lst ((qW os n).map .int)) = _ from qP _ _]; simp)]
  refine ⟨_, .lst ((qW os n).map .int), n, os, rfl, rfl, ho, by omega, (ke (by omega)).mono (by omega), _, rfl, ?_⟩
  rw [show kJ os n (.lst ((qW os n).map .int)) = true from xi.mpr rfl, if_neg (by decide)]
  subst hr2
  refine zH fun r2 hr2 => ?_
  walk_at "ra"
  refine ⟨_, n, os, rfl, so _, ho, by omega, fun bs hb => ?_⟩
  refine ⟨_, n, bs, rfl, by rw [<- jQ]; rfl, hb.ord ho, by omega, ?_⟩
  rw [Zg ho hb n (Nat.le_refl _), ell]
  walk_at "ra"
  refine ⟨_, rfl, _, rfl, qc _, qc _, ?_⟩
  rw [if_neg (by rw [show eqD (ilD (qW os n)) (ilD (qW os n)) = _ from qP _ _]; simp)]
  subst hr2
  refine zH fun r2 hr2 => ?_
  walk_at "ra"
  refine ⟨b, _, _, rfl, sb.bx, by omega, by omega, by omega, fun c M5 s5 c0 c1 => ?_⟩
  have sb := sb.go s5
  obtain ⟨c, rfl⟩ : ∃ k : Nat, c = k := ⟨c.toNat, by omega⟩
  refine ⟨by omega, [.int 0, .int c, .int n], rfl, [0, (c : Int), (n : Int)], rfl, by show 3 < 64; omega, fun ns' pm pw => ?_⟩
  have e3 : ns' = [0, (c : Int), (n : Int)] := by
   refine List.Perm.eq_of_pairwise (fun a b _ _ => Int.le_antisymm) pw ?_ pm
   simp only [List.pairwise_cons, List.mem_cons, List.not_mem_nil, or_false, forall_eq_or_imp, forall_eq, List.Pairwise.nil, and_true, false_implies, implies_true]
   omega
  subst e3
  have ms : ∀ x ∈ [0, (c : Int), (n : Int)], ∃ k : Nat, x = k /\ k <= n := fun x hx => by
   simp only [List.mem_cons, List.not_mem_nil, or_false] at hx
   rcases hx with rfl | rfl | rfl
   ·exact ⟨0, rfl, by omega⟩
   ·exact ⟨c, rfl, by omega⟩
   ·exact ⟨n, rfl, by omega⟩
  refine wA (fun o => [some (.d (.scr K ns)), some (.d (ilD cs)), some (.d (.int i)), some (.ref b), some (.d (ilD os)), some (.d (.int n)), some (.d (.lst ((zG os n).map ilD))), some (.d (.lst (ks.map (fun (k : Nat) => ilD [(k : Int)])))), x8, some (.d (ilD (qW os n))), some (.d (.int (wkL os n).sum)), x11, o, x13]) (DQ os n) ⟨_, rfl⟩ trivial (by show 3 <= 100000; omega) (fun o y Q hy q => ?_) fun o => ?_
  ·obtain ⟨x, hx, rfl⟩ := List.mem_map.mp hy
   obtain ⟨k, rfl, hk⟩ := ms x hx
   show ky 12 (AV.d (.int (k : Int))) _ _ _
   walk_at "ra"
   refine ⟨_, n, k, os, rfl, so _, ho, by omega, hk, ?_⟩
   walk_at "ra"
   refine ⟨_, rfl, Jj ho (by omega) k, by rw [qX]; omega, ?_⟩
   exact q (some (.d (.int (k : Int))))
  refine ⟨[.int (qy os 0 n).sum, .int (qy os c n).sum, .int (qy os n n).sum], rfl, ?_⟩
  have m1 := xh ho (a := 0) (b := c) (by omega) n (Nat.le_refl _)
  have m2 := xh ho (a := c) (b := n) (by omega) n (Nat.le_refl _)
  rw [XG ho] at m1 ⊢
  subst hr2
  refine zH fun r2 hr2 => ?_
  walk_at "ra"
  refine ⟨_, rfl, _, rfl, by simp [dp], ?_⟩
  rw [if_neg (by simp [eqD])]
  refine ⟨_, rfl, _, rfl, _, rfl, _, rfl, ?_⟩
  rw [if_pos m1]
  refine ⟨_, rfl, _, rfl, _, rfl, ?_⟩
  rw [if_neg (not_not_intro m2)]
  refine ⟨_, n, 0, os, rfl, so _, ho, by omega, by omega, _, n, os, rfl, so _, ho, by omega, _, rfl, _, rfl, qc _, qc _, ?_⟩
  rw [XG ho, if_neg (by rw [show eqD (ilD (wkL os n)) (ilD (wkL os n)) = _ from qP _ _]; simp)]
  subst hr2
  walk_at "ra"
  refine ⟨n, rfl, by omega, _, n, _, rfl, by rw [<- jQ]; rfl, zf.rng n, by omega, by omega, _, rfl, ?_⟩
  rw [Q9 n n (Nat.le_refl _), Ww, X3]
  refine ⟨by simp [dp, dps, ilD], by simp [dp, dps], ?_⟩
  rw [if_neg (by rw [show eqD (Dat.tup [ilD [], Dat.int (n : Int)]) (Dat.tup [Dat.lst [], Dat.int (n : Int)]) = true from by simp [eqD, ka, ilD]]; decide)]
  refine ⟨b, _, _, rfl, sb.bx, by omega, by omega, by omega, fun z M6 s6 z0 z1 => ⟨z, rfl, ?_⟩⟩
  have sb := sb.go s6
  obtain ⟨z, rfl⟩ : ∃ k : Nat, z = k := ⟨z.toNat, by omega⟩
  refine ⟨1 + z, by push_cast; rfl, by omega, by omega, _, rfl, ?_⟩
  rw [if_neg (by decide)]
  exact ⟨⟨_, rfl⟩, SB.frm f2 b0 sb⟩
 ·rintro ρ M1 ⟨⟨x2, x3, x4, x5, x6, x7, x8, x9, x10, x11, x12, x13, rfl⟩, f1⟩
  refine ⟨trivial, ?_⟩
  subst hr0
  walk_at "ra"
  exact ZP f1 q
end
theorem all_mk {l : PySem.W.OpenLaw} {w : World} {K : PySem.W.Frag} {h : Heap} {mg : Str -> Option Value} {fa : Addr} (X : K.In h) (G : h.Ns mainGlobals mg) (hfa : mg "law" = some (.ref fa)) (a : At K mg "law" Yy) (B : Blt mg) (Ball : mg "all" = none) (Bsum : mg "sum" = none)
  (a__law_take : At K mg "_law_take" QC) (a__law_box : At K mg "_law_box" YE) (a__law_folded : At K mg "_law_folded" yJ) (a__law_length : At K mg "_law_length" yn) (a__law_shuffled : At K mg "_law_shuffled" kB) (a__law_ringed : At K mg "_law_ringed" yK) (a__law_exchanged : At K mg "_law_exchanged" jT) (a__law_table : At K mg "_law_table" wy) (a__law_order : At K mg "_law_order" vS) (a__law_walks_right : At K mg "_law_walks_right" Bo) (a__law_rolled : At K mg "_law_rolled" yo) (a_is_place : At K mg "is_place" kF) (a_is_order : At K mg "is_order" xp) (a_ring_from : At K mg "ring_from" jX) (a_rings : At K mg "rings" vy) (a_leaders : At K mg "leaders" xg) (a_shows_leaders : At K mg "shows_leaders" wv) (a_walk_of : At K mg "walk_of" xx) (a_steps_from : At K mg "steps_from" jJ) (a_leads : At K mg "leads" vP) (a_walks : At K mg "walks" vV) (a_leaders_found : At K mg "leaders_found" yb) (a_back_of : At K mg "back_of" xw) (a_steps_by_turns : At K mg "steps_by_turns" K9) (a_walks_both : At K mg "walks_both" jE) (a_set_marks : At K mg "set_marks" jV) (a_walks_marked : At K mg "walks_marked" BC) (a_staying : At K mg "staying" xk) (a_roll_order : At K mg "roll_order" Qn)
  : ∃ fd : FuncData, (∀ (s : Shared) (v : Value), BindsTo s fd ⟨[v], []⟩ [("_law_script", v)]) /\ ∀ base : Heap, K.In base -> base.Ns mainGlobals mg -> kj l.prog w K mg base CX0 20 fa fd ["_law_script"] (Q2 K) := by
 obtain ⟨f, fd, F, m⟩ := id a
 obtain rfl : fa = f := by rw [hfa] at m; cases m; rfl
 obtain ⟨oc, od, kV, doc, pm, an, cdv, ct, osl, e, lk, hcd⟩ := F.ex
 refine ⟨fd, fun s v => ?_, fun base _ _ => ?_⟩
 ·subst e; exact .of_eq rfl
 ·have T := V1 (P := l.prog) (w := w) (base := base) a__law_take B
  have sh := ZI (P := l.prog) (w := w) (base := base) a__law_shuffled B T
  have od := Yi (P := l.prog) (w := w) (base := base) a__law_order B (T.mono (by decide)) (sh.mono (by decide)) (Ko a__law_ringed B (T.mono (by decide)) sh) (wB a__law_exchanged B (T.mono (by decide)) sh) ((XH a__law_table B).mono (by decide))
  have rf := vR (P := l.prog) (w := w) (base := base) a_ring_from B
  have rg := (KL (P := l.prog) (w := w) (base := base) a_rings B rf).imp' KN
  have ip := wW (P := l.prog) (w := w) (base := base) a_is_place B
  have t1 := T.imp' Vt
  have sl := K7 (P := l.prog) (w := w) (base := base) a_shows_leaders B Ball ((wV a_is_order B ip).mono (by decide)) (ip.mono (by decide)) (QQ a_leaders B rg)
  have wo := Qv (P := l.prog) (w := w) (base := base) a_walk_of B
  have sf := yL (P := l.prog) (w := w) (base := base) a_steps_from B wo
  have ld := Xi (P := l.prog) (w := w) (base := base) a_leads B wo
  have wk := Y2 (P := l.prog) (w := w) (base := base) a_walks B sf
  have bk := Qp (P := l.prog) (w := w) (base := base) a_back_of B
  have wb := (yQ (P := l.prog) (w := w) (base := base) a_walks_both B bk (Bc a_steps_by_turns B)).imp' J1
  have wm := (Dy (P := l.prog) (w := w) (base := base) a_walks_marked B sf ld (vC a_set_marks B rf)).imp' Kz
  have lf := (Ki (P := l.prog) (w := w) (base := base) a_leaders_found B Bsum (ld.mono (by decide)) wk).imp' JK
  have wt := wk.imp' YD
  have wr := DI (P := l.prog) (w := w) (base := base) a__law_walks_right B Bsum (wb.mono (by decide)) (wt.mono (by decide)) (wm.mono (by decide)) ((ld.imp' K8).mono (by decide))
  have rd := JV (P := l.prog) (w := w) (base := base) a__law_rolled B (wt.mono (by decide)) ((VI a_roll_order B).mono (by decide))
  have st := (Zc (P := l.prog) (w := w) (base := base) a_staying B).imp' Qs
  have L := As (P := l.prog) (w := w) (base := base) a B Bsum (t1.mono (by decide)) (((Bu a__law_box B).imp' W0).mono (by decide)) (((Kd a__law_folded B).imp' JT).mono (by decide)) (((Kg a__law_length B T).imp' JR).mono (by decide)) ((od.imp' Yc).mono (by decide)) (rg.mono (by decide)) (wr.mono (by decide)) (lf.mono (by decide)) (sl.mono (by decide)) ((bk.imp' Xy).mono (by decide)) (wm.mono (by decide)) (wt.mono (by decide)) (st.mono (by decide)) (rd.mono (by decide))
  exact (L.imp' (sp_law (K := K))).fn m lk
theorem walk {l : PySem.W.OpenLaw} {q : Program} {loose : List Str} {XP : (Str -> Option Value) -> Heap -> Prop} {YP : World -> Heap -> Prop} {d : DefRec} {K : Params -> PySem.W.Frag} (hn : l.most = some 63) (hdf : d.params.defaults = [])
  (hY : ∀ (w : World) (h : Heap), YP w h -> (K w.params).In h)
  (F : ∀ (w : World) (mg : Str -> Option Value) (fa : Addr) (h : Heap), (K w.params).In h -> h.Ns mainGlobals mg -> mg d.name = some (.ref fa) ->
   ∃ fd : FuncData, (∀ (s : Shared) (u : Value), BindsTo s fd ⟨[u], []⟩ [("_law_script", u)]) /\ ∀ base : Heap, (K w.params).In base -> base.Ns mainGlobals mg -> kj l.prog w (K w.params) mg base CX0 20 fa fd ["_law_script"] (Q2 (K w.params))) :
  PySem.W.WalkO q loose XP YP l.row.toRowW d [] (fun f vs => PySem.call f vs) :=
 L2.walk_of (n := 63) (k := 20) (x := "_law_script") (CX := fun _ => CX0) (sp := fun w => Q2 (K w.params)) hn (by decide) hdf ⟨rfl, rfl, by decide, by decide⟩ hY F (fun _ _ a ns hl _ hS => ⟨a, ns, rfl, hS, hl, fun _ => rfl⟩) fun _ _ _ _ _ z => z
end Ot
open PySem PySem.W PyProof.Rows
theorem PySem.W.Fast.te7992965254140591562 : True := trivial
theorem PySem.W.Fast.te11550719827058622609 : True := trivial
theorem PySem.W.Fast.te16727697451915936027 : True := trivial
set_option maxRecDepth 100000 in
set_option maxHeartbeats 0 in
theorem PySem.Challenge.cw_ownturn_k24_whole_walks_together_holds : PySem.Challenge.rw_ownturn_k24_whole_walks_together.Holds := by
 w_on; o_law; k_head; (case hw => w_witness2)
 k_fill
 refine Ot.walk (l := PySem.Challenge.rw_ownturn_k24_whole_walks_together) rfl rfl (fun w h Y => PySem.W.kIn_of Y) ?F
 case F =>
  intro w mg fa h KX G hmg
  refine' Ot.all_mk KX G hmg (L2.at_mk KX G ?a0 ?l0 ?c0 ?k0) (L2.blt_mk KX G ?z1 ?z2 ?z3 ?z4 ?z5 ?z6 ?z7 ?z8 ?z9 ?z10 ?z11 ?z12 ?z13 ?z14 ?z15 ?z16) (PySem.W.mg_none_of KX G ?zall) (PySem.W.mg_none_of KX G ?zsum) (L2.at_mk KX G ?a1 ?l1 ?c1 ?k1) (L2.at_mk KX G ?a2 ?l2 ?c2 ?k2) (L2.at_mk KX G ?a3 ?l3 ?c3 ?k3) (L2.at_mk KX G ?a4 ?l4 ?c4 ?k4) (L2.at_mk KX G ?a5 ?l5 ?c5 ?k5) (L2.at_mk KX G ?a6 ?l6 ?c6 ?k6) (L2.at_mk KX G ?a7 ?l7 ?c7 ?k7) (L2.at_mk KX G ?a8 ?l8 ?c8 ?k8) (L2.at_mk KX G ?a9 ?l9 ?c9 ?k9) (L2.at_mk KX G ?a10 ?l10 ?c10 ?k10) (L2.at_mk KX G ?a11 ?l11 ?c11 ?k11) (L2.at_mk KX G ?a12 ?l12 ?c12 ?k12) (L2.at_mk KX G ?a13 ?l13 ?c13 ?k13) (L2.at_mk KX G ?a14 ?l14 ?c14 ?k14) (L2.at_mk KX G ?a15 ?l15 ?c15 ?k15) (L2.at_mk KX G ?a16 ?l16 ?c16 ?k16) (L2.at_mk KX G ?a17 ?l17 ?c17 ?k17) (L2.at_mk KX G ?a18 ?l18 ?c18 ?k18) (L2.at_mk KX G ?a19 ?l19 ?c19 ?k19) (L2.at_mk KX G ?a20 ?l20 ?c20 ?k20) (L2.at_mk KX G ?a21 ?l21 ?c21 ?k21) (L2.at_mk KX G ?a22 ?l22 ?c22 ?k22) (L2.at_mk KX G ?a23 ?l23 ?c23 ?k23) (L2.at_mk KX G ?a24 ?l24 ?c24 ?k24) (L2.at_mk KX G ?a25 ?l25 ?c25 ?k25) (L2.at_mk KX G ?a26 ?l26 ?c26 ?k26) (L2.at_mk KX G ?a27 ?l27 ?c27 ?k27) (L2.at_mk KX G ?a28 ?l28 ?c28 ?k28) (L2.at_mk KX G ?a29 ?l29 ?c29 ?k29)
  (case a0 => k_is); (case l0 => k_is); (case c0 => k_is); (case k0 => k_is)
  (case a1 => k_is); (case l1 => k_is); (case c1 => k_is); (case k1 => k_is)
  (case a2 => k_is); (case l2 => k_is); (case c2 => k_is); (case k2 => k_is)
  (case a3 => k_is); (case l3 => k_is); (case c3 => k_is); (case k3 => k_is)
  (case a4 => k_is); (case l4 => k_is); (case c4 => k_is); (case k4 => k_is)
  (case a5 => k_is); (case l5 => k_is); (case c5 => k_is); (case k5 => k_is)
  (case a6 => k_is); (case l6 => k_is); (case c6 => k_is); (case k6 => k_is)
  (case a7 => k_is); (case l7 => k_is); (case c7 => k_is); (case k7 => k_is)
  (case a8 => k_is); (case l8 => k_is); (case c8 => k_is); (case k8 => k_is)
  (case a9 => k_is); (case l9 => k_is); (case c9 => k_is); (case k9 => k_is)
  (case a10 => k_is); (case l10 => k_is); (case c10 => k_is); (case k10 => k_is)
  (case a11 => k_is); (case l11 => k_is); (case c11 => k_is); (case k11 => k_is)
  (case a12 => k_is); (case l12 => k_is); (case c12 => k_is); (case k12 => k_is)
  (case a13 => k_is); (case l13 => k_is); (case c13 => k_is); (case k13 => k_is)
  (case a14 => k_is); (case l14 => k_is); (case c14 => k_is); (case k14 => k_is)
  (case a15 => k_is); (case l15 => k_is); (case c15 => k_is); (case k15 => k_is)
  (case a16 => k_is); (case l16 => k_is); (case c16 => k_is); (case k16 => k_is)
  (case a17 => k_is); (case l17 => k_is); (case c17 => k_is); (case k17 => k_is)
  (case a18 => k_is); (case l18 => k_is); (case c18 => k_is); (case k18 => k_is)
  (case a19 => k_is); (case l19 => k_is); (case c19 => k_is); (case k19 => k_is)
  (case a20 => k_is); (case l20 => k_is); (case c20 => k_is); (case k20 => k_is)
  (case a21 => k_is); (case l21 => k_is); (case c21 => k_is); (case k21 => k_is)
  (case a22 => k_is); (case l22 => k_is); (case c22 => k_is); (case k22 => k_is)
  (case a23 => k_is); (case l23 => k_is); (case c23 => k_is); (case k23 => k_is)
  (case a24 => k_is); (case l24 => k_is); (case c24 => k_is); (case k24 => k_is)
  (case a25 => k_is); (case l25 => k_is); (case c25 => k_is); (case k25 => k_is)
  (case a26 => k_is); (case l26 => k_is); (case c26 => k_is); (case k26 => k_is)
  (case a27 => k_is); (case l27 => k_is); (case c27 => k_is); (case k27 => k_is)
  (case a28 => k_is); (case l28 => k_is); (case c28 => k_is); (case k28 => k_is)
  (case a29 => k_is); (case l29 => k_is); (case c29 => k_is); (case k29 => k_is)
  (case zall => k_is)
  (case zsum => k_is)
  (case z1 => k_is)
  (case z2 => k_is)
  (case z3 => k_is)
  (case z4 => k_is)
  (case z5 => k_is)
  (case z6 => k_is)
  (case z7 => k_is)
  (case z8 => k_is)
  (case z9 => k_is)
  (case z10 => k_is)
  (case z11 => k_is)
  (case z12 => k_is)
  (case z13 => k_is)
  (case z14 => k_is)
  (case z15 => k_is)
  (case z16 => k_is)
