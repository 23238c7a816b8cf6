import PyProof.Rows.All
import Wide.All
import OpenK.AllK
import Wide.FinOn
import Lean
import PyProof.EqAt
import PyProof.EqKinds
import PyProof.TupleCall
import PySem.Challenge.RW_ownturn_k29_whole_rolled_and_exchanged
set_option compiler.extract_closed false
set_option Elab.async false
set_option linter.all false
set_option maxRecDepth 100000
namespace L2
open PySem PySem.Spec PyProof.Rows
noncomputable abbrev Key := Sum Int Str
noncomputable def wQ : Key -> Value -> Bool
 | .inl k, v => Value.isInt k v
 | .inr x, v => Value.isStrOf x v
noncomputable def HG (w : World) : Key -> Int
 | .inl k => hashInt k
 | .inr x => hashStr w x
theorem qf : ∀ {k : Key} {v : Value}, wQ k v = true -> (∃ i t, k = Sum.inl i /\ v = Value.int i t) \/ (∃ x t, k = Sum.inr x /\ v = Value.str x t)
 | .inl i, v, h => by
  obtain ⟨t, e⟩ := Value.isInt_shape (k := i) (v := v) h
  exact .inl ⟨i, t, rfl, e⟩
 | .inr x, v, h => by
  obtain ⟨t, e⟩ := Value.isStrOf_shape (x := x) (v := v) h
  exact .inr ⟨x, t, rfl, e⟩
theorem Yf (i : Int) (t : Tok) : wQ (.inl i) (.int i t) = true := by simp [wQ, Value.isInt]
theorem Yk (x : Str) (t : Tok) : wQ (.inr x) (.str x t) = true := by simp [wQ, Value.isStrOf]
theorem Fv (a b : Int) : decide ((Sum.inl a : Key) = Sum.inl b) = (a == b) := by
 by_cases e : a = b
 ·subst e; simp
 ·have h : ¬ (Sum.inl a : Key) = Sum.inl b := fun q => e (Sum.inl.inj q)
  rw [decide_eq_false h]
  exact (beq_eq_false_iff_ne.mpr e).symm
theorem EM (a b : Str) : decide ((Sum.inr a : Key) = Sum.inr b) = decide (a = b) := by
 by_cases e : a = b
 ·subst e; simp
 ·have h : ¬ (Sum.inr a : Key) = Sum.inr b := fun q => e (Sum.inr.inj q)
  rw [decide_eq_false h, decide_eq_false e]
theorem ET (a : Int) (b : Str) : decide ((Sum.inl a : Key) = Sum.inr b) = false := decide_eq_false (fun q => nomatch q)
theorem Fa (a : Str) (b : Int) : decide ((Sum.inr a : Key) = Sum.inl b) = false := decide_eq_false (fun q => nomatch q)
noncomputable def jq (prog : Program) (w : World) : PySem.KeyKind prog w Key where
 is := wQ
 hash := HG w
 inj := fun v a b ha hb => by
  rcases qf ha with ⟨i, t, rfl, rfl⟩ | ⟨x, t, rfl, rfl⟩
  ·rcases qf hb with ⟨j, u, rfl, e⟩ | ⟨y, u, rfl, e⟩
   ·injection e with e1 _; rw [e1]
   ·exact nomatch e
  ·rcases qf hb with ⟨j, u, rfl, e⟩ | ⟨y, u, rfl, e⟩
   ·exact nomatch e
   ·injection e with e1 _; rw [e1]
 byValue := fun k v h => by
  rcases qf h with ⟨i, t, rfl, rfl⟩ | ⟨x, t, rfl, rfl⟩ <;> rfl
 pyHash := fun hv h => by
  rcases qf hv with ⟨i, t, rfl, rfl⟩ | ⟨x, t, rfl, rfl⟩
  ·exact wpAny_pyHash_int h
  ·exact wpAny_pyHash_str h
 eqBool := fun hu hv h => by
  rcases qf hu with ⟨i, t, rfl, rfl⟩ | ⟨x, t, rfl, rfl⟩
  ·rcases qf hv with ⟨j, u, rfl, rfl⟩ | ⟨y, u, rfl, rfl⟩
   ·rw [Fv] at h; exact wpAny_eqBool_int h
   ·rw [ET] at h; exact SeqAt.EqAt.int_str i t y u _ _ _ _ h
  ·rcases qf hv with ⟨j, u, rfl, rfl⟩ | ⟨y, u, rfl, rfl⟩
   ·rw [Fa] at h; exact SeqAt.EqAt.str_int x t j u _ _ _ _ h
   ·rw [EM] at h; exact wpAny_eqBool_str h
 «strs» := fun k x t v h => by
  rcases qf h with ⟨i, u, rfl, e⟩ | ⟨y, u, rfl, e⟩
  ·exact nomatch e
  ·injection e with e1 _
   subst e1
   cases v <;> rfl
theorem Qy (prog : Program) (w : World) (i : Int) (t : Tok) : (jq prog w).is (.inl i) (.int i t) = true := Yf i t
theorem QT (prog : Program) (w : World) (x : Str) (t : Tok) : (jq prog w).is (.inr x) (.str x t) = true := Yk x t
end L2
namespace L2
open PySem PySem.Spec PyProof.Rows
inductive V where
 | non | bl (b : Bool) | int (i : Int) | str (x : Str) | byt (b : Array UInt8) | flt (b : UInt64) | ref (a : Addr) | ty (n : String)
 deriving DecidableEq
noncomputable def zE : V -> Value -> Prop
 | .non, u => u = Value.none
 | .bl b, u => u = Value.bool b
 | .int i, u => ∃ t, u = Value.int i t
 | .str x, u => ∃ t, u = Value.str x t
 | .byt b, u => ∃ t, u = Value.bytes b t
 | .flt b, u => ∃ t, u = Value.float b t
 | .ref a, u => u = Value.ref a
 | .ty n, u => u = Value.type n
noncomputable abbrev zF : List V -> List Value -> Prop := Paired zE
theorem zF.length {xs : List V} {us : List Value} (r : zF xs us) : xs.length = us.length := Paired.length r
theorem zF.get : ∀ {xs : List V} {us : List Value} {i : Nat} {x : V}, zF xs us -> xs[i]? = some x -> ∃ u, us[i]? = some u /\ zE x u
 | _, _, _, _, .nil, e => by simp at e
 | _, _, 0, _, .cons r _, e => by simp at e; subst e; exact ⟨_, rfl, r⟩
 | _, _, i + 1, x, .cons _ t, e => by
  obtain ⟨u, h1, h2⟩ := zF.get (i := i) (x := x) t (by simpa using e)
  exact ⟨u, by simpa using h1, h2⟩
theorem zF.set {x : V} {u : Value} (r : zE x u) : ∀ {xs : List V} {us : List Value} (i : Nat), zF xs us -> zF (xs.set i x) (us.set i u)
 | _, _, _, .nil => .nil
 | _, _, 0, .cons _ t => .cons r t
 | _, _, i + 1, .cons q t => .cons q (zF.set r i t)
theorem zF.append : ∀ {xs ys : List V} {us ws : List Value}, zF xs us -> zF ys ws -> zF (xs ++ ys) (us ++ ws)
 | _, _, _, _, .nil, s => s
 | _, _, _, _, .cons r t, s => .cons r (zF.append t s)
theorem zF.take : ∀ {xs : List V} {us : List Value} (n : Nat), zF xs us -> zF (xs.take n) (us.take n)
 | _, _, 0, _ => .nil
 | _, _, _ + 1, .nil => .nil
 | _, _, n + 1, .cons r t => .cons r (zF.take n t)
theorem zF.drop : ∀ {xs : List V} {us : List Value} (n : Nat), zF xs us -> zF (xs.drop n) (us.drop n)
 | _, _, 0, r => r
 | _, _, _ + 1, .nil => .nil
 | _, _, n + 1, .cons _ t => zF.drop n t
noncomputable def yt : Option V -> Option Value -> Prop
 | some v, some u => zE v u
 | none, none => True
 | _, _ => False
noncomputable def KV {κ : Type} : List (κ × V) -> List (κ × Value) -> Prop := Paired fun (p : κ × V) (q : κ × Value) => p.1 = q.1 /\ zE p.2 q.2
noncomputable def kV : Key -> V
 | .inl i => .int i
 | .inr x => .str x
inductive HO where
  | lst (xs : List V)
  | tup (xs : List V)
  | dK (kvs : List (Key × V)) | dT (kvs : List (List Key × V))
  | set (S : Int -> Bool) (n : Nat)
  | ins (C dx : Addr) (fs : List (Str × V))
  | own (x : Addr)
  | xd (fs : List (Str × V))
  | met (f x : Addr)
  | rng (lo hi : Int)
  | frz (o : Obj) (u : HO)
  | tbl (ps : Array Value)
  | ext (φ : Heap -> Prop)
noncomputable abbrev Hp := Addr -> Option HO
noncomputable def upd (H : Hp) (a : Addr) (o : HO) : Hp := fun b => if b = a then some o else H b
theorem zh {H : Hp} {a : Addr} {o : HO} : upd H a o a = some o := by unfold upd; rw [if_pos rfl]
theorem zj {H : Hp} {a b : Addr} {o : HO} (h : b ≠ a) : upd H a o b = H b := by unfold upd; rw [if_neg h]
theorem VX {H : Hp} {a b : Addr} {o u : HO} (h : H a = some o) (h' : H b = some u) (d : o ≠ u) : a ≠ b := by
 intro e; subst e; rw [h] at h'; exact d (Option.some.inj h')
theorem zm {H : Hp} {a b : Addr} {o : HO} (h : H a = some o) (h' : H b = none) : a ≠ b := by
 intro e; subst e; rw [h] at h'; cases h'
noncomputable def Zs (h : Heap) (a : Addr) (items : Array Value) : Prop := ∃ o, h.get? a = some o /\ o.cls = .type "tuple" /\ (∃ n, o.data = .seq items n) /\ o.dict = none
theorem Zs.is {h : Heap} {a : Addr} {items : Array Value} (x : Zs h a items) : IsTup h a items := let ⟨o, e, c, n, _⟩ := x; ⟨o, e, c, n⟩
theorem Zs.lt {h : Heap} {a : Addr} {items : Array Value} (x : Zs h a items) : a < h.objs.size := x.is.lt
theorem Zs.new (h : Heap) (items : Array Value) : Zs (h.push { cls := .type "tuple", data := .seq items }) h.objs.size items := ⟨_, Heap.get?_push_size _ rfl, rfl, ⟨_, rfl⟩, rfl⟩
section
variable (P : Program) (w : World)
noncomputable def qb (H : Hp) (h : Heap) (a : Addr) : HO -> Prop
  | .lst xs => xs.length <= sizeLine /\ ∃ (its : List Value) (n : Nat), zF xs its /\ h.get? a = some { cls := .type "list", data := .seq its.toArray n }
  | .tup xs => xs.length <= sizeLine /\ ∃ its : List Value, zF xs its /\ Zs h a its.toArray
  | .dK kvs => kvs.length <= sizeLine /\ (a == sysModules) = false /\ ∃ vs, KV kvs vs /\ h.DictOf (jq P w) a vs
  | .dT kvs => kvs.length <= sizeLine /\ (a == sysModules) = false /\ ∃ xs : List (List Key × Addr × Value),
      Paired (fun (p : List Key × V) (q : List Key × Addr × Value) => p.1 = q.1 /\ H q.2.1 = some (.tup (p.1.map kV)) /\ zE p.2 q.2.2) kvs xs /\
      ∃ o es ep, h.get? a = some o /\ o.ExactDict /\ o.data = .dict es ep /\ es.toList = xs.map (entryOfKey (tupleKind (jq P w))) /\ (xs.map (·.1)).Nodup
  | .set S n => h.SetOf (intKind P w) a S n
  | .ins C dx fs => H dx = some (.own a) /\ fs.length <= 1000 /\ dx ≠ a /\ h.get? a = some (PySem.W.instObj C dx) /\
      ∃ mA, h.Ns1 dx mA /\ (∀ f, yt (fs.lookup f) (mA f)) /\ PySem.Within mA (fs.map (·.1))
  | .own _ => ∃ o, h.get? a = some o
  | .xd fs => ∃ mA, h.Ns1 a mA /\ ∀ f, yt (fs.lookup f) (mA f)
  | .rng lo hi => ∃ t u v, h.get? a = some { cls := .type "range", data := .fields #[.int lo t, .int hi u, .int 1 v] }
  | .frz o u => h.get? a = some o /\ qb H h a u
  | .tbl ps => h.get? a = some { cls := .none, data := .fields ps }
  | .met f x => h.get? a = some (PySem.W.methodObj (.ref f) (.ref x))
  | .ext φ => φ h /\ (∃ o, h.get? a = some o) /\ ∀ h1 h2 : Heap, φ h1 -> (∀ o, h1.get? a = some o -> h2.get? a = some o) -> φ h2
noncomputable def HOk (H : Hp) (h : Heap) : Prop := ∀ a o, H a = some o -> qb P w H h a o
end
section
variable {P : Program} {w : World} {H H' : Hp} {h h' : Heap} {a : Addr} {o : HO}
theorem qb.lt (x : qb P w H h a o) : a < h.objs.size := by
 cases o with
 | lst xs => obtain ⟨_, _, _, _, e⟩ := x; exact Heap.lt_size e
 | tup xs => obtain ⟨_, _, _, p⟩ := x; exact p.lt
 | dK kvs => obtain ⟨_, _, _, _, o, _, _, e, _⟩ := x; exact Heap.lt_size e
 | dT kvs => obtain ⟨_, _, _, _, o, _, _, e, _⟩ := x; exact Heap.lt_size e
 | set S n => obtain ⟨o, _, _, _, e, _⟩ := x; exact Heap.lt_size e
 | ins C dx fs => obtain ⟨_, _, _, e, _⟩ := x; exact Heap.lt_size e
 | own y => obtain ⟨_, e⟩ := x; exact Heap.lt_size e
 | xd fs => obtain ⟨_, ⟨_, _, _, e, _⟩, _⟩ := x; exact Heap.lt_size e
 | rng lo hi => obtain ⟨_, _, _, e⟩ := x; exact Heap.lt_size e
 | frz ob u => obtain ⟨e, _⟩ := x; exact Heap.lt_size e
 | tbl ps => exact Heap.lt_size (show h.get? a = some _ from x)
 | met f y => exact Heap.lt_size (show h.get? a = some _ from x)
 | ext φ => obtain ⟨_, ⟨_, e⟩, _⟩ := x; exact Heap.lt_size e
theorem Paired.mapP {α β : Type} {F G : α -> β -> Prop} : ∀ {l₁ : List α} {l₂ : List β}, Paired F l₁ l₂ -> (∀ a b, F a b -> G a b) -> Paired G l₁ l₂
 | _, _, .nil, _ => .nil
 | _, _, .cons r t, f => .cons (f _ _ r) (Paired.mapP t f)
theorem qb.stay (x : qb P w H h a o) (k : ∀ b u, (b = a \/ H b = some (.own a)) -> h.get? b = some u -> h'.get? b = some u)
  (ho : ∀ b, H b = some (.own a) -> H' b = some (.own a)) (ht : ∀ b xs, H b = some (.tup xs) -> H' b = some (.tup xs)) : qb P w H' h' a o := by
 induction o with
 | lst xs => obtain ⟨z, its, n, r, e⟩ := x; exact ⟨z, its, n, r, k _ _ (.inl rfl) e⟩
 | tup xs => obtain ⟨z, its, r, ob, e, c⟩ := x; exact ⟨z, its, r, ob, k _ _ (.inl rfl) e, c⟩
 | dK kvs => obtain ⟨z, y, vs, r, ob, es, ep, e, c⟩ := x; exact ⟨z, y, vs, r, ob, es, ep, k _ _ (.inl rfl) e, c⟩
 | dT kvs =>
  obtain ⟨z, y, xs, r, ob, es, ep, e, c⟩ := x
  exact ⟨z, y, xs, Paired.mapP r fun p q z => ⟨z.1, ht _ _ z.2.1, z.2.2⟩, ob, es, ep, k _ _ (.inl rfl) e, c⟩
 | set S n => obtain ⟨ob, es, ep, t, e, c⟩ := x; exact ⟨ob, es, ep, t, k _ _ (.inl rfl) e, c⟩
 | ins C dx fs =>
  obtain ⟨d, z, ne, e, mA, ⟨od, es, ep, e2, c⟩, r⟩ := x
  exact ⟨ho _ d, z, ne, k _ _ (.inl rfl) e, mA, ⟨od, es, ep, k _ _ (.inr d) e2, c⟩, r⟩
 | own y => obtain ⟨ob, e⟩ := x; exact ⟨ob, k _ _ (.inl rfl) e⟩
 | xd fs => obtain ⟨mA, ⟨od, es, ep, e, c⟩, r⟩ := x; exact ⟨mA, ⟨od, es, ep, k _ _ (.inl rfl) e, c⟩, r⟩
 | rng lo hi => obtain ⟨t, u, v, e⟩ := x; exact ⟨t, u, v, k _ _ (.inl rfl) e⟩
 | frz ob u ih => obtain ⟨e, q⟩ := x; exact ⟨k _ _ (.inl rfl) e, ih q⟩
 | tbl ps =>
  have e : h.get? a = some { cls := .none, data := .fields ps } := x
  show h'.get? a = some { cls := .none, data := .fields ps }
  exact k a _ (.inl rfl) e
 | met f y =>
  have e : h.get? a = some (PySem.W.methodObj (.ref f) (.ref y)) := x
  show h'.get? a = some (PySem.W.methodObj (.ref f) (.ref y))
  exact k a _ (.inl rfl) e
 | ext φ => obtain ⟨p, ⟨o, e⟩, st⟩ := x; exact ⟨st _ _ p fun o q => k _ _ (.inl rfl) q, ⟨o, k _ _ (.inl rfl) e⟩, st⟩
theorem HOk.lt (x : HOk P w H h) (e : H a = some o) : a < h.objs.size := (x a o e).lt
theorem HOk.fresh (x : HOk P w H h) (e : h.objs.size <= a) : H a = none := by
 cases q : H a with
 | none => rfl
 | some u => exact absurd (Nat.lt_of_lt_of_le (x.lt q) e) (Nat.lt_irrefl _)
theorem HOk.kept (x : HOk P w H h) (k : ∀ b u, h.get? b = some u -> h'.get? b = some u) : HOk P w H h' := fun a o e =>
 (x a o e).stay (fun b u _ q => k b u q) (fun _ q => q) fun _ _ q => q
theorem HOk.laid (x : HOk P w H h) (k : ∀ b u, h.get? b = some u -> h'.get? b = some u) (hp : h.objs.size <= a) (new : qb P w (upd H a o) h' a o) : HOk P w (upd H a o) h' := fun b u e => by
 have hn := x.fresh hp
 by_cases hb : b = a
 ·subst hb; rw [zh] at e; cases e; exact new
 ·rw [zj hb] at e
  exact (x b u e).stay (fun c v _ q => k c v q) (fun c q => by rw [zj (zm q hn)]; exact q) fun c xs q => by rw [zj (zm q hn)]; exact q
end
noncomputable def Rd (H : Hp) (a : Addr) (u : HO) : Prop := H a = some u \/ ∃ o, H a = some (.frz o u)
theorem Rd.ok {P : Program} {w : World} {H : Hp} {h : Heap} {a : Addr} {u : HO} (r : Rd H a u) (x : HOk P w H h) : qb P w H h a u := by
 rcases r with r | ⟨o, r⟩
 ·exact x a u r
 ·obtain ⟨_, q⟩ := x a _ r
  exact q
noncomputable def Mut : Option HO -> Prop
 | some (.lst _) => True
 | some (.dK _) => True
 | some (.dT _) => True
 | some (.set _ _) => True
 | some (.ins _ _ _) => True
 | some (.ext _) => True
 | _ => False
section
variable {P : Program} {w : World} {H : Hp} {h h' : Heap} {x e : Addr} {o' : HO}
theorem HOk.write (ok : HOk P w H h) (mu : Mut (H x)) (he : e = x \/ H e = some (.own x)) (k : ∀ b u, b ≠ e -> h.get? b = some u -> h'.get? b = some u) (heo : ∃ u, h'.get? e = some u)
    (new : qb P w (upd H x o') h' x o') : HOk P w (upd H x o') h' := fun b u q => by
  have nown : ∀ c y, H c = some (.own y) -> c ≠ x := fun c y r z => by subst z; rw [r] at mu; exact mu
  have ntup : ∀ c xs, H c = some (.tup xs) -> c ≠ x := fun c xs r z => by subst z; rw [r] at mu; exact mu
  by_cases hb : b = x
  · subst hb; rw [zh] at q; cases q; exact new
  · rw [zj hb] at q
    by_cases hbe : b = e
    · have q' : H b = some (.own x) := by
        rcases he with z | z
        · exact absurd (hbe.trans z) hb
        · rw [hbe]; exact z
      rw [q] at q'; cases q'
      obtain ⟨v, hv⟩ := heo
      exact ⟨v, by rw [hbe]; exact hv⟩
    · refine (ok b u q).stay (fun c v hc r => k c v ?_ r) (fun c r => by rw [zj (nown c b r)]; exact r) fun c xs r => by rw [zj (ntup c xs r)]; exact r
      rcases hc with rfl | hc
      · exact hbe
      · rintro rfl
        rcases he with z | z
        · exact nown c b hc z
        · rw [hc] at z; cases z; exact hb rfl
end
structure Un (fs ex : List Addr) (H H' : Hp) (h h' : Heap) : Prop where
 keep : ∀ b o, h.get? b = some o -> H b = none -> b ∉ fs -> b ∉ ex -> h'.get? b = some o
 slot : ∀ b o, h.get? b = some o -> H b = none -> b ∈ fs -> b ∉ ex -> ∃ sl, h'.get? b = some { o with slots := sl }
 free : ∀ b o, h.get? b = some o -> H b = none -> b ∉ ex -> H' b = none
 there : ∀ b o, h.get? b = some o -> b ∉ ex -> ∃ o', h'.get? b = some o'
 tups : ∀ b xs, H b = some (.tup xs) -> H' b = some (.tup xs)
 frzs : ∀ b o u, H b = some (.frz o u) -> H' b = some (.frz o u)
 tbls : ∀ b ps, H b = some (.tbl ps) -> ∃ more, H' b = some (.tbl (ps ++ more))
section
variable {fs fs' ex ex' : List Addr} {H H1 H2 : Hp} {h h1 h2 h' : Heap} {a x e : Addr} {o : HO}
theorem Un.any (u : Un fs ex H H1 h h1) {b : Addr} {ob : Obj} (q : h.get? b = some ob) (n : H b = none) (hx : b ∉ ex) : ∃ sl, h1.get? b = some { ob with slots := sl } := by
 by_cases hb : b ∈ fs
 ·exact u.slot b ob q n hb hx
 ·exact ⟨ob.slots, u.keep b ob q n hb hx⟩
theorem Un.kept (k : ∀ b u, h.get? b = some u -> h'.get? b = some u) : Un fs ex H H h h' :=
 ⟨fun b ob q _ _ _ => k b ob q, fun b ob q _ _ _ => ⟨ob.slots, k b ob q⟩, fun _ _ _ n _ => n, fun b ob q _ => ⟨ob, k b ob q⟩, fun _ _ q => q, fun _ _ _ q => q, fun _ ps q => ⟨#[], by rw [q]; simp⟩⟩
theorem Un.refl : Un fs ex H H h h := Un.kept fun _ _ q => q
theorem Un.laid (k : ∀ b u, h.get? b = some u -> h'.get? b = some u) (hp : h.objs.size <= a) (hn : H a = none) : Un fs ex H (upd H a o) h h' where
 keep := fun b u q _ _ _ => k b u q
 slot := fun b u q _ _ _ => ⟨u.slots, k b u q⟩
 free := fun b u q n _ => by rw [zj (Nat.ne_of_lt (Nat.lt_of_lt_of_le (Heap.lt_size q) hp))]; exact n
 there := fun b u q _ => ⟨u, k b u q⟩
 tups := fun b xs q => by rw [zj (zm q hn)]; exact q
 frzs := fun b u xs q => by rw [zj (zm q hn)]; exact q
 tbls := fun b ps q => ⟨#[], by rw [zj (zm q hn), q]; simp⟩
theorem Un.write (mu : Mut (H x)) (he : e = x \/ H e = some (.own x)) (k : ∀ b u, b ≠ e -> h.get? b = some u -> h'.get? b = some u) (heo : ∃ u, h'.get? e = some u) : Un fs ex H (upd H x o) h h' := by
 have hx : ∀ b, H b = none -> b ≠ x := fun b n z => by subst z; rw [n] at mu; exact mu
 have hb : ∀ b, H b = none -> b ≠ e := fun b n z => by
  subst z
  rcases he with r | r
  ·exact hx b n r
  ·rw [n] at r; cases r
 have hm : ∀ b u, H b = some u -> ¬ Mut (some u) -> b ≠ x := fun b u q nm z => by subst z; rw [q] at mu; exact nm mu
 refine ⟨fun b u q n _ _ => k b u (hb b n) q, fun b u q n _ _ => ⟨u.slots, k b u (hb b n) q⟩, fun b u q n _ => by rw [zj (hx b n)]; exact n, fun b u q _ => ?_,
  fun b xs q => by rw [zj (hm b _ q fun z => z)]; exact q, fun b u xs q => by rw [zj (hm b _ q fun z => z)]; exact q, fun b ps q => ⟨#[], by rw [zj (hm b _ q fun z => z), q]; simp⟩⟩
 by_cases hbe : b = e
 ·subst hbe; exact heo
 ·exact ⟨u, k b u hbe q⟩
end
noncomputable def trk (h : Heap) (H : Hp) : List Addr := (List.range h.objs.size).filter fun a => (H a).isSome
noncomputable def ZI (h : Heap) (H : Hp) : Heap := PySem.W.hideAll h (trk h H)
theorem XD (h : Heap) (H : Hp) : (ZI h H).objs.size = h.objs.size := PySem.W.hideAll_size _ _
theorem WK {h : Heap} {H : Hp} {b : Addr} {o : Obj} (e : h.get? b = some o) (n : H b = none) : (ZI h H).get? b = some o :=
 PySem.W.hideAll_get _ e fun hm => by
  have q : (H b).isSome = true := (List.mem_filter.mp hm).2
  rw [n] at q; simp at q
theorem AC {h : Heap} {H : Hp} {b : Addr} {o : Obj} (e : (ZI h H).get? b = some o) : h.get? b = some o /\ H b = none := by
 have e' : h.get? b = some o := PySem.W.of_hideAll (trk h H) e
 refine ⟨e', ?_⟩
 cases q : H b with
 | none => rfl
 | some x =>
  have hm : b ∈ trk h H := List.mem_filter.mpr ⟨List.mem_range.mpr (Heap.lt_size e'), by simp [q]⟩
  have z : (ZI h H).get? b = none := PySem.W.hideAll_none (trk h H) hm
  rw [z] at e; cases e
noncomputable def B3 (g h : Heap) (L : Addr) : List (Addr × Obj) := (List.range h.objs.size).filterMap fun a => if a = L \/ (g.get? a).isSome = true then none else (h.get? a).map fun o => (a, o)
noncomputable def qU (g h : Heap) (L d : Addr) : List (Addr × Obj) := (B3 g h L).filter fun p => decide (p.1 ≠ d)
end L2
namespace L2
open PySem PySem.Spec PyProof.Rows
structure Mod (K : PySem.W.Frag) (mg : Str -> Option Value) (base : Heap) : Prop where
 kin : K.In base
 glob : base.Ns mainGlobals mg
 blt : ∃ mb, base.Ns builtinsNs mb /\ ∀ x : Str, x ≠ "__name__" -> mb x = bootBuiltins x
 nolimit : base.NoLimit
structure Cx where
 prog : Program
 w : World
 K : PySem.W.Frag
 mg : Str -> Option Value
 base : Heap
 A : Around
 N : List Str
 s₀ : Shared
 H₀ : Hp
 env : Env
 outer : List Env
 stack : List Env
 ex : List Addr
 fn : Str -> Bool
 calm : Bool
 pn : List (Addr × Obj)
 xe : Value -> Shared -> Prop
noncomputable def frs (l : List Env) : List Addr := l.filterMap (·.frame)
noncomputable abbrev Cx.fs (X : Cx) : List Addr := frs X.outer
noncomputable def Vis (sc : Scope) (x : Str) : Prop := sc.names.lookup x = some .local \/ sc.names.lookup x = some .cell \/ sc.names.lookup x = some .free
noncomputable def Loc (sc : Scope) (x : Str) : Prop := sc.names.lookup x = some .local \/ sc.names.lookup x = some .cell
noncomputable def HL (env : Env) (h : Heap) (m : Str -> Option Value) (x : Str) (u : Value) : Prop :=
 (env.kindOf x = some .local /\ m x = some u) \/ ((env.kindOf x = some .cell \/ env.kindOf x = some .free) /\ ∃ c, env.cells.lookup x = some c /\ h.IsCell c (some u))
structure Cx.Ok (X : Cx) : Prop where
 mod : Mod X.K X.mg X.base
 kind : X.env.scope.kind = .function
 glob : X.env.globals = mainGlobals
 blt : X.env.builtins = builtinsNs
 above : X.s₀.heap.objs.size <= X.env.locals
 inj : ∀ x y c, X.env.cells.lookup x = some c -> X.env.cells.lookup y = some c -> x = y
 has : ∀ x, (X.env.kindOf x = some .cell \/ X.env.kindOf x = some .free) -> ∃ c, X.env.cells.lookup x = some c
 cab : ∀ x c, X.fn x = true -> X.env.cells.lookup x = some c -> X.s₀.heap.objs.size <= c
 hd : X.calm = true -> X.A.handled = none
 frames : X.A.frames = some X.stack
 stk : X.stack = X.outer \/ (X.stack = X.env :: X.outer /\ X.env.frame = some X.env.locals)
 exf : ∀ b ∈ X.ex, b ≠ X.env.locals /\ ∀ x c, X.env.cells.lookup x = some c -> c ≠ b
 bs : ∀ b o, X.base.get? b = some o -> X.s₀.heap.get? b = some o /\ X.H₀ b = none
 bsz : X.base.objs.size <= X.s₀.heap.objs.size
 noex : ∀ b o, X.base.get? b = some o -> b ∉ X.ex
 exfs : ∀ b ∈ X.ex, b ∉ X.fs
 funs : X.s₀.heap.FunFrames X.base X.outer
 frf : ∀ b ∈ X.fs, X.H₀ b = none
structure Inv (X : Cx) (pins : List (Addr × Obj)) (σ : List (Option V)) (H : Hp) (s : Shared) : Prop where
 ok : X.Ok
 os : s.os = X.s₀.os
 bare : AllBare s.gens
 base : Un X.fs X.ex X.H₀ H X.s₀.heap s.heap
 loc : ∃ m, s.heap.Ns X.env.locals m /\ ∀ (i : Nat) (x : Str) (v : V), X.N[i]? = some x -> σ[i]? = some (some v) -> Vis X.env.scope x -> ∃ u, zE v u /\ HL X.env s.heap m x u
 cell : ∀ x c, X.env.cells.lookup x = some c -> ∃ v, s.heap.IsCell c v
 free : H X.env.locals = none
 freeC : ∀ x c, X.env.cells.lookup x = some c -> H c = none
 pin : ∀ p ∈ X.pn ++ pins, s.heap.get? p.1 = some p.2 /\ H p.1 = none /\ p.1 ≠ X.env.locals /\ p.1 ∉ X.fs /\ ∀ v, p.2.data ≠ .cell v
 hok : HOk X.prog X.w H s.heap
 len : σ.length = X.N.length
section
variable {X : Cx} {pins : List (Addr × Obj)} {σ : List (Option V)} {H H' : Hp} {s : Shared} {h' : Heap}
theorem Cx.Ok.nofr (ok : X.Ok) {b : Addr} {o : Obj} (e : X.base.get? b = some o) : b ∉ X.fs := fun hb => by
 have := (ok.funs.mem hb).1
 rw [e] at this; cases this
theorem Inv.bs (I : Inv X pins σ H s) : ∀ b o, X.base.get? b = some o -> s.heap.get? b = some o /\ H b = none := fun b o e =>
 ⟨I.base.keep b o (I.ok.bs b o e).1 (I.ok.bs b o e).2 (I.ok.nofr e) (I.ok.noex b o e), I.base.free b o (I.ok.bs b o e).1 (I.ok.bs b o e).2 (I.ok.noex b o e)⟩
theorem Inv.bk (I : Inv X pins σ H s) : ∀ b o, X.base.get? b = some o -> s.heap.get? b = some o := fun b o e => (I.bs b o e).1
theorem Inv.mod (I : Inv X pins σ H s) : Mod X.K X.mg X.base := I.ok.mod
theorem Inv.kIn (I : Inv X pins σ H s) : X.K.In s.heap := I.ok.mod.kin.keeps I.bk
theorem Inv.lt (I : Inv X pins σ H s) : X.env.locals < s.heap.objs.size := let ⟨_, hn, _⟩ := I.loc; hn.lt
theorem Inv.sz (I : Inv X pins σ H s) : X.s₀.heap.objs.size <= s.heap.objs.size := Nat.le_trans I.ok.above (Nat.le_of_lt I.lt)
theorem Inv.nofs (I : Inv X pins σ H s) {a : Addr} (h : s.heap.objs.size <= a) : a ∉ X.fs := fun hb => by
 obtain ⟨_, o, ho, _⟩ := I.ok.funs.mem hb
 exact absurd (Nat.lt_of_lt_of_le (Heap.lt_size ho) (Nat.le_trans I.sz h)) (Nat.lt_irrefl _)
theorem Inv.cne (I : Inv X pins σ H s) : ∀ x c, X.env.cells.lookup x = some c -> c ≠ X.env.locals := fun x c e z => by
 obtain ⟨v, o, ho, hd⟩ := I.cell x c e
 obtain ⟨m, ⟨o', es, ep, ho', hd', _⟩, _⟩ := I.loc
 rw [z, ho'] at ho; cases ho; rw [hd'] at hd; cases hd
theorem Inv.funs (I : Inv X pins σ H s) : s.heap.FunFrames X.base X.outer := by
 have all : ∀ (l : List Env), (∀ b ∈ frs l, b ∈ X.fs) -> X.s₀.heap.FunFrames X.base l -> s.heap.FunFrames X.base l := by
  intro l
  induction l with
  | nil => intro _ _; trivial
  | cons env r ih =>
   intro hs hl
   obtain ⟨hk, ⟨L, o, hf, hn, ho, hd⟩, hr⟩ := hl
   have hL : L ∈ X.fs := hs L (by unfold frs; rw [List.filterMap_cons, hf]; exact List.mem_cons_self)
   obtain ⟨sl, e⟩ := I.base.slot L o ho (I.ok.frf L hL) hL fun z => I.ok.exfs L z hL
   exact ⟨hk, ⟨L, _, hf, hn, e, hd⟩, ih (fun b hb => hs b (by unfold frs; rw [List.filterMap_cons, hf]; exact List.mem_cons_of_mem _ hb)) hr⟩
 exact all X.outer (fun _ hb => hb) I.ok.funs
theorem Inv.stack (I : Inv X pins σ H s) : s.heap.FunFrames X.base X.stack := by
 rcases I.ok.stk with e | ⟨e, hf⟩
 ·rw [e]; exact I.funs
 ·rw [e]
  obtain ⟨m, hn, _⟩ := I.loc
  refine .cons (by rw [I.ok.kind]; decide) hf hn ?_ I.funs
  exact Heap.get?_none_of_le (Nat.le_trans I.ok.bsz I.ok.above)
theorem Inv.stkSub (I : Inv X pins σ H s) : ∀ b ∈ frs X.stack, b ∈ X.env.locals :: X.fs := fun b hb => by
 rcases I.ok.stk with e | ⟨e, hf⟩
 ·rw [e] at hb; exact List.mem_cons_of_mem _ hb
 ·rw [e] at hb
  unfold frs at hb
  rw [List.filterMap_cons, hf] at hb
  exact hb
theorem Inv.stkFree (I : Inv X pins σ H s) : ∀ b ∈ frs X.stack, H b = none := fun b hb => by
 rcases List.mem_cons.mp (I.stkSub b hb) with e | hb
 ·rw [e]; exact I.free
 ·obtain ⟨_, o, ho, _⟩ := I.ok.funs.mem hb
  exact I.base.free b o ho (I.ok.frf b hb) fun z => I.ok.exfs b z hb
theorem Inv.step {g' : Array GenState} {t' : Nat} {d' : Drawn} {ch : List Addr} (I : Inv X pins σ H s)
  (hch : ∀ b ∈ ch, (b ∈ X.ex \/ X.s₀.heap.objs.size <= b) /\ b ≠ X.env.locals /\ (∀ x c, X.env.cells.lookup x = some c -> c ≠ b) /\ ∀ p ∈ X.pn ++ pins, p.1 ≠ b)
  (keep : ∀ b o, b ≠ X.env.locals -> b ∉ X.fs -> b ∉ ch -> s.heap.get? b = some o -> H b = none -> h'.get? b = some o)
  (slot : ∀ b o, b ≠ X.env.locals -> b ∈ X.fs -> b ∉ ch -> s.heap.get? b = some o -> H b = none -> ∃ sl, h'.get? b = some { o with slots := sl }) (free : ∀ b o, b ∉ ch -> s.heap.get? b = some o -> H b = none -> H' b = none)
  (there : ∀ b o, b ∉ ch -> s.heap.get? b = some o -> ∃ o', h'.get? b = some o')
  (tups : ∀ b xs, H b = some (.tup xs) -> H' b = some (.tup xs)) (frzs : ∀ b o u, H b = some (.frz o u) -> H' b = some (.frz o u)) (tbls : ∀ b ps, H b = some (.tbl ps) -> ∃ more, H' b = some (.tbl (ps ++ more)))
  (ns : ∀ m, s.heap.Ns X.env.locals m -> h'.Ns X.env.locals m) (hok : HOk X.prog X.w H' h') (hg : AllBare g') :
  Inv X pins σ H' { s with heap := h', gens := g', drawn := d', toks := t' } := by
 have neL : ∀ b o, X.s₀.heap.get? b = some o -> b ≠ X.env.locals := fun b o e => Nat.ne_of_lt (Nat.lt_of_lt_of_le (Heap.lt_size e) I.ok.above)
 have neC : ∀ b o, X.s₀.heap.get? b = some o -> b ∉ X.ex -> b ∉ ch := fun b o e hx hb => by
  rcases (hch b hb).1 with z | z
  ·exact hx z
  ·exact absurd (Nat.lt_of_lt_of_le (Heap.lt_size e) z) (Nat.lt_irrefl _)
 have cellK : ∀ x c, X.env.cells.lookup x = some c -> ∀ v, s.heap.IsCell c v -> h'.IsCell c v := fun x c e v ⟨o, ho, hd⟩ => by
  have nch : c ∉ ch := fun z => (hch c z).2.2.1 x c e rfl
  by_cases hc : c ∈ X.fs
  ·obtain ⟨sl, q⟩ := slot c o (I.cne x c e) hc nch ho (I.freeC x c e)
   exact ⟨_, q, hd⟩
  ·exact ⟨o, keep c o (I.cne x c e) hc nch ho (I.freeC x c e), hd⟩
 refine ⟨I.ok, I.os, hg, ⟨fun b o e n hb hx => ?_, fun b o e n hb hx => ?_, fun b o e n hx => ?_, fun b o e hx => ?_, fun b xs e => tups b xs (I.base.tups b xs e), fun b o xs e => frzs b o xs (I.base.frzs b o xs e), fun b ps e => ?_⟩, ?_, fun x c e => ?_, ?_, fun x c e => ?_, fun p hp => ?_, hok, I.len⟩
 ·exact keep b o (neL b o e) hb (neC b o e hx) (I.base.keep b o e n hb hx) (I.base.free b o e n hx)
 ·obtain ⟨sl, e1⟩ := I.base.slot b o e n hb hx
  obtain ⟨sl', e2⟩ := slot b _ (neL b o e) hb (neC b o e hx) e1 (I.base.free b o e n hx)
  exact ⟨sl', e2⟩
 ·obtain ⟨o', e1⟩ := I.base.there b o e hx
  exact free b o' (neC b o e hx) e1 (I.base.free b o e n hx)
 ·obtain ⟨o', e1⟩ := I.base.there b o e hx
  exact there b o' (neC b o e hx) e1
 ·obtain ⟨m1, e1⟩ := I.base.tbls b ps e
  obtain ⟨m2, e2⟩ := tbls b _ e1
  exact ⟨m1 ++ m2, by rw [e2, Array.append_assoc]⟩
 ·obtain ⟨m, hn, hl⟩ := I.loc
  refine ⟨m, ns m hn, fun i x v e1 e2 e3 => ?_⟩
  obtain ⟨u, r, l⟩ := hl i x v e1 e2 e3
  refine ⟨u, r, ?_⟩
  rcases l with l | ⟨k, c, e, z⟩
  ·exact .inl l
  ·exact .inr ⟨k, c, e, cellK x c e _ z⟩
 ·obtain ⟨v, z⟩ := I.cell x c e
  exact ⟨v, cellK x c e v z⟩
 ·obtain ⟨m, ⟨o, _, _, ho, _⟩, _⟩ := I.loc
  exact free _ o (fun z => (hch _ z).2.1 rfl) ho I.free
 ·obtain ⟨v, o, ho, hd⟩ := I.cell x c e
  exact free c o (fun z => (hch c z).2.2.1 x c e rfl) ho (I.freeC x c e)
 ·obtain ⟨e, n, ne, nf, d⟩ := I.pin p hp
  have nch : p.1 ∉ ch := fun z => (hch p.1 z).2.2.2 p hp rfl
  exact ⟨keep p.1 p.2 ne nf nch e n, free p.1 p.2 nch e n, ne, nf, d⟩
theorem Inv.un {t' : Nat} (I : Inv X pins σ H s) (u : Un X.fs [] H H' s.heap h') (hok : HOk X.prog X.w H' h') : Inv X pins σ H' { s with heap := h', toks := t' } := by
 obtain ⟨m, ⟨o, es, ep, ho, r⟩, _⟩ := id I.loc
 obtain ⟨sl, hL⟩ := u.any ho I.free (by simp)
 exact I.step (g' := s.gens) (d' := s.drawn) (ch := []) (fun _ z => nomatch z) (fun b o _ hb _ e n => u.keep b o e n hb (by simp)) (fun b o _ hb _ e n => u.slot b o e n hb (by simp)) (fun b o _ e n => u.free b o e n (by simp)) (fun b o _ e => u.there b o e (by simp)) u.tups u.frzs u.tbls (fun m' hm => by
  obtain ⟨o', es', ep', ho', r'⟩ := hm
  rw [ho] at ho'; cases ho'
  exact ⟨_, es', ep', hL, r'⟩) hok I.bare
theorem Inv.call {g' : Array GenState} {t' : Nat} {d' : Drawn} {ch : List Addr} (I : Inv X pins σ H s) (u : Un (frs X.stack) ch H H' s.heap h') (hok : HOk X.prog X.w H' h') (hg : AllBare g')
  (hch : ∀ b ∈ ch, (b ∈ X.ex \/ X.s₀.heap.objs.size <= b) /\ b ≠ X.env.locals /\ (∀ x c, X.env.cells.lookup x = some c -> c ≠ b) /\ ∀ p ∈ X.pn ++ pins, p.1 ≠ b) :
  Inv X pins σ H' { s with heap := h', gens := g', drawn := d', toks := t' } := by
 obtain ⟨m, ⟨o, es, ep, ho, r⟩, _⟩ := id I.loc
 obtain ⟨sl, hL⟩ := u.any ho I.free fun z => (hch _ z).2.1 rfl
 exact I.step (ch := ch) hch (fun b o hL hb hc e n => u.keep b o e n (fun z => (List.mem_cons.mp (I.stkSub b z)).elim hL hb) hc) (fun b o _ _ hc e n => u.any e n hc) (fun b o hc e n => u.free b o e n hc) (fun b o hc e => u.there b o e hc) u.tups u.frzs u.tbls (fun m' hm => by
  obtain ⟨o', es', ep', ho', r'⟩ := hm
  rw [ho] at ho'; cases ho'
  exact ⟨_, es', ep', hL, r'⟩) hok hg
theorem Inv.turned {t' : Nat} {it : Addr} (I : Inv X pins σ H s) (k : ∀ b o, b ≠ it -> s.heap.get? b = some o -> h'.get? b = some o) (hn : H it = none) (hL : it ≠ X.env.locals)
  (h1 : it ∈ X.ex \/ X.s₀.heap.objs.size <= it) (h2 : ∀ x c, X.env.cells.lookup x = some c -> c ≠ it) (h3 : ∀ p ∈ X.pn ++ pins, p.1 ≠ it) : Inv X pins σ H { s with heap := h', toks := t' } := by
 have nit : ∀ b u, H b = some u -> b ≠ it := fun b u e z => by rw [z, hn] at e; cases e
 refine I.step (g' := s.gens) (d' := s.drawn) (ch := [it]) (fun b hb => ?_) (fun b o _ _ hc e _ => k b o (fun z => hc (by simp [z])) e) (fun b o _ _ hc e _ => ⟨o.slots, k b o (fun z => hc (by simp [z])) e⟩) (fun _ _ _ _ n => n)
  (fun b o hc e => ⟨o, k b o (fun z => hc (by simp [z])) e⟩) (fun _ _ e => e) (fun _ _ _ e => e) (fun b ps e => ⟨#[], by rw [e]; simp⟩) (fun m hm => ?_) (fun b u e => ?_) I.bare
 ·have e : b = it := by simpa using hb
  subst e
  exact ⟨h1, hL, h2, h3⟩
 ·obtain ⟨o, es, ep, ho, r⟩ := hm
  exact ⟨o, es, ep, k _ o (Ne.symm hL) ho, r⟩
 ·refine (I.hok b u e).stay (fun c v hc q => k c v ?_ q) (fun _ q => q) fun _ _ q => q
  rcases hc with z | z
  ·rw [z]; exact nit b u e
  ·exact nit c _ z
theorem Inv.tok (I : Inv X pins σ H s) (t : Nat) : Inv X pins σ H { s with toks := t } := I.un (h' := s.heap) (t' := t) Un.refl I.hok
theorem Inv.kept {t' : Nat} (I : Inv X pins σ H s) (k : ∀ b u, s.heap.get? b = some u -> h'.get? b = some u) : Inv X pins σ H { s with heap := h', toks := t' } := I.un (Un.kept k) (I.hok.kept k)
theorem Inv.laid {a : Addr} {o : HO} {t' : Nat} (I : Inv X pins σ H s) (k : ∀ b u, s.heap.get? b = some u -> h'.get? b = some u) (hp : s.heap.objs.size <= a) (new : qb X.prog X.w (upd H a o) h' a o) :
  Inv X pins σ (upd H a o) { s with heap := h', toks := t' } := I.un (Un.laid k hp (I.hok.fresh hp)) (I.hok.laid k hp new)
theorem Inv.write {x e : Addr} {o : HO} {t' : Nat} (I : Inv X pins σ H s) (mu : Mut (H x)) (he : e = x \/ H e = some (.own x)) (k : ∀ b u, b ≠ e -> s.heap.get? b = some u -> h'.get? b = some u) (heo : ∃ u, h'.get? e = some u)
  (new : qb X.prog X.w (upd H x o) h' x o) : Inv X pins σ (upd H x o) { s with heap := h', toks := t' } := I.un (Un.write mu he k heo) (I.hok.write mu he k heo new)
theorem Inv.pins_of {pins' : List (Addr × Obj)} (I : Inv X pins σ H s) (h : ∀ p ∈ pins', s.heap.get? p.1 = some p.2 /\ H p.1 = none /\ p.1 ≠ X.env.locals /\ p.1 ∉ X.fs /\ ∀ v, p.2.data ≠ .cell v) : Inv X pins' σ H s :=
 ⟨I.ok, I.os, I.bare, I.base, I.loc, I.cell, I.free, I.freeC, fun p hp => (List.mem_append.mp hp).elim (fun z => I.pin p (List.mem_append_left _ z)) (h p), I.hok, I.len⟩
theorem Jc {N : List Str} (hN : N.Nodup) {i j : Nat} {x : Str} (a : N[i]? = some x) (b : N[j]? = some x) : i = j := by
 obtain ⟨h1, e1⟩ := List.getElem?_eq_some_iff.mp a
 obtain ⟨h2, e2⟩ := List.getElem?_eq_some_iff.mp b
 exact (List.getElem_inj hN).mp (e1.trans e2.symm)
theorem wI {M : Model} {A : Around} {E : Value -> Shared -> Prop} {i : Nat} {x : Str} {v : V} {u : Value} {Q : Unit -> Shared -> Prop} (I : Inv X pins σ H s) (hN : X.N.Nodup) (hi : X.N[i]? = some x) (hx : Loc X.env.scope x) (r : zE v u)
    (h : ∀ s', Inv X pins (σ.set i (some v)) H s' -> (∃ a, Heap.SameBut a s.heap s'.heap /\ (a = X.env.locals \/ X.env.cells.lookup x = some a)) -> Q () s') (hf : X.fn x = true \/ X.env.scope.names.lookup x = some .local := by first | exact .inl rfl | exact .inr rfl | assumption) : wpAny M A (storeName X.env x u) Q E s := by
  obtain ⟨m, hn, hl⟩ := id I.loc
  have hcls : (X.env.scope.kind == .class || (X.env.scope.kind == .module && X.env.locals != X.env.globals)) = false := by rw [I.ok.kind]; rfl
  have hiσ : i < σ.length := by rw [I.len]; exact (List.getElem?_eq_some_iff.mp hi).1
  have cne := I.cne
  have tracked : ∀ {a : Addr} {h' : Heap}, (∃ o, s.heap.get? a = some o /\ H a = none) -> Heap.SameBut a s.heap h' -> HOk X.prog X.w H h' := fun {a h'} ha hs b ob e => by
    obtain ⟨_, _, hfree⟩ := ha
    refine (I.hok b ob e).stay (fun c w' hc q => (hs.2 c ?_).trans q) (fun _ q => q) fun _ _ q => q
    rintro rfl
    rcases hc with rfl | hc
    · rw [hfree] at e; cases e
    · rw [hfree] at hc; cases hc
  rcases hx with hk | hk
  · refine wpAny_storeName_local hk hn (fun h' hn' hs => ?_) hcls
    obtain ⟨oL, _, _, hoL, _⟩ := id hn
    refine h _ ⟨I.ok, I.os, I.bare, ⟨fun b o e n hb hx => ?_, fun b o e n hb hx => ?_, I.base.free, fun b o e hx => ?_, I.base.tups, I.base.frzs, I.base.tbls⟩, ⟨_, hn', fun j y v' e1 e2 e3 => ?_⟩, fun y c e => ?_, I.free, I.freeC, fun p hp => ?_, tracked ⟨oL, hoL, I.free⟩ hs, by simpa using I.len⟩ ⟨_, hs, .inl rfl⟩
    · exact (hs.2 b (Nat.ne_of_lt (Nat.lt_of_lt_of_le (Heap.lt_size e) I.ok.above))).trans (I.base.keep b o e n hb hx)
    · obtain ⟨sl, e1⟩ := I.base.slot b o e n hb hx
      exact ⟨sl, (hs.2 b (Nat.ne_of_lt (Nat.lt_of_lt_of_le (Heap.lt_size e) I.ok.above))).trans e1⟩
    · obtain ⟨o', e1⟩ := I.base.there b o e hx
      exact ⟨o', (hs.2 b (Nat.ne_of_lt (Nat.lt_of_lt_of_le (Heap.lt_size e) I.ok.above))).trans e1⟩
    · by_cases hj : j = i
      · subst hj
        rw [hi] at e1; cases e1
        rw [List.getElem?_set_self hiσ] at e2
        cases e2
        exact ⟨u, r, .inl ⟨hk, by simp⟩⟩
      · rw [List.getElem?_set_ne (Ne.symm hj)] at e2
        obtain ⟨u', r', q⟩ := hl j y v' e1 e2 e3
        refine ⟨u', r', ?_⟩
        rcases q with ⟨k, e⟩ | ⟨k, c, e, z⟩
        · refine .inl ⟨k, ?_⟩
          have : y ≠ x := fun e => hj (Jc hN e1 (e ▸ hi))
          simp [this, e]
        · exact .inr ⟨k, c, e, z.sameBut hs (cne y c e)⟩
    · obtain ⟨w', z⟩ := I.cell y c e
      exact ⟨w', z.sameBut hs (cne y c e)⟩
    · obtain ⟨e, n, ne, nf, d⟩ := I.pin p hp
      exact ⟨(hs.2 p.1 ne).trans e, n, ne, nf, d⟩
  · have hfn : X.fn x = true := by
      rcases hf with z | z
      · exact z
      · rw [z] at hk; cases hk
    obtain ⟨c, hc⟩ := I.ok.has x (.inl hk)
    obtain ⟨w', z⟩ := I.cell x c hc
    refine wpAny_storeName_cell I.ok.kind hk hc z (fun h' hc' hs => ?_)
    obtain ⟨oc, hoc, hocd⟩ := id z
    refine h { s with heap := h' } ⟨I.ok, I.os, I.bare, ⟨fun b o e n hb hx => ?_, fun b o e n hb hx => ?_, I.base.free, fun b o e hx => ?_, I.base.tups, I.base.frzs, I.base.tbls⟩, ⟨m, hn.sameBut hs (Ne.symm (cne x c hc)), fun j y v' e1 e2 e3 => ?_⟩, fun y c' e => ?_, I.free, I.freeC, fun p hp => ?_, tracked ⟨oc, hoc, I.freeC x c hc⟩ hs, by simpa using I.len⟩ ⟨c, hs, .inr hc⟩
    · exact (hs.2 b (Nat.ne_of_lt (Nat.lt_of_lt_of_le (Heap.lt_size e) (I.ok.cab x c hfn hc)))).trans (I.base.keep b o e n hb hx)
    · obtain ⟨sl, e1⟩ := I.base.slot b o e n hb hx
      exact ⟨sl, (hs.2 b (Nat.ne_of_lt (Nat.lt_of_lt_of_le (Heap.lt_size e) (I.ok.cab x c hfn hc)))).trans e1⟩
    · obtain ⟨o', e1⟩ := I.base.there b o e hx
      exact ⟨o', (hs.2 b (Nat.ne_of_lt (Nat.lt_of_lt_of_le (Heap.lt_size e) (I.ok.cab x c hfn hc)))).trans e1⟩
    · by_cases hj : j = i
      · subst hj
        rw [hi] at e1; cases e1
        rw [List.getElem?_set_self hiσ] at e2
        cases e2
        exact ⟨u, r, .inr ⟨.inl hk, c, hc, hc'⟩⟩
      · rw [List.getElem?_set_ne (Ne.symm hj)] at e2
        obtain ⟨u', r', q⟩ := hl j y v' e1 e2 e3
        refine ⟨u', r', ?_⟩
        rcases q with q | ⟨k, c', e, z'⟩
        · exact .inl q
        · refine .inr ⟨k, c', e, z'.sameBut hs ?_⟩
          rintro rfl
          exact hj (Jc hN e1 (I.ok.inj _ _ _ e hc ▸ hi))
    · by_cases hcc : c' = c
      · subst hcc; exact ⟨_, hc'⟩
      · obtain ⟨w2, z2⟩ := I.cell y c' e
        exact ⟨w2, z2.sameBut hs hcc⟩
    · obtain ⟨e, n, ne, nf, d⟩ := I.pin p hp
      refine ⟨(hs.2 p.1 ?_).trans e, n, ne, nf, d⟩
      intro q
      rw [q, hoc] at e
      have q' : oc = p.2 := Option.some.inj e
      exact d w' (by rw [<- q']; exact hocd)
theorem kK {M : Model} {A : Around} {E : Value -> Shared -> Prop} {i : Nat} {x : Str} {v : V} {u : Value} {Q : Unit -> Shared -> Prop} (I : Inv X pins σ H s) (hN : X.N.Nodup) (hi : X.N[i]? = some x) (hx : Loc X.env.scope x) (r : zE v u)
  (h : ∀ s', Inv X pins (σ.set i (some v)) H s' -> Q () s') (hf : X.fn x = true \/ X.env.scope.names.lookup x = some .local := by first | exact .inl rfl | exact .inr rfl | assumption) : wpAny M A (storeName X.env x u) Q E s :=
 wI I hN hi hx r (fun s' I' _ => h s' I') hf
theorem Inv.call' {s' : Shared} {ch : List Addr} (I : Inv X pins σ H s) (ho : s'.os = s.os) (u : Un (frs X.stack) ch H H' s.heap s'.heap) (hok : HOk X.prog X.w H' s'.heap) (hg : AllBare s'.gens)
  (hch : ∀ b ∈ ch, (b ∈ X.ex \/ X.s₀.heap.objs.size <= b) /\ b ≠ X.env.locals /\ (∀ x c, X.env.cells.lookup x = some c -> c ≠ b) /\ ∀ p ∈ X.pn ++ pins, p.1 ≠ b) : Inv X pins σ H' s' := by
 obtain ⟨h', g', d', t', o'⟩ := s'
 have e : o' = s.os := ho
 subst e
 exact I.call (g' := g') (t' := t') (d' := d') u hok hg hch
end
noncomputable abbrev XK := Value -> Option Addr -> Hp -> Prop
noncomputable abbrev St := List (Option V)
noncomputable abbrev VK := V -> Hp -> Prop
noncomputable abbrev TE := St -> Hp -> VK -> Prop
noncomputable abbrev TT := St -> Hp -> (Bool -> Hp -> Prop) -> Prop
noncomputable abbrev TA := St -> Hp -> (List V -> Hp -> Prop) -> Prop
structure ke where
 nx : St -> Hp -> Prop
 rt : VK
 bk : St -> Hp -> Prop := fun _ _ => False
 ct : St -> Hp -> Prop := fun _ _ => False
noncomputable abbrev TS := ke -> St -> Hp -> Prop
noncomputable def EP (X : Cx) (pins : List (Addr × Obj)) (σ : St) (Q : VK) (u : Value) (s' : Shared) : Prop := ∃ v H', Inv X pins σ H' s' /\ zE v u /\ Q v H'
noncomputable def TP (X : Cx) (pins : List (Addr × Obj)) (σ : St) (Q : Bool -> Hp -> Prop) (b : Bool) (s' : Shared) : Prop := ∃ H', Inv X pins σ H' s' /\ Q b H'
noncomputable def AP (X : Cx) (pins : List (Addr × Obj)) (σ : St) (Q : List V -> Hp -> Prop) (us : List Value) (s' : Shared) : Prop := ∃ vs H', Inv X pins σ H' s' /\ zF vs us /\ Q vs H'
noncomputable def SP (X : Cx) (pins : List (Addr × Obj)) (D : ke) (f : Flow) (s' : Shared) : Prop :=
 match f with
 | .next => ∃ σ' H', Inv X pins σ' H' s' /\ D.nx σ' H'
 | .brk => ∃ σ' H', Inv X pins σ' H' s' /\ D.bk σ' H'
 | .cont => ∃ σ' H', Inv X pins σ' H' s' /\ D.ct σ' H'
 | .ret u => ∃ v σ' H', Inv X pins σ' H' s' /\ zE v u /\ D.rt v H'
noncomputable def PE (X : Cx) (e : Expr) (t : TE) : Prop :=
 ∀ (pins : List (Addr × Obj)) (s : Shared) (σ : St) (H : Hp) (Q : VK), Inv X pins σ H s -> t σ H Q -> wpAny (model X.prog X.w) X.A (eval e X.env) (EP X pins σ Q) X.xe s
noncomputable def PT (X : Cx) (e : Expr) (t : TT) : Prop :=
 ∀ (pins : List (Addr × Obj)) (s : Shared) (σ : St) (H : Hp) (Q : Bool -> Hp -> Prop), Inv X pins σ H s -> t σ H Q -> wpAny (model X.prog X.w) X.A (isTrue e X.env (eval e X.env)) (TP X pins σ Q) X.xe s
noncomputable def PW (X : Cx) (e : Expr) (t : TT) : Prop :=
 ∀ (whole : Sem Value) (pins : List (Addr × Obj)) (s : Shared) (σ : St) (H : Hp) (Q : Bool -> Hp -> Prop), Inv X pins σ H s -> t σ H Q -> wpAny (model X.prog X.w) X.A (isTrue e X.env whole) (TP X pins σ Q) X.xe s
theorem PW.pt {X : Cx} {e : Expr} {t : TT} (h : PW X e t) : PT X e t := h _
noncomputable def PA (X : Cx) (es : List Expr) (t : TA) : Prop :=
 ∀ (pos : Pos) (pins : List (Addr × Obj)) (s : Shared) (σ : St) (H : Hp) (Q : List V -> Hp -> Prop), Inv X pins σ H s -> t σ H Q -> wpAny (model X.prog X.w) X.A (spliced (backTo pos (starEach es X.env))) (AP X pins σ Q) X.xe s
noncomputable def PS (X : Cx) (st : Stmt) (t : TS) : Prop :=
 ∀ (pins : List (Addr × Obj)) (s : Shared) (σ : St) (H : Hp) (D : ke), Inv X pins σ H s -> t D σ H -> wpAny (model X.prog X.w) X.A (exec st X.env) (SP X pins D) X.xe s
noncomputable def PSs (X : Cx) (st : List Stmt) (t : TS) : Prop :=
 ∀ (pins : List (Addr × Obj)) (s : Shared) (σ : St) (H : Hp) (D : ke), Inv X pins σ H s -> t D σ H -> wpAny (model X.prog X.w) X.A (execs st X.env) (SP X pins D) X.xe s
theorem thn {α : Type} {t : Sem α} {Q Q' : α -> Shared -> Prop} {M : Model} {A : Around} {E : Value -> Shared -> Prop} {s : Shared} (h : wpAny M A t Q E s) (hQ : ∀ a s, Q a s -> Q' a s) : wpAny M A t Q' E s := wpAny_mono h hQ fun _ _ x => x
end L2
namespace L2
open PySem PySem.Spec PyProof.Rows
section
variable {X : Cx}
theorem bin {a b : Expr} {ta tb : TE} (ha : PE X a ta) (hb : PE X b tb) {pins : List (Addr × Obj)} {s : Shared} {σ : St} {H : Hp} {R : V -> V -> Hp -> Prop} (I : Inv X pins σ H s) (h : ta σ H fun x H1 => tb σ H1 fun y H2 => R x y H2)
  {α : Type} {Q : α -> Shared -> Prop} {f : Value -> Value -> Sem α}
  (hf : ∀ v u s2 x y H2, Inv X pins σ H2 s2 -> zE x v -> zE y u -> R x y H2 -> wpAny (model X.prog X.w) X.A (f v u) Q X.xe s2) :
  wpAny (model X.prog X.w) X.A (eval a X.env) (fun v s₁ => wpAny (model X.prog X.w) X.A (eval b X.env) (fun u s₂ => wpAny (model X.prog X.w) X.A (f v u) Q X.xe s₂) X.xe s₁) X.xe s := by
 refine thn (ha pins s σ H _ I h) fun v s1 ⟨x, H1, I1, r1, q1⟩ => ?_
 refine thn (hb pins s1 σ H1 _ I1 q1) fun u s2 ⟨y, H2, I2, r2, q2⟩ => ?_
 exact hf v u s2 x y H2 I2 r1 r2 q2
noncomputable def YR (i : Nat) : TE := fun σ H Q => ∃ v, σ[i]? = some (some v) /\ Q v H
noncomputable def tC (v : V) : TE := fun _ H Q => Q v H
theorem FQ {i : Nat} {x : Str} {pos : Pos} (hN : X.N[i]? = some x) (hv : Vis X.env.scope x) (hd : (x == ("__debug__" : Str)) = false := by decide) (hcd : (x == ("__classdict__" : Str)) = false := by decide) : PE X (.Name x pos) (YR i) := by
 intro pins s σ H Q I h
 obtain ⟨v, e, h⟩ := h
 obtain ⟨m, hn, hl⟩ := I.loc
 obtain ⟨u, r, l⟩ := hl i x v hN e hv
 have fin : EP X pins σ Q u s := ⟨v, H, I, r, h⟩
 rcases l with ⟨hk, hm⟩ | ⟨hk, c, hc, hcell⟩
 ·exact wpAny_Name (wpAny_loadName_local I.ok.kind hk hn hm fin) hd
 ·rcases hk with hk | hk
  ·exact wpAny_Name (wpAny_loadName_cell I.ok.kind hk hc hcell fin) hd
  ·exact wpAny_Name (wpAny_loadName_free I.ok.kind hk hc hcell fin hcd) hd
theorem ze {i j pos} : PE X (.Constant (.int i) j pos) (tC (.int i)) := fun _ _ _ H _ I h => wpAny_Constant_int ⟨.int i, H, I.tok _, ⟨_, rfl⟩, h⟩
theorem qE {b j pos} : PE X (.Constant (.bool b) j pos) (tC (.bl b)) := fun _ _ _ H _ I h => Constant_bool ⟨.bl b, H, I, rfl, h⟩
theorem jj {j pos} : PE X (.Constant .none j pos) (tC .non) := fun _ _ _ H _ I h => Constant_none ⟨.non, H, I, rfl, h⟩
theorem ju {x j pos} : PE X (.Constant (.str x) j pos) (tC (.str x)) := fun _ _ _ H _ I h => Calls.Constant_str ⟨.str x, H, I.tok _, ⟨_, rfl⟩, h⟩
noncomputable def Gl (X : Cx) (x : Str) : Prop := X.env.kindOf x = some .globalImplicit
theorem ZA {E : Value -> Shared -> Prop} {pins : List (Addr × Obj)} {s : Shared} {σ : St} {H : Hp} {x : Str} {u : Value} {pos : Pos} {Q : Value -> Shared -> Prop} (I : Inv X pins σ H s) (hg : Gl X x) (hm : X.mg x = some u) (h : Q u s)
  (hd : (x == ("__debug__" : Str)) = false := by decide) : wpAny (model X.prog X.w) X.A (eval (.Name x pos) X.env) Q E s :=
 Calls.Name_function_global I.ok.kind hg (Calls.loadGlobal_global (by rw [I.ok.glob]; exact I.mod.glob.keeps I.bk) hm h) hd
theorem kX {E : Value -> Shared -> Prop} {pins : List (Addr × Obj)} {s : Shared} {σ : St} {H : Hp} {x : Str} {u : Value} {pos : Pos} {Q : Value -> Shared -> Prop} (I : Inv X pins σ H s) (hg : Gl X x) (hm : X.mg x = none) (hv : bootBuiltins x = some u) (h : Q u s)
  (hn : x ≠ "__name__" := by decide) (hd : (x == ("__debug__" : Str)) = false := by decide) : wpAny (model X.prog X.w) X.A (eval (.Name x pos) X.env) Q E s := by
 obtain ⟨mb, h1, h2⟩ := I.mod.blt
 exact Calls.Name_function_global I.ok.kind hg (Calls.loadGlobal_builtin (by rw [I.ok.glob]; exact I.mod.glob.keeps I.bk) hm (by rw [I.ok.blt]; exact h1.keeps I.bk) ((h2 x hn).trans hv) h) hd
theorem qH {x : Str} {v : V} {u : Value} {pos : Pos} (hg : Gl X x) (hm : X.mg x = none) (hv : bootBuiltins x = some u) (r : zE v u) (hn : x ≠ "__name__" := by decide) (hd : (x == ("__debug__" : Str)) = false := by decide) : PE X (.Name x pos) (tC v) :=
 fun _ _ _ H _ I h => kX I hg hm hv ⟨v, H, I, r, h⟩ hn hd
variable {a b : Expr} {ta tb : TE} {pos : Pos}
noncomputable def PC (X : Cx) (op : CmpOp) (a b : Expr) (t : TE) : Prop :=
 ∀ (pins : List (Addr × Obj)) (s : Shared) (σ : St) (H : Hp) (Q : VK), Inv X pins σ H s -> t σ H Q ->
  wpAny (model X.prog X.w) X.A (eval a X.env) (fun v s₁ => wpAny (model X.prog X.w) X.A (eval b X.env) (fun u s₂ => wpAny (model X.prog X.w) X.A (compareOp op v u) (EP X pins σ Q) X.xe s₂) X.xe s₁) X.xe s
theorem Y7 (b : Expr) {op : CmpOp} (h : op ≠ .In) (h2 : op ≠ .NotIn) : behindInMarks op b = false := by
 have e1 : (op == CmpOp.In) = false := by cases op <;> first | rfl | exact absurd rfl h
 have e2 : (op == CmpOp.NotIn) = false := by cases op <;> first | rfl | exact absurd rfl h2
 cases b <;> simp [behindInMarks, e1, e2]
noncomputable def tB (t : TE) : TT := fun σ H Q => t σ H fun x H1 => ∃ c, x = .bl c /\ Q c H1
theorem HP {op : CmpOp} {t : TE} (h : PC X op a b t) (h1 : behindInMarks op b = false := by first | exact Y7 _ (by decide) (by decide) | rfl) : PT X (.Compare a [op] [b] pos) (tB t) := by
 intro pins s σ H Q I hw
 refine wpAny_isTrue_Compare1 (thn (h pins s σ H _ I hw) fun v s1 h1 => thn h1 fun u s2 h2 => thn h2 fun c s3 ⟨x, H1, I1, r1, q1⟩ => ?_) h1
 obtain ⟨d, rfl, q⟩ := q1
 cases r1
 exact wpAny_truthy_bool ⟨H1, I1, q⟩
theorem qd {e : Expr} {t : TE} (h : PE X e t) (he : ∀ whole, isTrue e X.env whole = (do let v <- whole; standAt e.pos; holding [v] (truthy v)) := by intro _; rfl) : PT X e (tB t) := by
 intro pins s σ H Q I hw
 refine isTrue_plain (thn (h pins s σ H _ I hw) fun v s1 ⟨x, H1, I1, r1, q1⟩ => ?_) (he _)
 obtain ⟨d, rfl, q⟩ := q1
 cases r1
 exact wpAny_truthy_bool ⟨H1, I1, q⟩
variable {tA tB' : TT} {qU : List Expr}
noncomputable def tOr (t u : TT) : TT := fun σ H Q => t σ H fun c H1 => if c = true then Q true H1 else u σ H1 Q
noncomputable def Gx (t : TT) : TT := fun σ H Q => t σ H fun c H1 => Q (!c) H1
theorem kT (ha : PT X a tA) : PW X (.BoolOp .Or [a] pos) tA := by
 intro wh pins s σ H Q I h
 refine isTrue_or (thn (ha pins s σ H Q I h) fun c s1 e => ?_)
 cases c with
 | false => exact isTrue_or_nil e
 | true => exact e
theorem yQ (ha : PT X a tA) (hb : PW X (.BoolOp .Or (b :: qU) pos) tB') : PW X (.BoolOp .Or (a :: b :: qU) pos) (tOr tA tB') := by
 intro wh pins s σ H Q I h
 refine isTrue_or (thn (ha pins s σ H _ I h) fun c s1 ⟨H1, I1, q1⟩ => ?_)
 cases c with
 | true => exact ⟨H1, I1, q1⟩
 | false => exact hb wh pins s1 σ H1 Q I1 q1
theorem qL (ha : PT X a tA) : PT X (.UnaryOp .Not a pos) (Gx tA) := by
 intro pins s σ H Q I h
 exact isTrue_not (ha pins s σ H (fun c H1 => Q (!c) H1) I h)
noncomputable def Wh (ta tb : TE) : TE := fun σ H Q => ta σ H fun x H1 => ∃ c, x = .bl c /\ if c = true then tb σ H1 Q else Q (.bl false) H1
noncomputable def FT (ta tb : TE) : TE := fun σ H Q => ta σ H fun x H1 => ∃ c, x = .bl c /\ if c = true then Q (.bl true) H1 else tb σ H1 Q
theorem JF {op} {t : TE} (h : PE X a t) : PE X (.BoolOp op [a] pos) t := fun pins s σ H Q I hw => BoolOp_one (h pins s σ H Q I hw)
theorem V4 (ha : PE X a ta) (hb : PE X (.BoolOp .And (b :: qU) pos) tb) : PE X (.BoolOp .And (a :: b :: qU) pos) (Wh ta tb) := by
 intro pins s σ H Q I h
 refine BoolOp_and (thn (ha pins s σ H _ I h) fun v s1 ⟨x, H1, I1, r1, q1⟩ => ?_)
 obtain ⟨c, rfl, q1⟩ := q1
 cases r1
 refine wpAny_truthy_bool ?_
 cases c with
 | true => exact hb pins s1 σ H1 Q I1 q1
 | false => exact ⟨.bl false, H1, I1, rfl, q1⟩
theorem Hj (ha : PE X a ta) (hb : PE X (.BoolOp .Or (b :: qU) pos) tb) : PE X (.BoolOp .Or (a :: b :: qU) pos) (FT ta tb) := by
 intro pins s σ H Q I h
 refine BoolOp_or (thn (ha pins s σ H _ I h) fun v s1 ⟨x, H1, I1, r1, q1⟩ => ?_)
 obtain ⟨c, rfl, q1⟩ := q1
 cases r1
 refine wpAny_truthy_bool ?_
 cases c with
 | false => exact hb pins s1 σ H1 Q I1 q1
 | true => exact ⟨.bl true, H1, I1, rfl, q1⟩
noncomputable def tIf (t : TT) (ta tb : TE) : TE := fun σ H Q => t σ H fun c H1 => if c = true then ta σ H1 Q else tb σ H1 Q
theorem V3 {c : Expr} (hc : PT X c tA) (ha : PE X a ta) (hb : PE X b tb) : PE X (.IfExp c a b pos) (tIf tA ta tb) := by
 intro pins s σ H Q I h
 refine wpAny_IfExp (thn (hc pins s σ H _ I h) fun d s1 ⟨H1, I1, q1⟩ => ?_)
 cases d with
 | true => exact ha pins s1 σ H1 Q I1 q1
 | false => exact hb pins s1 σ H1 Q I1 q1
end
end L2
namespace L2
open PySem PySem.Spec PyProof.Rows
noncomputable def SqL (K : PySem.W.Frag) (H : Hp) (a : Addr) (xs : List V) : Prop :=
 Rd H a (.lst xs) \/
  ∃ (o : Obj) (its : Array Value) (n : Nat), K.lookup a = some o /\ o.cls = .type "list" /\ o.dict = none /\ o.data = .seq its n /\ its.size <= sizeLine /\ zF xs its.toList
noncomputable def SqT (K : PySem.W.Frag) (H : Hp) (a : Addr) (xs : List V) : Prop :=
 Rd H a (.tup xs) \/
  ∃ (o : Obj) (its : Array Value) (n : Nat), K.lookup a = some o /\ o.cls = .type "tuple" /\ o.data = .seq its n /\ its.size <= sizeLine /\ zF xs its.toList
noncomputable def HK : Value -> Option V
 | .none => some .non
 | .bool b => some (.bl b)
 | .int i _ => some (.int i)
 | .str x _ => some (.str x)
 | .bytes b _ => some (.byt b)
 | .float b _ => some (.flt b)
 | .ref a => some (.ref a)
 | .type n => some (.ty n)
 | _ => none
theorem zE.abs {x : V} {u : Value} (r : zE x u) : HK u = some x := by
 cases x with
 | non => cases r; rfl
 | bl _ => cases r; rfl
 | int _ => obtain ⟨t, rfl⟩ := r; rfl
 | str _ => obtain ⟨t, rfl⟩ := r; rfl
 | byt _ => obtain ⟨t, rfl⟩ := r; rfl
 | flt _ => obtain ⟨t, rfl⟩ := r; rfl
 | ref _ => cases r; rfl
 | ty _ => cases r; rfl
theorem zE.inj {x y : V} {u : Value} (r : zE x u) (q : zE y u) : x = y := Option.some.inj (r.abs.symm.trans q.abs)
theorem zF.inj : ∀ {xs ys : List V} {us : List Value}, zF xs us -> zF ys us -> xs = ys
 | _, _, _, .nil, .nil => rfl
 | _, _, _, .cons r t, .cons r' t' => by rw [r.inj r', zF.inj t t']
section
variable {X : Cx} {pins : List (Addr × Obj)} {σ : St} {H : Hp} {s : Shared} {a : Addr} {xs ys : List V}
theorem SqL.of {K : PySem.W.Frag} (h : H a = some (.lst xs)) : SqL K H a xs := .inl (.inl h)
theorem SqT.of {K : PySem.W.Frag} (h : H a = some (.tup xs)) : SqT K H a xs := .inl (.inl h)
theorem Inv.list (I : Inv X pins σ H s) (h : SqL X.K H a xs) : ∃ its : List Value, zF xs its /\ PlainL s.heap a its.toArray /\ xs.length <= sizeLine := by
 rcases h with h | ⟨o, its, n, hk, hc, hd, hs, hz, r⟩
 ·obtain ⟨z, its, n, r, e⟩ := h.ok I.hok
  exact ⟨its, r, ⟨_, n, e, rfl, rfl, rfl⟩, z⟩
 ·refine ⟨its.toList, r, ⟨o, n, I.kIn a o hk, hc, hd, by simpa using hs⟩, ?_⟩
  have e := r.length
  simp only [Array.length_toList] at e
  omega
theorem Inv.tuple (I : Inv X pins σ H s) (h : SqT X.K H a xs) : ∃ its : List Value, zF xs its /\ IsTup s.heap a its.toArray /\ xs.length <= sizeLine := by
 rcases h with h | ⟨o, its, n, hk, hc, hs, hz, r⟩
 ·obtain ⟨z, its, r, p⟩ := h.ok I.hok
  exact ⟨its, r, p.is, z⟩
 ·refine ⟨its.toList, r, ⟨o, I.kIn a o hk, hc, n, by simpa using hs⟩, ?_⟩
  have e := r.length
  simp only [Array.length_toList] at e
  omega
theorem Inv.list_inj (I : Inv X pins σ H s) (h : SqL X.K H a xs) (h' : SqL X.K H a ys) : xs = ys := by
 obtain ⟨its, r, ⟨o, n, e, _, _, d⟩, _⟩ := I.list h
 obtain ⟨its', r', ⟨o', n', e', _, _, d'⟩, _⟩ := I.list h'
 rw [e] at e'; cases e'
 rw [d] at d'
 injection d' with d1 _
 have : its = its' := by simpa using congrArg Array.toList d1
 subst this
 exact r.inj r'
theorem Inv.tuple_inj (I : Inv X pins σ H s) (h : SqT X.K H a xs) (h' : SqT X.K H a ys) : xs = ys := by
 obtain ⟨its, r, ⟨o, e, _, n, d⟩, _⟩ := I.tuple h
 obtain ⟨its', r', ⟨o', e', _, n', d'⟩, _⟩ := I.tuple h'
 rw [e] at e'; cases e'
 rw [d] at d'
 injection d' with d1 _
 have : its = its' := by simpa using congrArg Array.toList d1
 subst this
 exact r.inj r'
end
noncomputable abbrev Cx.wish (X : Cx) (E : Value -> Shared -> Prop) : Cx := { X with xe := E }
noncomputable abbrev Cx.nox (X : Cx) : Cx := X.wish fun _ _ => False
theorem Cx.Ok.wish {X : Cx} (ok : X.Ok) (E : Value -> Shared -> Prop) : (X.wish E).Ok :=
 ⟨ok.mod, ok.kind, ok.glob, ok.blt, ok.above, ok.inj, ok.has, ok.cab, ok.hd, ok.frames, ok.stk, ok.exf, ok.bs, ok.bsz, ok.noex, ok.exfs, ok.funs, ok.frf⟩
theorem Cx.Ok.unwish {X : Cx} {E : Value -> Shared -> Prop} (ok : (X.wish E).Ok) : X.Ok :=
 ⟨ok.mod, ok.kind, ok.glob, ok.blt, ok.above, ok.inj, ok.has, ok.cab, ok.hd, ok.frames, ok.stk, ok.exf, ok.bs, ok.bsz, ok.noex, ok.exfs, ok.funs, ok.frf⟩
section
variable {X : Cx} {pins : List (Addr × Obj)} {σ : St} {H : Hp} {s : Shared} {E : Value -> Shared -> Prop}
theorem Inv.wish (I : Inv X pins σ H s) (E : Value -> Shared -> Prop) : Inv (X.wish E) pins σ H s := ⟨I.ok.wish E, I.os, I.bare, I.base, I.loc, I.cell, I.free, I.freeC, I.pin, I.hok, I.len⟩
theorem Inv.unwish (I : Inv (X.wish E) pins σ H s) : Inv X pins σ H s := ⟨I.ok.unwish, I.os, I.bare, I.base, I.loc, I.cell, I.free, I.freeC, I.pin, I.hok, I.len⟩
theorem SP.unwish {D : ke} {f : Flow} {s' : Shared} (h : SP (X.wish E) pins D f s') : SP X pins D f s' := by
 cases f with
 | next => obtain ⟨σ', H', I, q⟩ := h; exact ⟨σ', H', I.unwish, q⟩
 | brk => obtain ⟨σ', H', I, q⟩ := h; exact ⟨σ', H', I.unwish, q⟩
 | cont => obtain ⟨σ', H', I, q⟩ := h; exact ⟨σ', H', I.unwish, q⟩
 | ret u => obtain ⟨v, σ', H', I, r, q⟩ := h; exact ⟨v, σ', H', I.unwish, r, q⟩
theorem PSs.nox {st : List Stmt} {t : TS} (h : PSs X.nox st t) : PSs X st t := fun pins s σ H D I hw =>
 wpAny_mono (h pins s σ H D (I.wish _) hw) (fun _ _ q => q.unwish) fun _ _ z => False.elim z
end
section
variable {X : Cx} {st : Stmt} {qU : List Stmt} {t u : TS} {e : Expr} {te : TE} {pos : Pos}
noncomputable def Ao : TS := fun D σ H => D.nx σ H
noncomputable def Wo (t u : TS) : TS := fun D σ H => t { D with nx := u D } σ H
theorem zx : PSs X [] Ao := fun _ _ σ H _ I h => wpAny_execs_nil ⟨σ, H, I, h⟩
theorem zc (h1 : PS X st t) (h2 : PSs X qU u) : PSs X (st :: qU) (Wo t u) := by
 intro pins s σ H D I h
 refine wpAny_execs_cons (thn (h1 pins s σ H { D with nx := u D } I h) fun f s1 q => ?_)
 cases f with
 | next =>
  obtain ⟨σ', H', I', q⟩ := q
  exact h2 pins s1 σ' H' D I' q
 | ret v => exact q
 | brk => exact q
 | cont => exact q
theorem zd (h1 : PS X st t) : PSs X [st] t := by
 intro pins s σ H D I h
 refine wpAny_execs_cons (thn (h1 pins s σ H D I h) fun f s1 q => ?_)
 cases f with
 | next => exact wpAny_execs_nil q
 | ret v => exact q
 | brk => exact q
 | cont => exact q
theorem Inv.quiet {pins : List (Addr × Obj)} {σ : St} {H : Hp} {s : Shared} (I : Inv X pins σ H s) : interactive X.env = false := by simp [interactive, I.ok.kind]
noncomputable def VI (te : TE) : TS := fun D σ H => te σ H fun _ H1 => D.nx σ H1
theorem qZ (he : PE X e te) (hs : swapsWith e none pos.line X.env = pure false := by rfl) : PS X (.Expr e pos) (VI te) := by
 intro pins s σ H D I h
 exact wpAny_Expr_any (thn (he pins s σ H _ I h) fun v s1 ⟨x, H1, I1, r1, q1⟩ => ⟨σ, H1, I1, q1⟩) I.quiet hs
noncomputable def Fg (te : TE) : TS := fun D σ H => te σ H D.rt
theorem zq (he : PE X e te) : PS X (.Return (some e) pos) (Fg te) := by
 intro pins s σ H D I h
 exact wpAny_Return_some (thn (he pins s σ H _ I h) fun v s1 ⟨x, H1, I1, r1, q1⟩ => ⟨x, σ, H1, I1, r1, q1⟩)
noncomputable def EI (c : TT) (t u : TS) : TS := fun D σ H => c σ H fun b H1 => if b = true then t D σ H1 else u D σ H1
theorem zP {c : Expr} {a b : List Stmt} {tc : TT} (hc : PT X c tc) (ha : PSs X a t) (hb : PSs X b u) : PS X (.If c a b pos) (EI tc t u) := by
 intro pins s σ H D I h
 refine wpAny_If (thn (hc pins s σ H _ I h) fun d s1 ⟨H1, I1, q1⟩ => ?_)
 cases d with
 | true => exact ha pins s1 σ H1 D I1 q1
 | false => exact hb pins s1 σ H1 D I1 q1
noncomputable def Jx : TS := fun _ _ _ => False
theorem qq : PS X st Jx := fun _ _ _ _ _ _ h => h.elim
end
noncomputable abbrev TG := V -> St -> Hp -> (St -> Hp -> Prop) -> Prop
noncomputable abbrev TGs := List V -> St -> Hp -> (St -> Hp -> Prop) -> Prop
noncomputable def PG (X : Cx) (target : Expr) (t : TG) : Prop :=
 ∀ (pins : List (Addr × Obj)) (s : Shared) (σ : St) (H : Hp) (v : V) (u : Value) (Q : St -> Hp -> Prop), Inv X pins σ H s -> zE v u -> t v σ H Q ->
  wpAny (model X.prog X.w) X.A (assign target X.env u) (fun _ s' => ∃ σ' H', Inv X pins σ' H' s' /\ Q σ' H') X.xe s
noncomputable def PGs (X : Cx) (ts : List Expr) (t : TGs) : Prop :=
 ∀ (pins : List (Addr × Obj)) (s : Shared) (σ : St) (H : Hp) (vs : List V) (us : List Value) (Q : St -> Hp -> Prop), Inv X pins σ H s -> zF vs us -> t vs σ H Q ->
  wpAny (model X.prog X.w) X.A (assignInOrder ((assignEach ts X.env).map (·.2)) us) (fun _ s' => ∃ σ' H', Inv X pins σ' H' s' /\ Q σ' H') X.xe s
noncomputable abbrev JK := V -> V -> V -> Hp -> (Hp -> Prop) -> Prop
noncomputable def A4 (X : Cx) (t : JK) : Prop :=
 ∀ (pins : List (Addr × Obj)) (s : Shared) (σ : St) (H : Hp) (o i v : V) (ov iv u : Value) (Q : Hp -> Prop), Inv X pins σ H s -> zE o ov -> zE i iv -> zE v u -> t o i v H Q ->
  wpAny (model X.prog X.w) X.A (setItem ov iv u) (fun _ s' => ∃ H', Inv X pins σ H' s' /\ Q H') X.xe s
noncomputable abbrev TIp := V -> V -> Hp -> VK -> Prop
noncomputable def PIp (X : Cx) (op : Operator) (t : TIp) : Prop :=
 ∀ (pins : List (Addr × Obj)) (s : Shared) (σ : St) (H : Hp) (x y : V) (v u : Value) (Q : VK), Inv X pins σ H s -> zE x v -> zE y u -> t x y H Q ->
  wpAny (model X.prog X.w) X.A (inplaceOp op v u) (EP X pins σ Q) X.xe s
section
variable {X : Cx} {pos : Pos}
noncomputable def QE (i : Nat) : TG := fun v σ H Q => Q (σ.set i (some v)) H
theorem zA {i : Nat} {x : Str} (hN : X.N.Nodup) (hi : X.N[i]? = some x) (hx : Loc X.env.scope x) (hf : X.fn x = true \/ X.env.scope.names.lookup x = some .local := by first | exact .inl rfl | exact .inr rfl | assumption) : PG X (.Name x pos) (QE i) := by
 intro pins s σ H v u Q I r h
 exact wpAny_assign_Name (kK I hN hi hx r (fun s' I' => ⟨_, H, I', h⟩) hf)
noncomputable def Gc : TGs := fun vs σ H Q => vs = [] /\ Q σ H
noncomputable def Vm (t : TG) (u : TGs) : TGs := fun vs σ H Q => ∃ v r, vs = v :: r /\ t v σ H fun σ' H' => u r σ' H' Q
theorem jG : PGs X [] Gc := by
 intro pins s σ H vs us Q I r h
 obtain ⟨e, h⟩ := h
 subst e
 cases r
 exact assignInOrder_nil ⟨σ, H, I, h⟩
theorem zX {e : Expr} {es : List Expr} {t : TG} {u : TGs} (h1 : PG X e t) (h2 : PGs X es u)
  (hs : (assignEach (e :: es) X.env).map (·.2) = assign e X.env :: (assignEach es X.env).map (·.2) := by rfl) : PGs X (e :: es) (Vm t u) := by
 intro pins s σ H vs us Q I r h
 obtain ⟨v, vr, e1, h⟩ := h
 subst e1
 cases r with
 | cons r rr =>
  rw [hs]
  refine assignInOrder_cons (thn (h1 pins s σ H _ _ _ I r h) fun _ s1 ⟨σ1, H1, I1, q1⟩ => ?_)
  exact h2 pins s1 σ1 H1 _ _ Q I1 rr q1
noncomputable def AM (K : PySem.W.Frag) (n : Nat) (t : TGs) : TG := fun v σ H Q => ∃ a xs, v = .ref a /\ SqT K H a xs /\ xs.length = n /\ t xs σ H Q
theorem FF {es : List Expr} {k : Nat} {t : TGs} {n : Nat} (hc : X.calm = true) (h : PGs X es t)
  (hn : (assignEach es X.env).length = n := by rfl) (hst : (assignEach es X.env).findIdx? (·.1) = none := by rfl) : PG X (.Tuple es k pos) (AM X.K n t) := by
 intro pins s σ H v u Q I r hw
 obtain ⟨a, xs, e1, hq, hl, hw⟩ := hw
 subst e1
 cases r
 obtain ⟨its, rv, ht, hz⟩ := I.tuple hq
 refine assign_Tuple_tuple (I.ok.hd hc) ht (by simp [hn, <- hl, rv.length]) hst fun h' hx => ?_
 have I1 : Inv X pins σ H { s with heap := h' } := I.kept (t' := s.toks) fun b o e => hx b o (Nat.ne_of_lt (Heap.lt_size e)) e
 exact h pins _ σ H xs _ Q I1 (by simpa using rv) hw
noncomputable def FH (to ti : TE) (t : JK) : TG := fun v σ H Q => to σ H fun o H1 => ti σ H1 fun i H2 => t o i v H2 fun H3 => Q σ H3
theorem qM {o i : Expr} {to ti : TE} {t : JK} (ho : PE X o to) (hi : PE X i ti) (hs : A4 X t)
  (ha : ∀ v, assign (.Subscript o i pos) X.env v = (do
   let ov <- holding [v] (eval o X.env)
   let iv <- holding [v, ov] (eval i X.env)
   standAt pos
   holding [v, ov, iv] (setItem ov iv v)
   release [v, ov, iv] []) := by intro _; rfl) : PG X (.Subscript o i pos) (FH to ti t) := by
 intro pins s σ H v u Q I r h
 rw [ha]
 refine wpAny_bind (wpAny_holding (thn (ho pins s σ H _ I h) fun ov s1 ⟨x, H1, I1, r1, q1⟩ => ?_))
 refine wpAny_bind (wpAny_holding (thn (hi pins s1 σ H1 _ I1 q1) fun iv s2 ⟨y, H2, I2, r2, q2⟩ => ?_))
 refine wpAny_bind (wpAny_standAt (wpAny_bind (wpAny_holding (thn (hs pins s2 σ H2 x y v ov iv u _ I2 r1 r2 r q2) fun _ s3 ⟨H3, I3, q3⟩ => ?_))))
 exact wpAny_release ⟨σ, H3, I3, q3⟩
noncomputable def VB (te : TE) (g : TG) : TS := fun D σ H => te σ H fun x H1 => g x σ H1 D.nx
theorem qG {tg e : Expr} {te : TE} {g : TG} (he : PE X e te) (hg : PG X tg g) (hs : swapsWithSole [tg] e pos.line X.env = pure false := by rfl) (hw : swappedStores [tg] e X.env = pure none := by rfl)
  (h1 : (assignEach [tg] X.env).map (·.2) = [assign tg X.env] := by rfl) : PS X (.Assign [tg] e pos) (VB te g) := by
 intro pins s σ H D I h
 refine wpAny_Assign_stores (thn (he pins s σ H _ I h) fun v s1 ⟨x, H1, I1, r1, q1⟩ => ?_) hs hw
 rw [h1]
 exact thn (hg pins s1 σ H1 x v _ I1 r1 q1) fun _ s2 q => q
theorem zu {i : Nat} {x : Str} {e : Expr} {te : TE} {pos' : Pos} (hN : X.N.Nodup) (hi : X.N[i]? = some x) (hx : Loc X.env.scope x) (he : PE X e te) (hs : swapsWith e (some (.Name x pos')) pos.line X.env = pure false := by rfl) (hf : X.fn x = true \/ X.env.scope.names.lookup x = some .local := by first | exact .inl rfl | exact .inr rfl | assumption) :
  PS X (.Assign [.Name x pos'] e pos) (VB te (QE i)) := by
 intro pins s σ H D I h
 refine wpAny_Assign_Name (thn (he pins s σ H _ I h) fun v s1 ⟨y, H1, I1, r1, q1⟩ => ?_) hs
 exact kK I1 hN hi hx r1 (fun s2 I2 => ⟨_, H1, I2, q1⟩) hf
noncomputable def FK (i j : Nat) (ta : TA) : TS := fun D σ H => ta σ H fun vs H1 => ∃ v w, vs = [v, w] /\ D.nx ((σ.set i (some v)).set j (some w)) H1
theorem Kn {i j : Nat} {x y : Str} {a b : Expr} {ta : TA} {px py pt : Pos} {kt k2 pt2} (hc : X.calm = true) (hN : X.N.Nodup) (hi : X.N[i]? = some x) (hj : X.N[j]? = some y) (hij : i ≠ j)
  (hx : X.env.scope.names.lookup x = some .local) (hy : X.env.scope.names.lookup y = some .local) (ha : PA X [a, b] ta)
  (hw : swappedStores [.Tuple [.Name x px, .Name y py] kt pt] (.Tuple [a, b] k2 pt2) X.env = pure (some [x, y]))
  (hs : swapsWithSole [.Tuple [.Name x px, .Name y py] kt pt] (.Tuple [a, b] k2 pt2) pos.line X.env = pure false := by rfl) :
  PS X (.Assign [.Tuple [.Name x px, .Name y py] kt pt] (.Tuple [a, b] k2 pt2) pos) (FK i j ta) := by
 intro pins s σ H D I h
 rw [exec_Assign_arm]
 refine wpAny_bind (wpAny_standAt ?_)
 rw [hs]
 refine wpAny_bind (wpAny_pure ?_)
 rw [if_neg (by decide)]
 refine wpAny_bind (Tuple_ (thn (ha _ pins s σ H _ I h) fun us s1 ⟨vs, H1, I1, r1, q1⟩ => ?_))
 obtain ⟨v, w, e1, q1⟩ := q1
 subst e1
 obtain ⟨u1, u2, rfl, rv, rw'⟩ : ∃ u1 u2, us = [u1, u2] /\ zE v u1 /\ zE w u2 := by
  cases r1 with
  | cons p q =>
   cases q with
   | cons p' q' =>
    cases q'
    exact ⟨_, _, rfl, p, p'⟩
 refine wpAny_newObj_type ?_ (by show 2 <= sizeLine; decide)
 have I2 : Inv X pins σ H1 { s1 with heap := s1.heap.push { cls := .type "tuple", data := .seq [u1, u2].toArray } } := I1.kept (t' := s1.toks) fun b o e => Heap.get?_push_of_some _ e
 rw [hw]
 refine wpAny_bind (wpAny_pure ?_)
 show wpAny (model X.prog X.w) X.A (do rule "assign.swapped-stores"; let items <- unpackItems (.ref s1.heap.objs.size) 2 none; assignInOrder [fun v => bindName X.env y v, fun v => bindName X.env x v] items.reverse; pure Flow.next) _ _ _
 refine wpAny_bind (wpAny_rule (wpAny_bind (unpackItems_tuple (items := #[u1, u2]) (I.ok.hd hc) (IsTup.new s1.heap _) fun h' hx' => ?_)))
 have I3 := I2.kept (h' := h') (t' := s1.toks) fun b o e => hx' b o (Nat.ne_of_lt (Heap.lt_size e)) e
 show wpAny _ _ (assignInOrder [fun v => bindName X.env y v, fun v => bindName X.env x v] [u2, u1] >>= fun _ => pure Flow.next) _ _ _
 refine wpAny_bind (assignInOrder_cons (wpAny_bindName (kK I3 hN hj (.inl hy) rw' (fun s2 I4 => ?_) (.inr hy))))
 refine assignInOrder_cons (wpAny_bindName (kK I4 hN hi (.inl hx) rv (fun s3 I5 => assignInOrder_nil (wpAny_pure ?_)) (.inr hx)))
 rw [List.set_comm _ _ (Ne.symm hij)] at I5
 exact ⟨_, H1, I5, q1⟩
noncomputable def FP (i : Nat) (te : TE) (ti : TIp) : TS := fun D σ H => ∃ x, σ[i]? = some (some x) /\ te σ H fun y H1 => ti x y H1 fun z H2 => D.nx (σ.set i (some z)) H2
theorem ER {i : Nat} {x : Str} {e : Expr} {te : TE} {op : Operator} {ti : TIp} {pos' : Pos} (hN : X.N.Nodup) (hi : X.N[i]? = some x) (hx : Loc X.env.scope x) (he : PE X e te) (ho : PIp X op ti) (hf : X.fn x = true \/ X.env.scope.names.lookup x = some .local := by first | exact .inl rfl | exact .inr rfl | assumption) :
  PS X (.AugAssign (.Name x pos') op e pos) (FP i te ti) := by
 intro pins s σ H D I h
 obtain ⟨v, e1, h⟩ := h
 obtain ⟨m, hn, hl⟩ := I.loc
 have vis : Vis X.env.scope x := by rcases hx with k | k; exact .inl k; exact .inr (.inl k)
 obtain ⟨u, r, l⟩ := hl i x v hi e1 vis
 refine wpAny_AugAssign_Name ?_
 have go : wpAny (model X.prog X.w) X.A (eval e X.env) (fun w s₂ => wpAny (model X.prog X.w) X.A (inplaceOp op u w) (fun r s₃ => wpAny (model X.prog X.w) X.A (storeName X.env x r) (fun _ => SP X pins D .next) X.xe s₃) X.xe s₂) X.xe s := by
  refine thn (he pins s σ H _ I h) fun w s1 ⟨y, H1, I1, r1, q1⟩ => ?_
  refine thn (ho pins s1 σ H1 v y u w _ I1 r r1 q1) fun z s2 ⟨zv, H2, I2, r2, q2⟩ => ?_
  exact kK I2 hN hi hx r2 (fun s3 I3 => ⟨_, H2, I3, q2⟩) hf
 rcases l with ⟨hk, hm⟩ | ⟨hk, c, hc, hcell⟩
 ·exact wpAny_loadName_local I.ok.kind hk hn hm go
 ·rcases hk with hk | hk
  ·exact wpAny_loadName_cell I.ok.kind hk hc hcell go
  ·rcases hx with k | k
   ·have : X.env.scope.names.lookup x = some .free := hk
    rw [k] at this; cases this
   ·have : X.env.scope.names.lookup x = some .free := hk
    rw [k] at this; cases this
noncomputable def D9 (to ti te : TE) (tget : V -> V -> Hp -> VK -> Prop) (tip : TIp) (tset : JK) : TS := fun D σ H => to σ H fun o H1 => ti σ H1 fun i H2 => tget o i H2 fun x H3 => te σ H3 fun y H4 => tip x y H4 fun z H5 => tset o i z H5 fun H6 => D.nx σ H6
noncomputable def G0 (X : Cx) (t : V -> V -> Hp -> VK -> Prop) : Prop :=
 ∀ (pins : List (Addr × Obj)) (s : Shared) (σ : St) (H : Hp) (o i : V) (ov iv : Value) (Q : VK), Inv X pins σ H s -> zE o ov -> zE i iv -> t o i H Q ->
  wpAny (model X.prog X.w) X.A (getItem ov iv) (EP X pins σ Q) X.xe s
theorem y8 {o i e : Expr} {to ti te : TE} {tget : V -> V -> Hp -> VK -> Prop} {tip : TIp} {tset : JK} {op : Operator} {tpos : Pos} (ho : PE X o to) (hi : PE X i ti) (hg : G0 X tget) (he : PE X e te) (hp : PIp X op tip) (hs : A4 X tset)
  (ha : ∀ ov iv new, augStore i ov iv new = (do holding [new, ov, iv] (setItem ov iv new); release [new, ov, iv] []; pure .next) := by intros; rfl) : PS X (.AugAssign (.Subscript o i tpos) op e pos) (D9 to ti te tget tip tset) := by
 intro pins s σ H D I h
 refine wpAny_AugAssign_SubscriptAny (thn (ho pins s σ H _ I h) fun ov s1 ⟨x1, H1, I1, r1, q1⟩ => ?_) ha
 refine thn (hi pins s1 σ H1 _ I1 q1) fun iv s2 ⟨x2, H2, I2, r2, q2⟩ => ?_
 refine thn (hg pins s2 σ H2 x1 x2 ov iv _ I2 r1 r2 q2) fun old s3 ⟨x3, H3, I3, r3, q3⟩ => ?_
 refine thn (he pins s3 σ H3 _ I3 q3) fun v s4 ⟨x4, H4, I4, r4, q4⟩ => ?_
 refine thn (hp pins s4 σ H4 x3 x4 old v _ I4 r3 r4 q4) fun new s5 ⟨x5, H5, I5, r5, q5⟩ => ?_
 exact thn (hs pins s5 σ H5 x1 x2 x5 ov iv new _ I5 r1 r2 r5 q5) fun _ s6 ⟨H6, I6, q6⟩ => ⟨σ, H6, I6, q6⟩
noncomputable def ipI (f : Int -> Int -> Int) : TIp := fun x y H Q => ∃ i j, x = .int i /\ y = .int j /\ Q (.int (f i j)) H
theorem ZV : PIp X .Add (ipI fun i j => i + j) := by
 intro pins s σ H x y v u Q I r1 r2 h
 obtain ⟨i, j, e1, e2, q⟩ := h
 subst e1; subst e2
 obtain ⟨t, rfl⟩ := r1
 obtain ⟨t', rfl⟩ := r2
 exact iadd_int ⟨.int _, H, I.tok _, ⟨_, rfl⟩, q⟩
end
section
variable {X : Cx} {pos : Pos}
noncomputable def JV (c : TT) (tb : TS) : TS := fun D σ H => ∃ W : Nat -> St -> Hp -> Prop, (∃ m, W m σ H) /\ ∀ m σ H, W m σ H ->
 c σ H fun b H1 => if b = true then ∃ N : St -> Hp -> Prop, (∀ σ' H', N σ' H' -> ∃ m', m' < m /\ W m' σ' H') /\ tb { D with nx := N, ct := N, bk := D.nx } σ H1 else D.nx σ H1
theorem vG {c : Expr} {body : List Stmt} {tc : TT} {tb : TS} (hp : PassesOwn (model X.prog X.w) X.A X.env X.xe) (hc : PT X c tc) (hb : PSs X body tb) : PS X (.While c body [] pos) (JV tc tb) := by
 intro pins s σ H D I h
 obtain ⟨W, ⟨m0, w0⟩, turn⟩ := h
 refine wpAny_While (codeAny_whileLoop (fun n s' => ∃ σ' H', Inv X pins σ' H' s' /\ W n σ' H') ?_ m0 ⟨σ, H, I, w0⟩)
 rintro n s1 ⟨σ1, H1, I1, w1⟩
 refine wpAny_passesOwn hp (thn (hc pins s1 σ1 H1 _ I1 (turn n σ1 H1 w1)) fun b s2 ⟨H2, I2, q2⟩ => ?_)
 cases b with
 | true =>
  obtain ⟨N, hN, q2⟩ := q2
  rw [if_pos rfl]
  refine wpAny_passesOwn hp (thn (hb pins s2 σ1 H2 _ I2 q2) fun f s3 q3 => ?_)
  cases f with
  | next =>
   obtain ⟨σ3, H3, I3, n3⟩ := q3
   obtain ⟨m', hm, w3⟩ := hN σ3 H3 n3
   exact ⟨m', hm, σ3, H3, I3, w3⟩
  | cont =>
   obtain ⟨σ3, H3, I3, n3⟩ := q3
   obtain ⟨m', hm, w3⟩ := hN σ3 H3 n3
   exact ⟨m', hm, σ3, H3, I3, w3⟩
  | brk => exact q3
  | ret v => exact q3
 | false =>
  rw [if_neg Bool.false_ne_true]
  exact wpAny_execs_nil ⟨σ1, H2, I2, q2⟩
end
structure It where
 go : Nat -> Hp -> Prop
 yld : Nat -> Hp -> V -> Hp -> Prop
 stop : Nat -> Hp -> Prop
noncomputable def xB (X : Cx) (pins : List (Addr × Obj)) (H : Hp) (b : Addr) : Prop :=
 H b = none /\ b ≠ X.env.locals /\ b ∉ X.fs /\ (b ∈ X.ex \/ X.s₀.heap.objs.size <= b) /\ (∀ x c, X.env.cells.lookup x = some c -> c ≠ b) /\ ∀ p ∈ X.pn ++ pins, p.1 ≠ b
theorem Inv.fpOk {X : Cx} {pins : List (Addr × Obj)} {σ : St} {H H' : Hp} {s : Shared} {b : Addr} (I : Inv X pins σ H s) (hb : s.heap.objs.size <= b) (hn : H' b = none) : xB X pins H' b := by
 refine ⟨hn, Nat.ne_of_gt (Nat.lt_of_lt_of_le I.lt hb), I.nofs hb, .inr (Nat.le_trans I.sz hb), fun x c e z => ?_, fun p hp z => ?_⟩
 ·obtain ⟨v, q⟩ := I.cell x c e
  exact absurd (Nat.lt_of_lt_of_le q.lt (by rw [z]; exact hb)) (Nat.lt_irrefl _)
 ·exact absurd (Nat.lt_of_lt_of_le (Heap.lt_size (I.pin p hp).1) (by rw [z]; exact hb)) (Nat.lt_irrefl _)
structure ZF (P : Program) (w : World) (K : PySem.W.Frag) (tg : Expr) (J : It) (fp : List Addr) (it : Addr) (tn : Nat -> Heap -> Prop) : Prop where
 mem : it ∈ fp
 obj : ∀ i h, tn i h -> ∀ b ∈ fp, ∃ o, h.get? b = some o /\ ∀ v, o.data ≠ .cell v
 keep : ∀ i h h', tn i h -> (∀ b ∈ fp, ∀ o, h.get? b = some o -> h'.get? b = some o) -> tn i h'
 item : ∀ (X : Cx), X.prog = P -> X.w = w -> X.K = K -> X.calm = true -> ∀ (i : Nat) (pins : List (Addr × Obj)) (s : Shared) (σ : St) (H : Hp) (E : Value -> Shared -> Prop), Inv X pins σ H s -> (∀ b ∈ fp, xB X pins H b) -> tn i s.heap -> J.go i H ->
  wpAny (model P w) X.A (pyNext (.ref it)) (fun r s1 => ∃ u, r = some u /\
   wpAny (model P w) X.A (letOwnedTupleGo tg (.ref it) u) (fun _ s2 => ∃ x H', Inv X pins σ H' s2 /\ zE x u /\ J.yld i H x H' /\ tn (i + 1) s2.heap /\ ∀ b ∈ fp, H' b = none) E s1) E s
 done : ∀ (X : Cx), X.prog = P -> X.w = w -> X.K = K -> X.calm = true -> ∀ (i : Nat) (pins : List (Addr × Obj)) (s : Shared) (σ : St) (H : Hp) (E : Value -> Shared -> Prop), Inv X pins σ H s -> (∀ b ∈ fp, xB X pins H b) -> tn i s.heap -> J.stop i H ->
  wpAny (model P w) X.A (pyNext (.ref it)) (fun r s1 => r = none /\ Inv X pins σ H s1) E s
 self : ∀ (A : Around) (i : Nat) (s : Shared) (Q : Value -> Shared -> Prop) (E : Value -> Shared -> Prop), tn i s.heap -> Q (.ref it) s -> wpAny (model P w) A (pyIter (.ref it)) Q E s
noncomputable abbrev TI := St -> Hp -> (It -> Hp -> Prop) -> Prop
noncomputable def PIE (X : Cx) (pins : List (Addr × Obj)) (σ : St) (tg : Expr) (R : It -> Hp -> Prop) (itv : Value) (s2 : Shared) : Prop :=
 ∃ (it : Addr) (fp : List Addr) (tn : Nat -> Heap -> Prop) (J : It) (H' : Hp), itv = .ref it /\ Inv X pins σ H' s2 /\ ZF X.prog X.w X.K tg J fp it tn /\ tn 0 s2.heap /\ (∀ b ∈ fp, xB X pins H' b) /\ R J H'
noncomputable def PI (X : Cx) (tg iter : Expr) (wi : TI) : Prop :=
 ∀ (pins : List (Addr × Obj)) (s : Shared) (σ : St) (H : Hp) (R : It -> Hp -> Prop), Inv X pins σ H s -> wi σ H R ->
  wpAny (model X.prog X.w) X.A (eval iter X.env) (fun v s1 => wpAny (model X.prog X.w) X.A (pyIter v) (PIE X pins σ tg R) X.xe s1) X.xe s
theorem WQ {M : Model} {A : Around} {E : Value -> Shared -> Prop} {s : Shared} {tg : Expr} {it : Addr} {u : Value} {o : Obj} {n : String} {vs : Array Value} {Q : Unit -> Shared -> Prop} (ho : s.heap.get? it = some o) (hc : o.cls = .type n) (hd : o.data = .fields vs)
    (hn : ["enumerate", "zip", "dict_itemiterator", "dict_reverseitemiterator", "odict_iterator", "itertools.zip_longest", "itertools.pairwise"].contains n = false) (hQ : Q () s) : wpAny M A (letOwnedTupleGo tg (.ref it) u) Q E s := by
  unfold letOwnedTupleGo
  cases tg <;> first
    | exact wpAny_pure hQ
    | (cases u <;> first
        | exact wpAny_pure hQ
        | (refine wpAny_bind (wpAny_load ho ?_)
           rw [hc, hd]
           show wpAny M A (if (["enumerate", "zip", "dict_itemiterator", "dict_reverseitemiterator", "odict_iterator", "itertools.zip_longest", "itertools.pairwise"].contains n && vs[0]? == some (rawInt _)) = true then _ else _) Q E s
           rw [if_neg (by intro h; rw [hn, Bool.false_and] at h; cases h)]
           exact wpAny_pure hQ))
noncomputable def Itl (K : PySem.W.Frag) (a : Addr) : It :=
 ⟨fun i H => ∃ xs x, SqL K H a xs /\ xs[i]? = some x, fun i H x H' => H' = H /\ ∀ xs, SqL K H a xs -> xs[i]? = some x, fun i H => ∃ xs, SqL K H a xs /\ xs.length <= i⟩
noncomputable def Itt (K : PySem.W.Frag) (a : Addr) : It :=
 ⟨fun i H => ∃ xs x, SqT K H a xs /\ xs[i]? = some x, fun i H x H' => H' = H /\ ∀ xs, SqT K H a xs -> xs[i]? = some x, fun i H => ∃ xs, SqT K H a xs /\ xs.length <= i⟩
noncomputable def Itr (lo : Int) (n : Nat) : It := ⟨fun i _ => i < n, fun i H x H' => H' = H /\ x = .int (lo + i), fun i _ => n <= i⟩
theorem Zb {P : Program} {w : World} {K : PySem.W.Frag} {tg : Expr} (a it : Addr) : ZF P w K tg (Itl K a) [it] it (fun i h => h.IsListIter it a i) where
 mem := by simp
 obj := fun i h st b hb => by
  have e : b = it := by simpa using hb
  subst e
  obtain ⟨o, e, c, d⟩ := st
  exact ⟨o, e, fun v z => by rw [d] at z; cases z⟩
 keep := fun i h h' st k => st.at fun o e => k it (by simp) o e
 item := by
  intro X hP hw hK hc i pins s σ H E I hf st hg
  subst hP hw hK
  obtain ⟨xs, x, hq, hx⟩ := hg
  obtain ⟨its, rv, p, hz⟩ := I.list hq
  obtain ⟨u, hu, ru⟩ := rv.get hx
  obtain ⟨f0, f1, f2, f3, f4, f5⟩ := hf it (by simp)
  refine wpAny_pyNext_list_item st p.isList (x := u) (by simpa using hu) fun h' st' sb => ?_
  have I1 : Inv X pins σ H { s with heap := h' } := I.turned (t' := s.toks) (fun b o hb e => (sb.2 b hb).trans e) f0 f1 f3 f4 f5
  obtain ⟨o, e, c, d⟩ := id st'
  exact ⟨u, rfl, WQ (s := { s with heap := h' }) e c d (by decide) ⟨x, H, I1, ru, ⟨rfl, fun ys hy => by rw [I.list_inj hy hq]; exact hx⟩, st', fun b hb => (hf b hb).1⟩⟩
 done := by
  intro X hP hw hK hc i pins s σ H E I hf st hg
  subst hP hw hK
  obtain ⟨xs, hq, hx⟩ := hg
  obtain ⟨its, rv, p, hz⟩ := I.list hq
  obtain ⟨f0, f1, f2, f3, f4, f5⟩ := hf it (by simp)
  have hl := rv.length
  exact wpAny_pyNext_list_end (I.ok.hd hc) st p.isList (by simp; omega) fun h' eb => ⟨rfl, I.turned (t' := s.toks) (fun b o hb e => eb b o hb e) f0 f1 f3 f4 f5⟩
 self := fun _ _ _ _ _ st h => wpAny_pyIter_listiter st h
theorem vU {P : Program} {w : World} {K : PySem.W.Frag} {tg : Expr} (a it : Addr) : ZF P w K tg (Itt K a) [it] it (fun i h => h.IsTupleIter it a i) where
 mem := by simp
 obj := fun i h st b hb => by
  have e : b = it := by simpa using hb
  subst e
  obtain ⟨o, e, c, d⟩ := st
  exact ⟨o, e, fun v z => by rw [d] at z; cases z⟩
 keep := fun i h h' st k => st.at fun o e => k it (by simp) o e
 item := by
  intro X hP hw hK hc i pins s σ H E I hf st hg
  subst hP hw hK
  obtain ⟨xs, x, hq, hx⟩ := hg
  obtain ⟨its, rv, p, hz⟩ := I.tuple hq
  obtain ⟨u, hu, ru⟩ := rv.get hx
  obtain ⟨f0, f1, f2, f3, f4, f5⟩ := hf it (by simp)
  refine wpAny_pyNext_tuple_item st (show s.heap.IsTuple a its.toArray from p) (x := u) (by simpa using hu) fun h' st' sb => ?_
  have I1 : Inv X pins σ H { s with heap := h' } := I.turned (t' := s.toks) (fun b o hb e => (sb.2 b hb).trans e) f0 f1 f3 f4 f5
  obtain ⟨o, e, c, d⟩ := id st'
  exact ⟨u, rfl, WQ (s := { s with heap := h' }) e c d (by decide) ⟨x, H, I1, ru, ⟨rfl, fun ys hy => by rw [I.tuple_inj hy hq]; exact hx⟩, st', fun b hb => (hf b hb).1⟩⟩
 done := by
  intro X hP hw hK hc i pins s σ H E I hf st hg
  subst hP hw hK
  obtain ⟨xs, hq, hx⟩ := hg
  obtain ⟨its, rv, p, hz⟩ := I.tuple hq
  obtain ⟨f0, f1, f2, f3, f4, f5⟩ := hf it (by simp)
  have hl := rv.length
  exact wpAny_pyNext_tuple_end (I.ok.hd hc) st (show s.heap.IsTuple a its.toArray from p) (by simp; omega) fun h' eb => ⟨rfl, I.turned (t' := s.toks) (fun b o hb e => eb b o hb e) f0 f1 f3 f4 f5⟩
 self := fun _ _ _ _ _ st h => wpAny_pyIter_tupleiter st h
theorem Kq {P : Program} {w : World} {K : PySem.W.Frag} {tg : Expr} (it : Addr) (lo : Int) (n : Nat) : ZF P w K tg (Itr lo n) [it] it (fun i h => IsRangeIter h it (lo + (i : Nat) * 1) ((n : Int) - (i : Nat)) 1) where
 mem := by simp
 obj := fun i h st b hb => by
  have e : b = it := by simpa using hb
  subst e
  exact ⟨_, st, fun v z => by
   have z' : Data.fields _ = Data.cell v := z
   cases z'⟩
 keep := fun i h h' st k => k it (by simp) _ st
 item := by
  intro X hP hw hK hc i pins s σ H E I hf st hg
  subst hP hw hK
  obtain ⟨f0, f1, f2, f3, f4, f5⟩ := hf it (by simp)
  have W := Walks.range (prog := X.prog) (w := X.w) (I.ok.hd hc) it lo 1 n
  refine W.item i s _ _ hg st fun v h' tk hv st' kk => ?_
  obtain ⟨t, rfl⟩ := hv
  have I1 : Inv X pins σ H { s with heap := h', toks := tk } := I.turned (fun b o hb e => kk b o (by simpa using hb) e) f0 f1 f3 f4 f5
  refine ⟨_, rfl, WQ (s := { s with heap := h', toks := tk }) (n := "range_iterator") st' rfl rfl (by decide) ⟨.int (lo + i), H, I1, ⟨t, ?_⟩, ⟨rfl, rfl⟩, st', fun b hb => (hf b hb).1⟩⟩
  rw [Int.mul_one]
 done := by
  intro X hP hw hK hc i pins s σ H E I hf st hg
  subst hP hw hK
  obtain ⟨f0, f1, f2, f3, f4, f5⟩ := hf it (by simp)
  exact wpAny_pyNext_range_end (I.ok.hd hc) st (by have : n <= i := hg; omega) fun h' eb => ⟨rfl, I.turned (t' := s.toks) (fun b o hb e => eb b o hb e) f0 f1 f3 f4 f5⟩
 self := fun _ _ _ _ _ st h => wpAny_pyIter_rangeiter st h
end L2
namespace L2
open PySem PySem.Spec PyProof.Rows
section
variable {X : Cx} {tg : Expr}
noncomputable def D8 (K : PySem.W.Frag) (tl : TE) : TI := fun σ H R => tl σ H fun x H1 => ∃ a, x = .ref a /\ (∃ xs, SqL K H1 a xs) /\ R (Itl K a) H1
noncomputable def HE (K : PySem.W.Frag) (tl : TE) : TI := fun σ H R => tl σ H fun x H1 => ∃ a, x = .ref a /\ (∃ xs, SqT K H1 a xs) /\ R (Itt K a) H1
theorem AL {l : Expr} {tl : TE} (hl : PE X l tl) : PI X tg l (D8 X.K tl) := by
 intro pins s σ H R I h
 refine thn (hl pins s σ H _ I h) fun v s1 ⟨x, H1, I1, r1, q1⟩ => ?_
 obtain ⟨a, e, ⟨xs, hq⟩, q⟩ := q1
 subst e
 cases r1
 obtain ⟨its, rv, p, hz⟩ := I1.list hq
 refine wpAny_pyIter_list p.isList ?_
 refine ⟨s1.heap.objs.size, [s1.heap.objs.size], _, _, H1, rfl, I1.kept (t' := s1.toks) fun b o e => Heap.get?_push_of_some _ e, Zb a _, ⟨_, Heap.get?_push_size _ rfl, rfl, rfl⟩, fun b hb => ?_, q⟩
 have e : b = s1.heap.objs.size := by simpa using hb
 subst e
 exact I1.fpOk (Nat.le_refl _) (I1.hok.fresh (Nat.le_refl _))
theorem EK {l : Expr} {tl : TE} (hl : PE X l tl) : PI X tg l (HE X.K tl) := by
 intro pins s σ H R I h
 refine thn (hl pins s σ H _ I h) fun v s1 ⟨x, H1, I1, r1, q1⟩ => ?_
 obtain ⟨a, e, ⟨xs, hq⟩, q⟩ := q1
 subst e
 cases r1
 obtain ⟨its, rv, p, hz⟩ := I1.tuple hq
 refine wpAny_pyIter_tuple (show s1.heap.IsTuple a its.toArray from p) ?_
 refine ⟨s1.heap.objs.size, [s1.heap.objs.size], _, _, H1, rfl, I1.kept (t' := s1.toks) fun b o e => Heap.get?_push_of_some _ e, vU a _, ⟨_, Heap.get?_push_size _ rfl, rfl, rfl⟩, fun b hb => ?_, q⟩
 have e : b = s1.heap.objs.size := by simpa using hb
 subst e
 exact I1.fpOk (Nat.le_refl _) (I1.hok.fresh (Nat.le_refl _))
theorem Q3 {pins : List (Addr × Obj)} {σ : St} {H : Hp} {s : Shared} {R : It -> Hp -> Prop} {E : Value -> Shared -> Prop} {lo hi : Int} {t u v : Tok} {tk : Nat} (I : Inv X pins σ H s) (h1 : -(2 ^ 62) <= lo) (h2 : lo < 2 ^ 62) (h3 : -(2 ^ 62) <= hi) (h4 : hi < 2 ^ 62)
  (q : R (Itr lo (hi - lo).toNat) H) : wpAny (model X.prog X.w) X.A (pyIter (.ref s.heap.objs.size)) (PIE X pins σ tg R) E { s with heap := s.heap.push { cls := .type "range", data := .fields #[.int lo t, .int hi u, .int 1 v] }, toks := tk } := by
 refine wpAny_pyIter_range (IsRange.new ..) (small_one h1 h2 h3 h4) ?_
 have I1 : Inv X pins σ H { s with heap := s.heap.push { cls := .type "range", data := .fields #[.int lo t, .int hi u, .int 1 v] }, toks := tk } := I.kept fun b o e => Heap.get?_push_of_some _ e
 refine ⟨(s.heap.push { cls := .type "range", data := .fields #[.int lo t, .int hi u, .int 1 v] }).objs.size, [(s.heap.push { cls := .type "range", data := .fields #[.int lo t, .int hi u, .int 1 v] }).objs.size], _, _, H, rfl,
  I1.kept (t' := tk) fun b o e => Heap.get?_push_of_some _ e, Kq _ lo (hi - lo).toNat, ?_, fun b hb => ?_, q⟩
 ·have e1 : lo + ((0 : Nat) : Int) * 1 = lo := by simp
  have e2 : (((hi - lo).toNat : Nat) : Int) - ((0 : Nat) : Int) = Builtin.Range.rangeSize lo hi 1 := by rw [rangeSize_one]; split <;> omega
  show IsRangeIter _ _ (lo + ((0 : Nat) : Int) * 1) ((((hi - lo).toNat : Nat) : Int) - ((0 : Nat) : Int)) 1
  rw [e1, e2]
  exact Heap.get?_push_size _ rfl
 ·have e : b = (s.heap.push { cls := .type "range", data := .fields #[.int lo t, .int hi u, .int 1 v] }).objs.size := by simpa using hb
  subst e
  exact I1.fpOk (Nat.le_refl _) (I1.hok.fresh (Nat.le_refl _))
noncomputable def WY (ta : TA) : TI := fun σ H R => ta σ H fun vs H1 => ∃ j : Int, vs = [.int j] /\ -(2 ^ 62) <= j /\ j < 2 ^ 62 /\ R (Itr 0 j.toNat) H1
noncomputable def Ah (ta : TA) : TI := fun σ H R => ta σ H fun vs H1 => ∃ i j : Int, vs = [.int i, .int j] /\ (-(2 ^ 62) <= i /\ i < 2 ^ 62 /\ -(2 ^ 62) <= j /\ j < 2 ^ 62) /\ R (Itr i (j - i).toNat) H1
theorem js {a : Expr} {ta : TA} {p pos : Pos} (hg : Gl X "range") (hm : X.mg "range" = none) (ha : PA X [a] ta) (hs : starEach [a] X.env = [(false, eval a X.env)] := by rfl) : PI X tg (.Call (.Name "range" p) [a] [] pos) (WY ta) := by
 intro pins s σ H R I h
 refine Call_ (kX I hg hm boot_range (PyProof.Rows.callWith_type1 (thn (ha pos pins s σ H _ I h) fun us s1 ⟨vs, H1, I1, r1, q1⟩ => ?_) hs rfl))
 obtain ⟨j, e, q1, q2, q⟩ := q1
 subst e
 cases r1 with
 | cons r rr =>
  cases rr
  obtain ⟨t, rfl⟩ := r
  exact call_range_1 (Q3 I1 (by omega) (by omega) q1 q2 (by simpa using q))
theorem Ym {a b : Expr} {ta : TA} {p pos : Pos} (hg : Gl X "range") (hm : X.mg "range" = none) (ha : PA X [a, b] ta) (hs : starEach [a, b] X.env = [(false, eval a X.env), (false, eval b X.env)] := by rfl) (hs2 : starEach [b] X.env = [(false, eval b X.env)] := by rfl) :
  PI X tg (.Call (.Name "range" p) [a, b] [] pos) (Ah ta) := by
 intro pins s σ H R I h
 refine Call_ (kX I hg hm boot_range (PyProof.Rows.callWith_type1 (thn (ha pos pins s σ H _ I h) fun us s1 ⟨vs, H1, I1, r1, q1⟩ => ?_) (by rw [hs, hs2]) (by rw [hs2]; rfl)))
 obtain ⟨i, j, e, ⟨q1, q2, q3, q4⟩, q⟩ := q1
 subst e
 cases r1 with
 | cons r rr =>
  cases rr with
  | cons r' rr =>
   cases rr
   obtain ⟨t, rfl⟩ := r
   obtain ⟨t', rfl⟩ := r'
   exact call_range_2 (Q3 I1 q1 q2 q3 q4 q)
noncomputable def GA (wi : TI) (g : TG) (tb : TS) : TS := fun D σ H => wi σ H fun J H1 => ∃ W : Nat -> Nat -> St -> Hp -> Prop, (∃ m, W 0 m σ H1) /\ ∀ i m σ H, W i m σ H ->
 (J.stop i H /\ D.nx σ H) \/ (J.go i H /\ ∃ N : St -> Hp -> Prop, (∀ σ' H', N σ' H' -> ∃ m', m' < m /\ W (i + 1) m' σ' H') /\ ∀ x H', J.yld i H x H' -> g x σ H' fun σ2 H2 => tb { D with nx := N, ct := N, bk := D.nx } σ2 H2)
noncomputable def yB (fp : List Addr) (h : Heap) : List (Addr × Obj) := fp.filterMap fun b => (h.get? b).map fun o => (b, o)
theorem qV {fp : List Addr} {h : Heap} {b : Addr} {o : Obj} (hb : b ∈ fp) (e : h.get? b = some o) : (b, o) ∈ yB fp h := List.mem_filterMap.mpr ⟨b, hb, by rw [e]; rfl⟩
theorem YJ {fp : List Addr} {h : Heap} {p : Addr × Obj} (hp : p ∈ yB fp h) : p.1 ∈ fp /\ h.get? p.1 = some p.2 := by
 obtain ⟨b, hb, e⟩ := List.mem_filterMap.mp hp
 cases q : h.get? b with
 | none => rw [q] at e; cases e
 | some o =>
  rw [q] at e
  have e' : (b, o) = p := Option.some.inj e
  subst e'
  exact ⟨hb, q⟩
theorem Inv.pinned {pins : List (Addr × Obj)} {σ : St} {H : Hp} {s : Shared} {fp : List Addr} (I : Inv X pins σ H s) (hf : ∀ b ∈ fp, xB X pins H b) (ho : ∀ b ∈ fp, ∃ o, s.heap.get? b = some o /\ ∀ v, o.data ≠ .cell v) : Inv X (pins ++ yB fp s.heap) σ H s :=
 I.pins_of fun p hp => (List.mem_append.mp hp).elim (fun z => I.pin p (List.mem_append_right _ z)) fun z => by
  obtain ⟨hb, e⟩ := YJ z
  obtain ⟨f0, f1, f2, _⟩ := hf p.1 hb
  obtain ⟨o, e', d⟩ := ho p.1 hb
  rw [e] at e'; cases e'
  exact ⟨e, f0, f1, f2, d⟩
theorem Inv.unpinned {pins pl : List (Addr × Obj)} {σ : St} {H : Hp} {s : Shared} (I : Inv X (pins ++ pl) σ H s) : Inv X pins σ H s := I.pins_of fun p hp => I.pin p (List.mem_append_right _ (List.mem_append_left _ hp))
theorem jf {iter : Expr} {body : List Stmt} {wi : TI} {g : TG} {tb : TS} {pos : Pos} (hp : PassesOwn (model X.prog X.w) X.A X.env X.xe) (hc : X.calm = true) (hi : PI X tg iter wi) (hg : PG X tg g) (hb : PSs X body tb)
  (hs : ∀ x, foldedSetIterable iter X.env x = pure x := by intro _; rfl) : PS X (.For tg iter body [] pos) (GA wi g tb) := by
 intro pins s σ H D I h
 refine wpAny_For (thn (hi pins s σ H _ I h) fun v s1 h1 => thn h1 fun itv s2 h2 => ?_) hs
 obtain ⟨it, fp, tn, J, H2, e, I2, T, st2, f2, W, ⟨m0, w0⟩, turn⟩ := h2
 subst e
 have stat : ∀ {H' : Hp}, (∀ b ∈ fp, H' b = none) -> ∀ b ∈ fp, xB X pins H' b := fun hn b hb => ⟨hn b hb, (f2 b hb).2⟩
 refine codeAny_forLoop_any (fun n s' => ∃ i σ' H', Inv X pins σ' H' s' /\ tn i s'.heap /\ (∀ b ∈ fp, H' b = none) /\ W i n σ' H') ?_ m0 ⟨0, σ, H2, I2, st2, fun b hb => (f2 b hb).1, w0⟩
 rintro n s3 ⟨i, σ3, H3, I3, st3, fr3, w3⟩
 rcases turn i n σ3 H3 w3 with ⟨stop, qn⟩ | ⟨go, N, hN, step⟩
 ·refine wpAny_passesOwn hp (thn (T.done X rfl rfl rfl hc i pins s3 σ3 H3 X.xe I3 (stat fr3) st3 stop) fun r s4 ⟨hr, I4⟩ => ?_)
  subst hr
  exact wpAny_execs_nil ⟨σ3, H3, I4, qn⟩
 ·refine wpAny_passesOwn hp (thn (T.item X rfl rfl rfl hc i pins s3 σ3 H3 X.xe I3 (stat fr3) st3 go) fun r s4 ⟨u, hr, h4⟩ => ?_)
  subst hr
  refine wpAny_passesOwn hp (thn h4 fun _ s5 ⟨x, H5, I5, r5, y5, st5, fr5⟩ => ?_)
  have I5' := I5.pinned (stat fr5) (T.obj _ _ st5)
  refine wpAny_passesOwn hp (thn (hg _ s5 σ3 H5 x u _ I5' r5 (step x H5 y5)) fun _ s6 ⟨σ6, H6, I6, q6⟩ => ?_)
  refine wpAny_passesOwn hp (thn (hb _ s6 σ6 H6 _ I6 q6) fun f s7 q7 => ?_)
  have again : ∀ {σ7 : St} {H7 : Hp}, Inv X (pins ++ yB fp s5.heap) σ7 H7 s7 -> N σ7 H7 -> ∃ m, m < n /\ ∃ i σ' H', Inv X pins σ' H' s7 /\ tn i s7.heap /\ (∀ b ∈ fp, H' b = none) /\ W i m σ' H' := fun {σ7 H7} I7 n7 => by
   obtain ⟨m', hm, w7⟩ := hN σ7 H7 n7
   refine ⟨m', hm, i + 1, σ7, H7, I7.unpinned, T.keep _ _ _ st5 fun b hb o e => (I7.pin (b, o) (List.mem_append_right _ (List.mem_append_right _ (qV hb e)))).1, fun b hb => ?_, w7⟩
   obtain ⟨o, e, d⟩ := T.obj _ _ st5 b hb
   exact (I7.pin (b, o) (List.mem_append_right _ (List.mem_append_right _ (qV hb e)))).2.1
  cases f with
  | next => obtain ⟨σ7, H7, I7, n7⟩ := q7; exact again I7 n7
  | cont => obtain ⟨σ7, H7, I7, n7⟩ := q7; exact again I7 n7
  | brk => obtain ⟨σ7, H7, I7, q7⟩ := q7; exact ⟨σ7, H7, I7.unpinned, q7⟩
  | ret v => obtain ⟨x7, σ7, H7, I7, r7, q7⟩ := q7; exact ⟨x7, σ7, H7, I7.unpinned, r7, q7⟩
end
theorem WU {K : PySem.W.Frag} {a : Addr} {xs : List V} {g : TG} {tb : TS} {D : ke} {σ : St} {H : Hp} (Pv : Nat -> St -> Hp -> Prop) (h0 : Pv 0 σ H) (hl : ∀ i σ H, i <= xs.length -> Pv i σ H -> SqL K H a xs)
  (hs : ∀ i x σ H, xs[i]? = some x -> Pv i σ H -> g x σ H fun σ2 H2 => tb { D with nx := Pv (i + 1), ct := Pv (i + 1), bk := D.nx } σ2 H2) (hd : ∀ σ H, Pv xs.length σ H -> D.nx σ H) :
  ∃ W : Nat -> Nat -> St -> Hp -> Prop, (∃ m, W 0 m σ H) /\ ∀ i m σ H, W i m σ H ->
   ((Itl K a).stop i H /\ D.nx σ H) \/ ((Itl K a).go i H /\ ∃ N : St -> Hp -> Prop, (∀ σ' H', N σ' H' -> ∃ m', m' < m /\ W (i + 1) m' σ' H') /\ ∀ x H', (Itl K a).yld i H x H' -> g x σ H' fun σ2 H2 => tb { D with nx := N, ct := N, bk := D.nx } σ2 H2) := by
 refine ⟨fun i m σ H => m = xs.length - i /\ i <= xs.length /\ Pv i σ H, ⟨xs.length, by simp, Nat.zero_le _, h0⟩, ?_⟩
 rintro i m σ H ⟨rfl, hi, p⟩
 have q := hl i σ H hi p
 by_cases hlt : i < xs.length
 ·refine .inr ⟨⟨xs, xs[i], q, by simp [hlt]⟩, Pv (i + 1), fun σ' H' p' => ⟨xs.length - (i + 1), by omega, rfl, hlt, p'⟩, fun x H' y => ?_⟩
  obtain ⟨e, y⟩ := y
  subst e
  exact hs i x σ _ (y xs q) p
 ·have e : i = xs.length := by omega
  subst e
  exact .inl ⟨⟨xs, q, Nat.le_refl _⟩, hd σ H p⟩
theorem X2 {lo : Int} {n : Nat} {g : TG} {tb : TS} {D : ke} {σ : St} {H : Hp} (Pv : Nat -> St -> Hp -> Prop) (h0 : Pv 0 σ H)
  (hs : ∀ i σ H, i < n -> Pv i σ H -> g (.int (lo + i)) σ H fun σ2 H2 => tb { D with nx := Pv (i + 1), ct := Pv (i + 1), bk := D.nx } σ2 H2) (hd : ∀ σ H, Pv n σ H -> D.nx σ H) :
  ∃ W : Nat -> Nat -> St -> Hp -> Prop, (∃ m, W 0 m σ H) /\ ∀ i m σ H, W i m σ H ->
   ((Itr lo n).stop i H /\ D.nx σ H) \/ ((Itr lo n).go i H /\ ∃ N : St -> Hp -> Prop, (∀ σ' H', N σ' H' -> ∃ m', m' < m /\ W (i + 1) m' σ' H') /\ ∀ x H', (Itr lo n).yld i H x H' -> g x σ H' fun σ2 H2 => tb { D with nx := N, ct := N, bk := D.nx } σ2 H2) := by
 refine ⟨fun i m σ H => m = n - i /\ i <= n /\ Pv i σ H, ⟨n, by simp, Nat.zero_le _, h0⟩, ?_⟩
 rintro i m σ H ⟨rfl, hi, p⟩
 by_cases hlt : i < n
 ·refine .inr ⟨hlt, Pv (i + 1), fun σ' H' p' => ⟨n - (i + 1), by omega, rfl, hlt, p'⟩, fun x H' y => ?_⟩
  obtain ⟨e, y⟩ := y
  subst e y
  exact hs i σ _ hlt p
 ·have e : i = n := by omega
  subst e
  exact .inl ⟨Nat.le_refl _, hd σ H p⟩
theorem WT {c : TT} {tb : TS} {D : ke} {σ : St} {H : Hp} (Pv : St -> Hp -> Prop) (μ : St -> Hp -> Nat) (h0 : Pv σ H)
  (hs : ∀ σ H, Pv σ H -> c σ H fun b H1 => if b = true then tb { D with nx := fun σ' H' => Pv σ' H' /\ μ σ' H' < μ σ H, ct := fun σ' H' => Pv σ' H' /\ μ σ' H' < μ σ H, bk := D.nx } σ H1 else D.nx σ H1)
  (mono : ∀ σ H Q Q', (∀ b H1, Q b H1 -> Q' b H1) -> c σ H Q -> c σ H Q') : JV c tb D σ H := by
 refine ⟨fun m σ H => m = μ σ H /\ Pv σ H, ⟨_, rfl, h0⟩, ?_⟩
 rintro m σ H ⟨rfl, p⟩
 refine mono σ H _ _ (fun b H1 q => ?_) (hs σ H p)
 cases b with
 | true => exact ⟨_, fun σ' H' ⟨p', l⟩ => ⟨_, l, rfl, p'⟩, q⟩
 | false => exact q
end L2
namespace L2
open PySem PySem.Spec PyProof.Rows
noncomputable abbrev R2 := V -> V -> Hp -> VK -> Prop
noncomputable def OpR (X : Cx) (f : Value -> Value -> Sem Value) (r : R2) : Prop :=
 ∀ (pins : List (Addr × Obj)) (s : Shared) (σ : St) (H : Hp) (x y : V) (v u : Value) (Q : VK), Inv X pins σ H s -> zE x v -> zE y u -> r x y H Q ->
  wpAny (model X.prog X.w) X.A (f v u) (EP X pins σ Q) X.xe s
noncomputable def UnR (X : Cx) (f : Value -> Sem Value) (r : V -> Hp -> VK -> Prop) : Prop :=
 ∀ (pins : List (Addr × Obj)) (s : Shared) (σ : St) (H : Hp) (x : V) (v : Value) (Q : VK), Inv X pins σ H s -> zE x v -> r x H Q ->
  wpAny (model X.prog X.w) X.A (f v) (EP X pins σ Q) X.xe s
noncomputable def jb (X : Cx) (f : Value) (r : List V -> Hp -> VK -> Prop) : Prop :=
 ∀ (pins : List (Addr × Obj)) (s : Shared) (σ : St) (H : Hp) (xs : List V) (us : List Value) (Q : VK), Inv X pins σ H s -> zF xs us -> r xs H Q ->
  wpAny (model X.prog X.w) X.A (call f us) (EP X pins σ Q) X.xe s
noncomputable def tOp (r : R2) (ta tb : TE) : TE := fun σ H Q => ta σ H fun x H1 => tb σ H1 fun y H2 => r x y H2 Q
noncomputable def tUn (r : V -> Hp -> VK -> Prop) (ta : TE) : TE := fun σ H Q => ta σ H fun x H1 => r x H1 Q
noncomputable def rI (C : Int -> Int -> Prop) (g : Int -> Int -> V) : R2 := fun x y H Q => ∃ i j, x = .int i /\ y = .int j /\ C i j /\ Q (g i j) H
noncomputable def rI0 (g : Int -> Int -> V) : R2 := fun x y H Q => ∃ i j, x = .int i /\ y = .int j /\ Q (g i j) H
noncomputable def rU (g : Int -> V) : V -> Hp -> VK -> Prop := fun x H Q => ∃ i, x = .int i /\ Q (g i) H
section
variable {X : Cx} {a b c : Expr} {ta tb tc : TE} {pos : Pos}
theorem EZ (ha : PE X a ta) (hb : PE X b tb) {pins : List (Addr × Obj)} {s : Shared} {σ : St} {H : Hp} {R : V -> V -> Hp -> Prop} (I : Inv X pins σ H s)
  (h : ta σ H fun x H1 => tb σ H1 fun y H2 => R x y H2) {Q : Value -> Shared -> Prop} {f : Value -> Value -> Sem Value}
  (hf : ∀ v u s2 x y H2, Inv X pins σ H2 s2 -> zE x v -> zE y u -> R x y H2 -> wpAny (model X.prog X.w) X.A (f v u) Q X.xe s2) :
  wpAny (model X.prog X.w) X.A (eval a X.env) (fun v s₁ => wpAny (model X.prog X.w) X.A (eval b X.env) (fun u s₂ => wpAny (model X.prog X.w) X.A (f v u) Q X.xe s₂) X.xe s₁) X.xe s := by
 refine thn (ha pins s σ H _ I h) fun v s1 ⟨x, H1, I1, r1, q1⟩ => ?_
 refine thn (hb pins s1 σ H1 _ I1 q1) fun u s2 ⟨y, H2, I2, r2, q2⟩ => ?_
 exact hf v u s2 x y H2 I2 r1 r2 q2
theorem zk {op : Operator} {r : R2} (ho : OpR X (binaryOp op) r) (ha : PE X a ta) (hb : PE X b tb) : PE X (.BinOp a op b pos) (tOp r ta tb) := by
 intro pins s σ H Q I h
 exact wpAny_BinOp (EZ ha hb I h fun v u s2 x y H2 I2 rx ry q => ho pins s2 σ H2 x y v u Q I2 rx ry q)
theorem D1 {op : UnaryOp} {r : V -> Hp -> VK -> Prop} (ho : UnR X (unaryOp op) r) (ha : PE X a ta) : PE X (.UnaryOp op a pos) (tUn r ta) := by
 intro pins s σ H Q I h
 exact UnaryOp_ (thn (ha pins s σ H _ I h) fun v s1 ⟨x, H1, I1, r1, q1⟩ => ho pins s1 σ H1 x v Q I1 r1 q1)
theorem opI {f : Value -> Value -> Sem Value} {C : Int -> Int -> Prop} {g : Int -> Int -> Int}
  (rule : ∀ (i j : Int) (t u : Tok) (s : Shared) (Q : Value -> Shared -> Prop) (E : Value -> Shared -> Prop), C i j -> Q (.int (g i j) s.toks) { s with toks := s.toks + 1 } -> wpAny (model X.prog X.w) X.A (f (.int i t) (.int j u)) Q E s) :
  OpR X f (rI C fun i j => .int (g i j)) := by
 intro pins s σ H x y v u Q I rx ry h
 obtain ⟨i, j, rfl, rfl, hc, q⟩ := h
 obtain ⟨t, rfl⟩ := rx
 obtain ⟨t', rfl⟩ := ry
 exact rule i j t t' s _ _ hc ⟨.int (g i j), H, I.tok _, ⟨_, rfl⟩, q⟩
theorem Ht {f : Value -> Value -> Sem Value} {g : Int -> Int -> Int}
  (rule : ∀ (i j : Int) (t u : Tok) (s : Shared) (Q : Value -> Shared -> Prop) (E : Value -> Shared -> Prop), Q (.int (g i j) s.toks) { s with toks := s.toks + 1 } -> wpAny (model X.prog X.w) X.A (f (.int i t) (.int j u)) Q E s) :
  OpR X f (rI0 fun i j => .int (g i j)) := by
 intro pins s σ H x y v u Q I rx ry h
 obtain ⟨i, j, rfl, rfl, q⟩ := h
 obtain ⟨t, rfl⟩ := rx
 obtain ⟨t', rfl⟩ := ry
 exact rule i j t t' s _ _ ⟨.int (g i j), H, I.tok _, ⟨_, rfl⟩, q⟩
theorem BQ {f : Value -> Value -> Sem Value} {g : Int -> Int -> Bool}
  (rule : ∀ (i j : Int) (t u : Tok) (s : Shared) (Q : Value -> Shared -> Prop) (E : Value -> Shared -> Prop), Q (.bool (g i j)) s -> wpAny (model X.prog X.w) X.A (f (.int i t) (.int j u)) Q E s) :
  OpR X f (rI0 fun i j => .bl (g i j)) := by
 intro pins s σ H x y v u Q I rx ry h
 obtain ⟨i, j, rfl, rfl, q⟩ := h
 obtain ⟨t, rfl⟩ := rx
 obtain ⟨t', rfl⟩ := ry
 exact rule i j t t' s _ _ ⟨.bl (g i j), H, I, rfl, q⟩
noncomputable def YY (i j : Int) : Prop := 0 < j /\ j < 1073741824
noncomputable def HI (i j : Int) : Prop := 0 <= j /\ j <= 1000000 /\ i.natAbs < 2 ^ 64
noncomputable def WG (i j : Int) : Prop := (-(2 ^ 64) < i /\ i < 2 ^ 64) \/ (-(2 ^ 64) < j /\ j < 2 ^ 64)
theorem WG.ok {i j : Int} (h : WG i j) : IntMulOk i j := by
 rcases h with ⟨h1, h2⟩ | ⟨h1, h2⟩
 ·exact .of_left (intBits_le_64 h1 h2)
 ·exact .of_right (intBits_le_64 h1 h2)
theorem zY : OpR X (binaryOp .Add) (rI0 fun i j => .int (i + j)) := Ht fun _ _ _ _ _ _ _ q => add_int q
theorem qB : OpR X (binaryOp .Sub) (rI0 fun i j => .int (i - j)) := Ht fun _ _ _ _ _ _ _ q => sub_int q
theorem jK : OpR X (binaryOp .Mult) (rI WG fun i j => .int (i * j)) := opI fun _ _ _ _ _ _ _ hc q => mul_int q hc.ok
theorem yd : OpR X (binaryOp .FloorDiv) (rI YY fun i j => .int (i / j)) := opI fun i j _ _ _ _ _ hc q => by
 have h1 : (0 : Int) < j := hc.1
 have h2 : j < 1073741824 := hc.2
 exact floordiv_int (by omega) (by rw [Int.fdiv_eq_ediv_of_nonneg i (by omega)]; exact q) (.inl (PyProof.noPylong_small (by omega)))
theorem qA : OpR X (binaryOp .Mod) (rI (fun _ j => 0 < j) fun i j => .int (i % j)) := opI fun i j _ _ _ _ _ hc q => by
 have h1 : (0 : Int) < j := hc
 exact mod_int' (by omega) (by rw [Int.fmod_eq_emod_of_nonneg i (by omega)]; exact q)
theorem JR : OpR X (binaryOp .Pow) (rI HI fun i j => .int (i ^ j.toNat)) := opI fun _ _ _ _ _ _ _ hc q => pow_int_small hc.1 hc.2.1 hc.2.2 q
theorem Vd : OpR X (inplaceOp .FloorDiv) (rI YY fun i j => .int (i / j)) := opI fun i j _ _ _ _ _ hc q => by
 have h1 : (0 : Int) < j := hc.1
 have h2 : j < 1073741824 := hc.2
 exact ifloordiv_int (by omega) (by rw [Int.fdiv_eq_ediv_of_nonneg i (by omega)]; exact q) (.inl (PyProof.noPylong_small (by omega)))
theorem unI {f : Value -> Sem Value} {g : Int -> Int}
  (rule : ∀ (i : Int) (t : Tok) (s : Shared) (Q : Value -> Shared -> Prop) (E : Value -> Shared -> Prop), Q (.int (g i) s.toks) { s with toks := s.toks + 1 } -> wpAny (model X.prog X.w) X.A (f (.int i t)) Q E s) :
  UnR X f (rU fun i => .int (g i)) := by
 intro pins s σ H x v Q I rx h
 obtain ⟨i, rfl, q⟩ := h
 obtain ⟨t, rfl⟩ := rx
 exact rule i t s _ _ ⟨.int (g i), H, I.tok _, ⟨_, rfl⟩, q⟩
theorem Vt : UnR X (unaryOp .USub) (rU fun i => .int (-i)) := unI fun _ _ _ _ _ q => neg_int q
end
noncomputable def GM : V -> V -> Bool
 | .non, .non => true | .non, .int _ => true | .int _, .non => true | .non, .bl _ => true | .bl _, .non => true | .non, .str _ => true | .str _, .non => true
 | .int _, .int _ => true | .bl _, .bl _ => true | .str _, .str _ => true | .byt _, .byt _ => true
 | .int _, .str _ => true | .str _, .int _ => true | .bl _, .str _ => true | .str _, .bl _ => true
 | _, _ => false
noncomputable def rEq : R2 := fun x y H Q => GM x y = true /\ Q (.bl (decide (x = y))) H
noncomputable def rNe : R2 := fun x y H Q => GM x y = true /\ Q (.bl (!decide (x = y))) H
theorem Xr {i j : Int} : decide (V.int i = V.int j) = (i == j) := by
 rw [Bool.eq_iff_iff]
 simp
theorem Wl {i j : Bool} : decide (V.bl i = V.bl j) = (i == j) := by
 rw [Bool.eq_iff_iff]
 simp
theorem KO {i j : Str} : decide (V.str i = V.str j) = (i == j) := by
 rw [Bool.eq_iff_iff]
 simp
theorem KE {i j : Array UInt8} : decide (V.byt i = V.byt j) = (i.toList == j.toList) := by
 rw [Bool.eq_iff_iff]
 cases i
 cases j
 simp
section
variable {X : Cx} {a b c : Expr} {ta tb tc : TE} {pos : Pos}
theorem zN {pins : List (Addr × Obj)} {σ : St} {H : Hp} {s : Shared} {Q : VK} {k k' : Bool} (I : Inv X pins σ H s) (q : Q (.bl k) H) (e : k = k') : EP X pins σ Q (.bool k') s := by
 subst e
 exact ⟨.bl k, H, I, rfl, q⟩
theorem wU : OpR X (compareOp .Eq) rEq := by
 intro pins s σ H x y v u Q I rx ry h
 obtain ⟨hs, q⟩ := h
 cases x with
 | non =>
  cases rx
  cases y with
  | non => cases ry; exact PySem.EqNone.eq_none_none (zN I q (by simp))
  | bl j => cases ry; exact PySem.EqNone.eq_none_bool (zN I q (by simp))
  | int j => obtain ⟨t', rfl⟩ := ry; exact PySem.EqNone.eq_none_int (zN I q (by simp))
  | str j => obtain ⟨t', rfl⟩ := ry; exact PySem.EqNone.eq_none_str (zN I q (by simp))
  | _ => exact absurd (show false = true from hs) Bool.false_ne_true
 | bl i =>
  cases rx
  cases y with
  | non => cases ry; exact PySem.EqNone.eq_bool_none (zN I q (by simp))
  | bl j => cases ry; exact eq_bool (zN I q Wl)
  | str j => obtain ⟨t', rfl⟩ := ry; exact PySem.EqMixed.eq_bool_str (zN I q (by simp))
  | _ => exact absurd (show false = true from hs) Bool.false_ne_true
 | int i =>
  obtain ⟨t, rfl⟩ := rx
  cases y with
  | non => cases ry; exact PySem.EqNone.eq_int_none (zN I q (by simp))
  | int j => obtain ⟨t', rfl⟩ := ry; exact eq_int (zN I q Xr)
  | str j => obtain ⟨t', rfl⟩ := ry; exact PySem.EqMixed.eq_int_str (zN I q (by simp))
  | _ => exact absurd (show false = true from hs) Bool.false_ne_true
 | str i =>
  obtain ⟨t, rfl⟩ := rx
  cases y with
  | non => cases ry; exact PySem.EqNone.eq_str_none (zN I q (by simp))
  | bl j => cases ry; exact PySem.EqMixed.eq_str_bool (zN I q (by simp))
  | int j => obtain ⟨t', rfl⟩ := ry; exact PySem.EqMixed.eq_str_int (zN I q (by simp))
  | str j => obtain ⟨t', rfl⟩ := ry; exact eq_str (zN I q KO)
  | _ => exact absurd (show false = true from hs) Bool.false_ne_true
 | byt i =>
  obtain ⟨t, rfl⟩ := rx
  cases y with
  | byt j => obtain ⟨t', rfl⟩ := ry; exact PySem.W.eq_bytes (zN I q KE)
  | _ => exact absurd (show false = true from hs) Bool.false_ne_true
 | _ => cases y <;> exact absurd (show false = true from hs) Bool.false_ne_true
theorem DL : OpR X (compareOp .NotEq) rNe := by
 intro pins s σ H x y v u Q I rx ry h
 obtain ⟨hs, q⟩ := h
 cases x with
 | non =>
  cases rx
  cases y with
  | non => cases ry; exact PySem.EqNone.ne_none_none (zN I q (by simp))
  | bl j => cases ry; exact PySem.EqNone.ne_none_bool (zN I q (by simp))
  | int j => obtain ⟨t', rfl⟩ := ry; exact PySem.EqNone.ne_none_int (zN I q (by simp))
  | str j => obtain ⟨t', rfl⟩ := ry; exact PySem.EqNone.ne_none_str (zN I q (by simp))
  | _ => exact absurd (show false = true from hs) Bool.false_ne_true
 | bl i =>
  cases rx
  cases y with
  | non => cases ry; exact PySem.EqNone.ne_bool_none (zN I q (by simp))
  | bl j => cases ry; exact ne_bool (zN I q (congrArg not Wl))
  | str j => obtain ⟨t', rfl⟩ := ry; exact PySem.EqMixed.ne_bool_str (zN I q (by simp))
  | _ => exact absurd (show false = true from hs) Bool.false_ne_true
 | int i =>
  obtain ⟨t, rfl⟩ := rx
  cases y with
  | non => cases ry; exact PySem.EqNone.ne_int_none (zN I q (by simp))
  | int j => obtain ⟨t', rfl⟩ := ry; exact ne_int (zN I q (congrArg not Xr))
  | str j => obtain ⟨t', rfl⟩ := ry; exact PySem.EqMixed.ne_int_str (zN I q (by simp))
  | _ => exact absurd (show false = true from hs) Bool.false_ne_true
 | str i =>
  obtain ⟨t, rfl⟩ := rx
  cases y with
  | non => cases ry; exact PySem.EqNone.ne_str_none (zN I q (by simp))
  | bl j => cases ry; exact PySem.EqMixed.ne_str_bool (zN I q (by simp))
  | int j => obtain ⟨t', rfl⟩ := ry; exact PySem.EqMixed.ne_str_int (zN I q (by simp))
  | str j => obtain ⟨t', rfl⟩ := ry; exact ne_str (zN I q (congrArg not KO))
  | _ => exact absurd (show false = true from hs) Bool.false_ne_true
 | byt i =>
  obtain ⟨t, rfl⟩ := rx
  cases y with
  | byt j => obtain ⟨t', rfl⟩ := ry; exact PySem.W.ne_bytes (zN I q (congrArg not KE))
  | _ => exact absurd (show false = true from hs) Bool.false_ne_true
 | _ => cases y <;> exact absurd (show false = true from hs) Bool.false_ne_true
theorem Vi : OpR X (compareOp .Lt) (rI0 fun i j => .bl (decide (i < j))) := BQ fun _ _ _ _ _ _ _ q => lt_int q
theorem DU : OpR X (compareOp .LtE) (rI0 fun i j => .bl (decide (i <= j))) := BQ fun _ _ _ _ _ _ _ q => le_int q
theorem Q1 : OpR X (compareOp .Gt) (rI0 fun i j => .bl (decide (j < i))) := BQ fun _ _ _ _ _ _ _ q => gt_int q
theorem DX : OpR X (compareOp .GtE) (rI0 fun i j => .bl (decide (j <= i))) := BQ fun _ _ _ _ _ _ _ q => ge_int q
theorem Zw : OpR X (compareOp .Is) (fun x y H Q => y = .non /\ Q (.bl (decide (x = .non))) H) := by
 intro pins s σ H x y v u Q I rx ry h
 obtain ⟨rfl, q⟩ := h
 cases ry
 refine is_none_gen (zN I q ?_)
 cases x <;> first
  | (cases rx; rfl)
  | (obtain ⟨t, rfl⟩ := rx; rfl)
theorem vc : OpR X (compareOp .IsNot) (fun x y H Q => y = .non /\ Q (.bl (!decide (x = .non))) H) := by
 intro pins s σ H x y v u Q I rx ry h
 obtain ⟨rfl, q⟩ := h
 cases ry
 refine isnot_none_gen (zN I q ?_)
 cases x <;> first
  | (cases rx; rfl)
  | (obtain ⟨t, rfl⟩ := rx; rfl)
theorem zH (b : Expr) {op : CmpOp} (h : op ≠ .In := by decide) (h2 : op ≠ .NotIn := by decide) : behindInMarks op b = false := by
 have e1 : (op == CmpOp.In) = false := by cases op <;> first | rfl | exact absurd rfl h
 have e2 : (op == CmpOp.NotIn) = false := by cases op <;> first | rfl | exact absurd rfl h2
 cases b <;> simp [behindInMarks, e1, e2]
theorem jF {op : CmpOp} {r : R2} (ho : OpR X (compareOp op) r) (ha : PE X a ta) (hb : PE X b tb) (hm : behindInMarks op b = false) : PE X (.Compare a [op] [b] pos) (tOp r ta tb) := by
 intro pins s σ H Q I h
 exact wpAny_Compare1 (EZ ha hb I h fun v u s2 x y H2 I2 rx ry q => ho pins s2 σ H2 x y v u Q I2 rx ry q) hm
noncomputable def K4 (t : TE) : TT := fun σ H Q => t σ H fun x H' => ∃ k, x = .bl k /\ Q k H'
theorem zC {op : CmpOp} {r : R2} (ho : OpR X (compareOp op) r) (ha : PE X a ta) (hb : PE X b tb) (hm : behindInMarks op b = false) : PT X (.Compare a [op] [b] pos) (K4 (tOp r ta tb)) := by
 intro pins s σ H Q I h
 refine wpAny_isTrue_Compare1 (thn (ha pins s σ H _ I h) fun v s1 ⟨x, H1, I1, r1, q1⟩ => thn (hb pins s1 σ H1 _ I1 q1) fun u s2 ⟨y, H2, I2, r2, q2⟩ =>
  thn (ho pins s2 σ H2 x y v u _ I2 r1 r2 q2) fun c s3 ⟨z, H3, I3, r3, k, e, q3⟩ => ?_) hm
 subst e
 cases r3
 exact wpAny_truthy_bool ⟨H3, I3, q3⟩
noncomputable def Km (r r' : R2) (ta tb tc : TE) : TE := fun σ H Q => ta σ H fun x H1 => tb σ H1 fun y H2 => r x y H2 fun z H3 => ∃ k, z = .bl k /\
 (if k = true then tc σ H3 fun w' H4 => r' y w' H4 Q else Q (.bl false) H3)
theorem Z6 {op op' : CmpOp} {r r' : R2} (ho : OpR X (compareOp op) r) (ho' : OpR X (compareOp op') r') (ha : PE X a ta) (hb : PE X b tb) (hc : PE X c tc)
  (hm : lastMarks [op, op'] [b, c] = false := by with_unfolding_all rfl) : PE X (.Compare a [op, op'] [b, c] pos) (Km r r' ta tb tc) := by
 intro pins s σ H Q I h
 refine Compare_chain (thn (ha pins s σ H _ I h) fun v s1 ⟨x, H1, I1, r1, q1⟩ => chain_link (thn (hb pins s1 σ H1 _ I1 q1) fun u s2 ⟨y, H2, I2, r2, q2⟩ =>
  thn (ho pins s2 σ H2 x y v u _ I2 r1 r2 q2) fun d s3 ⟨z, H3, I3, r3, k, e, q3⟩ => ?_)) hm
 subst e
 cases r3
 refine wpAny_truthy_bool ?_
 cases k with
 | false => exact ite_ff ⟨.bl false, H3, I3, rfl, q3⟩
 | true => exact ite_tt (chain_last (thn (hc pins s3 σ H3 _ I3 q3) fun w' s4 ⟨z', H4, I4, r4, q4⟩ => ho' pins s4 σ H4 y z' u w' Q I4 r2 r4 q4))
theorem vv : (sizeLine : Nat) < 2 ^ 63 := by rw [sizeLine_eq]; decide
theorem kj {x : V} {us : List Value} (r : zF [x] us) : ∃ u, us = [u] /\ zE x u := by
 cases r with
 | cons r1 r2 => cases r2; exact ⟨_, rfl, r1⟩
theorem Zf {x y : V} {us : List Value} (r : zF [x, y] us) : ∃ u w', us = [u, w'] /\ zE x u /\ zE y w' := by
 cases r with
 | cons r1 r2 =>
  cases r2 with
  | cons r3 r4 => cases r4; exact ⟨_, _, rfl, r1, r3⟩
theorem kB : jb X (.builtin "abs") (fun xs H Q => ∃ i, xs = [.int i] /\ Q (.int (if i < 0 then -i else i)) H) := by
 intro pins s σ H xs us Q I r h
 obtain ⟨i, rfl, q⟩ := h
 obtain ⟨u, rfl, t, rfl⟩ := kj r
 exact call_abs_int fun u tk => ⟨.int (if i < 0 then -i else i), H, I.tok _, ⟨_, rfl⟩, q⟩
theorem wC (hc : X.calm = true) : jb X (.builtin "max") (fun xs H Q => ∃ i j, xs = [.int i, .int j] /\ Q (.int (if j > i then j else i)) H) := by
 intro pins s σ H xs us Q I r h
 obtain ⟨i, j, rfl, q⟩ := h
 obtain ⟨u, w', rfl, ⟨t, rfl⟩, ⟨t', rfl⟩⟩ := Zf r
 refine max_two_ints (I.ok.hd hc) fun h' tk k => ⟨_, H, I.kept k, ?_, q⟩
 by_cases hj : j > i
 ·rw [if_pos hj, if_pos hj]; exact ⟨_, rfl⟩
 ·rw [if_neg hj, if_neg hj]; exact ⟨_, rfl⟩
theorem Ys (hc : X.calm = true) : jb X (.builtin "min") (fun xs H Q => ∃ i j, xs = [.int i, .int j] /\ Q (.int (if j < i then j else i)) H) := by
 intro pins s σ H xs us Q I r h
 obtain ⟨i, j, rfl, q⟩ := h
 obtain ⟨u, w', rfl, ⟨t, rfl⟩, ⟨t', rfl⟩⟩ := Zf r
 refine min_two_ints (I.ok.hd hc) fun h' tk k => ⟨_, H, I.kept k, ?_, q⟩
 by_cases hj : j < i
 ·rw [if_pos hj, if_pos hj]; exact ⟨_, rfl⟩
 ·rw [if_neg hj, if_neg hj]; exact ⟨_, rfl⟩
theorem XO : jb X (.type "int") (fun xs H Q => (∃ i, xs = [.int i] /\ Q (.int i) H) \/ ∃ k, xs = [.bl k] /\ Q (.int (if k then 1 else 0)) H) := by
 intro pins s σ H xs us Q I r h
 rcases h with ⟨i, rfl, q⟩ | ⟨k, rfl, q⟩
 ·obtain ⟨u, rfl, t, rfl⟩ := kj r
  exact call_int_int ⟨.int i, H, I, ⟨_, rfl⟩, q⟩
 ·obtain ⟨u, rfl, r1⟩ := kj r
  cases r1
  exact call_int_bool ⟨.int (if k then 1 else 0), H, I.tok _, ⟨_, rfl⟩, q⟩
theorem QM : jb X (.builtin "divmod") (fun xs H Q => ∃ i j, xs = [.int i, .int j] /\ YY i j /\ ∀ p, H p = none -> Q (.ref p) (upd H p (.tup [.int (i / j), .int (i % j)]))) := by
 intro pins s σ H xs us Q I r h
 obtain ⟨i, j, rfl, ⟨h1, h2⟩, q⟩ := h
 obtain ⟨u, w', rfl, ⟨t, rfl⟩, ⟨t', rfl⟩⟩ := Zf r
 refine divmod_int (by omega) ?_ (.inl (PyProof.noPylong_small (by omega)))
 rw [Int.fdiv_eq_ediv_of_nonneg i (by omega), Int.fmod_eq_emod_of_nonneg i (by omega)]
 have hn : H s.heap.objs.size = none := I.hok.fresh (Nat.le_refl _)
 refine ⟨.ref s.heap.objs.size, _, ?_, rfl, q _ hn⟩
 refine I.laid (fun b o e => Heap.get?_push_of_some _ e) (Nat.le_refl _) ⟨by simp only [List.length_cons, List.length_nil]; rw [sizeLine_eq]; decide, [.int (i / j) s.toks, .int (i % j) (s.toks + 1)], .cons ⟨_, rfl⟩ (.cons ⟨_, rfl⟩ .nil), ?_⟩
 exact ⟨_, Heap.get?_push_size s.heap rfl, rfl, ⟨0, rfl⟩, rfl⟩
end
end L2
namespace L2
open PySem PySem.Spec PyProof.Rows
structure JC (h : Heap) (x dx C : Addr) (mA : Str -> Option Value) : Prop where
 obj : h.get? x = some (PySem.W.instObj C dx)
 ns : h.Ns1 dx mA
 ne : dx ≠ x
theorem YK {h : Heap} {dx : Addr} {mA : Str -> Option Value} (n : h.Ns1 dx mA) : ∃ od, h.get? dx = some od /\ ∀ name, PySem.W.lookIn name od = some (mA name) := by
 obtain ⟨o, es, ep, ho, hd, hk, _, hm⟩ := n
 refine ⟨o, ho, fun name => ?_⟩
 have e := hm name
 unfold nsFind findBy at e
 rw [<- Array.find?_toList] at e
 unfold PySem.W.lookIn
 rw [hd]
 dsimp only
 split
 ·rename_i y q
  rw [q] at e
  exact congrArg some e
 ·rename_i q
  rw [q] at e
  have a : es.toList.any (·.refKey) = false := by
   rw [List.any_eq_false]
   intro y hy
   obtain ⟨z, t, hkey⟩ := hk y (Array.mem_toList_iff.mp hy)
   simp [DictEntry.refKey, hkey]
  have a' : ¬ es.toList.any (·.refKey) = true := by rw [a]; exact Bool.false_ne_true
  rw [if_neg a']
  exact congrArg some e
theorem JC.look {h : Heap} {x dx C : Addr} {mA : Str -> Option Value} (I : JC h x dx C mA) : ∃ od, PySem.W.InstAt h x (PySem.W.instObj C dx) C (some od) /\ ∀ name, PySem.W.lookIn name od = some (mA name) :=
 let ⟨od, ho, hl⟩ := YK I.ns
 ⟨od, ⟨I.obj, rfl, rfl, ho⟩, hl⟩
section
variable {prog : Program} {w : World} {A : Around} {E : Value -> Shared -> Prop} {s : Shared} {K : PySem.W.Frag} {x dx C f : Addr} {mA : Str -> Option Value} {name : Str} {v : Value}
theorem BH {expr : Bool} {Q : Value -> Shared -> Prop} (X : K.In s.heap) (I : JC s.heap x dx C mA) (hg : PySem.W.plainGet K C name = true) (hh : PySem.W.hasDictIn K C = true)
  (ha : PySem.W.findIn K (.ref C) name = some none) (hv : mA name = some v) (hv' : PySem.W.handedIn v = true) (h : Q v { s with toks := s.toks + 1 }) :
  wpAny (model prog w) A (getAttr (.ref x) name expr) Q E s := by
 obtain ⟨od, J, hl⟩ := I.look
 exact PySem.W.get_value X J (PySem.W.plainGet_of hg).1 (PySem.W.findObj_own hh ha rfl (by rw [hl, hv])) hv' h
theorem Vs {pl : Sem Bool} {Q : Value × List Value -> Shared -> Prop} (X : K.In s.heap) (I : JC s.heap x dx C mA) (hg : PySem.W.plainGet K C name = true)
  (hf : PySem.W.findIn K (.ref C) name = some (some (.ref f))) (ht : PySem.W.isFn K (.ref f) = true) (hv : mA name = none) (h : Q (.ref f, [.ref x]) s) :
  wpAny (model prog w) A (getMethod (.ref x) name pl) Q E s := by
 obtain ⟨od, J, hl⟩ := I.look
 exact PySem.W.method_fn X J (PySem.W.plainGet_of hg).1 (PySem.W.plainGet_of hg).2 hf (beq_iff_eq.mp ht) (by show (PySem.W.lookIn name od).map (·.isSome) = some false; rw [hl, hv]; rfl) h
theorem ZJ {ns : List Str} {Q : Unit -> Shared -> Prop} (X : K.In s.heap) (I : JC s.heap x dx C mA)
  (hs : PySem.W.findIn K (.ref C) "__setattr__" = some (some (.builtin "object.__setattr__"))) (hp : PySem.W.plainOver K C = true) (ht : PySem.W.takerIn K C name = some none) (hh : PySem.W.hasDictIn K C = true)
  (hw : PySem.Within mA ns) (hsz : ns.length <= sizeLine)
  (h : ∀ h', JC h' x dx C (fun y => if y = name then some v else mA y) -> Heap.SameBut dx s.heap h' -> Q () { s with heap := h', toks := s.toks + 2 }) :
  wpAny (model prog w) A (setAttr (.ref x) name v) Q E s := by
 obtain ⟨od, J, hl⟩ := I.look
 refine PySem.W.set_plain X J hs (PySem.W.osa_open (s := { s with toks := s.toks + 1 }) (r := none) X J hp ht fun b => ?_)
 obtain ⟨cd, hc, hd'⟩ := PySem.W.any_some hh
 have hx : s.heap.get? x = some ⟨.ref C, some dx, .plain, #[]⟩ := I.obj
 refine wpAny_bind (wpAny_pure (wpAny_bind (wpAny_bind (wpAny_loadPart hx (wpAny_bind (PySem.W.Looks.here (s := { s with toks := s.toks + 1 }) (PySem.W.looks_clsIn X hc) ?_))))))
 rw [hd']
 refine wpAny_pure (a := some dx) (wpAny_bind (wpAny_pure (wpAny_bind ?_)))
 refine wpAny_nsSet1 (s := { s with toks := s.toks + 1 }) I.ns fun h' hn2 hs2 => ?_
 obtain ⟨oD, esD, epD, hoD, hdD, hcD⟩ := hn2.count (PySem.Within.cons name v hw)
 refine wpAny_bind (wpAny_lookBehind hoD (by rw [hdD]; exact pastItsLine_dict (Nat.le_trans hcD (by rw [List.length_cons]; omega))) ?_)
 exact wpAny_pure (h _ ⟨(hs2.2 _ (Ne.symm I.ne)).trans I.obj, hn2, I.ne⟩ hs2)
theorem Wp {R : Result -> Shared -> Prop} {vs : List Value} {kw : List (Str × Value)} (X : K.In s.heap) (hm : PySem.W.makesIn K C = true)
  (hi : PySem.W.findIn K (.ref C) "__init__" = some (some (.ref f))) (hf : PySem.W.typeIn K (.ref f) = some (.type "function"))
  (h : codeAny (model prog w) (A.under (.builtin "type.__call__" ⟨.ref C :: vs, kw⟩)) (.call (.ref f) ⟨.ref (s.heap.objs.size + 1) :: vs, kw⟩) (PySem.W.InitBack (s.heap.objs.size + 1) R)
   { s with heap := (s.heap.push PySem.W.emptyDict).push (PySem.W.instObj C s.heap.objs.size) }) :
  codeAny (model prog w) A (.call (.ref C) ⟨vs, kw⟩) R s := by
 obtain ⟨hh, g, d, t, os⟩ := s
 exact PySem.W.make_core (PySem.W.makes_of X hm) (PySem.W.looks_findIn X hi) (fun self => PySem.W.bind_fn X self hf) (.inl rfl) h
end
noncomputable def qw (f : Str) (v : V) : List (Str × V) -> List (Str × V)
 | [] => [(f, v)]
 | (g, x) :: r => if g = f then (g, v) :: r else (g, x) :: qw f v r
theorem yK (f g : Str) (v : V) : ∀ fs : List (Str × V), (qw f v fs).lookup g = if g = f then some v else fs.lookup g
 | [] => by
  show List.lookup g [(f, v)] = _
  by_cases h : g = f
  ·have hb : (g == f) = true := beq_iff_eq.mpr h
   simp only [List.lookup, hb, if_pos h]
  ·have hb : (g == f) = false := beq_eq_false_iff_ne.mpr h
   simp only [List.lookup, hb, if_neg h]
 | (k, x) :: r => by
  have ih := yK f g v r
  rw [show qw f v ((k, x) :: r) = (if k = f then (k, v) :: r else (k, x) :: qw f v r) from rfl]
  by_cases hk : k = f
  ·rw [if_pos hk]
   by_cases h : g = k
   ·have hb : (g == k) = true := beq_iff_eq.mpr h
    simp only [List.lookup, hb, if_pos (h.trans hk)]
   ·have hb : (g == k) = false := beq_eq_false_iff_ne.mpr h
    simp only [List.lookup, hb, if_neg (fun e : g = f => h (e.trans hk.symm))]
  ·rw [if_neg hk]
   by_cases h : g = k
   ·have hb : (g == k) = true := beq_iff_eq.mpr h
    simp only [List.lookup, hb, if_neg (fun e : g = f => hk (h.symm.trans e))]
   ·have hb : (g == k) = false := beq_eq_false_iff_ne.mpr h
    simp only [List.lookup, hb]
    exact ih
theorem yj (f : Str) (v : V) : ∀ fs : List (Str × V), f ∈ (qw f v fs).map (·.1) /\ ∀ g, g ∈ fs.map (·.1) -> g ∈ (qw f v fs).map (·.1)
 | [] => ⟨by simp [qw], fun g h => by simp at h⟩
 | (k, x) :: r => by
  obtain ⟨i1, i2⟩ := yj f v r
  rw [show qw f v ((k, x) :: r) = (if k = f then (k, v) :: r else (k, x) :: qw f v r) from rfl]
  by_cases hk : k = f
  ·rw [if_pos hk]
   subst hk
   exact ⟨by simp, fun g h => by simpa using h⟩
  ·rw [if_neg hk]
   refine ⟨?_, fun g h => ?_⟩
   ·rw [List.map_cons]
    exact List.mem_cons_of_mem _ i1
   ·rw [List.map_cons] at h ⊢
    rcases List.mem_cons.mp h with e | e
    ·exact List.mem_cons.mpr (.inl e)
    ·exact List.mem_cons_of_mem _ (i2 g e)
theorem yR (f : Str) (v : V) : ∀ fs : List (Str × V), (qw f v fs).length <= fs.length + 1
 | [] => by simp [qw]
 | (k, x) :: r => by
  have ih := yR f v r
  rw [show qw f v ((k, x) :: r) = (if k = f then (k, v) :: r else (k, x) :: qw f v r) from rfl]
  by_cases hk : k = f
  ·rw [if_pos hk, List.length_cons, List.length_cons]; omega
  ·rw [if_neg hk, List.length_cons, List.length_cons]; omega
theorem yt.some_of {v : V} {o : Option Value} (r : yt (some v) o) : ∃ u, o = some u /\ zE v u := by
 cases o with
 | none => exact (show False from r).elim
 | some u => exact ⟨u, rfl, r⟩
theorem yt.none_of {o : Option Value} (r : yt none o) : o = none := by
 cases o with
 | none => rfl
 | some u => exact (show False from r).elim
theorem XM {v : V} {u : Value} (r : zE v u) : PySem.W.handedIn u = true := by
 cases v with
 | non => cases (show u = Value.none from r); rfl
 | bl b => cases (show u = Value.bool b from r); rfl
 | int i => obtain ⟨t, e⟩ := (show ∃ t, u = Value.int i t from r); cases e; rfl
 | str x => obtain ⟨t, e⟩ := (show ∃ t, u = Value.str x t from r); cases e; rfl
 | byt b => obtain ⟨t, e⟩ := (show ∃ t, u = Value.bytes b t from r); cases e; rfl
 | flt b => obtain ⟨t, e⟩ := (show ∃ t, u = Value.float b t from r); cases e; rfl
 | ref a => cases (show u = Value.ref a from r); rfl
 | ty n => cases (show u = Value.type n from r); rfl
section
variable {P : Program} {w : World} {H H' : Hp} {h h' : Heap} {a C dx : Addr} {fs fs' : List (Str × V)}
theorem y4 (hok : HOk P w H h) (e : H a = some (.ins C dx fs)) : ∃ mA, JC h a dx C mA /\ (∀ f, yt (fs.lookup f) (mA f)) /\ PySem.Within mA (fs.map (·.1)) /\ fs.length <= 1000 /\ H dx = some (.own a) := by
 obtain ⟨d, z, ne, ob, mA, n, r, q⟩ := (show qb P w H h a (.ins C dx fs) from hok a _ e)
 exact ⟨mA, ⟨ob, n, ne⟩, r, q, z, d⟩
end
structure Cls (K : PySem.W.Frag) (C : Addr) : Prop where
 pg : PySem.W.plainGet K C Str.empty = true
 hd : PySem.W.hasDictIn K C = true
 po : PySem.W.plainOver K C = true
 sa : PySem.W.findIn K (.ref C) "__setattr__" = some (some (.builtin "object.__setattr__"))
theorem Cls.get {K : PySem.W.Frag} {C : Addr} (c : Cls K C) (f : Str) : PySem.W.plainGet K C f = true := c.pg
noncomputable def jY (K : PySem.W.Frag) (C : Addr) (f : Str) : Prop := PySem.W.findIn K (.ref C) f = some none
theorem jY.taker {K : PySem.W.Frag} {C : Addr} {f : Str} (n : jY K C f) : PySem.W.takerIn K C f = some none := by
 unfold PySem.W.takerIn
 rw [show PySem.W.findIn K (.ref C) f = some none from n]
 rfl
structure Con (K : PySem.W.Frag) (C : Addr) (f : Str) (v : V) (u : Value) : Prop where
 at_ : PySem.W.findIn K (.ref C) f = some (some u)
 rel : zE v u
 get : PySem.W.specialIn K u "__get__" = some none
 cp : PySem.W.copiedNames.contains f = false
structure Yu (K : PySem.W.Frag) (C : Addr) (m : Str) (f : Addr) : Prop where
 at_ : PySem.W.findIn K (.ref C) m = some (some (.ref f))
 fn : PySem.W.isFn K (.ref f) = true
 kp : PySem.W.keepIn K (.ref f) = true
section
variable {X : Cx} {pins : List (Addr × Obj)} {σ : St} {H : Hp} {s : Shared} {a C dx : Addr} {fs : List (Str × V)} {f : Str} {v : V} {A : Around} {E : Value -> Shared -> Prop}
theorem Ke {b : Bool} {Q : Value -> Shared -> Prop} (I : Inv X pins σ H s) (e : H a = some (.ins C dx fs)) (c : Cls X.K C) (n : jY X.K C f) (l : fs.lookup f = some v)
  (h : ∀ u s', Inv X pins σ H s' -> zE v u -> Q u s') : wpAny (model X.prog X.w) A (getAttr (.ref a) f b) Q E s := by
 obtain ⟨mA, O, r, _, _, _⟩ := y4 I.hok e
 obtain ⟨u, hu, ru⟩ := yt.some_of (v := v) (o := mA f) (by rw [<- l]; exact r f)
 exact BH I.kIn O (c.get f) c.hd n hu (XM ru) (h u _ (I.tok _) ru)
theorem xG {m : Str} {g : Addr} {pl : Sem Bool} {Q : Value × List Value -> Shared -> Prop} (I : Inv X pins σ H s) (e : H a = some (.ins C dx fs)) (c : Cls X.K C) (k : Yu X.K C m g) (l : fs.lookup m = none)
  (h : Q (.ref g, [.ref a]) s) : wpAny (model X.prog X.w) A (getMethod (.ref a) m pl) Q E s := by
 obtain ⟨mA, O, r, _, _, _⟩ := y4 I.hok e
 have hn : mA m = none := yt.none_of (by rw [<- l]; exact r m)
 exact Vs I.kIn O (c.get m) k.at_ k.fn hn h
theorem J5 {y : V} {u : Value} {Q : Unit -> Shared -> Prop} (I : Inv X pins σ H s) (e : H a = some (.ins C dx fs)) (c : Cls X.K C) (n : jY X.K C f) (hl : fs.length < 1000) (ry : zE y u)
  (h : ∀ s', Inv X pins σ (upd H a (.ins C dx (qw f y fs))) s' -> Q () s') : wpAny (model X.prog X.w) A (setAttr (.ref a) f u) Q E s := by
 obtain ⟨mA, O, r, wi, _, ho⟩ := y4 I.hok e
 have hz : (fs.map (·.1)).length <= sizeLine := by rw [List.length_map, sizeLine_eq]; omega
 refine ZJ I.kIn O c.sa c.po n.taker c.hd wi hz fun h' O' sb => h _ ?_
 have hd : ∃ o, h'.get? dx = some o := let ⟨o, _, _, e', _⟩ := O'.ns; ⟨o, e'⟩
 refine I.write (x := a) (e := dx) (by rw [e]; exact True.intro) (.inr ho) (fun b q hb z => (sb.2 b hb).trans z) hd ?_
 refine ⟨by rw [zj O.ne]; exact ho, ?_, O.ne, O'.obj, _, O'.ns, fun g => ?_, fun g hg => ?_⟩
 ·have := yR f y fs; omega
 ·show yt ((qw f y fs).lookup g) (if g = f then some u else mA g)
  rw [yK]
  by_cases q : g = f
  ·rw [if_pos q, if_pos q]; exact ry
  ·rw [if_neg q, if_neg q]; exact r g
 ·by_cases q : g = f
  ·rw [q]; exact (yj f y fs).1
  ·refine (yj f y fs).2 g (wi g fun z => hg ?_)
   show (if g = f then some u else mA g) = none
   rw [if_neg q]; exact z
theorem Inv.made (I : Inv X pins σ H s) : Inv X pins σ (upd (upd H s.heap.objs.size (.own (s.heap.objs.size + 1))) (s.heap.objs.size + 1) (.ins C s.heap.objs.size []))
  { s with heap := (s.heap.push PySem.W.emptyDict).push (PySem.W.instObj C s.heap.objs.size) } := by
 have e1 : (s.heap.push PySem.W.emptyDict).get? s.heap.objs.size = some PySem.W.emptyDict := Heap.get?_push_size s.heap rfl
 have e2 : ((s.heap.push PySem.W.emptyDict).push (PySem.W.instObj C s.heap.objs.size)).get? (s.heap.objs.size + 1) = some (PySem.W.instObj C s.heap.objs.size) := by
  have := Heap.get?_push_size (s.heap.push PySem.W.emptyDict) (o := PySem.W.instObj C s.heap.objs.size) rfl
  rwa [Heap.size_push] at this
 have e3 : (s.heap.push PySem.W.emptyDict).Ns s.heap.objs.size (fun _ => none) := ⟨PySem.W.emptyDict, #[], _, e1, rfl, (fun e he => absurd he (by simp)), fun _ => rfl⟩
 have I1 := I.laid (a := s.heap.objs.size) (o := .own (s.heap.objs.size + 1)) (h' := s.heap.push PySem.W.emptyDict) (t' := s.toks) (fun b u q => Heap.get?_push_of_some _ q) (Nat.le_refl _) ⟨_, e1⟩
 refine I1.laid (a := s.heap.objs.size + 1) (o := .ins C s.heap.objs.size []) (t' := s.toks) (fun b u q => Heap.get?_push_of_some _ q) (Nat.le_of_eq (Heap.size_push _ _)) ?_
 have ne : s.heap.objs.size ≠ s.heap.objs.size + 1 := Nat.ne_of_lt (Nat.lt_succ_self _)
 refine ⟨by rw [zj ne, zh], Nat.zero_le _, ne, e2, fun _ => none, (Heap.Ns1.of_empty e3).at fun o q => Heap.get?_push_of_some _ q, fun _ => True.intro, fun y hy => absurd rfl hy⟩
theorem AH {prog : Program} {w : World} {env : Env} {e : Expr} {f : Str} {pos : Pos} {s : Shared} {Q : Value -> Shared -> Prop} (hb : attributeBase e f env (eval e env) = eval e env)
  (h : wpAny (model prog w) A (eval e env) (fun o s₁ => wpAny (model prog w) A (getAttr o f true) Q E s₁) E s) : wpAny (model prog w) A (eval (.Attribute e f pos) env) Q E s :=
 Attribute_any_ h (by rw [arm_eval_Attribute, hb])
end
noncomputable def HF (K : PySem.W.Frag) (ta : TE) (f : Str) : TE := fun σ H Q => ta σ H fun x H1 => ∃ a C dx fs v, x = .ref a /\ H1 a = some (.ins C dx fs) /\ Cls K C /\ jY K C f /\ fs.lookup f = some v /\ Q v H1
noncomputable def GY (K : PySem.W.Frag) (ta tv : TE) (f : Str) : TS := fun D σ H => tv σ H fun y H1 => ta σ H1 fun x H2 => ∃ a C dx fs, x = .ref a /\ H2 a = some (.ins C dx fs) /\ Cls K C /\ jY K C f /\ fs.length < 1000 /\
 D.nx σ (upd H2 a (.ins C dx (qw f y fs)))
section
variable {X : Cx} {o e value : Expr} {f : Str} {pos pos' tpos : Pos} {ta tv : TE}
theorem qc (he : PE X e ta) (hb : attributeBase e f X.env (eval e X.env) = eval e X.env) : PE X (.Attribute e f pos) (HF X.K ta f) := by
 intro pins s σ H Q I h
 refine AH hb (thn (he pins s σ H _ I h) fun u s1 ⟨x, H1, I1, rx, a, C, dx, fs, v, ex, ea, c, n, l, q⟩ => ?_)
 subst ex
 obtain rfl : u = Value.ref a := rx
 exact Ke I1 ea c n l fun u' s2 I2 ru => ⟨v, H1, I2, ru, q⟩
theorem vE (ha : PE X o ta) (hv : PE X value tv) (hs : swapsWith value (some (.Attribute o f pos')) pos.line X.env = pure false) : PS X (.Assign [.Attribute o f pos'] value pos) (GY X.K ta tv f) := by
 intro pins s σ H D I h
 refine plainObj_wpAny_Assign_Attribute (thn (hv pins s σ H _ I h) fun u s1 ⟨y, H1, I1, ry, q⟩ => thn (ha pins s1 σ H1 _ I1 q) fun ov s2 ⟨x, H2, I2, rx, a, C, dx, fs, ex, ea, c, n, l, q2⟩ => ?_) hs
 subst ex
 obtain rfl : ov = Value.ref a := rx
 exact J5 I2 ea c n l ry fun s3 I3 => ⟨σ, _, I3, q2⟩
theorem DO {pl : Sem Bool} {m : Str} {apos : Pos} {args : List Expr} {pins : List (Addr × Obj)} {s : Shared} {σ : St} {H : Hp} {Q : Value -> Shared -> Prop} {te : TE} (he : PE X e te) (I : Inv X pins σ H s)
  (h : te σ H fun x H1 => ∃ a C dx fs g, x = .ref a /\ H1 a = some (.ins C dx fs) /\ Cls X.K C /\ Yu X.K C m g /\ fs.lookup m = none /\
   ∀ s1, Inv X pins σ H1 s1 -> wpAny (model X.prog X.w) X.A (callWith pos (.ref g) [.ref a] (backTo pos (starEach args X.env)) (backToKw pos (keywordEach [] X.env))) Q X.xe s1)
  (ht : eval (.Call (.Attribute e m apos) args [] pos) X.env = (do
   let ov <- eval e X.env
   standAt apos.atName
   let (f, first) <- holding [ov] (getMethod ov m pl)
   callWith pos f first (backTo pos (starEach args X.env)) (backToKw pos (keywordEach [] X.env)))) :
  wpAny (model X.prog X.w) X.A (eval (.Call (.Attribute e m apos) args [] pos) X.env) Q X.xe s := by
 refine PySem.W.methodCall_KW (pl := pl) (thn (he pins s σ H _ I h) fun u s1 ⟨x, H1, I1, rx, a, C, dx, fs, g, ex, ea, c, k, l, q⟩ => ?_) ht
 subst ex
 obtain rfl : u = Value.ref a := rx
 exact xG I1 ea c k l (q s1 I1)
end
section
variable {X : Cx} {pins : List (Addr × Obj)} {σ : St} {H : Hp} {s : Shared} {A : Around} {E : Value -> Shared -> Prop} {Q : Value -> Shared -> Prop} {c : Value} {b : Bool}
inductive j3 (K : PySem.W.Frag) (H : Hp) : V -> Value -> Prop where
  | non : j3 K H .non (.type "NoneType")
  | bl (x : Bool) : j3 K H (.bl x) (.type "bool")
  | int (i : Int) : j3 K H (.int i) (.type "int")
  | str (x : Str) : j3 K H (.str x) (.type "str")
  | flt (x : UInt64) : j3 K H (.flt x) (.type "float")
  | lst {a : Addr} {xs : List V} (e : H a = some (.lst xs)) : j3 K H (.ref a) (.type "list")
  | frz {a : Addr} {o : Obj} {xs : List V} (e : H a = some (.frz o (.lst xs))) : j3 K H (.ref a) (.type "list")
  | tup {a : Addr} {xs : List V} (e : H a = some (.tup xs)) : j3 K H (.ref a) (.type "tuple")
  | dK {a : Addr} {kvs : List (Key × V)} (e : H a = some (.dK kvs)) : j3 K H (.ref a) (.type "dict")
  | dT {a : Addr} {kvs : List (List Key × V)} (e : H a = some (.dT kvs)) : j3 K H (.ref a) (.type "dict")
  | ins {a C dx : Addr} {fs : List (Str × V)} (e : H a = some (.ins C dx fs)) (cl : Cls K C) (ha : PySem.W.findIn K (.ref C) "__class__" = some (some (.builtin "object.__class__")))
      (hn : PySem.W.specialIn K (.builtin "object.__class__") "__get__" = some (some (.builtin "getset_descriptor.__get__"))) (htk : PySem.W.takesIn K (.builtin "object.__class__") = some true)
      (hm : PySem.W.mroIn K C (.type "object") = some true) : j3 K H (.ref a) (.ref C)
theorem YI {x : V} {u t : Value} (I : Inv X pins σ H s) (rx : zE x u) (ty : j3 X.K H x t) (e : PySem.W.kitOne X.K t c = some b) (h : ∀ tk, Q (.bool b) { s with toks := tk }) :
  wpAny (model X.prog X.w) A (call (.builtin "isinstance") [u, c]) Q E s := by
 cases ty with
 | non => cases (show u = Value.none from rx); exact PySem.W.kia_one PySem.W.kitx_none I.kIn True.intro e (fun z => nomatch z) h
 | bl y => cases (show u = Value.bool y from rx); exact PySem.W.kia_one PySem.W.kitx_bool I.kIn True.intro e (fun z => nomatch z) h
 | int i => obtain ⟨t, q⟩ := (show ∃ t, u = Value.int i t from rx); cases q; exact PySem.W.kia_one PySem.W.kitx_int I.kIn True.intro e (fun z => nomatch z) h
 | str y => obtain ⟨t, q⟩ := (show ∃ t, u = Value.str y t from rx); cases q; exact PySem.W.kia_one PySem.W.kitx_str I.kIn True.intro e (fun z => nomatch z) h
 | flt y => obtain ⟨t, q⟩ := (show ∃ t, u = Value.float y t from rx); cases q; exact PySem.W.kia_one PySem.W.kitx_float I.kIn True.intro e (fun z => nomatch z) h
 | @lst a xs ea =>
  cases (show u = Value.ref a from rx)
  obtain ⟨_, _, n, _, h1⟩ := (show qb X.prog X.w H s.heap a (.lst xs) from I.hok a _ ea)
  exact PySem.W.kia_one PySem.W.kitx_list I.kIn ⟨_, h1, rfl⟩ e (fun z => nomatch z) h
 | @frz a ob xs ea =>
  cases (show u = Value.ref a from rx)
  obtain ⟨_, _, _, n, _, h1⟩ := (show qb X.prog X.w H s.heap a (.frz ob (.lst xs)) from I.hok a _ ea)
  exact PySem.W.kia_one PySem.W.kitx_list I.kIn ⟨_, h1, rfl⟩ e (fun z => nomatch z) h
 | @tup a xs ea =>
  cases (show u = Value.ref a from rx)
  obtain ⟨_, _, _, p⟩ := (show qb X.prog X.w H s.heap a (.tup xs) from I.hok a _ ea)
  obtain ⟨o, h1, h2, _⟩ := p
  exact PySem.W.kia_one PySem.W.kitx_tuple I.kIn ⟨o, h1, h2⟩ e (fun z => nomatch z) h
 | @dK a kvs ea =>
  cases (show u = Value.ref a from rx)
  obtain ⟨_, _, vs, _, p⟩ := (show qb X.prog X.w H s.heap a (.dK kvs) from I.hok a _ ea)
  obtain ⟨o, es, ep, h1, h2, _⟩ := p
  exact PySem.W.kia_one PySem.W.kitx_dict I.kIn ⟨o, h1, h2.1⟩ e (fun z => nomatch z) h
 | @dT a kvs ea =>
  cases (show u = Value.ref a from rx)
  obtain ⟨_, _, xs, _, o, es, ep, h1, h2, _⟩ := (show qb X.prog X.w H s.heap a (.dT kvs) from I.hok a _ ea)
  exact PySem.W.kia_one PySem.W.kitx_dict I.kIn ⟨o, h1, h2.1⟩ e (fun z => nomatch z) h
 | @ins a C dx fs ea cl ha hn htk hm =>
  cases (show u = Value.ref a from rx)
  obtain ⟨mA, O, _⟩ := y4 I.hok ea
  obtain ⟨od, J, _⟩ := O.look
  exact PySem.W.kia_one (PySem.W.kitx_own (cl.get _) cl.hd ha hn htk hm) I.kIn J e (fun z => nomatch z) h
end
end L2
namespace L2
open PySem PySem.Spec PyProof.Rows
structure qK (k : Nat) (A : Around) : Prop where
 hd : A.handled = none
 gd : A.guards = some []
 dp : A.depth + 3 * k + 5 < recursionLimit
 un : A.units + 16 * k + 200 < cLine
theorem qK.mono {j k : Nat} {A : Around} (r : qK k A) (h : j <= k) : qK j A := ⟨r.hd, r.gd, by have := r.dp; omega, by have := r.un; omega⟩
theorem qK.deeper {k : Nat} {A : Around} (r : qK (k + 1) A) (env : Env) : qK k (A.deeper env) :=
 ⟨r.hd, r.gd, by have := r.dp; show A.depth + 1 + 3 * k + 5 < _; omega, by have := r.un; show A.units + 3 + 16 * k + 200 < _; omega⟩
theorem Kk {A : Around} {C : Addr} {us : List Value} {kw : List (Str × Value)} : (A.under (.builtin "type.__call__" ⟨.ref C :: us, kw⟩)).depth = A.depth + 1 := by
 first | rfl | simp [Around.under, Code.weight, Code.isCreation, Code.isGuard, Code.isCaller, Code.frames, Code.isFrame, guardIds]
theorem Ju {A : Around} {C : Addr} {us : List Value} {kw : List (Str × Value)} : (A.under (.builtin "type.__call__" ⟨.ref C :: us, kw⟩)).units = A.units + 1 := by
 first | rfl | simp [Around.under, Code.cUnits, Code.frames, Code.isFrame]
theorem Qr {A : Around} {C : Addr} {us : List Value} {kw : List (Str × Value)} : (A.under (.builtin "type.__call__" ⟨.ref C :: us, kw⟩)).guards = A.guards := by
 first | rfl | (simp [Around.under, Code.guards, pushGuards, Code.isGuard, guardIds])
theorem qK.make {k : Nat} {A : Around} (r : qK (k + 1) A) (C : Addr) (us : List Value) (kw : List (Str × Value)) : qK k (A.under (.builtin "type.__call__" ⟨.ref C :: us, kw⟩)) :=
 ⟨r.hd, (Qr).trans r.gd, by have := r.dp; rw [Kk]; omega, by have := r.un; rw [Ju]; omega⟩
theorem qK.depth {k : Nat} {A : Around} (r : qK k A) : A.depth < recursionLimit := by have := r.dp; omega
theorem qK.units {k : Nat} {A : Around} (r : qK k A) : A.units + 64 < cLine := by have := r.un; omega
noncomputable def Aq : TA := fun _ H Q => Q [] H
noncomputable def Ws (ta : TE) (tr : TA) : TA := fun σ H Q => ta σ H fun x H1 => tr σ H1 fun xs H2 => Q (x :: xs) H2
section
variable {X : Cx} {e : Expr} {es : List Expr} {te : TE} {t : TA} {pos : Pos}
theorem zb : PA X [] Aq := fun _ _ _ _ H Q I h => Calls.spliced_nil ⟨[], H, I, .nil, h⟩
theorem za (ha : PE X e te) (hr : PA X es t) (hs : starEach (e :: es) X.env = (false, eval e X.env) :: starEach es X.env := by rfl) : PA X (e :: es) (Ws te t) := by
 intro pos pins s σ H Q I h
 rw [hs]
 show wpAny _ _ (spliced ((false, eval e X.env) :: backTo pos (starEach es X.env))) _ _ s
 refine Calls.spliced_cons (thn (ha pins s σ H _ I h) fun u s1 ⟨x, H1, I1, r1, q1⟩ => ?_)
 exact thn (hr pos pins s1 σ H1 _ I1 q1) fun us s2 ⟨xs, H2, I2, r2, q2⟩ => ⟨x :: xs, H2, I2, .cons r1 r2, q2⟩
noncomputable def Ed (t : TA) : TE := fun σ H Q => t σ H fun xs H1 => xs.length <= sizeLine /\ ∀ p, H1 p = none -> Q (.ref p) (upd H1 p (.tup xs))
noncomputable def Eh (t : TA) : TE := fun σ H Q => t σ H fun xs H1 => xs.length <= sizeLine /\ ∀ p, H1 p = none -> Q (.ref p) (upd H1 p (.lst xs))
theorem ji {x1} (h : PA X es t) : PE X (.Tuple es x1 pos) (Ed t) := by
 intro pins s σ H Q I hq
 refine wpAny_Tuple_spliced (thn (h pos pins s σ H _ I hq) fun us s1 ⟨xs, H1, I1, r, z, q⟩ => ⟨by rw [<- r.length]; exact z, ?_⟩)
 have hf : H1 s1.heap.objs.size = none := I1.hok.fresh (Nat.le_refl _)
 refine ⟨.ref s1.heap.objs.size, upd H1 s1.heap.objs.size (.tup xs), I1.laid (t' := s1.toks) (fun b u e => Heap.get?_push_of_some _ e) (Nat.le_refl _) ?_, rfl, q _ hf⟩
 exact ⟨z, us, r, ⟨_, Heap.get?_push_size _ rfl, rfl, ⟨_, rfl⟩, rfl⟩⟩
theorem qj (h : PA X es t) : PE X (.List es pos) (Eh t) := by
 intro pins s σ H Q I hq
 refine wpAny_List_spliced (thn (h pos pins s σ H _ I hq) fun us s1 ⟨xs, H1, I1, r, z, q⟩ => ⟨by rw [<- r.length]; exact z, ?_⟩)
 have hf : H1 s1.heap.objs.size = none := I1.hok.fresh (Nat.le_refl _)
 refine ⟨.ref s1.heap.objs.size, upd H1 s1.heap.objs.size (.lst xs), I1.laid (t' := s1.toks) (fun b u e => Heap.get?_push_of_some _ e) (Nat.le_refl _) ?_, rfl, q _ hf⟩
 exact ⟨z, us, 0, r, Heap.get?_push_size _ rfl⟩
end
noncomputable abbrev Sp := List V -> Hp -> VK -> XK -> Prop
noncomputable abbrev CXT := List Env -> Hp -> Shared -> XK -> Value -> Shared -> Prop
structure Js (P : Program) (w : World) (K : PySem.W.Frag) (mg : Str -> Option Value) (base : Heap) (A : Around) (outer : List Env) (s : Shared) (H : Hp) : Prop where
 frames : A.frames = some outer
 mod : Mod K mg base
 bs : ∀ b o, base.get? b = some o -> s.heap.get? b = some o /\ H b = none
 bsz : base.objs.size <= s.heap.objs.size
 funs : s.heap.FunFrames base outer
 frf : ∀ b ∈ frs outer, H b = none
 hok : HOk P w H s.heap
 bare : AllBare s.gens
noncomputable def CE (outer : List Env) (P : Program) (w : World) (H : Hp) (s : Shared) (Q : VK) (u : Value) (s' : Shared) : Prop :=
 ∃ v H', s'.os = s.os /\ AllBare s'.gens /\ Un (frs outer) [] H H' s.heap s'.heap /\ HOk P w H' s'.heap /\ zE v u /\ Q v H'
noncomputable def CR (CX : CXT) (outer : List Env) (P : Program) (w : World) (H : Hp) (s : Shared) (Q : VK) (E : XK) (r : Result) (s' : Shared) : Prop :=
 match r with
 | .ok (.ret u) => CE outer P w H s Q u s'
 | .ok _ => False
 | .error e => CX outer H s E e s'
structure jE (P : Program) (w : World) (K : PySem.W.Frag) (mg : Str -> Option Value) (base : Heap) (CX : CXT) (k : Nat) (f : Addr) (fd : FuncData) (ps : List Str) (sp : Sp) : Prop where
 len : ∀ vs H Q E, sp vs H Q E -> vs.length = ps.length
 run : ∀ (A : Around) (outer : List Env) (s : Shared) (H : Hp) (args : Args) (us : List Value) (vs : List V) (Q : VK) (E : XK), qK k A -> Js P w K mg base A outer s H -> BindsTo s fd args (ps.zip us) -> zF vs us -> sp vs H Q E ->
  codeAny (model P w) A (.call (.ref f) args) (CR CX outer P w H s Q E) s
theorem jE.mono {P : Program} {w : World} {K : PySem.W.Frag} {mg : Str -> Option Value} {base : Heap} {CX : CXT} {j k : Nat} {f : Addr} {fd : FuncData} {ps : List Str} {sp : Sp} (F : jE P w K mg base CX j f fd ps sp) (h : j <= k) :
  jE P w K mg base CX k f fd ps sp := ⟨F.len, fun A outer s H args us vs Q E hr => F.run A outer s H args us vs Q E (hr.mono h)⟩
theorem jE.imp {P : Program} {w : World} {K : PySem.W.Frag} {mg : Str -> Option Value} {base : Heap} {CX : CXT} {k : Nat} {f : Addr} {fd : FuncData} {ps : List Str} {sp sp' : Sp} (F : jE P w K mg base CX k f fd ps sp)
  (h : ∀ vs H Q E, sp' vs H Q E -> sp vs H Q E) : jE P w K mg base CX k f fd ps sp' :=
 ⟨fun vs H Q E q => F.len vs H Q E (h _ _ _ _ q), fun A outer s H args us vs Q E hr he hb hv hs => F.run A outer s H args us vs Q E hr he hb hv (h _ _ _ _ hs)⟩
theorem Js.make {P : Program} {w : World} {K : PySem.W.Frag} {mg : Str -> Option Value} {base : Heap} {A : Around} {outer : List Env} {s : Shared} {H : Hp} (e : Js P w K mg base A outer s H) (C : Addr) (us : List Value) (kw : List (Str × Value)) :
  Js P w K mg base (A.under (.builtin "type.__call__" ⟨.ref C :: us, kw⟩)) outer s H := ⟨by first | exact e.frames | (simpa [Around.under, Code.envs, Code.isFrame, pushEnvs] using e.frames), e.mod, e.bs, e.bsz, e.funs, e.frf, e.hok, e.bare⟩
section
variable {X : Cx} {pins : List (Addr × Obj)} {σ : St} {H : Hp} {s s' : Shared}
theorem Inv.env0 (I : Inv X pins σ H s) : Js X.prog X.w X.K X.mg X.base X.A X.stack s H :=
 ⟨I.ok.frames, I.ok.mod, I.bs, Nat.le_trans I.ok.bsz I.sz, I.stack, I.stkFree, I.hok, I.bare⟩
theorem Inv.after {Q : VK} {u : Value} (I : Inv X pins σ H s) (h : CE X.stack X.prog X.w H s Q u s') : EP X pins σ Q u s' := by
 obtain ⟨v, H', os, bare, un, hok, r, q⟩ := h
 obtain ⟨hh, g, d, t, os'⟩ := s'
 obtain rfl : os' = s.os := os
 exact ⟨v, H', I.call (h' := hh) (g' := g) (d' := d) (t' := t) (ch := []) un hok bare (fun b z => absurd z (by simp)), r, q⟩
end
noncomputable def K8 (sp : Sp) (dvs : List V) (E : XK) (t : TA) : TE := fun σ H Q => t σ H fun vs H1 => sp (vs ++ dvs) H1 Q E
noncomputable def QF (C : Addr) (m : Str) (sp : Sp) (dvs : List V) (E : XK) (ta : TE) (t : TA) : TE := fun σ H Q => ta σ H fun x H1 => ∃ a dx fs, x = .ref a /\ H1 a = some (.ins C dx fs) /\ fs.lookup m = none /\
 t σ H1 fun vs H2 => sp (x :: (vs ++ dvs)) H2 Q E
noncomputable def VY (C : Addr) (sp : Sp) (dvs : List V) (E : XK) (t : TA) : TE := fun σ H Q => t σ H fun vs H1 => ∀ x dx, H1 x = none -> H1 dx = none -> dx ≠ x ->
 sp (.ref x :: (vs ++ dvs)) (upd (upd H1 dx (.own x)) x (.ins C dx [])) (fun v H2 => v = .non /\ Q (.ref x) H2) E
noncomputable def ki (K : PySem.W.Frag) (fd : FuncData) (ps : List Str) (ds : List Value) : Prop :=
 ∀ (s : Shared) (us : List Value), K.In s.heap -> (us ++ ds).length = ps.length -> BindsTo s fd ⟨us, []⟩ (ps.zip (us ++ ds))
theorem ki.all {K : PySem.W.Frag} {fd : FuncData} {ps : List Str} (h : ∀ us : List Value, us.length = ps.length -> bindArgs fd ⟨us, []⟩ = pure (ps.zip us)) : ki K fd ps [] := fun s us _ hl => by
 rw [List.append_nil] at hl ⊢
 exact .of_eq (h us hl)
noncomputable def xK (CX : CXT) (X : Cx) (E : XK) : Prop := ∀ (pins : List (Addr × Obj)) (σ : St) (H : Hp) (s : Shared) (e : Value) (s' : Shared), Inv X pins σ H s -> CX X.stack H s E e s' -> X.xe e s'
section
variable {X : Cx} {CX : CXT} {k : Nat} {f C : Addr} {fd : FuncData} {ps : List Str} {sp : Sp} {dvs : List V} {ds : List Value} {E : XK} {x m : Str} {p pos apos : Pos} {e o : Expr} {es : List Expr} {ta : TE} {t : TA}
theorem Jp {pins : List (Addr × Obj)} {σ : St} {H : Hp} {s : Shared} {Q : VK} {us : List Value} {vs : List V} (F : jE X.prog X.w X.K X.mg X.base CX k f fd ps sp) (hr : qK k X.A) (hb : ki X.K fd ps ds) (hd : zF dvs ds) (hx : xK CX X E)
  (I : Inv X pins σ H s) (r : zF vs us) (h : sp (vs ++ dvs) H Q E) : wpAny (model X.prog X.w) X.A (call (.ref f) us) (EP X pins σ Q) X.xe s := by
 have r2 : zF (vs ++ dvs) (us ++ ds) := r.append hd
 have hl : (us ++ ds).length = ps.length := by rw [<- r2.length]; exact F.len _ _ _ _ h
 refine wpAny_call (codeAny_mono (F.run X.A X.stack s H ⟨us, []⟩ (us ++ ds) (vs ++ dvs) Q E hr I.env0 (hb s us I.kIn hl) r2 h) fun r s' hq => ?_)
 cases r with
 | error e => exact hx pins σ H s e s' I hq
 | ok fl =>
  cases fl with
  | ret u => exact I.after hq
  | next => exact False.elim hq
  | brk => exact False.elim hq
  | cont => exact False.elim hq
theorem Bn (F : jE X.prog X.w X.K X.mg X.base CX k f fd ps sp) (hr : qK k X.A) (hg : Gl X x) (hm : X.mg x = some (.ref f)) (hk : PySem.W.keepIn X.K (.ref f) = true) (hb : ki X.K fd ps ds) (hd : zF dvs ds) (hx : xK CX X E)
  (ha : PA X (e :: es) t) (hdb : (x == ("__debug__" : Str)) = false := by decide) (he : starEach (e :: es) X.env = (false, eval e X.env) :: starEach es X.env := by rfl) (hpl : (backTo pos (starEach es X.env)).any (·.1) = false := by rfl) :
  PE X (.Call (.Name x p) (e :: es) [] pos) (K8 sp dvs E t) := by
 intro pins s σ H Q I h
 refine wpAny_Call_Name_kw (ZA I hg hm ?_ hdb)
 refine PySem.W.callWith_K (h₀ := X.base) I.ok.mod.kin hk (thn (ha pos pins s σ H _ I h) fun us s1 ⟨vs, H1, I1, r, q⟩ => ⟨I1.kIn, ?_⟩) he hpl
 exact Jp F hr hb hd hx I1 r q
theorem AX {pl : Sem Bool} (he : PE X o ta) (c : Cls X.K C) (hm : Yu X.K C m f) (F : jE X.prog X.w X.K X.mg X.base CX k f fd ps sp) (hr : qK k X.A) (hb : ki X.K fd ps ds) (hd : zF dvs ds) (hx : xK CX X E) (ha : PA X (e :: es) t)
  (hst : starEach (e :: es) X.env = (false, eval e X.env) :: starEach es X.env := by rfl) (hpl : (backTo pos (starEach es X.env)).any (·.1) = false := by rfl)
  (ht : eval (.Call (.Attribute o m apos) (e :: es) [] pos) X.env = (do
   let ov <- eval o X.env
   standAt apos.atName
   let (f, first) <- holding [ov] (getMethod ov m pl)
   callWith pos f first (backTo pos (starEach (e :: es) X.env)) (backToKw pos (keywordEach [] X.env))) := by rfl) :
  PE X (.Call (.Attribute o m apos) (e :: es) [] pos) (QF C m sp dvs E ta t) := by
 intro pins s σ H Q I h
 refine PySem.W.methodCall_KW (pl := pl) (thn (he pins s σ H _ I h) fun u s1 ⟨x, H1, I1, rx, a, dx, fs, ex, ea, l, q⟩ => ?_) ht
 subst ex
 obtain rfl : u = Value.ref a := rx
 refine xG I1 ea c hm l ?_
 refine PySem.W.callWith_K (first := [.ref a]) (h₀ := X.base) I.ok.mod.kin hm.kp (thn (ha pos pins s1 σ H1 _ I1 q) fun us s2 ⟨vs, H2, I2, r, q2⟩ => ⟨I2.kIn, ?_⟩) hst hpl
 exact Jp (us := .ref a :: us) (vs := .ref a :: vs) F hr hb hd hx I2 (.cons rfl r) q2
theorem Wz {pl : Sem Bool} (he : PE X o ta) (c : Cls X.K C) (hm : Yu X.K C m f) (F : jE X.prog X.w X.K X.mg X.base CX k f fd ps sp) (hr : qK k X.A) (hb : ki X.K fd ps ds) (hd : zF dvs ds) (hx : xK CX X E)
  (ht : eval (.Call (.Attribute o m apos) [] [] pos) X.env = (do
   let ov <- eval o X.env
   standAt apos.atName
   let (f, first) <- holding [ov] (getMethod ov m pl)
   callWith pos f first (backTo pos (starEach [] X.env)) (backToKw pos (keywordEach [] X.env))) := by rfl) :
  PE X (.Call (.Attribute o m apos) [] [] pos) (QF C m sp dvs E ta Aq) := by
 intro pins s σ H Q I h
 refine PySem.W.methodCall_KW (pl := pl) (thn (he pins s σ H _ I h) fun u s1 ⟨x, H1, I1, rx, a, dx, fs, ex, ea, l, q⟩ => ?_) ht
 subst ex
 obtain rfl : u = Value.ref a := rx
 refine xG I1 ea c hm l ?_
 exact PySem.W.callWith_K0 (first := [.ref a]) I1.kIn hm.kp (Jp (us := [.ref a]) (vs := [.ref a]) F hr hb hd hx I1 (.cons rfl .nil) q)
structure Mk (K : PySem.W.Frag) (C f : Addr) : Prop where
 makes : PySem.W.makesIn K C = true
 init : PySem.W.findIn K (.ref C) "__init__" = some (some (.ref f))
 fn : PySem.W.isFn K (.ref f) = true
 kp : PySem.W.keepIn K (.ref C) = true
theorem Wn {pins : List (Addr × Obj)} {σ : St} {H : Hp} {s : Shared} {Q : VK} {us : List Value} {vs : List V} (M : Mk X.K C f) (F : jE X.prog X.w X.K X.mg X.base CX k f fd ps sp) (hr : qK (k + 1) X.A) (hb : ki X.K fd ps ds) (hd : zF dvs ds)
  (hx : xK CX X E) (I : Inv X pins σ H s) (r : zF vs us)
  (h : ∀ x dx, H x = none -> H dx = none -> dx ≠ x -> sp (.ref x :: (vs ++ dvs)) (upd (upd H dx (.own x)) x (.ins C dx [])) (fun v H2 => v = .non /\ Q (.ref x) H2) E) :
  wpAny (model X.prog X.w) X.A (call (.ref C) us) (EP X pins σ Q) X.xe s := by
 have hq := h (s.heap.objs.size + 1) s.heap.objs.size (I.hok.fresh (Nat.le_succ _)) (I.hok.fresh (Nat.le_refl _)) (Nat.ne_of_lt (Nat.lt_succ_self _))
 have I2 := Inv.made (C := C) I
 have r2 : zF (V.ref (s.heap.objs.size + 1) :: (vs ++ dvs)) (Value.ref (s.heap.objs.size + 1) :: (us ++ ds)) := .cons rfl (r.append hd)
 have hl : (Value.ref (s.heap.objs.size + 1) :: us ++ ds).length = ps.length := by
  have e := r2.length
  rw [F.len _ _ _ _ hq] at e
  exact e.symm
 refine wpAny_call (Wp (f := f) I.kIn M.makes M.init (beq_iff_eq.mp M.fn) (codeAny_mono (F.run _ X.stack _ _ ⟨Value.ref (s.heap.objs.size + 1) :: us, []⟩ (Value.ref (s.heap.objs.size + 1) :: (us ++ ds)) _ _ E (hr.make C us [])
  (I2.env0.make C us []) (hb _ (Value.ref (s.heap.objs.size + 1) :: us) I2.kIn hl) r2 hq) fun r s' hq' => ?_))
 cases r with
 | error e => exact hx pins σ _ _ e s' I2 hq'
 | ok fl =>
  cases fl with
  | ret u =>
   obtain ⟨v, H', I3, rv, ev, q3⟩ := I2.after hq'
   subst ev
   exact ⟨rv, ⟨V.ref (s.heap.objs.size + 1), H', I3, rfl, q3⟩⟩
  | next => exact False.elim hq'
  | brk => exact False.elim hq'
  | cont => exact False.elim hq'
theorem Bb (M : Mk X.K C f) (F : jE X.prog X.w X.K X.mg X.base CX k f fd ps sp) (hr : qK (k + 1) X.A) (hg : Gl X x) (hm : X.mg x = some (.ref C)) (hb : ki X.K fd ps ds) (hd : zF dvs ds) (hx : xK CX X E)
  (ha : PA X (e :: es) t) (hdb : (x == ("__debug__" : Str)) = false := by decide) (he : starEach (e :: es) X.env = (false, eval e X.env) :: starEach es X.env := by rfl) (hpl : (backTo pos (starEach es X.env)).any (·.1) = false := by rfl) :
  PE X (.Call (.Name x p) (e :: es) [] pos) (VY C sp dvs E t) := by
 intro pins s σ H Q I h
 refine wpAny_Call_Name_kw (ZA I hg hm ?_ hdb)
 refine PySem.W.callWith_K (h₀ := X.base) I.ok.mod.kin M.kp (thn (ha pos pins s σ H _ I h) fun us s1 ⟨vs, H1, I1, r, q⟩ => ⟨I1.kIn, ?_⟩) he hpl
 exact Wn M F hr hb hd hx I1 r q
end
section
variable {X : Cx} {CX : CXT} {k : Nat} {f C : Addr} {fd : FuncData} {ps ks : List Str} {sp : Sp} {E : XK} {x m : Str} {p pos apos kpos : Pos} {e o : Expr} {es : List Expr} {kws : List Keyword} {te ta : TE} {t tk : TA} {nm : Option Str}
structure HM (K : PySem.W.Frag) (fd : FuncData) (ps ks : List Str) (g : List Value -> List Value -> List Value) (gV : List V -> List V -> List V) : Prop where
 to : ∀ (s : Shared) (us ws : List Value), K.In s.heap -> (g us ws).length = ps.length -> BindsTo s fd ⟨us, ks.zip ws⟩ (ps.zip (g us ws))
 rel : ∀ {vs : List V} {us : List Value} {zs : List V} {ws : List Value}, zF vs us -> zF zs ws -> zF (gV vs zs) (g us ws)
variable {g : List Value -> List Value -> List Value} {gV : List V -> List V -> List V}
end
structure zo (N P : List Str) (sc : Scope) : Prop where
 kind : sc.kind = .function
 co : sc.isCoroutine = false
 gen : sc.isGenerator = false
 nd : N.Nodup
 pre : N.take P.length = P
 par : ∀ x ∈ P, sc.names.lookup x = some .local \/ sc.names.lookup x = some .cell
 nofree : ∀ y ∈ sc.names, y.2 ≠ .free
theorem wO {kindOf : Str -> Option NameKind} {x : Str} : ∀ {binds : List (Str × Value)} {m : Str -> Option Value}, (∀ v, (x, v) ∉ binds) -> bindL kindOf binds m x = m x
 | [], _, _ => rfl
 | (n, v) :: r, m, h => by
  unfold bindL
  rw [wO fun w hw => h w (List.mem_cons_of_mem _ hw)]
  split
  ·have : x ≠ n := by rintro rfl; exact h v List.mem_cons_self
   simp [this]
  ·rfl
theorem w6 {kindOf : Str -> Option NameKind} {x : Str} : ∀ {binds : List (Str × Value)} {m : Str -> Option Value}, (∀ v, (x, v) ∉ binds) -> bindC kindOf binds m x = m x
 | [], _, _ => rfl
 | (n, v) :: r, m, h => by
  unfold bindC
  rw [w6 fun w hw => h w (List.mem_cons_of_mem _ hw)]
  split
  ·rfl
  ·have : x ≠ n := by rintro rfl; exact h v List.mem_cons_self
   simp [this]
theorem wB {kindOf : Str -> Option NameKind} {x : Str} {v : Value} : ∀ {P : List Str} {vs : List Value} {i : Nat} {m : Str -> Option Value}, P.Nodup -> P[i]? = some x -> vs[i]? = some v -> kindOf x = some .local ->
  bindL kindOf (P.zip vs) m x = some v
 | [], _, _, _, _, h, _, _ => by simp at h
 | _ :: _, [], _, _, _, _, h, _ => by simp at h
 | p :: P, w :: vs, 0, m, nd, h1, h2, hk => by
  simp at h1 h2; subst h1; subst h2
  show bindL kindOf ((p, w) :: P.zip vs) m p = _
  unfold bindL
  rw [wO fun v hv => (List.nodup_cons.mp nd).1 (List.of_mem_zip hv).1, if_pos hk]
  simp
 | p :: P, w :: vs, i + 1, m, nd, h1, h2, hk => by
  show bindL kindOf ((p, w) :: P.zip vs) m x = _
  unfold bindL
  exact wB (i := i) (List.nodup_cons.mp nd).2 (by simpa using h1) (by simpa using h2) hk
theorem Zh {kindOf : Str -> Option NameKind} {x : Str} {v : Value} : ∀ {P : List Str} {vs : List Value} {i : Nat} {m : Str -> Option Value}, P.Nodup -> P[i]? = some x -> vs[i]? = some v -> kindOf x ≠ some .local ->
  bindC kindOf (P.zip vs) m x = some v
 | [], _, _, _, _, h, _, _ => by simp at h
 | _ :: _, [], _, _, _, _, h, _ => by simp at h
 | p :: P, w :: vs, 0, m, nd, h1, h2, hk => by
  simp at h1 h2; subst h1; subst h2
  show bindC kindOf ((p, w) :: P.zip vs) m p = _
  unfold bindC
  rw [w6 fun v hv => (List.nodup_cons.mp nd).1 (List.of_mem_zip hv).1, if_neg hk]
  simp
 | p :: P, w :: vs, i + 1, m, nd, h1, h2, hk => by
  show bindC kindOf ((p, w) :: P.zip vs) m x = _
  unfold bindC
  exact Zh (i := i) (List.nodup_cons.mp nd).2 (by simpa using h1) (by simpa using h2) hk
noncomputable def zZ (N : List Str) (vs : List V) : St := vs.map some ++ List.replicate (N.length - vs.length) none
noncomputable def wx (CX : CXT) (P : Program) (w : World) (K : PySem.W.Frag) (mg : Str -> Option Value) (base : Heap) (N : List Str) (qual : Str) (scope : Scope) (f : Addr) (cd : Value) (A : Around) (outer : List Env) (s : Shared) (H : Hp) (E : XK) : Cx where
 prog := P
 w := w
 K := K
 mg := mg
 base := base
 A := A.deeper (envOfC qual scope s.heap.objs.size f cd)
 N := N
 s₀ := s
 H₀ := H
 env := envOfC qual scope s.heap.objs.size f cd
 outer := outer
 stack := envOfC qual scope s.heap.objs.size f cd :: outer
 ex := []
 calm := true
 fn := fun _ => true
 pn := []
 xe := fun e s' => wpAny (model P w) (A.deeper (envOfC qual scope s.heap.objs.size f cd)) (leaving (envOfC qual scope s.heap.objs.size f cd) e) (fun _ s'' => CX outer H s E e s'') (fun e' s'' => CX outer H s E e' s'') s'
theorem Jg {sc : Scope} {n : Nat} {x : Str} (h : sc.names.lookup x = some .cell) : ∃ c, (cellsFrom n sc.names []).lookup x = some c := by
 have q := PySem.W.cellsFrom_some sc.names n [] (.inl h)
 exact Option.isSome_iff_exists.mp q
theorem Yw {CX : CXT} {P : Program} {w : World} {K : PySem.W.Frag} {mg : Str -> Option Value} {base : Heap} {N ps : List Str} {qual : Str} {scope : Scope} {f : Addr} {cd : Value} {A : Around} {outer : List Env} {s s1 : Shared} {H : Hp} {E : XK} {us : List Value} {vs : List V}
    (S : zo N ps scope) (hd : A.handled = none) (e0 : Js P w K mg base A outer s H) (hl : vs.length = ps.length) (r : zF vs us)
    (x : InCallC s s.heap.objs.size (bindL (envOfC qual scope s.heap.objs.size f cd).kindOf (ps.zip us) fun _ => none) (cellsFrom (s.heap.objs.size + 1) scope.names []) (bindC (envOfC qual scope s.heap.objs.size f cd).kindOf (ps.zip us) fun _ => none) s1) :
    Inv (wx CX P w K mg base N qual scope f cd A outer s H E) [] (zZ N vs) H s1 := by
  have hpl : ps.length <= N.length := by have := congrArg List.length S.pre; rw [List.length_take] at this; omega
  obtain ⟨h1, tk, rfl, hk⟩ := x.done
  have noA : ∀ b : Addr, b ∉ (wx CX P w K mg base N qual scope f cd A outer s H E).ex := fun b z => absurd (show b ∈ ([] : List Addr) from z) (by simp)
  refine ⟨⟨e0.mod, S.kind, rfl, rfl, Nat.le_refl _, fun y z c h1 h2 => ?_, fun y hy => ?_, fun y c _ h => ?_, fun _ => hd, Around.frames_deeper e0.frames, .inr ⟨rfl, rfl⟩, fun b z => absurd z (noA b), e0.bs, e0.bsz, fun b _ _ => noA b, fun b z => absurd z (noA b), e0.funs, e0.frf⟩,
    rfl, e0.bare, Un.kept hk, ⟨_, x.toInCall.ns, fun i y v h1 h2 h3 => ?_⟩, fun y c h => ⟨_, x.cell y c h⟩, e0.hok.fresh (Nat.le_refl _), fun y c h => ?_, fun p hp => absurd (show p ∈ ([] : List (Addr × Obj)) from hp) (by simp), e0.hok.kept hk, ?_⟩
  · exact name_of_addr x.apart (PySem.mem_of_lookup h1) (PySem.mem_of_lookup h2)
  · have hy : scope.names.lookup y = some .cell \/ scope.names.lookup y = some .free := hy
    rcases hy with hy | hy
    · exact Jg hy
    · exact absurd rfl (S.nofree _ (PySem.mem_of_lookup hy))
  · exact Nat.le_of_lt (x.above y c (PySem.mem_of_lookup h))
  · have hi : i < vs.length := by
      unfold zZ at h2
      by_cases hi : i < vs.length
      · exact hi
      · rw [List.getElem?_append_right (by simpa using hi)] at h2
        rw [List.getElem?_replicate] at h2
        split at h2 <;> cases h2
    have ha : vs[i]? = some v := by
      unfold zZ at h2
      rw [List.getElem?_append_left (by simpa using hi), List.getElem?_map] at h2
      cases e : vs[i]? with
      | none => rw [e] at h2; cases h2
      | some a => rw [e] at h2; cases h2; rfl
    obtain ⟨u, hu, rv⟩ := r.get ha
    have hp : ps[i]? = some y := by
      rw [<- S.pre, List.getElem?_take_of_lt (by omega)]; exact h1
    have ndP : ps.Nodup := by rw [<- S.pre]; exact S.nd.sublist (List.take_sublist _ _)
    refine ⟨u, rv, ?_⟩
    rcases S.par y (List.mem_of_getElem? hp) with k | k
    · exact .inl ⟨k, wB ndP hp hu k⟩
    · obtain ⟨c, e⟩ := Jg (n := s.heap.objs.size + 1) k
      refine .inr ⟨.inl k, c, e, ?_⟩
      have q := x.cell y c e
      rw [Zh ndP hp hu (by show scope.names.lookup y ≠ _; rw [k]; decide)] at q
      exact q
  · exact e0.hok.fresh (Nat.le_of_lt (x.above y c (PySem.mem_of_lookup h)))
  · unfold zZ
    show _ = N.length
    rw [List.length_append, List.length_map, List.length_replicate]
    omega
theorem Hn {CX : CXT} {P : Program} {w : World} {K : PySem.W.Frag} {mg : Str -> Option Value} {base : Heap} {k : Nat} {f : Addr} {name qual : Str} {params : Arguments} {body : List Stmt} {scope : Scope} {dV kV doc pm cdv ct oc : Value} {an od : Option Addr}
  {osl : Array (Option Value)} {N ps : List Str} {sp : Sp} (lk : K.lookup f = some ⟨oc, od, .func (PySem.W.fnOf name qual params body scope dV kV doc pm an cdv ct), osl⟩) (hcd : PySem.W.codeIn K cdv qual = true) (S : zo N ps scope)
  (len : ∀ vs H Q E, sp vs H Q E -> vs.length = ps.length)
  (hbody : ∀ (A : Around) (outer : List Env) (s : Shared) (H : Hp) (vs : List V) (Q : VK) (E : XK), qK k (A.deeper (envOfC qual scope s.heap.objs.size f cdv)) -> sp vs H Q E ->
   ∃ t, PSs (wx CX P w K mg base N qual scope f cdv A outer s H E) body t /\ t { nx := fun _ H' => Q .non H', rt := Q } (zZ N vs) H) :
  jE P w K mg base CX (k + 1) f (PySem.W.fnOf name qual params body scope dV kV doc pm an cdv ct) ps sp := by
 refine ⟨len, fun A outer s H args us vs Q E hr e0 hb r hsp => ?_⟩
 have hl := len _ _ _ _ hsp
 have KX : K.In s.heap := e0.mod.kin.keeps fun b o e => (e0.bs b o e).1
 have lim : s.heap.NoLimit := e0.mod.nolimit.keeps fun b o e => (e0.bs b o e).1
 have hkind : ∀ y ∈ ps.zip us, scope.names.lookup y.1 = some .local \/ (scope.names.lookup y.1 = some .cell /\ ((cellsFrom (s.heap.objs.size + 1) scope.names []).lookup y.1).isSome = true) := fun ⟨n, v⟩ hy => by
  rcases S.par n (List.of_mem_zip hy).1 with q | q
  ·exact .inl q
  ·exact .inr ⟨q, PySem.W.cellsFrom_some _ _ _ (.inl q)⟩
 refine codeAny_call_function hr.depth (KX _ _ lk) rfl S.co S.gen rfl (PySem.W.codeRec_of KX hcd) (hb _ _ _ _ ?_)
 refine wpAny_newFunctionEnv_cells S.kind hkind fun env he s1 x => ?_
 subst he
 refine ⟨lim.keeps x.toInCall.keep, codeAny_func ?_⟩
 obtain ⟨t, ht, hq⟩ := hbody A outer s H vs Q E (hr.deeper _) hsp
 have I : Inv (wx CX P w K mg base N qual scope f cdv A outer s H E) [] (zZ N vs) H s1 := Yw S hr.hd e0 hl r x
 refine wpAny_mono (ht [] s1 (zZ N vs) H _ I hq) (fun fl s' hs => ?_) fun e s' hs => hs
 have fin : ∀ {σ' : St} {H' : Hp} {v : V} {u : Value}, Inv (wx CX P w K mg base N qual scope f cdv A outer s H E) [] σ' H' s' -> zE v u -> Q v H' -> CE outer P w H s Q u s' :=
  fun {σ' H' v u} J rv q => ⟨v, H', J.os, J.bare, J.base, J.hok, rv, q⟩
 cases fl with
 | ret u =>
  obtain ⟨v, σ', H', J, rv, q⟩ := hs
  exact fin J rv q
 | next =>
  obtain ⟨σ', H', J, q⟩ := hs
  exact fin (v := V.non) (u := Value.none) J rfl q
 | brk =>
  obtain ⟨_, _, _, q⟩ := hs
  exact False.elim q
 | cont =>
  obtain ⟨_, _, _, q⟩ := hs
  exact False.elim q
end L2
namespace L2
open PySem PySem.Spec PyProof.Rows
section
variable {X : Cx} {x : Str} {p pos : Pos} {e : Expr} {es : List Expr} {t : TA} {id T : String} {r : List V -> Hp -> VK -> Prop}
noncomputable def tCB (r : List V -> Hp -> VK -> Prop) (t : TA) : TE := fun σ H Q => t σ H fun vs H1 => r vs H1 Q
theorem zr (hc : jb X (.builtin id) r) (hg : Gl X x) (hm : X.mg x = none) (hv : bootBuiltins x = some (.builtin id)) (ha : PA X (e :: es) t) (hn : x ≠ "__name__" := by decide) (hdb : (x == ("__debug__" : Str)) = false := by decide)
  (he : starEach (e :: es) X.env = (false, eval e X.env) :: starEach es X.env := by rfl) (hpl : (backTo pos (starEach es X.env)).any (·.1) = false := by rfl) : PE X (.Call (.Name x p) (e :: es) [] pos) (tCB r t) := by
 intro pins s σ H Q I h
 refine wpAny_Call_Name_kw (kX I hg hm hv ?_ hn hdb)
 exact PyProof.Rows.callWith_builtin1 (thn (ha pos pins s σ H _ I h) fun us s1 ⟨vs, H1, I1, r1, q1⟩ => hc pins s1 σ H1 vs us Q I1 r1 q1) he hpl
theorem qt (hc : jb X (.type T) r) (hg : Gl X x) (hm : X.mg x = none) (hv : bootBuiltins x = some (.type T)) (ha : PA X (e :: es) t) (hn : x ≠ "__name__" := by decide) (hdb : (x == ("__debug__" : Str)) = false := by decide)
  (he : starEach (e :: es) X.env = (false, eval e X.env) :: starEach es X.env := by rfl) (hpl : (backTo pos (starEach es X.env)).any (·.1) = false := by rfl) : PE X (.Call (.Name x p) (e :: es) [] pos) (tCB r t) := by
 intro pins s σ H Q I h
 refine wpAny_Call_Name_kw (kX I hg hm hv ?_ hn hdb)
 exact PyProof.Rows.callWith_type1 (thn (ha pos pins s σ H _ I h) fun us s1 ⟨vs, H1, I1, r1, q1⟩ => hc pins s1 σ H1 vs us Q I1 r1 q1) he hpl
end
end L2
namespace HT
open PySem PyProof.Rows
section
open PySem.SeqAt
open PySem.AutoSeq1 (wpAny_loadPart')
open PySem.MeetsSeq PySem.MeetsSeq2 PySem.MeetsSeq3
end
section
variable {prog : Program} {w : World} {A : Around} {E : Value -> Shared -> Prop} {s : Shared}
noncomputable def sIx (n d : Nat) : Option Int -> Nat
 | none => d
 | some v => if v < 0 then (v + (n : Int)).toNat else min v.toNat n
theorem sIx_none (n d : Nat) : sIx n d none = d := rfl
theorem sIx_nat (n d k : Nat) : sIx n d (some (k : Int)) = min k n := by
 show (if (k : Int) < 0 then ((k : Int) + (n : Int)).toNat else min (k : Int).toNat n) = min k n
 rw [if_neg (by omega), Int.toNat_natCast]
theorem Ew (n d : Nat) (hd : d <= n) (o : Option Int) : sIx n d o <= n := by
 cases o with
 | none => exact hd
 | some v =>
  show (if v < 0 then (v + (n : Int)).toNat else min v.toNat n) <= n
  by_cases hv : v < 0
  ·rw [if_pos hv]; omega
  ·rw [if_neg hv]; exact Nat.min_le_right _ _
theorem KM (v : Int) (n d : Nat) : (if v < 0 then max (v + (n : Int)) 0 else min v (n : Int)) = ((sIx n d (some v) : Nat) : Int) := by
 show (if v < 0 then max (v + (n : Int)) 0 else min v (n : Int)) = (((if v < 0 then (v + (n : Int)).toNat else min v.toNat n) : Nat) : Int)
 by_cases hv : v < 0
 ·simp only [if_pos hv]; omega
 ·simp only [if_neg hv]; omega
theorem J0 (lo hi : Option Int) (n : Nat) : Builtin.Slice.sliceAdjust lo hi 1 (n : Int) = (((sIx n 0 lo : Nat) : Int), ((sIx n n hi : Nat) : Int)) := by
 have h1 : ¬ ((1 : Int) < 0) := by omega
 unfold Builtin.Slice.sliceAdjust
 simp only [h1, if_false]
 refine Prod.ext ?_ ?_
 ·cases lo with
  | none => rfl
  | some v => exact KM v n 0
 ·cases hi with
  | none => rfl
  | some v => exact KM v n n
theorem Kc (i j : Nat) : Builtin.Slice.slicePlaces (i : Int) (j : Int) 1 = j - i := by
 unfold Builtin.Slice.slicePlaces
 have h1 : (1 : Int) > 0 := by omega
 simp only [h1, if_true, Int.ediv_one]
 split <;> omega
theorem vI {v : Value} {o : Option Int} {Q : Option Int -> Shared -> Prop} (p : IsPart v o) (h : Q o s) : wpAny (model prog w) A (Builtin.Slice.slicePartIndex v) Q E s := by
 cases p with
 | none => exact slicePart_none h
 | int i t => exact slicePart_int h
theorem yx {sl : Addr} {vl vu : Value} {lo hi : Option Int} {n : Nat} {Q : Int × Int × Nat -> Shared -> Prop} (hs : s.heap.IsSliceOf sl vl vu .none) (pl : IsPart vl lo) (pu : IsPart vu hi)
  (h : Q (((sIx n 0 lo : Nat) : Int), 1, sIx n n hi - sIx n 0 lo) s) : wpAny (model prog w) A (Builtin.Slice.sliceApplied (.ref sl) (pure (n : Int))) Q E s := by
 obtain ⟨os, hos, hcs, hds⟩ := id hs
 unfold Builtin.Slice.sliceApplied Builtin.Slice.sliceFields
 refine wpAny_bind (wpAny_bind (wpAny_field hos hds (x := vl) rfl (wpAny_bind (wpAny_field hos hds (x := vu) rfl (wpAny_bind (wpAny_field hos hds (x := .none) rfl (wpAny_pure ?_)))))))
 refine wpAny_bind (slicePart_none ?_)
 show wpAny _ _ (if ((1 : Int) == 0) = true then _ else _) _ _ s
 rw [if_neg (by decide)]
 refine wpAny_bind (vI pl (wpAny_bind (vI pu (wpAny_bind (wpAny_pure ?_)))))
 show wpAny _ _ (match Builtin.Slice.sliceAdjust lo hi 1 (n : Int) with | (lo, hi) => pure (lo, (1 : Int), Builtin.Slice.slicePlaces lo hi 1)) _ _ s
 rw [J0 lo hi n]
 show wpAny _ _ (pure (((sIx n 0 lo : Nat) : Int), (1 : Int), Builtin.Slice.slicePlaces ((sIx n 0 lo : Nat) : Int) ((sIx n n hi : Nat) : Int) 1)) _ _ s
 rw [Kc]
 exact wpAny_pure h
theorem Al (xs : Array Value) (i k : Nat) : ((List.range k).filterMap fun (m : Nat) => xs[((i : Int) + (m : Int) * 1).toNat]?).toArray = ((xs.toList.drop i).take k).toArray := by
 have e : (fun (m : Nat) => xs[((i : Int) + (m : Int) * 1).toNat]?) = fun m => xs[i + m]? := by
  funext m
  have : ((i : Int) + (m : Int) * 1).toNat = i + m := by omega
  rw [this]
 rw [e]
 have := pick_run xs i k
 rw [List.filterMap_map] at this
 have e2 : ((fun x => xs[x]?) ∘ fun x => i + x) = fun m => xs[i + m]? := rfl
 rw [e2] at this
 rw [this]
theorem getItem_tuple_cut {t sl : Addr} {items : Array Value} {vl vu : Value} {lo hi : Option Int} {Q : Value -> Shared -> Prop} (ht : IsTup s.heap t items) (hs : s.heap.IsSliceOf sl vl vu .none) (pl : IsPart vl lo) (pu : IsPart vu hi)
  (hw : ¬ (sIx items.size 0 lo = 0 /\ sIx items.size items.size hi = items.size))
  (h : Q (.ref s.heap.objs.size) { s with heap := s.heap.push { cls := .type "tuple", data := .seq ((items.toList.drop (sIx items.size 0 lo)).take (sIx items.size items.size hi - sIx items.size 0 lo)).toArray } })
  (hsz : items.size <= sizeLine) : wpAny (model prog w) A (getItem (.ref t) (.ref sl)) Q E s := by
 have htake : sizeOk (.seq ((items.toList.drop (sIx items.size 0 lo)).take (sIx items.size items.size hi - sIx items.size 0 lo)).toArray) := by
  show ((items.toList.drop (sIx items.size 0 lo)).take (sIx items.size items.size hi - sIx items.size 0 lo)).toArray.size <= sizeLine
  rw [List.size_toArray, List.length_take, List.length_drop, Array.length_toList]
  omega
 have hj : sIx items.size items.size hi <= items.size := Ew _ _ (Nat.le_refl _) hi
 obtain ⟨os, hos, hcs, hds⟩ := id hs
 have hTs : s.TypeIs (.ref sl) "slice" := ⟨os, hos, hcs⟩
 unfold getItem
 try with_reducible refine wpAny_holding ?_
 first | refine wpAny_bind (wpAny_pure ?_) | skip
 refine wpAny_bind (wpAny_sequenceKey ht.typeIs (by decide) ?_)
 refine wpAny_bind (wpAny_callSpecial?_slot (name := Str.ofString "__getitem__") ht.typeIs PyProof.Rows.slot_tuple_getitem
  (wpAny_call_entry PyProof.Rows.slot_tuple_getitem ht.typeIs entry_tuple_getitem ?_ (args_tuple_getitem _ _)))
 show wpAny _ _ (Builtin.Tuple.tupleItemsOf (.ref t) >>= _) _ _ s
 refine wpAny_bind (tupleItemsOf_ ht ?_)
 refine wpAny_bind (wpAny_typeOf hTs ?_)
 rw [if_pos (by decide)]
 refine wpAny_bind (yx hs pl pu ?_)
 have hno : ¬ ((((sIx items.size 0 lo : Nat) : Int) == 0 && (1 : Int) == 1 && (sIx items.size items.size hi - sIx items.size 0 lo) == items.size) = true) := by
  intro q
  rw [Bool.and_eq_true, Bool.and_eq_true] at q
  have q1 : ((sIx items.size 0 lo : Nat) : Int) = 0 := eq_of_beq q.1.1
  have q2 : sIx items.size items.size hi - sIx items.size 0 lo = items.size := eq_of_beq q.2
  exact hw ⟨by omega, by omega⟩
 show wpAny _ _ (if (((sIx items.size 0 lo : Nat) : Int) == 0 && (1 : Int) == 1 && (sIx items.size items.size hi - sIx items.size 0 lo) == items.size) = true then _ else _) _ _ s
 rw [if_neg hno, Al]
 first
  | exact wpAny_bind (m := Builtin.Tuple.tupleExact _) (wpAny_newObj_type (wpAny_pure ⟨_, rfl, wpAny_pure h⟩) htake)
  | exact wpAny_bind (m := Builtin.Tuple.tupleExact _) (wpAny_newObj_type (wpAny_bind (wpAny_pure (wpAny_pure ⟨_, rfl, wpAny_pure h⟩))) htake)
  | exact wpAny_bind (wpAny_bind (m := Builtin.Tuple.tupleExact _) (wpAny_newObj_type (wpAny_pure (wpAny_pure ⟨_, rfl, wpAny_pure h⟩)) htake))
  | exact wpAny_bind (wpAny_bind (m := Builtin.Tuple.tupleExact _) (wpAny_newObj_type (wpAny_pure ⟨_, rfl, wpAny_pure h⟩) htake))
end
end HT
namespace L2
open PySem PySem.Spec PyProof.Rows
noncomputable abbrev TO := St -> Hp -> (Option Int -> Hp -> Prop) -> Prop
noncomputable def PO (X : Cx) (e : Option Expr) (t : TO) : Prop :=
 ∀ (pins : List (Addr × Obj)) (s : Shared) (σ : St) (H : Hp) (Q : Option Int -> Hp -> Prop), Inv X pins σ H s -> t σ H Q ->
  wpAny (model X.prog X.w) X.A (evalPart e X.env) (fun u s' => ∃ o H', Inv X pins σ H' s' /\ IsPart u o /\ Q o H') X.xe s
noncomputable def ZG : TO := fun _ H Q => Q none H
noncomputable def Ax (t : TE) : TO := fun σ H Q => t σ H fun x H1 => ∃ i, x = .int i /\ Q (some i) H1
theorem Jk {ns : List Int} : ∀ {us : List Value}, zF (ns.map V.int) us -> IntsAre us ns := by
 induction ns with
 | nil => intro us r; rw [List.map_nil] at r; cases r; exact .nil
 | cons n ns ih =>
  intro us r
  rw [List.map_cons] at r
  cases r with
  | cons r1 r2 =>
   obtain ⟨t, e⟩ := r1
   subst e
   exact .cons n t (ih r2)
section
variable {X : Cx} {e : Expr} {te : TE} {lo hi : Option Expr} {tl th : TO} {pos p2 : Pos}
theorem y6 : PO X none ZG := by
 intro pins s σ H Q I h
 rw [evalPart_none]
 exact wpAny_pure ⟨none, H, I, .none, h⟩
theorem jW (h : PE X e te) : PO X (some e) (Ax te) := by
 intro pins s σ H Q I hw
 rw [evalPart_some]
 refine thn (h pins s σ H _ I hw) fun u s1 ⟨x, H1, I1, r1, q1⟩ => ?_
 obtain ⟨i, rfl, q⟩ := q1
 obtain ⟨t, rfl⟩ := r1
 exact ⟨some i, H1, I1, .int i t, q⟩
noncomputable def SlR (X : Cx) (r : V -> Option Int -> Option Int -> Hp -> VK -> Prop) : Prop :=
 ∀ (pins : List (Addr × Obj)) (s : Shared) (σ : St) (H : Hp) (x : V) (v vl vu : Value) (lo hi : Option Int) (sl : Addr) (Q : VK), Inv X pins σ H s -> zE x v -> s.heap.IsSliceOf sl vl vu .none -> IsPart vl lo -> IsPart vu hi -> r x lo hi H Q ->
  ∃ T id, typeLookup (.type T) "__getitem__" = pure (some (.builtin id)) /\ s.TypeIs v T /\ wpAny (model X.prog X.w) X.A (getItem v (.ref sl)) (EP X pins σ Q) X.xe s
noncomputable def tSl (r : V -> Option Int -> Option Int -> Hp -> VK -> Prop) (te : TE) (tl th : TO) : TE := fun σ H Q => te σ H fun x H1 => tl σ H1 fun l H2 => th σ H2 fun u H3 => r x l u H3 Q
theorem xW {r : V -> Option Int -> Option Int -> Hp -> VK -> Prop} (hr : SlR X r) (he : PE X e te) (hl : PO X lo tl) (hu : PO X hi th) : PE X (.Subscript e (.Slice lo hi none p2) pos) (tSl r te tl th) := by
 intro pins s σ H Q I h
 refine Subscript_ (thn (he pins s σ H _ I h) fun v s1 ⟨x, H1, I1, r1, q1⟩ => ?_)
 refine wpAny_Slice (thn (hl pins s1 σ H1 _ I1 q1) fun vl s2 ⟨l, H2, I2, pl, q2⟩ => thn (hu pins s2 σ H2 _ I2 q2) fun vu s3 ⟨u, H3, I3, pu, q3⟩ => ?_)
 rw [evalPart_none]
 refine wpAny_pure ?_
 have I4 : Inv X pins σ H3 { s3 with heap := s3.heap.push { cls := .type "slice", data := .fields #[vl, vu, .none] } } := I3.kept (t' := s3.toks) fun b ob q => Heap.get?_push_of_some _ q
 obtain ⟨T, id, hT, ht, hg⟩ := hr pins { s3 with heap := s3.heap.push { cls := .type "slice", data := .fields #[vl, vu, .none] } } σ H3 x v vl vu l u s3.heap.objs.size Q I4 r1 (Heap.IsSliceOf.new ..) pl pu q3
 show wpAny (model X.prog X.w) X.A (subscriptTail e (.Slice lo hi none p2) v (.ref s3.heap.objs.size)) (EP X pins σ Q) X.xe { s3 with heap := s3.heap.push { cls := .type "slice", data := .fields #[vl, vu, .none] } }
 exact tail_any (ops := [.ref s3.heap.objs.size, v]) ht hT hg (by with_unfolding_all rfl)
noncomputable def vt (xs : List V) (lo hi : Option Int) : List V := (xs.drop (HT.sIx xs.length 0 lo)).take (HT.sIx xs.length xs.length hi - HT.sIx xs.length 0 lo)
theorem yE (xs : List V) (lo hi : Option Int) : (vt xs lo hi).length <= xs.length := by
 unfold vt
 rw [List.length_take, List.length_drop]
 omega
noncomputable def Hf (K : PySem.W.Frag) : V -> Option Int -> Option Int -> Hp -> VK -> Prop := fun x lo hi H Q => ∃ a xs, x = .ref a /\ SqT K H a xs /\
 ¬ (HT.sIx xs.length 0 lo = 0 /\ HT.sIx xs.length xs.length hi = xs.length) /\ ∀ p, H p = none -> Q (.ref p) (upd H p (.tup (vt xs lo hi)))
theorem F4 : SlR X (Hf X.K) := by
 intro pins s σ H x v vl vu lo hi sl Q I rx hs pl pu h
 obtain ⟨a, xs, rfl, hx, hw, q⟩ := h
 cases rx
 obtain ⟨its, r, ht, hz⟩ := I.tuple hx
 have hlen : its.toArray.size = xs.length := by rw [List.size_toArray]; exact r.length.symm
 refine ⟨"tuple", _, PyProof.Rows.slot_tuple_getitem.lookup, ht.typeIs, ?_⟩
 refine HT.getItem_tuple_cut ht hs pl pu (by rw [hlen]; exact hw) ?_ (by rw [hlen]; exact hz)
 rw [hlen]
 refine ⟨.ref s.heap.objs.size, _, I.laid (t' := s.toks) (o := .tup (vt xs lo hi)) (fun b ob q => Heap.get?_push_of_some _ q) (Nat.le_refl _) ?_, rfl, q _ (I.hok.fresh (Nat.le_refl _))⟩
 exact ⟨Nat.le_trans (yE xs lo hi) hz, _, (r.drop (HT.sIx xs.length 0 lo)).take (HT.sIx xs.length xs.length hi - HT.sIx xs.length 0 lo), Zs.new _ _⟩
end
end L2
namespace L2
open PySem PySem.Spec PyProof.Rows
noncomputable def ixN (n : Nat) (i : Int) : Option Nat := if 0 <= i then (if i < n then some i.toNat else none) else if -(n : Int) <= i then some (i + n).toNat else none
noncomputable def atI {α : Type} (xs : List α) (i : Int) : Option α := (ixN xs.length i).bind fun j => xs[j]?
theorem K3 {n : Nat} {i : Int} {j : Nat} (h : ixN n i = some j) : seqIndex? i n = some j /\ j < n /\ -(n : Int) <= i /\ i < n := by
 unfold ixN at h
 by_cases h0 : 0 <= i
 ·rw [if_pos h0] at h
  by_cases h1 : i < n
  ·rw [if_pos h1] at h
   have e : i.toNat = j := Option.some.inj h
   exact ⟨by rw [seqIndex_of h0 h1, e], by omega, by omega, h1⟩
  ·rw [if_neg h1] at h; cases h
 ·rw [if_neg h0] at h
  by_cases h1 : -(n : Int) <= i
  ·rw [if_pos h1] at h
   have e : (i + n).toNat = j := Option.some.inj h
   exact ⟨by rw [seqIndex_neg (by omega) h1, e], by omega, h1, by omega⟩
  ·rw [if_neg h1] at h; cases h
theorem Z3 {α : Type} {xs : List α} {i : Int} {v : α} (h : atI xs i = some v) : ∃ j, seqIndex? i xs.length = some j /\ xs[j]? = some v /\ j < xs.length /\ -(xs.length : Int) <= i /\ i < xs.length := by
 unfold atI at h
 cases e : ixN xs.length i with
 | none => rw [e] at h; cases h
 | some j =>
  rw [e] at h
  obtain ⟨h1, h2, h3, h4⟩ := K3 e
  exact ⟨j, h1, h, h2, h3, h4⟩
theorem A3 {α : Type} {xs : List α} {j : Nat} {v : α} (h : xs[j]? = some v) : atI xs (j : Int) = some v := by
 have hj : j < xs.length := (List.getElem?_eq_some_iff.mp h).1
 have e : ixN xs.length (j : Int) = some j := by
  unfold ixN
  rw [if_pos (by omega), if_pos (by omega)]; simp
 unfold atI; rw [e]; exact h
noncomputable def Bs (b : Expr) : Prop := ∀ o i, subscripted b false o i = operate [o, i] (getItem o i)
noncomputable def IxR (X : Cx) (r : R2) : Prop :=
 ∀ (value slice : Expr) (pins : List (Addr × Obj)) (s : Shared) (σ : St) (H : Hp) (x y : V) (v u : Value) (Q : VK), Inv X pins σ H s -> zE x v -> zE y u -> r x y H Q ->
  subscripted slice false v u = operate [v, u] (getItem v u) -> wpAny (model X.prog X.w) X.A (subscriptTail value slice v u) (EP X pins σ Q) X.xe s
noncomputable def MtR (X : Cx) (id : String) (r : V -> List V -> Hp -> VK -> Prop) : Prop :=
 ∀ (pins : List (Addr × Obj)) (s : Shared) (σ : St) (H : Hp) (x : V) (xs : List V) (v : Value) (us : List Value) (Q : VK), Inv X pins σ H s -> zE x v -> zF xs us -> r x xs H Q ->
  wpAny (model X.prog X.w) X.A (call (.builtin id) (v :: us)) (EP X pins σ Q) X.xe s
section
variable {X : Cx} {a b : Expr} {ta tb : TE} {pos : Pos}
theorem zO {r : R2} (hr : IxR X r) (ha : PE X a ta) (hb : PE X b tb) (hs : Bs b) : PE X (.Subscript a b pos) (tOp r ta tb) := by
 intro pins s σ H Q I h
 exact Subscript_ (EZ ha hb I h fun v u s2 x y H2 I2 rx ry q => hr a b pins s2 σ H2 x y v u Q I2 rx ry q (hs _ _))
noncomputable def EG (K : PySem.W.Frag) : R2 := fun x y H Q => ∃ p xs i v, x = .ref p /\ y = .int i /\ SqL K H p xs /\ atI xs i = some v /\ Q v H
noncomputable def Hd (K : PySem.W.Frag) : R2 := fun x y H Q => ∃ p xs i v, x = .ref p /\ y = .int i /\ SqT K H p xs /\ atI xs i = some v /\ Q v H
theorem qa : IxR X (EG X.K) := by
  intro value slice pins s σ H x y v u Q I rx ry h hs
  obtain ⟨p, xs, i, z, rfl, rfl, hq, he, q⟩ := h
  cases rx
  obtain ⟨t, rfl⟩ := ry
  obtain ⟨its, r, pl, hz⟩ := I.list hq
  obtain ⟨j, h1, h2, h3, h4, h5⟩ := Z3 he
  obtain ⟨w, ew, rw'⟩ := r.get h2
  have hl := r.length
  have hn := vv
  have fin : EP X pins σ Q w s := ⟨z, H, I, rw', q⟩
  by_cases h0 : 0 <= i
  · have hj : i.toNat = j := by
      rw [seqIndex_of h0 h5] at h1
      exact Option.some.inj h1
    exact item_listR pl.isList h0 (by omega) (by rw [hj]; simpa using ew) fin hs
  · have hj : (i + (its.toArray.size : Int)).toNat = j := by
      rw [seqIndex_neg (by omega) h4] at h1
      rw [List.size_toArray, <- hl]
      exact Option.some.inj h1
    exact subscriptTail_builtinR (x := w) pl.isList.typeIs slot_list_getitem.lookup
      (wpAny_getItem_list_neg (Q := fun r s' => r = w /\ EP X pins σ Q r s') pl.isList (by omega) (by rw [List.size_toArray] <;> omega) (by omega) (by rw [hj]; simpa using ew) ⟨rfl, fin⟩) hs
theorem jX : IxR X (Hd X.K) := by
 intro value slice pins s σ H x y v u Q I rx ry h hs
 obtain ⟨p, xs, i, z, rfl, rfl, hq, he, q⟩ := h
 cases rx
 obtain ⟨t, rfl⟩ := ry
 obtain ⟨its, r, pl, hz⟩ := I.tuple hq
 obtain ⟨j, h1, h2, h3, h4, h5⟩ := Z3 he
 obtain ⟨w, ew, rw'⟩ := r.get h2
 have hl := r.length
 have hn := vv
 have fin : EP X pins σ Q w s := ⟨z, H, I, rw', q⟩
 exact subscriptTail_builtinR (x := w) pl.typeIs slot_tuple_getitem.lookup
  (getItem_tuple (j := j) (Q := fun r s' => r = w /\ EP X pins σ Q r s') pl (by omega) (by omega) (by rw [List.size_toArray, <- hl]; exact h1) (by simpa using ew) ⟨rfl, fin⟩) hs
theorem J7 (its : List Value) (n j : Nat) (u : Value) : Obj.mapSeq (·.setIfInBounds j u) { cls := .type "list", data := .seq its.toArray n } = { cls := .type "list", data := .seq (its.set j u).toArray n } := by
 simp [Obj.mapSeq]
theorem Inv.lst {pins : List (Addr × Obj)} {σ : St} {H : Hp} {s : Shared} {p : Addr} {xs : List V} (I : Inv X pins σ H s) (h : H p = some (.lst xs)) :
  ∃ (its : List Value) (n : Nat), zF xs its /\ s.heap.get? p = some { cls := .type "list", data := .seq its.toArray n } /\ xs.length <= sizeLine := by
 obtain ⟨z, its, n, r, e⟩ := I.hok p _ h
 exact ⟨its, n, r, e, z⟩
theorem Inv.lstUpd {pins : List (Addr × Obj)} {σ : St} {H : Hp} {s : Shared} {p : Addr} {xs ys : List V} {its its' : List Value} {n n' : Nat} {f : Obj -> Obj} (I : Inv X pins σ H s) (h : H p = some (.lst xs))
  (ho : s.heap.get? p = some { cls := .type "list", data := .seq its.toArray n }) (hf : f { cls := .type "list", data := .seq its.toArray n } = { cls := .type "list", data := .seq its'.toArray n' }) (r : zF ys its') (hz : ys.length <= sizeLine) (t : Nat) :
  Inv X pins σ (upd H p (.lst ys)) { s with heap := s.heap.update p f, toks := t } := by
 have e : (s.heap.update p f).get? p = some { cls := .type "list", data := .seq its'.toArray n' } := by
  rw [Heap.get?_update_self f ho (by rw [hf] <;> rfl), hf]
 refine I.write (x := p) (e := p) (by rw [h]; trivial) (.inl rfl) (fun b u hb q => (Heap.get?_update_other _ _ (Ne.symm hb)).trans q) ⟨_, e⟩ ?_
 exact ⟨hz, its', n', r, e⟩
noncomputable def DS : V -> V -> V -> Hp -> (Hp -> Prop) -> Prop := fun o i v H Q => ∃ p xs k j, o = .ref p /\ i = .int k /\ H p = some (.lst xs) /\ ixN xs.length k = some j /\ Q (upd H p (.lst (xs.set j v)))
theorem Af : A4 X DS := by
  intro pins s σ H o i v ov iv u Q I ro ri rv h
  obtain ⟨p, xs, k, j, rfl, rfl, hp, hj, q⟩ := h
  cases ro
  obtain ⟨t, rfl⟩ := ri
  obtain ⟨its, n, r, ho, hz⟩ := I.lst hp
  obtain ⟨h1, h2, h3, h4⟩ := K3 hj
  have hl := r.length
  have hn := vv
  have I' : Inv X pins σ (upd H p (.lst (xs.set j v))) { s with heap := s.heap.update p (Obj.mapSeq (·.setIfInBounds j u)) } :=
    I.lstUpd hp ho (J7 its n j u) (r.set rv j) (by rw [List.length_set]; exact hz) s.toks
  by_cases h0 : 0 <= k
  · have hk : k.toNat = j := by
      rw [seqIndex_of h0 h4] at h1
      exact Option.some.inj h1
    exact PySem.W.ki_setAt ho h0 (by omega) (by rw [List.size_toArray, <- hl]; exact h4) (by rw [hk]; exact ⟨_, I', q⟩)
  · have hk : (k + (its.toArray.size : Int)).toNat = j := by
      rw [seqIndex_neg (by omega) h3] at h1
      rw [List.size_toArray, <- hl]
      exact Option.some.inj h1
    exact PySem.W.ki_setBack ho (by omega) (by rw [List.size_toArray, <- hl]; exact h3) (by omega) (by rw [hk]; exact ⟨_, I', q⟩)
theorem ZP (lo hi : Option Int) (n : Nat) : (sliceBounds lo hi none n).1 = ((HT.sIx n 0 lo : Nat) : Int) /\ (sliceBounds lo hi none n).2.1 = ((HT.sIx n n hi : Nat) : Int) /\ (sliceBounds lo hi none n).2.2 = 1 := by
 refine ⟨?_, ?_, rfl⟩
 ·cases lo with
  | none => simp [sliceBounds, HT.sIx]
  | some i =>
   simp only [sliceBounds, HT.sIx, Option.getD_none, show (1 : Int) > 0 by decide, if_true]
   by_cases h : i < 0
   ·simp only [h, if_true] <;> omega
   ·simp only [h, if_false] <;> omega
 ·cases hi with
  | none => simp [sliceBounds, HT.sIx]
  | some i =>
   simp only [sliceBounds, HT.sIx, Option.getD_none, show (1 : Int) > 0 by decide, if_true]
   by_cases h : i < 0
   ·simp only [h, if_true] <;> omega
   ·simp only [h, if_false] <;> omega
theorem wu (its : List Value) (lo hi : Option Int) : slicePick its.toArray lo hi none = ((its.drop (HT.sIx its.length 0 lo)).take (HT.sIx its.length its.length hi - HT.sIx its.length 0 lo)).toArray := by
 obtain ⟨h1, h2, h3⟩ := ZP lo hi its.toArray.size
 unfold slicePick
 rw [h1, h2, h3]
 simp only [sliceRange_one, pick_run, List.size_toArray] <;> rfl
noncomputable def A7 (K : PySem.W.Frag) : V -> Option Int -> Option Int -> Hp -> VK -> Prop := fun x lo hi H Q => ∃ a xs, x = .ref a /\ SqL K H a xs /\ ∀ p, H p = none -> Q (.ref p) (upd H p (.lst (vt xs lo hi)))
theorem Zv : SlR X (A7 X.K) := by
 intro pins s σ H x v vl vu lo hi sl Q I rx hs pl pu h
 obtain ⟨a, xs, rfl, hx, q⟩ := h
 cases rx
 obtain ⟨its, r, ht, hz⟩ := I.list hx
 have hlen := r.length
 refine ⟨"list", _, slot_list_getitem.lookup, ht.isList.typeIs, ?_⟩
 refine wpAny_getItem_list_slice ht.isList hs pl pu .none (by simp) ?_ (by rw [List.size_toArray] <;> omega)
 rw [wu, <- hlen]
 refine ⟨.ref s.heap.objs.size, _, I.laid (t' := s.toks) (o := .lst (vt xs lo hi)) (fun b ob q => Heap.get?_push_of_some _ q) (Nat.le_refl _) ?_, rfl, q _ (I.hok.fresh (Nat.le_refl _))⟩
 exact ⟨Nat.le_trans (yE xs lo hi) hz, _, 0, (r.drop (HT.sIx xs.length 0 lo)).take (HT.sIx xs.length xs.length hi - HT.sIx xs.length 0 lo), Heap.get?_push_size _ rfl⟩
noncomputable def xF : V -> Bool
 | .non => true
 | .bl _ => true
 | .int _ => true
 | .str _ => true
 | _ => false
noncomputable def eqV : V -> V -> Bool
 | .non, .non => true
 | .bl a, .bl b => a == b
 | .bl a, .int b => (if a then 1 else 0) == b
 | .int a, .bl b => a == (if b then 1 else 0)
 | .int a, .int b => a == b
 | .str a, .str b => a == b
 | _, _ => false
theorem GE {A : Around} {s : Shared} {y x : V} {u v : Value} (ry : zE y u) (rx : zE x v) (fy : xF y = true) (fx : xF x = true) : SeqAt.EqAt A s u v (eqV y x) := by
 cases y with
 | non =>
  cases ry
  cases x with
  | non => cases rx; exact SeqAt.EqAt.same _
  | bl b => cases rx; exact SeqAt.EqAt.none_bool b
  | int b => obtain ⟨t, rfl⟩ := rx; exact SeqAt.EqAt.none_int b t
  | str b => obtain ⟨t, rfl⟩ := rx; exact SeqAt.EqAt.none_str b t
  | _ => exact absurd (show false = true from fx) Bool.false_ne_true
 | bl a =>
  cases ry
  cases x with
  | non => cases rx; exact SeqAt.EqAt.bool_none a
  | bl b => cases rx; exact SeqAt.EqAt.bool_bool a b
  | int b => obtain ⟨t, rfl⟩ := rx; exact SeqAt.EqAt.bool_int a b t
  | str b => obtain ⟨t, rfl⟩ := rx; exact SeqAt.EqAt.bool_str a b t
  | _ => exact absurd (show false = true from fx) Bool.false_ne_true
 | int a =>
  obtain ⟨t', rfl⟩ := ry
  cases x with
  | non => cases rx; exact SeqAt.EqAt.int_none a t'
  | bl b => cases rx; exact SeqAt.EqAt.int_bool a t' b
  | int b => obtain ⟨t, rfl⟩ := rx; exact SeqAt.EqAt.int_int a t' b t
  | str b => obtain ⟨t, rfl⟩ := rx; exact SeqAt.EqAt.int_str a t' b t
  | _ => exact absurd (show false = true from fx) Bool.false_ne_true
 | str a =>
  obtain ⟨t', rfl⟩ := ry
  cases x with
  | non => cases rx; exact SeqAt.EqAt.str_none a t'
  | bl b => cases rx; exact SeqAt.EqAt.str_bool a t' b
  | int b => obtain ⟨t, rfl⟩ := rx; exact SeqAt.EqAt.str_int a t' b t
  | str b => obtain ⟨t, rfl⟩ := rx; exact SeqAt.EqAt.str_str a t' b t
  | _ => exact absurd (show false = true from fx) Bool.false_ne_true
 | _ => exact absurd (show false = true from fy) Bool.false_ne_true
noncomputable def eqU (x : V) (u : Value) : Bool := match u with
 | .none => eqV .non x
 | .bool b => eqV (.bl b) x
 | .int i _ => eqV (.int i) x
 | .str z _ => eqV (.str z) x
 | _ => false
theorem Av {x y : V} {u : Value} (r : zE y u) (f : xF y = true) : eqU x u = eqV y x := by
 cases y with
 | non => cases r; rfl
 | bl b => cases r; rfl
 | int i => obtain ⟨t, rfl⟩ := r; rfl
 | str z => obtain ⟨t, rfl⟩ := r; rfl
 | _ => exact absurd (show false = true from f) Bool.false_ne_true
theorem ZO {x : V} : ∀ {xs : List V} {us : List Value}, zF xs us -> xs.all xF = true -> us.any (eqU x) = xs.any fun y => eqV y x
 | _, _, .nil, _ => rfl
 | y :: xs, u :: us, .cons r t, f => by
  rw [List.all_cons, Bool.and_eq_true] at f
  rw [List.any_cons, List.any_cons, Av r f.1, ZO t f.2]
theorem v8 {A : Around} {s : Shared} {x : V} {v : Value} (rx : zE x v) (fx : xF x = true) : ∀ {xs : List V} {us : List Value}, zF xs us -> xs.all xF = true -> ∀ u ∈ us, SeqAt.EqAt A s u v (eqU x u)
 | _, _, .nil, _ => fun u hu => by cases hu
 | y :: xs, u :: us, .cons r t, f => fun u' hu => by
  rw [List.all_cons, Bool.and_eq_true] at f
  rcases List.mem_cons.mp hu with rfl | hu
  ·rw [Av r f.1]; exact GE r rx f.1 fx
  ·exact v8 rx fx t f.2 u' hu
noncomputable def inV (x : V) (xs : List V) : Bool := xs.any fun y => eqV y x
noncomputable def rIn (K : PySem.W.Frag) (neg : Bool) : R2 := fun x y H Q => ∃ p xs, y = .ref p /\ (SqL K H p xs \/ SqT K H p xs) /\ xF x = true /\ xs.all xF = true /\ Q (.bl (if neg then !inV x xs else inV x xs)) H
theorem ZY : OpR X (compareOp .NotIn) (rIn X.K true) := by
 intro pins s σ H x y v u Q I rx ry h
 obtain ⟨p, xs, rfl, hq, fx, fs, q⟩ := h
 cases ry
 rcases hq with hq | hq
 ·obtain ⟨its, r, pl, hz⟩ := I.list hq
  refine SeqAt.notIn_listAt (eqU x) pl.isList (fun w hw => v8 rx fx r fs w (by simpa using hw)) ⟨.bl _, H, I, rfl, ?_⟩
  rw [show its.toArray.any (eqU x) = its.any (eqU x) by simp, ZO r fs]
  exact q
 ·obtain ⟨its, r, pl, hz⟩ := I.tuple hq
  refine SeqAt.notIn_tupleAt (eqU x) pl (fun w hw => v8 rx fx r fs w (by simpa using hw)) ⟨.bl _, H, I, rfl, ?_⟩
  rw [show its.toArray.any (eqU x) = its.any (eqU x) by simp, ZO r fs]
  exact q
theorem zw : jb X (.builtin "len") (fun xs H Q => ∃ p ys, xs = [.ref p] /\ (SqL X.K H p ys \/ SqT X.K H p ys) /\ Q (.int ys.length) H) := by
 intro pins s σ H xs us Q I r h
 obtain ⟨p, ys, rfl, hq, q⟩ := h
 obtain ⟨u, rfl, rx⟩ := kj r
 cases rx
 have hn := vv
 rcases hq with hq | hq
 ·obtain ⟨its, r', pl, hz⟩ := I.list hq
  have hlen := r'.length
  exact Calls.call_len_list pl.isList (by simp only [List.size_toArray] <;> omega) ⟨.int ys.length, H, I.tok _, ⟨s.toks + 1, by rw [List.size_toArray, hlen]⟩, q⟩
 ·obtain ⟨its, r', pl, hz⟩ := I.tuple hq
  have hlen := r'.length
  exact len_tuple pl (by simp only [List.size_toArray] <;> omega) ⟨.int ys.length, H, I.tok _, ⟨s.toks + 1, by rw [List.size_toArray, hlen]⟩, q⟩
theorem xS : jb X (.type "list") (fun xs H Q => ∃ p ys, xs = [.ref p] /\ (SqL X.K H p ys \/ SqT X.K H p ys) /\ ∀ l, H l = none -> Q (.ref l) (upd H l (.lst ys))) := by
 intro pins s σ H xs us Q I r h
 obtain ⟨p, ys, rfl, hq, q⟩ := h
 obtain ⟨u, rfl, rx⟩ := kj r
 cases rx
 have fin : ∀ (its : List Value), zF ys its -> ys.length <= sizeLine -> ∀ (h' : Heap) (c' : Nat), (∀ b o', s.heap.get? b = some o' -> h'.get? b = some o') ->
   h'.get? s.heap.objs.size = some { cls := .type "list", dict := none, data := .seq its.toArray c', slots := #[] } -> EP X pins σ Q (.ref s.heap.objs.size) { s with heap := h' } := fun its r' hz h' c' kp e =>
  ⟨.ref s.heap.objs.size, _, I.laid (t' := s.toks) kp (Nat.le_refl _) (show qb X.prog X.w _ h' _ (.lst ys) from ⟨hz, its, c', r', e⟩), rfl, q _ (I.hok.fresh (Nat.le_refl _))⟩
 rcases hq with hq | hq
 ·obtain ⟨its, r', pl, hz⟩ := I.list hq
  have hlen := r'.length
  obtain ⟨o, ho, hc, n, hd⟩ := pl.isList
  exact call_list_seq p (.inl rfl) ho hc hd (fun h' c' kp e => fin its r' hz h' c' kp e) (by simp only [List.size_toArray] <;> omega)
 ·obtain ⟨its, r', pl, hz⟩ := I.tuple hq
  have hlen := r'.length
  obtain ⟨o, ho, hc, n, hd⟩ := pl
  exact call_list_seq p (.inr rfl) ho hc hd (fun h' c' kp e => fin its r' hz h' c' kp e) (by simp only [List.size_toArray] <;> omega)
theorem jL : jb X (.type "tuple") (fun xs H Q => ∃ p ys, xs = [.ref p] /\ ((SqL X.K H p ys /\ ∀ l, H l = none -> Q (.ref l) (upd H l (.tup ys))) \/ (SqT X.K H p ys /\ Q (.ref p) H))) := by
 intro pins s σ H xs us Q I r h
 obtain ⟨p, ys, rfl, h⟩ := h
 obtain ⟨u, rfl, rx⟩ := kj r
 cases rx
 rcases h with ⟨hq, q⟩ | ⟨hq, q⟩
 ·obtain ⟨its, r', pl, hz⟩ := I.list hq
  have hlen := r'.length
  refine call_tuple_list pl.isList (fun h' kp => ?_) (by simp only [List.size_toArray] <;> omega)
  have I1 : Inv X pins σ H { s with heap := h' } := I.kept (t' := s.toks) kp
  have I2 : Inv X pins σ (upd H h'.objs.size (.tup ys)) { s with heap := h'.push { cls := .type "tuple", data := .seq its.toArray } } :=
   I1.laid (t' := s.toks) (fun b o e => Heap.get?_push_of_some _ e) (Nat.le_refl _) (show qb X.prog X.w _ _ _ (.tup ys) from ⟨hz, its, r', Zs.new _ _⟩)
  exact ⟨.ref h'.objs.size, _, I2, rfl, q _ (I1.hok.fresh (Nat.le_refl _))⟩
 ·obtain ⟨its, r', pl, hz⟩ := I.tuple hq
  exact call_tuple_same pl ⟨.ref p, H, I, rfl, q⟩
noncomputable def tyV (K : PySem.W.Frag) (T : String) (x : V) (H : Hp) : Prop := match x with
  | .str _ => T = "str"
  | .int _ => T = "int"
  | .ref p => (T = "list" /\ ∃ xs, SqL K H p xs) \/ (T = "tuple" /\ ((∃ xs, Rd H p (.tup xs)) \/ ∃ o, K.lookup p = some o /\ o.cls = .type "tuple" /\ o.dict = none)) \/
      (T = "dict" /\ ((∃ kvs, H p = some (.dK kvs)) \/ ∃ kvs, H p = some (.dT kvs))) \/ (T = "set" /\ ∃ S n, H p = some (.set S n))
  | _ => False
theorem Fo {pins : List (Addr × Obj)} {σ : St} {H : Hp} {s : Shared} {T : String} {x : V} {v : Value} (I : Inv X pins σ H s) (r : zE x v) (ty : tyV X.K T x H) :
    s.TypeIs v T /\ ∀ a, v = .ref a -> ∃ ob, s.heap.get? a = some ob /\ ob.dict = none := by
  cases x with
  | str z =>
    obtain ⟨t, rfl⟩ := r
    cases (show T = "str" from ty)
    exact ⟨typeIs_str s z t, fun _ e => nomatch e⟩
  | int i =>
    obtain ⟨t, rfl⟩ := r
    cases (show T = "int" from ty)
    exact ⟨typeIs_int s i t, fun _ e => nomatch e⟩
  | ref p =>
    cases r
    rcases ty with ⟨rfl, xs, hq⟩ | ⟨rfl, ⟨xs, hx⟩ | ⟨o, hk, hc, hd⟩⟩ | ⟨rfl, hk⟩ | ⟨rfl, S, n, hk⟩
    · obtain ⟨its, _, pl, _⟩ := I.list hq
      refine ⟨pl.isList.typeIs, fun a e => ?_⟩
      cases e
      obtain ⟨o, n, e, c, hd, _⟩ := pl
      exact ⟨o, e, hd⟩
    · obtain ⟨_, its, _, o, e, c, _, hd⟩ := hx.ok I.hok
      refine ⟨⟨o, e, c⟩, fun a e2 => ?_⟩
      cases e2
      exact ⟨o, e, hd⟩
    · refine ⟨⟨o, I.kIn p o hk, hc⟩, fun a e => ?_⟩
      cases e
      exact ⟨o, I.kIn _ o hk, hd⟩
    · have z : ∃ o, s.heap.get? p = some o /\ o.ExactDict := by
        rcases hk with ⟨kvs, hk⟩ | ⟨kvs, hk⟩
        · obtain ⟨_, _, _, _, o, _, _, e, ex, _⟩ := I.hok p _ hk
          exact ⟨o, e, ex⟩
        · obtain ⟨_, _, _, _, o, _, _, e, ex, _⟩ := I.hok p _ hk
          exact ⟨o, e, ex⟩
      obtain ⟨o, e, ex⟩ := z
      refine ⟨⟨o, e, ex.1⟩, fun a e2 => ?_⟩
      cases e2
      exact ⟨o, e, ex.2.1⟩
    · obtain ⟨o, _, _, _, e, ex, _⟩ := I.hok p _ hk
      refine ⟨⟨o, e, ex.1⟩, fun a e2 => ?_⟩
      cases e2
      exact ⟨o, e, ex.2.1⟩
  | _ => exact False.elim ty
noncomputable def tBM (K : PySem.W.Frag) (T : String) (r : V -> List V -> Hp -> VK -> Prop) (to : TE) (t : TA) : TE := fun σ H Q => to σ H fun x H1 => tyV K T x H1 /\ t σ H1 fun xs H2 => r x xs H2 Q
variable {o e : Expr} {es : List Expr} {to : TE} {t : TA} {name : Str} {apos cpos : Pos} {T id : String} {r : V -> List V -> Hp -> VK -> Prop}
theorem Ja (pa : PlainAttrs T) (slot : Slot T name id) (hty : typeOf (.builtin id) = pure (.type "method_descriptor")) (hm : MtR X id r) (ho : PE X o to) (ha : PA X (e :: es) t)
  (hbase : attributeBase o name X.env (eval o X.env) = eval o X.env := by rfl)
  (hfew : ((backTo cpos (starEach (e :: es) X.env)).all (fun x => !x.1) && (backToKw cpos (keywordEach [] X.env)).all (fun x => x.1.isSome)
   && decide ((e :: es).length + ([] : List Keyword).length + (if ([] : List Keyword).isEmpty then 0 else 1) < 30)) = true := by rfl)
  (hline : (apos.endLine == cpos.line) = true := by rfl) (hs : starEach (e :: es) X.env = (false, eval e X.env) :: starEach es X.env := by rfl) (hplain : (backTo cpos (starEach es X.env)).any (·.1) = false := by rfl) :
  PE X (.Call (.Attribute o name apos) (e :: es) [] cpos) (tBM X.K T r to t) := by
 intro pins s σ H Q I h
 refine wpAny_Call_method_late hbase hfew hline rfl (thn (ho pins s σ H _ I h) fun v s1 ⟨x, H1, I1, r1, ty, q1⟩ => ?_)
 obtain ⟨h1, h2⟩ := Fo I1 r1 ty
 refine ⟨T, id, pa, slot, hty, h1, h2, ?_⟩
 have hA := ha cpos pins s1 σ H1 _ I1 q1
 rw [hs] at hA ⊢
 refine Calls.callWith_builtin (by show (false || (backTo cpos (starEach es X.env)).any (·.1)) = false; rw [hplain] <;> rfl) (Calls.evalArgs_plain ?_)
 exact thn hA fun us s2 ⟨vs, H2, I2, r2, q2⟩ => hm pins s2 σ H2 x vs v us Q I2 r1 r2 q2
/- xs.append(e), list.index on a module's tuple .. are MtR facts of 06m -/
end
end L2
namespace L2
open PySem PySem.Spec PyProof.Rows
noncomputable def MtM (X : Cx) (id : String) (r : V -> List V -> Hp -> VK -> Prop) : Prop :=
 ∀ (pins : List (Addr × Obj)) (s : Shared) (σ : St) (H : Hp) (x : V) (xs : List V) (v : Value) (us : List Value) (Q : VK), Inv X pins σ H s -> zE x v -> zF xs us -> r x xs H Q ->
  wpAny (model X.prog X.w) X.A (call (.builtin id) (v :: us)) (EP X pins σ Q) X.xe s
theorem zF.one : ∀ {x : V} {us : List Value}, zF [x] us -> ∃ u, us = [u] /\ zE x u
 | _, _, .cons r .nil => ⟨_, rfl, r⟩
theorem zF.rep {xs : List V} {us : List Value} (h : zF xs us) : ∀ k : Nat, zF (List.replicate k xs).flatten (List.replicate k us).flatten
 | 0 => .nil
 | k + 1 => by
  rw [List.replicate_succ, List.replicate_succ, List.flatten_cons, List.flatten_cons]
  exact zF.append h (zF.rep h k)
theorem wN (its : List Value) : ∀ (k : Nat) (acc : List Value),
  List.foldl (fun x1 x2 => x1 ++ x2) acc.toArray (List.replicate k its.toArray) = (acc ++ (List.replicate k its).flatten).toArray
 | 0, acc => by simp
 | k + 1, acc => by
  have e : acc.toArray ++ its.toArray = (acc ++ its).toArray := by simp
  have e2 : (acc ++ its) ++ (List.replicate k its).flatten = acc ++ (List.replicate (k + 1) its).flatten := by
   rw [List.replicate_succ, List.flatten_cons, List.append_assoc]
  rw [<- e2, <- wN its k (acc ++ its), <- e, List.replicate_succ, List.foldl_cons]
section
variable {X : Cx} {pins : List (Addr × Obj)} {σ : St} {H : Hp} {s : Shared} {l b : Addr} {xs ys zs : List V}
theorem Inv.lset {its its' : List Value} {n : Nat} {f : Array Value -> Array Value} {t' : Nat} (I : Inv X pins σ H s) (hH : H l = some (.lst xs))
  (e : s.heap.get? l = some { cls := .type "list", data := .seq its.toArray n }) (hf : f its.toArray = its'.toArray) (hv : zF ys its') (hz : ys.length <= sizeLine) :
  Inv X pins σ (upd H l (.lst ys)) { s with heap := s.heap.update l (Obj.mapSeq f), toks := t' } := by
 have q := PySem.IsL.update e f
 rw [hf] at q
 refine I.write (x := l) (e := l) (by rw [hH]; exact trivial) (.inl rfl) (fun b' u hb hu => (Heap.get?_update_other s.heap (Obj.mapSeq f) (Ne.symm hb)).trans hu) ⟨_, q⟩ ?_
 exact ⟨hz, its', _, hv, q⟩
theorem Inv.lnew {its : List Value} {t' : Nat} (I : Inv X pins σ H s) (hv : zF ys its) (hz : ys.length <= sizeLine) :
  Inv X pins σ (upd H s.heap.objs.size (.lst ys)) { s with heap := s.heap.push { cls := .type "list", data := .seq its.toArray }, toks := t' } :=
 I.laid (fun _ _ q => Heap.get?_push_of_some _ q) (Nat.le_refl _) ⟨hz, its, 0, hv, Heap.get?_push_size _ rfl⟩
theorem Inv.fresh (I : Inv X pins σ H s) : H s.heap.objs.size = none := I.hok.fresh (Nat.le_refl _)
theorem Inv.lstM (I : Inv X pins σ H s) (hH : H l = some (.lst xs)) : xs.length <= sizeLine /\ ∃ (its : List Value) (n : Nat), zF xs its /\ xs.length = its.length /\ s.heap.get? l = some { cls := .type "list", data := .seq its.toArray n } := by
 obtain ⟨z, its, n, r, e⟩ := I.hok l _ hH
 exact ⟨z, its, n, r, r.length, e⟩
theorem Q7 {n : Nat} (h : n <= sizeLine) : Builtin.List.listTooLong n = false := by
 unfold Builtin.List.listTooLong
 exact decide_eq_false (by omega)
end
section
variable {X : Cx}
noncomputable def ve : V -> List V -> Hp -> VK -> Prop := fun x vs H Q => ∃ l xs y, x = .ref l /\ vs = [y] /\ H l = some (.lst xs) /\ xs.length < sizeLine /\ Q .non (upd H l (.lst (xs ++ [y])))
theorem yA : MtM X "list.append" ve := by
 intro pins s σ H x vs v us Q I rx rv h
 obtain ⟨l, xs, y, rfl, rfl, hH, hz, q⟩ := h
 cases rx
 obtain ⟨u, rfl, ru⟩ := rv.one
 obtain ⟨z, its, n, r, hl, e⟩ := I.lstM hH
 refine call_meets F.slot_list_append ⟨_, e, rfl⟩ F.entry_list_append (F.args_list_append_2 _ _) (PySem.list_append l its.toArray n u (by rw [List.size_toArray]; omega)) ⟨e, ?_⟩
 refine ⟨.non, _, I.lset (its' := its ++ [u]) hH e (by simp) (r.append (.cons ru .nil)) ?_, rfl, q⟩
 rw [List.length_append, List.length_singleton]
 omega
noncomputable def vg : V -> List V -> Hp -> VK -> Prop := fun x vs H Q => ∃ l b xs zs, x = .ref l /\ vs = [.ref b] /\ H l = some (.lst xs) /\ H b = some (.lst zs) /\ xs.length + zs.length <= sizeLine /\ Q .non (upd H l (.lst (xs ++ zs)))
theorem XU : MtM X "list.extend" vg := by
 intro pins s σ H x vs v us Q I rx rv h
 obtain ⟨l, b, xs, zs, rfl, rfl, hH, hB, hz, q⟩ := h
 cases rx
 obtain ⟨u, rfl, ru⟩ := rv.one
 cases ru
 obtain ⟨z, its, n, r, hl, e⟩ := I.lstM hH
 obtain ⟨z2, its2, n2, r2, hl2, e2⟩ := I.lstM hB
 have hsz : its.toArray.size + its2.toArray.size <= sizeLine := by rw [List.size_toArray, List.size_toArray]; omega
 have hlong : ¬ (!its.toArray.isEmpty && Builtin.List.listTooLong (its.toArray.size + its2.toArray.size)) = true := by
  rw [Q7 hsz, Bool.and_false]
  exact Bool.false_ne_true
 refine call_meets F.slot_list_extend ⟨_, e, rfl⟩ F.entry_list_extend (F.args_list_extend_2 _ _)
  (AutoSeq1.list_extend_list_list_0 l its.toArray n b its2.toArray n2 hlong (by rw [List.size_toArray]; omega) (by omega)) ⟨e, e2, ?_⟩
 refine ⟨.non, _, I.lset (its' := its ++ its2) hH e (by simp) (r.append r2) ?_, rfl, q⟩
 rw [List.length_append]
 omega
noncomputable def Da : R2 := fun x y H Q => ∃ l b xs zs, x = .ref l /\ y = .ref b /\ H l = some (.lst xs) /\ H b = some (.lst zs) /\ xs.length + zs.length <= sizeLine /\ ∀ p, H p = none -> Q (.ref p) (upd H p (.lst (xs ++ zs)))
theorem jO : OpR X (binaryOp .Add) Da := by
 intro pins s σ H x y v u Q I rx ry h
 obtain ⟨l, b, xs, zs, rfl, rfl, hH, hB, hz, q⟩ := h
 cases rx
 cases ry
 obtain ⟨z, its, n, r, hl, e⟩ := I.lstM hH
 obtain ⟨z2, its2, n2, r2, hl2, e2⟩ := I.lstM hB
 refine PySem.P.add_list e e2 ?_ (by rw [List.size_toArray, List.size_toArray]; omega)
 have ea : its.toArray ++ its2.toArray = (its ++ its2).toArray := by simp
 rw [ea]
 exact ⟨.ref _, _, I.lnew (t' := s.toks) (r.append r2) (by rw [List.length_append]; omega), rfl, q _ I.fresh⟩
noncomputable def Dy : R2 := fun x y H Q => ∃ l k xs, x = .ref l /\ y = .int k /\ H l = some (.lst xs) /\ -(2 ^ 63) <= k /\ k < 2 ^ 63 /\ xs.length * k.toNat <= sizeLine /\
 ∀ p, H p = none -> Q (.ref p) (upd H p (.lst (List.replicate k.toNat xs).flatten))
theorem By {α : Type} (xs : List α) (k : Nat) : (List.replicate k xs).flatten.length = k * xs.length := by
 induction k with
 | zero => simp
 | succ k ih => rw [List.replicate_succ, List.flatten_cons, List.length_append, ih, Nat.succ_mul, Nat.add_comm]
theorem j9 : OpR X (binaryOp .Mult) Dy := by
 intro pins s σ H x y v u Q I rx ry h
 obtain ⟨l, k, xs, rfl, rfl, hH, h1, h2, hz, q⟩ := h
 cases rx
 obtain ⟨t, rfl⟩ := ry
 obtain ⟨z, its, n, r, hl, e⟩ := I.lstM hH
 have hlen : its.toArray.size * k.toNat <= sizeLine := by rw [List.size_toArray, <- hl]; exact hz
 have hcap : ¬ its.toArray.size * k.toNat > (2 ^ 63 - 1) / 8 := by
  have : (sizeLine : Nat) <= (2 ^ 63 - 1) / 8 := by decide
  omega
 have hfit : ¬ (!Builtin.List.listFitsIndex k) = true := by
  rw [fitsIndex_both h1 h2]
  exact Bool.false_ne_true
 have hlong : ¬ Builtin.List.listTooLong (its.toArray.size * k.toNat) = true := by
  rw [Q7 hlen]
  exact Bool.false_ne_true
 have hnew : List.foldl (fun x1 x2 => x1 ++ x2) #[] (List.replicate (if its.toArray.isEmpty = true then 0 else k.toNat) its.toArray) = (List.replicate k.toNat its).flatten.toArray := by
  have f0 : ∀ m : Nat, List.foldl (fun x1 x2 => x1 ++ x2) #[] (List.replicate m its.toArray) = (List.replicate m its).flatten.toArray := fun m => by
   have := wN its m []
   rw [List.nil_append] at this
   exact this
  rw [f0]
  cases its with
  | nil => simp
  | cons a r' => rw [if_neg (by simp)]
 refine wpAny_binaryOp_repeat_ref (T := "list") (U := "int") (by decide) ⟨_, e, rfl⟩ (fun s' => typeIs_int s' k t) noFill_list_mul F.fills_int_mul F.slot_int_rmul repeat_list F.slot_int_index.lookup
  (call_meets F.slot_int_rmul (typeIs_int s k t) F.entry_int_rmul (F.args_int_rmul_2 _ _) (int___rmul___int_list k t l its.toArray n)
   ⟨e, rfl, ⟨_, e, rfl⟩, call_meets F.slot_list_mul ⟨_, e, rfl⟩ F.entry_list_mul (F.args_list_mul_2 _ _) (AutoListH.list___mul___list_int_3 l its.toArray n k t hfit hcap hlong) ⟨e, ?_⟩⟩)
 rw [hnew]
 exact ⟨.ref _, _, I.lnew (t' := s.toks) (r.rep k.toNat) (by rw [By, Nat.mul_comm]; exact hz), rfl, q _ I.fresh⟩
end
section
variable {prog : Program} {w : World} {A : Around} {E : Value -> Shared -> Prop} {s : Shared}
end
section
variable {X : Cx}
end
end L2
namespace Att
open PySem PySem.W PySem.Calls PyProof.Rows
theorem yT {P : Params} {h : Heap} : ∀ (ns : List Int) (vs : List Value), WellAll P h vs (ns.map WData.int) -> IntsAre vs ns := by
 intro ns
 induction ns with
 | nil =>
  intro vs w
  rw [List.map_nil] at w
  cases w
  exact .nil
 | cons n ns ih =>
  intro vs w
  rw [List.map_cons] at w
  cases w with
  | cons a b =>
   cases a
   exact .cons _ _ (ih _ b)
theorem Yh {l : OpenLaw} {n : Nat} (hn : l.most = some n) {P : Params} {h : Heap} {args : List WData} {vals : List Value}
  (hpre : l.row.toRowW.claim.pre args = true) (hwl : WellAll P h vals args) :
  ∃ a vs ns, vals = [Value.ref a] /\ args = [WData.list (ns.map WData.int)] /\ h.get? a = some { cls := .type "list", data := .seq vs.toArray } /\ IntsAre vs ns /\ ns.length <= n := by
 have hsh : WShape.hasAll [] args [.list .int] = true := (pre_splitW hpre).1
 have hc : l.pre.holds [] { args := args } = true := (pre_splitW hpre).2
 obtain ⟨d, r, rfl, h1, h2⟩ := hasAllW_cons hsh
 obtain rfl := hasAllW_nil h2
 obtain ⟨xs, rfl, h3⟩ := hasW_list h1
 obtain ⟨ns, rfl⟩ := items_int h3
 have hlen : ns.length <= n := by
  unfold OpenLaw.pre at hc
  have h4 : (WTm.not (.lt (.lit (.int (n : Int))) (.len (.arg 0)))).holds [] { args := [.list (ns.map .int)] } = true := by
   have h4 := (holds_andW hc).1
   rw [hn] at h4
   exact h4
  have h5 := condW_of h4 (w_not (w_lt w_lit (w_len_list (w_arg rfl))))
  rw [List.length_map] at h5
  refine Nat.le_of_not_lt fun q => ?_
  have q' : (n : Int) < ((ns.length : Nat) : Int) := by omega
  first
   | (rw [decide_eq_true q'] at h5; exact absurd h5 (by decide))
   | (simp at h5; omega)
 cases hwl with
 | cons w1 w2 =>
  cases w2
  cases w1 with
  | list ho hall => exact ⟨_, _, ns, rfl, rfl, ho, yT ns _ hall, hlen⟩
theorem Yg (l : OpenLaw) (args : List WData) : l.row.toRowW.claim.post args (.bool true) args = true :=
 postW_of (r := l.row.toRowW) (X := (true == true))
  (show WShape.has [] (.bool true) .bool = true by first | rfl | decide | simp [WShape.has, WShape.arms, WShape.armsAll])
  (show (WTm.eq .res (.lit (.bool true))).value [] { args := args, res := some (.bool true), after := args } = some (.bool (true == true)) from w_eq_bool (w_res rfl) w_lit) rfl
theorem attach_call {l : OpenLaw} {n : Nat} {q : Program} {loose : List Str} {XP : (Str -> Option Value) -> Heap -> Prop} {YP : World -> Heap -> Prop} {d : DefRec}
  (hn : l.most = some n) (hdf : d.params.defaults = [])
  (call : ∀ (w : World) (s₀ s₁ : Shared) (mg mb : Str -> Option Value) (fa : Addr) (o : Obj) (pm cd doc : Value) (a : Addr) (vs : List Value) (ns : List Int),
   Ground q loose [] XP w s₀ mg mb s₁.heap -> YP w s₁.heap ->
   s₁.heap.get? fa = some o -> o.data = .func (docDef d.name d.params d.body d.scope pm cd doc) -> s₁.heap.CodeRec cd d.name -> mg d.name = some (.ref fa) ->
   s₁.heap.get? a = some { cls := .type "list", data := .seq vs.toArray } -> IntsAre vs ns -> ns.length <= n -> s₁.gens = #[] ->
   codeAny (model l.prog w) callerA (.call (.ref fa) ⟨[.ref a], []⟩) (fun r s' => r = .ok (.ret (.bool true)) /\ OldK s₁.heap s'.heap /\ s'.os = s₁.os /\ AllBare s'.gens) s₁) :
  WalkO q loose XP YP l.row.toRowW d [] (fun f vs => PySem.call f vs) := by
 intro w s₀ s₁ mg mb G Y fa o pm cd doc dV kV ho hd hcd hD hmg hg args vals as hpre hlay hrd hwl hlo
 obtain rfl : dV = .none := Dflts.none hD hdf
 obtain rfl : kV = .none := Dflts.noKw hD
 obtain ⟨a, vs, ns, rfl, rfl, hobj, hints, hlen⟩ := Yh hn hpre hwl
 refine enter_call (codeAny_mono (call w s₀ s₁ mg mb fa o pm cd doc a vs ns G Y ho (fd_plain hd) hcd hmg hobj hints hlen hg) fun r s' hq => ?_)
 obtain ⟨rfl, h2, h3, h4⟩ := hq
 exact ⟨.inl ⟨.bool true, .bool true, [], rfl, fun _ => rfl, .bool true, Yg l _, fun _ => ⟨List.Pairwise.nil, fun _ hm => (nomatch hm)⟩⟩, h2, h3, h4⟩
section
variable {prog : Program} {w : World} {A : Around} {E : Value -> Shared -> Prop} {s : Shared} {K : Frag}
noncomputable def HH (h : Heap) (L d : Addr) : List (Addr × Obj) := (List.range h.objs.size).filterMap fun a => if a = L \/ a = d then none else (h.get? a).map fun o => (a, o)
end
end Att
namespace L2
open PySem PySem.Spec PyProof.Rows
theorem yy : ∀ {vs : List Value} {ns : List Int}, IntsAre vs ns -> zF (ns.map V.int) vs
 | _, _, .nil => .nil
 | _, _, .cons n t h => .cons ⟨t, rfl⟩ (yy h)
noncomputable def Fu (H : Hp) : Prop := ∀ b, H b = none \/ ∃ o xs, H b = some (.frz o (.lst xs))
theorem Y4 {P : Program} {w : World} {K : PySem.W.Frag} {mg mb : Str -> Option Value} {CX : CXT} {k : Nat} {fa a : Addr} {fd : FuncData} {x : Str} {sp : Sp} {s₁ : Shared} {vs : List Value} {ns : List Int}
  (KX : K.In s₁.heap) (hns : s₁.heap.Ns mainGlobals mg) (hb : s₁.heap.Ns builtinsNs mb) (hbb : ∀ x : Str, x ≠ "__name__" -> mb x = bootBuiltins x) (hlim : s₁.heap.NoLimit) (hg : s₁.gens = #[])
  (ha : s₁.heap.get? a = some { cls := .type "list", data := .seq vs.toArray }) (hi : IntsAre vs ns) (hl : ns.length <= sizeLine) (hr : qK k callerA)
  (F : ∀ base : Heap, K.In base -> base.Ns mainGlobals mg -> jE P w K mg base CX k fa fd [x] sp) (hbind : ∀ (s : Shared) (u : Value), BindsTo s fd ⟨[u], []⟩ [(x, u)])
  (hsp : ∀ H : Hp, Fu H -> SqL K H a (ns.map V.int) -> sp [.ref a] H (fun v _ => v = .bl true) fun _ _ _ => False)
  (hCX : ∀ H e s', CX [] H s₁ (fun _ _ _ => False) e s' -> False) :
  codeAny (model P w) callerA (.call (.ref fa) ⟨[.ref a], []⟩) (fun r s' => r = .ok (.ret (.bool true)) /\ OldK s₁.heap s'.heap /\ s'.os = s₁.os /\ AllBare s'.gens) s₁ := by
 have rv := yy hi
 have lenV := hi.length
 have core : ∀ H : Hp, Fu H -> SqL K H a (ns.map V.int) -> HOk P w H s₁.heap -> (∀ b, H b ≠ none -> b = a) -> (H a ≠ none -> K.lookup a = none) ->
   codeAny (model P w) callerA (.call (.ref fa) ⟨[.ref a], []⟩) (fun r s' => r = .ok (.ret (.bool true)) /\ OldK s₁.heap s'.heap /\ s'.os = s₁.os /\ AllBare s'.gens) s₁ := by
  intro H hO hS hok hA hK
  have base_of : ∀ {b : Addr} {o : Obj}, s₁.heap.get? b = some o -> H b = none -> (ZI s₁.heap H).get? b = some o := fun e n => WK e n
  have noA : ∀ {b : Addr} {o : Obj} {es : Array DictEntry} {ep : Nat}, s₁.heap.get? b = some o -> o.data = .dict es ep -> H b = none := fun {b o es ep} e d => by
   cases q : H b with
   | none => rfl
   | some u =>
    have e' : b = a := hA b (by rw [q]; simp)
    subst e'
    rw [ha] at e; cases e
    have d' : Data.seq vs.toArray _ = Data.dict es ep := d
    cases d'
  have nsK : ∀ {b : Addr} {m : Str -> Option Value}, s₁.heap.Ns b m -> (ZI s₁.heap H).Ns b m := fun {b m} ⟨o, es, ep, e, d, r⟩ => ⟨o, es, ep, base_of e (noA e d), d, r⟩
  have hKb : K.In (ZI s₁.heap H) := fun b o e => base_of (KX b o e) (by
   cases q : H b with
   | none => rfl
   | some u =>
    have e' : b = a := hA b (by rw [q]; simp)
    subst e'
    rw [hK (by rw [q]; simp)] at e; cases e)
  have hM : Mod K mg (ZI s₁.heap H) := ⟨hKb, nsK hns, ⟨mb, nsK hb, hbb⟩, let ⟨mc, h1, h2⟩ := hlim; ⟨mc, nsK h1, h2⟩⟩
  have e0 : Js P w K mg (ZI s₁.heap H) callerA [] s₁ H := ⟨rfl, hM, fun b o e => AC e, Nat.le_of_eq (XD _ _), trivial, fun b hb => absurd (show b ∈ ([] : List Addr) from hb) (by simp), hok, .of_eq hg⟩
  refine codeAny_mono ((F _ hKb (nsK hns)).run callerA [] s₁ H ⟨[.ref a], []⟩ [.ref a] [.ref a] _ _ hr e0 (hbind s₁ (.ref a)) (.cons rfl .nil) (hsp H hO hS)) fun r s' h => ?_
  cases r with
  | error e => exact (hCX H e s' h).elim
  | ok fl =>
   cases fl with
   | next => exact False.elim h
   | brk => exact False.elim h
   | cont => exact False.elim h
   | ret u =>
    obtain ⟨v, H', os, bare, un, hok', r', q⟩ := h
    have q' : v = .bl true := q
    subst q'
    obtain rfl : u = Value.bool true := r'
    refine ⟨rfl, OldK.of_keep fun b o e => ?_, os, bare⟩
    cases q : H b with
    | none => exact un.keep b o e q (by intro z; exact absurd (show b ∈ ([] : List Addr) from z) (by simp)) (by simp)
    | some u =>
     rcases hO b with z | ⟨ob, xs, z⟩
     ·rw [q] at z; cases z
     ·have z2 := un.frzs b ob _ z
      obtain ⟨e1, _⟩ := hok b _ z
      obtain ⟨e2, _⟩ := hok' b _ z2
      rw [e] at e1; cases e1
      exact e2
 cases hk : K.lookup a with
 | some o =>
  have e := KX a o hk
  rw [ha] at e
  cases e
  refine core (fun _ => none) (fun _ => .inl rfl) (.inr ⟨_, vs.toArray, _, hk, rfl, rfl, rfl, by rw [List.size_toArray, lenV]; exact hl, by simpa using rv⟩) (fun b u z => by have z' : (none : Option HO) = some u := z; cases z') (fun b z => absurd rfl z) fun z => absurd rfl z
 | none =>
  refine core (fun b => if b = a then some (.frz { cls := .type "list", data := .seq vs.toArray } (.lst (ns.map V.int))) else none) (fun b => ?_) (.inl (.inr ⟨{ cls := .type "list", data := .seq vs.toArray }, if_pos rfl⟩)) (fun b u z => ?_) (fun b z => ?_) fun _ => hk
  ·by_cases hb : b = a
   ·exact .inr ⟨_, _, if_pos hb⟩
   ·exact .inl (if_neg hb)
  ·by_cases hb : b = a
   ·have z' := (if_pos hb).symm.trans z
    cases z'
    subst hb
    exact ⟨ha, by rw [List.length_map]; exact hl, vs, _, rv, ha⟩
   ·have z' := (if_neg hb).symm.trans z
    cases z'
  ·by_cases hb : b = a
   ·exact hb
   ·exact absurd (if_neg hb) z
end L2
namespace L2
open PySem PySem.Spec PyProof.Rows
noncomputable abbrev KOf {K : PySem.W.Frag} {h : Heap} (_ : K.In h) : PySem.W.Frag := K
theorem walk_of {l : PySem.W.OpenLaw} {n k : Nat} {q : Program} {loose : List Str} {XP : (Str -> Option Value) -> Heap -> Prop} {YP : World -> Heap -> Prop} {d : DefRec} {K : Params -> PySem.W.Frag} {CX : World -> CXT} {sp : World -> Sp} {x : Str}
  (hn : l.most = some n) (hn2 : n <= sizeLine) (hdf : d.params.defaults = []) (hr : qK k callerA)
  (hY : ∀ (w : World) (h : Heap), YP w h -> (K w.params).In h)
  (F : ∀ (w : World) (mg : Str -> Option Value) (fa : Addr) (h : Heap), (K w.params).In h -> h.Ns mainGlobals mg -> mg d.name = some (.ref fa) ->
   ∃ fd : FuncData, (∀ (s : Shared) (u : Value), BindsTo s fd ⟨[u], []⟩ [(x, u)]) /\
    ∀ base : Heap, (K w.params).In base -> base.Ns mainGlobals mg -> jE l.prog w (K w.params) mg base (CX w) k fa fd [x] (sp w))
  (hsp : ∀ (w : World) (H : Hp) (a : Addr) (ns : List Int), ns.length <= n -> Fu H -> SqL (K w.params) H a (ns.map V.int) -> sp w [.ref a] H (fun v _ => v = .bl true) fun _ _ _ => False)
  (hCX : ∀ (w : World) (H : Hp) (s : Shared) (e : Value) (s' : Shared), CX w [] H s (fun _ _ _ => False) e s' -> False) :
  PySem.W.WalkO q loose XP YP l.row.toRowW d [] (fun f vs => PySem.call f vs) := by
 refine Att.attach_call hn hdf fun w s₀ s₁ mg mb fa o pm cd doc a vs ns G Y ho hd hcd hmg hobj hints hlen hg => ?_
 have KX := hY w _ Y
 obtain ⟨fd, hb, hF⟩ := F w mg fa _ KX G.T.g hmg
 exact Y4 KX G.T.g G.T.b G.T.builtins G.T.nolimit hg hobj hints (Nat.le_trans hlen hn2) hr hF hb (fun H hO hS => hsp w H a ns hlen hO hS) fun H e s' => hCX w H s₁ e s'
end L2
/- THE LAST THEOREM (shape; LID, My.* are yours):
   My.Adr: a structure of the addresses that your layer names (classes, functions); My.Txt K t: a structure (Prop) of the equations over K;
   My.txt_mk : {K} {implicit addresses ..} (e1 : nsIn K mainGlobals "law" = some (some (.ref f))) (e2 : K.lookup f = some ⟨oc, od, .func (fnOf "law" "law" params body scope dV kV doc pm an cdv ct), sl⟩) (e3 : codeIn K cdv "law" = true) .. : ∃ t, My.Txt K t
set_option maxRecDepth 100000 in
set_option maxHeartbeats 0 in
theorem PySem.Challenge.cw_LID_holds : PySem.Challenge.rw_LID.Holds := by
 w_on; o_law; k_head; (case hw => w_witness2)
 k_fill
 refine L2.walk_of (l := PySem.Challenge.rw_LID) (n := 63) (k := 40) (x := "script") (CX := fun w => ..) (sp := fun _ => My.sp_law) rfl (by decide) rfl ⟨rfl, by decide, by decide⟩ (fun w h Y => PySem.W.kIn_of Y) ?F ?S ?C
 case F =>
  intro w mg fa h KX G hmg
  have T : ∃ t, My.Txt (L2.KOf KX) t := by
   dsimp only [L2.KOf]                          -- K must stand as «<heap const> w.params» for k_is
   refine' My.txt_mk ?e1 ?e2 ?e3 ..
   (case e1 => PySem.W.k_is)                    -- in the order: a name -> its address -> its object -> its parts
   (case e2 => PySem.W.k_is)
   ..
  obtain ⟨t, T⟩ := T
  have e0 := hmg.symm.trans (PySem.W.mg_of KX G T.law)
  cases e0                                       -- fa is the law's own address
  exact ⟨_, fun s u => .of_eq rfl, fun base kb nb => My.law_fn T kb nb⟩     -- if «.of_eq rfl» comes too early: refine' ⟨_, ?b, fun base kb nb => My.law_fn T kb nb⟩; exact fun s u => .of_eq rfl
 case S => exact fun w H a ns hl hO hS => ..
 case C => exact ..
(the tactic k_is has no namespace: write k_is) -/
namespace L2
open PySem PySem.Spec PyProof.Rows
noncomputable def qY (s : Stmt) (j : Nat) : Stmt := match s with
 | .ClassDef _ _ _ body _ _ _ _ _ _ _ => body.getD j (.Pass ⟨0, 0, 0, 0⟩)
 | _ => .Pass ⟨0, 0, 0, 0⟩
noncomputable def jo (s : Stmt) : Arguments := match s with
 | .FunctionDef _ a _ _ _ _ _ _ _ _ => a
 | _ => { posonlyargs := [], args := [], vararg := none, kwonlyargs := [], kw_defaults := [], kwarg := none, defaults := [] }
noncomputable def qD (s : Stmt) : List Stmt := match s with
 | .FunctionDef _ _ b _ _ _ _ _ _ _ => b
 | _ => []
noncomputable def zf (s : Stmt) : Scope := match s with
 | .FunctionDef _ _ _ _ _ _ sc _ _ _ => sc
 | _ => { kind := .function, names := [], isGenerator := false, isCoroutine := false }
noncomputable abbrev CX0 : CXT := fun _ _ _ _ _ _ => False
noncomputable abbrev E0 : XK := fun _ _ _ => False
theorem Ky {X : Cx} : xK CX0 X E0 := fun _ _ _ _ _ _ _ h => h.elim
structure Fun (K : PySem.W.Frag) (x qual : Str) (st : Stmt) (f : Addr) (fd : FuncData) : Prop where
 ex : ∃ (oc : Value) (od : Option Addr) (kV doc pm : Value) (an : Option Addr) (cdv ct : Value) (osl : Array (Option Value)),
  fd = PySem.W.fnOf x qual (jo st) (qD st) (zf st) .none kV doc pm an cdv ct /\ K.lookup f = some ⟨oc, od, .func fd, osl⟩ /\ PySem.W.codeIn K cdv qual = true
 kp : PySem.W.keepIn K (.ref f) = true
section
variable {P : Program} {w : World} {K : PySem.W.Frag} {mg : Str -> Option Value} {base : Heap}
theorem Fun.ok {x qual : Str} {st : Stmt} {f : Addr} {fd : FuncData} {N ps : List Str} {k : Nat} {sp : Sp} (F : Fun K x qual st f fd) (S : zo N ps (zf st)) (len : ∀ vs H Q E, sp vs H Q E -> vs.length = ps.length)
  (hbody : ∀ (cdv : Value) (A : Around) (outer : List Env) (s : Shared) (H : Hp) (vs : List V) (Q : VK) (E : XK), qK k (A.deeper (envOfC qual (zf st) s.heap.objs.size f cdv)) -> sp vs H Q E ->
   ∃ t, PSs (wx CX0 P w K mg base N qual (zf st) f cdv A outer s H E).nox (qD st) t /\ t { nx := fun _ H' => Q .non H', rt := Q } (zZ N vs) H) : jE P w K mg base CX0 (k + 1) f fd ps sp := by
 obtain ⟨oc, od, kV, doc, pm, an, cdv, ct, osl, rfl, lk, hcd⟩ := F.ex
 refine Hn lk hcd S len fun A outer s H vs Q E hr hsp => ?_
 obtain ⟨t, h, q⟩ := hbody cdv A outer s H vs Q E hr hsp
 exact ⟨t, h.nox, q⟩
theorem Fun.binds {x qual : Str} {st : Stmt} {f : Addr} {fd : FuncData} {ps : List Str} (F : Fun K x qual st f fd)
  (h : ∀ (kV doc pm : Value) (an : Option Addr) (cdv ct : Value) (us : List Value), us.length = ps.length -> bindArgs (PySem.W.fnOf x qual (jo st) (qD st) (zf st) .none kV doc pm an cdv ct) ⟨us, []⟩ = pure (ps.zip us)) : ki K fd ps [] := by
 obtain ⟨oc, od, kV, doc, pm, an, cdv, ct, osl, rfl, lk, hcd⟩ := F.ex
 exact .all (h kV doc pm an cdv ct)
theorem V7 {x qual : Str} {st : Stmt} {f : Addr} {oc : Value} {od an : Option Addr} {osl : Array (Option Value)} {kV doc pm cdv ct : Value} (l : K.lookup f = some ⟨oc, od, .func (PySem.W.fnOf x qual (jo st) (qD st) (zf st) .none kV doc pm an cdv ct), osl⟩)
  (c : PySem.W.codeIn K cdv qual = true) (k : PySem.W.keepIn K (.ref f) = true) : Fun K x qual st f (PySem.W.fnOf x qual (jo st) (qD st) (zf st) .none kV doc pm an cdv ct) := ⟨⟨oc, od, kV, doc, pm, an, cdv, ct, osl, rfl, l, c⟩, k⟩
end
theorem X3 {n : Nat} (h : n <= 1000) : n < sizeLine := Nat.lt_of_le_of_lt h (by decide)
section
variable {X : Cx}
theorem pv (i : Nat) {x : Str} {pos : Pos} (hN : X.N[i]? = some x := by rfl) (hv : Vis X.env.scope x := by first | exact Or.inl rfl | exact Or.inr (Or.inl rfl) | exact Or.inr (Or.inr rfl)) (hd : (x == ("__debug__" : Str)) = false := by decide)
  (hcd : (x == ("__classdict__" : Str)) = false := by decide) : PE X (.Name x pos) (YR i) := FQ hN hv hd hcd
end
theorem WD {c A B : Prop} [Decidable c] (h1 : c -> A) (h2 : ¬ c -> B) : if c then A else B := by
 by_cases h : c
 ·rw [if_pos h]
  exact h1 h
 ·rw [if_neg h]
  exact h2 h
end L2
namespace L2
open PySem PySem.Spec PyProof.Rows
section
variable {κ : Type} [DecidableEq κ]
noncomputable def yz (kvs : List (κ × V)) (k : κ) : Option V := (kvs.find? fun kv => decide (kv.1 = k)).map (·.2)
theorem VE {p : κ × V} {r : List (κ × V)} {k : κ} (e : p.1 = k) : yz (p :: r) k = some p.2 := by simp [yz, List.find?_cons, e]
theorem Vy {p : κ × V} {r : List (κ × V)} {k : κ} (e : ¬ p.1 = k) : yz (p :: r) k = yz r k := by simp [yz, List.find?_cons, e]
theorem yt.getD {o : Option V} {u : Option Value} {d : V} {d' : Value} (r : yt o u) (rd : zE d d') : zE (o.getD d) (u.getD d') := by
 cases o with
 | none => cases u with
  | none => exact rd
  | some _ => exact (show False from r).elim
 | some _ => cases u with
  | none => exact (show False from r).elim
  | some _ => exact r
theorem KV.val {kvs : List (κ × V)} {vs : List (κ × Value)} (r : KV kvs vs) (k : κ) : yt (yz kvs k) (valueAt vs k) := by
 unfold KV at r
 induction r with
 | nil => exact True.intro
 | @cons p q ps qs h t ih =>
  obtain ⟨h1, h2⟩ := h
  by_cases e : p.1 = k
  ·have e' : q.1 = k := h1.symm.trans e
   have b : valueAt (q :: qs) k = some q.2 := by simp [valueAt, List.find?_cons, e']
   rw [VE e, b]; exact h2
  ·have e' : ¬ q.1 = k := fun z => e (h1.trans z)
   have b : valueAt (q :: qs) k = valueAt qs k := by simp [valueAt, List.find?_cons, e']
   rw [Vy e, b]; exact ih
end
theorem Hm {P : Program} {w : World} {k : Key} {u : Value} (r : zE (kV k) u) : (jq P w).is k u = true := by
 cases k with
 | inl i => obtain ⟨t, e⟩ := (show ∃ t, u = Value.int i t from r); subst e; exact Qy P w i t
 | inr x => obtain ⟨t, e⟩ := (show ∃ t, u = Value.str x t from r); subst e; exact QT P w x t
section
variable {P : Program} {w : World} {H : Hp} {h : Heap} {a : Addr}
end
section
variable {X : Cx} {pins : List (Addr × Obj)} {σ : St} {H : Hp} {s : Shared} {a : Addr} {y v : V} {u r : Value} {o : Option V} {A : Around} {E : Value -> Shared -> Prop}
end
section
variable {X : Cx} {pins : List (Addr × Obj)} {σ : St} {H : Hp} {s : Shared} {a : Addr} {kvs : List (Key × V)} {k : Key} {u : Value} {A : Around} {E : Value -> Shared -> Prop}
end
section
variable {X : Cx} {o i e value : Expr} {pos pos' tpos : Pos} {td ty tv : TE}
end
section
variable {X : Cx} {pos : Pos}
end
structure M1 (X : Cx) (o : Expr) (m : Str) (apos : Pos) (e : Expr) (cpos : Pos) : Prop where
 base : attributeBase o m X.env (eval o X.env) = eval o X.env
 few : ((backTo cpos (starEach [e] X.env)).all (fun x => !x.1) && (backToKw cpos (keywordEach [] X.env)).all (fun x => x.1.isSome)
  && decide (([e] : List Expr).length + ([] : List Keyword).length + (if ([] : List Keyword).isEmpty then 0 else 1) < 30)) = true
 line : (apos.endLine == cpos.line) = true
 trees : backTo cpos (starEach [e] X.env) = [(false, eval e X.env)]
structure M2 (X : Cx) (o : Expr) (m : Str) (apos : Pos) (e f : Expr) (cpos : Pos) : Prop where
 base : attributeBase o m X.env (eval o X.env) = eval o X.env
 few : ((backTo cpos (starEach [e, f] X.env)).all (fun x => !x.1) && (backToKw cpos (keywordEach [] X.env)).all (fun x => x.1.isSome)
  && decide (([e, f] : List Expr).length + ([] : List Keyword).length + (if ([] : List Keyword).isEmpty then 0 else 1) < 30)) = true
 line : (apos.endLine == cpos.line) = true
 trees : backTo cpos (starEach [e, f] X.env) = [(false, eval e X.env), (false, eval f X.env)]
section
variable {X : Cx} {pins : List (Addr × Obj)} {σ : St} {H : Hp} {s : Shared} {a : Addr} {y d : V} {u r : Value} {o : Option V} {A : Around} {E : Value -> Shared -> Prop}
end
section
variable {X : Cx} {o e f : Expr} {apos cpos : Pos} {td ty tx : TE}
end
section
variable {X : Cx} {pins : List (Addr × Obj)} {σ : St} {H : Hp} {s : Shared} {a : Addr} {kvs : List (Key × V)} {A : Around} {E : Value -> Shared -> Prop}
end
section
variable {X : Cx} {pins : List (Addr × Obj)} {σ : St} {H : Hp} {s : Shared} {a : Addr} {y : V} {u : Value} {A : Around} {E : Value -> Shared -> Prop}
end
end L2
namespace L2
open PySem PySem.Spec PyProof.Rows
section
variable {κ : Type} [DecidableEq κ]
end
end L2
set_option Elab.async false
set_option linter.all false
set_option maxRecDepth 100000
set_option maxHeartbeats 4000000
namespace L2
open PySem PySem.Spec PyProof.Rows
noncomputable def Kg (N : List Str) (ts : List Nat) (sc : Scope) (kind : Str -> Option NameKind) : Bool :=
 sc.kind == .function && sc.names.all (fun y => y.2 != .cell && (y.2 != .local || sc.names.lookup y.1 == some .local) && (y.2 != .free || kind y.1 == some .cell || kind y.1 == some .free)) &&
  N.zipIdx.all (fun p => sc.names.lookup p.1 != some .local || ts.contains p.2)
noncomputable def qO (cells : List (Str × Addr)) : List (Str × NameKind) -> List (Str × Addr) -> List (Str × Addr)
 | [], acc => acc
 | (n, k) :: r, acc => qO cells r (if k = .free then (n, (cells.lookup n).getD 0) :: acc else acc)
theorem Zu {env : Env} : ∀ (names : List (Str × NameKind)) (acc : List (Str × Addr)), (∀ y ∈ names, y.2 = .free -> ∃ c, env.cells.lookup y.1 = some c) ->
  (forIn names acc fun (x : Str × NameKind) (cs : List (Str × Addr)) => (match x with | (name, kind) => if (kind == NameKind.free) = true then (do let c <- cellOf env name; pure (ForInStep.yield ((name, c) :: cs))) else pure (ForInStep.yield cs) : Sem (ForInStep (List (Str × Addr))))) = pure (qO env.cells names acc)
 | [], acc, _ => rfl
 | (n, k) :: r, acc, h => by
  rw [List.forIn_cons]
  by_cases hk : k = .free
  ·subst hk
   obtain ⟨c, hc⟩ := h (n, .free) List.mem_cons_self rfl
   have e1 : cellOf env n = pure c := by unfold cellOf; rw [hc]
   simp only [beq_self_eq_true, if_true, e1, pure_bind]
   rw [Zu r _ fun y hy => h y (List.mem_cons_of_mem _ hy)]
   show _ = pure (qO env.cells r (if NameKind.free = .free then _ else _))
   rw [if_pos rfl, hc]; rfl
  ·have hb : (k == NameKind.free) = false := by simpa using hk
   simp only [hb, Bool.false_eq_true, if_false, pure_bind]
   rw [Zu r _ fun y hy => h y (List.mem_cons_of_mem _ hy)]
   show _ = pure (qO env.cells r (if k = .free then _ else _))
   rw [if_neg hk]
theorem yw {cells : List (Str × Addr)} : ∀ (names : List (Str × NameKind)) (acc : List (Str × Addr)), (∀ y ∈ names, y.2 = .free -> ∃ c, cells.lookup y.1 = some c) -> (∀ x c, acc.lookup x = some c -> cells.lookup x = some c) ->
    (∀ x c, (qO cells names acc).lookup x = some c -> cells.lookup x = some c) /\ (∀ x c, acc.lookup x = some c -> ∃ c', (qO cells names acc).lookup x = some c') /\ ∀ y ∈ names, y.2 = .free -> ∃ c, (qO cells names acc).lookup y.1 = some c
  | [], acc, _, h2 => ⟨h2, fun x c e => ⟨c, e⟩, fun y hy => nomatch hy⟩
  | (n, k) :: r, acc, h1, h2 => by
    by_cases hk : k = .free
    · subst hk
      obtain ⟨c, hc⟩ := h1 (n, .free) List.mem_cons_self rfl
      have hc : cells.lookup n = some c := hc
      have e : qO cells ((n, .free) :: r) acc = qO cells r ((n, c) :: acc) := by
        show qO cells r (if NameKind.free = .free then _ else _) = _
        rw [if_pos rfl, hc]; rfl
      rw [e]
      obtain ⟨q1, q2, q3⟩ := yw (cells := cells) r ((n, c) :: acc) (fun y hy => h1 y (List.mem_cons_of_mem _ hy)) (fun x c' e' => by
        rw [List.lookup_cons] at e'
        cases hx : x == n with
        | true => rw [hx] at e'; have : x = n := by simpa using hx
                  subst this; cases e'; exact hc
        | false => rw [hx] at e'; exact h2 x c' e')
      refine ⟨q1, fun x c' e' => ?_, fun y hy hf => ?_⟩
      · cases hx : x == n with
        | true => exact q2 x c (by rw [List.lookup_cons, hx])
        | false => exact q2 x c' (by rw [List.lookup_cons, hx]; exact e')
      · rcases List.mem_cons.mp hy with rfl | hy
        · exact q2 n c (by rw [List.lookup_cons, beq_self_eq_true])
        · exact q3 y hy hf
    · have e : qO cells ((n, k) :: r) acc = qO cells r acc := by
        show qO cells r (if k = .free then _ else _) = _
        rw [if_neg hk]
      rw [e]
      obtain ⟨q1, q2, q3⟩ := yw (cells := cells) r acc (fun y hy => h1 y (List.mem_cons_of_mem _ hy)) h2
      refine ⟨q1, q2, fun y hy hf => ?_⟩
      rcases List.mem_cons.mp hy with rfl | hy
      · exact absurd hf hk
      · exact q3 y hy hf
theorem vQ {scope : Scope} {env : Env} (h : ∀ y ∈ scope.names, y.2 = .free -> ∃ c, env.cells.lookup y.1 = some c) :
  ∃ cl, closureFor scope env = pure cl /\ (∀ x c, cl.lookup x = some c -> env.cells.lookup x = some c) /\ ∀ y ∈ scope.names, y.2 = .free -> ∃ c, cl.lookup y.1 = some c := by
 obtain ⟨q1, _, q3⟩ := yw (cells := env.cells) scope.names [] h (fun x c e => nomatch e)
 refine ⟨qO env.cells scope.names [], ?_, q1, q3⟩
 unfold closureFor
 have := Zu (env := env) scope.names [] h
 first
  | exact this
  | (simp only [bind_pure]; exact this)
  | (refine Eq.trans ?_ this; simp)
theorem yf {env : Env} : ∀ {names : List (Str × NameKind)} {x : Str}, (names.map fun (n, k) => if (k == NameKind.free && env.scope.kind == .function && env.kindOf n == some .cell) then (n, NameKind.cell) else (n, k)).lookup x =
  (names.lookup x).map fun k => if (k == NameKind.free && env.scope.kind == .function && env.kindOf x == some .cell) then NameKind.cell else k
 | [], _ => rfl
 | (n, k) :: r, x => by
  have ih := @yf env r x
  rw [List.map_cons]
  cases hx : x == n with
  | true =>
   have e : x = n := by simpa using hx
   subst e
   rw [List.lookup_cons (as := r), beq_self_eq_true]
   show List.lookup x ((if (k == NameKind.free && env.scope.kind == .function && env.kindOf x == some .cell) = true then (x, NameKind.cell) else (x, k)) :: _) = some _
   by_cases hc : (k == NameKind.free && env.scope.kind == .function && env.kindOf x == some .cell) = true
   ·rw [if_pos hc, List.lookup_cons, beq_self_eq_true]; dsimp only; rw [if_pos hc]
   ·rw [if_neg hc, List.lookup_cons, beq_self_eq_true]; dsimp only; rw [if_neg hc]
  | false =>
   rw [List.lookup_cons (as := r), hx]
   show List.lookup x ((if (k == NameKind.free && env.scope.kind == .function && env.kindOf n == some .cell) = true then (n, NameKind.cell) else (n, k)) :: _) = _
   by_cases hc : (k == NameKind.free && env.scope.kind == .function && env.kindOf n == some .cell) = true
   ·rw [if_pos hc, List.lookup_cons, hx]; exact ih
   ·rw [if_neg hc, List.lookup_cons, hx]; exact ih
noncomputable abbrev cxC (X : Cx) (scope : Scope) (cl : List (Str × Addr)) (s : Shared) (H : Hp) (fp : List Addr) : Cx :=
 { X with s₀ := s, H₀ := H, env := compEnvC scope cl s.heap.objs.size X.env, outer := X.stack, ex := fp, fn := fun _ => false, pn := [], xe := fun _ _ => False }
noncomputable def clr : List Nat -> St -> St
 | [], σ => σ
 | j :: r, σ => clr r (σ.set j none)
theorem Xg : ∀ (ts : List Nat) (σ : St), (clr ts σ).length = σ.length
 | [], _ => rfl
 | j :: r, σ => by show (clr r (σ.set j none)).length = _; rw [Xg r]; simp
theorem Qw : ∀ (ts : List Nat) (σ : St) (i : Nat) (v : V), (clr ts σ)[i]? = some (some v) -> i ∉ ts /\ σ[i]? = some (some v)
 | [], _, _, _, h => ⟨by simp, h⟩
 | j :: r, σ, i, v, h => by
  obtain ⟨h1, h2⟩ := Qw r (σ.set j none) i v h
  by_cases e : j = i
  ·subst e
   rw [List.getElem?_set] at h2
   simp at h2
  ·rw [List.getElem?_set_ne e] at h2
   exact ⟨by simp [h1, Ne.symm e], h2⟩
structure ScF (X : Cx) (ts : List Nat) (scope : Scope) : Prop where
 kind : scope.kind = .function
 cell : ∀ y ∈ scope.names, y.2 ≠ .cell
 loc : ∀ y ∈ scope.names, y.2 = .local -> scope.names.lookup y.1 = some .local
 free : ∀ y ∈ scope.names, y.2 = .free -> X.env.kindOf y.1 = some .cell \/ X.env.kindOf y.1 = some .free
 ts : ∀ (i : Nat) x, X.N[i]? = some x -> scope.names.lookup x = some .local -> i ∈ ts
theorem VN {X : Cx} {ts : List Nat} {scope : Scope} (h : Kg X.N ts scope X.env.kindOf = true) : ScF X ts scope := by
  unfold Kg at h
  simp only [Bool.and_eq_true, List.all_eq_true, bne_iff_ne, ne_eq, Bool.or_eq_true, beq_iff_eq] at h
  obtain ⟨⟨h1, h2⟩, h3⟩ := h
  refine ⟨h1, fun y hy => (h2 y hy).1.1, fun y hy e => ?_, fun y hy e => ?_, fun i x e1 e2 => ?_⟩
  · rcases (h2 y hy).1.2 with z | z
    · exact absurd e z
    · exact z
  · rcases (h2 y hy).2 with (z | z) | z
    · exact absurd e z
    · exact .inl z
    · exact .inr z
  · have hm : (x, i) ∈ X.N.zipIdx := by
      rw [List.mem_zipIdx_iff_getElem?]; exact e1
    rcases h3 _ hm with z | z
    · exact absurd e2 z
    · simpa using z
section
variable {X : Cx} {ts : List Nat} {scope : Scope} {pins : List (Addr × Obj)} {σ : St} {H : Hp} {s : Shared} {fp : List Addr}
theorem wd (I : Inv X pins σ H s) (S : ScF X ts scope) (hf : ∀ b ∈ fp, xB X pins H b) (hfl : ∀ b ∈ fp, b < s.heap.objs.size) {cl : List (Str × Addr)} (c1 : ∀ x c, cl.lookup x = some c -> X.env.cells.lookup x = some c)
  (c2 : ∀ y ∈ scope.names, y.2 = .free -> ∃ c, cl.lookup y.1 = some c) {h1 : Heap} {t1 : Nat} (hns : h1.Ns s.heap.objs.size (fun x => ([] : List (Str × Value)).reverse.lookup x))
  (hk : ∀ b o, s.heap.get? b = some o -> h1.get? b = some o) : Inv (cxC X scope cl s H fp) [] (clr ts σ) H { s with heap := h1, toks := t1 } := by
 have hlk : ∀ x, (relabel scope X.env).names.lookup x = (scope.names.lookup x).map fun k => if (k == NameKind.free && X.env.scope.kind == .function && X.env.kindOf x == some .cell) then NameKind.cell else k := fun x => yf
 have cfree : ∀ x, ((relabel scope X.env).names.lookup x = some .cell \/ (relabel scope X.env).names.lookup x = some .free) -> (x, NameKind.free) ∈ scope.names := fun x hx => by
  rw [hlk] at hx
  cases e : scope.names.lookup x with
  | none => rw [e] at hx; rcases hx with hx | hx <;> cases hx
  | some k =>
   have hm := mem_of_lookup_some e
   cases k with
   | free => exact hm
   | cell => exact absurd rfl (S.cell _ hm)
   | «local» => rw [e] at hx; rcases hx with hx | hx <;> cases hx
   | globalExplicit => rw [e] at hx; rcases hx with hx | hx <;> cases hx
   | globalImplicit => rw [e] at hx; rcases hx with hx | hx <;> cases hx
 have ccell : ∀ x c, cl.lookup x = some c -> ∃ v, s.heap.IsCell c v := fun x c e => I.cell x c (c1 x c e)
 have fpne : ∀ b ∈ fp, b ∉ frs X.stack := fun b hb z => by
  obtain ⟨_, f1, f2, _⟩ := hf b hb
  rcases List.mem_cons.mp (I.stkSub b z) with e | e
  ·exact f1 e
  ·exact f2 e
 refine ⟨⟨I.ok.mod, S.kind, I.ok.glob, I.ok.blt, Nat.le_refl _, fun x y c e1 e2 => I.ok.inj x y c (c1 x c e1) (c1 y c e2), fun x hx => c2 (x, .free) (cfree x hx) rfl, (fun x c hx => nomatch hx), I.ok.hd, I.ok.frames, .inl rfl, fun b hb => ⟨Nat.ne_of_lt (hfl b hb), fun x c e => (hf b hb).2.2.2.2.1 x c (c1 x c e)⟩,
  I.bs, Nat.le_trans I.ok.bsz I.sz, fun b o e hb => ?_, fpne, I.stack, I.stkFree⟩, rfl, I.bare, Un.kept hk, ⟨_, hns, fun i x v e1 e2 e3 => ?_⟩, fun x c e => ?_, I.hok.fresh (Nat.le_refl _), fun x c e => I.freeC x c (c1 x c e), fun p hp => absurd hp (by simp), I.hok.kept hk, by rw [Xg]; exact I.len⟩
 ·rcases (hf b hb).2.2.2.1 with z | z
  ·exact I.ok.noex b o e z
  ·exact absurd (Nat.lt_of_lt_of_le (Heap.lt_size e) (Nat.le_trans I.ok.bsz z)) (Nat.lt_irrefl _)
 ·obtain ⟨nt, e2⟩ := Qw ts σ i v e2
  have e3' : (relabel scope X.env).names.lookup x = some .local \/ (relabel scope X.env).names.lookup x = some .cell \/ (relabel scope X.env).names.lookup x = some .free := e3
  rcases e3' with z | z
  ·rw [hlk] at z
   cases e : scope.names.lookup x with
   | none => rw [e] at z; cases z
   | some k =>
    rw [e] at z
    have z' : (if (k == NameKind.free && X.env.scope.kind == .function && X.env.kindOf x == some .cell) = true then NameKind.cell else k) = .local := Option.some.inj z
    split at z'
    ·cases z'
    ·subst z'
     exact absurd (S.ts i x e1 e) nt
  ·have hm := cfree x z
   obtain ⟨c, hc⟩ := c2 _ hm rfl
   obtain ⟨m, hn, hl⟩ := I.loc
   have vis : Vis X.env.scope x := by
    rcases S.free _ hm rfl with q | q
    ·exact .inr (.inl q)
    ·exact .inr (.inr q)
   obtain ⟨u, r, l⟩ := hl i x v e1 e2 vis
   refine ⟨u, r, .inr ⟨z, c, hc, ?_⟩⟩
   rcases l with ⟨q, _⟩ | ⟨_, c', hc', hcell⟩
   ·rcases S.free _ hm rfl with q' | q'
    ·rw [q'] at q; cases q
    ·rw [q'] at q; cases q
   ·rw [c1 x c hc] at hc'
    cases hc'
    obtain ⟨o, ho, hd⟩ := hcell
    exact ⟨o, hk _ _ ho, hd⟩
 ·obtain ⟨v, o, ho, hd⟩ := ccell x c e
  exact ⟨v, o, hk _ _ ho, hd⟩
end
section
variable {prog : Program} {w : World} {A : Around} {R : Result -> Shared -> Prop} {s : Shared}
theorem xA {elt target iter : Expr} {ifs : List Expr} {scope : Scope} {pos : Pos} {it acc : Value} {env : Env} (I : Nat -> Shared -> Prop)
    (turn : ∀ n s, I n s -> wpAny (model prog w) A (pyNext it) (fun r s₁ => match r with
      | none => R (.ok .next) s₁
      | some v => wpAny (model prog w) A (letOwnedTupleGo target it v) (fun _ s₀ => wpAny (model prog w) A (assign target env v) (fun _ s₂ =>
          wpAny (model prog w) A (forIn ifs true fun c r => if r = true then do let ok <- isTrue c env (eval c env); pure (ForInStep.yield ok) else pure (ForInStep.yield r)) (fun ok s₃ =>
            if ok = true then wpAny (model prog w) A (eval elt env) (fun x s₄ =>
              wpAny (model prog w) A (call (.builtin "list.append") [acc, x]) (fun _ s₅ => ∃ m, m < n /\ I m s₅) (fun _ _ => False) s₄) (fun _ _ => False) s₃
            else ∃ m, m < n /\ I m s₃) (fun _ _ => False) s₂) (fun _ _ => False) s₀) (fun _ _ => False) s₁) (fun _ _ => False) s)
    (n : Nat) (h : I n s) :
    codeAny (model prog w) A (.compLoop (.ListComp elt [⟨target, iter, ifs, 0⟩] scope pos) 0 it acc env) R s := by
  refine codeAny_loop rfl I (fun n s hI => ?_) n h
  show wpAny _ A ((compTurn (.ListComp elt [⟨target, iter, ifs, 0⟩] scope pos) 0 it acc env).onRaise (fun x => do noteFrame x env; theTreesLotGoes x)) _ _ s
  refine wpAny_noted ?_
  rw [compTurn_list]
  refine wpAny_bind (wpAny_standAt (wpAny_bind (wpAny_mono (turn n s hI) (fun r s₁ h₁ => ?_) fun _ _ h' => h'.elim)))
  cases r with
  | none => exact wpAny_pure h₁
  | some v =>
    refine wpAny_bind (wpAny_mono h₁ (fun _ s₀ h₀ => ?_) fun _ _ h' => h'.elim)
    refine wpAny_bind (wpAny_mono h₀ (fun _ s₂ h₂ => wpAny_bind (wpAny_mono h₂ (fun ok s₃ h₃ => ?_) fun _ _ h' => h'.elim)) fun _ _ h' => h'.elim)
    cases ok with
    | false => exact wpAny_pure ⟨rfl, h₃⟩
    | true =>
      exact wpAny_bind (wpAny_bind (wpAny_mono h₃ (fun x s₄ h₄ => wpAny_bind (wpAny_mono h₄ (fun _ s₅ h₅ => wpAny_pure (wpAny_pure ⟨rfl, h₅⟩)) fun _ _ h' => h'.elim)) fun _ _ h' => h'.elim))
end
noncomputable def Ac : TT := fun _ H Q => Q true H
noncomputable def PIf (X : Cx) (ifs : List Expr) (t : TT) : Prop :=
 ∀ (pins : List (Addr × Obj)) (s : Shared) (σ : St) (H : Hp) (Q : Bool -> Hp -> Prop), Inv X pins σ H s -> t σ H Q ->
  wpAny (model X.prog X.w) X.A (forIn ifs true fun c r => if r = true then do let ok <- isTrue c X.env (eval c X.env); pure (ForInStep.yield ok) else pure (ForInStep.yield r)) (TP X pins σ Q) X.xe s
theorem qS {X : Cx} : PIf X [] Ac := fun _ _ _ H _ I h => wpAny_tests_nil ⟨H, I, h⟩
theorem AY {X : Cx} {c : Expr} {t : TT} (h : PT X c t) : PIf X [c] t := fun pins s σ H Q I hq => wpAny_tests_one (h pins s σ H Q I hq)
noncomputable def QS (ts : List Nat) (wi : TI) (g : TG) (tt : TT) (te : TE) : TE := fun σ H Q => wi σ H fun J H1 => ∀ D, H1 D = none -> ∃ W : Nat -> Nat -> St -> Hp -> Prop, (∃ m, W 0 m (clr ts σ) (upd H1 D (.lst []))) /\ ∀ i m τ H2, W i m τ H2 ->
 (J.stop i H2 /\ Q (.ref D) H2) \/ (J.go i H2 /\ ∃ N : St -> Hp -> Prop, (∀ τ' H', N τ' H' -> ∃ m', m' < m /\ W (i + 1) m' τ' H') /\ ∀ x H', J.yld i H2 x H' -> g x τ H' fun τ2 H3 => tt τ2 H3 fun b H4 =>
  if b = true then te τ2 H4 fun v H5 => ∃ ys, H5 D = some (.lst ys) /\ ys.length < sizeLine /\ N τ2 (upd H5 D (.lst (ys ++ [v]))) else N τ2 H4)
section
variable {X : Cx} {ts : List Nat} {scope : Scope} {tg iter elt : Expr} {ifs : List Expr} {wi : TI} {g : TG} {tt : TT} {te : TE} {pos : Pos}
theorem Q2 (hc : X.calm = true) (hsc : Kg X.N ts scope X.env.kindOf = true) (hi : PI X tg iter wi) (hg : ∀ cl s H fp, PG (cxC X scope cl s H fp) tg g) (ht : ∀ cl s H fp, PIf (cxC X scope cl s H fp) ifs tt) (he : ∀ cl s H fp, PE (cxC X scope cl s H fp) elt te)
  {pins : List (Addr × Obj)} {s : Shared} {σ : St} {H : Hp} {Q : VK} (I : Inv X pins σ H s) (h : QS ts wi g tt te σ H Q) {use : Option (Value -> Sem Unit)} {Q' : Value -> Shared -> Prop}
  (fin : ∀ (D C : Addr) (H' : Hp) (s' : Shared), Inv X pins σ H' s' -> (∃ m, s'.heap.Ns C m) -> H' C = none -> C ≠ X.env.locals -> (∀ x c, X.env.cells.lookup x = some c -> c ≠ C) -> X.s₀.heap.objs.size <= C -> (∀ p ∈ X.pn ++ pins, p.1 ≠ C) -> C ∉ X.fs -> Q (.ref D) H' ->
   compPost (model X.prog X.w) X.A X.xe use Q' (.ref D) C (.ok .next) s')
  (hs : ∀ x, foldedSetIterable iter X.env x = pure x) :
  wpAny (model X.prog X.w) X.A (comprehension (.ListComp elt [⟨tg, iter, ifs, 0⟩] scope pos) scope X.env (firstIterPos [⟨tg, iter, ifs, 0⟩] pos) (newList []) false (eval iter X.env) use) Q' X.xe s := by
 have S := VN hsc
 obtain ⟨cl, hcl, c1, c2⟩ := vQ (scope := scope) (env := X.env) fun y hy e => I.ok.has y.1 (S.free y hy e)
 refine wpAny_comprehension_free (use := use) rfl hs hcl S.kind S.loc ?_
 refine wpAny_mono (hi pins s σ H _ I h) (fun v s1 h1 => wpAny_mono h1 (fun itv s2 h2 => ?_) fun _ _ e => e) fun _ _ e => e
 obtain ⟨it, fp, tn, J, H2, e, I2, T, st2, f2, q2⟩ := h2
 subst e
 have hD : H2 s2.heap.objs.size = none := I2.hok.fresh (Nat.le_refl _)
 obtain ⟨W, ⟨m0, w0⟩, turn⟩ := q2 _ hD
 refine wpAny_newObj_type (wpAny_newFunctionEnv S.cell (by intro y hy; simp at hy) (fun h₁ hns₁ hsb₁ => ?_) S.kind)
 dsimp only at hns₁ hsb₁ ⊢
 generalize hh3 : s2.heap.push { cls := .type "list", dict := none, data := .seq ([] : List Value).toArray } = g3 at hns₁ hsb₁ ⊢
 have I3 : Inv X pins σ (upd H2 s2.heap.objs.size (.lst [])) { s2 with heap := g3 } := by
  rw [<- hh3]
  exact I2.laid (t' := s2.toks) (fun b u e => Heap.get?_push_of_some _ e) (Nat.le_refl _) ⟨Nat.zero_le _, [], _, .nil, Heap.get?_push_size _ rfl⟩
 have st3 : tn 0 g3 := T.keep _ _ _ st2 fun b _ o e => by rw [<- hh3]; exact Heap.get?_push_of_some _ e
 have lt2 : ∀ b ∈ fp, b < s2.heap.objs.size := fun b hb => by obtain ⟨o, e, _⟩ := T.obj _ _ st2 b hb; exact Heap.lt_size e
 have hsz3 : g3.objs.size = s2.heap.objs.size + 1 := by rw [<- hh3, Heap.size_push]
 have f3 : ∀ b ∈ fp, xB X pins (upd H2 s2.heap.objs.size (.lst [])) b := fun b hb => ⟨by rw [zj (Nat.ne_of_lt (lt2 b hb))]; exact (f2 b hb).1, (f2 b hb).2⟩
 have lt3 : ∀ b ∈ fp, b < g3.objs.size := fun b hb => by rw [hsz3]; exact Nat.lt_succ_of_lt (lt2 b hb)
 have old : ∀ b o, g3.get? b = some o -> h₁.get? b = some o := fun b o e => hsb₁.extBut b o (Nat.ne_of_lt (Heap.lt_size e)) (Heap.get?_push_of_some _ e)
 have hns : h₁.Ns g3.objs.size (fun x => ([] : List (Str × Value)).reverse.lookup x) := hns₁
 have I4 : ∀ t, Inv (cxC X scope cl { s2 with heap := g3 } (upd H2 s2.heap.objs.size (.lst [])) fp) [] (clr ts σ) (upd H2 s2.heap.objs.size (.lst [])) { s2 with heap := h₁, toks := t } := fun t => wd I3 S f3 lt3 c1 c2 hns old
 have fpne : ∀ b ∈ fp, b ∉ frs X.stack := fun b hb z => by
  obtain ⟨_, f1, f2, _⟩ := f3 b hb
  rcases List.mem_cons.mp (I3.stkSub b z) with e | e
  ·exact f1 e
  ·exact f2 e
 have stat : ∀ {H' : Hp}, (∀ b ∈ fp, H' b = none) -> ∀ b ∈ fp, xB (cxC X scope cl { s2 with heap := g3 } (upd H2 s2.heap.objs.size (.lst [])) fp) [] H' b := fun hn b hb =>
  ⟨hn b hb, Nat.ne_of_lt (lt3 b hb), fpne b hb, .inl hb, fun x c e => (f2 b hb).2.2.2.2.1 x c (c1 x c e), fun p hp => absurd hp (by simp)⟩
 have loop : ∀ t, codeAny (model X.prog X.w) X.A (.compLoop (.ListComp elt [⟨tg, iter, ifs, 0⟩] scope pos) 0 (.ref it) (.ref s2.heap.objs.size) (compEnvC scope cl g3.objs.size X.env))
   (compPost (model X.prog X.w) X.A X.xe use Q' (.ref s2.heap.objs.size) g3.objs.size) { s2 with heap := h₁, toks := t } := by
  intro t
  refine xA (fun n s' => ∃ i τ H', Inv (cxC X scope cl { s2 with heap := g3 } (upd H2 s2.heap.objs.size (.lst [])) fp) [] τ H' s' /\ tn i s'.heap /\ (∀ b ∈ fp, H' b = none) /\ W i n τ H') ?_ m0
   ⟨0, clr ts σ, _, I4 t, T.keep _ _ _ st3 fun b _ o e => old b o e, fun b hb => (f3 b hb).1, w0⟩
  rintro n s5 ⟨i, τ, H5, I5, st5, fr5, w5⟩
  rcases turn i n τ H5 w5 with ⟨stop, qn⟩ | ⟨go, N, hN, step⟩
  ·refine thn (T.done (cxC X scope cl { s2 with heap := g3 } (upd H2 s2.heap.objs.size (.lst [])) fp) rfl rfl rfl hc i [] s5 τ H5 _ I5 (stat fr5) st5 stop) fun r s6 ⟨hr, I6⟩ => ?_
   subst hr
   have base : Un (frs X.stack) fp (upd H2 s2.heap.objs.size (.lst [])) H5 g3 s6.heap := I6.base
   have J6 : Inv X pins σ H5 s6 := I3.call' (ch := fp) I6.os base I6.hok I6.bare fun b hb => ⟨(f3 b hb).2.2.2.1, (f3 b hb).2.1, (f3 b hb).2.2.2.2.1, (f3 b hb).2.2.2.2.2⟩
   obtain ⟨m6, n6, _⟩ := I6.loc
   have hC : g3.get? g3.objs.size = none := Heap.get?_none_of_le (Nat.le_refl _)
   refine fin _ g3.objs.size H5 s6 J6 ⟨m6, n6⟩ I6.free (Nat.ne_of_gt I3.lt) (fun x c e z => ?_) I3.sz (fun p hp z => ?_) (I3.nofs (Nat.le_refl _)) qn
   ·obtain ⟨v, q⟩ := I3.cell x c e
    exact absurd q.lt (by rw [z]; exact Nat.lt_irrefl _)
   ·exact absurd (Heap.lt_size (I3.pin p hp).1) (by rw [z]; exact Nat.lt_irrefl _)
  ·refine thn (T.item (cxC X scope cl { s2 with heap := g3 } (upd H2 s2.heap.objs.size (.lst [])) fp) rfl rfl rfl hc i [] s5 τ H5 _ I5 (stat fr5) st5 go) fun r s6 ⟨u, hr, h6⟩ => ?_
   subst hr
   refine thn h6 fun _ s7 ⟨x, H7, I7, r7, y7, st7, fr7⟩ => ?_
   have I7' := I7.pinned (stat fr7) (T.obj _ _ st7)
   refine thn (hg cl { s2 with heap := g3 } _ fp _ s7 τ H7 x u _ I7' r7 (step x H7 y7)) fun _ s8 ⟨τ8, H8, I8, q8⟩ => ?_
   refine thn (ht cl { s2 with heap := g3 } _ fp _ s8 τ8 H8 _ I8 q8) fun b s9 ⟨H9, I9, q9⟩ => ?_
   have again : ∀ {τ9 : St} {H9 : Hp} {s9 : Shared}, Inv (cxC X scope cl { s2 with heap := g3 } (upd H2 s2.heap.objs.size (.lst [])) fp) ([] ++ yB fp s7.heap) τ9 H9 s9 -> N τ9 H9 ->
     ∃ m, m < n /\ ∃ i τ H', Inv (cxC X scope cl { s2 with heap := g3 } (upd H2 s2.heap.objs.size (.lst [])) fp) [] τ H' s9 /\ tn i s9.heap /\ (∀ b ∈ fp, H' b = none) /\ W i m τ H' := fun {τ9 H9 s9} I9 n9 => by
    obtain ⟨m', hm, w9⟩ := hN _ _ n9
    refine ⟨m', hm, i + 1, τ9, H9, I9.unpinned, T.keep _ _ _ st7 fun b hb o e => (I9.pin (b, o) (List.mem_append_right _ (List.mem_append_right _ (qV hb e)))).1, fun b hb => ?_, w9⟩
    obtain ⟨o, e, d⟩ := T.obj _ _ st7 b hb
    exact (I9.pin (b, o) (List.mem_append_right _ (List.mem_append_right _ (qV hb e)))).2.1
   cases b with
   | false =>
    rw [if_neg Bool.false_ne_true] at q9 ⊢
    exact again I9 q9
   | true =>
    rw [if_pos rfl] at q9 ⊢
    refine thn (he cl { s2 with heap := g3 } _ fp _ s9 τ8 H9 _ I9 q9) fun y s10 ⟨v, H10, I10, r10, ys, hys, hlen, n10⟩ => ?_
    exact thn (yA (X := cxC X scope cl { s2 with heap := g3 } (upd H2 s2.heap.objs.size (.lst [])) fp) _ s10 τ8 H10 (.ref s2.heap.objs.size) [v] (.ref s2.heap.objs.size) [y] (fun _ H11 => N τ8 H11) I10 rfl (.cons r10 .nil) ⟨_, ys, v, rfl, rfl, hys, hlen, n10⟩) fun _ s11 ⟨_, H11, I11, _, n11⟩ => again I11 n11
 have LW := loop (s2.toks + ([] : List (Str × Value)).length)
 exact codeAny_compStart_list LW (T.self _ 0 _ _ _ (T.keep _ _ _ st3 fun b _ o e => old b o e) LW)
end
end L2
set_option Elab.async false
set_option linter.all false
set_option maxRecDepth 100000
set_option maxHeartbeats 4000000
namespace L2
open PySem PySem.Spec PyProof.Rows
section
variable {X : Cx} {ts : List Nat} {scope : Scope} {tg iter elt : Expr} {ifs : List Expr} {wi : TI} {g : TG} {tt : TT} {te : TE} {pos : Pos}
theorem jp (hc : X.calm = true) (hsc : Kg X.N ts scope X.env.kindOf = true) (hi : PI X tg iter wi) (hg : ∀ cl s H fp, PG (cxC X scope cl s H fp) tg g) (ht : ∀ cl s H fp, PIf (cxC X scope cl s H fp) ifs tt) (he : ∀ cl s H fp, PE (cxC X scope cl s H fp) elt te)
  (hs : ∀ x, foldedSetIterable iter X.env x = pure x := by intro _; rfl) : PE X (.ListComp elt [⟨tg, iter, ifs, 0⟩] scope pos) (QS ts wi g tt te) := by
 intro pins s σ H Q I h
 rw [eval_ListComp]
 refine Q2 hc hsc hi hg ht he I h (use := none) (fun D C H' s' I' ⟨m, hn⟩ hC hL hce hsz hp hfs q => ⟨m, hn, fun h' hs' => ?_⟩) hs
 exact ⟨.ref D, H', I'.turned (t' := s'.toks) (it := C) (fun b o hb e => (hs'.2 b hb).trans e) hC hL (.inr hsz) hce hp, rfl, q⟩
theorem Dx {j : Nat} {y : Str} {py spos : Pos} (hc : X.calm = true) (hN : X.N.Nodup) (hj : X.N[j]? = some y) (hy : Loc X.env.scope y) (hsc : Kg X.N ts scope X.env.kindOf = true) (hi : PI X tg iter wi) (hg : ∀ cl s H fp, PG (cxC X scope cl s H fp) tg g) (ht : ∀ cl s H fp, PIf (cxC X scope cl s H fp) ifs tt) (he : ∀ cl s H fp, PE (cxC X scope cl s H fp) elt te)
  (hsw : swapsWith (.ListComp elt [⟨tg, iter, ifs, 0⟩] scope pos) (some (.Name y py)) spos.line X.env = pure true := by rfl)
  (hs : ∀ x, foldedSetIterable iter X.env x = pure x := by intro _; rfl) (hf : X.fn y = true \/ X.env.scope.names.lookup y = some .local := by first | exact .inl rfl | exact .inr rfl | assumption) :
  PS X (.Assign [.Name y py] (.ListComp elt [⟨tg, iter, ifs, 0⟩] scope pos) spos) (VB (QS ts wi g tt te) (QE j)) := by
 intro pins s σ H D I h
 rw [exec_Assign_Name_used _ _ _ _ hsw]
 refine wpAny_bind (wpAny_standAt (wpAny_bind ?_))
 show wpAny _ _ (do let _ <- comprehension (.ListComp elt [⟨tg, iter, ifs, 0⟩] scope pos) scope X.env _ (newList []) false (eval iter X.env) (some (assign (.Name y py) X.env))) _ _ s
 refine wpAny_bind (wpAny_mono (Q2 hc hsc hi hg ht he I h (use := some (assign (.Name y py) X.env)) (Q' := fun _ s' => SP X pins D .next s') (fun D' C H' s' I' ⟨m, hn⟩ hC hL hce hsz hp hfs q => ?_) hs) (fun _ s' hq => wpAny_pure (wpAny_pure hq)) fun _ _ e => e)
 show wpAny _ _ (assign (.Name y py) X.env (.ref D')) _ _ _
 refine wpAny_assign_Name (wI (v := .ref D') I' hN hj hy rfl (fun s2 I2 ⟨a, hsb, ha⟩ => ?_) hf)
 have hCa : C ≠ a := by
  rcases ha with rfl | ha
  ·exact hL
  ·exact Ne.symm (hce y a ha)
 refine ⟨m, hn.sameBut hsb hCa, fun h' hs' => ?_⟩
 exact ⟨_, H', I2.turned (t' := s2.toks) (it := C) (fun b o hb e => (hs'.2 b hb).trans e) hC hL (.inr hsz) hce hp, q⟩
end
noncomputable def Ite (K : PySem.W.Frag) (a : Addr) : It :=
 ⟨fun i H => ∃ xs x, SqL K H a xs /\ xs[i]? = some x, fun i H y H' => ∃ p x, H p = none /\ y = .ref p /\ (∀ xs, SqL K H a xs -> xs[i]? = some x) /\ H' = upd H p (.tup [.int i, x]), fun i H => ∃ xs, SqL K H a xs /\ xs.length <= i⟩
theorem wY {P : Program} {w : World} {K : PySem.W.Frag} {es : List Expr} {kt : Nat} {tp : Pos} (a e it : Addr) (hei : e ≠ it) : ZF P w K (.Tuple es kt tp) (Ite K a) [e, it] e (fun i h => (∃ old, IsEnum h e it (i : Nat) old) /\ h.IsListIter it a i) where
 mem := by simp
 obj := fun i h st b hb => by
  obtain ⟨⟨old, he⟩, ⟨o, e1, c, d⟩⟩ := st
  rcases List.mem_cons.mp hb with rfl | hb
  ·exact ⟨_, he, fun v z => by have z' : Data.fields _ = Data.cell v := z; cases z'⟩
  ·have e2 : b = it := by simpa using hb
   subst e2
   exact ⟨o, e1, fun v z => by rw [d] at z; cases z⟩
 keep := fun i h h' st k => by
  obtain ⟨⟨old, he⟩, st⟩ := st
  exact ⟨⟨old, k e (by simp) _ he⟩, st.at fun o e => k it (by simp) o e⟩
 item := by
  intro X hP hw hK hc i pins s σ H E I hf st hg
  subst hP hw hK
  obtain ⟨⟨old, he⟩, st⟩ := st
  obtain ⟨xs, x, hq, hx⟩ := hg
  obtain ⟨its, rv, p, hz⟩ := I.list hq
  obtain ⟨u, hu, ru⟩ := rv.get hx
  have fe := hf e (by simp)
  have fi := hf it (by simp)
  refine wpAny_pyNext_enum_item he st p.isList (x := u) (by simpa using hu) hei fun h1 heo hit1 ht1 hz1 hk1 => ?_
  refine ⟨.ref s.heap.objs.size, rfl, wpAny_letOwnedTupleGo_enum heo fun h2 he2 hs2 => ?_⟩
  replace hs2 : Heap.SameBut e h1 h2 := hs2
  have elt : e < s.heap.objs.size := Heap.lt_size he
  have hfr : H s.heap.objs.size = none := I.hok.fresh (Nat.le_refl _)
  have ht2 : h2.get? s.heap.objs.size = some { cls := .type "tuple", data := .seq #[.int i s.toks, u] } := (hs2.2 _ (Nat.ne_of_gt elt)).trans ht1
  have kk : ∀ b o, b ∉ [e, it] -> s.heap.get? b = some o -> h2.get? b = some o := fun b o hc q => by
   have n1 : b ≠ e := fun z => hc (by simp [z])
   have n2 : b ≠ it := fun z => hc (by simp [z])
   exact (hs2.2 b n1).trans (hk1 b o n1 n2 q)
  have nb : ∀ c v, H c = some v -> c ∉ [e, it] := fun c v z hm => by
   rcases List.mem_cons.mp hm with z' | z'
   ·rw [z', fe.1] at z; cases z
   ·have e2 : c = it := by simpa using z'
    rw [e2, fi.1] at z; cases z
  have I2 : Inv X pins σ (upd H s.heap.objs.size (.tup [.int i, x])) { s with heap := h2, toks := s.toks + 1 } := by
   refine I.step (g' := s.gens) (d' := s.drawn) (ch := [e, it]) (fun b hb => ?_) (fun b o _ _ hc q _ => kk b o hc q) (fun b o _ _ hc q _ => ⟨o.slots, kk b o hc q⟩) (fun b o _ q n => by rw [zj (Nat.ne_of_lt (Heap.lt_size q))]; exact n) (fun b o hc q => ⟨o, kk b o hc q⟩)
    (fun b xs q => by rw [zj (zm q hfr)]; exact q) (fun b o u q => by rw [zj (zm q hfr)]; exact q) (fun b ps q => ⟨#[], by rw [zj (zm q hfr), q]; simp⟩) (fun m hm => ?_) (fun b v q => ?_) I.bare
   ·rcases List.mem_cons.mp hb with z | hb
    ·rw [z]; exact ⟨fe.2.2.2.1, fe.2.1, fe.2.2.2.2.1, fe.2.2.2.2.2⟩
    ·have e2 : b = it := by simpa using hb
     rw [e2]; exact ⟨fi.2.2.2.1, fi.2.1, fi.2.2.2.2.1, fi.2.2.2.2.2⟩
   ·obtain ⟨o, es, ep, ho, r⟩ := hm
    exact ⟨o, es, ep, kk _ o (by simp [Ne.symm fe.2.1, Ne.symm fi.2.1]) ho, r⟩
   ·by_cases hb : b = s.heap.objs.size
    ·subst hb
     rw [zh] at q
     cases q
     exact ⟨by show 2 <= sizeLine; decide, [.int i s.toks, u], .cons ⟨_, rfl⟩ (.cons ru .nil), _, ht2, rfl, ⟨_, rfl⟩, rfl⟩
    ·rw [zj hb] at q
     refine (I.hok b v q).stay (fun c o hc q' => kk c o ?_ q') (fun c z => by rw [zj (zm z hfr)]; exact z) fun c xs z => by rw [zj (zm z hfr)]; exact z
     rcases hc with z | z
     ·rw [z]; exact nb b v q
     ·exact nb c _ z
  refine ⟨.ref s.heap.objs.size, _, I2, rfl, ⟨s.heap.objs.size, x, hfr, rfl, fun ys hy => by rw [I.list_inj hy hq]; exact hx, rfl⟩, ⟨⟨_, by simpa using he2⟩, hit1.extBut hs2.extBut (Ne.symm hei)⟩, fun b hb => ?_⟩
  have hlt : b < s.heap.objs.size := by
   rcases List.mem_cons.mp hb with rfl | hb
   ·exact elt
   ·have e2 : b = it := by simpa using hb
    subst e2
    obtain ⟨o, e1, _⟩ := st
    exact Heap.lt_size e1
  rw [zj (Nat.ne_of_lt hlt)]
  exact (hf b hb).1
 done := by
  intro X hP hw hK hc i pins s σ H E I hf st hg
  subst hP hw hK
  obtain ⟨⟨old, he⟩, st⟩ := st
  obtain ⟨xs, hq, hx⟩ := hg
  obtain ⟨its, rv, p, hz⟩ := I.list hq
  obtain ⟨f0, f1, f2, f3, f4, f5⟩ := hf it (by simp)
  have hl := rv.length
  exact wpAny_pyNext_enum_end (I.ok.hd hc) he st p.isList (by simp; omega) fun h' eb => ⟨rfl, I.turned (t' := s.toks) (fun b o hb e => eb b o hb e) f0 f1 f3 f4 f5⟩
 self := fun _ _ _ _ _ st h => by
  obtain ⟨⟨old, he⟩, _⟩ := st
  exact wpAny_pyIter_enum he h
end L2
set_option Elab.async false
set_option linter.all false
set_option maxRecDepth 100000
set_option maxHeartbeats 4000000
namespace L2
open PySem PySem.Spec PyProof.Rows
section
variable {X : Cx} {pins : List (Addr × Obj)} {σ : St} {H : Hp} {s : Shared}
theorem Inv.yieldTup {ch : List Addr} {h2 : Heap} {tk : Nat} {T : Addr} {xs : List V} {us : List Value} (I : Inv X pins σ H s) (hf : ∀ b ∈ ch, xB X pins H b) (kk : ∀ b o, b ∉ ch -> s.heap.get? b = some o -> h2.get? b = some o) (hT : s.heap.objs.size <= T)
  (ht2 : h2.get? T = some { cls := .type "tuple", data := .seq us.toArray }) (rv : zF xs us) (hz : xs.length <= sizeLine) : Inv X pins σ (upd H T (.tup xs)) { s with heap := h2, toks := tk } := by
 have hfr : H T = none := I.hok.fresh hT
 have nb : ∀ c v, H c = some v -> c ∉ ch := fun c v z hm => by rw [(hf c hm).1] at z; cases z
 refine I.step (g' := s.gens) (d' := s.drawn) (ch := ch) (fun b hb => ⟨(hf b hb).2.2.2.1, (hf b hb).2.1, (hf b hb).2.2.2.2.1, (hf b hb).2.2.2.2.2⟩) (fun b o _ _ hc q _ => kk b o hc q) (fun b o _ _ hc q _ => ⟨o.slots, kk b o hc q⟩)
  (fun b o _ q n => by rw [zj (Nat.ne_of_lt (Nat.lt_of_lt_of_le (Heap.lt_size q) hT))]; exact n) (fun b o hc q => ⟨o, kk b o hc q⟩)
  (fun b xs q => by rw [zj (zm q hfr)]; exact q) (fun b o u q => by rw [zj (zm q hfr)]; exact q) (fun b ps q => ⟨#[], by rw [zj (zm q hfr), q]; simp⟩) (fun m hm => ?_) (fun b v q => ?_) I.bare
 ·obtain ⟨o, es, ep, ho, r⟩ := hm
  exact ⟨o, es, ep, kk _ o (fun z => (hf _ z).2.1 rfl) ho, r⟩
 ·by_cases hb : b = T
  ·subst hb
   rw [zh] at q
   cases q
   exact ⟨hz, us, rv, _, ht2, rfl, ⟨_, rfl⟩, rfl⟩
  ·rw [zj hb] at q
   refine (I.hok b v q).stay (fun c o hc q' => kk c o ?_ q') (fun c z => by rw [zj (zm z hfr)]; exact z) fun c xs z => by rw [zj (zm z hfr)]; exact z
   rcases hc with z | z
   ·rw [z]; exact nb b v q
   ·exact nb c _ z
theorem Inv.turnedL {ch : List Addr} {h2 : Heap} {tk : Nat} (I : Inv X pins σ H s) (hf : ∀ b ∈ ch, xB X pins H b) (kk : ∀ b o, b ∉ ch -> s.heap.get? b = some o -> h2.get? b = some o) : Inv X pins σ H { s with heap := h2, toks := tk } := by
 have nb : ∀ c v, H c = some v -> c ∉ ch := fun c v z hm => by rw [(hf c hm).1] at z; cases z
 refine I.step (g' := s.gens) (d' := s.drawn) (ch := ch) (fun b hb => ⟨(hf b hb).2.2.2.1, (hf b hb).2.1, (hf b hb).2.2.2.2.1, (hf b hb).2.2.2.2.2⟩) (fun b o _ _ hc q _ => kk b o hc q) (fun b o _ _ hc q _ => ⟨o.slots, kk b o hc q⟩)
  (fun b o _ q n => n) (fun b o hc q => ⟨o, kk b o hc q⟩) (fun b xs q => q) (fun b o u q => q) (fun b ps q => ⟨#[], by rw [q]; simp⟩) (fun m hm => ?_) (fun b v q => ?_) I.bare
 ·obtain ⟨o, es, ep, ho, r⟩ := hm
  exact ⟨o, es, ep, kk _ o (fun z => (hf _ z).2.1 rfl) ho, r⟩
 ·refine (I.hok b v q).stay (fun c o hc q' => kk c o ?_ q') (fun c z => z) fun c xs z => z
  rcases hc with z | z
  ·rw [z]; exact nb b v q
  ·exact nb c _ z
end
noncomputable def Itz (K : PySem.W.Frag) (a b : Addr) : It :=
 ⟨fun i H => ∃ xs ys x y, SqL K H a xs /\ SqL K H b ys /\ xs[i]? = some x /\ ys[i]? = some y, fun i H z H' => ∃ p x y, H p = none /\ z = .ref p /\ (∀ xs, SqL K H a xs -> xs[i]? = some x) /\ (∀ ys, SqL K H b ys -> ys[i]? = some y) /\ H' = upd H p (.tup [x, y]),
  fun i H => ∃ xs ys, SqL K H a xs /\ SqL K H b ys /\ (xs.length <= i \/ ys.length <= i)⟩
theorem VC {P : Program} {w : World} {K : PySem.W.Frag} {es : List Expr} {kt : Nat} {tp : Pos} (l1 l2 z TI TO i1 i2 : Addr) (D : ZipApart z TI TO i1 i2 l1 l2) :
  ZF P w K (.Tuple es kt tp) (Itz K l1 l2) [z, TI, TO, i1, i2] z (fun i h => IsZip h z TI TO .none /\ IsPair h TI (.ref i1) (.ref i2) /\ (∃ a b, IsPair h TO a b) /\ h.IsListIter i1 l1 i /\ h.IsListIter i2 l2 i) where
 mem := by simp
 obj := fun i h st b hb => by
  obtain ⟨hz, hTI, ⟨a, c, hTO⟩, ⟨o1, e1, c1, d1⟩, ⟨o2, e2, c2, d2⟩⟩ := st
  simp only [List.mem_cons, List.not_mem_nil, or_false] at hb
  rcases hb with rfl | rfl | rfl | rfl | rfl
  ·exact ⟨_, hz, fun v q => by have q' : Data.fields _ = Data.cell v := q; cases q'⟩
  ·exact ⟨_, hTI, fun v q => by have q' : Data.seq _ _ = Data.cell v := q; cases q'⟩
  ·exact ⟨_, hTO, fun v q => by have q' : Data.seq _ _ = Data.cell v := q; cases q'⟩
  ·exact ⟨o1, e1, fun v q => by rw [d1] at q; cases q⟩
  ·exact ⟨o2, e2, fun v q => by rw [d2] at q; cases q⟩
 keep := fun i h h' st k => by
  obtain ⟨hz, hTI, ⟨a, c, hTO⟩, h1, h2⟩ := st
  exact ⟨k _ (by simp) _ hz, k _ (by simp) _ hTI, ⟨a, c, k _ (by simp) _ hTO⟩, h1.at fun o e => k _ (by simp) o e, h2.at fun o e => k _ (by simp) o e⟩
 item := by
  intro X hP hw hK hc i pins s σ H E I hf st hg
  subst hP hw hK
  obtain ⟨hz, hTI, ⟨a, c, hTO⟩, h1, h2⟩ := st
  obtain ⟨xs, ys, x, y, hq1, hq2, hx, hy⟩ := hg
  obtain ⟨its1, rv1, p1, hz1⟩ := I.list hq1
  obtain ⟨its2, rv2, p2, hz2⟩ := I.list hq2
  obtain ⟨u, hu, ru⟩ := rv1.get hx
  obtain ⟨v, hv, rvv⟩ := rv2.get hy
  refine wpAny_pyNext_zip_item D hz hTI hTO h1 h2 p1.isList p2.isList (x := u) (y := v) (by simpa using hu) (by simpa using hv) fun g1 b1 b2 b3 b4 b5 b6 hk => ?_
  refine ⟨.ref s.heap.objs.size, rfl, wpAny_letOwnedTupleGo_zip b1 fun g2 hz2' hs2 => ?_⟩
  replace hs2 : Heap.SameBut z g1 g2 := hs2
  have zlt : z < s.heap.objs.size := Heap.lt_size hz
  have I2 : Inv X pins σ (upd H s.heap.objs.size (.tup [x, y])) { s with heap := g2, toks := s.toks } := by
   refine I.yieldTup (us := [u, v]) hf (fun b o hb e => ?_) (Nat.le_refl _) ((hs2.2 _ (Nat.ne_of_gt zlt)).trans b5) (.cons ru (.cons rvv .nil)) (by show 2 <= sizeLine; decide)
   simp only [List.mem_cons, List.not_mem_nil, or_false, not_or] at hb
   exact (hs2.2 b hb.1).trans (hk b o hb.1 hb.2.2.1 hb.2.2.2.1 hb.2.2.2.2 e)
  refine ⟨.ref s.heap.objs.size, _, I2, rfl, ⟨s.heap.objs.size, x, y, I.hok.fresh (Nat.le_refl _), rfl, fun xs' h' => by rw [I.list_inj h' hq1]; exact hx, fun ys' h' => by rw [I.list_inj h' hq2]; exact hy, rfl⟩,
   ⟨hz2', (hs2.2 _ D.TIz).trans (hk _ _ D.TIz D.TITO D.TIi1 D.TIi2 hTI), ⟨_, _, (hs2.2 _ D.TOz).trans b2⟩, b3.extBut hs2.extBut D.i1z, b4.extBut hs2.extBut D.i2z⟩, fun b hb => ?_⟩
  have hlt : b < s.heap.objs.size := by
   simp only [List.mem_cons, List.not_mem_nil, or_false] at hb
   rcases hb with rfl | rfl | rfl | rfl | rfl
   ·exact zlt
   ·exact Heap.lt_size hTI
   ·exact Heap.lt_size hTO
   ·obtain ⟨o, e, _⟩ := h1; exact Heap.lt_size e
   ·obtain ⟨o, e, _⟩ := h2; exact Heap.lt_size e
  rw [zj (Nat.ne_of_lt hlt)]
  exact (hf b hb).1
 done := by
  intro X hP hw hK hc i pins s σ H E I hf st hg
  subst hP hw hK
  obtain ⟨hz, hTI, ⟨a, c, hTO⟩, h1, h2⟩ := st
  obtain ⟨xs, ys, hq1, hq2, hend⟩ := hg
  obtain ⟨its1, rv1, p1, hz1⟩ := I.list hq1
  obtain ⟨its2, rv2, p2, hz2⟩ := I.list hq2
  have l1 := rv1.length
  have l2 := rv2.length
  refine wpAny_pyNext_zip_end (I.ok.hd hc) D hz hTI hTO h1 h2 p1.isList p2.isList (by simp; omega) fun h' hk => ⟨rfl, I.turnedL (tk := s.toks) hf fun b o hb e => ?_⟩
  simp only [List.mem_cons, List.not_mem_nil, or_false, not_or] at hb
  exact hk b o hb.1 hb.2.2.1 hb.2.2.2.1 hb.2.2.2.2 e
 self := fun _ _ _ _ _ st h => wpAny_pyIter_zip st.1 h
theorem vy : bootBuiltins "enumerate" = some (.type "enumerate") := by decide +kernel
theorem XS : bootBuiltins "zip" = some (.type "zip") := by decide +kernel
section
variable {X : Cx} {es : List Expr} {kt : Nat} {tp : Pos}
noncomputable def DF (K : PySem.W.Frag) (ta : TA) : TI := fun σ H R => ta σ H fun vs H1 => ∃ a, vs = [.ref a] /\ (∃ xs, SqL K H1 a xs) /\ R (Ite K a) H1
theorem BK {e : Expr} {ta : TA} {p pos : Pos} (hg : Gl X "enumerate") (hm : X.mg "enumerate" = none) (ha : PA X [e] ta) (hs : starEach [e] X.env = [(false, eval e X.env)] := by rfl) :
  PI X (.Tuple es kt tp) (.Call (.Name "enumerate" p) [e] [] pos) (DF X.K ta) := by
 intro pins s σ H R I h
 refine Call_ (kX I hg hm (vy) (PyProof.Rows.callWith_type1 (thn (ha pos pins s σ H _ I h) fun us s1 ⟨vs, H1, I1, r1, q1⟩ => ?_) hs rfl))
 obtain ⟨a, e, ⟨xs, hq⟩, q⟩ := q1
 subst e
 obtain ⟨u, rfl, ru⟩ := kj r1
 cases ru
 obtain ⟨its, rv, pl, hz⟩ := I1.list hq
 refine call_enumerate_list pl.isList fun h' he hit hsz hk => wpAny_pyIter_enum he ?_
 have I2 : Inv X pins σ H1 { s1 with heap := h' } := I1.kept (t' := s1.toks) hk
 refine ⟨s1.heap.objs.size + 1, [s1.heap.objs.size + 1, s1.heap.objs.size], _, _, H1, rfl, I2, wY a _ _ (Nat.succ_ne_self _), ⟨⟨_, he⟩, hit⟩, fun b hb => ?_, q⟩
 have hb' : s1.heap.objs.size <= b := by
  simp only [List.mem_cons, List.not_mem_nil, or_false] at hb
  rcases hb with rfl | rfl
  ·exact Nat.le_succ _
  ·exact Nat.le_refl _
 exact I1.fpOk hb' (I1.hok.fresh hb')
end
theorem YS {K : PySem.W.Frag} {a : Addr} {xs : List V} {g : TG} {tb : TS} {D : ke} {σ : St} {H : Hp} (Pv : Nat -> St -> Hp -> Prop) (h0 : Pv 0 σ H) (hl : ∀ i σ H, i <= xs.length -> Pv i σ H -> SqL K H a xs)
  (hs : ∀ i x p σ H, xs[i]? = some x -> H p = none -> Pv i σ H -> g (.ref p) σ (upd H p (.tup [.int i, x])) fun σ2 H2 => tb { D with nx := Pv (i + 1), ct := Pv (i + 1), bk := D.nx } σ2 H2) (hd : ∀ σ H, Pv xs.length σ H -> D.nx σ H) :
  ∃ W : Nat -> Nat -> St -> Hp -> Prop, (∃ m, W 0 m σ H) /\ ∀ i m σ H, W i m σ H ->
   ((Ite K a).stop i H /\ D.nx σ H) \/ ((Ite K a).go i H /\ ∃ N : St -> Hp -> Prop, (∀ σ' H', N σ' H' -> ∃ m', m' < m /\ W (i + 1) m' σ' H') /\ ∀ x H', (Ite K a).yld i H x H' -> g x σ H' fun σ2 H2 => tb { D with nx := N, ct := N, bk := D.nx } σ2 H2) := by
 refine ⟨fun i m σ H => m = xs.length - i /\ i <= xs.length /\ Pv i σ H, ⟨xs.length, by simp, Nat.zero_le _, h0⟩, ?_⟩
 rintro i m σ H ⟨rfl, hi, p⟩
 have q := hl i σ H hi p
 by_cases hlt : i < xs.length
 ·refine .inr ⟨⟨xs, xs[i], q, by simp [hlt]⟩, Pv (i + 1), fun σ' H' p' => ⟨xs.length - (i + 1), by omega, rfl, hlt, p'⟩, fun x H' y => ?_⟩
  obtain ⟨pp, x', hp, rfl, y, rfl⟩ := y
  exact hs i x' pp σ _ (y xs q) hp p
 ·have e : i = xs.length := by omega
  subst e
  exact .inl ⟨⟨xs, q, Nat.le_refl _⟩, hd σ H p⟩
end L2
set_option Elab.async false
set_option linter.all false
set_option maxRecDepth 100000
set_option maxHeartbeats 4000000
namespace L2
open PySem PySem.Spec PyProof.Rows
noncomputable def vB (p : Addr) (a b c : Int) : HO := .ext fun h => ∃ t u v, h.get? p = some { cls := .type "range", data := .fields #[.int a t, .int b u, .int c v] }
theorem GD {P : Program} {w : World} {H : Hp} {h : Heap} {p : Addr} {a b c : Int} {t u v : Tok} (e : h.get? p = some { cls := .type "range", data := .fields #[.int a t, .int b u, .int c v] }) : qb P w H h p (vB p a b c) :=
 ⟨⟨t, u, v, e⟩, ⟨_, e⟩, fun h1 h2 ⟨t, u, v, q⟩ k => ⟨t, u, v, k _ q⟩⟩
noncomputable def zG (a c : Int) (n : Nat) : List Int := (List.range n).map fun (i : Nat) => a + (i : Int) * c
theorem zi (a c : Int) (n : Nat) : (zG a c n).length = n := by simp [zG]
theorem Jt {a c : Int} : ∀ {n : Nat} {acc : Array Value}, ItemsOf (fun (i : Nat) (v : Value) => ∃ t, v = Value.int (a + (i : Int) * c) t) acc n -> zF ((zG a c n).map V.int) acc.toList := by
 intro n acc ⟨hs, hi⟩
 have key : ∀ (k : Nat) (l : List Value), l.length = k -> (∀ (j : Nat) v, l[j]? = some v -> ∃ t, v = Value.int (a + (j : Int) * c) t) -> zF ((zG a c k).map V.int) l := by
  intro k
  induction k with
  | zero => intro l hl _; cases l with
   | nil => exact .nil
   | cons => simp at hl
  | succ k ih =>
   intro l hl hv
   obtain ⟨l', x, rfl⟩ : ∃ l' x, l = l' ++ [x] := ⟨l.dropLast, l.getLast (by intro e; rw [e] at hl; simp at hl), (List.dropLast_concat_getLast _).symm⟩
   have hl' : l'.length = k := by simpa using hl
   have e : (zG a c (k + 1)).map V.int = (zG a c k).map V.int ++ [.int (a + (k : Int) * c)] := by simp [zG, List.range_succ]
   rw [e]
   refine (ih l' hl' fun j v hj => hv j v ?_).append (.cons ?_ .nil)
   ·rw [List.getElem?_append_left (List.getElem?_eq_some_iff.mp hj).1]; exact hj
   ·obtain ⟨t, rfl⟩ := hv k x (by rw [List.getElem?_append_right (by omega), hl']; simp)
    exact ⟨t, rfl⟩
 exact key n acc.toList (by simpa using hs) fun j v hj => hi j v (by simpa using hj)
section
variable {X : Cx}
theorem yJ : jb X (.type "range") (fun xs H Q => ∃ b : Int, xs = [.int b] /\ ∀ p, H p = none -> Q (.ref p) (upd H p (vB p 0 b 1))) := by
 intro pins s σ H xs us Q I r h
 obtain ⟨b, rfl, q⟩ := h
 obtain ⟨u, rfl, t, rfl⟩ := kj r
 refine call_range_1 ⟨.ref s.heap.objs.size, _, I.laid (fun b o e => Heap.get?_push_of_some _ e) (Nat.le_refl _) ?_, rfl, q _ (I.hok.fresh (Nat.le_refl _))⟩
 exact GD (Heap.get?_push_size _ rfl)
theorem xC (hc : X.calm = true) : jb X (.type "list") (fun xs H Q => ∃ p a b c n, xs = [.ref p] /\ H p = some (vB p a b c) /\ Builtin.Range.small a b c = true /\ Builtin.Range.rangeSize a b c = ((n : Nat) : Int) /\ n <= 100000 /\ ∀ l, H l = none -> Q (.ref l) (upd H l (.lst ((zG a c n).map V.int)))) := by
 intro pins s σ H xs us Q I r h
 obtain ⟨p, a, b, c, n, rfl, hp, hs, hn, hz, q⟩ := h
 obtain ⟨u, rfl, rx⟩ := kj r
 cases rx
 obtain ⟨⟨t, u, v, e⟩, _⟩ := (show qb X.prog X.w H s.heap p (vB p a b c) from I.hok _ _ hp)
 refine call_list_range (I.ok.hd hc) e hs hn (Nat.le_trans hz (by decide)) fun h' tk acc c' hk he hi => ?_
 refine ⟨.ref s.heap.objs.size, _, I.laid hk (Nat.le_refl _) (show qb X.prog X.w _ h' _ (.lst ((zG a c n).map V.int)) from ⟨?_, acc.toList, c', Jt hi, by simpa using he⟩), rfl, q _ (I.hok.fresh (Nat.le_refl _))⟩
 rw [List.length_map, zi]
 exact Nat.le_trans hz (by decide)
theorem Z1 : jb X (.builtin "sorted") (fun xs H Q => ∃ p ns, xs = [.ref p] /\ SqL X.K H p (List.map V.int ns) /\ ns.length < 64 /\ ∀ l ns', H l = none -> ns'.Perm ns -> ns'.Pairwise (· <= ·) -> Q (.ref l) (upd H l (.lst (List.map V.int ns')))) := by
 intro pins s σ H xs us Q I r h
 obtain ⟨p, ns, rfl, hq, h64, q⟩ := h
 obtain ⟨u, rfl, rx⟩ := kj r
 cases rx
 obtain ⟨its, rv, pl, hz⟩ := I.list hq
 have hlen := rv.length
 rw [List.length_map] at hlen
 refine sorted_ints pl.isList (Jk rv) (by omega) fun out ns' a1 a2 a3 => ?_
 obtain ⟨k, he⟩ := sortedAll_at s.heap its out
 refine ⟨.ref (s.heap.objs.size + 1), _, I.laid (t' := s.toks) (fun _ _ => sortedAll_old) (Nat.le_succ _) (show qb X.prog X.w _ _ _ (.lst (List.map V.int ns')) from ⟨?_, out.toList, k, yy a1, by simpa [seqObj] using he⟩), rfl, q _ _ (I.hok.fresh (Nat.le_succ _)) a2 a3⟩
 rw [List.length_map, a2.length_eq]
 exact Nat.le_of_lt (X3 (by omega))
end
end L2
set_option Elab.async false
set_option linter.all false
set_option maxRecDepth 100000
set_option maxHeartbeats 4000000
namespace L2
open PySem PySem.Spec PyProof.Rows
section
variable {X : Cx}
noncomputable def isT (t c : String) : Option Bool := if (Value.type t == Value.type c) = true then some true else if PySem.W.kitMeta c = true then (fastBuiltinMro t).map (·.contains (Value.type c)) else none
theorem KU (K : PySem.W.Frag) (t c : String) : PySem.W.kitOne K (.type t) (.type c) = isT t c := rfl
noncomputable def xV (t : String) : List String -> Option Bool
 | [] => some false
 | c :: r => match isT t c with
  | some true => some true
  | some false => xV t r
  | none => none
theorem Qb (K : PySem.W.Frag) (t : String) : ∀ cs : List String, PySem.W.kitAny K (.type t) (cs.map Value.type) = xV t cs
 | [] => rfl
 | c :: r => by
  show (match PySem.W.kitOne K (.type t) (.type c) with | some true => some true | some false => PySem.W.kitAny K (.type t) (r.map Value.type) | none => none) = _
  rw [KU, Qb K t r]; rfl
theorem ja : jb X (.builtin "isinstance") (fun xs H Q => ∃ x t c b, xs = [x, .ty c] /\ j3 X.K H x (.type t) /\ isT t c = some b /\ Q (.bl b) H) := by
 intro pins s σ H xs us Q I r h
 obtain ⟨x, t, c, b, rfl, ty, e, q⟩ := h
 obtain ⟨u, v, rfl, ru, rv⟩ := Zf r
 cases rv
 exact YI I ru ty (by rw [KU]; exact e) fun tk => ⟨.bl b, H, I.tok _, rfl, q⟩
theorem QP : ∀ {cs : List String} {us : List Value}, zF (cs.map V.ty) us -> us = cs.map Value.type
 | [], _, .nil => rfl
 | c :: cs, _, .cons r t => by rw [QP t]; cases r; rfl
theorem wJ : jb X (.builtin "isinstance") (fun xs H Q => ∃ x t p cs b, xs = [x, .ref p] /\ H p = some (.tup (List.map V.ty cs)) /\ j3 X.K H x (.type t) /\ xV t cs = some b /\ Q (.bl b) H) := by
 intro pins s σ H xs us Q I r h
 obtain ⟨x, t, p, cs, b, rfl, hp, ty, e, q⟩ := h
 obtain ⟨u, v, rfl, rx, rv⟩ := Zf r
 cases rv
 obtain ⟨_, its, rt, o, ho, hc, ⟨n, hd⟩, _⟩ := (show qb X.prog X.w H s.heap p (.tup (List.map V.ty cs)) from I.hok _ _ hp)
 obtain ⟨oc, od, odt, osl⟩ := o
 simp only at hc hd
 subst hc hd
 have e' : PySem.W.kitAny X.K (.type t) its = some b := by rw [QP rt, Qb]; exact e
 have fin : ∀ tk, EP X pins σ Q (.bool b) { s with toks := tk } := fun tk => ⟨.bl b, H, I.tok _, rfl, q⟩
 cases ty with
 | non => cases (show u = Value.none from rx); exact PySem.W.kia_tup PySem.W.kitx_none I.kIn True.intro ho e' (fun z => nomatch z) fin
 | bl y => cases (show u = Value.bool y from rx); exact PySem.W.kia_tup PySem.W.kitx_bool I.kIn True.intro ho e' (fun z => nomatch z) fin
 | int i => obtain ⟨t, q⟩ := (show ∃ t, u = Value.int i t from rx); cases q; exact PySem.W.kia_tup PySem.W.kitx_int I.kIn True.intro ho e' (fun z => nomatch z) fin
 | str y => obtain ⟨t, q⟩ := (show ∃ t, u = Value.str y t from rx); cases q; exact PySem.W.kia_tup PySem.W.kitx_str I.kIn True.intro ho e' (fun z => nomatch z) fin
 | flt y => obtain ⟨t, q⟩ := (show ∃ t, u = Value.float y t from rx); cases q; exact PySem.W.kia_tup PySem.W.kitx_float I.kIn True.intro ho e' (fun z => nomatch z) fin
 | @lst a xs ea =>
  cases (show u = Value.ref a from rx)
  obtain ⟨_, _, n, _, h1⟩ := (show qb X.prog X.w H s.heap a (.lst xs) from I.hok a _ ea)
  exact PySem.W.kia_tup PySem.W.kitx_list I.kIn ⟨_, h1, rfl⟩ ho e' (fun z => nomatch z) fin
 | @frz a ob xs ea =>
  cases (show u = Value.ref a from rx)
  obtain ⟨_, _, _, n, _, h1⟩ := (show qb X.prog X.w H s.heap a (.frz ob (.lst xs)) from I.hok a _ ea)
  exact PySem.W.kia_tup PySem.W.kitx_list I.kIn ⟨_, h1, rfl⟩ ho e' (fun z => nomatch z) fin
 | @tup a xs ea =>
  cases (show u = Value.ref a from rx)
  obtain ⟨_, _, _, p⟩ := (show qb X.prog X.w H s.heap a (.tup xs) from I.hok a _ ea)
  obtain ⟨o, h1, h2, _⟩ := p
  exact PySem.W.kia_tup PySem.W.kitx_tuple I.kIn ⟨o, h1, h2⟩ ho e' (fun z => nomatch z) fin
 | @dK a kvs ea =>
  cases (show u = Value.ref a from rx)
  obtain ⟨_, _, vs, _, p⟩ := (show qb X.prog X.w H s.heap a (.dK kvs) from I.hok a _ ea)
  obtain ⟨o, es, ep, h1, h2, _⟩ := p
  exact PySem.W.kia_tup PySem.W.kitx_dict I.kIn ⟨o, h1, h2.1⟩ ho e' (fun z => nomatch z) fin
 | @dT a kvs ea =>
  cases (show u = Value.ref a from rx)
  obtain ⟨_, _, xs, _, o, es, ep, h1, h2, _⟩ := (show qb X.prog X.w H s.heap a (.dT kvs) from I.hok a _ ea)
  exact PySem.W.kia_tup PySem.W.kitx_dict I.kIn ⟨o, h1, h2.1⟩ ho e' (fun z => nomatch z) fin
end
end L2
set_option Elab.async false
set_option linter.all false
set_option maxRecDepth 100000
set_option maxHeartbeats 4000000
namespace L2
open PySem PySem.Spec PyProof.Rows
noncomputable def At (K : PySem.W.Frag) (mg : Str -> Option Value) (x : Str) (st : Stmt) : Prop := ∃ f fd, Fun K x x st f fd /\ mg x = some (.ref f)
noncomputable def Df (P : Program) (w : World) (K : PySem.W.Frag) (mg : Str -> Option Value) (base : Heap) (x : Str) (ps : List Str) (k : Nat) (sp : Sp) : Prop :=
 ∃ f fd, jE P w K mg base CX0 k f fd ps sp /\ ki K fd ps [] /\ PySem.W.keepIn K (.ref f) = true /\ mg x = some (.ref f) /\ ∃ oc od osl, K.lookup f = some ⟨oc, od, .func fd, osl⟩
theorem Df.mono {P : Program} {w : World} {K : PySem.W.Frag} {mg : Str -> Option Value} {base : Heap} {x : Str} {ps : List Str} {j k : Nat} {sp : Sp} (D : Df P w K mg base x ps j sp) (h : j <= k) : Df P w K mg base x ps k sp :=
 let ⟨f, fd, F, r⟩ := D
 ⟨f, fd, F.mono h, r⟩
section
variable {X : Cx} {k : Nat} {x : Str} {ps : List Str} {sp : Sp} {p pos : Pos} {e : Expr} {es : List Expr} {t : TA}
theorem zn (D : Df X.prog X.w X.K X.mg X.base x ps k sp) (hr : qK k X.A) (hg : Gl X x) (ha : PA X (e :: es) t) (hdb : (x == ("__debug__" : Str)) = false := by decide)
  (he : starEach (e :: es) X.env = (false, eval e X.env) :: starEach es X.env := by rfl) (hpl : (backTo pos (starEach es X.env)).any (·.1) = false := by rfl) : PE X (.Call (.Name x p) (e :: es) [] pos) (K8 sp [] E0 t) := by
 obtain ⟨f, fd, F, b, kp, m, _⟩ := D
 exact Bn F hr hg m kp b .nil Ky ha hdb he hpl
end
theorem kl {P : Program} {w : World} {K : PySem.W.Frag} {mg : Str -> Option Value} {base : Heap} {x : Str} {st : Stmt} {N ps : List Str} {k : Nat} {sp : Sp} (a : At K mg x st) (S : zo N ps (zf st))
  (hb : ∀ (kV doc pm : Value) (an : Option Addr) (cdv ct : Value) (us : List Value), us.length = ps.length -> bindArgs (PySem.W.fnOf x x (jo st) (qD st) (zf st) .none kV doc pm an cdv ct) ⟨us, []⟩ = pure (ps.zip us))
  (len : ∀ vs H Q E, sp vs H Q E -> vs.length = ps.length)
  (hbody : ∀ (f : Addr) (cdv : Value) (A : Around) (outer : List Env) (s : Shared) (H : Hp) (vs : List V) (Q : VK) (E : XK), qK k (A.deeper (envOfC x (zf st) s.heap.objs.size f cdv)) -> sp vs H Q E ->
   ∃ t, PSs (wx CX0 P w K mg base N x (zf st) f cdv A outer s H E).nox (qD st) t /\ t { nx := fun _ H' => Q .non H', rt := Q } (zZ N vs) H) : Df P w K mg base x ps (k + 1) sp := by
 obtain ⟨f, fd, F, m⟩ := a
 obtain ⟨oc, od, kV, doc, pm, an, cdv, ct, osl, _, lk, _⟩ := id F.ex
 exact ⟨f, fd, F.ok S len fun cdv A outer s H vs Q E => hbody f cdv A outer s H vs Q E, F.binds hb, F.kp, m, oc, od, osl, lk⟩
theorem at_mk {K : PySem.W.Frag} {mg : Str -> Option Value} {h : Heap} {x : Str} {st : Stmt} {f : Addr} {oc : Value} {od an : Option Addr} {osl : Array (Option Value)} {kV doc pm cdv ct : Value} (X : K.In h) (G : h.Ns mainGlobals mg) (a : PySem.W.nsIn K mainGlobals x = some (some (.ref f)))
  (l : K.lookup f = some ⟨oc, od, .func (PySem.W.fnOf x x (jo st) (qD st) (zf st) .none kV doc pm an cdv ct), osl⟩) (c : PySem.W.codeIn K cdv x = true) (k : PySem.W.keepIn K (.ref f) = true) : At K mg x st := ⟨f, _, V7 l c k, PySem.W.mg_of X G a⟩
theorem Df.fn {P : Program} {w : World} {K : PySem.W.Frag} {mg : Str -> Option Value} {base : Heap} {x : Str} {ps : List Str} {k : Nat} {sp : Sp} {f : Addr} {fd : FuncData} {oc : Value} {od : Option Addr} {osl : Array (Option Value)} (D : Df P w K mg base x ps k sp) (m : mg x = some (.ref f)) (l : K.lookup f = some ⟨oc, od, .func fd, osl⟩) : jE P w K mg base CX0 k f fd ps sp := by
 obtain ⟨f', fd', F, _, _, m', oc', od', osl', l'⟩ := D
 rw [m] at m'
 cases m'
 rw [l] at l'
 cases l'
 exact F
structure Blt (mg : Str -> Option Value) : Prop where
 len : mg "len" = none
 range : mg "range" = none
 list : mg "list" = none
 tuple : mg "tuple" = none
 int : mg "int" = none
 bool : mg "bool" = none
 str : mg "str" = none
 abs : mg "abs" = none
 divmod : mg "divmod" = none
 enumerate : mg "enumerate" = none
 zip : mg "zip" = none
 sorted : mg "sorted" = none
 max : mg "max" = none
 min : mg "min" = none
 isinstance : mg "isinstance" = none
 all : mg "all" = none
theorem blt_mk {K : PySem.W.Frag} {mg : Str -> Option Value} {h : Heap} (X : K.In h) (G : h.Ns mainGlobals mg) (z1 : PySem.W.nsIn K mainGlobals "len" = some none) (z2 : PySem.W.nsIn K mainGlobals "range" = some none) (z3 : PySem.W.nsIn K mainGlobals "list" = some none) (z4 : PySem.W.nsIn K mainGlobals "tuple" = some none) (z5 : PySem.W.nsIn K mainGlobals "int" = some none) (z6 : PySem.W.nsIn K mainGlobals "bool" = some none) (z7 : PySem.W.nsIn K mainGlobals "str" = some none) (z8 : PySem.W.nsIn K mainGlobals "abs" = some none)
  (z9 : PySem.W.nsIn K mainGlobals "divmod" = some none) (z10 : PySem.W.nsIn K mainGlobals "enumerate" = some none) (z11 : PySem.W.nsIn K mainGlobals "zip" = some none) (z12 : PySem.W.nsIn K mainGlobals "sorted" = some none) (z13 : PySem.W.nsIn K mainGlobals "max" = some none) (z14 : PySem.W.nsIn K mainGlobals "min" = some none) (z15 : PySem.W.nsIn K mainGlobals "isinstance" = some none) (z16 : PySem.W.nsIn K mainGlobals "all" = some none) : Blt mg :=
 ⟨PySem.W.mg_none_of X G z1, PySem.W.mg_none_of X G z2, PySem.W.mg_none_of X G z3, PySem.W.mg_none_of X G z4, PySem.W.mg_none_of X G z5, PySem.W.mg_none_of X G z6, PySem.W.mg_none_of X G z7, PySem.W.mg_none_of X G z8, PySem.W.mg_none_of X G z9, PySem.W.mg_none_of X G z10, PySem.W.mg_none_of X G z11, PySem.W.mg_none_of X G z12, PySem.W.mg_none_of X G z13, PySem.W.mg_none_of X G z14, PySem.W.mg_none_of X G z15, PySem.W.mg_none_of X G z16⟩
theorem zQ : bootBuiltins "isinstance" = some (.builtin "isinstance") := by decide +kernel
theorem Yq : bootBuiltins "sorted" = some (.builtin "sorted") := by decide +kernel
theorem vD : bootBuiltins "abs" = some (.builtin "abs") := by decide +kernel
theorem Yt : bootBuiltins "divmod" = some (.builtin "divmod") := by decide +kernel
theorem Am : bootBuiltins "max" = some (.builtin "max") := by decide +kernel
theorem Fd : bootBuiltins "min" = some (.builtin "min") := by decide +kernel
theorem qm : bootBuiltins "len" = some (.builtin "len") := by decide +kernel
theorem j7 : bootBuiltins "list" = some (.type "list") := by decide +kernel
theorem jC : bootBuiltins "tuple" = some (.type "tuple") := by decide +kernel
theorem Jz : bootBuiltins "int" = some (.type "int") := by decide +kernel
theorem KH : bootBuiltins "bool" = some (.type "bool") := by decide +kernel
theorem Gn : bootBuiltins "str" = some (.type "str") := by decide +kernel
theorem Qx : bootBuiltins "range" = some (.type "range") := by decide +kernel
noncomputable def Kp (bs : List Addr) (H H' : Hp) : Prop := ∀ c o, c ∉ bs -> H c = some o -> H' c = some o
theorem Kp.refl {bs : List Addr} {H : Hp} : Kp bs H H := fun _ _ _ h => h
theorem Kp.trans {bs : List Addr} {H H1 H2 : Hp} (a : Kp bs H H1) (b : Kp bs H1 H2) : Kp bs H H2 := fun c o n h => b c o n (a c o n h)
theorem Kp.new {bs : List Addr} {H : Hp} {p : Addr} (o : HO) (h : H p = none) : Kp bs H (upd H p o) := fun c u _ q => by rw [zj (zm q h)]; exact q
theorem Kp.set {bs : List Addr} {H : Hp} {p : Addr} (o : HO) (h : p ∈ bs) : Kp bs H (upd H p o) := fun c u n q => by have hne : c ≠ p := (fun e => n (by rw [e]; exact h)); rw [zj hne]; exact q
theorem Kp.mono {bs bs' : List Addr} {H H' : Hp} (a : Kp bs H H') (h : ∀ b ∈ bs, b ∈ bs') : Kp bs' H H' := fun c o n q => a c o (fun z => n (h c z)) q
theorem Kp.free {H H' : Hp} (e : Kp [] H H') {l : Addr} (h : H' l = Option.none) : H l = Option.none := by
 cases q : H l with
 | none => rfl
 | some o => rw [e l o (by simp) q] at h; cases h
noncomputable def Bx (H : Hp) (b : Addr) (N : Nat) : Prop := ∃ x y z : Int, H b = some (.lst [.int x, .int y, .int z]) /\ 0 <= x /\ 0 <= y /\ y < 2147483648 /\ 0 <= z /\ z <= N
noncomputable abbrev il (ns : List Int) : HO := .lst (ns.map V.int)
end L2
set_option Elab.async false
set_option linter.all false
set_option maxRecDepth 100000
set_option maxHeartbeats 4000000
namespace L2
open PySem PySem.Spec PyProof.Rows
theorem cxK {CX : CXT} {P : Program} {w : World} {K : PySem.W.Frag} {mg : Str -> Option Value} {base : Heap} {N : List Str} {qual : Str} {scope : Scope} {f : Addr} {cd : Value} {A : Around} {outer : List Env} {s : Shared} {H : Hp} {E : XK} :
  (wx CX P w K mg base N qual scope f cd A outer s H E).K = K := rfl
noncomputable def YM (J : It) (g : TG) (tb : TS) (D : ke) (σ : St) (H : Hp) : Prop := ∃ W : Nat -> Nat -> St -> Hp -> Prop, (∃ m, W 0 m σ H) /\ ∀ i m σ H, W i m σ H ->
 (J.stop i H /\ D.nx σ H) \/ (J.go i H /\ ∃ N : St -> Hp -> Prop, (∀ σ' H', N σ' H' -> ∃ m', m' < m /\ W (i + 1) m' σ' H') /\ ∀ x H', J.yld i H x H' -> g x σ H' fun σ2 H2 => tb { D with nx := N, ct := N, bk := D.nx } σ2 H2)
theorem KG {wi : TI} {g : TG} {tb : TS} {D : ke} {σ : St} {H : Hp} : GA wi g tb D σ H = wi σ H (fun J H1 => YM J g tb D σ H1) := rfl
noncomputable def DD (J : It) (g : TG) (tt : TT) (te : TE) (D : Addr) (Q : VK) (τ : St) (H : Hp) : Prop := ∃ W : Nat -> Nat -> St -> Hp -> Prop, (∃ m, W 0 m τ H) /\ ∀ i m τ H2, W i m τ H2 ->
 (J.stop i H2 /\ Q (.ref D) H2) \/ (J.go i H2 /\ ∃ N : St -> Hp -> Prop, (∀ τ' H', N τ' H' -> ∃ m', m' < m /\ W (i + 1) m' τ' H') /\ ∀ x H', J.yld i H2 x H' -> g x τ H' fun τ2 H3 => tt τ2 H3 fun b H4 =>
  if b = true then te τ2 H4 fun v H5 => ∃ ys, H5 D = some (.lst ys) /\ ys.length < sizeLine /\ N τ2 (upd H5 D (.lst (ys ++ [v]))) else N τ2 H4)
theorem Vv {ts : List Nat} {wi : TI} {g : TG} {tt : TT} {te : TE} {σ : St} {H : Hp} {Q : VK} :
  QS ts wi g tt te σ H Q = wi σ H (fun J H1 => ∀ D, H1 D = none -> DD J g tt te D Q (clr ts σ) (upd H1 D (.lst []))) := rfl
theorem W1 {lo : Int} {n : Nat} {g : TG} {tb : TS} {D : ke} {σ : St} {H : Hp} (Pv : Nat -> St -> Hp -> Prop) (h0 : Pv 0 σ H)
  (hs : ∀ i σ H, i < n -> Pv i σ H -> g (.int (lo + i)) σ H fun σ2 H2 => tb { D with nx := Pv (i + 1), ct := Pv (i + 1), bk := D.nx } σ2 H2) (hd : ∀ σ H, Pv n σ H -> D.nx σ H) : YM (Itr lo n) g tb D σ H := X2 Pv h0 hs hd
theorem Bl {K : PySem.W.Frag} {a : Addr} {xs : List V} {g : TG} {tb : TS} {D : ke} {σ : St} {H : Hp} (Pv : Nat -> St -> Hp -> Prop) (h0 : Pv 0 σ H) (hl : ∀ i σ H, i <= xs.length -> Pv i σ H -> SqL K H a xs)
  (hs : ∀ i x σ H, xs[i]? = some x -> Pv i σ H -> g x σ H fun σ2 H2 => tb { D with nx := Pv (i + 1), ct := Pv (i + 1), bk := D.nx } σ2 H2) (hd : ∀ σ H, Pv xs.length σ H -> D.nx σ H) : YM (Itl K a) g tb D σ H := WU Pv h0 hl hs hd
theorem Kw {K : PySem.W.Frag} {a : Addr} {xs : List V} {g : TG} {tb : TS} {D : ke} {σ : St} {H : Hp} (Pv : Nat -> St -> Hp -> Prop) (h0 : Pv 0 σ H) (hl : ∀ i σ H, i <= xs.length -> Pv i σ H -> SqL K H a xs)
  (hs : ∀ i x p σ H, xs[i]? = some x -> H p = none -> Pv i σ H -> g (.ref p) σ (upd H p (.tup [.int i, x])) fun σ2 H2 => tb { D with nx := Pv (i + 1), ct := Pv (i + 1), bk := D.nx } σ2 H2) (hd : ∀ σ H, Pv xs.length σ H -> D.nx σ H) : YM (Ite K a) g tb D σ H := YS Pv h0 hl hs hd
end L2
set_option Elab.async false
set_option linter.all false
set_option maxRecDepth 100000
set_option maxHeartbeats 4000000
namespace L2
open PySem PySem.Spec PyProof.Rows
theorem YC {X : Cx} : jb X (.type "int") (fun xs H Q => ∃ k, xs = [.bl k] /\ Q (.int (if k then 1 else 0)) H) := by
 intro pins s σ H xs us Q I r h
 exact XO pins s σ H xs us Q I r (.inr h)
theorem Di {X : Cx} : PIp X .FloorDiv (rI YY fun i j => .int (i / j)) := Vd
end L2
set_option Elab.async false
set_option linter.all false
set_option maxRecDepth 100000
set_option maxHeartbeats 4000000
namespace L2
open PySem PySem.Spec PyProof.Rows
noncomputable def zl (n : Nat) (ns : List Int) : Prop := ns.length = n /\ ns.Nodup /\ ∀ x ∈ ns, 0 <= x /\ x < (n : Int)
theorem vA : ∀ (n : Nat) (l : List Int), l.Nodup -> (∀ x ∈ l, 0 <= x /\ x < (n : Int)) -> l.length <= n
 | 0, l, _, h => by
  cases l with
  | nil => exact Nat.le_refl _
  | cons x r => have := h x List.mem_cons_self; omega
 | n + 1, l, hn, h => by
  have ih := vA n (l.erase (n : Int)) (hn.erase _) (fun x hx => by
   have h1 := h x (List.mem_of_mem_erase hx)
   have h2 : x ≠ (n : Int) := fun e => by
    subst e
    exact (hn.not_mem_erase) hx
   omega)
  by_cases hm : (n : Int) ∈ l
  ·rw [List.length_erase_of_mem hm] at ih; omega
  ·rw [List.erase_of_not_mem hm] at ih; omega
theorem zl.surj {n : Nat} {ns : List Int} (h : zl n ns) {x : Int} (h0 : 0 <= x) (h1 : x < n) : x ∈ ns := by
 obtain ⟨l, d, b⟩ := h
 refine Classical.byContradiction fun hm => ?_
 have := vA n (x :: ns) (List.nodup_cons.mpr ⟨hm, d⟩) (fun y hy => by
  rcases List.mem_cons.mp hy with rfl | hy
  ·exact ⟨h0, h1⟩
  ·exact b y hy)
 rw [List.length_cons, l] at this
 omega
theorem zl.getD {n : Nat} {ns : List Int} (h : zl n ns) {i : Nat} (hi : i < n) : 0 <= ns.getD i 0 /\ ns.getD i 0 < n := by
 obtain ⟨l, d, b⟩ := h
 have hi' : i < ns.length := by omega
 have e : ns.getD i 0 = ns[i] := by rw [List.getD_eq_getElem?_getD, List.getElem?_eq_getElem hi']; rfl
 rw [e]
 exact b _ (List.getElem_mem hi')
theorem qi {ns : List Int} {i : Nat} (h : i < ns.length) : ns.getD i 0 = ns[i] := by rw [List.getD_eq_getElem?_getD, List.getElem?_eq_getElem h]; rfl
theorem zl.inj {n : Nat} {ns : List Int} (h : zl n ns) {i j : Nat} (hi : i < n) (hj : j < n) (e : ns.getD i 0 = ns.getD j 0) : i = j := by
 obtain ⟨l, d, b⟩ := h
 rw [qi (by omega), qi (by omega)] at e
 exact (List.getElem_inj d).mp e
theorem jz {n : Nat} {ns : List Int} (l : ns.length = n) (b : ∀ i, i < n -> 0 <= ns.getD i 0 /\ ns.getD i 0 < n) (j : ∀ i k, i < n -> k < n -> ns.getD i 0 = ns.getD k 0 -> i = k) : zl n ns := by
 refine ⟨l, ?_, fun x hx => ?_⟩
 ·rw [List.nodup_iff_pairwise_ne, List.pairwise_iff_getElem]
  intro i k hi hk hik e
  have := j i k (by omega) (by omega) (by rw [qi hi, qi hk]; exact e)
  omega
 ·obtain ⟨i, hi, rfl⟩ := List.mem_iff_getElem.mp hx
  have := b i (by omega)
  rwa [qi hi] at this
theorem zl.ex {n : Nat} {ns : List Int} (h : zl n ns) {j : Nat} (hj : j < n) : ∃ i, i < n /\ ns.getD i 0 = (j : Int) := by
 have hm := h.surj (x := (j : Int)) (by omega) (by omega)
 obtain ⟨i, hi, e⟩ := List.mem_iff_getElem.mp hm
 exact ⟨i, by rw [<- h.1]; exact hi, by rw [qi hi]; exact e⟩
theorem zU (n : Nat) {i : Nat} (h : i < n) : (zG 0 1 n).getD i 0 = (i : Int) := by
 rw [qi (by rw [zi]; exact h)]
 simp [zG]
theorem zl.rng (n : Nat) : zl n (zG 0 1 n) := by
 refine jz (zi 0 1 n) (fun i hi => ?_) (fun i k hi hk e => ?_)
 ·rw [zU n hi]; omega
 ·rw [zU n hi, zU n hk] at e; omega
theorem Kp.drop1 {bs : List Addr} {H H' : Hp} {p : Addr} {o : HO} (hp : H p = none) (k : Kp (p :: bs) (upd H p o) H') : Kp bs H H' := fun c u n h => by
 have hne : c ≠ p := zm h hp
 refine k c u ?_ ((zj hne).trans h)
 intro hm
 rcases List.mem_cons.mp hm with e | e
 ·exact hne e
 ·exact n e
theorem xb {ns : List Int} {i j : Nat} {v : Int} (h : i < ns.length) : (ns.set i v).getD j 0 = if j = i then v else ns.getD j 0 := by
 rw [List.getD_eq_getElem?_getD, List.getElem?_set]
 by_cases e : i = j
 ·subst e; simp [h]
 ·rw [if_neg e, if_neg (Ne.symm e), List.getD_eq_getElem?_getD]
theorem jT {xs ys : List Int} (l : xs.length = ys.length) (h : ∀ i, i < xs.length -> xs.getD i 0 = ys.getD i 0) : xs = ys := by
 refine List.ext_getElem l fun i h1 h2 => ?_
 have := h i h1
 rwa [qi h1, qi h2] at this
noncomputable def JY : V -> V -> V -> Hp -> (Hp -> Prop) -> Prop := fun o i v H Q => ∃ k, i = .int k /\ ∃ p, o = .ref p /\ ∃ xs, H p = some (.lst xs) /\ ∃ j, ixN xs.length k = some j /\ Q (upd H p (.lst (xs.set j v)))
section
variable {X : Cx}
theorem xv : MtR X "list.append" ve := yA
theorem jH {es : List Expr} {k : Nat} {t : TGs} {pos : Pos} {K : PySem.W.Frag} (n : Nat) (h : X.K = K) (hc : X.calm = true) (hs : PGs X es t) (hn : (assignEach es X.env).length = n := by rfl) (hst : (assignEach es X.env).findIdx? (·.1) = none := by rfl) : PG X (.Tuple es k pos) (AM K n t) := h ▸ FF hc hs hn hst
theorem zK : A4 X JY := by
 intro pins s σ H o i v ov iv u Q I ro ri rv h
 obtain ⟨k, e1, p, e2, xs, h1, j, h2, q⟩ := h
 exact Af pins s σ H o i v ov iv u Q I ro ri rv ⟨p, xs, k, j, e2, e1, h1, h2, q⟩
theorem An {K : PySem.W.Frag} (h : X.K = K) : SlR X (A7 K) := h ▸ Zv
end
end L2
set_option Elab.async false
set_option linter.all false
set_option maxRecDepth 100000
set_option maxHeartbeats 4000000
namespace L2
open PySem PySem.Spec PyProof.Rows
noncomputable def aft (one other : List Int) : List Int := one.map fun x => other.getD x.toNat 0
theorem zB (a b : List Int) : (aft a b).length = a.length := List.length_map _
theorem aft_getD {a : List Int} (b : List Int) {i : Nat} (h : i < a.length) : (aft a b).getD i 0 = b.getD (a.getD i 0).toNat 0 := by
 rw [qi (by rw [zB]; exact h), qi h]
 exact List.getElem_map _
theorem zl.aft {n : Nat} {a b : List Int} (ha : zl n a) (hb : zl n b) : zl n (aft a b) := by
 refine jz (by rw [zB, ha.1]) (fun i hi => ?_) (fun i k hi hk e => ?_)
 ·rw [aft_getD b (by rw [ha.1]; exact hi)]
  have := ha.getD hi
  exact hb.getD (by omega)
 ·rw [aft_getD b (by rw [ha.1]; exact hi), aft_getD b (by rw [ha.1]; exact hk)] at e
  have h1 := ha.getD hi
  have h2 := ha.getD hk
  have := hb.inj (by omega) (by omega) e
  exact ha.inj hi hk (by omega)
theorem Zg {n : Nat} {a b c : List Int} (ha : zl n a) (hb : b.length = n) : aft (aft a b) c = aft a (aft b c) := by
 refine jT (by rw [zB, zB, zB]) fun i hi => ?_
 rw [zB, zB, ha.1] at hi
 have h1 := ha.getD hi
 rw [aft_getD c (by rw [zB, ha.1]; exact hi), aft_getD b (by rw [ha.1]; exact hi), aft_getD _ (by rw [ha.1]; exact hi), aft_getD c (by omega)]
theorem j4 {n : Nat} {b : List Int} (hb : b.length = n) : aft (zG 0 1 n) b = b := by
 refine jT (by rw [zB, zi, hb]) fun i hi => ?_
 rw [zB, zi] at hi
 rw [aft_getD b (by rw [zi]; exact hi), zU n hi, Int.toNat_natCast]
theorem xE {n : Nat} {a : List Int} (ha : zl n a) : aft a (zG 0 1 n) = a := by
 refine jT (by rw [zB]) fun i hi => ?_
 rw [zB, ha.1] at hi
 have h1 := ha.getD hi
 rw [aft_getD _ (by rw [ha.1]; exact hi), zU n (by omega)]
 omega
noncomputable def qJ (os bs : List Int) : Prop := bs.length = os.length /\ ∀ i, i < os.length -> bs.getD (os.getD i 0).toNat 0 = (i : Int)
theorem qJ.at {n : Nat} {os bs : List Int} (ho : zl n os) (h : qJ os bs) {j : Nat} (hj : j < n) : ∃ i : Nat, i < n /\ os.getD i 0 = (j : Int) /\ bs.getD j 0 = (i : Int) := by
 obtain ⟨i, hi, e⟩ := ho.ex hj
 refine ⟨i, hi, e, ?_⟩
 have := h.2 i (by rw [ho.1]; exact hi)
 rw [e, Int.toNat_natCast] at this
 exact this
theorem qJ.ord {n : Nat} {os bs : List Int} (ho : zl n os) (h : qJ os bs) : zl n bs := by
 refine jz (by rw [h.1, ho.1]) (fun j hj => ?_) (fun j k hj hk e => ?_)
 ·obtain ⟨i, hi, _, e⟩ := h.at ho hj
  rw [e]; omega
 ·obtain ⟨i, hi, e1, e2⟩ := h.at ho hj
  obtain ⟨i', hi', e1', e2'⟩ := h.at ho hk
  have : i = i' := by omega
  subst this
  omega
theorem qJ.right {n : Nat} {os bs : List Int} (ho : zl n os) (h : qJ os bs) : aft os bs = zG 0 1 n := by
 refine jT (by rw [zB, zi, ho.1]) fun i hi => ?_
 rw [zB] at hi
 rw [aft_getD bs hi, h.2 i hi, zU n (by rw [<- ho.1]; exact hi)]
theorem qJ.unique {n : Nat} {os bs cs : List Int} (ho : zl n os) (h : qJ os bs) (hc : cs.length = n) (e : aft os cs = zG 0 1 n) : cs = bs := by
 refine jT (by rw [hc, h.1, ho.1]) fun j hj => ?_
 obtain ⟨i, hi, e1, e2⟩ := h.at ho (by omega : j < n)
 have := congrArg (fun l => l.getD i 0) e
 rw [aft_getD cs (by rw [ho.1]; exact hi), e1, Int.toNat_natCast, zU n hi] at this
 rw [this, e2]
noncomputable def yH (xs os rs : List Int) : Prop := rs.length = os.length /\ ∀ i, i < os.length -> rs.getD (os.getD i 0).toNat 0 = xs.getD i 0
theorem yH.unique {n : Nat} {xs os rs rs' : List Int} (ho : zl n os) (h : yH xs os rs) (h' : yH xs os rs') : rs = rs' := by
 refine jT (by rw [h.1, h'.1]) fun j hj => ?_
 obtain ⟨i, hi, e⟩ := ho.ex (j := j) (by rw [<- ho.1, <- h.1]; exact hj)
 have a := h.2 i (by rw [ho.1]; exact hi)
 have b := h'.2 i (by rw [ho.1]; exact hi)
 rw [e, Int.toNat_natCast] at a b
 rw [a, b]
theorem yH.comp {n : Nat} {xs one other rs ss : List Int} (h1 : zl n one) (h2 : zl n other) (a : yH xs one rs) (b : yH rs other ss) : yH xs (aft one other) ss := by
 refine ⟨by rw [b.1, zB, h1.1, h2.1], fun i hi => ?_⟩
 rw [zB, h1.1] at hi
 have g := h1.getD hi
 rw [aft_getD other (by rw [h1.1]; exact hi), b.2 _ (by rw [h2.1]; omega), a.2 i (by rw [h1.1]; exact hi)]
noncomputable def Aj (os : List Int) (k : Nat) : Nat := ((List.range k).filter fun (i : Nat) => !decide (os.getD i 0 = (i : Int))).length
noncomputable def pwl (n : Nat) (b : List Int) : Nat -> List Int
 | 0 => zG 0 1 n
 | k + 1 => aft (pwl n b k) b
theorem ya {n : Nat} {b : List Int} (hb : zl n b) : ∀ k, zl n (pwl n b k)
 | 0 => zl.rng n
 | k + 1 => (ya hb k).aft hb
theorem vf {n : Nat} {b : List Int} (hb : zl n b) (j : Nat) : ∀ k, aft (pwl n b j) (pwl n b k) = pwl n b (j + k)
 | 0 => xE (ya hb j)
 | k + 1 => by
  show aft (pwl n b j) (aft (pwl n b k) b) = aft (pwl n b (j + k)) b
  rw [<- Zg (ya hb j) (ya hb k).1, vf hb j k]
theorem Zq {n : Nat} {b : List Int} (hb : zl n b) : pwl n b 1 = b := j4 hb.1
theorem Xy {n : Nat} {b : List Int} (hb : zl n b) : ∀ k, pwl n (aft b b) k = pwl n b (2 * k)
 | 0 => rfl
 | k + 1 => by
  show aft (pwl n (aft b b) k) (aft b b) = _
  have e : aft b b = pwl n b 2 := by
   show aft b b = aft (aft (zG 0 1 n) b) b
   rw [j4 hb.1]
  rw [Xy hb k, e, vf hb]
  rfl
end L2
set_option Elab.async false
set_option linter.all false
set_option maxRecDepth 100000
set_option maxHeartbeats 4000000
namespace L2
open PySem PySem.Spec PyProof.Rows
section
variable {X : Cx}
noncomputable def KC (K : PySem.W.Frag) : R2 := fun x y H Q => ∃ p xs i v, x = .ref p /\ y = .int i /\ (SqL K H p xs \/ SqT K H p xs) /\ atI xs i = some v /\ Q v H
theorem jD : IxR X (KC X.K) := by
 intro value slice pins s σ H x y v u Q I rx ry h hs
 obtain ⟨p, xs, i, z, e1, e2, hq | hq, he, q⟩ := h
 ·exact qa value slice pins s σ H x y v u Q I rx ry ⟨p, xs, i, z, e1, e2, hq, he, q⟩ hs
 ·exact jX value slice pins s σ H x y v u Q I rx ry ⟨p, xs, i, z, e1, e2, hq, he, q⟩ hs
theorem YV {K : PySem.W.Frag} (h : X.K = K) : IxR X (KC K) := h ▸ jD
theorem Eb : bootBuiltins "all" = some (.builtin "all") := by decide +kernel
theorem wm : ∀ {bs : List Bool} {us : List Value}, zF (bs.map V.bl) us -> us = bs.map Value.bool
 | [], _, h => by cases h; rfl
 | b :: bs, _, h => by
  cases h with
  | cons r rs => cases r; rw [wm rs]; rfl
theorem Jo (bs : List Bool) : ((List.range bs.length).all fun i => (bs[i]?).getD true) = bs.all id := by
 rw [Bool.eq_iff_iff, List.all_eq_true, List.all_eq_true]
 constructor
 ·intro h x hx
  obtain ⟨i, hi, rfl⟩ := List.getElem_of_mem hx
  have := h i (by simpa using hi)
  simpa [List.getElem?_eq_getElem hi] using this
 ·intro h i hi
  have hi' : i < bs.length := by simpa using hi
  simpa [List.getElem?_eq_getElem hi'] using h bs[i] (List.getElem_mem hi')
theorem Ye (hc : X.calm = true) : jb X (.builtin "all") (fun xs H Q => ∃ p bs, xs = [.ref p] /\ SqL X.K H p (List.map V.bl bs) /\ Q (.bl (bs.all id)) H) := by
  intro pins s σ H xs us Q I r h
  obtain ⟨p, bs, rfl, hq, q⟩ := h
  obtain ⟨u, rfl, rx⟩ := kj r
  cases rx
  obtain ⟨its, rv, pl, hz⟩ := I.list hq
  have hu := wm rv
  subst hu
  have hlt : p < s.heap.objs.size := by obtain ⟨_, e, _⟩ := pl.isList; exact Heap.lt_size e
  refine call_all_walk (wpAny_pyIter_list pl.isList ?_)
  refine ⟨s.heap.objs.size, [s.heap.objs.size, p], [s.heap.objs.size], (bs.map Value.bool).toArray.size, _, _, fun i => (bs[i]?).getD true, rfl, Walks.list (A := X.A.in1) (I.ok.hd hc) _ p (Nat.ne_of_lt hlt) (bs.map Value.bool).toArray,
    ⟨⟨_, Heap.get?_push_size _ rfl, rfl, rfl⟩, pl.isList.push _⟩, fun i v s' Q' E' hP hQ => ?_, fun h' tk hk => ?_⟩
  · have hP' : (bs.map Value.bool)[i]? = some v := by simpa using hP
    rw [List.getElem?_map] at hP'
    cases e : bs[i]? with
    | none => rw [e] at hP'; cases hP'
    | some b =>
      rw [e] at hP'
      cases hP'
      simp only [e, Option.getD_some] at hQ
      exact wpAny_truthy_bool hQ
  · have e : ((List.range (bs.map Value.bool).toArray.size).all fun i => (bs[i]?).getD true) = bs.all id := by
      rw [List.size_toArray, List.length_map]; exact Jo bs
    rw [e]
    refine ⟨.bl (bs.all id), H, I.turnedL (ch := []) (tk := tk) (fun b hb => nomatch hb) (fun b o _ eb => ?_), rfl, q⟩
    exact hk b o (fun hm => by rw [List.mem_singleton.mp hm] at eb; exact Nat.lt_irrefl _ (Heap.lt_size eb)) (Heap.get?_push_of_some _ eb)
end
end L2
set_option Elab.async false
set_option linter.all false
set_option maxRecDepth 100000
set_option maxHeartbeats 4000000
namespace L2
open PySem PySem.Spec PyProof.Rows
noncomputable def nxt (os : List Int) (p : Int) : Int := os.getD p.toNat 0
noncomputable def itn (os : List Int) : Nat -> Int -> Int
 | 0, p => p
 | k + 1, p => nxt os (itn os k p)
theorem qN {n : Nat} {os : List Int} (h : zl n os) {p : Int} (p0 : 0 <= p) (p1 : p < n) : ∀ k, 0 <= itn os k p /\ itn os k p < n
 | 0 => ⟨p0, p1⟩
 | k + 1 => by
  have := qN h p0 p1 k
  exact h.getD (by omega)
theorem kh (os : List Int) (p : Int) (b : Nat) : ∀ a, itn os (a + b) p = itn os a (itn os b p)
 | 0 => by rw [Nat.zero_add]; rfl
 | a + 1 => by
  rw [show a + 1 + b = (a + b) + 1 by omega]
  show nxt os (itn os (a + b) p) = nxt os (itn os a (itn os b p))
  rw [kh os p b a]
theorem BL {n : Nat} {os : List Int} (h : zl n os) {x y : Int} (x0 : 0 <= x) (x1 : x < n) (y0 : 0 <= y) (y1 : y < n) (e : nxt os x = nxt os y) : x = y := by
 have := h.inj (i := x.toNat) (j := y.toNat) (by omega) (by omega) e
 omega
theorem ZC {n : Nat} {os : List Int} (h : zl n os) {x y : Int} (x0 : 0 <= x) (x1 : x < n) (y0 : 0 <= y) (y1 : y < n) : ∀ k, itn os k x = itn os k y -> x = y
 | 0, e => e
 | k + 1, e => by
  have bx := qN h x0 x1 k
  have by' := qN h y0 y1 k
  exact ZC h x0 x1 y0 y1 k (BL h bx.1 bx.2 by'.1 by'.2 e)
theorem KJ {n : Nat} {os : List Int} (h : zl n os) {p : Int} (p0 : 0 <= p) (p1 : p < n) : ∃ M, 1 <= M /\ M <= n /\ itn os M p = p := by
 apply Classical.byContradiction
 intro hno
 have hp : ((List.range (n + 1)).map fun i => itn os i p).Nodup := by
  rw [List.Nodup, List.pairwise_map]
  refine List.Pairwise.imp_of_mem (R := fun a b => a < b) ?_ List.pairwise_lt_range
  intro a b ha hb hlt e
  have hb' : b < n + 1 := by simpa using hb
  refine hno ⟨b - a, by omega, by omega, ?_⟩
  have bb := qN h p0 p1 (b - a)
  refine (ZC h p0 p1 bb.1 bb.2 a ?_).symm
  rw [<- kh, show a + (b - a) = b by omega]
  exact e
 have := vA n _ hp (fun x hx => by
  obtain ⟨i, _, rfl⟩ := List.mem_map.mp hx
  exact qN h p0 p1 i)
 rw [List.length_map, List.length_range] at this
 omega
end L2
set_option Elab.async false
set_option linter.all false
set_option maxRecDepth 100000
set_option maxHeartbeats 4000000
namespace L2
open PySem PySem.Spec PyProof.Rows
end L2
set_option Elab.async false
set_option linter.all false
set_option maxRecDepth 100000
set_option maxHeartbeats 4000000
namespace L2
open PySem PySem.Spec PyProof.Rows
section
variable {P : Program} {w : World} {A : Around} {E : Value -> Shared -> Prop} {s : Shared} {j t : Addr} {i : Nat} {its : Array Value} {Q : Value -> Shared -> Prop}
theorem kf {x : Value} (hj : s.heap.IsTupleIter j t i) (ht : s.heap.IsTuple t its) (hx : its[i]? = some x) (hQ : ∀ h', h'.IsTupleIter j t (i + 1) -> Heap.SameBut j s.heap h' -> Q x { s with heap := h' }) : wpAny (model P w) A (Builtin.SmallTypes.nextOf (.ref j)) Q E s := by
 obtain ⟨o, ho, hc, hd⟩ := id hj
 obtain ⟨ot, hot, _, nt, hdt⟩ := ht
 unfold Builtin.SmallTypes.nextOf
 refine wpAny_bind (wpAny_callSpecial?_slot (name := Str.ofString "__next__") hj.typeIs F.slot_tuple_iterator_next (wpAny_call_entry F.slot_tuple_iterator_next hj.typeIs F.entry_tuple_iterator_next ?_ (F.args_tuple_iterator_next_1 _)))
 refine wpAny_bind (m := field (.ref j) 0) (wpAny_field ho hd (x := .ref t) rfl ?_); show wpAny _ _ (if (Value.ref t == Value.none) = true then _ else _) _ _ s; rw [if_neg (show ¬ ((Value.ref t == Value.none) = true) from Bool.false_ne_true)]
 refine wpAny_bind (m := field (.ref j) 1) (wpAny_field ho hd (x := .int i 0) rfl ?_); refine wpAny_bind (m := seqItems? (.ref t)) (wpAny_seqItems hot hdt ?_); simp only [Int.toNat_natCast, hx]
 refine wpAny_bind (wpAny_setField ho hd (by simp) (wpAny_pure ⟨x, rfl, wpAny_pure (hQ _ ⟨_, Heap.get?_update_self _ ho (Obj.isFreed_of_fields (Obj.data_mapFields hd _)), (Obj.cls_mapFields ..).trans hc, by rw [Obj.data_mapFields hd]; simp [rawInt]⟩ (Heap.SameBut.update ..))⟩))
theorem xk (hh : A.handled = none) (hj : s.heap.IsTupleIter j t i) (ht : s.heap.IsTuple t its) (hx : its[i]? = none) (hE : ∀ h' e, Heap.ExtBut j s.heap h' -> (∃ o, h'.get? e = some o /\ o.cls = .type "StopIteration") -> E (.ref e) { s with heap := h' }) : wpAny (model P w) A (Builtin.SmallTypes.nextOf (.ref j)) Q E s := by
 obtain ⟨o, ho, hc, hd⟩ := id hj
 obtain ⟨ot, hot, _, nt, hdt⟩ := ht
 unfold Builtin.SmallTypes.nextOf
 refine wpAny_bind (wpAny_callSpecial?_slot (name := Str.ofString "__next__") hj.typeIs F.slot_tuple_iterator_next (wpAny_call_entry F.slot_tuple_iterator_next hj.typeIs F.entry_tuple_iterator_next ?_ (F.args_tuple_iterator_next_1 _)))
 refine wpAny_bind (m := field (.ref j) 0) (wpAny_field ho hd (x := .ref t) rfl ?_); show wpAny _ _ (if (Value.ref t == Value.none) = true then _ else _) _ _ s; rw [if_neg (show ¬ ((Value.ref t == Value.none) = true) from Bool.false_ne_true)]
 refine wpAny_bind (m := field (.ref j) 1) (wpAny_field ho hd (x := .int i 0) rfl ?_); refine wpAny_bind (m := seqItems? (.ref t)) (wpAny_seqItems hot hdt ?_); simp only [Int.toNat_natCast, hx]
 refine wpAny_bind (wpAny_rule (wpAny_bind (wpAny_setField ho hd (by simp) ?_))); refine wpAny_bind (m := newExc (.type "StopIteration") []) ?_; simp only [newExc, newTuple]; refine wpAny_bind (wpAny_newObj_type ?_ (by size_fits)); refine wpAny_bind (m := firstArgMember _ _) (wpAny_of_eq (a := Value.none) (by first | rfl | (simp only [firstArgMember]; rfl)) ?_); refine wpAny_newObj_type ?_ (by size_fits); simp only [raiseNew]; refine wpAny_bind (wpAny_handled ?_)
 (first | rw [show A.in1.handled = none from hh] | rw [hh]); refine wpAny_bind (wpAny_pure (wpAny_throw ?_)); exact hE _ _ (((Heap.SameBut.update ..).extBut.push _).push _) ⟨_, Heap.get?_push_size _ rfl, rfl⟩
end
theorem XT {P : Program} {w : World} {A : Around} (hh : A.handled = none) (j t : Addr) (hne : t ≠ j) (its : Array Value) :
  Draws P w A j [j, t] its.size (fun i v => its[i]? = some v) (fun i h => h.IsTupleIter j t i /\ h.IsTuple t its) where
 live := fun _ _ st => let ⟨o, ho, _⟩ := st.1; ⟨o, ho⟩
 frame := fun _ _ _ st hk => ⟨st.1.at fun o e => hk j (by simp) o e, let ⟨o, ho, r⟩ := st.2; ⟨o, hk t (by simp) o ho, r⟩⟩
 item := fun i s Q E hi st hQ => by
  refine kf st.1 st.2 (x := its[i]) (by simp [hi]) fun h' hit' hs' => ?_
  exact hQ _ h' s.toks (by simp [hi]) ⟨hit', let ⟨o, ho, r⟩ := st.2; ⟨o, (hs'.2 t hne).trans ho, r⟩⟩ hs'
 done := fun s Q E st hE => xk hh st.1 st.2 (by simp) hE
open AutoSeq1 (wpAny_loadPart') in
theorem Yy (l : Addr) (its : Array Value) (n : Nat) (dct : Option Addr) (sl : Array (Option Value)) :
  Meets (Builtin.«enumerate.__new__» ⟨[.type "enumerate", .ref l], []⟩) (fun _ R s => s.heap.get? l = some { cls := .type "tuple", dict := dct, data := .seq its n, slots := sl } /\ R (.ok (.ret (.ref (s.heap.push { cls := .type "tuple_iterator", data := .fields #[.ref l, .int 0 0] }).objs.size))) { s with heap := (s.heap.push { cls := .type "tuple_iterator", data := .fields #[.ref l, .int 0 0] }).push { cls := .type "enumerate", data := .fields #[.none, .bool false, .ref s.heap.objs.size, rawInt 0, .none, .none] } }) :=
 .of_wp fun prog w A R s h => by
  obtain ⟨hp, g, d, tk, os⟩ := s
  obtain ⟨hl, h⟩ := h
  have hsub := sub_enumerate
  have hT : Heap.IsTuple (Shared.heap ⟨hp, g, d, tk, os⟩) l its := ⟨_, hl, rfl, n, rfl⟩
  wp_walk using wpAny_loadPart' hl
  refine wpAny_stack_any fun st => wpAny_pure ?_
  split
  ·rename_i c _ _ _ _ _
   cases (c == Value.type "enumerate")
   ·wp_walk using wpAny_loadPart' hl, wpAny_pyIter_tuple hT; exact ⟨_, rfl, h⟩
   ·wp_walk using wpAny_loadPart' hl, wpAny_pyIter_tuple hT; exact ⟨_, rfl, h⟩
  ·wp_walk using wpAny_loadPart' hl, wpAny_pyIter_tuple hT; exact ⟨_, rfl, h⟩
theorem Ji {P : Program} {w : World} {A : Around} {E : Value -> Shared -> Prop} {s : Shared} {l : Addr} {its : Array Value} {Q : Value -> Shared -> Prop} (hT : s.heap.IsTuple l its)
  (h : ∀ h', IsEnum h' (s.heap.objs.size + 1) s.heap.objs.size 0 .none -> h'.IsTupleIter s.heap.objs.size l 0 -> (∀ b o, s.heap.get? b = some o -> h'.get? b = some o) -> Q (.ref (s.heap.objs.size + 1)) { s with heap := h' }) :
  wpAny (model P w) A (call (.type "enumerate") [.ref l]) Q E s := by
 obtain ⟨⟨c, dct, dt, sl⟩, hl, hc, n, hd⟩ := hT
 replace hc : c = .type "tuple" := hc
 replace hd : dt = .seq its n := hd
 subst hc hd
 refine callType_new F.called_enumerate (by decide) (F.typeCall_enumerate_1 _) (F.newCall_enumerate_1 _) (fun obj => F.args_object_init_2 obj _) F.entry_enumerate_new (Yy l its n dct sl) ⟨hl, ?_⟩
 have hz : (s.heap.push { cls := .type "tuple_iterator", data := .fields #[.ref l, .int 0 0] }).objs.size = s.heap.objs.size + 1 := Heap.size_push ..
 show _ /\ _
 rw [hz]
 have he : IsEnum ((s.heap.push { cls := .type "tuple_iterator", data := .fields #[.ref l, .int 0 0] }).push { cls := .type "enumerate", data := .fields #[.none, .bool false, .ref s.heap.objs.size, rawInt 0, .none, .none] }) (s.heap.objs.size + 1) s.heap.objs.size 0 .none := by
  have hg := Heap.get?_push_size (s.heap.push { cls := .type "tuple_iterator", data := .fields #[.ref l, .int 0 0] }) (o := { cls := .type "enumerate", data := .fields #[.none, .bool false, .ref s.heap.objs.size, rawInt 0, .none, .none] }) rfl
  rw [hz] at hg; exact hg
 exact ⟨⟨_, he, rfl⟩, h _ he ⟨_, Heap.get?_push_of_some _ (Heap.get?_push_size _ rfl), rfl, rfl⟩ fun b o x => Heap.get?_push_of_some _ (Heap.get?_push_of_some _ x)⟩
theorem XG {P : Program} {w : World} {A : Around} {E : Value -> Shared -> Prop} {s : Shared} {e j t : Addr} {i : Nat} {its : Array Value} {old : Value} {Q : Option Value -> Shared -> Prop} (hh : A.handled = none)
  (he : IsEnum s.heap e j i old) (hj : s.heap.IsTupleIter j t i) (ht : s.heap.IsTuple t its) (hx : its[i]? = none) (hQ : ∀ h', Heap.ExtBut j s.heap h' -> Q none { s with heap := h' }) : wpAny (model P w) A (pyNext (.ref e)) Q E s := by
 have hT : s.TypeIs (.ref e) "enumerate" := ⟨_, he, rfl⟩
 unfold pyNext
 refine wpAny_bind (wpAny_attempt (wpAny_callSpecial?_slot (name := Str.ofString "__next__") hT F.slot_enumerate_next (wpAny_call_entry F.slot_enumerate_next hT F.entry_enumerate_next ?_ (F.args_enumerate_next_1 _))))
 refine wpAny_bind (m := field (.ref e) 2) (wpAny_field he rfl (x := .ref j) rfl ?_); refine wpAny_bind (xk hh hj ht hx fun h' x he' hx' => ?_)
 obtain ⟨o, ho, hc⟩ := hx'
 refine wpAny_bind (wpAny_isInstance (T := "StopIteration") (b := true) ⟨o, ho, hc⟩ isSubtype_stop ?_); exact wpAny_pure (hQ _ he')
noncomputable def A5 (K : PySem.W.Frag) (a : Addr) : It :=
 ⟨fun i H => ∃ xs x, SqT K H a xs /\ xs[i]? = some x, fun i H y H' => ∃ p x, H p = none /\ y = .ref p /\ (∀ xs, SqT K H a xs -> xs[i]? = some x) /\ H' = upd H p (.tup [.int i, x]), fun i H => ∃ xs, SqT K H a xs /\ xs.length <= i⟩
theorem JD {P : Program} {w : World} {K : PySem.W.Frag} {es : List Expr} {kt : Nat} {tp : Pos} (a e it : Addr) (hei : e ≠ it) (hea : e ≠ a) (hai : a ≠ it) : ZF P w K (.Tuple es kt tp) (A5 K a) [e, it] e (fun i h => (∃ old, IsEnum h e it (i : Nat) old) /\ h.IsTupleIter it a i) where
 mem := by simp
 obj := fun i h st b hb => by
  obtain ⟨⟨old, he⟩, ⟨o, e1, c, d⟩⟩ := st
  rcases List.mem_cons.mp hb with rfl | hb
  ·exact ⟨_, he, fun v z => by have z' : Data.fields _ = Data.cell v := z; cases z'⟩
  ·have e2 : b = it := by simpa using hb
   subst e2
   exact ⟨o, e1, fun v z => by rw [d] at z; cases z⟩
 keep := fun i h h' st k => by
  obtain ⟨⟨old, he⟩, st⟩ := st
  exact ⟨⟨old, k e (by simp) _ he⟩, st.at fun o e => k it (by simp) o e⟩
 item := by
  intro X hP hw hK hc i pins s σ H E I hf st hg
  subst hP hw hK
  obtain ⟨⟨old, he⟩, st⟩ := st
  obtain ⟨xs, x, hq, hx⟩ := hg
  obtain ⟨its, rv, p, hz⟩ := I.tuple hq
  obtain ⟨u, hu, ru⟩ := rv.get hx
  have hlt : i < its.toArray.size := by
   have := (List.getElem?_eq_some_iff.mp hu).1
   simpa using this
  refine wpAny_pyNext_enum_itemD (XT (A := X.A.in1) (I.ok.hd hc) it a hai its.toArray) he ⟨st, p⟩ hlt hei (by simp [hei, hea]) fun x' h1 tk hP heo hit1 ht1 hz1 hk1 => ?_
  have hxu : x' = u := by
   have h1' : its[i]? = some x' := by simpa using hP
   rw [hu] at h1'; cases h1'; rfl
  subst hxu
  refine ⟨.ref s.heap.objs.size, rfl, wpAny_letOwnedTupleGo_enum heo fun h2 he2 hs2 => ?_⟩
  replace hs2 : Heap.SameBut e h1 h2 := hs2
  have elt : e < s.heap.objs.size := Heap.lt_size he
  have ht2 := (hs2.2 _ (Nat.ne_of_gt elt)).trans ht1
  have I2 : Inv X pins σ (upd H s.heap.objs.size (.tup [.int i, x])) { s with heap := h2, toks := tk + 1 } := by
   refine I.yieldTup (us := [.int i tk, x']) hf (fun b o hb q => ?_) (Nat.le_refl _) ht2 (.cons ⟨_, rfl⟩ (.cons ru .nil)) (by show 2 <= sizeLine; decide)
   have n1 : b ≠ e := fun z => hb (by simp [z])
   have n2 : b ≠ it := fun z => hb (by simp [z])
   exact (hs2.2 b n1).trans (hk1 b o n1 n2 q)
  refine ⟨.ref s.heap.objs.size, _, I2, rfl, ⟨s.heap.objs.size, x, I.hok.fresh (Nat.le_refl _), rfl, fun ys hy => by rw [I.tuple_inj hy hq]; exact hx, rfl⟩, ⟨⟨_, by simpa using he2⟩, hit1.1.extBut hs2.extBut (Ne.symm hei)⟩, fun b hb => ?_⟩
  have hlt : b < s.heap.objs.size := by
   rcases List.mem_cons.mp hb with rfl | hb
   ·exact elt
   ·have e2 : b = it := by simpa using hb
    subst e2
    obtain ⟨o, e1, _⟩ := st
    exact Heap.lt_size e1
  rw [zj (Nat.ne_of_lt hlt)]
  exact (hf b hb).1
 done := by
  intro X hP hw hK hc i pins s σ H E I hf st hg
  subst hP hw hK
  obtain ⟨⟨old, he⟩, st⟩ := st
  obtain ⟨xs, hq, hx⟩ := hg
  obtain ⟨its, rv, p, hz⟩ := I.tuple hq
  obtain ⟨f0, f1, f2, f3, f4, f5⟩ := hf it (by simp)
  have hl := rv.length
  exact XG (I.ok.hd hc) he st p (by simp; omega) fun h' eb => ⟨rfl, I.turned (t' := s.toks) (fun b o hb e => eb b o hb e) f0 f1 f3 f4 f5⟩
 self := fun _ _ _ _ _ st h => by
  obtain ⟨⟨old, he⟩, _⟩ := st
  exact wpAny_pyIter_enum he h
section
variable {X : Cx} {es : List Expr} {kt : Nat} {tp : Pos}
noncomputable def ZZ (K : PySem.W.Frag) (ta : TA) : TI := fun σ H R => ta σ H fun vs H1 => ∃ a, vs = [.ref a] /\ (((∃ xs, SqL K H1 a xs) /\ R (Ite K a) H1) \/ ((∃ xs, SqT K H1 a xs) /\ R (A5 K a) H1))
theorem xq {e : Expr} {ta : TA} {p pos : Pos} (hg : Gl X "enumerate") (hm : X.mg "enumerate" = none) (ha : PA X [e] ta) (hs : starEach [e] X.env = [(false, eval e X.env)] := by rfl) :
  PI X (.Tuple es kt tp) (.Call (.Name "enumerate" p) [e] [] pos) (ZZ X.K ta) := by
 intro pins s σ H R I h
 refine Call_ (kX I hg hm (vy) (PyProof.Rows.callWith_type1 (thn (ha pos pins s σ H _ I h) fun us s1 ⟨vs, H1, I1, r1, q1⟩ => ?_) hs rfl))
 obtain ⟨a, e, q⟩ := q1
 subst e
 obtain ⟨u, rfl, ru⟩ := kj r1
 cases ru
 have hb' : ∀ b ∈ [s1.heap.objs.size + 1, s1.heap.objs.size], s1.heap.objs.size <= b := by
  intro b hb
  simp only [List.mem_cons, List.not_mem_nil, or_false] at hb
  omega
 rcases q with ⟨⟨xs, hq⟩, q⟩ | ⟨⟨xs, hq⟩, q⟩
 ·obtain ⟨its, rv, pl, hz⟩ := I1.list hq
  refine call_enumerate_list pl.isList fun h' he hit hsz hk => wpAny_pyIter_enum he ?_
  have I2 : Inv X pins σ H1 { s1 with heap := h' } := I1.kept (t' := s1.toks) hk
  exact ⟨s1.heap.objs.size + 1, [s1.heap.objs.size + 1, s1.heap.objs.size], _, _, H1, rfl, I2, wY a _ _ (Nat.succ_ne_self _), ⟨⟨_, he⟩, hit⟩, fun b hb => I1.fpOk (hb' b hb) (I1.hok.fresh (hb' b hb)), q⟩
 ·obtain ⟨its, rv, pl, hz⟩ := I1.tuple hq
  have alt : a < s1.heap.objs.size := by obtain ⟨o, e, _⟩ := pl; exact Heap.lt_size e
  refine Ji pl fun h' he hit hk => wpAny_pyIter_enum he ?_
  have I2 : Inv X pins σ H1 { s1 with heap := h' } := I1.kept (t' := s1.toks) hk
  exact ⟨s1.heap.objs.size + 1, [s1.heap.objs.size + 1, s1.heap.objs.size], _, _, H1, rfl, I2, JD a (s1.heap.objs.size + 1) s1.heap.objs.size (Nat.succ_ne_self _) (Nat.ne_of_gt (Nat.lt_succ_of_lt alt)) (Nat.ne_of_lt alt), ⟨⟨_, he⟩, hit⟩, fun b hb => I1.fpOk (hb' b hb) (I1.hok.fresh (hb' b hb)), q⟩
end
theorem Kt {K : PySem.W.Frag} {H H' : Hp} {a : Addr} {xs : List V} (h : SqT K H a xs) (e : Kp [] H H') : SqT K H' a xs := by
 rcases h with (h | ⟨o, h⟩) | h
 ·exact .inl (.inl (e _ _ (by simp) h))
 ·exact .inl (.inr ⟨o, e _ _ (by simp) h⟩)
 ·exact .inr h
theorem JZ {K : PySem.W.Frag} {H H' : Hp} {a : Addr} {xs : List V} (h : SqL K H a xs) (e : Kp [] H H') : SqL K H' a xs := by
 rcases h with (h | ⟨o, h⟩) | h
 ·exact .inl (.inl (e _ _ (by simp) h))
 ·exact .inl (.inr ⟨o, e _ _ (by simp) h⟩)
 ·exact .inr h
end L2
set_option Elab.async false
set_option linter.all false
set_option maxRecDepth 100000
set_option maxHeartbeats 4000000
namespace L2
open PySem PySem.Spec PyProof.Rows
theorem qJ.same {n : Nat} {os bs cs : List Int} (ho : zl n os) (h : qJ os bs) (h' : qJ os cs) : cs = bs := qJ.unique ho h (h'.ord ho).1 (h'.right ho)
theorem vO {K : PySem.W.Frag} {a : Addr} {xs : List V} {g : TG} {tb : TS} {D : ke} {σ : St} {H0 H : Hp} (hq : SqL K H0 a xs \/ SqT K H0 a xs) (Pv : Nat -> St -> Hp -> Prop) (h0 : Pv 0 σ H) (hl : ∀ i σ H', Pv i σ H' -> Kp [] H0 H')
  (hs : ∀ i x p σ H, xs[i]? = some x -> H p = none -> Pv i σ H -> g (.ref p) σ (upd H p (.tup [.int i, x])) fun σ2 H2 => tb { D with nx := Pv (i + 1), ct := Pv (i + 1), bk := D.nx } σ2 H2) (hd : ∀ σ H, Pv xs.length σ H -> D.nx σ H) :
  ((∃ xs, SqL K H a xs) /\ YM (Ite K a) g tb D σ H) \/ ((∃ xs, SqT K H a xs) /\ YM (A5 K a) g tb D σ H) := by
 rcases hq with hq | hq
 ·exact .inl ⟨⟨_, JZ hq (hl 0 σ H h0)⟩, Kw Pv h0 (fun i σ H' _ p => JZ hq (hl i σ H' p)) hs hd⟩
 ·refine .inr ⟨⟨_, Kt hq (hl 0 σ H h0)⟩, fun i m σ H => m = xs.length - i /\ i <= xs.length /\ Pv i σ H, ⟨xs.length, by simp, Nat.zero_le _, h0⟩, ?_⟩
  rintro i m σ H' ⟨rfl, hi, p⟩
  have q := Kt hq (hl i σ H' p)
  by_cases hlt : i < xs.length
  ·refine .inr ⟨⟨xs, xs[i], q, by simp [hlt]⟩, Pv (i + 1), fun σ' H' p' => ⟨xs.length - (i + 1), by omega, rfl, hlt, p'⟩, fun x H' y => ?_⟩
   obtain ⟨pp, x', hp, rfl, y, rfl⟩ := y
   exact hs i x' pp σ _ (y xs q) hp p
  ·have e : i = xs.length := by omega
   subst e
   exact .inl ⟨⟨xs, q, Nat.le_refl _⟩, hd σ H' p⟩
noncomputable def ME (t : TE) : Prop := ∀ σ H Q Q', (∀ v H1, Q v H1 -> Q' v H1) -> t σ H Q -> t σ H Q'
noncomputable def MT (t : TT) : Prop := ∀ σ H Q Q', (∀ v H1, Q v H1 -> Q' v H1) -> t σ H Q -> t σ H Q'
noncomputable def MR (r : R2) : Prop := ∀ x y H Q Q', (∀ z H1, Q z H1 -> Q' z H1) -> r x y H Q -> r x y H Q'
theorem Au {i : Nat} : ME (YR i) := fun _ _ _ _ hq ⟨v, e, h⟩ => ⟨v, e, hq _ _ h⟩
theorem HA {r : R2} {ta tb : TE} (hr : MR r) (ha : ME ta) (hb : ME tb) : ME (tOp r ta tb) := fun _ _ _ _ hq h => ha _ _ _ _ (fun _ _ h1 => hb _ _ _ _ (fun _ _ h2 => hr _ _ _ _ _ hq h2) h1) h
theorem BR {t : TE} (h : ME t) : MT (K4 t) := fun _ _ _ _ hq q => h _ _ _ _ (fun _ _ ⟨k, e, z⟩ => ⟨k, e, hq _ _ z⟩) q
end L2
set_option Elab.async false
set_option linter.all false
set_option maxRecDepth 100000
set_option maxHeartbeats 4000000
namespace L2
open PySem PySem.Spec PyProof.Rows
theorem WH {p : Nat -> Prop} : ∀ n, p n -> ∃ m, p m /\ ∀ j, j < m -> ¬ p j := by
 intro n
 induction n using Nat.strongRecOn with
 | _ n ih =>
  intro h
  by_cases hx : ∃ j, j < n /\ p j
  ·obtain ⟨j, hj, pj⟩ := hx
   exact ih j hj pj
  ·exact ⟨n, h, fun j hj pj => hx ⟨j, hj, pj⟩⟩
noncomputable def kz (os : List Int) (p : Int) (m : Nat) : Prop := 1 <= m /\ itn os m p = p /\ ∀ j, 1 <= j -> j < m -> itn os j p ≠ p
theorem kz.uniq {os : List Int} {p : Int} {m m' : Nat} (h : kz os p m) (h' : kz os p m') : m = m' := by
 obtain ⟨a1, a3, a4⟩ := h
 obtain ⟨b1, b3, b4⟩ := h'
 rcases Nat.lt_trichotomy m m' with z | z | z
 ·exact absurd a3 (b4 m a1 z)
 ·exact z
 ·exact absurd b3 (a4 m' b1 z)
theorem xc {n : Nat} {os : List Int} (h : zl n os) {p : Int} (p0 : 0 <= p) (p1 : p < n) : ∃ m, kz os p m /\ m <= n := by
 obtain ⟨M, h1, h2, h3⟩ := KJ h p0 p1
 obtain ⟨m, ⟨m1, m2⟩, m3⟩ := WH (p := fun k => 1 <= k /\ itn os k p = p) M ⟨h1, h3⟩
 refine ⟨m, ⟨m1, m2, fun j j1 jm e => m3 j jm ⟨j1, e⟩⟩, ?_⟩
 rcases Nat.lt_or_ge M m with z | z
 ·exact absurd ⟨h1, h3⟩ (m3 M z)
 ·omega
open Classical in
noncomputable def per (os : List Int) (p : Int) : Nat := if h : ∃ m, kz os p m then Classical.choose h else 0
theorem kz.per {os : List Int} {p : Int} {m : Nat} (h : kz os p m) : per os p = m := by
 have hx : ∃ m, kz os p m := ⟨m, h⟩
 unfold L2.per
 rw [dif_pos hx]
 exact (Classical.choose_spec hx).uniq h
noncomputable def itl (os : List Int) (p : Int) (k : Nat) : List Int := (List.range k).map fun i => itn os i p
theorem VR (os : List Int) (p : Int) (k : Nat) : itl os p (k + 1) = itl os p k ++ [itn os k p] := by
 unfold itl; rw [List.range_succ, List.map_append]; rfl
theorem qT (os : List Int) (p : Int) (k : Nat) : (itl os p k).length = k := by simp [itl]
theorem qz {os : List Int} {p : Int} {k : Nat} {x : Int} : x ∈ itl os p k ↔ ∃ i, i < k /\ itn os i p = x := by
 unfold itl
 rw [List.mem_map]
 constructor
 ·rintro ⟨i, hi, e⟩
  exact ⟨i, by simpa using hi, e⟩
 ·rintro ⟨i, hi, e⟩
  exact ⟨i, by simpa using hi, e⟩
noncomputable def zL (os : List Int) (p : Int) : List Int := itl os p (per os p)
noncomputable def Rch (os : List Int) (q x : Int) : Prop := ∃ k, itn os k q = x
theorem Rch.refl {os : List Int} {p : Int} : Rch os p p := ⟨0, rfl⟩
theorem Rch.trans {os : List Int} {p q r : Int} (a : Rch os p q) (b : Rch os q r) : Rch os p r := by
 obtain ⟨i, rfl⟩ := a
 obtain ⟨j, rfl⟩ := b
 exact ⟨j + i, kh os p i j⟩
theorem ZE {os : List Int} {p : Int} {m : Nat} (h : itn os m p = p) : ∀ k, itn os (k * m) p = p
 | 0 => by rw [Nat.zero_mul]; rfl
 | k + 1 => by rw [Nat.succ_mul, Nat.add_comm, kh, ZE h k, h]
theorem AN {os : List Int} {p : Int} {m : Nat} (h : itn os m p = p) (k : Nat) : itn os k p = itn os (k % m) p := by
 have e : k = k % m + (k / m) * m := by rw [Nat.mul_comm]; exact (Nat.mod_add_div k m).symm
 conv => lhs; rw [e]
 rw [kh, ZE h]
theorem Rch.symm {n : Nat} {os : List Int} (h : zl n os) {p q : Int} (p0 : 0 <= p) (p1 : p < n) (a : Rch os p q) : Rch os q p := by
 obtain ⟨k, rfl⟩ := a
 obtain ⟨M, h1, _, h3⟩ := KJ h p0 p1
 refine ⟨(k + 1) * M - k, ?_⟩
 have hle : k <= (k + 1) * M := Nat.le_trans (Nat.le_succ k) (Nat.le_mul_of_pos_right _ h1)
 rw [<- kh, Nat.sub_add_cancel hle, ZE h3]
theorem Rch.mem_ring {os : List Int} {p x : Int} {m : Nat} (h : kz os p m) : Rch os p x ↔ x ∈ itl os p m := by
 rw [qz]
 constructor
 ·rintro ⟨k, rfl⟩
  exact ⟨k % m, Nat.mod_lt _ h.1, (AN h.2.1 k).symm⟩
 ·rintro ⟨i, _, e⟩
  exact ⟨i, e⟩
noncomputable def xY (os : List Int) (p : Nat) : Prop := ∀ q : Nat, q < p -> ¬ Rch os (q : Int) (p : Int)
open Classical in
noncomputable def zy (os : List Int) : Nat -> List (List Int)
 | 0 => []
 | i + 1 => zy os i ++ if xY os i /\ 1 < per os (i : Int) then [zL os (i : Int)] else []
noncomputable def qk (os : List Int) (i : Nat) (x : Int) : Prop := ∃ q : Nat, q < i /\ Rch os (q : Int) x
theorem qk.succ {os : List Int} {i : Nat} {x : Int} : qk os (i + 1) x ↔ qk os i x \/ Rch os (i : Int) x := by
 constructor
 ·rintro ⟨q, hq, r⟩
  by_cases e : q = i
  ·subst e; exact .inr r
  ·exact .inl ⟨q, by omega, r⟩
 ·rintro (⟨q, hq, r⟩ | r)
  ·exact ⟨q, by omega, r⟩
  ·exact ⟨i, by omega, r⟩
theorem jA {os : List Int} {i : Nat} : xY os i ↔ ¬ qk os i (i : Int) := by
 constructor
 ·rintro h ⟨q, hq, r⟩; exact h q hq r
 ·intro h q hq r; exact h ⟨q, hq, r⟩
theorem qk.step {n : Nat} {os : List Int} (h : zl n os) {i : Nat} (hi : i < n) (hs : qk os i (i : Int)) {x : Int} : qk os (i + 1) x ↔ qk os i x := by
 rw [qk.succ]
 constructor
 ·rintro (z | z)
  ·exact z
  ·obtain ⟨q, hq, r⟩ := hs
   exact ⟨q, hq, r.trans z⟩
 ·exact .inl
theorem qk.apart {n : Nat} {os : List Int} (h : zl n os) {i : Nat} (hi : i < n) (hs : ¬ qk os i (i : Int)) {x : Int} (r : Rch os (i : Int) x) : ¬ qk os i x := by
 rintro ⟨q, hq, rq⟩
 exact hs ⟨q, hq, rq.trans (r.symm h (by omega) (by omega))⟩
theorem vJ (os : List Int) : ∀ i, (zy os i).length <= i
 | 0 => Nat.le_refl _
 | i + 1 => by
  unfold zy
  rw [List.length_append]
  have := vJ os i
  split <;> simp <;> omega
theorem qW {n : Nat} {os : List Int} (h : zl n os) {r : List Int} : ∀ {i : Nat}, i <= n -> r ∈ zy os i -> 1 < r.length /\ r.length <= n
 | 0, _, hr => by simp [zy] at hr
 | i + 1, hi, hr => by
  unfold zy at hr
  rcases List.mem_append.mp hr with z | z
  ·exact qW h (by omega) z
  ·by_cases c : xY os i /\ 1 < per os (i : Int)
   ·rw [if_pos c] at z
    rw [List.mem_singleton.mp z]
    obtain ⟨m, hm, hle⟩ := xc h (p := (i : Int)) (by omega) (by omega)
    unfold zL
    rw [qT]
    have := hm.per
    omega
   ·rw [if_neg c] at z; cases z
end L2
set_option Elab.async false
set_option linter.all false
set_option maxRecDepth 100000
set_option maxHeartbeats 4000000
namespace L2
open PySem PySem.Spec PyProof.Rows
end L2
set_option Elab.async false
set_option linter.all false
set_option maxRecDepth 100000
set_option maxHeartbeats 4000000
namespace L2
open PySem PySem.Spec PyProof.Rows
noncomputable def iLT (K : PySem.W.Frag) (tl : TE) : TI := fun σ H R => tl σ H fun x H1 => ∃ a, x = .ref a /\ (((∃ xs, SqL K H1 a xs) /\ R (Itl K a) H1) \/ ((∃ xs, SqT K H1 a xs) /\ R (Itt K a) H1))
theorem xP {X : Cx} {tg : Expr} {l : Expr} {tl : TE} (hl : PE X l tl) : PI X tg l (iLT X.K tl) := by
 intro pins s σ H R I h
 refine thn (hl pins s σ H _ I h) fun v s1 ⟨x, H1, I1, r1, q1⟩ => ?_
 obtain ⟨a, e, q⟩ := q1
 subst e
 cases r1
 have fo : ∀ b ∈ [s1.heap.objs.size], xB X pins H1 b := fun b hb => by
  have e : b = s1.heap.objs.size := by simpa using hb
  subst e
  exact I1.fpOk (Nat.le_refl _) (I1.hok.fresh (Nat.le_refl _))
 rcases q with ⟨⟨xs, hq⟩, q⟩ | ⟨⟨xs, hq⟩, q⟩
 ·obtain ⟨its, rv, p, hz⟩ := I1.list hq
  refine wpAny_pyIter_list p.isList ?_
  exact ⟨s1.heap.objs.size, [s1.heap.objs.size], _, _, H1, rfl, I1.kept (t' := s1.toks) fun b o e => Heap.get?_push_of_some _ e, Zb a _, ⟨_, Heap.get?_push_size _ rfl, rfl, rfl⟩, fo, q⟩
 ·obtain ⟨its, rv, p, hz⟩ := I1.tuple hq
  refine wpAny_pyIter_tuple (show s1.heap.IsTuple a its.toArray from p) ?_
  exact ⟨s1.heap.objs.size, [s1.heap.objs.size], _, _, H1, rfl, I1.kept (t' := s1.toks) fun b o e => Heap.get?_push_of_some _ e, vU a _, ⟨_, Heap.get?_push_size _ rfl, rfl, rfl⟩, fo, q⟩
theorem Ey {K : PySem.W.Frag} {a : Addr} {xs : List V} {g : TG} {tt : TT} {te : TE} {Q : VK} {τ : St} {H1 : Hp} {D : Addr} (Pv : Nat -> St -> Hp -> Prop) (h0 : Pv 0 τ (upd H1 D (.lst []))) (hl : ∀ i τ H, i <= xs.length -> Pv i τ H -> SqT K H a xs)
  (hs : ∀ i x τ H, xs[i]? = some x -> Pv i τ H -> g x τ H fun τ2 H3 => tt τ2 H3 fun b H4 => if b = true then te τ2 H4 fun v H5 => ∃ ys, H5 D = some (.lst ys) /\ ys.length < sizeLine /\ Pv (i + 1) τ2 (upd H5 D (.lst (ys ++ [v]))) else Pv (i + 1) τ2 H4)
  (hd : ∀ τ H, Pv xs.length τ H -> Q (.ref D) H) : DD (Itt K a) g tt te D Q τ (upd H1 D (.lst [])) := by
 refine ⟨fun i m τ H => m = xs.length - i /\ i <= xs.length /\ Pv i τ H, ⟨xs.length, by simp, Nat.zero_le _, h0⟩, ?_⟩
 rintro i m τ H ⟨rfl, hi, p⟩
 have q := hl i τ H hi p
 by_cases hlt : i < xs.length
 ·refine .inr ⟨⟨xs, xs[i], q, by simp [hlt]⟩, Pv (i + 1), fun σ' H' p' => ⟨xs.length - (i + 1), by omega, rfl, hlt, p'⟩, fun x H' y => ?_⟩
  obtain ⟨e, y⟩ := y
  subst e
  exact hs i x τ _ (y xs q) p
 ·have e : i = xs.length := by omega
  subst e
  exact .inl ⟨⟨xs, q, Nat.le_refl _⟩, hd τ H p⟩
noncomputable def G8 (n : Nat) (os : List Int) (many : Int) (rs : List Int) : Prop := ∃ bs, zl n bs /\ (0 <= many -> bs = os) /\ (many < 0 -> qJ os bs) /\ rs = pwl n bs many.natAbs
end L2
set_option Elab.async false
set_option linter.all false
set_option maxRecDepth 100000
set_option maxHeartbeats 4000000
namespace L2
open PySem PySem.Spec PyProof.Rows
end L2
set_option Elab.async false
set_option linter.all false
set_option maxRecDepth 100000
set_option maxHeartbeats 4000000
namespace L2
open PySem PySem.Spec PyProof.Rows
section
variable {X : Cx}
end
end L2
set_option Elab.async false
set_option linter.all false
set_option maxRecDepth 100000
set_option maxHeartbeats 4000000
namespace L2
open PySem PySem.Spec PyProof.Rows
noncomputable def tfs (ps : List (Addr × List V)) : List V := ps.map fun r => V.ref r.1
section
variable {X : Cx}
end
end L2
set_option Elab.async false
set_option linter.all false
set_option maxRecDepth 100000
set_option maxHeartbeats 4000000
namespace L2
open PySem PySem.Spec PyProof.Rows
theorem XZ {X : Cx} : MtR X "list.extend" vg := XU
end L2
set_option Elab.async false
set_option linter.all false
set_option maxRecDepth 100000
set_option maxHeartbeats 4000000
namespace L2
open PySem PySem.Spec PyProof.Rows
noncomputable def kU (prog : Program) (w : World) (A : Around) (elt : Expr) (gens : List Comprehension) (scope : Scope) (pos : Pos) (d : Nat) (acc : Value) (env : Env) (Q : Shared -> Prop) (s : Shared) : Prop :=
  match gens[d + 1]? with
  | some g' => wpAny (model prog w) A (eval g'.iter env) (fun x s1 => wpAny (model prog w) A (foldedSetIterable g'.iter env x) (fun x s2 => wpAny (model prog w) A (pyIter x) (fun it s3 =>
      wpAny (model prog w) A (runOwn (Code.compStart (.ListComp elt gens scope pos) (d + 1) it acc env) env) (fun _ s4 => Q s4) (fun _ _ => False) s3) (fun _ _ => False) s2) (fun _ _ => False) s1) (fun _ _ => False) s
  | none => wpAny (model prog w) A (eval elt env) (fun v s1 => wpAny (model prog w) A (call (.builtin "list.append") [acc, v]) (fun _ s2 => Q s2) (fun _ _ => False) s1) (fun _ _ => False) s
section
variable {prog : Program} {w : World} {A : Around} {R : Result -> Shared -> Prop} {s : Shared}
theorem QN {elt : Expr} {gens : List Comprehension} {d : Nat} {scope : Scope} {pos : Pos} {acc : Value} {env : Env} {Q Q' : Shared -> Prop} (h : kU prog w A elt gens scope pos d acc env Q s) (hq : ∀ s, Q s -> Q' s) : kU prog w A elt gens scope pos d acc env Q' s := by
 unfold kU at h ⊢
 cases e : gens[d + 1]? with
 | none =>
  simp only [e] at h ⊢
  exact wpAny_mono h (fun x s₄ h₄ => wpAny_mono h₄ (fun _ s₅ h₅ => hq _ h₅) fun _ _ h' => h') fun _ _ h' => h'
 | some g' =>
  simp only [e] at h ⊢
  exact wpAny_mono h (fun x s₄ h₄ => wpAny_mono h₄ (fun x s₅ h₅ => wpAny_mono h₅ (fun it s₆ h₆ => wpAny_mono h₆ (fun _ s₇ h₇ => hq _ h₇) fun _ _ h' => h') fun _ _ h' => h') fun _ _ h' => h') fun _ _ h' => h'
theorem kx {elt target iter : Expr} {ifs : List Expr} {gens : List Comprehension} {d : Nat} {scope : Scope} {pos : Pos} {it acc : Value} {env : Env} (hg : gens[d]? = some ⟨target, iter, ifs, 0⟩) (hn : ∀ g', gens[d + 1]? = some g' -> g'.is_async = 0) (I : Nat -> Shared -> Prop)
    (turn : ∀ n s, I n s -> wpAny (model prog w) A (pyNext it) (fun r s₁ => match r with
      | none => R (.ok .next) s₁
      | some v => wpAny (model prog w) A (letOwnedTupleGo target it v) (fun _ s₀ => wpAny (model prog w) A (assign target env v) (fun _ s₂ =>
          wpAny (model prog w) A (forIn ifs true fun c r => if r = true then do let ok <- isTrue c env (eval c env); pure (ForInStep.yield ok) else pure (ForInStep.yield r)) (fun ok s₃ =>
            if ok = true then kU prog w A elt gens scope pos d acc env (fun s₅ => ∃ m, m < n /\ I m s₅) s₃
            else ∃ m, m < n /\ I m s₃) (fun _ _ => False) s₂) (fun _ _ => False) s₀) (fun _ _ => False) s₁) (fun _ _ => False) s)
    (n : Nat) (h : I n s) :
    codeAny (model prog w) A (.compLoop (.ListComp elt gens scope pos) d it acc env) R s := by
  refine codeAny_loop rfl I (fun n s hI => ?_) n h
  show wpAny _ A ((compTurn (.ListComp elt gens scope pos) d it acc env).onRaise (fun x => do noteFrame x env; theTreesLotGoes x)) _ _ s
  refine wpAny_noted ?_
  unfold compTurn
  simp only [hg]
  refine wpAny_bind (wpAny_standAt ?_)
  rw [if_neg (by decide)]
  refine wpAny_bind (wpAny_mono (turn n s hI) (fun r s₁ h₁ => ?_) fun _ _ h' => h'.elim)
  cases r with
  | none => exact wpAny_pure h₁
  | some v =>
    refine wpAny_bind (wpAny_mono h₁ (fun _ s₀ h₀ => ?_) fun _ _ h' => h'.elim)
    refine wpAny_bind (wpAny_mono h₀ (fun _ s₂ h₂ => wpAny_bind (wpAny_mono h₂ (fun ok s₃ h₃ => ?_) fun _ _ h' => h'.elim)) fun _ _ h' => h'.elim)
    cases ok with
    | false => exact wpAny_pure ⟨rfl, h₃⟩
    | true =>
      rw [if_pos rfl] at h₃ ⊢
      unfold kU at h₃
      cases e : gens[d + 1]? with
      | none =>
        simp only [e] at h₃ ⊢
        exact wpAny_bind (wpAny_bind (wpAny_mono h₃ (fun x s₄ h₄ => wpAny_bind (wpAny_mono h₄ (fun _ s₅ h₅ => wpAny_pure (wpAny_pure ⟨rfl, h₅⟩)) fun _ _ h' => h'.elim)) fun _ _ h' => h'.elim))
      | some g' =>
        simp only [e] at h₃ ⊢
        have ha := hn g' e
        refine wpAny_bind (wpAny_mono h₃ (fun x s₄ h₄ => ?_) fun _ _ h' => h'.elim)
        refine wpAny_bind (wpAny_standAt ?_)
        rw [if_neg (by rw [ha]; decide)]
        refine wpAny_bind (wpAny_mono h₄ (fun x s₅ h₅ => ?_) fun _ _ h' => h'.elim)
        refine wpAny_bind (wpAny_holding ?_)
        rw [if_neg (by rw [ha]; decide)]
        refine wpAny_mono h₅ (fun it s₆ h₆ => ?_) fun _ _ h' => h'.elim
        exact wpAny_bind (wpAny_mono h₆ (fun _ s₇ h₇ => wpAny_pure ⟨rfl, h₇⟩) fun _ _ h' => h'.elim)
theorem kr {elt target iter : Expr} {ifs : List Expr} {gens : List Comprehension} {d : Nat} {scope : Scope} {pos : Pos} {it acc : Value} {env : Env} (hg : gens[d]? = some ⟨target, iter, ifs, 0⟩)
  (h1 : codeAny (model prog w) A (.compLoop (.ListComp elt gens scope pos) d it acc env) R s)
  (h2 : wpAny (model prog w) A (pyIter it) (fun it' s' => codeAny (model prog w) A (.compLoop (.ListComp elt gens scope pos) d it' acc env) R s') (fun _ _ => False) s) :
  codeAny (model prog w) A (.compStart (.ListComp elt gens scope pos) d it acc env) R s := by
 refine codeAny_loop' rfl (fun _ s' => s' = s) (fun n s' hI => ?_) 0 rfl
 subst hI
 show wpAny _ A ((compStart (.ListComp elt gens scope pos) d it acc env).onRaise (fun x => do noteFrame x env; standAt theWindowsPlace)) _ _ _
 refine wpAny_onRaise ?_
 unfold compStart
 have hc : (clausesOf (.ListComp elt gens scope pos))[d]? = some ⟨target, iter, ifs, 0⟩ := hg
 simp only [hc]
 rw [if_neg (by show ¬ ((0 : Nat) != 0) = true; decide)]
 refine wpAny_bind (wpAny_askSetting ?_)
 split
 ·exact wpAny_pure (.inr ⟨rfl, h1⟩)
 ·refine wpAny_bind (wpAny_rule ?_)
  refine wpAny_bind (wpAny_standAt ?_)
  exact wpAny_bind (wpAny_mono h2 (fun it' s' h' => wpAny_pure (.inr ⟨rfl, h'⟩)) fun _ _ h' => h'.elim)
end
noncomputable def CL (J : It) (g : TG) (tt : TT) (tr : St -> Hp -> (St -> Hp -> Prop) -> Prop) (N : St -> Hp -> Prop) (σ : St) (H : Hp) : Prop := ∃ W : Nat -> Nat -> St -> Hp -> Prop, (∃ m, W 0 m σ H) /\ ∀ i m τ H2, W i m τ H2 ->
 (J.stop i H2 /\ N τ H2) \/ (J.go i H2 /\ ∃ N1 : St -> Hp -> Prop, (∀ τ' H', N1 τ' H' -> ∃ m', m' < m /\ W (i + 1) m' τ' H') /\ ∀ x H', J.yld i H2 x H' -> g x τ H' fun τ2 H3 => tt τ2 H3 fun b H4 =>
  if b = true then tr τ2 H4 N1 else N1 τ2 H4)
noncomputable abbrev TR := St -> Hp -> (St -> Hp -> Prop) -> Prop
noncomputable def wj (te : TE) (D : Addr) : TR := fun σ H N => te σ H fun v H5 => ∃ ys, H5 D = some (.lst ys) /\ ys.length < sizeLine /\ N σ (upd H5 D (.lst (ys ++ [v])))
noncomputable def ZD (wi : TI) (g : TG) (tt : TT) (tr : Addr -> TR) (D : Addr) : TR := fun σ H N => wi σ H fun J H1 => CL J g tt (tr D) N σ H1
noncomputable def PR (C : Cx) (elt : Expr) (gens : List Comprehension) (scope : Scope) (pos : Pos) (d : Nat) (D : Addr) (tr : TR) : Prop :=
 ∀ (pins : List (Addr × Obj)) (s : Shared) (σ : St) (H : Hp) (N : St -> Hp -> Prop), Inv C pins σ H s -> tr σ H N -> kU C.prog C.w C.A elt gens scope pos d (.ref D) C.env (fun s' => ∃ σ' H', Inv C pins σ' H' s' /\ N σ' H') s
section
variable {C : Cx} {elt tg iter : Expr} {ifs : List Expr} {gens : List Comprehension} {scope : Scope} {pos : Pos} {d : Nat} {D : Addr} {g : TG} {tt : TT} {te : TE} {tr : TR}
theorem Xl (hc : C.calm = true) (hgd : gens[d]? = some ⟨tg, iter, ifs, 0⟩) (hn : ∀ g', gens[d + 1]? = some g' -> g'.is_async = 0) (hg : PG C tg g) (ht : PIf C ifs tt) (hr : PR C elt gens scope pos d D tr) (hxe : ∀ e s, ¬ C.xe e s)
  {it : Addr} {fp : List Addr} {tn : Nat -> Heap -> Prop} {J : It} (T : ZF C.prog C.w C.K tg J fp it tn) {pins : List (Addr × Obj)} {s : Shared} {σ : St} {H : Hp} (I : Inv C pins σ H s) (st : tn 0 s.heap) (hf : ∀ b ∈ fp, xB C pins H b) {N : St -> Hp -> Prop} (h : CL J g tt tr N σ H)
  {R : Result -> Shared -> Prop} (fin : ∀ s' σ' H', Inv C pins σ' H' s' -> N σ' H' -> R (.ok .next) s') :
  codeAny (model C.prog C.w) C.A (.compLoop (.ListComp elt gens scope pos) d (.ref it) (.ref D) C.env) R s := by
 obtain ⟨W, ⟨m0, w0⟩, turn⟩ := h
 have no : ∀ {α : Type} {m : Sem α} {Q : α -> Shared -> Prop} {s : Shared}, wpAny (model C.prog C.w) C.A m Q C.xe s -> wpAny (model C.prog C.w) C.A m Q (fun _ _ => False) s := fun h => wpAny_mono h (fun _ _ q => q) fun e s q => hxe e s q
 have stat : ∀ {H' : Hp}, (∀ b ∈ fp, H' b = none) -> ∀ b ∈ fp, xB C pins H' b := fun hn b hb => ⟨hn b hb, (hf b hb).2⟩
 refine kx hgd hn (fun n s' => ∃ i τ H', Inv C pins τ H' s' /\ tn i s'.heap /\ (∀ b ∈ fp, H' b = none) /\ W i n τ H') ?_ m0 ⟨0, σ, H, I, st, fun b hb => (hf b hb).1, w0⟩
 rintro n s5 ⟨i, τ, H5, I5, st5, fr5, w5⟩
 rcases turn i n τ H5 w5 with ⟨stop, qn⟩ | ⟨go, N1, hN, step⟩
 ·refine thn (T.done C rfl rfl rfl hc i pins s5 τ H5 _ I5 (stat fr5) st5 stop) fun r s6 ⟨hr, I6⟩ => ?_
  subst hr
  exact fin s6 τ H5 I6 qn
 ·refine thn (T.item C rfl rfl rfl hc i pins s5 τ H5 _ I5 (stat fr5) st5 go) fun r s6 ⟨u, hr', h6⟩ => ?_
  subst hr'
  refine thn h6 fun _ s7 ⟨x, H7, I7, r7, y7, st7, fr7⟩ => ?_
  have I7' := I7.pinned (stat fr7) (T.obj _ _ st7)
  refine thn (no (hg _ s7 τ H7 x u _ I7' r7 (step x H7 y7))) fun _ s8 ⟨τ8, H8, I8, q8⟩ => ?_
  refine thn (no (ht _ s8 τ8 H8 _ I8 q8)) fun b s9 ⟨H9, I9, q9⟩ => ?_
  have again : ∀ {τ9 : St} {H9 : Hp} {s9 : Shared}, Inv C (pins ++ yB fp s7.heap) τ9 H9 s9 -> N1 τ9 H9 ->
    ∃ m, m < n /\ ∃ i τ H', Inv C pins τ H' s9 /\ tn i s9.heap /\ (∀ b ∈ fp, H' b = none) /\ W i m τ H' := fun {τ9 H9 s9} I9 n9 => by
   obtain ⟨m', hm, w9⟩ := hN _ _ n9
   refine ⟨m', hm, i + 1, τ9, H9, I9.unpinned, T.keep _ _ _ st7 fun b hb o e => (I9.pin (b, o) (List.mem_append_right _ (List.mem_append_right _ (qV hb e)))).1, fun b hb => ?_, w9⟩
   obtain ⟨o, e, d⟩ := T.obj _ _ st7 b hb
   exact (I9.pin (b, o) (List.mem_append_right _ (List.mem_append_right _ (qV hb e)))).2.1
  cases b with
  | false =>
   rw [if_neg Bool.false_ne_true] at q9 ⊢
   exact again I9 q9
  | true =>
   rw [if_pos rfl] at q9 ⊢
   exact QN (hr _ s9 τ8 H9 _ I9 q9) fun s11 ⟨τ9, H11, I11, n11⟩ => again I11 n11
theorem Br (hg2 : gens[d + 1]? = none) (he : PE C elt te) (hxe : ∀ e s, ¬ C.xe e s) : PR C elt gens scope pos d D (wj te D) := by
 intro pins s σ H N I h
 have no : ∀ {α : Type} {m : Sem α} {Q : α -> Shared -> Prop} {s : Shared}, wpAny (model C.prog C.w) C.A m Q C.xe s -> wpAny (model C.prog C.w) C.A m Q (fun _ _ => False) s := fun h => wpAny_mono h (fun _ _ q => q) fun e s q => hxe e s q
 unfold kU
 simp only [hg2]
 refine thn (no (he pins s σ H _ I h)) fun y s10 ⟨v, H10, I10, r10, ys, hys, hlen, n10⟩ => ?_
 exact thn (no (yA (X := C) _ s10 σ H10 (.ref D) [v] (.ref D) [y] (fun _ H11 => N σ H11) I10 rfl (.cons r10 .nil) ⟨_, ys, v, rfl, rfl, hys, hlen, n10⟩)) fun _ s11 ⟨_, H11, I11, _, n11⟩ => ⟨σ, H11, I11, n11⟩
theorem Bq {tr : Addr -> TR} {wi : TI} (hc : C.calm = true) (hgd : gens[d + 1]? = some ⟨tg, iter, ifs, 0⟩) (hn : ∀ g', gens[d + 2]? = some g' -> g'.is_async = 0) (hi : PI C tg iter wi) (hs : ∀ x, foldedSetIterable iter C.env x = pure x) (hg : PG C tg g) (ht : PIf C ifs tt)
  (hr : PR C elt gens scope pos (d + 1) D (tr D)) (hxe : ∀ e s, ¬ C.xe e s) : PR C elt gens scope pos d D (ZD wi g tt tr D) := by
 intro pins s σ H N I h
 have no : ∀ {α : Type} {m : Sem α} {Q : α -> Shared -> Prop} {s : Shared}, wpAny (model C.prog C.w) C.A m Q C.xe s -> wpAny (model C.prog C.w) C.A m Q (fun _ _ => False) s := fun h => wpAny_mono h (fun _ _ q => q) fun e s q => hxe e s q
 unfold kU
 simp only [hgd]
 refine thn (no (hi pins s σ H _ I h)) fun v s1 h1 => ?_
 rw [hs v]
 refine wpAny_pure (thn (no h1) fun itv s2 h2 => ?_)
 obtain ⟨it, fp, tn, J, H2, e, I2, T, st2, f2, q2⟩ := h2
 subst e
 refine wpAny_runOwn ?_
 show codeAny _ C.A _ _ _
 have loop := Xl (R := fun r s' => match r with | .ok f => (∃ σ' H', Inv C pins σ' H' s' /\ N σ' H') | .error e => cameBackBy (model C.prog C.w) C.A C.env (fun _ _ => False) e s') hc hgd hn hg ht hr hxe T I2 st2 f2 q2 fun s' σ' H' I' n' => ⟨σ', H', I', n'⟩
 exact kr hgd loop (T.self _ 0 _ _ _ st2 loop)
end
noncomputable def vw (ts : List Nat) (wi : TI) (g : TG) (tt : TT) (tr : Addr -> TR) : TE := fun σ H Q => wi σ H fun J H1 => ∀ D, H1 D = none -> CL J g tt (tr D) (fun _ H2 => Q (.ref D) H2) (clr ts σ) (upd H1 D (.lst []))
section
variable {X : Cx} {ts : List Nat} {scope : Scope} {tg iter elt : Expr} {ifs : List Expr} {qU : List Comprehension} {wi : TI} {g : TG} {tt : TT} {tr : Addr -> TR} {pos : Pos}
theorem XY (hc : X.calm = true) (hsc : Kg X.N ts scope X.env.kindOf = true) (hi : PI X tg iter wi) (hn : ∀ g', qU[0]? = some g' -> g'.is_async = 0) (hg : ∀ cl s H fp, PG (cxC X scope cl s H fp) tg g) (ht : ∀ cl s H fp, PIf (cxC X scope cl s H fp) ifs tt)
  (hr : ∀ cl s H fp D, PR (cxC X scope cl s H fp) elt (⟨tg, iter, ifs, 0⟩ :: qU) scope pos 0 D (tr D))
  {pins : List (Addr × Obj)} {s : Shared} {σ : St} {H : Hp} {Q : VK} (I : Inv X pins σ H s) (h : vw ts wi g tt tr σ H Q) {use : Option (Value -> Sem Unit)} {Q' : Value -> Shared -> Prop}
  (fin : ∀ (D C : Addr) (H' : Hp) (s' : Shared), Inv X pins σ H' s' -> (∃ m, s'.heap.Ns C m) -> H' C = none -> C ≠ X.env.locals -> (∀ x c, X.env.cells.lookup x = some c -> c ≠ C) -> X.s₀.heap.objs.size <= C -> (∀ p ∈ X.pn ++ pins, p.1 ≠ C) -> C ∉ X.fs -> Q (.ref D) H' ->
   compPost (model X.prog X.w) X.A X.xe use Q' (.ref D) C (.ok .next) s')
  (hs : ∀ x, foldedSetIterable iter X.env x = pure x) :
  wpAny (model X.prog X.w) X.A (comprehension (.ListComp elt (⟨tg, iter, ifs, 0⟩ :: qU) scope pos) scope X.env (firstIterPos (⟨tg, iter, ifs, 0⟩ :: qU) pos) (newList []) false (eval iter X.env) use) Q' X.xe s := by
 have S := VN hsc
 obtain ⟨cl, hcl, c1, c2⟩ := vQ (scope := scope) (env := X.env) fun y hy e => I.ok.has y.1 (S.free y hy e)
 refine wpAny_comprehension_free (use := use) rfl hs hcl S.kind S.loc ?_
 refine wpAny_mono (hi pins s σ H _ I h) (fun v s1 h1 => wpAny_mono h1 (fun itv s2 h2 => ?_) fun _ _ e => e) fun _ _ e => e
 obtain ⟨it, fp, tn, J, H2, e, I2, T, st2, f2, q2⟩ := h2
 subst e
 have hD : H2 s2.heap.objs.size = none := I2.hok.fresh (Nat.le_refl _)
 have q3 := q2 _ hD
 refine wpAny_newObj_type (wpAny_newFunctionEnv S.cell (by intro y hy; simp at hy) (fun h₁ hns₁ hsb₁ => ?_) S.kind)
 dsimp only at hns₁ hsb₁ ⊢
 generalize hh3 : s2.heap.push { cls := .type "list", dict := none, data := .seq ([] : List Value).toArray } = g3 at hns₁ hsb₁ ⊢
 have I3 : Inv X pins σ (upd H2 s2.heap.objs.size (.lst [])) { s2 with heap := g3 } := by
  rw [<- hh3]
  exact I2.laid (t' := s2.toks) (fun b u e => Heap.get?_push_of_some _ e) (Nat.le_refl _) ⟨Nat.zero_le _, [], _, .nil, Heap.get?_push_size _ rfl⟩
 have st3 : tn 0 g3 := T.keep _ _ _ st2 fun b _ o e => by rw [<- hh3]; exact Heap.get?_push_of_some _ e
 have lt2 : ∀ b ∈ fp, b < s2.heap.objs.size := fun b hb => by obtain ⟨o, e, _⟩ := T.obj _ _ st2 b hb; exact Heap.lt_size e
 have hsz3 : g3.objs.size = s2.heap.objs.size + 1 := by rw [<- hh3, Heap.size_push]
 have f3 : ∀ b ∈ fp, xB X pins (upd H2 s2.heap.objs.size (.lst [])) b := fun b hb => ⟨by rw [zj (Nat.ne_of_lt (lt2 b hb))]; exact (f2 b hb).1, (f2 b hb).2⟩
 have lt3 : ∀ b ∈ fp, b < g3.objs.size := fun b hb => by rw [hsz3]; exact Nat.lt_succ_of_lt (lt2 b hb)
 have old : ∀ b o, g3.get? b = some o -> h₁.get? b = some o := fun b o e => hsb₁.extBut b o (Nat.ne_of_lt (Heap.lt_size e)) (Heap.get?_push_of_some _ e)
 have hns : h₁.Ns g3.objs.size (fun x => ([] : List (Str × Value)).reverse.lookup x) := hns₁
 have I4 : ∀ t, Inv (cxC X scope cl { s2 with heap := g3 } (upd H2 s2.heap.objs.size (.lst [])) fp) [] (clr ts σ) (upd H2 s2.heap.objs.size (.lst [])) { s2 with heap := h₁, toks := t } := fun t => wd I3 S f3 lt3 c1 c2 hns old
 have fpne : ∀ b ∈ fp, b ∉ frs X.stack := fun b hb z => by
  obtain ⟨_, f1, f2, _⟩ := f3 b hb
  rcases List.mem_cons.mp (I3.stkSub b z) with e | e
  ·exact f1 e
  ·exact f2 e
 have stat : ∀ {H' : Hp}, (∀ b ∈ fp, H' b = none) -> ∀ b ∈ fp, xB (cxC X scope cl { s2 with heap := g3 } (upd H2 s2.heap.objs.size (.lst [])) fp) [] H' b := fun hn b hb =>
  ⟨hn b hb, Nat.ne_of_lt (lt3 b hb), fpne b hb, .inl hb, fun x c e => (f2 b hb).2.2.2.2.1 x c (c1 x c e), fun p hp => absurd hp (by simp)⟩
 have loop : ∀ t, codeAny (model X.prog X.w) X.A (.compLoop (.ListComp elt (⟨tg, iter, ifs, 0⟩ :: qU) scope pos) 0 (.ref it) (.ref s2.heap.objs.size) (compEnvC scope cl g3.objs.size X.env))
   (compPost (model X.prog X.w) X.A X.xe use Q' (.ref s2.heap.objs.size) g3.objs.size) { s2 with heap := h₁, toks := t } := by
  intro t
  refine Xl (C := cxC X scope cl { s2 with heap := g3 } (upd H2 s2.heap.objs.size (.lst [])) fp) hc rfl (fun g' e => hn g' (by simpa using e)) (hg _ _ _ _) (ht _ _ _ _) (hr _ _ _ _ _) (fun _ _ z => z) T (I4 t) (T.keep _ _ _ st3 fun b _ o e => old b o e) (stat fun b hb => (f3 b hb).1) q3 fun s6 σ6 H5 I6 qn => ?_
  have base : Un (frs X.stack) fp (upd H2 s2.heap.objs.size (.lst [])) H5 g3 s6.heap := I6.base
  have J6 : Inv X pins σ H5 s6 := I3.call' (ch := fp) I6.os base I6.hok I6.bare fun b hb => ⟨(f3 b hb).2.2.2.1, (f3 b hb).2.1, (f3 b hb).2.2.2.2.1, (f3 b hb).2.2.2.2.2⟩
  obtain ⟨m6, n6, _⟩ := I6.loc
  refine fin _ g3.objs.size H5 s6 J6 ⟨m6, n6⟩ I6.free (Nat.ne_of_gt I3.lt) (fun x c e z => ?_) I3.sz (fun p hp z => ?_) (I3.nofs (Nat.le_refl _)) qn
  ·obtain ⟨v, q⟩ := I3.cell x c e
   exact absurd q.lt (by rw [z]; exact Nat.lt_irrefl _)
  ·exact absurd (Heap.lt_size (I3.pin p hp).1) (by rw [z]; exact Nat.lt_irrefl _)
 have LW := loop (s2.toks + ([] : List (Str × Value)).length)
 exact codeAny_compStart_list LW (T.self _ 0 _ _ _ (T.keep _ _ _ st3 fun b _ o e => old b o e) LW)
theorem YT (hc : X.calm = true) (hsc : Kg X.N ts scope X.env.kindOf = true) (hi : PI X tg iter wi) (hg : ∀ cl s H fp, PG (cxC X scope cl s H fp) tg g) (ht : ∀ cl s H fp, PIf (cxC X scope cl s H fp) ifs tt)
  (hr : ∀ cl s H fp D, PR (cxC X scope cl s H fp) elt (⟨tg, iter, ifs, 0⟩ :: qU) scope pos 0 D (tr D)) (hn : ∀ g', qU[0]? = some g' -> g'.is_async = 0 := by intro _ e; cases e; rfl)
  (hs : ∀ x, foldedSetIterable iter X.env x = pure x := by intro _; rfl) : PE X (.ListComp elt (⟨tg, iter, ifs, 0⟩ :: qU) scope pos) (vw ts wi g tt tr) := by
 intro pins s σ H Q I h
 rw [eval_ListComp]
 refine XY hc hsc hi hn hg ht hr I h (use := none) (fun D C H' s' I' ⟨m, hn⟩ hC hL hce hsz hp hfs q => ⟨m, hn, fun h' hs' => ?_⟩) hs
 exact ⟨.ref D, H', I'.turned (t' := s'.toks) (it := C) (fun b o hb e => (hs'.2 b hb).trans e) hC hL (.inr hsz) hce hp, rfl, q⟩
end
theorem XB {ts : List Nat} {wi : TI} {g : TG} {tt : TT} {tr : Addr -> TR} {σ : St} {H : Hp} {Q : VK} :
  vw ts wi g tt tr σ H Q = wi σ H (fun J H1 => ∀ D, H1 D = none -> CL J g tt (tr D) (fun _ H2 => Q (.ref D) H2) (clr ts σ) (upd H1 D (.lst []))) := rfl
theorem Yj {wi : TI} {g : TG} {tt : TT} {tr : Addr -> TR} {D : Addr} {σ : St} {H : Hp} {N : St -> Hp -> Prop} : ZD wi g tt tr D σ H N = wi σ H (fun J H1 => CL J g tt (tr D) N σ H1) := rfl
theorem X1 {te : TE} {D : Addr} {σ : St} {H : Hp} {N : St -> Hp -> Prop} : wj te D σ H N = te σ H (fun v H5 => ∃ ys, H5 D = some (.lst ys) /\ ys.length < sizeLine /\ N σ (upd H5 D (.lst (ys ++ [v])))) := rfl
end L2
set_option Elab.async false
set_option linter.all false
set_option maxRecDepth 100000
set_option maxHeartbeats 4000000
namespace L2
open PySem PySem.Spec PyProof.Rows
section
variable {P : Program} {w : World} {A : Around} {E : Value -> Shared -> Prop} {it l : Addr} {items : Array Value}
end
section
variable {X : Cx} {pos : Pos}
end
end L2
set_option Elab.async false
set_option linter.all false
set_option maxRecDepth 100000
set_option maxHeartbeats 4000000
namespace L2
open PySem PySem.Spec PyProof.Rows
noncomputable def rep (o : Nat) (G : List Int) : List Int := (List.range (o * G.length)).map fun (i : Nat) => ((i / G.length * G.length : Nat) : Int) + G.getD (i % G.length) 0
end L2
set_option Elab.async false
set_option linter.all false
set_option maxRecDepth 100000
set_option maxHeartbeats 4000000
namespace L2
open PySem PySem.Spec PyProof.Rows
section
variable {P : Program} {w : World} {A : Around} {E : Value -> Shared -> Prop} {s : Shared} {z TI TO i1 i2 l1 l2 : Addr} {k : Nat} {xs ys : Array Value} {x y a b : Value} {Q : Option Value -> Shared -> Prop}
theorem YL (D : ZipApart z TI TO i1 i2 l1 l2) (hz : IsZip s.heap z TI TO .none) (hTI : IsPair s.heap TI (.ref i1) (.ref i2)) (hTO : IsPair s.heap TO a b) (h1 : s.heap.IsTupleIter i1 l1 k) (h2 : s.heap.IsTupleIter i2 l2 k) (p1 : s.heap.IsTuple l1 xs) (p2 : s.heap.IsTuple l2 ys) (hx : xs[k]? = some x) (hy : ys[k]? = some y)
  (hQ : ∀ h', IsZip h' z TI TO (rawInt s.heap.objs.size) -> IsPair h' TO x y -> h'.IsTupleIter i1 l1 (k + 1) -> h'.IsTupleIter i2 l2 (k + 1) -> IsPair h' s.heap.objs.size x y -> h'.objs.size = s.heap.objs.size + 1 -> (∀ c o, c ≠ z -> c ≠ TO -> c ≠ i1 -> c ≠ i2 -> s.heap.get? c = some o -> h'.get? c = some o) -> Q (some (.ref s.heap.objs.size)) { s with heap := h' }) :
  wpAny (model P w) A (pyNext (.ref z)) Q E s := by
 have hT : s.TypeIs (.ref z) "zip" := ⟨_, hz, rfl⟩
 unfold pyNext
 refine wpAny_bind (wpAny_attempt (wpAny_callSpecial?_slot (name := Str.ofString "__next__") hT F.slot_zip_next (wpAny_call_entry F.slot_zip_next hT F.entry_zip_next ?_ (F.args_zip_next_1 _))))
 refine wpAny_bind (m := field (.ref z) 2) (wpAny_field hz rfl (x := .bool false) rfl ?_)
 refine wpAny_bind (m := field (.ref z) 3) (wpAny_field hz rfl (x := .ref TI) rfl ?_)
 refine wpAny_bind (m := seqItems? (.ref TI)) (wpAny_seqItems hTI rfl ?_)
 refine wpAny_bind (m := Builtin.SmallTypes.ownedTupleIsFree (.ref z)) ?_
 unfold Builtin.SmallTypes.ownedTupleIsFree
 refine wpAny_bind (wpAny_field hz rfl (x := .none) rfl (wpAny_pure ?_))
 refine wpAny_bind (m := rule "zip.__next__.owned-tuple-again") (wpAny_rule ?_)
 refine wpAny_bind (m := field (.ref z) 4) (wpAny_field hz rfl (x := .ref TO) rfl ?_)
 refine wpAny_bind (m := setField (.ref z) 0 .ellipsis) (wpAny_setField hz rfl (by simp) ?_)
 have sb1 := Heap.SameBut.update s.heap z (Obj.mapFields fun x_1 => x_1.setIfInBounds 0 Value.ellipsis)
 have g1 : (s.heap.update z (Obj.mapFields fun x_1 => x_1.setIfInBounds 0 Value.ellipsis)).get? z = some { cls := Value.type "zip", data := Data.fields #[.ellipsis, Value.bool false, Value.bool false, Value.ref TI, Value.ref TO] } := Heap.get?_update_self _ hz (Obj.isFreed_of_fields (Obj.data_mapFields rfl _))
 generalize s.heap.update z (Obj.mapFields fun x_1 => x_1.setIfInBounds 0 Value.ellipsis) = h1' at *
 refine wpAny_bind ?_
 rw [show (#[Value.ref i1, Value.ref i2].toList.zipIdx : List (Value × Nat)) = [(.ref i1, 0), (.ref i2, 1)] from rfl, List.forIn_cons]
 dsimp only
 have it1 : h1'.IsTupleIter i1 l1 k := by obtain ⟨o, ho, r⟩ := h1; exact ⟨o, (sb1.2 i1 D.i1z).trans ho, r⟩
 have tp1 : h1'.IsTuple l1 xs := by obtain ⟨o, ho, r⟩ := p1; exact ⟨o, (sb1.2 l1 D.l1z).trans ho, r⟩
 refine wpAny_bind (wpAny_bind (wpAny_onRaise ?_))
 show wpAny _ _ (Builtin.SmallTypes.nextOf (.ref i1) >>= fun v => pure (some v)) _ _ _
 refine wpAny_bind (kf it1 tp1 hx fun h2' it2 sb2 => wpAny_pure ?_)
 dsimp only
 have gTO2 : IsPair h2' TO a b := ((sb2.2 TO D.TOi1).trans (sb1.2 TO D.TOz)).trans hTO
 refine wpAny_bind (wpAny_seqItems gTO2 rfl ?_)
 dsimp only
 refine wpAny_bind (wpAny_updateSeq_pair gTO2 fun h3' g3 sb3 => ?_)
 refine wpAny_bind (wpAny_letGo (wpAny_pure ?_))
 dsimp only
 have g3' : IsPair h3' TO x b := g3
 have it3 : h3'.IsTupleIter i2 l2 k := by obtain ⟨o, ho, r⟩ := h2; exact ⟨o, (((sb3.2 i2 (Ne.symm D.TOi2)).trans (sb2.2 i2 (Ne.symm D.i12))).trans (sb1.2 i2 D.i2z)).trans ho, r⟩
 have tp3 : h3'.IsTuple l2 ys := by obtain ⟨o, ho, r⟩ := p2; exact ⟨o, (((sb3.2 l2 D.l2TO).trans (sb2.2 l2 D.l2i1)).trans (sb1.2 l2 D.l2z)).trans ho, r⟩
 rw [List.forIn_cons]
 refine wpAny_bind (wpAny_bind (wpAny_onRaise ?_))
 show wpAny _ _ (Builtin.SmallTypes.nextOf (.ref i2) >>= fun v => pure (some v)) _ _ _
 refine wpAny_bind (kf it3 tp3 hy fun h4' it4 sb4 => wpAny_pure ?_)
 dsimp only
 have gTO4 : IsPair h4' TO x b := (sb4.2 TO D.TOi2).trans g3'
 refine wpAny_bind (wpAny_seqItems gTO4 rfl ?_)
 dsimp only
 refine wpAny_bind (wpAny_updateSeq_pair gTO4 fun h5' g5 sb5 => ?_)
 refine wpAny_bind (wpAny_letGo (wpAny_pure ?_))
 dsimp only
 have g5' : IsPair h5' TO x y := g5
 rw [List.forIn_nil]
 refine wpAny_pure ?_
 dsimp only
 refine wpAny_bind (wpAny_seqItems g5' rfl ?_)
 dsimp only
 have sz5 : h5'.objs.size = s.heap.objs.size := ((((sb5.1).trans sb4.1).trans sb3.1).trans sb2.1).trans sb1.1
 refine wpAny_bind (wpAny_newTuple ?_ (by show 2 <= sizeLine; decide))
 have gz5 : h5'.get? z = some { cls := Value.type "zip", data := Data.fields #[.ellipsis, Value.bool false, Value.bool false, Value.ref TI, Value.ref TO] } := ((((sb5.2 z (Ne.symm D.TOz)).trans (sb4.2 z (Ne.symm D.i2z))).trans (sb3.2 z (Ne.symm D.TOz))).trans (sb2.2 z (Ne.symm D.i1z))).trans g1
 have zlt : z < h5'.objs.size := Heap.lt_size gz5
 have g6 : (h5'.push { cls := Value.type "tuple", data := Data.seq #[x, y] }).get? z = _ := Heap.get?_push_of_some _ gz5
 have n6 : (h5'.push { cls := Value.type "tuple", data := Data.seq #[x, y] }).get? h5'.objs.size = some { cls := Value.type "tuple", data := Data.seq #[x, y] } := Heap.get?_push_size _ rfl
 have ex6 : ∀ c o, h5'.get? c = some o -> (h5'.push { cls := Value.type "tuple", data := Data.seq #[x, y] }).get? c = some o := fun c o e => Heap.get?_push_of_some _ e
 have sz6 : (h5'.push { cls := Value.type "tuple", data := Data.seq #[x, y] }).objs.size = h5'.objs.size + 1 := Heap.size_push ..
 show wpAny _ _ (Builtin.SmallTypes.ownedTupleHandOut (.ref z) (.ref h5'.objs.size) >>= _) _ _ { s with heap := h5'.push { cls := Value.type "tuple", data := Data.seq #[x, y] } }
 generalize h5'.push { cls := Value.type "tuple", data := Data.seq #[x, y] } = h6' at *
 unfold Builtin.SmallTypes.ownedTupleHandOut
 refine wpAny_bind (wpAny_bind (wpAny_setField g6 rfl (by simp) (wpAny_setField (Heap.get?_update_self _ g6 (Obj.isFreed_of_fields (Obj.data_mapFields rfl _))) rfl (by simp) ?_)))
 have sb7 := Heap.SameBut.update h6' z (Obj.mapFields fun x_1 => x_1.setIfInBounds 0 (rawInt h5'.objs.size))
 have g7 : (h6'.update z (Obj.mapFields fun x_1 => x_1.setIfInBounds 0 (rawInt h5'.objs.size))).get? z = some { cls := Value.type "zip", data := Data.fields #[rawInt h5'.objs.size, Value.bool false, Value.bool false, Value.ref TI, Value.ref TO] } := Heap.get?_update_self _ g6 (Obj.isFreed_of_fields (Obj.data_mapFields rfl _))
 dsimp only
 generalize h6'.update z (Obj.mapFields fun x_1 => x_1.setIfInBounds 0 (rawInt h5'.objs.size)) = h7' at *
 have sb8 := Heap.SameBut.update h7' z (Obj.mapFields fun x_1 => x_1.setIfInBounds 1 (Value.bool false))
 have g8 : (h7'.update z (Obj.mapFields fun x_1 => x_1.setIfInBounds 1 (Value.bool false))).get? z = some { cls := Value.type "zip", data := Data.fields #[rawInt h5'.objs.size, Value.bool false, Value.bool false, Value.ref TI, Value.ref TO] } := Heap.get?_update_self _ g7 (Obj.isFreed_of_fields (Obj.data_mapFields rfl _))
 generalize h7'.update z (Obj.mapFields fun x_1 => x_1.setIfInBounds 1 (Value.bool false)) = h8' at *
 have far : ∀ c o, c ≠ z -> h6'.get? c = some o -> h8'.get? c = some o := fun c o hc e => ((sb8.2 c hc).trans (sb7.2 c hc)).trans e
 refine wpAny_pure ⟨_, rfl, wpAny_pure ?_⟩
 rw [sz5] at g8 n6 sz6 zlt ⊢
 refine hQ h8' g8 (far _ _ D.TOz (ex6 _ _ g5')) ?_ ?_ (far _ _ (Nat.ne_of_gt zlt) n6) (by rw [sb8.1, sb7.1, sz6]) fun c o c1 c2 c3 c4 e => ?_
 ·obtain ⟨o, ho, r⟩ := it2
  exact ⟨o, far _ _ D.i1z (ex6 _ _ (((sb5.2 i1 (Ne.symm D.TOi1)).trans (sb4.2 i1 D.i12)).trans ((sb3.2 i1 (Ne.symm D.TOi1)).trans ho))), r⟩
 ·obtain ⟨o, ho, r⟩ := it4
  exact ⟨o, far _ _ D.i2z (ex6 _ _ ((sb5.2 i2 (Ne.symm D.TOi2)).trans ho)), r⟩
 ·exact far _ _ c1 (ex6 _ _ ((sb5.2 c c2).trans ((sb4.2 c c4).trans ((sb3.2 c c2).trans ((sb2.2 c c3).trans ((sb1.2 c c1).trans e))))))
theorem Y5 (hh : A.handled = none) (D : ZipApart z TI TO i1 i2 l1 l2) (hz : IsZip s.heap z TI TO .none) (hTI : IsPair s.heap TI (.ref i1) (.ref i2)) (h1 : s.heap.IsTupleIter i1 l1 k) (p1 : s.heap.IsTuple l1 xs) (hx : xs[k]? = none)
  (hQ : ∀ h', (∀ c o, c ≠ z -> c ≠ TO -> c ≠ i1 -> c ≠ i2 -> s.heap.get? c = some o -> h'.get? c = some o) -> Q none { s with heap := h' }) : wpAny (model P w) A (pyNext (.ref z)) Q E s := by
 have hT : s.TypeIs (.ref z) "zip" := ⟨_, hz, rfl⟩
 unfold pyNext
 refine wpAny_bind (wpAny_attempt (wpAny_callSpecial?_slot (name := Str.ofString "__next__") hT F.slot_zip_next (wpAny_call_entry F.slot_zip_next hT F.entry_zip_next ?_ (F.args_zip_next_1 _))))
 refine wpAny_bind (m := field (.ref z) 2) (wpAny_field hz rfl (x := .bool false) rfl ?_)
 refine wpAny_bind (m := field (.ref z) 3) (wpAny_field hz rfl (x := .ref TI) rfl ?_)
 refine wpAny_bind (m := seqItems? (.ref TI)) (wpAny_seqItems hTI rfl ?_)
 refine wpAny_bind (m := Builtin.SmallTypes.ownedTupleIsFree (.ref z)) ?_
 unfold Builtin.SmallTypes.ownedTupleIsFree
 refine wpAny_bind (wpAny_field hz rfl (x := .none) rfl (wpAny_pure ?_))
 refine wpAny_bind (m := rule "zip.__next__.owned-tuple-again") (wpAny_rule ?_)
 refine wpAny_bind (m := field (.ref z) 4) (wpAny_field hz rfl (x := .ref TO) rfl ?_)
 refine wpAny_bind (m := setField (.ref z) 0 .ellipsis) (wpAny_setField hz rfl (by simp) ?_)
 have sb1 := Heap.SameBut.update s.heap z (Obj.mapFields fun x_1 => x_1.setIfInBounds 0 Value.ellipsis)
 have g1 : (s.heap.update z (Obj.mapFields fun x_1 => x_1.setIfInBounds 0 Value.ellipsis)).get? z = some { cls := Value.type "zip", data := Data.fields #[.ellipsis, Value.bool false, Value.bool false, Value.ref TI, Value.ref TO] } := Heap.get?_update_self _ hz (Obj.isFreed_of_fields (Obj.data_mapFields rfl _))
 generalize s.heap.update z (Obj.mapFields fun x_1 => x_1.setIfInBounds 0 Value.ellipsis) = h1' at *
 refine wpAny_bind ?_
 rw [show (#[Value.ref i1, Value.ref i2].toList.zipIdx : List (Value × Nat)) = [(.ref i1, 0), (.ref i2, 1)] from rfl, List.forIn_cons]
 dsimp only
 have it1 : h1'.IsTupleIter i1 l1 k := by obtain ⟨o, ho, r⟩ := h1; exact ⟨o, (sb1.2 i1 D.i1z).trans ho, r⟩
 have tp1 : h1'.IsTuple l1 xs := by obtain ⟨o, ho, r⟩ := p1; exact ⟨o, (sb1.2 l1 D.l1z).trans ho, r⟩
 refine wpAny_bind (wpAny_bind (wpAny_onRaise ?_))
 show wpAny _ _ (Builtin.SmallTypes.nextOf (.ref i1) >>= fun v => pure (some v)) _ _ _
 refine wpAny_bind (xk (by first | exact hh | (show A.in1.handled = none; exact hh)) it1 tp1 hx fun h2' e ex2 ⟨oe, hoe, hce⟩ => ?_)
 have gz2 : h2'.get? z = some { cls := Value.type "zip", data := Data.fields #[.ellipsis, Value.bool false, Value.bool false, Value.ref TI, Value.ref TO] } := ex2 z _ (Ne.symm D.i1z) g1
 have hez : e ≠ z := by
  intro h
  subst h
  have hoe' : h2'.get? e = some oe := hoe
  rw [gz2] at hoe'
  cases hoe'
  exact absurd (show Value.type "zip" = Value.type "StopIteration" from hce) (by decide)
 refine wpAny_setField gz2 rfl (by simp) ?_
 have sb3 := Heap.SameBut.update h2' z (Obj.mapFields fun x_1 => x_1.setIfInBounds 0 Value.none)
 dsimp only
 generalize h2'.update z (Obj.mapFields fun x_1 => x_1.setIfInBounds 0 Value.none) = h3' at *
 refine wpAny_bind (wpAny_isInstance (T := "StopIteration") (b := true) ⟨oe, (sb3.2 e hez).trans hoe, hce⟩ isSubtype_stop ?_)
 refine wpAny_pure (hQ h3' fun c o c1 c2 c3 c4 ec => ?_)
 exact (sb3.2 c c1).trans (ex2 c o c3 ((sb1.2 c c1).trans ec))
end
open AutoSeq1 (wpAny_loadPart') in
theorem W8 (l1 l2 : Addr) (xs ys : Array Value) (n1 n2 : Nat) (d1 d2 : Option Addr) (s1 s2 : Array (Option Value)) :
  Meets (Builtin.«zip.__new__» ⟨[.type "zip", .ref l1, .ref l2], []⟩) (fun _ R s => s.heap.get? l1 = some { cls := .type "tuple", dict := d1, data := .seq xs n1, slots := s1 } /\ s.heap.get? l2 = some { cls := .type "tuple", dict := d2, data := .seq ys n2, slots := s2 } /\
   ∀ g1 g2 g3 g4 g5, g1 = s.heap.push { cls := .type "tuple_iterator", data := .fields #[.ref l1, .int 0 0] } -> g2 = g1.push { cls := .type "tuple_iterator", data := .fields #[.ref l2, .int 0 0] } -> g3 = g2.push { cls := .type "tuple", data := .seq #[.ref s.heap.objs.size, .ref g1.objs.size] } -> g4 = g3.push { cls := .type "tuple", data := .seq #[.none, .none] } -> g5 = g4.push { cls := .type "zip", data := .fields #[.none, .bool false, .bool false, .ref g2.objs.size, .ref g3.objs.size] } -> R (.ok (.ret (.ref g4.objs.size))) { s with heap := g5 }) :=
 .of_wp fun prog w A R s h => by
  obtain ⟨hp, g, d, tk, os⟩ := s
  obtain ⟨hl1, hl2, h⟩ := h
  have hT1 : Heap.IsTuple (Shared.heap ⟨hp, g, d, tk, os⟩) l1 xs := ⟨_, hl1, rfl, n1, rfl⟩
  have hT2 : Heap.IsTuple (hp.push { cls := .type "tuple_iterator", data := .fields #[.ref l1, .int 0 0] }) l2 ys := ⟨_, Heap.get?_push_of_some _ hl2, rfl, n2, rfl⟩
  have hsub : isSubtype (Value.type "zip") (Value.type "zip") = pure true := by first | exact sub_zip | rfl
  wp_walk using wpAny_loadPart' hl1, wpAny_pyIter_tuple hT1, wpAny_pyIter_tuple hT2
  exact ⟨_, rfl, h _ _ _ _ _ rfl rfl rfl rfl rfl⟩
theorem Yz {P : Program} {w : World} {A : Around} {E : Value -> Shared -> Prop} {s : Shared} {l1 l2 : Addr} {xs ys : Array Value} {Q : Value -> Shared -> Prop} (hT1 : s.heap.IsTuple l1 xs) (hT2 : s.heap.IsTuple l2 ys)
  (h : ∀ h', IsZip h' (s.heap.objs.size + 4) (s.heap.objs.size + 2) (s.heap.objs.size + 3) .none -> IsPair h' (s.heap.objs.size + 2) (.ref s.heap.objs.size) (.ref (s.heap.objs.size + 1)) -> IsPair h' (s.heap.objs.size + 3) .none .none -> h'.IsTupleIter s.heap.objs.size l1 0 -> h'.IsTupleIter (s.heap.objs.size + 1) l2 0 -> (∀ b o, s.heap.get? b = some o -> h'.get? b = some o) -> Q (.ref (s.heap.objs.size + 4)) { s with heap := h' }) :
  wpAny (model P w) A (call (.type "zip") [.ref l1, .ref l2]) Q E s := by
 obtain ⟨⟨c1, d1, dt1, sl1⟩, hl1, hc1, n1, hd1⟩ := hT1
 replace hc1 : c1 = .type "tuple" := hc1
 replace hd1 : dt1 = .seq xs n1 := hd1
 subst hc1 hd1
 obtain ⟨⟨c2, d2, dt2, sl2⟩, hl2, hc2, n2, hd2⟩ := hT2
 replace hc2 : c2 = .type "tuple" := hc2
 replace hd2 : dt2 = .seq ys n2 := hd2
 subst hc2 hd2
 refine callType_new F.called_zip (by decide) (F.typeCall_zip_2 _ _) (F.newCall_zip_2 _ _) (fun obj => F.args_object_init_3 obj _ _) F.entry_zip_new (W8 l1 l2 xs ys n1 n2 d1 d2 sl1 sl2) ⟨hl1, hl2, ?_⟩
 intro g1 g2 g3 g4 g5 e1 e2 e3 e4 e5
 have z1 : g1.objs.size = s.heap.objs.size + 1 := by rw [e1, Heap.size_push]
 have z2 : g2.objs.size = s.heap.objs.size + 2 := by rw [e2, Heap.size_push, z1]
 have z3 : g3.objs.size = s.heap.objs.size + 3 := by rw [e3, Heap.size_push, z2]
 have z4 : g4.objs.size = s.heap.objs.size + 4 := by rw [e4, Heap.size_push, z3]
 have k1 : ∀ b o, s.heap.get? b = some o -> g1.get? b = some o := fun b o x => by rw [e1]; exact Heap.get?_push_of_some _ x
 have k2 : ∀ b o, g1.get? b = some o -> g2.get? b = some o := fun b o x => by rw [e2]; exact Heap.get?_push_of_some _ x
 have k3 : ∀ b o, g2.get? b = some o -> g3.get? b = some o := fun b o x => by rw [e3]; exact Heap.get?_push_of_some _ x
 have k4 : ∀ b o, g3.get? b = some o -> g4.get? b = some o := fun b o x => by rw [e4]; exact Heap.get?_push_of_some _ x
 have k5 : ∀ b o, g4.get? b = some o -> g5.get? b = some o := fun b o x => by rw [e5]; exact Heap.get?_push_of_some _ x
 have p1 : g1.get? s.heap.objs.size = some { cls := .type "tuple_iterator", data := .fields #[.ref l1, .int 0 0] } := by rw [e1]; exact Heap.get?_push_size _ rfl
 have p2 : g2.get? (s.heap.objs.size + 1) = some { cls := .type "tuple_iterator", data := .fields #[.ref l2, .int 0 0] } := by
  have := Heap.get?_push_size g1 (o := { cls := .type "tuple_iterator", data := .fields #[.ref l2, .int 0 0] }) rfl
  rw [z1] at this; rw [e2]; exact this
 have p3 : g3.get? (s.heap.objs.size + 2) = some { cls := .type "tuple", data := .seq #[.ref s.heap.objs.size, .ref (s.heap.objs.size + 1)] } := by
  have := Heap.get?_push_size g2 (o := { cls := .type "tuple", data := .seq #[.ref s.heap.objs.size, .ref g1.objs.size] }) rfl
  rw [z2] at this; rw [e3, this, z1]
 have p4 : g4.get? (s.heap.objs.size + 3) = some { cls := .type "tuple", data := .seq #[.none, .none] } := by
  have := Heap.get?_push_size g3 (o := { cls := .type "tuple", data := .seq #[.none, .none] }) rfl
  rw [z3] at this; rw [e4, this]
 have p5 : g5.get? (s.heap.objs.size + 4) = some { cls := .type "zip", data := .fields #[.none, .bool false, .bool false, .ref (s.heap.objs.size + 2), .ref (s.heap.objs.size + 3)] } := by
  have := Heap.get?_push_size g4 (o := { cls := .type "zip", data := .fields #[.none, .bool false, .bool false, .ref g2.objs.size, .ref g3.objs.size] }) rfl
  rw [z4] at this; rw [e5, this, z2, z3]
 show _ /\ _
 rw [z4]
 exact ⟨⟨_, p5, rfl⟩, h _ p5 (k5 _ _ (k4 _ _ p3)) (k5 _ _ p4) ⟨_, k5 _ _ (k4 _ _ (k3 _ _ (k2 _ _ p1))), rfl, rfl⟩ ⟨_, k5 _ _ (k4 _ _ (k3 _ _ p2)), rfl, rfl⟩ fun b o x => k5 _ _ (k4 _ _ (k3 _ _ (k2 _ _ (k1 _ _ x))))⟩
noncomputable def Fm (K : PySem.W.Frag) (a b : Addr) : It :=
 ⟨fun i H => ∃ xs ys x y, SqT K H a xs /\ SqT K H b ys /\ xs[i]? = some x /\ ys[i]? = some y, fun i H z H' => ∃ p x y, H p = none /\ z = .ref p /\ (∀ xs, SqT K H a xs -> xs[i]? = some x) /\ (∀ ys, SqT K H b ys -> ys[i]? = some y) /\ H' = upd H p (.tup [x, y]),
  fun i H => ∃ xs, SqT K H a xs /\ xs.length <= i⟩
theorem XC {P : Program} {w : World} {K : PySem.W.Frag} {es : List Expr} {kt : Nat} {tp : Pos} (l1 l2 z TI TO i1 i2 : Addr) (D : ZipApart z TI TO i1 i2 l1 l2) :
  ZF P w K (.Tuple es kt tp) (Fm K l1 l2) [z, TI, TO, i1, i2] z (fun i h => IsZip h z TI TO .none /\ IsPair h TI (.ref i1) (.ref i2) /\ (∃ a b, IsPair h TO a b) /\ h.IsTupleIter i1 l1 i /\ h.IsTupleIter i2 l2 i) where
 mem := by simp
 obj := fun i h st b hb => by
  obtain ⟨hz, hTI, ⟨a, c, hTO⟩, ⟨o1, e1, c1, d1⟩, ⟨o2, e2, c2, d2⟩⟩ := st
  simp only [List.mem_cons, List.not_mem_nil, or_false] at hb
  rcases hb with rfl | rfl | rfl | rfl | rfl
  ·exact ⟨_, hz, fun v q => by have q' : Data.fields _ = Data.cell v := q; cases q'⟩
  ·exact ⟨_, hTI, fun v q => by have q' : Data.seq _ _ = Data.cell v := q; cases q'⟩
  ·exact ⟨_, hTO, fun v q => by have q' : Data.seq _ _ = Data.cell v := q; cases q'⟩
  ·exact ⟨o1, e1, fun v q => by rw [d1] at q; cases q⟩
  ·exact ⟨o2, e2, fun v q => by rw [d2] at q; cases q⟩
 keep := fun i h h' st k => by
  obtain ⟨hz, hTI, ⟨a, c, hTO⟩, h1, h2⟩ := st
  exact ⟨k _ (by simp) _ hz, k _ (by simp) _ hTI, ⟨a, c, k _ (by simp) _ hTO⟩, h1.at fun o e => k _ (by simp) o e, h2.at fun o e => k _ (by simp) o e⟩
 item := by
  intro X hP hw hK hc i pins s σ H E I hf st hg
  subst hP hw hK
  obtain ⟨hz, hTI, ⟨a, c, hTO⟩, h1, h2⟩ := st
  obtain ⟨xs, ys, x, y, hq1, hq2, hx, hy⟩ := hg
  obtain ⟨its1, rv1, p1, hz1⟩ := I.tuple hq1
  obtain ⟨its2, rv2, p2, hz2⟩ := I.tuple hq2
  obtain ⟨u, hu, ru⟩ := rv1.get hx
  obtain ⟨v, hv, rvv⟩ := rv2.get hy
  refine YL D hz hTI hTO h1 h2 p1 p2 (x := u) (y := v) (by simpa using hu) (by simpa using hv) fun g1 b1 b2 b3 b4 b5 b6 hk => ?_
  refine ⟨.ref s.heap.objs.size, rfl, wpAny_letOwnedTupleGo_zip b1 fun g2 hz2' hs2 => ?_⟩
  replace hs2 : Heap.SameBut z g1 g2 := hs2
  have zlt : z < s.heap.objs.size := Heap.lt_size hz
  have I2 : Inv X pins σ (upd H s.heap.objs.size (.tup [x, y])) { s with heap := g2, toks := s.toks } := by
   refine I.yieldTup (us := [u, v]) hf (fun b o hb e => ?_) (Nat.le_refl _) ((hs2.2 _ (Nat.ne_of_gt zlt)).trans b5) (.cons ru (.cons rvv .nil)) (by show 2 <= sizeLine; decide)
   simp only [List.mem_cons, List.not_mem_nil, or_false, not_or] at hb
   exact (hs2.2 b hb.1).trans (hk b o hb.1 hb.2.2.1 hb.2.2.2.1 hb.2.2.2.2 e)
  refine ⟨.ref s.heap.objs.size, _, I2, rfl, ⟨s.heap.objs.size, x, y, I.hok.fresh (Nat.le_refl _), rfl, fun xs' h' => by rw [I.tuple_inj h' hq1]; exact hx, fun ys' h' => by rw [I.tuple_inj h' hq2]; exact hy, rfl⟩,
   ⟨hz2', (hs2.2 _ D.TIz).trans (hk _ _ D.TIz D.TITO D.TIi1 D.TIi2 hTI), ⟨_, _, (hs2.2 _ D.TOz).trans b2⟩, b3.extBut hs2.extBut D.i1z, b4.extBut hs2.extBut D.i2z⟩, fun b hb => ?_⟩
  have hlt : b < s.heap.objs.size := by
   simp only [List.mem_cons, List.not_mem_nil, or_false] at hb
   rcases hb with rfl | rfl | rfl | rfl | rfl
   ·exact zlt
   ·exact Heap.lt_size hTI
   ·exact Heap.lt_size hTO
   ·obtain ⟨o, e, _⟩ := h1; exact Heap.lt_size e
   ·obtain ⟨o, e, _⟩ := h2; exact Heap.lt_size e
  rw [zj (Nat.ne_of_lt hlt)]
  exact (hf b hb).1
 done := by
  intro X hP hw hK hc i pins s σ H E I hf st hg
  subst hP hw hK
  obtain ⟨hz, hTI, ⟨a, c, hTO⟩, h1, h2⟩ := st
  obtain ⟨xs, hq1, hend⟩ := hg
  obtain ⟨its1, rv1, p1, hz1⟩ := I.tuple hq1
  have l1 := rv1.length
  refine Y5 (I.ok.hd hc) D hz hTI h1 p1 (by simp; omega) fun h' hk => ⟨rfl, I.turnedL (tk := s.toks) hf fun b o hb e => ?_⟩
  simp only [List.mem_cons, List.not_mem_nil, or_false, not_or] at hb
  exact hk b o hb.1 hb.2.2.1 hb.2.2.2.1 hb.2.2.2.2 e
 self := fun _ _ _ _ _ st h => wpAny_pyIter_zip st.1 h
section
variable {X : Cx} {es : List Expr} {kt : Nat} {tp : Pos}
noncomputable def JN (K : PySem.W.Frag) (ta : TA) : TI := fun σ H R => ta σ H fun vs H1 => ∃ a b, vs = [.ref a, .ref b] /\ (((∃ xs, SqL K H1 a xs) /\ (∃ ys, SqL K H1 b ys) /\ R (Itz K a b) H1) \/ ((∃ xs, SqT K H1 a xs) /\ (∃ ys, SqT K H1 b ys) /\ R (Fm K a b) H1))
theorem Wk {e1 e2 : Expr} {ta : TA} {p pos : Pos} (hg : Gl X "zip") (hm : X.mg "zip" = none) (ha : PA X [e1, e2] ta) (hs : starEach [e1, e2] X.env = [(false, eval e1 X.env), (false, eval e2 X.env)] := by rfl) (hs2 : starEach [e2] X.env = [(false, eval e2 X.env)] := by rfl) :
  PI X (.Tuple es kt tp) (.Call (.Name "zip" p) [e1, e2] [] pos) (JN X.K ta) := by
 intro pins s σ H R I h
 refine Call_ (kX I hg hm XS (PyProof.Rows.callWith_type1 (thn (ha pos pins s σ H _ I h) fun us s1 ⟨vs, H1, I1, r1, q1⟩ => ?_) (by rw [hs, hs2]) (by rw [hs2]; rfl)))
 obtain ⟨a, b, e, q1⟩ := q1
 subst e
 obtain ⟨u, v, rfl, ru, rv⟩ := Zf r1
 cases ru
 cases rv
 rcases q1 with ⟨⟨xs, hq1⟩, ⟨ys, hq2⟩, q⟩ | ⟨⟨xs, hq1⟩, ⟨ys, hq2⟩, q⟩
 ·obtain ⟨its1, rv1, p1, hz1⟩ := I1.list hq1
  obtain ⟨its2, rv2, p2, hz2⟩ := I1.list hq2
  have la : a < s1.heap.objs.size := by obtain ⟨o, e, _⟩ := p1.isList; exact Heap.lt_size e
  have lb : b < s1.heap.objs.size := by obtain ⟨o, e, _⟩ := p2.isList; exact Heap.lt_size e
  refine call_zip_2 p1.isList p2.isList fun h' b1 b2 b3 b4 b5 hsz hk => wpAny_pyIter_zip b1 ?_
  have I2 : Inv X pins σ H1 { s1 with heap := h' } := I1.kept (t' := s1.toks) hk
  refine ⟨s1.heap.objs.size + 4, [s1.heap.objs.size + 4, s1.heap.objs.size + 2, s1.heap.objs.size + 3, s1.heap.objs.size, s1.heap.objs.size + 1], _, _, H1, rfl, I2, VC a b _ _ _ _ _ (zipApart_new la lb), ⟨b1, b2, ⟨_, _, b3⟩, b4, b5⟩, fun c hb => ?_, q⟩
  have hb' : s1.heap.objs.size <= c := by
   simp only [List.mem_cons, List.not_mem_nil, or_false] at hb
   rcases hb with rfl | rfl | rfl | rfl | rfl <;> first | exact Nat.le_refl _ | exact Nat.le_add_right _ _
  exact I1.fpOk hb' (I1.hok.fresh hb')
 ·obtain ⟨its1, rv1, p1, hz1⟩ := I1.tuple hq1
  obtain ⟨its2, rv2, p2, hz2⟩ := I1.tuple hq2
  have la : a < s1.heap.objs.size := by obtain ⟨o, e, _⟩ := p1; exact Heap.lt_size e
  have lb : b < s1.heap.objs.size := by obtain ⟨o, e, _⟩ := p2; exact Heap.lt_size e
  refine Yz p1 p2 fun h' b1 b2 b3 b4 b5 hk => wpAny_pyIter_zip b1 ?_
  have I2 : Inv X pins σ H1 { s1 with heap := h' } := I1.kept (t' := s1.toks) hk
  refine ⟨s1.heap.objs.size + 4, [s1.heap.objs.size + 4, s1.heap.objs.size + 2, s1.heap.objs.size + 3, s1.heap.objs.size, s1.heap.objs.size + 1], _, _, H1, rfl, I2, XC a b _ _ _ _ _ (zipApart_new la lb), ⟨b1, b2, ⟨_, _, b3⟩, b4, b5⟩, fun c hb => ?_, q⟩
  have hb' : s1.heap.objs.size <= c := by
   simp only [List.mem_cons, List.not_mem_nil, or_false] at hb
   rcases hb with rfl | rfl | rfl | rfl | rfl <;> first | exact Nat.le_refl _ | exact Nat.le_add_right _ _
  exact I1.fpOk hb' (I1.hok.fresh hb')
end
end L2
set_option Elab.async false
set_option linter.all false
set_option maxRecDepth 100000
set_option maxHeartbeats 4000000
namespace L2
open PySem PySem.Spec PyProof.Rows
noncomputable def slV (xs : List V) (lo hi st : Option Int) : List V := (sliceRange (sliceBounds lo hi st xs.length).1 (sliceBounds lo hi st xs.length).2.1 (sliceBounds lo hi st xs.length).2.2).filterMap fun k => xs[k]?
theorem wF {xs : List V} {us : List Value} (r : zF xs us) : ∀ ks : List Nat, zF (ks.filterMap fun k => xs[k]?) (ks.filterMap fun k => us[k]?)
 | [] => .nil
 | k :: ks => by
  have ih := wF r ks
  have hl := r.length
  by_cases h : k < xs.length
  ·have e1 : xs[k]? = some xs[k] := List.getElem?_eq_getElem h
   obtain ⟨u, hu, ru⟩ := r.get e1
   rw [List.filterMap_cons_some e1, List.filterMap_cons_some hu]
   exact .cons ru ih
  ·have e1 : xs[k]? = none := List.getElem?_eq_none (by omega)
   have e2 : us[k]? = none := List.getElem?_eq_none (by omega)
   rw [List.filterMap_cons_none e1, List.filterMap_cons_none e2]
   exact ih
noncomputable def Hz (K : PySem.W.Frag) : V -> Option Int -> Option Int -> Option Int -> Hp -> VK -> Prop := fun x lo hi st H Q => ∃ a xs, x = .ref a /\ SqL K H a xs /\ st ≠ some 0 /\ ∀ p, H p = none -> Q (.ref p) (upd H p (.lst (slV xs lo hi st)))
noncomputable def Fh (K : PySem.W.Frag) (te : TE) (tl th ts : TO) : TE := fun σ H Q => te σ H fun x H1 => tl σ H1 fun l H2 => th σ H2 fun u H3 => ts σ H3 fun z H4 => Hz K x l u z H4 Q
section
variable {X : Cx} {e st : Expr} {te : TE} {lo hi : Option Expr} {tl th ts : TO} {p2 pos : Pos}
theorem Xz (he : PE X e te) (hl : PO X lo tl) (hu : PO X hi th) (hst : PO X (some st) ts) : PE X (.Subscript e (.Slice lo hi (some st) p2) pos) (Fh X.K te tl th ts) := by
 intro pins s σ H Q I h
 refine Subscript_ (thn (he pins s σ H _ I h) fun v s1 ⟨x, H1, I1, r1, q1⟩ => ?_)
 refine wpAny_Slice (thn (hl pins s1 σ H1 _ I1 q1) fun vl s2 ⟨l, H2, I2, pl, q2⟩ => thn (hu pins s2 σ H2 _ I2 q2) fun vu s3 ⟨u, H3, I3, pu, q3⟩ => thn (hst pins s3 σ H3 _ I3 q3) fun vs s4 ⟨z, H4, I4, pz, q4⟩ => ?_)
 have I5 : Inv X pins σ H4 { s4 with heap := s4.heap.push { cls := .type "slice", data := .fields #[vl, vu, vs] } } := I4.kept (t' := s4.toks) fun b ob q => Heap.get?_push_of_some _ q
 obtain ⟨a, xs, rfl, hx, hz0, q⟩ := q4
 cases r1
 obtain ⟨its, r, ht, hz⟩ := I5.list hx
 have hlen := r.length
 show wpAny (model X.prog X.w) X.A (subscriptTail e (.Slice lo hi (some st) p2) (.ref a) (.ref s4.heap.objs.size)) (EP X pins σ Q) X.xe { s4 with heap := s4.heap.push { cls := .type "slice", data := .fields #[vl, vu, vs] } }
 refine tail_any (ops := [.ref a, .ref s4.heap.objs.size]) ht.isList.typeIs slot_list_getitem.lookup ?_ rfl
 refine wpAny_getItem_list_slice ht.isList (Heap.IsSliceOf.new ..) pl pu pz hz0 ?_ (by rw [List.size_toArray]; omega)
 have e1 : slicePick its.toArray l u z = (List.filterMap (fun x => its[x]?) (sliceRange (sliceBounds l u z xs.length).1 (sliceBounds l u z xs.length).2.1 (sliceBounds l u z xs.length).2.2)).toArray := by
  unfold slicePick
  rw [List.size_toArray, <- hlen]
  simp only [List.getElem?_toArray]
 have hsz := slicePick_size_le its.toArray l u z
 rw [e1] at hsz ⊢
 have rr := wF r (sliceRange (sliceBounds l u z xs.length).1 (sliceBounds l u z xs.length).2.1 (sliceBounds l u z xs.length).2.2)
 have hl2 := rr.length
 refine ⟨.ref _, _, I5.laid (t' := s4.toks) (o := .lst (slV xs l u z)) (fun b ob q => Heap.get?_push_of_some _ q) (Nat.le_refl _) ?_, rfl, q _ (I5.hok.fresh (Nat.le_refl _))⟩
 refine ⟨?_, _, 0, rr, Heap.get?_push_size _ rfl⟩
 rw [List.size_toArray, List.size_toArray] at hsz
 show (slV xs l u z).length <= _
 unfold slV
 omega
end
theorem Y1 (xs : List V) : slV xs none (some 0) (some (-1)) = (xs.drop 1).reverse := by
 have hb : sliceBounds none (some 0) (some (-1)) xs.length = ((xs.length : Int) - 1, max (-1) (min 0 ((xs.length : Int) - 1)), -1) := rfl
 unfold slV
 rw [hb]
 have key : ∀ n, n = xs.length -> sliceRange ((n : Int) - 1) (max (-1) (min 0 ((n : Int) - 1))) (-1) = (List.range (n - 1)).map fun k => n - 1 - k := by
  intro n _
  unfold sliceRange
  dsimp only
  rw [if_neg (by decide)]
  have hc : ((if (n : Int) - 1 > max (-1) (min 0 ((n : Int) - 1)) then ((n : Int) - 1 - max (-1) (min 0 ((n : Int) - 1)) - -1 - 1) / - -1 else 0).toNat) = n - 1 := by
   rcases Nat.eq_zero_or_pos n with z | z
   ·subst z; decide
   ·have e : max (-1) (min 0 ((n : Int) - 1)) = 0 := by omega
    rw [e]
    split
    ·rw [show - -(1 : Int) = 1 from rfl, Int.ediv_one]; omega
    ·omega
  rw [hc]
  refine List.map_congr_left fun k hk => ?_
  have : k < n - 1 := by simpa using hk
  omega
 show List.filterMap (fun k => xs[k]?) (sliceRange ((xs.length : Int) - 1) (max (-1) (min 0 ((xs.length : Int) - 1))) (-1)) = _
 rw [key xs.length rfl, List.filterMap_map]
 refine List.ext_getElem? fun i => ?_
 have hall : ∀ k, k < xs.length - 1 -> ((fun k => xs[k]?) ∘ fun k => xs.length - 1 - k) k = some (xs.getD (xs.length - 1 - k) .non) := fun k hk => by
  show xs[xs.length - 1 - k]? = _
  rw [List.getD_eq_getElem?_getD, List.getElem?_eq_getElem (by omega)]; rfl
 have hfm : List.filterMap ((fun k => xs[k]?) ∘ fun k => xs.length - 1 - k) (List.range (xs.length - 1)) = (List.range (xs.length - 1)).map fun k => xs.getD (xs.length - 1 - k) .non := by
  have go : ∀ (ks : List Nat), (∀ k ∈ ks, k < xs.length - 1) -> List.filterMap ((fun k => xs[k]?) ∘ fun k => xs.length - 1 - k) ks = ks.map fun k => xs.getD (xs.length - 1 - k) .non := by
   intro ks
   induction ks with
   | nil => intro _; rfl
   | cons k ks ih =>
    intro hk
    rw [List.filterMap_cons_some (hall k (hk k (by simp))), ih fun j hj => hk j (by simp [hj])]; rfl
  exact go _ fun k hk => by simpa using hk
 rw [hfm, List.getElem?_map]
 by_cases h : i < xs.length - 1
 ·rw [List.getElem?_range h, List.getElem?_reverse (by rw [List.length_drop]; omega), List.getElem?_drop, List.length_drop]
  show some (xs.getD (xs.length - 1 - i) .non) = xs[1 + (xs.length - 1 - 1 - i)]?
  rw [List.getD_eq_getElem?_getD, show 1 + (xs.length - 1 - 1 - i) = xs.length - 1 - i by omega, List.getElem?_eq_getElem (by omega)]; rfl
 ·rw [List.getElem?_eq_none (by rw [List.length_range]; omega), List.getElem?_eq_none (by rw [List.length_reverse, List.length_drop]; omega)]; rfl
end L2
set_option Elab.async false
set_option linter.all false
set_option maxRecDepth 100000
set_option maxHeartbeats 4000000
namespace L2
open PySem PySem.Spec PyProof.Rows
theorem kL {α : Type} (p q : α -> Bool) : ∀ (l : List α), (∀ x ∈ l, ¬ (p x = true /\ q x = true)) -> l.countP (fun x => p x || q x) = l.countP p + l.countP q
 | [], _ => rfl
 | x :: l, h => by
  have ih := kL p q l fun y hy => h y (by simp [hy])
  have hx := h x (by simp)
  rw [List.countP_cons, List.countP_cons, List.countP_cons, ih]
  cases hp : p x <;> cases hq : q x
  ·simp
  ·simp; omega
  ·simp; omega
  ·exact absurd ⟨hp, hq⟩ hx
theorem Kb (n y : Nat) (h : y < n) : (List.range n).countP (fun x => decide (x = y)) = 1 := by
 induction n with
 | zero => omega
 | succ n ih =>
  rw [List.range_succ, List.countP_append]
  by_cases e : y = n
  ·subst e
   have : (List.range y).countP (fun x => decide (x = y)) = 0 := by
    rw [List.countP_eq_zero]
    intro x hx
    have : x < y := by simpa using hx
    simp; omega
   rw [this]; simp
  ·rw [ih (by omega)]
   have : ¬ n = y := fun z => e z.symm
   simp [this]
theorem wn (n : Nat) : ∀ (R : List Nat), R.Nodup -> (∀ x ∈ R, x < n) -> (List.range n).countP (fun x => decide (x ∈ R)) = R.length
 | [], _, _ => by simp
 | y :: R, nd, hb => by
  have hy := List.nodup_cons.mp nd
  have e : (fun x => decide (x ∈ y :: R)) = fun x => decide (x = y) || decide (x ∈ R) := by
   funext x
   rw [Bool.eq_iff_iff]
   simp
  rw [e, kL, Kb n y (hb y (by simp)), wn n R hy.2 fun x hx => hb x (by simp [hx]), List.length_cons, Nat.add_comm]
  intro x _ ⟨h1, h2⟩
  have h1' : x = y := by simpa using h1
  subst h1'
  exact hy.1 (by simpa using h2)
theorem Zm {n : Nat} {os : List Int} (h : zl n os) {i : Nat} (hi : i < n) : 1 < per os (i : Int) ↔ ¬ os.getD i 0 = (i : Int) := by
 obtain ⟨M, hM, hMn⟩ := xc h (p := (i : Int)) (by omega) (by omega)
 rw [hM.per]
 have e1 : itn os 1 (i : Int) = os.getD i 0 := by
  show os.getD ((i : Int)).toNat 0 = _
  rw [Int.toNat_natCast]
 constructor
 ·intro z e
  exact hM.2.2 1 (Nat.le_refl _) z (by rw [e1, e])
 ·intro z
  rcases Nat.lt_or_ge 1 M with y | y
  ·exact y
  ·have : M = 1 := by have := hM.1; omega
   rw [this] at hM
   exact absurd (by rw [<- e1, hM.2.1]) z
theorem xm {n : Nat} {os : List Int} (h : zl n os) {p : Int} (p0 : 0 <= p) (p1 : p < n) {M : Nat} (hM : kz os p M) : (itl os p M).Nodup := by
 rw [List.nodup_iff_pairwise_ne, List.pairwise_iff_getElem]
 intro i j hi hj hij e
 rw [qT] at hi hj
 have e' : itn os i p = itn os j p := by
  have e1 : (itl os p M)[i]'(by rw [qT]; exact hi) = itn os i p := by simp [itl]
  have e2 : (itl os p M)[j]'(by rw [qT]; exact hj) = itn os j p := by simp [itl]
  rw [<- e1, <- e2]; exact e
 have b := qN h p0 p1 (j - i)
 have e2 : itn os (j - i) p = p := by
  refine (ZC h p0 p1 b.1 b.2 i ?_).symm
  rw [<- kh, show i + (j - i) = j by omega]
  exact e'
 exact hM.2.2 (j - i) (by omega) (by omega) e2
theorem JH {n : Nat} {os : List Int} (h : zl n os) {i x : Nat} (hi : i < n) (hx : x < n) (hp : 1 < per os (i : Int)) (r : Rch os (i : Int) (x : Int)) : ¬ os.getD x 0 = (x : Int) := by
 intro e
 have r2 := r.symm h (by omega) (by omega)
 obtain ⟨k, hk⟩ := r2
 have hfix : ∀ k, itn os k (x : Int) = (x : Int) := by
  intro k
  induction k with
  | zero => rfl
  | succ k ih =>
   show nxt os (itn os k (x : Int)) = _
   rw [ih]
   show os.getD ((x : Int)).toNat 0 = _
   rw [Int.toNat_natCast, e]
 rw [hfix k] at hk
 have : x = i := by omega
 subst this
 exact (Zm h hi).mp hp e
open Classical in
noncomputable def wr (os : List Int) (n i : Nat) : Nat := (List.range n).countP fun (x : Nat) => decide (qk os i (x : Int) /\ ¬ os.getD x 0 = (x : Int))
noncomputable def yW (rs : List (List Int)) : Nat := (rs.map List.length).sum
theorem Vo (a b : List (List Int)) : yW (a ++ b) = yW a + yW b := by unfold yW; rw [List.map_append, List.sum_append]
open Classical in
theorem vT {n : Nat} {os : List Int} (h : zl n os) : ∀ i, i <= n -> yW (zy os i) = wr os n i
 | 0, _ => by
  unfold wr
  have : (List.range n).countP (fun (x : Nat) => decide (qk os 0 (x : Int) /\ ¬ os.getD x 0 = (x : Int))) = 0 := by
   rw [List.countP_eq_zero]
   intro x _ hx
   have := (of_decide_eq_true hx).1
   obtain ⟨q, hq, _⟩ := this
   omega
  rw [this]; rfl
 | i + 1, hi => by
  have ih := vT h i (by omega)
  show yW (zy os i ++ _) = _
  rw [Vo, ih]
  obtain ⟨M, hM, hMn⟩ := xc h (p := (i : Int)) (by omega) (by omega)
  by_cases hL : xY os i
  ·have hns := jA.mp hL
   by_cases hp : 1 < per os (i : Int)
   ·rw [if_pos ⟨hL, hp⟩]
    have e : (fun x : Nat => decide (qk os (i + 1) (x : Int) /\ ¬ os.getD x 0 = (x : Int))) = fun x : Nat => decide (qk os i (x : Int) /\ ¬ os.getD x 0 = (x : Int)) || decide (Rch os (i : Int) (x : Int) /\ ¬ os.getD x 0 = (x : Int)) := by
     funext x
     rw [Bool.eq_iff_iff, Bool.or_eq_true, decide_eq_true_eq, decide_eq_true_eq, decide_eq_true_eq, qk.succ]
     constructor
     ·rintro ⟨a | a, b⟩
      ·exact .inl ⟨a, b⟩
      ·exact .inr ⟨a, b⟩
     ·rintro (⟨a, b⟩ | ⟨a, b⟩)
      ·exact ⟨.inl a, b⟩
      ·exact ⟨.inr a, b⟩
    unfold wr
    rw [e, kL]
    ·congr 1
     have e2 : (List.range n).countP (fun x : Nat => decide (Rch os (i : Int) (x : Int) /\ ¬ os.getD x 0 = (x : Int))) = (List.range n).countP (fun x : Nat => decide (x ∈ (itl os (i : Int) M).map Int.toNat)) := by
      refine List.countP_congr fun x hx => ?_
      have hx' : x < n := by simpa using hx
      rw [decide_eq_true_eq, decide_eq_true_eq, List.mem_map]
      constructor
      ·rintro ⟨r, _⟩
       exact ⟨(x : Int), (Rch.mem_ring hM).mp r, by simp⟩
      ·rintro ⟨y, hy, e⟩
       obtain ⟨k, hk, ek⟩ := qz.mp hy
       have b := qN h (p := (i : Int)) (by omega) (by omega) k
       have hyx : y = (x : Int) := by omega
       rw [hyx] at hy
       have r := (Rch.mem_ring hM).mpr hy
       exact ⟨r, JH h (by omega) hx' hp r⟩
     have hnd := xm h (p := (i : Int)) (by omega) (by omega) hM
     rw [e2, wn]
     ·rw [List.length_map, qT]
      unfold yW zL
      rw [hM.per]
      simp [qT]
     ·rw [List.nodup_iff_pairwise_ne, List.pairwise_map]
      refine List.Pairwise.imp_of_mem (fun {a b} ha hb hab e => ?_) (List.nodup_iff_pairwise_ne.mp hnd)
      obtain ⟨k1, _, e1⟩ := qz.mp ha
      obtain ⟨k2, _, e2⟩ := qz.mp hb
      have b1 := qN h (p := (i : Int)) (by omega) (by omega) k1
      have b2 := qN h (p := (i : Int)) (by omega) (by omega) k2
      exact hab (by omega)
     ·intro x hx
      obtain ⟨y, hy, e⟩ := List.mem_map.mp hx
      obtain ⟨k, hk, ek⟩ := qz.mp hy
      have b := qN h (p := (i : Int)) (by omega) (by omega) k
      omega
    ·intro x _ ⟨h1, h2⟩
     exact qk.apart h (by omega) hns (of_decide_eq_true h2).1 (of_decide_eq_true h1).1
   ·rw [if_neg (fun z => hp z.2)]
    have e : wr os n (i + 1) = wr os n i := by
     unfold wr
     refine List.countP_congr fun x hx => ?_
     have hx' : x < n := by simpa using hx
     rw [decide_eq_true_eq, decide_eq_true_eq, qk.succ]
     have hfix : os.getD i 0 = (i : Int) := Classical.byContradiction fun z => hp ((Zm h (by omega)).mpr z)
     constructor
     ·rintro ⟨a | a, b⟩
      ·exact ⟨a, b⟩
      ·exfalso
       obtain ⟨k, hk⟩ := a
       have hstay : ∀ k, itn os k (i : Int) = (i : Int) := by
        intro k
        induction k with
        | zero => rfl
        | succ k ih =>
         show nxt os (itn os k (i : Int)) = _
         rw [ih]
         show os.getD ((i : Int)).toNat 0 = _
         rw [Int.toNat_natCast, hfix]
       rw [hstay k] at hk
       have : i = x := by omega
       subst this
       exact b hfix
     ·rintro ⟨a, b⟩
      exact ⟨.inl a, b⟩
    rw [e]
    rfl
  ·rw [if_neg (fun z => hL z.1)]
   have hs : qk os i (i : Int) := Classical.byContradiction fun z => hL (jA.mpr z)
   have e : wr os n (i + 1) = wr os n i := by
    unfold wr
    refine List.countP_congr fun x hx => ?_
    rw [decide_eq_true_eq, decide_eq_true_eq, qk.step h (by omega) hs]
   rw [e]
   rfl
open Classical in
theorem QC {n : Nat} {os : List Int} (h : zl n os) : yW (zy os n) = Aj os n := by
 rw [vT h n (Nat.le_refl n)]
 unfold wr Aj
 rw [List.countP_eq_length_filter]
 congr 1
 refine List.filter_congr fun x hx => ?_
 have hx' : x < n := by simpa using hx
 rw [Bool.eq_iff_iff]
 constructor
 ·intro z
  have := (of_decide_eq_true z).2
  simpa using this
 ·intro z
  have z' : ¬ os.getD x 0 = (x : Int) := by simpa using z
  exact decide_eq_true ⟨⟨x, hx', Rch.refl⟩, z'⟩
end L2
set_option Elab.async false
set_option linter.all false
set_option maxRecDepth 100000
set_option maxHeartbeats 4000000
namespace L2
open PySem PySem.Spec PyProof.Rows
noncomputable def sw1 (row : List Int) (s : Nat × Nat) : List Int := (row.set s.1 (row.getD s.2 0)).set s.2 (row.getD s.1 0)
noncomputable def swR (row : List Int) (l : List (Nat × Nat)) : List Int := l.foldl sw1 row
theorem Xq (row : List Int) (s : Nat × Nat) : (sw1 row s).length = row.length := by unfold sw1; rw [List.length_set, List.length_set]
theorem qC : ∀ (l : List (Nat × Nat)) (row : List Int), (swR row l).length = row.length
 | [], _ => rfl
 | s :: l, row => by show (swR (sw1 row s) l).length = _; rw [qC l, Xq]
theorem xn (row : List Int) (a b : List (Nat × Nat)) : swR row (a ++ b) = swR (swR row a) b := by unfold swR; rw [List.foldl_append]
theorem yg {row : List Int} {a b x : Nat} (ha : a < row.length) (hb : b < row.length) : (sw1 row (a, b)).getD x 0 = if x = b then row.getD a 0 else if x = a then row.getD b 0 else row.getD x 0 := by
 unfold sw1
 rw [xb (by rw [List.length_set]; exact hb), xb ha]
noncomputable def zM (c : List Nat) : List (Nat × Nat) := (c.drop 1).map fun p => (c.getD 0 0, p)
theorem yi {row : List Int} {c : List Nat} (nd : c.Nodup) (hb : ∀ x ∈ c, x < row.length) (h0 : ∀ x ∈ c, row.getD x 0 = (x : Int)) (hc : 1 <= c.length) : ∀ k, k < c.length ->
  (swR row ((zM c).take k)).getD (c.getD 0 0) 0 = ((c.getD k 0 : Nat) : Int) /\ (∀ i, 1 <= i -> i <= k -> (swR row ((zM c).take k)).getD (c.getD i 0) 0 = ((c.getD (i - 1) 0 : Nat) : Int)) /\
   (∀ i, k < i -> i < c.length -> (swR row ((zM c).take k)).getD (c.getD i 0) 0 = ((c.getD i 0 : Nat) : Int)) /\ ∀ x, x ∉ c -> (swR row ((zM c).take k)).getD x 0 = row.getD x 0
 | 0, h => by
  have gm : ∀ i, i < c.length -> c.getD i 0 ∈ c := fun i hi => by
   rw [List.getD_eq_getElem?_getD, List.getElem?_eq_getElem hi]; exact List.getElem_mem hi
  refine ⟨h0 _ (gm 0 h), fun i h1 h2 => by omega, fun i h1 h2 => h0 _ (gm i h2), fun x hx => rfl⟩
 | k + 1, h => by
  obtain ⟨i1, i2, i3, i4⟩ := yi nd hb h0 hc k (by omega)
  have gm : ∀ i, i < c.length -> c.getD i 0 ∈ c := fun i hi => by
   rw [List.getD_eq_getElem?_getD, List.getElem?_eq_getElem hi]; exact List.getElem_mem hi
  have inj : ∀ i j, i < c.length -> j < c.length -> c.getD i 0 = c.getD j 0 -> i = j := fun i j hi hj e => by
   rw [List.getD_eq_getElem?_getD, List.getElem?_eq_getElem hi, List.getD_eq_getElem?_getD, List.getElem?_eq_getElem hj] at e
   exact (List.getElem_inj nd).mp e
  have hsl : (zM c).length = c.length - 1 := by unfold zM; rw [List.length_map, List.length_drop]
  have est : (zM c)[k]? = some (c.getD 0 0, c.getD (k + 1) 0) := by
   unfold zM
   rw [List.getElem?_map, List.getElem?_drop, List.getD_eq_getElem?_getD (i := k + 1), show 1 + k = k + 1 by omega, List.getElem?_eq_getElem h]; rfl
  have htk : (zM c).take (k + 1) = (zM c).take k ++ [(c.getD 0 0, c.getD (k + 1) 0)] := by rw [List.take_add_one, est]; rfl
  rw [htk, xn]
  show (sw1 (swR row ((zM c).take k)) (c.getD 0 0, c.getD (k + 1) 0)).getD _ _ = _ /\ _
  have b0 : c.getD 0 0 < (swR row ((zM c).take k)).length := by rw [qC]; exact hb _ (gm 0 (by omega))
  have b1 : c.getD (k + 1) 0 < (swR row ((zM c).take k)).length := by rw [qC]; exact hb _ (gm (k + 1) h)
  have ne : c.getD 0 0 ≠ c.getD (k + 1) 0 := fun e => by have := inj 0 (k + 1) (by omega) h e; omega
  refine ⟨?_, fun i h1 h2 => ?_, fun i h1 h2 => ?_, fun x hx => ?_⟩
  ·rw [yg b0 b1, if_neg ne, if_pos rfl]
   exact i3 (k + 1) (by omega) h
  ·show (sw1 _ _).getD _ _ = _
   rw [yg b0 b1]
   by_cases e : i = k + 1
   ·subst e
    rw [if_pos rfl, i1, show k + 1 - 1 = k by omega]
   ·rw [if_neg (fun z => e (inj i (k + 1) (by omega) h z)), if_neg (fun z => by have := inj i 0 (by omega) (by omega) z; omega)]
    exact i2 i h1 (by omega)
  ·show (sw1 _ _).getD _ _ = _
   rw [yg b0 b1, if_neg (fun z => by have := inj i (k + 1) h2 h z; omega), if_neg (fun z => by have := inj i 0 h2 (by omega) z; omega)]
   exact i3 i (by omega) h2
  ·show (sw1 _ _).getD _ _ = _
   rw [yg b0 b1, if_neg (fun z => hx (by rw [z]; exact gm (k + 1) h)), if_neg (fun z => hx (by rw [z]; exact gm 0 (by omega)))]
   exact i4 x hx
noncomputable def qo (os : List Int) (i : Nat) : List (Nat × Nat) := ((zy os i).map fun r => zM (r.map Int.toNat)).flatten
open Classical in
theorem xO {n : Nat} {os : List Int} (h : zl n os) : ∀ i, i <= n -> (swR (zG 0 1 n) (qo os i)).length = n /\ (∀ t : Nat, t < n -> qk os i (t : Int) -> (swR (zG 0 1 n) (qo os i)).getD (os.getD t 0).toNat 0 = (t : Int)) /\ ∀ t : Nat, t < n -> ¬ qk os i (t : Int) -> (swR (zG 0 1 n) (qo os i)).getD t 0 = (t : Int)
  | 0, _ => by
    refine ⟨zi 0 1 n, fun t _ ⟨q, hq, _⟩ => by omega, fun t ht _ => ?_⟩
    show (zG 0 1 n).getD t 0 = _
    exact zU n ht
  | i + 1, hi => by
    obtain ⟨l, ih1, ih2⟩ := xO h i (by omega)
    obtain ⟨M, hM, hMn⟩ := xc h (p := (i : Int)) (by omega) (by omega)
    have hst : qo os (i + 1) = qo os i ++ (((if xY os i /\ 1 < per os (i : Int) then [zL os (i : Int)] else []).map fun r => zM (r.map Int.toNat)).flatten) := by
      unfold qo
      show ((zy os i ++ _).map _).flatten = _
      rw [List.map_append, List.flatten_append]
    rw [hst, xn]
    generalize swR (zG 0 1 n) (qo os i) = row at *
    by_cases hL : xY os i
    · have hns := jA.mp hL
      by_cases hp : 1 < per os (i : Int)
      · rw [if_pos ⟨hL, hp⟩]
        have e1 : ([zL os (i : Int)].map fun r => zM (r.map Int.toNat)).flatten = zM ((itl os (i : Int) M).map Int.toNat) := by
          unfold zL
          rw [hM.per]
          simp
        rw [e1]
        have hcl : ((itl os (i : Int) M).map Int.toNat).length = M := by rw [List.length_map, qT]
        have cg : ∀ k, k < M -> ((itl os (i : Int) M).map Int.toNat).getD k 0 = (itn os k (i : Int)).toNat := fun k hk => by
          rw [List.getD_eq_getElem?_getD, List.getElem?_map]
          unfold itl
          rw [List.getElem?_map, List.getElem?_range hk]; rfl
        have bd : ∀ k, 0 <= itn os k (i : Int) /\ itn os k (i : Int) < n := fun k => qN h (by omega) (by omega) k
        have hnd : ((itl os (i : Int) M).map Int.toNat).Nodup := by
          rw [List.nodup_iff_pairwise_ne, List.pairwise_map]
          refine List.Pairwise.imp_of_mem (fun {a b} ha hb hab e => ?_) (List.nodup_iff_pairwise_ne.mp (xm h (p := (i : Int)) (by omega) (by omega) hM))
          obtain ⟨k1, _, e1⟩ := qz.mp ha
          obtain ⟨k2, _, e2⟩ := qz.mp hb
          have b1 := bd k1
          have b2 := bd k2
          exact hab (by omega)
        have hmem : ∀ x : Nat, x ∈ (itl os (i : Int) M).map Int.toNat ↔ Rch os (i : Int) (x : Int) := fun x => by
          rw [List.mem_map, Rch.mem_ring hM]
          constructor
          · rintro ⟨y, hy, e⟩
            obtain ⟨k, hk, ek⟩ := qz.mp hy
            have := bd k
            rw [show (x : Int) = y by omega]; exact hy
          · intro hx
            exact ⟨_, hx, by simp⟩
        have hfree : ∀ x ∈ (itl os (i : Int) M).map Int.toNat, x < n /\ row.getD x 0 = (x : Int) := fun x hx => by
          have r := (hmem x).mp hx
          obtain ⟨k, hk⟩ := r
          have := bd k
          have hxn : x < n := by omega
          exact ⟨hxn, ih2 x hxn (qk.apart h (by omega) hns ⟨k, hk⟩)⟩
        have hM1 := hM.1
        obtain ⟨s1, s2, s3, s4⟩ := yi hnd (fun x hx => by rw [l]; exact (hfree x hx).1) (fun x hx => (hfree x hx).2) (by omega) (M - 1) (by omega)
        have htake : (zM ((itl os (i : Int) M).map Int.toNat)).take (M - 1) = zM ((itl os (i : Int) M).map Int.toNat) := by
          rw [List.take_of_length_le]
          unfold zM
          rw [List.length_map, List.length_drop, hcl]
          exact Nat.le_refl _
        rw [htake] at s1 s2 s3 s4
        refine ⟨by rw [qC]; exact l, fun t ht hs => ?_, fun t ht hs => ?_⟩
        · have nx : Rch os (t : Int) (os.getD t 0) := ⟨1, by show os.getD ((t : Int)).toNat 0 = _; rw [Int.toNat_natCast]⟩
          have gb := h.getD ht
          rcases qk.succ.mp hs with z | z
          · have hnot : (os.getD t 0).toNat ∉ (itl os (i : Int) M).map Int.toNat := fun hm => by
              have r := (hmem _).mp hm
              rw [Int.toNat_of_nonneg gb.1] at r
              obtain ⟨q, hq, rq⟩ := z
              exact qk.apart h (by omega) hns r ⟨q, hq, rq.trans nx⟩
            rw [s4 _ hnot]
            exact ih1 t ht z
          · obtain ⟨k, hk, ek⟩ := qz.mp ((Rch.mem_ring hM).mp z)
            have enx : os.getD t 0 = itn os (k + 1) (i : Int) := by
              show _ = nxt os (itn os k (i : Int))
              rw [ek]
              show _ = os.getD ((t : Int)).toNat 0
              rw [Int.toNat_natCast]
            rw [enx]
            by_cases hlast : k + 1 = M
            · rw [hlast, hM.2.1]
              have : ((i : Int)).toNat = ((itl os (i : Int) M).map Int.toNat).getD 0 0 := by rw [cg 0 (by omega)]; rfl
              rw [this, s1, cg (M - 1) (by omega), show M - 1 = k by omega, ek]
              simp
            · have := s2 (k + 1) (by omega) (by omega)
              rw [cg (k + 1) (by omega), show k + 1 - 1 = k by omega, cg k hk, ek] at this
              rw [this]
              simp
        · have hnot : t ∉ (itl os (i : Int) M).map Int.toNat := fun hm => hs (qk.succ.mpr (.inr ((hmem t).mp hm)))
          rw [s4 t hnot]
          exact ih2 t ht fun z => hs (qk.succ.mpr (.inl z))
      · rw [if_neg (fun z => hp z.2)]
        have hfix : os.getD i 0 = (i : Int) := Classical.byContradiction fun z => hp ((Zm h (by omega)).mpr z)
        have hstay : ∀ k, itn os k (i : Int) = (i : Int) := by
          intro k
          induction k with
          | zero => rfl
          | succ k ih =>
            show nxt os (itn os k (i : Int)) = _
            rw [ih]
            show os.getD ((i : Int)).toNat 0 = _
            rw [Int.toNat_natCast, hfix]
        refine ⟨l, fun t ht hs => ?_, fun t ht hs => ih2 t ht fun z => hs (qk.succ.mpr (.inl z))⟩
        rcases qk.succ.mp hs with z | ⟨k, z⟩
        · exact ih1 t ht z
        · rw [hstay k] at z
          have : i = t := by omega
          subst this
          rw [hfix, Int.toNat_natCast]
          exact ih2 i ht hns
    · rw [if_neg (fun z => hL z.1)]
      have hs0 : qk os i (i : Int) := Classical.byContradiction fun z => hL (jA.mpr z)
      exact ⟨l, fun t ht hs => ih1 t ht ((qk.step h (by omega) hs0).mp hs), fun t ht hs => ih2 t ht fun z => hs ((qk.step h (by omega) hs0).mpr z)⟩
theorem Qt {n : Nat} {os : List Int} (h : zl n os) {t : Nat} (ht : t < n) : (swR (zG 0 1 n) (qo os n)).getD (os.getD t 0).toNat 0 = (t : Int) :=
 (xO h n (Nat.le_refl n)).2.1 t ht ⟨t, ht, Rch.refl⟩
end L2
set_option Elab.async false
set_option linter.all false
set_option maxRecDepth 100000
set_option maxHeartbeats 4000000
namespace L2
open PySem PySem.Spec PyProof.Rows
noncomputable def tpS (b e : Nat) : List (Nat × Nat) := (List.range ((e - b) / 2)).map fun (k : Nat) => (b + k, e - 1 - k)
theorem ka (b e : Nat) : (tpS b e).length = (e - b) / 2 := by simp [tpS]
theorem VV {b e k : Nat} (h : k < (e - b) / 2) : (tpS b e).take (k + 1) = (tpS b e).take k ++ [(b + k, e - 1 - k)] := by
 rw [List.take_add_one]
 unfold tpS
 rw [List.getElem?_map, List.getElem?_range h]; rfl
theorem Jm {b e n : Nat} (he : e <= n) : ∀ s ∈ tpS b e, s.1 < n /\ s.2 < n /\ s.1 ≠ s.2 := by
 intro s hs
 unfold tpS at hs
 obtain ⟨k, hk, e1⟩ := List.mem_map.mp hs
 have hk' : k < (e - b) / 2 := by simpa using hk
 subst e1
 refine ⟨?_, ?_, ?_⟩
 ·show b + k < n; omega
 ·show e - 1 - k < n; omega
 ·show b + k ≠ e - 1 - k; omega
theorem Zd {row : List Int} {b e : Nat} (hbe : b <= e) (he : e <= row.length) : ∀ k, k <= (e - b) / 2 -> ∀ x, (swR row ((tpS b e).take k)).getD x 0 = if (b <= x /\ x < b + k) \/ (e - k <= x /\ x < e) then row.getD (b + e - 1 - x) 0 else row.getD x 0
 | 0, _ => by
  intro x
  rw [if_neg (by omega)]; rfl
 | k + 1, hk => by
  intro x
  have ih := Zd hbe he k (by omega)
  rw [VV (by omega), xn]
  show (sw1 _ (b + k, e - 1 - k)).getD x 0 = _
  rw [yg (by rw [qC]; omega) (by rw [qC]; omega), ih, ih, ih]
  by_cases h1 : x = e - 1 - k
  ·subst h1
   rw [if_pos rfl, if_neg (by omega), if_pos (by omega), show b + e - 1 - (e - 1 - k) = b + k by omega]
  ·rw [if_neg h1]
   by_cases h2 : x = b + k
   ·subst h2
    rw [if_pos rfl, if_neg (by omega), if_pos (by omega), show b + e - 1 - (b + k) = e - 1 - k by omega]
   ·rw [if_neg h2]
    by_cases h3 : (b <= x /\ x < b + k) \/ (e - k <= x /\ x < e)
    ·rw [if_pos h3, if_pos (by omega)]
    ·rw [if_neg h3, if_neg (by omega)]
theorem vo {row : List Int} {b e : Nat} (hbe : b <= e) (he : e <= row.length) (x : Nat) : (swR row (tpS b e)).getD x 0 = if b <= x /\ x < e then row.getD (b + e - 1 - x) 0 else row.getD x 0 := by
 have := Zd hbe he ((e - b) / 2) (Nat.le_refl _) x
 rw [List.take_of_length_le (by rw [ka]; exact Nat.le_refl _)] at this
 rw [this]
 by_cases h : b <= x /\ x < e
 ·rw [if_pos h]
  by_cases h2 : (b <= x /\ x < b + (e - b) / 2) \/ (e - (e - b) / 2 <= x /\ x < e)
  ·rw [if_pos h2]
  ·rw [if_neg h2, show b + e - 1 - x = x by omega]
 ·rw [if_neg h, if_neg (by omega)]
theorem yM {n R : Nat} (hRn : R <= n) (x : Nat) (hx : x < n) : (swR (zG 0 1 n) (tpS 0 n ++ tpS 0 R ++ tpS R n)).getD x 0 = if x < R then ((n - R + x : Nat) : Int) else ((x - R : Nat) : Int) := by
 have l0 : (zG 0 1 n).length = n := zi 0 1 n
 rw [xn, xn, vo hRn (by rw [qC, qC, l0]; exact Nat.le_refl n)]
 have h1 : ∀ y, y < n -> (swR (zG 0 1 n) (tpS 0 n)).getD y 0 = ((n - 1 - y : Nat) : Int) := fun y hy => by
  rw [vo (Nat.zero_le _) (by rw [l0]; exact Nat.le_refl n), if_pos ⟨Nat.zero_le _, hy⟩, zU n (by omega)]
  omega
 have h2 : ∀ y, y < n -> (swR (swR (zG 0 1 n) (tpS 0 n)) (tpS 0 R)).getD y 0 = if y < R then ((n - R + y : Nat) : Int) else ((n - 1 - y : Nat) : Int) := fun y hy => by
  rw [vo (Nat.zero_le _) (by rw [qC, l0]; exact hRn)]
  by_cases c : y < R
  ·rw [if_pos ⟨Nat.zero_le _, c⟩, if_pos c, h1 _ (by omega)]
   omega
  ·rw [if_neg (by omega), if_neg c, h1 y hy]
 by_cases c : x < R
 ·rw [if_neg (by omega), if_pos c, h2 x hx, if_pos c]
 ·rw [if_pos (by omega), if_neg c, h2 _ (by omega), if_neg (by omega)]
  omega
end L2
set_option Elab.async false
set_option linter.all false
set_option maxRecDepth 100000
set_option maxHeartbeats 4000000
namespace L2
open PySem PySem.Spec PyProof.Rows
section
variable {X : Cx}
variable {o e : Expr} {es : List Expr} {to : TE} {t : TA} {name : Str} {apos cpos : Pos} {T id : String} {r : V -> List V -> Hp -> VK -> Prop} {K : PySem.W.Frag}
end
end L2
set_option Elab.async false
set_option linter.all false
set_option maxRecDepth 100000
set_option maxHeartbeats 4000000
namespace L2
open PySem PySem.Spec PyProof.Rows
section
variable {X : Cx} {tg : Expr}
end
inductive Dd where
 | take (p : Nat) | move (p g : Nat) | lay (g : Nat)
noncomputable abbrev RS := List (Option Int) × Option Int × List Int
noncomputable def inc (mv : List Int) (x : Int) : List Int := mv.set x.toNat (mv.getD x.toNat 0 + 1)
inductive Do : Dd -> RS -> RS -> Prop
 | take {p : Nat} {row : List (Option Int)} {mv : List Int} {x : Int} : row[p]? = some (some x) -> Do (.take p) (row, none, mv) (row.set p none, some x, inc mv x)
 | move {p g : Nat} {row : List (Option Int)} {h : Option Int} {mv : List Int} {x : Int} : row[p]? = some (some x) -> row[g]? = some none -> Do (.move p g) (row, h, mv) ((row.set p none).set g (some x), h, inc mv x)
 | lay {g : Nat} {row : List (Option Int)} {mv : List Int} {x : Int} : row[g]? = some none -> Do (.lay g) (row, some x, mv) (row.set g (some x), none, inc mv x)
inductive Dos : List Dd -> RS -> RS -> Prop
 | nil {s : RS} : Dos [] s s
 | cons {d : Dd} {l : List Dd} {s t u : RS} : Do d s t -> Dos l t u -> Dos (d :: l) s u
theorem Dos.append {a b : List Dd} {s t u : RS} (h1 : Dos a s t) (h2 : Dos b t u) : Dos (a ++ b) s u := by
 induction h1 with
 | nil => exact h2
 | cons d _ ih => exact .cons d (ih h2)
noncomputable def mvP : Nat -> List Nat -> List Dd
 | _, [] => []
 | g, p :: ps => .move p g :: mvP p ps
noncomputable def jt (c : List Nat) : List Dd := .take (c.getD 0 0) :: mvP (c.getD 0 0) (c.drop 1).reverse ++ [.lay ((c.drop 1).reverse.getLastD (c.getD 0 0))]
theorem D2 : ∀ (ps : List Nat) (g : Nat) (row : List (Option Int)) (h : Option Int) (mv : List Int), row[g]? = some none -> (g :: ps).Nodup -> (∀ p ∈ ps, row[p]? = some (some (p : Int))) ->
  ∃ row', Dos (mvP g ps) (row, h, mv) (row', h, ps.foldl (fun m (p : Nat) => inc m (p : Int)) mv) /\ row'.length = row.length /\ row'[ps.getLastD g]? = some none /\ (∀ (i p : Nat), ps[i]? = some p -> row'[(g :: ps).getD i 0]? = some (some (p : Int))) /\ ∀ x, x ∉ g :: ps -> row'[x]? = row[x]?
 | [], g, row, h, mv, hg, _, _ => ⟨row, .nil, rfl, hg, fun i p e => by simp at e, fun x _ => rfl⟩
 | p :: ps, g, row, h, mv, hg, nd, hp => by
  have gl : g < row.length := (List.getElem?_eq_some_iff.mp hg).1
  have hp0 := hp p (by simp)
  have pl : p < row.length := (List.getElem?_eq_some_iff.mp hp0).1
  rw [List.nodup_cons] at nd
  obtain ⟨n1, n2⟩ := nd
  have ngp : g ≠ p := fun z => n1 (by rw [z]; simp)
  have at1 : ∀ x, ((row.set p none).set g (some (p : Int)))[x]? = if x = g then some (some (p : Int)) else if x = p then some none else row[x]? := by
   intro x
   rw [List.getElem?_set, List.getElem?_set, List.length_set]
   by_cases e1 : x = g
   ·subst e1; simp [gl]
   ·rw [if_neg (fun z => e1 z.symm), if_neg e1]
    by_cases e2 : x = p
    ·subst e2; simp [pl]
    ·rw [if_neg (fun z => e2 z.symm), if_neg e2]
  obtain ⟨row', d, l, hl, hs, ho⟩ := D2 ps p ((row.set p none).set g (some (p : Int))) h (inc mv (p : Int)) (by rw [at1, if_neg (fun z => ngp z.symm), if_pos rfl]) n2 (fun q hq => by
   rw [at1, if_neg (fun z => n1 (by rw [<- z]; simp [hq])), if_neg (fun z => (List.nodup_cons.mp n2).1 (by rw [<- z]; exact hq))]
   exact hp q (by simp [hq]))
  refine ⟨row', .cons (.move hp0 hg) d, by rw [l, List.length_set, List.length_set], ?_, fun i q e => ?_, fun x hx => ?_⟩
  ·rw [show (p :: ps).getLastD g = ps.getLastD p by simp [List.getLastD_eq_getLast?, List.getLast?_cons]]; exact hl
  ·cases i with
   | zero =>
    have : p = q := by simpa using e
    subst this
    show row'[g]? = _
    rw [ho g n1, at1, if_pos rfl]
   | succ i => exact hs i q (by simpa using e)
  ·have hx1 : x ≠ g := fun z => hx (by simp [z])
   have hx2 : x ∉ p :: ps := fun z => hx (List.mem_cons_of_mem _ z)
   rw [ho x hx2, at1, if_neg hx1, if_neg (fun z => hx2 (by simp [z]))]
noncomputable def wD (c : List Nat) (mv : List Int) : List Int := inc ((c.drop 1).reverse.foldl (fun m (p : Nat) => inc m (p : Int)) (inc mv ((c.getD 0 0 : Nat) : Int))) ((c.getD 0 0 : Nat) : Int)
theorem B7 {R : List Int} {c : List Nat} {mv : List Int} (nd : c.Nodup) (hc : 2 <= c.length) (hb : ∀ x ∈ c, x < R.length) (h0 : ∀ x ∈ c, R.getD x 0 = (x : Int)) :
  Dos (jt c) (R.map some, none, mv) ((swR R (zM c)).map some, none, wD c mv) := by
 obtain ⟨c0, ct, rfl⟩ : ∃ c0 ct, c = c0 :: ct := by
  cases c with
  | nil => simp at hc
  | cons a b => exact ⟨a, b, rfl⟩
 have hat : ∀ x ∈ c0 :: ct, (R.map some)[x]? = some (some (x : Int)) := fun x hx => by
  rw [List.getElem?_map, List.getElem?_eq_getElem (hb x hx), <- h0 x hx, qi (hb x hx)]; rfl
 have l0 : c0 < R.length := hb c0 (by simp)
 have nd' := List.nodup_cons.mp nd
 have hrow : ((R.map some).set c0 none)[c0]? = some none := by rw [List.getElem?_set, List.length_map]; simp [l0]
 obtain ⟨row', d, l, hl, hs, ho⟩ := D2 ct.reverse c0 ((R.map some).set c0 none) (some (c0 : Int)) (inc mv (c0 : Int)) hrow
  (List.nodup_cons.mpr ⟨by simpa using nd'.1, (by have h := nd'.2; rw [List.nodup_iff_pairwise_ne] at h ⊢; rw [List.pairwise_reverse]; exact h.imp fun z => z.symm)⟩) (fun p hp => by
   have hp' : p ∈ ct := by simpa using hp
   rw [List.getElem?_set, if_neg (fun z => nd'.1 (by rw [z]; exact hp'))]
   exact hat p (by simp [hp']))
 have hct : 1 <= ct.length := by simpa using hc
 rw [List.length_set, List.length_map] at l
 have last : ct.reverse.getLastD c0 = ct.getD 0 0 := by
  cases ct with
  | nil => simp at hct
  | cons a b => simp [List.getLastD_eq_getLast?]
 have hl' := hl
 rw [last] at hl
 have e : row'.set (ct.getD 0 0) (some (c0 : Int)) = (swR R (zM (c0 :: ct))).map some := by
  obtain ⟨s1, s2, s3, s4⟩ := yi (row := R) nd hb h0 (by omega) ((c0 :: ct).length - 1) (by simp)
  have htake : (zM (c0 :: ct)).take ((c0 :: ct).length - 1) = zM (c0 :: ct) := by
   rw [List.take_of_length_le]
   unfold zM
   rw [List.length_map, List.length_drop]
   exact Nat.le_refl _
  rw [htake] at s1 s2 s4
  have lsw := qC (zM (c0 :: ct)) R
  have l1 : ct.getD 0 0 < row'.length := by rw [l]; exact hb _ (by rw [List.getD_eq_getElem?_getD, List.getElem?_eq_getElem hct]; simp)
  refine List.ext_getElem? fun x => ?_
  rw [List.getElem?_set, List.getElem?_map]
  by_cases hx : x < R.length
  ·have ex : (swR R (zM (c0 :: ct)))[x]? = some ((swR R (zM (c0 :: ct))).getD x 0) := by rw [List.getD_eq_getElem?_getD, List.getElem?_eq_getElem (by omega)]; rfl
   rw [ex]
   show _ = some (some _)
   by_cases hm : x ∈ c0 :: ct
   ·obtain ⟨k, hk, ek⟩ := List.mem_iff_getElem.mp hm
    have gd : ∀ i (hi : i < (c0 :: ct).length), (c0 :: ct).getD i 0 = (c0 :: ct)[i] := fun i hi => by rw [List.getD_eq_getElem?_getD, List.getElem?_eq_getElem hi]; rfl
    rcases k with _ | _ | k
    ·have ek : c0 = x := ek
     subst ek
     have ne : ct.getD 0 0 ≠ c0 := fun z => nd'.1 (by rw [<- z, List.getD_eq_getElem?_getD, List.getElem?_eq_getElem hct]; simp)
     rw [if_neg ne]
     have := hs 0 (ct.getD (ct.length - 1) 0) (by rw [List.getElem?_reverse (by omega), List.getD_eq_getElem?_getD, show ct.length - 1 - 0 = ct.length - 1 by omega, List.getElem?_eq_getElem (by omega)]; rfl)
     rw [show (c0 :: ct.reverse).getD 0 0 = c0 from rfl] at this
     rw [this]
     have s1' : (swR R (zM (c0 :: ct))).getD c0 0 = _ := s1
     rw [s1', gd _ (by simp)]
     simp only [List.length_cons, Nat.add_sub_cancel]
     rw [List.getD_eq_getElem?_getD, List.getElem?_eq_getElem (by omega)]
     obtain ⟨m, hm'⟩ : ∃ m, ct.length = m + 1 := ⟨ct.length - 1, by omega⟩
     simp [hm']
    ·have ek : ct[0] = x := ek
     have e0 : ct.getD 0 0 = x := by rw [List.getD_eq_getElem?_getD, List.getElem?_eq_getElem hct]; exact ek
     rw [if_pos e0, if_pos l1]
     have := s2 1 (Nat.le_refl 1) (by simp; omega)
     rw [gd 1 (by simpa using hk)] at this
     rw [show x = (c0 :: ct)[1] from ek.symm, this]
     rfl
    ·have hk' : k + 1 < ct.length := by simpa using hk
     have ek : ct[k + 1] = x := ek
     have ne : ct.getD 0 0 ≠ x := fun z => by
      rw [List.getD_eq_getElem?_getD, List.getElem?_eq_getElem hct, <- ek] at z
      have := (List.getElem_inj nd'.2).mp (show ct[0] = ct[k + 1] from z)
      omega
     rw [if_neg ne]
     have hi1 : ct.length - 1 - (k + 1) < ct.reverse.length := by rw [List.length_reverse]; omega
     have := hs (ct.length - 1 - k) (ct.getD k 0) (by rw [List.getElem?_reverse (by omega), List.getD_eq_getElem?_getD, show ct.length - 1 - (ct.length - 1 - k) = k by omega, List.getElem?_eq_getElem (by omega)]; rfl)
     rw [show (c0 :: ct.reverse).getD (ct.length - 1 - k) 0 = x by
      rw [show ct.length - 1 - k = (ct.length - 1 - (k + 1)) + 1 by omega, List.getD_eq_getElem?_getD, List.getElem?_cons_succ, List.getElem?_reverse (by omega), show ct.length - 1 - (ct.length - 1 - (k + 1)) = k + 1 by omega, List.getElem?_eq_getElem hk']
      exact ek] at this
     rw [this]
     have s2' := s2 (k + 2) (by omega) (by simp; omega)
     rw [gd (k + 2) hk, show (c0 :: ct)[k + 2] = x from ek] at s2'
     rw [s2', show k + 2 - 1 = k + 1 by omega, gd (k + 1) (by simp; omega), List.getD_eq_getElem?_getD, List.getElem?_eq_getElem (by omega)]
     rfl
   ·rw [s4 x hm]
    have hm2 : x ∉ c0 :: ct.reverse := fun z => hm (by simpa using z)
    have ne : ct.getD 0 0 ≠ x := fun z => hm (by rw [<- z, List.getD_eq_getElem?_getD, List.getElem?_eq_getElem hct]; simp)
    rw [if_neg ne, ho x hm2, List.getElem?_set, if_neg (fun z => hm (by simp [z])), List.getElem?_map, qi hx, List.getElem?_eq_getElem hx]
    rfl
  ·have ne : ct.getD 0 0 ≠ x := fun z => by omega
   rw [if_neg ne, List.getElem?_eq_none (by omega), List.getElem?_eq_none (by omega)]
   rfl
 refine .cons (.take (hat c0 (by simp))) (Dos.append d (.cons (.lay hl') ?_))
 show Dos [] (row'.set (ct.reverse.getLastD c0) (some (c0 : Int)), none, wD (c0 :: ct) mv) _
 rw [last, e]
 exact .nil
noncomputable def xM (os : List Int) (i : Nat) (mv : List Int) : List Int := (zy os i).foldl (fun m r => wD (r.map Int.toNat) m) mv
noncomputable def jk (os : List Int) (i : Nat) : List Dd := ((zy os i).map fun r => jt (r.map Int.toNat)).flatten
open Classical in
theorem QV {n : Nat} {os : List Int} (h : zl n os) (mv : List Int) : ∀ i, i <= n -> Dos (jk os i) ((zG 0 1 n).map some, none, mv) ((swR (zG 0 1 n) (qo os i)).map some, none, xM os i mv)
 | 0, _ => .nil
 | i + 1, hi => by
  have d1 := QV h mv i (by omega)
  obtain ⟨l, ih1, ih2⟩ := xO h i (by omega)
  obtain ⟨M, hM, hMn⟩ := xc h (p := (i : Int)) (by omega) (by omega)
  have hst : qo os (i + 1) = qo os i ++ (((if xY os i /\ 1 < per os (i : Int) then [zL os (i : Int)] else []).map fun r => zM (r.map Int.toNat)).flatten) := by
   unfold qo
   show ((zy os i ++ _).map _).flatten = _
   rw [List.map_append, List.flatten_append]
  have hrp : jk os (i + 1) = jk os i ++ (((if xY os i /\ 1 < per os (i : Int) then [zL os (i : Int)] else []).map fun r => jt (r.map Int.toNat)).flatten) := by
   unfold jk
   show ((zy os i ++ _).map _).flatten = _
   rw [List.map_append, List.flatten_append]
  have hrm : xM os (i + 1) mv = (if xY os i /\ 1 < per os (i : Int) then [zL os (i : Int)] else []).foldl (fun m r => wD (r.map Int.toNat) m) (xM os i mv) := by
   unfold xM
   show (zy os i ++ _).foldl _ _ = _
   rw [List.foldl_append]
  rw [hst, hrp, hrm, xn]
  by_cases hL : xY os i /\ 1 < per os (i : Int)
  ·rw [if_pos hL]
   have hns := jA.mp hL.1
   have hM2 : 1 < M := by rw [<- hM.per]; exact hL.2
   have e1 : ([zL os (i : Int)].map fun r => zM (r.map Int.toNat)).flatten = zM ((itl os (i : Int) M).map Int.toNat) := by
    unfold zL
    rw [hM.per]
    simp
   have e2 : ([zL os (i : Int)].map fun r => jt (r.map Int.toNat)).flatten = jt ((itl os (i : Int) M).map Int.toNat) := by
    unfold zL
    rw [hM.per]
    simp
   have e3 : [zL os (i : Int)].foldl (fun m r => wD (r.map Int.toNat) m) (xM os i mv) = wD ((itl os (i : Int) M).map Int.toNat) (xM os i mv) := by
    unfold zL
    rw [hM.per]
    rfl
   rw [e1, e2, e3]
   have hcl : ((itl os (i : Int) M).map Int.toNat).length = M := by rw [List.length_map, qT]
   have bd : ∀ k, 0 <= itn os k (i : Int) /\ itn os k (i : Int) < n := fun k => qN h (by omega) (by omega) k
   have hnd : ((itl os (i : Int) M).map Int.toNat).Nodup := by
    rw [List.nodup_iff_pairwise_ne, List.pairwise_map]
    refine List.Pairwise.imp_of_mem (fun {a b} ha hb hab e => ?_) (List.nodup_iff_pairwise_ne.mp (xm h (p := (i : Int)) (by omega) (by omega) hM))
    obtain ⟨k1, _, e1⟩ := qz.mp ha
    obtain ⟨k2, _, e2⟩ := qz.mp hb
    have b1 := bd k1
    have b2 := bd k2
    exact hab (by omega)
   have hfree : ∀ x ∈ (itl os (i : Int) M).map Int.toNat, x < n /\ (swR (zG 0 1 n) (qo os i)).getD x 0 = (x : Int) := fun x hx => by
    obtain ⟨y, hy, e⟩ := List.mem_map.mp hx
    obtain ⟨k, hk, ek⟩ := qz.mp hy
    have := bd k
    have hxn : x < n := by omega
    exact ⟨hxn, ih2 x hxn (qk.apart h (by omega) hns ⟨k, by omega⟩)⟩
   have d2 := B7 (R := swR (zG 0 1 n) (qo os i)) (mv := xM os i mv) hnd (by omega) (fun x hx => by rw [l]; exact (hfree x hx).1) (fun x hx => (hfree x hx).2)
   exact d1.append d2
  ·rw [if_neg hL]
   exact d1.append .nil
end L2
set_option Elab.async false
set_option linter.all false
set_option maxRecDepth 100000
set_option maxHeartbeats 4000000
namespace L2
open PySem PySem.Spec PyProof.Rows
section
variable {X : Cx} {K : PySem.W.Frag}
end
end L2
set_option Elab.async false
set_option linter.all false
set_option maxRecDepth 100000
set_option maxHeartbeats 4000000
namespace L2
open PySem PySem.Spec PyProof.Rows
section
variable {X : Cx}
end
end L2
set_option Elab.async false
set_option linter.all false
set_option maxRecDepth 100000
set_option maxHeartbeats 4000000
namespace L2
open PySem PySem.Spec PyProof.Rows
section
variable {X : Cx}
end
section
variable {X : Cx} {e st : Expr} {te : TE} {ts : TO} {p2 pos : Pos}
end
end L2
set_option Elab.async false
set_option linter.all false
set_option maxRecDepth 100000
set_option maxHeartbeats 4000000
namespace L2
open PySem PySem.Spec PyProof.Rows
section
variable {X : Cx}
end
end L2
set_option Elab.async false
set_option linter.all false
set_option maxRecDepth 100000
set_option maxHeartbeats 4000000
namespace L2
open PySem PySem.Spec PyProof.Rows
noncomputable def AtM (K : PySem.W.Frag) (C : Addr) (m qual : Str) (st : Stmt) : Prop := ∃ f fd, Fun K m qual st f fd /\ Yu K C m f
noncomputable def Dm (P : Program) (w : World) (K : PySem.W.Frag) (mg : Str -> Option Value) (base : Heap) (C : Addr) (m : Str) (ps : List Str) (k : Nat) (sp : Sp) : Prop :=
 ∃ f fd, jE P w K mg base CX0 k f fd ps sp /\ ki K fd ps [] /\ Yu K C m f
theorem Dm.mono {P : Program} {w : World} {K : PySem.W.Frag} {mg : Str -> Option Value} {base : Heap} {C : Addr} {m : Str} {ps : List Str} {j k : Nat} {sp : Sp} (D : Dm P w K mg base C m ps j sp) (h : j <= k) : Dm P w K mg base C m ps k sp :=
 let ⟨f, fd, F, r⟩ := D
 ⟨f, fd, F.mono h, r⟩
theorem jJ {P : Program} {w : World} {K : PySem.W.Frag} {mg : Str -> Option Value} {base : Heap} {C : Addr} {m qual : Str} {st : Stmt} {N ps : List Str} {k : Nat} {sp : Sp} (a : AtM K C m qual st) (S : zo N ps (zf st))
  (hb : ∀ (kV doc pm : Value) (an : Option Addr) (cdv ct : Value) (us : List Value), us.length = ps.length -> bindArgs (PySem.W.fnOf m qual (jo st) (qD st) (zf st) .none kV doc pm an cdv ct) ⟨us, []⟩ = pure (ps.zip us))
  (len : ∀ vs H Q E, sp vs H Q E -> vs.length = ps.length)
  (hbody : ∀ (f : Addr) (cdv : Value) (A : Around) (outer : List Env) (s : Shared) (H : Hp) (vs : List V) (Q : VK) (E : XK), qK k (A.deeper (envOfC qual (zf st) s.heap.objs.size f cdv)) -> sp vs H Q E ->
   ∃ t, PSs (wx CX0 P w K mg base N qual (zf st) f cdv A outer s H E).nox (qD st) t /\ t { nx := fun _ H' => Q .non H', rt := Q } (zZ N vs) H) : Dm P w K mg base C m ps (k + 1) sp := by
 obtain ⟨f, fd, F, mt⟩ := a
 exact ⟨f, fd, F.ok S len fun cdv A outer s H vs Q E => hbody f cdv A outer s H vs Q E, F.binds hb, mt⟩
section
variable {X : Cx} {k : Nat} {C : Addr} {m x : Str} {ps : List Str} {sp : Sp} {p pos apos : Pos} {o e : Expr} {es : List Expr} {t : TA} {to : TE}
theorem wc {pl : Sem Bool} (c : Cls X.K C) (D : Dm X.prog X.w X.K X.mg X.base C m ps k sp) (hr : qK k X.A) (ho : PE X o to) (ha : PA X (e :: es) t)
  (hst : starEach (e :: es) X.env = (false, eval e X.env) :: starEach es X.env := by rfl) (hpl : (backTo pos (starEach es X.env)).any (·.1) = false := by rfl)
  (ht : eval (.Call (.Attribute o m apos) (e :: es) [] pos) X.env = (do
   let ov <- eval o X.env
   standAt apos.atName
   let (f, first) <- holding [ov] (getMethod ov m pl)
   callWith pos f first (backTo pos (starEach (e :: es) X.env)) (backToKw pos (keywordEach [] X.env))) := by rfl) :
  PE X (.Call (.Attribute o m apos) (e :: es) [] pos) (QF C m sp [] E0 to t) := by
 obtain ⟨f, fd, F, b, mt⟩ := D
 exact AX ho c mt F hr b .nil Ky ha hst hpl ht
theorem J3 {pl : Sem Bool} (c : Cls X.K C) (D : Dm X.prog X.w X.K X.mg X.base C m ps k sp) (hr : qK k X.A) (ho : PE X o to)
  (ht : eval (.Call (.Attribute o m apos) [] [] pos) X.env = (do
   let ov <- eval o X.env
   standAt apos.atName
   let (f, first) <- holding [ov] (getMethod ov m pl)
   callWith pos f first (backTo pos (starEach [] X.env)) (backToKw pos (keywordEach [] X.env))) := by rfl) :
  PE X (.Call (.Attribute o m apos) [] [] pos) (QF C m sp [] E0 to Aq) := by
 obtain ⟨f, fd, F, b, mt⟩ := D
 exact Wz ho c mt F hr b .nil Ky ht
noncomputable def Mkr (P : Program) (w : World) (K : PySem.W.Frag) (mg : Str -> Option Value) (base : Heap) (x : Str) (C : Addr) (ps : List Str) (k : Nat) (sp : Sp) : Prop :=
 ∃ f fd, jE P w K mg base CX0 k f fd ps sp /\ ki K fd ps [] /\ Mk K C f /\ mg x = some (.ref C)
theorem Hx (D : Mkr X.prog X.w X.K X.mg X.base x C ps k sp) (hr : qK (k + 1) X.A) (hg : Gl X x) (ha : PA X (e :: es) t) (hdb : (x == ("__debug__" : Str)) = false := by decide)
  (he : starEach (e :: es) X.env = (false, eval e X.env) :: starEach es X.env := by rfl) (hpl : (backTo pos (starEach es X.env)).any (·.1) = false := by rfl) : PE X (.Call (.Name x p) (e :: es) [] pos) (VY C sp [] E0 t) := by
 obtain ⟨f, fd, F, b, M, hm⟩ := D
 exact Bb M F hr hg hm b .nil Ky ha hdb he hpl
end
structure KD (K : PySem.W.Frag) (w : World) (a : Addr) (kvs : List (Key × V)) : Prop where
 ex : ∃ es ep, K.lookup a = some ⟨.type "dict", none, .dict es ep, #[]⟩ /\ ∀ P : Program, PySem.KeysOf (jq P w) es /\ ∃ vs, KV kvs vs /\ Pairs (jq P w) es.toList vs /\ (vs.map (·.1)).Nodup
 ns : (a == sysModules) = false
theorem KD.at {X : Cx} {pins : List (Addr × Obj)} {σ : St} {H : Hp} {s : Shared} {a : Addr} {kvs : List (Key × V)} (d : KD X.K X.w a kvs) (I : Inv X pins σ H s) : ∃ vs, KV kvs vs /\ s.heap.DictOf (jq X.prog X.w) a vs := by
 obtain ⟨es, ep, hl, h⟩ := d.ex
 obtain ⟨h1, vs, r, h2, h3⟩ := h X.prog
 exact ⟨vs, r, _, es, ep, I.kIn a _ hl, ⟨rfl, rfl, rfl⟩, rfl, h1, h2, h3⟩
noncomputable def D7 (kvs : List (Key × V)) (ty : TE) : TE := fun σ H Q => ty σ H fun y H2 => ∃ k, y = kV k /\ Q ((yz kvs k).getD .non) H2
section
variable {X : Cx} {e : Expr} {ty : TE} {p apos cpos : Pos} {x : Str} {a : Addr} {kvs : List (Key × V)}
theorem Bv (d : KD X.K X.w a kvs) (hg : Gl X x) (hm : X.mg x = some (.ref a)) (he : PE X e ty) (m : M1 X (.Name x p) "get" apos e cpos) (hdb : (x == ("__debug__" : Str)) = false := by decide) : PE X (.Call (.Attribute (.Name x p) "get" apos) [e] [] cpos) (D7 kvs ty) := by
 intro pins s σ H Q I h
 refine wpAny_Call_method m.base m.few m.line PySem.F.plainAttrs_dict PySem.F.slot_dict_get PySem.F.type_dict_get (ZA I hg hm ?_ hdb)
 obtain ⟨vs0, _, dd0⟩ := d.at I
 refine ⟨dd0.typeIs, fun b q => ?_, ?_⟩
 ·cases q
  obtain ⟨ob, _, _, h1, h2, _⟩ := dd0
  exact ⟨ob, h1, h2.2.1⟩
 rw [m.trees]
 refine Calls.callWith_builtin rfl (Calls.evalArgs_plain (Calls.spliced_cons (thn (he pins s σ H _ I h) fun iv s2 ⟨y, H2, I2, ry, k, ey, q2⟩ => Calls.spliced_nil ?_)))
 subst ey
 obtain ⟨vs, rel, dd⟩ := d.at I2
 refine call_meetsIn PySem.F.slot_dict_get dd.typeIs PySem.F.entry_dict_get (PySem.F.args_dict_get_2 _ _) (meets_dict_get (jq X.prog X.w) a (Hm ry) d.ns) ⟨_, dd.mapOf, ?_⟩
 refine ⟨(yz kvs k).getD .non, H2, I2.tok _, ?_, q2⟩
 exact (rel.val k).getD rfl
end
end L2
set_option Elab.async false
set_option linter.all false
set_option maxRecDepth 100000
set_option maxHeartbeats 4000000
namespace L2
open PySem PySem.Spec PyProof.Rows
section
variable {X : Cx}
theorem xr : G0 X (EG X.K) := by
  intro pins s σ H x y v u Q I rx ry h
  obtain ⟨p, xs, i, z, rfl, rfl, hq, he, q⟩ := h
  cases rx
  obtain ⟨t, rfl⟩ := ry
  obtain ⟨its, r, pl, hz⟩ := I.list hq
  obtain ⟨j, h1, h2, h3, h4, h5⟩ := Z3 he
  obtain ⟨w, ew, rw'⟩ := r.get h2
  have hl := r.length
  have hn := vv
  have fin : EP X pins σ Q w s := ⟨z, H, I, rw', q⟩
  by_cases h0 : 0 <= i
  · have hj : i.toNat = j := by
      rw [seqIndex_of h0 h5] at h1
      exact Option.some.inj h1
    exact wpAny_getItem_list pl.isList h0 (by omega) (by rw [hj]; simpa using ew) fin
  · have hj : (i + (its.toArray.size : Int)).toNat = j := by
      rw [seqIndex_neg (by omega) h4] at h1
      rw [List.size_toArray, <- hl]
      exact Option.some.inj h1
    exact wpAny_getItem_list_neg pl.isList (by omega) (by rw [List.size_toArray] <;> omega) (by omega) (by rw [hj]; simpa using ew) fin
end
theorem atm_mk {K : PySem.W.Frag} {C f : Addr} {m qual : Str} {st : Stmt} {oc kV dc pm cd ct : Value} {od an : Option Addr} {sl : Array (Option Value)} (a1 : PySem.W.findIn K (.ref C) m = some (some (.ref f))) (i1 : PySem.W.isFn K (.ref f) = true)
  (l1 : K.lookup f = some ⟨oc, od, .func (PySem.W.fnOf m qual (jo st) (qD st) (zf st) .none kV dc pm an cd ct), sl⟩) (c1 : PySem.W.codeIn K cd qual = true) (k1 : PySem.W.keepIn K (.ref f) = true) : AtM K C m qual st := ⟨f, _, V7 l1 c1 k1, ⟨a1, i1, k1⟩⟩
end L2
set_option Elab.async false
set_option linter.all false
set_option maxRecDepth 100000
set_option maxHeartbeats 4000000
namespace L2
open PySem PySem.Spec PyProof.Rows
section
variable {X : Cx}
theorem Xt {body : List Stmt} {h₀ : ExceptHandler} {hs : List ExceptHandler} {pos : Pos} {t : TS} (hx : ∀ e s, X.xe e s -> False) (hb : PSs X body t) : PS X (.Try body (h₀ :: hs) [] [] pos) t := by
 intro pins s σ H D I h
 refine wpAny_Try_except (wpAny_mono (hb pins s σ H D I h) (fun f s1 q => ?_) fun e s1 q => (hx _ _ q).elim)
 cases f with
 | next => exact wpAny_execs_nil q
 | brk => exact q
 | cont => exact q
 | ret u => exact q
end
end L2
set_option Elab.async false
set_option linter.all false
set_option maxRecDepth 100000
set_option maxHeartbeats 4000000
namespace L2
open PySem PySem.Spec PyProof.Rows
structure ScG (X : Cx) (ts : List Nat) (scope : Scope) : Prop where
 kind : scope.kind = .function
 cell : ∀ y ∈ scope.names, y.2 = .cell -> scope.names.lookup y.1 = some .cell
 loc : ∀ y ∈ scope.names, y.2 = .local -> scope.names.lookup y.1 = some .local
 free : ∀ y ∈ scope.names, y.2 = .free -> X.env.kindOf y.1 = some .cell \/ X.env.kindOf y.1 = some .free
 ts : ∀ (i : Nat) x, X.N[i]? = some x -> scope.names.lookup x = some .local \/ scope.names.lookup x = some .cell -> i ∈ ts
section
variable {X : Cx} {ts : List Nat} {scope : Scope} {pins : List (Addr × Obj)} {σ : St} {H : Hp} {s : Shared} {fp : List Addr}
end
section
variable {X : Cx} {ts : List Nat} {scope : Scope} {tg iter elt : Expr} {ifs : List Expr} {wi : TI} {g : TG} {tt : TT} {te : TE} {pos : Pos}
end
end L2
set_option Elab.async false
set_option linter.all false
set_option maxRecDepth 100000
set_option maxHeartbeats 4000000
namespace L2
open PySem PySem.Spec PyProof.Rows
section
variable {X : Cx}
end
end L2
set_option Elab.async false
set_option linter.all false
set_option maxRecDepth 100000
set_option maxHeartbeats 4000000
namespace L2
open PySem PySem.Spec PyProof.Rows
inductive Dat where
 | non | bl (b : Bool) | int (i : Int) | str (x : Str) | ty (n : String) | lst (l : List Dat) | tup (l : List Dat) | rng (lo hi c : Int) | scr (K : PySem.W.Frag) (l : List Int)
inductive AV where
 | d (x : Dat) | ref (a : Addr)
inductive MO where
 | lst (l : List AV) | dK (kvs : List (Key × AV)) | ins (C : Addr) (fs : List (Str × AV))
noncomputable abbrev MH := Addr -> Option MO
noncomputable abbrev ASt := List (Option AV)
noncomputable def mup (M : MH) (a : Addr) (o : MO) : MH := fun b => if b = a then some o else M b
theorem zt {M : MH} {a : Addr} {o : MO} : mup M a o a = some o := if_pos rfl
theorem qh {M : MH} {a b : Addr} {o : MO} (h : b ≠ a) : mup M a o b = M b := if_neg h
theorem Zx {M : MH} {a : Addr} {o u : MO} : mup (mup M a o) a u = mup M a u := by
 funext b; unfold mup; split <;> rfl
noncomputable abbrev Own := Addr -> Prop
inductive Rep (H : Hp) (O : Own) : V -> Dat -> Prop
 | non : Rep H O .non .non
 | bl {b : Bool} : Rep H O (.bl b) (.bl b)
 | int {i : Int} : Rep H O (.int i) (.int i)
 | str {x : Str} : Rep H O (.str x) (.str x)
 | ty {n : String} : Rep H O (.ty n) (.ty n)
 | lst {a : Addr} {xs : List V} {l : List Dat} : ¬ O a -> H a = some (.lst xs) -> xs.length = l.length -> (∀ (i : Nat) x d, xs[i]? = some x -> l[i]? = some d -> Rep H O x d) -> Rep H O (.ref a) (.lst l)
 | tup {a : Addr} {xs : List V} {l : List Dat} : ¬ O a -> H a = some (.tup xs) -> xs.length = l.length -> (∀ (i : Nat) x d, xs[i]? = some x -> l[i]? = some d -> Rep H O x d) -> Rep H O (.ref a) (.tup l)
 | rng {a : Addr} {lo hi c : Int} : ¬ O a -> H a = some (vB a lo hi c) -> Rep H O (.ref a) (.rng lo hi c)
 | scr {a : Addr} {K : PySem.W.Frag} {l : List Int} : ¬ O a -> Rd H a (.lst (l.map V.int)) -> Rep H O (.ref a) (.scr K l)
 | scrK {a : Addr} {K : PySem.W.Frag} {l : List Int} : SqL K (fun _ => none) a (l.map V.int) -> Rep H O (.ref a) (.scr K l)
noncomputable def XH (H : Hp) (O : Own) (xs : List V) (l : List Dat) : Prop := xs.length = l.length /\ ∀ (i : Nat) x d, xs[i]? = some x -> l[i]? = some d -> Rep H O x d
noncomputable def zz (H : Hp) (O : Own) (M : MH) (v : V) : AV -> Prop
 | .d x => Rep H O v x
 | .ref a => v = .ref a /\ M a ≠ none
noncomputable def zg (H : Hp) (O : Own) (M : MH) (xs : List V) (l : List AV) : Prop := xs.length = l.length /\ ∀ (i : Nat) x d, xs[i]? = some x -> l[i]? = some d -> zz H O M x d
noncomputable def Qa {κ : Type} (H : Hp) (O : Own) (M : MH) (xs : List (κ × V)) (l : List (κ × AV)) : Prop := xs.map (·.1) = l.map (·.1) /\ zg H O M (xs.map (·.2)) (l.map (·.2))
noncomputable def jl (H : Hp) (O : Own) (M : MH) (a : Addr) : MO -> Prop
 | .lst l => ∃ xs, H a = some (.lst xs) /\ zg H O M xs l
 | .dK kvs => ∃ xs, H a = some (.dK xs) /\ Qa H O M xs kvs
 | .ins C fs => ∃ dx xs, H a = some (.ins C dx xs) /\ Qa H O M xs fs /\ O dx /\ M dx = none /\ H dx = some (.own a)
structure Wf (H : Hp) (O : Own) (M : MH) : Prop where
 mo : ∀ a o, M a = some o -> jl H O M a o
 own : ∀ a, M a ≠ none -> O a
 al : ∀ a, O a -> ∃ o, H a = some o /\ ∀ xs, o ≠ .tup xs
theorem Wf.ne {H : Hp} {O : Own} {M : MH} (w : Wf H O M) (a : Addr) (h : O a) : H a ≠ none := by obtain ⟨o, e, _⟩ := w.al a h; rw [e]; exact fun z => nomatch z
structure Ext (H : Hp) (O : Own) (M : MH) (H' : Hp) (O' : Own) (M' : MH) : Prop where
 fix : ∀ a o, ¬ O a -> H a = some o -> H' a = some o /\ ¬ O' a
 prv : ∀ a, O a -> M a = none -> H' a = H a /\ O' a /\ M' a = none
 mst : ∀ a, M a ≠ none -> M' a ≠ none
theorem Ext.refl {H : Hp} {O : Own} {M : MH} : Ext H O M H O M := ⟨fun _ _ h e => ⟨e, h⟩, fun _ h e => ⟨rfl, h, e⟩, fun _ h => h⟩
theorem Ext.trans {H H1 H2 : Hp} {O O1 O2 : Own} {M M1 M2 : MH} (a : Ext H O M H1 O1 M1) (b : Ext H1 O1 M1 H2 O2 M2) : Ext H O M H2 O2 M2 :=
 ⟨fun x o h e => let ⟨e1, h1⟩ := a.fix x o h e; b.fix x o h1 e1, fun x h e => by
  obtain ⟨e1, h1, n1⟩ := a.prv x h e
  obtain ⟨e2, h2, n2⟩ := b.prv x h1 n1
  exact ⟨e2.trans e1, h2, n2⟩, fun x h => b.mst x (a.mst x h)⟩
theorem Rep.imp {H H' : Hp} {O O' : Own} (k : ∀ a o, ¬ O a -> H a = some o -> H' a = some o /\ ¬ O' a) {v : V} {d : Dat} (r : Rep H O v d) : Rep H' O' v d := by
 induction r with
 | non => exact .non
 | bl => exact .bl
 | int => exact .int
 | str => exact .str
 | ty => exact .ty
 | lst h e l _ ih => exact .lst (k _ _ h e).2 (k _ _ h e).1 l ih
 | tup h e l _ ih => exact .tup (k _ _ h e).2 (k _ _ h e).1 l ih
 | rng h e => exact .rng (k _ _ h e).2 (k _ _ h e).1
 | scr h e =>
  rcases e with e | ⟨o, e⟩
  ·exact .scr (k _ _ h e).2 (.inl (k _ _ h e).1)
  ·exact .scr (k _ _ h e).2 (.inr ⟨o, (k _ _ h e).1⟩)
 | scrK h => exact .scrK h
theorem KY {H : Hp} {O : Own} {K : PySem.W.Frag} {v : V} {l : List Int} (r : Rep H O v (.scr K l)) : ∃ a, v = .ref a /\ SqL K H a (l.map V.int) := by
 cases r with
 | @scr a _ _ _ h => exact ⟨a, rfl, .inl h⟩
 | @scrK a _ _ h =>
  rcases h with (h | ⟨o, h⟩) | h
  ·cases h
  ·cases h
  ·exact ⟨a, rfl, .inr h⟩
theorem Dj {H : Hp} {O : Own} {K : PySem.W.Frag} {a : Addr} {l : List Int} (ho : ∀ a, ¬ O a) (h : SqL K H a (l.map V.int)) : Rep H O (.ref a) (.scr K l) := by
 rcases h with h | h
 ·exact .scr (ho a) h
 ·exact .scrK (.inr h)
theorem Rep.ext {H H' : Hp} {O O' : Own} {M M' : MH} (k : Ext H O M H' O' M') {v : V} {d : Dat} (r : Rep H O v d) : Rep H' O' v d := r.imp k.fix
theorem zz.ext {H H' : Hp} {O O' : Own} {M M' : MH} (k : Ext H O M H' O' M') {v : V} {x : AV} (r : zz H O M v x) : zz H' O' M' v x := by
 cases x with
 | d x => exact Rep.ext k r
 | ref a => exact ⟨r.1, k.mst a r.2⟩
theorem zg.ext {H H' : Hp} {O O' : Own} {M M' : MH} (k : Ext H O M H' O' M') {xs : List V} {l : List AV} (r : zg H O M xs l) : zg H' O' M' xs l := ⟨r.1, fun i x d e1 e2 => (r.2 i x d e1 e2).ext k⟩
theorem Qa.ext {κ : Type} {H H' : Hp} {O O' : Own} {M M' : MH} (k : Ext H O M H' O' M') {xs : List (κ × V)} {l : List (κ × AV)} (r : Qa H O M xs l) : Qa H' O' M' xs l := ⟨r.1, r.2.ext k⟩
theorem zg.nil {H : Hp} {O : Own} {M : MH} : zg H O M [] [] := ⟨rfl, fun i x d e => by simp at e⟩
theorem zg.cons {H : Hp} {O : Own} {M : MH} {x : V} {d : AV} {xs : List V} {l : List AV} (h : zz H O M x d) (r : zg H O M xs l) : zg H O M (x :: xs) (d :: l) :=
 ⟨by simp [r.1], fun i y e h1 h2 => by
  cases i with
  | zero => simp at h1 h2; subst h1 h2; exact h
  | succ i => simp at h1 h2; exact r.2 i y e h1 h2⟩
theorem zg.head {H : Hp} {O : Own} {M : MH} {x : V} {d : AV} {xs : List V} {l : List AV} (r : zg H O M (x :: xs) (d :: l)) : zz H O M x d /\ zg H O M xs l :=
 ⟨r.2 0 x d rfl rfl, by have := r.1; simpa using this, fun i y e h1 h2 => r.2 (i + 1) y e (by simpa using h1) (by simpa using h2)⟩
theorem zg.nil_inv {H : Hp} {O : Own} {M : MH} {xs : List V} (r : zg H O M xs []) : xs = [] := List.length_eq_zero_iff.mp r.1
theorem zg.cons_inv {H : Hp} {O : Own} {M : MH} {xs : List V} {d : AV} {l : List AV} (r : zg H O M xs (d :: l)) : ∃ x r', xs = x :: r' /\ zz H O M x d /\ zg H O M r' l := by
 cases xs with
 | nil => have := r.1; simp at this
 | cons x r' => exact ⟨x, r', rfl, r.head⟩
theorem zg.append {H : Hp} {O : Own} {M : MH} {xs ys : List V} {l m : List AV} (a : zg H O M xs l) (b : zg H O M ys m) : zg H O M (xs ++ ys) (l ++ m) :=
 ⟨by rw [List.length_append, List.length_append, a.1, b.1], fun i x d h1 h2 => by
  by_cases c : i < xs.length
  ·rw [List.getElem?_append_left c] at h1
   rw [List.getElem?_append_left (by rw [<- a.1]; exact c)] at h2
   exact a.2 i x d h1 h2
  ·rw [List.getElem?_append_right (by omega)] at h1
   rw [List.getElem?_append_right (by rw [<- a.1]; omega), <- a.1] at h2
   exact b.2 _ x d h1 h2⟩
theorem zg.snoc {H : Hp} {O : Own} {M : MH} {xs : List V} {l : List AV} {x : V} {d : AV} (a : zg H O M xs l) (b : zz H O M x d) : zg H O M (xs ++ [x]) (l ++ [d]) := a.append (.cons b .nil)
theorem zg.set {H : Hp} {O : Own} {M : MH} {xs : List V} {l : List AV} {x : V} {d : AV} (a : zg H O M xs l) (b : zz H O M x d) (j : Nat) : zg H O M (xs.set j x) (l.set j d) :=
 ⟨by rw [List.length_set, List.length_set, a.1], fun i y e h1 h2 => by
  rw [List.getElem?_set] at h1 h2
  by_cases c : j = i
  ·rw [if_pos c] at h1 h2
   split at h1
   ·split at h2
    ·cases h1; cases h2; exact b
    ·cases h2
   ·cases h1
  ·rw [if_neg c] at h1 h2
   exact a.2 i y e h1 h2⟩
theorem zg.get {H : Hp} {O : Own} {M : MH} {xs : List V} {l : List AV} (a : zg H O M xs l) {i : Nat} {d : AV} (h : l[i]? = some d) : ∃ x, xs[i]? = some x /\ zz H O M x d := by
 have hi := (List.getElem?_eq_some_iff.mp h).1
 have hx : i < xs.length := by rw [a.1]; exact hi
 exact ⟨xs[i], by simp [hx], a.2 i _ _ (by simp [hx]) h⟩
theorem zg.get' {H : Hp} {O : Own} {M : MH} {xs : List V} {l : List AV} (a : zg H O M xs l) {i : Nat} {x : V} (h : xs[i]? = some x) : ∃ d, l[i]? = some d /\ zz H O M x d := by
 have hi := (List.getElem?_eq_some_iff.mp h).1
 have hx : i < l.length := by rw [<- a.1]; exact hi
 exact ⟨l[i], by simp [hx], a.2 i _ _ h (by simp [hx])⟩
theorem zg.drop {H : Hp} {O : Own} {M : MH} {xs : List V} {l : List AV} (a : zg H O M xs l) (k : Nat) : zg H O M (xs.drop k) (l.drop k) :=
 ⟨by rw [List.length_drop, List.length_drop, a.1], fun i x d h1 h2 => by rw [List.getElem?_drop] at h1 h2; exact a.2 _ x d h1 h2⟩
theorem zg.take {H : Hp} {O : Own} {M : MH} {xs : List V} {l : List AV} (a : zg H O M xs l) (k : Nat) : zg H O M (xs.take k) (l.take k) :=
 ⟨by rw [List.length_take, List.length_take, a.1], fun i x d h1 h2 => by
  rw [List.getElem?_take] at h1 h2
  by_cases c : i < k
  ·rw [if_pos c] at h1 h2
   exact a.2 _ x d h1 h2
  ·rw [if_neg c] at h1
   cases h1⟩
theorem XH.av {H : Hp} {O : Own} {M : MH} {xs : List V} {l : List Dat} (r : XH H O xs l) : zg H O M xs (l.map .d) :=
 ⟨by rw [List.length_map]; exact r.1, fun i x d h1 h2 => by
  rw [List.getElem?_map] at h2
  cases e : l[i]? with
  | none => rw [e] at h2; cases h2
  | some y => rw [e] at h2; cases h2; exact r.2 i x y h1 e⟩
theorem zg.pure {H : Hp} {O : Own} {M : MH} {xs : List V} {l : List Dat} (r : zg H O M xs (l.map .d)) : XH H O xs l :=
 ⟨by have := r.1; rwa [List.length_map] at this, fun i x d h1 h2 => r.2 i x (.d d) h1 (by rw [List.getElem?_map, h2]; rfl)⟩
theorem Wf.fresh {H : Hp} {O : Own} {M : MH} (w : Wf H O M) {p : Addr} (h : H p = none) : ¬ O p /\ M p = none := by
 have : ¬ O p := fun z => w.ne p z h
 exact ⟨this, by
  cases e : M p with
  | none => rfl
  | some o => exact absurd (w.own p (by rw [e]; exact fun z => nomatch z)) this⟩
theorem jl.ext {H H' : Hp} {O O' : Own} {M M' : MH} (k : Ext H O M H' O' M') {a : Addr} {o : MO} (e : H' a = H a) (r : jl H O M a o) : jl H' O' M' a o := by
 cases o with
 | lst l => obtain ⟨xs, h, r⟩ := r; exact ⟨xs, e.trans h, r.ext k⟩
 | dK l => obtain ⟨xs, h, r⟩ := r; exact ⟨xs, e.trans h, r.ext k⟩
 | ins C fs => obtain ⟨dx, xs, h, r, q1, q2, q3⟩ := r; obtain ⟨x1, x2, x3⟩ := k.prv dx q1 q2; exact ⟨dx, xs, e.trans h, r.ext k, x2, x3, x1.trans q3⟩
theorem jn {H : Hp} {O : Own} {M : MH} (w : Wf H O M) {p : Addr} (h : H p = none) (o : HO) : Ext H O M (upd H p o) O M :=
 ⟨fun a u ha e => ⟨by rw [zj (zm e h)]; exact e, ha⟩, fun a ha e => ⟨zj (fun z => w.ne a ha (by rw [z]; exact h)), ha, e⟩, fun _ h => h⟩
theorem ZX {H : Hp} {O : Own} {M : MH} (w : Wf H O M) {p : Addr} (h : H p = none) (o : HO) : Wf (upd H p o) O M :=
 ⟨fun a mo e => jl.ext (jn w h o) (zj (fun z => by rw [z, (w.fresh h).2] at e; cases e)) (w.mo a mo e), w.own, fun a ha => by
  have : a ≠ p := fun z => w.ne a ha (by rw [z]; exact h)
  rw [zj this]; exact w.al a ha⟩
noncomputable def Yi (O : Own) (p : Addr) : Own := fun a => a = p \/ O a
noncomputable def BE (O : Own) (p : Addr) : Own := fun a => a ≠ p /\ O a
theorem ye {H : Hp} {O : Own} {M : MH} (w : Wf H O M) {p : Addr} (h : M p ≠ none) (o : HO) (mo : MO) : Ext H O M (upd H p o) O (mup M p mo) :=
 ⟨fun a u ha e => ⟨by rw [zj (fun z => ha (by rw [z]; exact w.own p h))]; exact e, ha⟩, fun a ha e => by
  have hne : a ≠ p := fun z => h (by rw [<- z]; exact e)
  exact ⟨zj hne, ha, by rw [qh hne]; exact e⟩, fun a ha => by
  by_cases e : a = p
  ·rw [e, zt]; exact fun z => nomatch z
  ·rw [qh e]; exact ha⟩
theorem Vh {H : Hp} {O : Own} {M : MH} (w : Wf H O M) {p : Addr} (h : M p ≠ none) {o : HO} {mo : MO} (ho : ∀ xs, o ≠ .tup xs) (r : jl (upd H p o) O (mup M p mo) p mo) : Wf (upd H p o) O (mup M p mo) := by
 refine ⟨fun a u e => ?_, fun a ha => ?_, fun a ha => ?_⟩
 ·by_cases c : a = p
  ·subst c; rw [zt] at e; cases e; exact r
  ·rw [qh c] at e
   exact jl.ext (ye w h o mo) (zj c) (w.mo a u e)
 ·by_cases c : a = p
  ·subst c; exact w.own a h
  ·rw [qh c] at ha; exact w.own a ha
 ·by_cases c : a = p
  ·rw [c, zh]; exact ⟨o, rfl, ho⟩
  ·rw [zj c]; exact w.al a ha
theorem qI {H : Hp} {O : Own} {M : MH} (w : Wf H O M) {p : Addr} (h : H p = none) (o : HO) : Ext H O M (upd H p o) (Yi O p) M :=
 ⟨fun a u ha e => ⟨by rw [zj (zm e h)]; exact e, fun z => z.elim (zm e h) ha⟩, fun a ha e => by
  have hne : a ≠ p := fun z => w.ne a ha (by rw [z]; exact h)
  exact ⟨zj hne, .inr ha, e⟩, fun _ h => h⟩
theorem yo {H : Hp} {O : Own} {M : MH} (w : Wf H O M) {p : Addr} (h : H p = none) (o : HO) (ho : ∀ xs, o ≠ .tup xs) : Wf (upd H p o) (Yi O p) M :=
 ⟨fun a mo e => jl.ext (qI w h o) (zj (fun z => by rw [z, (w.fresh h).2] at e; cases e)) (w.mo a mo e), fun a ha => .inr (w.own a ha), fun a ha => by
  by_cases c : a = p
  ·rw [c, zh]; exact ⟨o, rfl, ho⟩
  ·rw [zj c]; exact w.al a (ha.resolve_left c)⟩
theorem yY {H : Hp} {O : Own} {p : Addr} (hO : O p) (o : HO) : ∀ a u, ¬ O a -> H a = some u -> upd H p o a = some u /\ ¬ O a := fun a u ha e => ⟨by rw [zj (fun z => ha (by rw [z]; exact hO))]; exact e, ha⟩
theorem zz.imp {H H' : Hp} {O O' : Own} {M M' : MH} (k : ∀ a o, ¬ O a -> H a = some o -> H' a = some o /\ ¬ O' a) (hm : ∀ a, M a ≠ none -> M' a ≠ none) {v : V} {x : AV} (r : zz H O M v x) : zz H' O' M' v x := by
 cases x with
 | d x => exact Rep.imp k r
 | ref a => exact ⟨r.1, hm a r.2⟩
theorem zg.imp {H H' : Hp} {O O' : Own} {M M' : MH} (k : ∀ a o, ¬ O a -> H a = some o -> H' a = some o /\ ¬ O' a) (hm : ∀ a, M a ≠ none -> M' a ≠ none) {xs : List V} {l : List AV} (r : zg H O M xs l) : zg H' O' M' xs l := ⟨r.1, fun i x d e1 e2 => (r.2 i x d e1 e2).imp k hm⟩
theorem jl.imp {H H' : Hp} {O O' : Own} {M : MH} (k : ∀ a o, ¬ O a -> H a = some o -> H' a = some o /\ ¬ O' a) {a : Addr} {o : MO} (e : H' a = H a) (hd : ∀ dx x, O dx -> M dx = none -> H dx = some (.own x) -> H' dx = some (.own x) /\ O' dx) (r : jl H O M a o) : jl H' O' M a o := by
 cases o with
 | lst l => obtain ⟨xs, h, r⟩ := r; exact ⟨xs, e.trans h, r.imp k fun _ z => z⟩
 | dK l => obtain ⟨xs, h, r⟩ := r; exact ⟨xs, e.trans h, r.1, r.2.imp k fun _ z => z⟩
 | ins C fs => obtain ⟨dx, xs, h, r, q1, q2, q3⟩ := r; exact ⟨dx, xs, e.trans h, ⟨r.1, r.2.imp k fun _ z => z⟩, (hd dx a q1 q2 q3).2, q2, (hd dx a q1 q2 q3).1⟩
theorem JX {H : Hp} {O : Own} {M : MH} (w : Wf H O M) {p : Addr} (hO : O p) (hM : M p = none) {xs : List V} (hp : H p = some (.lst xs)) (o : HO) (ho : ∀ xs, o ≠ .tup xs) : Wf (upd H p o) O M :=
 ⟨fun a mo e => jl.imp (yY hO o) (zj (fun z => by rw [z, hM] at e; cases e)) (fun dx x h1 _ h3 => ⟨by rw [zj (VX h3 hp (fun z => nomatch z))]; exact h3, h1⟩) (w.mo a mo e), w.own, fun a ha => by
  by_cases c : a = p
  ·rw [c, zh]; exact ⟨o, rfl, ho⟩
  ·rw [zj c]; exact w.al a ha⟩
theorem yh {H : Hp} {O : Own} (p : Addr) : ∀ a u, ¬ O a -> H a = some u -> H a = some u /\ ¬ BE O p a := fun a u ha e => ⟨e, fun z => ha z.2⟩
theorem VT {H : Hp} {O : Own} {M : MH} (w : Wf H O M) {p : Addr} (hM : M p = none) {xs : List V} (hp : H p = some (.lst xs)) : Wf H (BE O p) M :=
 ⟨fun a mo e => jl.imp (yh p) rfl (fun dx x h1 _ h3 => ⟨h3, ⟨VX h3 hp (fun z => nomatch z), h1⟩⟩) (w.mo a mo e), fun a ha => ⟨fun z => ha (by rw [z]; exact hM), w.own a ha⟩, fun a ha => w.al a ha.2⟩
end L2
set_option Elab.async false
set_option linter.all false
set_option maxRecDepth 100000
set_option maxHeartbeats 4000000
namespace L2
open PySem PySem.Spec PyProof.Rows
noncomputable abbrev AK := AV -> MH -> Prop
noncomputable abbrev AE := ASt -> MH -> AK -> Prop
noncomputable abbrev AT := ASt -> MH -> (Bool -> MH -> Prop) -> Prop
noncomputable abbrev AA := ASt -> MH -> (List AV -> MH -> Prop) -> Prop
structure yN where
 nx : ASt -> MH -> Prop
 rt : AK
 bk : ASt -> MH -> Prop := fun _ _ => False
 ct : ASt -> MH -> Prop := fun _ _ => False
noncomputable abbrev AS := MH -> yN -> ASt -> MH -> Prop
noncomputable abbrev AG := AV -> ASt -> MH -> (ASt -> MH -> Prop) -> Prop
noncomputable abbrev AGs := List AV -> ASt -> MH -> (ASt -> MH -> Prop) -> Prop
noncomputable abbrev AI := ASt -> MH -> (List AV -> (MH -> Prop) -> MH -> Prop) -> Prop
structure Er (H : Hp) (O : Own) (M : MH) (σ : St) (ρ : ASt) : Prop where
 len : σ.length = ρ.length
 get : ∀ (i : Nat) x, ρ[i]? = some (some x) -> ∃ v, σ[i]? = some (some v) /\ zz H O M v x
theorem Er.ext {H H' : Hp} {O O' : Own} {M M' : MH} {σ : St} {ρ : ASt} (e : Er H O M σ ρ) (k : Ext H O M H' O' M') : Er H' O' M' σ ρ := ⟨e.len, fun i x h => let ⟨v, h1, h2⟩ := e.get i x h; ⟨v, h1, h2.ext k⟩⟩
theorem Er.set {H : Hp} {O : Own} {M : MH} {σ : St} {ρ : ASt} (e : Er H O M σ ρ) {v : V} {x : AV} (r : zz H O M v x) (j : Nat) : Er H O M (σ.set j (some v)) (ρ.set j (some x)) :=
 ⟨by rw [List.length_set, List.length_set, e.len], fun i y h => by
  rw [List.getElem?_set] at h ⊢
  by_cases c : j = i
  ·rw [if_pos c] at h ⊢
   by_cases c2 : j < ρ.length
   ·rw [if_pos c2] at h; rw [if_pos (by rw [e.len]; exact c2)]; cases h; exact ⟨v, rfl, r⟩
   ·rw [if_neg c2] at h; cases h
  ·rw [if_neg c] at h ⊢; exact e.get i y h⟩
noncomputable def BO : List Nat -> ASt -> ASt
 | [], σ => σ
 | j :: r, σ => BO r (σ.set j none)
theorem Er.clr {H : Hp} {O : Own} {M : MH} : ∀ (ts : List Nat) {σ : St} {ρ : ASt}, Er H O M σ ρ -> Er H O M (clr ts σ) (BO ts ρ)
  | [], _, _, e => e
  | j :: r, σ, ρ, e => Er.clr r ⟨by rw [List.length_set, List.length_set, e.len], fun i y h => by
      rw [List.getElem?_set] at h ⊢
      by_cases c : j = i
      · rw [if_pos c] at h
        split at h <;> cases h
      · rw [if_neg c] at h ⊢; exact e.get i y h⟩
structure zR (t : TE) (a : AE) : Prop where
 go : ∀ {σ : St} {H : Hp} {O : Own} {ρ : ASt} {M : MH} {Q : VK} {Q' : AK}, Wf H O M -> Er H O M σ ρ -> a ρ M Q' -> (∀ x M' v H' O', Q' x M' -> Ext H O M H' O' M' -> Wf H' O' M' -> zz H' O' M' v x -> Q v H') -> t σ H Q
structure kD (t : TT) (a : AT) : Prop where
 go : ∀ {σ : St} {H : Hp} {O : Own} {ρ : ASt} {M : MH} {Q : Bool -> Hp -> Prop} {Q' : Bool -> MH -> Prop}, Wf H O M -> Er H O M σ ρ -> a ρ M Q' -> (∀ b M' H' O', Q' b M' -> Ext H O M H' O' M' -> Wf H' O' M' -> Q b H') -> t σ H Q
structure kF (t : TA) (a : AA) : Prop where
 go : ∀ {σ : St} {H : Hp} {O : Own} {ρ : ASt} {M : MH} {Q : List V -> Hp -> Prop} {Q' : List AV -> MH -> Prop}, Wf H O M -> Er H O M σ ρ -> a ρ M Q' -> (∀ x M' v H' O', Q' x M' -> Ext H O M H' O' M' -> Wf H' O' M' -> zg H' O' M' v x -> Q v H') -> t σ H Q
structure wy (t : TE) (a : ASt -> MH -> (List AV -> MH -> Prop) -> Prop) : Prop where
 go : ∀ {σ : St} {H : Hp} {O : Own} {ρ : ASt} {M : MH} {Q : VK} {Q' : List AV -> MH -> Prop}, Wf H O M -> Er H O M σ ρ -> a ρ M Q' ->
  (∀ l M' p xs H' O', Q' l M' -> Ext H O M H' O' M' -> Wf H' O' M' -> O' p -> M' p = none -> H p = none -> H' p = some (.lst xs) -> zg H' O' M' xs l -> Q (.ref p) H') -> t σ H Q
noncomputable abbrev AR2 := AV -> AV -> MH -> AK -> Prop
structure Zr (r : R2) (a : AR2) : Prop where
 go : ∀ {x y : V} {dx dy : AV} {H : Hp} {O : Own} {M : MH} {Q : VK} {Q' : AK}, Wf H O M -> zz H O M x dx -> zz H O M y dy -> a dx dy M Q' -> (∀ x M' v H' O', Q' x M' -> Ext H O M H' O' M' -> Wf H' O' M' -> zz H' O' M' v x -> Q v H') -> r x y H Q
structure GU (r : V -> Hp -> VK -> Prop) (a : AV -> MH -> AK -> Prop) : Prop where
 go : ∀ {x : V} {dx : AV} {H : Hp} {O : Own} {M : MH} {Q : VK} {Q' : AK}, Wf H O M -> zz H O M x dx -> a dx M Q' -> (∀ x M' v H' O', Q' x M' -> Ext H O M H' O' M' -> Wf H' O' M' -> zz H' O' M' v x -> Q v H') -> r x H Q
structure QG (r : List V -> Hp -> VK -> Prop) (a : List AV -> MH -> AK -> Prop) : Prop where
 go : ∀ {vs : List V} {xs : List AV} {H : Hp} {O : Own} {M : MH} {Q : VK} {Q' : AK}, Wf H O M -> zg H O M vs xs -> a xs M Q' -> (∀ x M' v H' O', Q' x M' -> Ext H O M H' O' M' -> Wf H' O' M' -> zz H' O' M' v x -> Q v H') -> r vs H Q
noncomputable def Qq (i : Nat) : AE := fun ρ M Q => ∃ x, ρ[i]? = some (some x) /\ Q x M
noncomputable def aC (d : Dat) : AE := fun _ M Q => Q (.d d) M
theorem Du {i : Nat} : zR (YR i) (Qq i) := ⟨fun w e ⟨x, h, q⟩ k => let ⟨v, h1, h2⟩ := e.get i x h; ⟨v, h1, k _ _ _ _ _ q .refl w h2⟩⟩
theorem GF {i : Int} : zR (tC (.int i)) (aC (.int i)) := ⟨fun w _ q k => k _ _ _ _ _ q .refl w .int⟩
theorem EW {i : Bool} : zR (tC (.bl i)) (aC (.bl i)) := ⟨fun w _ q k => k _ _ _ _ _ q .refl w .bl⟩
theorem F6 : zR (tC .non) (aC .non) := ⟨fun w _ q k => k _ _ _ _ _ q .refl w .non⟩
theorem F9 {i : Str} : zR (tC (.str i)) (aC (.str i)) := ⟨fun w _ q k => k _ _ _ _ _ q .refl w .str⟩
theorem GG {i : String} : zR (tC (.ty i)) (aC (.ty i)) := ⟨fun w _ q k => k _ _ _ _ _ q .refl w .ty⟩
noncomputable def aOp (r : AR2) (a b : AE) : AE := fun ρ M Q => a ρ M fun x M1 => b ρ M1 fun y M2 => r x y M2 Q
theorem Gf {r : R2} {ra : AR2} {t u : TE} {a b : AE} (hr : Zr r ra) (h1 : zR t a) (h2 : zR u b) : zR (tOp r t u) (aOp ra a b) :=
 ⟨fun w e q k => h1.go w e q fun x M1 v H1 O1 q1 k1 w1 r1 => h2.go w1 (e.ext k1) q1 fun y M2 u H2 O2 q2 k2 w2 r2 => hr.go w2 (r1.ext k2) r2 q2 fun z M3 v3 H3 O3 q3 k3 w3 r3 => k z M3 v3 H3 O3 q3 ((k1.trans k2).trans k3) w3 r3⟩
noncomputable def aUn (r : AV -> MH -> AK -> Prop) (a : AE) : AE := fun ρ M Q => a ρ M fun x M1 => r x M1 Q
theorem GI {r : V -> Hp -> VK -> Prop} {ra : AV -> MH -> AK -> Prop} {t : TE} {a : AE} (hr : GU r ra) (h1 : zR t a) : zR (tUn r t) (aUn ra a) :=
 ⟨fun w e q k => h1.go w e q fun x M1 v H1 O1 q1 k1 w1 r1 => hr.go w1 r1 q1 fun z M3 v3 H3 O3 q3 k3 w3 r3 => k z M3 v3 H3 O3 q3 (k1.trans k3) w3 r3⟩
noncomputable def A9 : AA := fun _ M Q => Q [] M
noncomputable def QJ (a : AE) (b : AA) : AA := fun ρ M Q => a ρ M fun x M1 => b ρ M1 fun xs M2 => Q (x :: xs) M2
theorem A2 : kF Aq A9 := ⟨fun w _ q k => k _ _ _ _ _ q .refl w .nil⟩
theorem YX {t : TE} {u : TA} {a : AE} {b : AA} (h1 : zR t a) (h2 : kF u b) : kF (Ws t u) (QJ a b) :=
 ⟨fun w e q k => h1.go w e q fun x M1 v H1 O1 q1 k1 w1 r1 => h2.go w1 (e.ext k1) q1 fun y M2 u H2 O2 q2 k2 w2 r2 => k _ _ _ _ _ q2 (k1.trans k2) w2 (.cons (r1.ext k2) r2)⟩
theorem ZU {H : Hp} {O : Own} {M : MH} (is : List Int) : zg H O M (is.map V.int) (is.map fun i => .d (.int i)) := by
 induction is with
 | nil => exact .nil
 | cons i r ih => exact .cons .int ih
noncomputable def aCB (r : List AV -> MH -> AK -> Prop) (b : AA) : AE := fun ρ M Q => b ρ M fun xs M1 => r xs M1 Q
theorem Fn {r : List V -> Hp -> VK -> Prop} {ra : List AV -> MH -> AK -> Prop} {u : TA} {b : AA} (hr : QG r ra) (h2 : kF u b) : zR (tCB r u) (aCB ra b) :=
 ⟨fun w e q k => h2.go w e q fun x M1 v H1 O1 q1 k1 w1 r1 => hr.go w1 r1 q1 fun z M3 v3 H3 O3 q3 k3 w3 r3 => k z M3 v3 H3 O3 q3 (k1.trans k3) w3 r3⟩
noncomputable abbrev ASp := List AV -> MH -> AK -> Prop
noncomputable def cSp (a : ASp) : Sp := fun vs H Q _ => ∃ xs M O Q', Wf H O M /\ zg H O M vs xs /\ a xs M Q' /\ ∀ x M' v H' O', Q' x M' -> Ext H O M H' O' M' -> Wf H' O' M' -> zz H' O' M' v x -> Q v H'
noncomputable def Vq (sp : ASp) (b : AA) : AE := fun ρ M Q => b ρ M fun xs M1 => sp xs M1 Q
theorem W3 {sp : ASp} {u : TA} {b : AA} (h : kF u b) : zR (K8 (cSp sp) [] E0 u) (Vq sp b) :=
 ⟨fun w e q k => h.go w e q fun x M1 v H1 O1 q1 k1 w1 r1 => ⟨x, M1, O1, _, w1, by rw [List.append_nil]; exact r1, q1, fun z M3 v3 H3 O3 q3 k3 w3 r3 => k z M3 v3 H3 O3 q3 (k1.trans k3) w3 r3⟩⟩
noncomputable def pur : List AV -> Option (List Dat)
 | [] => some []
 | .d x :: r => match pur r with | some l => some (x :: l) | none => none
 | .ref _ :: _ => none
theorem B2 : pur [] = some [] := rfl
theorem WL {x : Dat} {r : List AV} {l : List Dat} (h : pur r = some l) : pur (.d x :: r) = some (x :: l) := by unfold pur; rw [h]
theorem qg (l : List Dat) : pur (l.map .d) = some l := by
 induction l with
 | nil => rfl
 | cons x r ih => exact WL ih
theorem j8 : ∀ {xs : List AV} {l : List Dat}, pur xs = some l -> xs = l.map .d
 | [], l, h => by cases h; rfl
 | .d x :: r, l, h => by
  unfold pur at h
  cases e : pur r with
  | none => rw [e] at h; cases h
  | some m => rw [e] at h; cases h; rw [j8 e]; rfl
 | .ref _ :: _, _, h => by cases h
theorem Ext.shown {H H' : Hp} {O O' : Own} {M M' : MH} {p : Addr} (w : Wf H O M) (k : Ext H O M H' O' M') (h : H p = none) : Ext H O M H' (BE O' p) M' :=
 ⟨fun a o ha e => ⟨(k.fix a o ha e).1, fun z => (k.fix a o ha e).2 z.2⟩, fun a ha e => ⟨(k.prv a ha e).1, ⟨fun z => w.ne a ha (by rw [z]; exact h), (k.prv a ha e).2.1⟩, (k.prv a ha e).2.2⟩, k.mst⟩
theorem Ext.owned {H H' : Hp} {O O' : Own} {M M' : MH} {p : Addr} (w : Wf H O M) (k : Ext H O M H' O' M') (h : H p = none) (mo : MO) : Ext H O M H' O' (mup M' p mo) :=
 ⟨k.fix, fun a ha e => ⟨(k.prv a ha e).1, (k.prv a ha e).2.1, by rw [qh (fun z => w.ne a ha (by rw [z]; exact h))]; exact (k.prv a ha e).2.2⟩, fun a ha => by
  by_cases e : a = p
  ·rw [e, zt]; exact fun z => nomatch z
  ·rw [qh e]; exact k.mst a ha⟩
theorem QI {H : Hp} {O : Own} {M : MH} {p : Addr} (w : Wf H O M) (hO : O p) (hM : M p = none) {xs : List V} {l : List AV} (hp : H p = some (.lst xs)) (r : zg H O M xs l) : Wf H O (mup M p (.lst l)) := by
 have km : ∀ a, M a ≠ none -> mup M p (.lst l) a ≠ none := fun a ha => by
  by_cases e : a = p
  ·rw [e, zt]; exact fun z => nomatch z
  ·rw [qh e]; exact ha
 refine ⟨fun a u e => ?_, fun a ha => ?_, w.al⟩
 ·by_cases c : a = p
  ·subst c; rw [zt] at e; cases e; exact ⟨xs, hp, r.imp (fun _ _ z h => ⟨h, z⟩) km⟩
  ·rw [qh c] at e
   have := w.mo a u e
   cases u with
   | lst m => obtain ⟨ys, h1, h2⟩ := this; exact ⟨ys, h1, h2.imp (fun _ _ z h => ⟨h, z⟩) km⟩
   | dK m => obtain ⟨ys, h1, h2⟩ := this; exact ⟨ys, h1, h2.1, h2.2.imp (fun _ _ z h => ⟨h, z⟩) km⟩
   | ins C fs =>
    obtain ⟨dx, ys, h1, h2, h3, h4, h5⟩ := this
    exact ⟨dx, ys, h1, ⟨h2.1, h2.2.imp (fun _ _ z h => ⟨h, z⟩) km⟩, h3, by rw [qh (VX h5 hp (fun z => nomatch z))]; exact h4, h5⟩
 ·by_cases c : a = p
  ·rw [c]; exact hO
  ·rw [qh c] at ha; exact w.own a ha
noncomputable abbrev AF := ASt -> MH -> (List AV -> MH -> Prop) -> Prop
noncomputable def aFz (a : AF) : AE := fun ρ M Q => a ρ M fun l M' => ∃ ds, pur l = some ds /\ Q (.d (.lst ds)) M'
noncomputable def aOw (a : AF) : AE := fun ρ M Q => a ρ M fun l M' => ∀ p, M p = none -> M' p = none -> Q (.ref p) (mup M' p (.lst l))
noncomputable def GN (t : TE) : TE := t
theorem ym {X : Cx} {e : Expr} {t : TE} (h : PE X e t) : PE X e (GN t) := h
theorem xT {t : TE} {a : AF} (h : wy t a) : zR t (aFz a) :=
 ⟨fun w e q k => h.go w e q fun l M' p xs H' O' q1 k1 w1 o1 m1 hp hx r1 => by
  obtain ⟨ds, e1, q2⟩ := q1
  rw [j8 e1] at r1
  have r2 := r1.pure
  exact k _ _ _ _ _ q2 (k1.shown w hp) (VT w1 m1 hx) (Rep.lst (fun z => z.1 rfl) hx r2.1 fun i x d e1 e2 => (r2.2 i x d e1 e2).imp (yh p))⟩
theorem Dc {t : TE} {a : AF} (h : wy t a) : zR (GN t) (aOw a) :=
 ⟨fun w e q k => h.go w e q fun l M' p xs H' O' q1 k1 w1 o1 m1 hp hx r1 => k _ _ _ _ _ (q1 p (w.fresh hp).2 m1) (k1.owned w hp _) (QI w1 o1 m1 hx r1) ⟨rfl, by rw [zt]; exact fun z => nomatch z⟩⟩
noncomputable def HB (b : AA) : AF := fun ρ M Q => b ρ M fun xs M1 => xs.length <= sizeLine /\ Q xs M1
theorem WA {u : TA} {b : AA} (h : kF u b) : wy (Eh u) (HB b) :=
 ⟨fun w e q k => h.go w e q fun x M1 v H1 O1 q1 k1 w1 r1 => ⟨by rw [r1.1]; exact q1.1, fun p hp =>
  k x M1 p v _ _ q1.2 (k1.trans (qI w1 hp _)) (yo w1 hp _ (fun _ z => nomatch z)) (.inl rfl) (w1.fresh hp).2 (by
   cases e0 : (_ : Hp) p with
   | none => exact e0
   | some o =>
    exfalso
    rename_i H0 O0 _ M0 _ _
    by_cases c : O0 p
    ·by_cases c2 : M0 p = none
     ·exact w1.ne p (k1.prv p c c2).2.1 hp
     ·exact w1.ne p (w1.own p (k1.mst p c2)) hp
    ·rw [(k1.fix p o c e0).1] at hp; cases hp) zh (r1.ext (qI w1 hp _))⟩⟩
noncomputable def Hw (b : AA) : AE := fun ρ M Q => b ρ M fun xs M1 => xs.length <= sizeLine /\ ∃ ds, pur xs = some ds /\ Q (.d (.tup ds)) M1
theorem BJ {u : TA} {b : AA} (h : kF u b) : zR (Ed u) (Hw b) :=
 ⟨fun w e q k => h.go w e q fun x M1 v H1 O1 q1 k1 w1 r1 => ⟨by rw [r1.1]; exact q1.1, fun p hp => by
  obtain ⟨_, ds, e1, q2⟩ := q1
  rw [j8 e1] at r1
  have r2 := r1.pure
  exact k _ _ _ _ _ q2 (k1.trans (jn w1 hp _)) (ZX w1 hp _) (Rep.tup (w1.fresh hp).1 zh r2.1 fun i x d e1 e2 => (r2.2 i x d e1 e2).ext (jn w1 hp _))⟩⟩
noncomputable def aB (a : AE) : AT := fun ρ M Q => a ρ M fun x M1 => ∃ b, x = .d (.bl b) /\ Q b M1
theorem yk {H : Hp} {O : Own} {v : V} {b : Bool} (r : Rep H O v (.bl b)) : v = .bl b := by cases r; rfl
theorem zJ {H : Hp} {O : Own} {v : V} {b : Int} (r : Rep H O v (.int b)) : v = .int b := by cases r; rfl
theorem Kx {H : Hp} {O : Own} {v : V} {b : Str} (r : Rep H O v (.str b)) : v = .str b := by cases r; rfl
theorem WM {H : Hp} {O : Own} {v : V} {b : String} (r : Rep H O v (.ty b)) : v = .ty b := by cases r; rfl
theorem Hv {t : TE} {a : AE} (h : zR t a) : kD (tB t) (aB a) := ⟨fun w e q k => h.go w e q fun x M1 v H1 O1 ⟨b, e1, q1⟩ k1 w1 r1 => by
 subst e1; exact ⟨b, yk r1, k _ _ _ _ q1 k1 w1⟩⟩
theorem Wq {t : TE} {a : AE} (h : zR t a) : kD (K4 t) (aB a) := ⟨fun w e q k => h.go w e q fun x M1 v H1 O1 ⟨b, e1, q1⟩ k1 w1 r1 => by
 subst e1; exact ⟨b, yk r1, k _ _ _ _ q1 k1 w1⟩⟩
noncomputable def wK : AT := fun _ M Q => Q true M
theorem Y9 : kD Ac wK := ⟨fun w _ q k => k _ _ _ _ q .refl w⟩
noncomputable def aOr (a b : AT) : AT := fun ρ M Q => a ρ M fun c M1 => if c = true then Q true M1 else b ρ M1 Q
noncomputable def Ez (a : AT) : AT := fun ρ M Q => a ρ M fun c M1 => Q (!c) M1
theorem Gb {t u : TT} {a b : AT} (h1 : kD t a) (h2 : kD u b) : kD (tOr t u) (aOr a b) := ⟨fun w e q k => h1.go w e q fun c M1 H1 O1 q1 k1 w1 => by
 cases c with
 | false => exact h2.go w1 (e.ext k1) q1 fun c M2 H2 O2 q2 k2 w2 => k _ _ _ _ q2 (k1.trans k2) w2
 | true => exact k _ _ _ _ q1 k1 w1⟩
theorem AW {t : TT} {a : AT} (h1 : kD t a) : kD (Gx t) (Ez a) := ⟨fun w e q k => h1.go w e q fun c M1 H1 O1 q1 k1 w1 => k _ _ _ _ q1 k1 w1⟩
noncomputable def D6 (a b : AE) : AE := fun ρ M Q => a ρ M fun x M1 => ∃ c, x = .d (.bl c) /\ if c = true then b ρ M1 Q else Q (.d (.bl false)) M1
noncomputable def Hk (a b : AE) : AE := fun ρ M Q => a ρ M fun x M1 => ∃ c, x = .d (.bl c) /\ if c = true then Q (.d (.bl true)) M1 else b ρ M1 Q
theorem Vu {t u : TE} {a b : AE} (h1 : zR t a) (h2 : zR u b) : zR (Wh t u) (D6 a b) := ⟨fun w e q k => h1.go w e q fun x M1 v H1 O1 ⟨c, e1, q1⟩ k1 w1 r1 => by
 subst e1
 refine ⟨c, yk r1, ?_⟩
 cases c with
 | true => exact h2.go w1 (e.ext k1) q1 fun c M2 v2 H2 O2 q2 k2 w2 r2 => k _ _ _ _ _ q2 (k1.trans k2) w2 r2
 | false => exact k _ _ _ _ _ q1 k1 w1 .bl⟩
theorem Bg {t u : TE} {a b : AE} (h1 : zR t a) (h2 : zR u b) : zR (FT t u) (Hk a b) := ⟨fun w e q k => h1.go w e q fun x M1 v H1 O1 ⟨c, e1, q1⟩ k1 w1 r1 => by
 subst e1
 refine ⟨c, yk r1, ?_⟩
 cases c with
 | false => exact h2.go w1 (e.ext k1) q1 fun c M2 v2 H2 O2 q2 k2 w2 r2 => k _ _ _ _ _ q2 (k1.trans k2) w2 r2
 | true => exact k _ _ _ _ _ q1 k1 w1 .bl⟩
noncomputable def aIf (c : AT) (a b : AE) : AE := fun ρ M Q => c ρ M fun c M1 => if c = true then a ρ M1 Q else b ρ M1 Q
theorem Em {c : TT} {t u : TE} {ac : AT} {a b : AE} (hc : kD c ac) (h1 : zR t a) (h2 : zR u b) : zR (tIf c t u) (aIf ac a b) := ⟨fun w e q k => hc.go w e q fun c M1 H1 O1 q1 k1 w1 => by
 cases c with
 | true => exact h1.go w1 (e.ext k1) q1 fun c M2 v2 H2 O2 q2 k2 w2 r2 => k _ _ _ _ _ q2 (k1.trans k2) w2 r2
 | false => exact h2.go w1 (e.ext k1) q1 fun c M2 v2 H2 O2 q2 k2 w2 r2 => k _ _ _ _ _ q2 (k1.trans k2) w2 r2⟩
noncomputable def Wg (r r' : AR2) (a b c : AE) : AE := fun ρ M Q => a ρ M fun x M1 => b ρ M1 fun y M2 => r x y M2 fun z M3 => ∃ k, z = .d (.bl k) /\ if k = true then c ρ M3 fun u M4 => r' y u M4 Q else Q (.d (.bl false)) M3
end L2
set_option Elab.async false
set_option linter.all false
set_option maxRecDepth 100000
set_option maxHeartbeats 4000000
namespace L2
open PySem PySem.Spec PyProof.Rows
theorem Yn {r r' : R2} {ar ar' : AR2} {t u v : TE} {a b c : AE} (hr : Zr r ar) (hr' : Zr r' ar') (h1 : zR t a) (h2 : zR u b) (h3 : zR v c) : zR (Km r r' t u v) (Wg ar ar' a b c) :=
 ⟨fun w e q k => h1.go w e q fun x M1 v H1 O1 q1 k1 w1 r1 => h2.go w1 (e.ext k1) q1 fun y M2 u H2 O2 q2 k2 w2 r2 => hr.go w2 (r1.ext k2) r2 q2 fun z M3 v3 H3 O3 ⟨c, e3, q3⟩ k3 w3 r3 => by
  subst e3
  refine ⟨c, yk r3, ?_⟩
  have k13 := (k1.trans k2).trans k3
  cases c with
  | false => exact k _ _ _ _ _ q3 k13 w3 .bl
  | true => exact h3.go w3 (e.ext k13) q3 fun z4 M4 v4 H4 O4 q4 k4 w4 r4 => hr'.go w4 ((r2.ext k3).ext k4) r4 q4 fun z5 M5 v5 H5 O5 q5 k5 w5 r5 => k _ _ _ _ _ q5 ((k13.trans k4).trans k5) w5 r5⟩
structure ED (H0 : Hp) (O0 : Own) (M0 : MH) (D : ke) (D' : yN) : Prop where
 nx : ∀ σ H O ρ M, Wf H O M -> Er H O M σ ρ -> Ext H0 O0 M0 H O M -> D'.nx ρ M -> D.nx σ H
 rt : ∀ v x H O M, Wf H O M -> Ext H0 O0 M0 H O M -> zz H O M v x -> D'.rt x M -> D.rt v H
 bk : ∀ σ H O ρ M, Wf H O M -> Er H O M σ ρ -> Ext H0 O0 M0 H O M -> D'.bk ρ M -> D.bk σ H
 ct : ∀ σ H O ρ M, Wf H O M -> Er H O M σ ρ -> Ext H0 O0 M0 H O M -> D'.ct ρ M -> D.ct σ H
theorem ED.tr {H0 H1 : Hp} {O0 O1 : Own} {M0 M1 : MH} {D : ke} {D' : yN} (E : ED H0 O0 M0 D D') (k : Ext H0 O0 M0 H1 O1 M1) : ED H1 O1 M1 D D' :=
 ⟨fun σ H O ρ M w e x q => E.nx σ H O ρ M w e (k.trans x) q, fun v y H O M w x r q => E.rt v y H O M w (k.trans x) r q, fun σ H O ρ M w e x q => E.bk σ H O ρ M w e (k.trans x) q, fun σ H O ρ M w e x q => E.ct σ H O ρ M w e (k.trans x) q⟩
structure jR (t : TS) (a : AS) : Prop where
 go : ∀ {H0 : Hp} {O0 : Own} {M0 : MH} {D : ke} {D' : yN} {σ : St} {H : Hp} {O : Own} {ρ : ASt} {M : MH}, Wf H0 O0 M0 -> Wf H O M -> Er H O M σ ρ -> Ext H0 O0 M0 H O M -> a M0 D' ρ M -> ED H0 O0 M0 D D' -> t D σ H
noncomputable def JU : AS := fun _ D ρ M => D.nx ρ M
theorem VQ : jR Ao JU := ⟨fun _ w e x q E => E.nx _ _ _ _ _ w e x q⟩
noncomputable def wv (a b : AS) : AS := fun B D ρ M => a B { D with nx := b B D } ρ M
theorem AR {t u : TS} {a b : AS} (h1 : jR t a) (h2 : jR u b) : jR (Wo t u) (wv a b) :=
 ⟨fun w0 w e x q E => h1.go w0 w e x q ⟨fun σ H O ρ M w e x q => h2.go w0 w e x q E, E.rt, E.bk, E.ct⟩⟩
noncomputable def DT (a : AE) : AS := fun _ D ρ M => a ρ M fun _ M1 => D.nx ρ M1
theorem Wt {t : TE} {a : AE} (h : zR t a) : jR (VI t) (DT a) := ⟨fun _ w e x q E => h.go w e q fun y M1 v H1 O1 q1 k1 w1 r1 => E.nx _ _ _ _ _ w1 (e.ext k1) (x.trans k1) q1⟩
noncomputable def El (a : AE) : AS := fun _ D ρ M => a ρ M D.rt
theorem Bp {t : TE} {a : AE} (h : zR t a) : jR (Fg t) (El a) := ⟨fun _ w e x q E => h.go w e q fun y M1 v H1 O1 q1 k1 w1 r1 => E.rt _ _ _ _ _ w1 (x.trans k1) r1 q1⟩
noncomputable def EL (c : AT) (a b : AS) : AS := fun B D ρ M => c ρ M fun k M1 => if k = true then a B D ρ M1 else b B D ρ M1
theorem BW {c : TT} {t u : TS} {ac : AT} {a b : AS} (hc : kD c ac) (h1 : jR t a) (h2 : jR u b) : jR (EI c t u) (EL ac a b) :=
 ⟨fun w0 w e x q E => hc.go w e q fun k M1 H1 O1 q1 k1 w1 => by
  cases k with
  | true => exact h1.go w0 w1 (e.ext k1) (x.trans k1) q1 E
  | false => exact h2.go w0 w1 (e.ext k1) (x.trans k1) q1 E⟩
noncomputable def Y6 : AS := fun _ _ _ _ => False
theorem YF : jR Jx Y6 := ⟨fun _ _ _ _ q _ => q.elim⟩
structure yS (g : TG) (a : AG) : Prop where
 go : ∀ {v : V} {x : AV} {σ : St} {H : Hp} {O : Own} {ρ : ASt} {M : MH} {Q : St -> Hp -> Prop} {Q' : ASt -> MH -> Prop}, Wf H O M -> Er H O M σ ρ -> zz H O M v x -> a x ρ M Q' ->
  (∀ σ' H' O' ρ' M', Q' ρ' M' -> Ext H O M H' O' M' -> Wf H' O' M' -> Er H' O' M' σ' ρ' -> Q σ' H') -> g v σ H Q
structure KQ (g : TGs) (a : AGs) : Prop where
 go : ∀ {v : List V} {x : List AV} {σ : St} {H : Hp} {O : Own} {ρ : ASt} {M : MH} {Q : St -> Hp -> Prop} {Q' : ASt -> MH -> Prop}, Wf H O M -> Er H O M σ ρ -> zg H O M v x -> a x ρ M Q' ->
  (∀ σ' H' O' ρ' M', Q' ρ' M' -> Ext H O M H' O' M' -> Wf H' O' M' -> Er H' O' M' σ' ρ' -> Q σ' H') -> g v σ H Q
noncomputable def Jn (i : Nat) : AG := fun x ρ M Q => Q (ρ.set i (some x)) M
theorem YN {i : Nat} : yS (QE i) (Jn i) := ⟨fun w e r q k => k _ _ _ _ _ q .refl w (e.set r i)⟩
noncomputable def Dz : AGs := fun xs ρ M Q => xs = [] /\ Q ρ M
noncomputable def V0 (a : AG) (b : AGs) : AGs := fun xs ρ M Q => ∃ x r, xs = x :: r /\ a x ρ M fun ρ' M' => b r ρ' M' Q
theorem WV : KQ Gc Dz := ⟨fun w e r q k => by obtain ⟨e1, q⟩ := q; subst e1; exact ⟨r.nil_inv, k _ _ _ _ _ q .refl w e⟩⟩
theorem XE {g : TG} {u : TGs} {a : AG} {b : AGs} (h1 : yS g a) (h2 : KQ u b) : KQ (Vm g u) (V0 a b) := ⟨fun w e r q k => by
 obtain ⟨x, r', e1, q⟩ := q; subst e1
 obtain ⟨v, vr, e2, rv, rr⟩ := r.cons_inv
 subst e2
 exact ⟨v, vr, rfl, h1.go w e rv q fun σ' H' O' ρ' M' q1 k1 w1 e1 => h2.go w1 e1 (rr.ext k1) q1 fun σ2 H2 O2 ρ2 M2 q2 k2 w2 e2 => k _ _ _ _ _ q2 (k1.trans k2) w2 e2⟩⟩
noncomputable def DV (n : Nat) (b : AGs) : AG := fun x ρ M Q => ∃ l, x = .d (.tup l) /\ l.length = n /\ b (l.map .d) ρ M Q
theorem WW {K : PySem.W.Frag} {n : Nat} {u : TGs} {b : AGs} (h : KQ u b) : yS (AM K n u) (DV n b) := ⟨fun {v x σ H O ρ M Q Q'} w e r q k => by
 obtain ⟨l, e1, ln, q⟩ := q; subst e1
 cases (show Rep H O v (.tup l) from r) with
 | @tup a xs _ o1 h1 l1 r1 => exact ⟨a, xs, rfl, SqT.of h1, l1.trans ln, h.go w e (XH.av ⟨l1, r1⟩) q k⟩⟩
noncomputable def qp (x : AV) (M : MH) : Option (List AV) := match x with
 | .d (.lst l) => some (l.map .d)
 | .ref a => match M a with
  | some (.lst l) => some l
  | _ => none
 | _ => none
noncomputable def Eo (x : AV) : Option (List AV) := match x with
 | .d (.tup l) => some (l.map .d)
 | _ => none
noncomputable def qu (x : AV) (M : MH) : Option (List AV) := match x with
 | .d (.lst l) => some (l.map .d)
 | .d (.tup l) => some (l.map .d)
 | .ref a => match M a with
  | some (.lst l) => some l
  | _ => none
 | _ => none
theorem jw (l : List Dat) (M : MH) : qp (.d (.lst l)) M = some (l.map .d) := rfl
theorem E8 (l : List Dat) : Eo (.d (.tup l)) = some (l.map .d) := rfl
theorem je (l : List Dat) (M : MH) : qu (.d (.lst l)) M = some (l.map .d) := rfl
theorem Gp (l : List Dat) (M : MH) : qu (.d (.tup l)) M = some (l.map .d) := rfl
theorem yc {a : Addr} {M : MH} {l : List AV} (h : M a = some (.lst l)) : qp (.ref a) M = some l := by unfold qp; dsimp only; rw [h]
theorem vz {a : Addr} {M : MH} {l : List AV} (h : M a = some (.lst l)) : qu (.ref a) M = some l := by unfold qu; dsimp only; rw [h]
theorem vK {x : AV} {M : MH} {l : List AV} (h : qp x M = some l) : (∃ m, x = .d (.lst m) /\ l = m.map .d) \/ ∃ a, x = .ref a /\ M a = some (.lst l) := by
 cases x with
 | d x =>
  cases x with
  | lst m => cases h; exact .inl ⟨m, rfl, rfl⟩
  | _ => cases h
 | ref a =>
  unfold qp at h
  dsimp only at h
  cases e : M a with
  | none => rw [e] at h; cases h
  | some o =>
   rw [e] at h
   cases o with
   | lst m => cases h; exact .inr ⟨a, rfl, e⟩
   | _ => cases h
theorem jc {x : AV} {M : MH} {l : List AV} (h : qu x M = some l) : qp x M = some l \/ ∃ m, x = .d (.tup m) /\ l = m.map .d := by
 cases x with
 | d x =>
  cases x with
  | lst m => cases h; exact .inl rfl
  | tup m => cases h; exact .inr ⟨m, rfl, rfl⟩
  | _ => cases h
 | ref a => exact .inl h
theorem ql {H : Hp} {O : Own} {M : MH} {v : V} {x : AV} {l : List AV} (w : Wf H O M) (r : zz H O M v x) (h : qp x M = some l) : ∃ a xs, v = .ref a /\ H a = some (.lst xs) /\ zg H O M xs l := by
 rcases vK h with ⟨m, rfl, rfl⟩ | ⟨a, rfl, e⟩
 ·cases (show Rep H O v (.lst m) from r) with
  | @lst a xs _ o1 h1 l1 r1 => exact ⟨a, xs, rfl, h1, XH.av ⟨l1, r1⟩⟩
 ·obtain ⟨xs, h1, r1⟩ := w.mo a _ e
  exact ⟨a, xs, r.1, h1, r1⟩
theorem jh {H : Hp} {O : Own} {M : MH} {v : V} {x : AV} {l : List AV} (r : zz H O M v x) (h : Eo x = some l) : ∃ a xs, v = .ref a /\ H a = some (.tup xs) /\ zg H O M xs l := by
 cases x with
 | ref a => cases h
 | d x =>
  cases x with
  | tup m =>
   cases h
   cases (show Rep H O v (.tup m) from r) with
   | @tup a xs _ o1 h1 l1 r1 => exact ⟨a, xs, rfl, h1, XH.av ⟨l1, r1⟩⟩
  | _ => cases h
theorem yp {H : Hp} {O : Own} {M : MH} {v : V} {x : AV} {l : List AV} (w : Wf H O M) (r : zz H O M v x) (h : qu x M = some l) : ∃ a xs, v = .ref a /\ (H a = some (.lst xs) \/ H a = some (.tup xs)) /\ zg H O M xs l := by
 rcases jc h with e | ⟨m, rfl, rfl⟩
 ·obtain ⟨a, xs, h1, h2, h3⟩ := ql w r e; exact ⟨a, xs, h1, .inl h2, h3⟩
 ·obtain ⟨a, xs, h1, h2, h3⟩ := jh (l := m.map .d) r rfl; exact ⟨a, xs, h1, .inr h2, h3⟩
structure As (t : JK) (a : AV -> AV -> AV -> MH -> (MH -> Prop) -> Prop) : Prop where
 go : ∀ {o i v : V} {ao ai av : AV} {H : Hp} {O : Own} {M : MH} {Q : Hp -> Prop} {Q' : MH -> Prop}, Wf H O M -> zz H O M o ao -> zz H O M i ai -> zz H O M v av -> a ao ai av M Q' -> (∀ M' H' O', Q' M' -> Ext H O M H' O' M' -> Wf H' O' M' -> Q H') -> t o i v H Q
noncomputable def Vf (a b : AE) (s : AV -> AV -> AV -> MH -> (MH -> Prop) -> Prop) : AG := fun x ρ M Q => a ρ M fun o M1 => b ρ M1 fun i M2 => s o i x M2 fun M3 => Q ρ M3
theorem WX {to ti : TE} {t : JK} {a b : AE} {s : AV -> AV -> AV -> MH -> (MH -> Prop) -> Prop} (h1 : zR to a) (h2 : zR ti b) (h3 : As t s) : yS (FH to ti t) (Vf a b s) := ⟨fun w e r q k =>
 h1.go w e q fun x M1 v H1 O1 q1 k1 w1 r1 => h2.go w1 (e.ext k1) q1 fun y M2 u H2 O2 q2 k2 w2 r2 => h3.go w2 (r1.ext k2) r2 (r.ext (k1.trans k2)) q2 fun M3 H3 O3 q3 k3 w3 => k _ _ _ _ _ q3 ((k1.trans k2).trans k3) w3 (e.ext ((k1.trans k2).trans k3))⟩
theorem kd {M : MH} {p : Addr} {o : MO} (h : M p = some o) : M p ≠ none := by rw [h]; exact fun z => nomatch z
noncomputable def asL : AV -> AV -> AV -> MH -> (MH -> Prop) -> Prop := fun o i v M Q => ∃ p l k j, o = .ref p /\ i = .d (.int k) /\ M p = some (.lst l) /\ ixN l.length k = some j /\ Q (mup M p (.lst (l.set j v)))
theorem Vp : As JY asL := ⟨fun w ro ri rv q k => by
 obtain ⟨p, l, n, j, rfl, rfl, hm, hj, q⟩ := q
 obtain ⟨xs, hx, rx⟩ := w.mo p _ hm
 have np := kd hm
 refine ⟨n, zJ ri, p, ro.1, xs, hx, j, by rw [rx.1]; exact hj, k _ _ _ q (ye w np _ _) (Vh w np (fun _ z => nomatch z) ⟨_, zh, (rx.set rv j).ext (ye w np _ _)⟩)⟩⟩
noncomputable def E5 (a : AE) (g : AG) : AS := fun _ D ρ M => a ρ M fun x M1 => g x ρ M1 D.nx
theorem Dl {t : TE} {g : TG} {a : AE} {ag : AG} (h : zR t a) (hg : yS g ag) : jR (VB t g) (E5 a ag) := ⟨fun _ w e x q E => h.go w e q fun y M1 v H1 O1 q1 k1 w1 r1 => hg.go w1 (e.ext k1) r1 q1 fun σ2 H2 O2 ρ2 M2 q2 k2 w2 e2 => E.nx _ _ _ _ _ w2 e2 ((x.trans k1).trans k2) q2⟩
noncomputable def Hu (i j : Nat) (a : AA) : AS := fun _ D ρ M => a ρ M fun xs M1 => ∃ x y, xs = [x, y] /\ D.nx ((ρ.set i (some x)).set j (some y)) M1
theorem BM {i j : Nat} {t : TA} {a : AA} (h : kF t a) : jR (FK i j t) (Hu i j a) := ⟨fun _ w e x q E => h.go w e q fun ys M1 vs H1 O1 q1 k1 w1 r1 => by
 obtain ⟨y, z, rfl, q2⟩ := q1
 obtain ⟨v1, r', rfl, a1, r2⟩ := r1.cons_inv
 obtain ⟨v2, r', rfl, a2, r3⟩ := r2.cons_inv
 rw [r3.nil_inv]
 exact ⟨v1, v2, rfl, E.nx _ _ _ _ _ w1 (((e.ext k1).set a1 i).set a2 j) (x.trans k1) q2⟩⟩
structure D3 (t : TIp) (a : AR2) : Prop where
 go : ∀ {x y : V} {dx dy : AV} {H : Hp} {O : Own} {M : MH} {Q : VK} {Q' : AK}, Wf H O M -> zz H O M x dx -> zz H O M y dy -> a dx dy M Q' -> (∀ x M' v H' O', Q' x M' -> Ext H O M H' O' M' -> Wf H' O' M' -> zz H' O' M' v x -> Q v H') -> t x y H Q
noncomputable def G4 (i : Nat) (a : AE) (r : AR2) : AS := fun _ D ρ M => ∃ x, ρ[i]? = some (some x) /\ a ρ M fun y M1 => r x y M1 fun z M2 => D.nx (ρ.set i (some z)) M2
theorem B4 {i : Nat} {t : TE} {ti : TIp} {a : AE} {r : AR2} (h : zR t a) (hi : D3 ti r) : jR (FP i t ti) (G4 i a r) := ⟨fun _ w e x q E => by
 obtain ⟨y, hy, q⟩ := q
 obtain ⟨v, hv, rv⟩ := e.get i y hy
 exact ⟨v, hv, h.go w e q fun z M1 u H1 O1 q1 k1 w1 r1 => hi.go w1 (rv.ext k1) r1 q1 fun z2 M2 v2 H2 O2 q2 k2 w2 r2 => E.nx _ _ _ _ _ w2 ((e.ext (k1.trans k2)).set r2 i) (x.trans (k1.trans k2)) q2⟩⟩
noncomputable def FD (c : AT) (b : AS) : AS := fun B D ρ M => ∃ W : Nat -> ASt -> MH -> Prop, (∃ m, W m ρ M) /\ ∀ m ρ M, W m ρ M -> c ρ M fun k M1 => if k = true then b B { D with nx := fun ρ' M' => ∃ m', m' < m /\ W m' ρ' M', ct := fun ρ' M' => ∃ m', m' < m /\ W m' ρ' M', bk := D.nx } ρ M1 else D.nx ρ M1
theorem Yc {c : TT} {t : TS} {ac : AT} {a : AS} (hc : kD c ac) (h : jR t a) : jR (JV c t) (FD ac a) := ⟨fun {H0 O0 M0 D D' σ H O ρ M} w0 w e x q E => by
 obtain ⟨W, ⟨m, h0⟩, st⟩ := q
 refine ⟨fun m σ H => ∃ O ρ M, Wf H O M /\ Er H O M σ ρ /\ Ext H0 O0 M0 H O M /\ W m ρ M, ⟨m, O, ρ, M, w, e, x, h0⟩, ?_⟩
 rintro m σ H ⟨O, ρ, M, w, e, x, hw⟩
 refine hc.go w e (st m ρ M hw) fun k M1 H1 O1 q1 k1 w1 => ?_
 cases k with
 | false => exact E.nx _ _ _ _ _ w1 (e.ext k1) (x.trans k1) q1
 | true => exact ⟨fun σ' H' => ∃ m', m' < m /\ ∃ O ρ M, Wf H' O M /\ Er H' O M σ' ρ /\ Ext H0 O0 M0 H' O M /\ W m' ρ M, fun σ' H' z => z, h.go w0 w1 (e.ext k1) (x.trans k1) q1 ⟨fun σ H O ρ M w e x ⟨m', hm, hw⟩ => ⟨m', hm, O, ρ, M, w, e, x, hw⟩, E.rt, E.nx, fun σ H O ρ M w e x ⟨m', hm, hw⟩ => ⟨m', hm, O, ρ, M, w, e, x, hw⟩⟩⟩⟩
noncomputable def yn (J : It) (H : Hp) (O : Own) (M : MH) (l : List AV) (G : MH -> Prop) : Prop :=
 ∀ (H' : Hp) (O' : Own) (M' : MH), (∀ a o, ¬ O a -> H a = some o -> H' a = some o /\ ¬ O' a) -> (∀ a, M a ≠ none -> M' a ≠ none) -> Wf H' O' M' -> G M' -> ∀ i : Nat, (i = l.length -> J.stop i H') /\
  ∀ y, l[i]? = some y -> J.go i H' /\ ∀ x H'', J.yld i H' x H'' -> Ext H' O' M' H'' O' M' /\ Wf H'' O' M' /\ zz H'' O' M' x y
structure v0 (wi : TI) (ai : AI) : Prop where
 go : ∀ {σ : St} {H : Hp} {O : Own} {ρ : ASt} {M : MH} {R : It -> Hp -> Prop} {R' : List AV -> (MH -> Prop) -> MH -> Prop}, Wf H O M -> Er H O M σ ρ -> ai ρ M R' -> (∀ l G M' J H' O', R' l G M' -> Ext H O M H' O' M' -> Wf H' O' M' -> yn J H' O' M' l G -> R J H') -> wi σ H R
noncomputable def DJ (ag : AG) (ab : AS) (B : MH) (D : yN) (G : MH -> Prop) (l : List AV) (ρ : ASt) (M : MH) : Prop :=
 ∃ Pv : Nat -> ASt -> MH -> Prop, Pv 0 ρ M /\ (∀ i x ρ M, l[i]? = some x -> Pv i ρ M -> G M /\ ag x ρ M fun ρ' M' => ab B { D with nx := Pv (i + 1), ct := Pv (i + 1), bk := D.nx } ρ' M') /\ ∀ ρ M, Pv l.length ρ M -> G M /\ D.nx ρ M
noncomputable def GO (ai : AI) (ag : AG) (ab : AS) : AS := fun _ D ρ M => ai ρ M fun l G M1 => DJ ag ab M1 D G l ρ M1
theorem Dv {wi : TI} {g : TG} {t : TS} {ai : AI} {ag : AG} {ab : AS} (hi : v0 wi ai) (hg : yS g ag) (hb : jR t ab) : jR (GA wi g t) (GO ai ag ab) := ⟨fun {H0 O0 M0 D D' σ H O ρ M} w0 w e x q E => by
 rw [KG]
 refine hi.go w e q fun l G M1 J H1 O1 q1 k1 w1 hj => ?_
 have E1 := E.tr (x.trans k1)
 obtain ⟨Pv, p0, ps, pd⟩ := q1
 refine ⟨fun i m σ H => m = l.length - i /\ i <= l.length /\ ∃ O ρ M, Wf H O M /\ Er H O M σ ρ /\ Ext H1 O1 M1 H O M /\ Pv i ρ M, ⟨l.length, by simp, Nat.zero_le _, O1, ρ, M1, w1, e.ext k1, .refl, p0⟩, ?_⟩
 rintro i m σ H ⟨rfl, hi, O, ρ, M, w, e, x, hf⟩
 by_cases hil : i < l.length
 ·have hy : l[i]? = some l[i] := List.getElem?_eq_getElem hil
  obtain ⟨hG, q2⟩ := ps i l[i] ρ M hy hf
  obtain ⟨j1, j2⟩ := (hj H O M x.fix x.mst w hG i).2 l[i] hy
  refine .inr ⟨j1, fun σ' H' => ∃ O ρ M, Wf H' O M /\ Er H' O M σ' ρ /\ Ext H1 O1 M1 H' O M /\ Pv (i + 1) ρ M, fun σ' H' z => ⟨l.length - (i + 1), by omega, rfl, hil, z⟩, fun v H' hv => ?_⟩
  obtain ⟨k2, w2, r2⟩ := j2 v H' hv
  refine hg.go w2 (e.ext k2) r2 q2 fun σ3 H3 O3 ρ3 M3 q3 k3 w3 e3 => ?_
  exact hb.go w1 w3 e3 ((x.trans k2).trans k3) q3 ⟨fun σ H O ρ M w e x q => ⟨O, ρ, M, w, e, x, q⟩, E1.rt, E1.nx, fun σ H O ρ M w e x q => ⟨O, ρ, M, w, e, x, q⟩⟩
 ·have e0 : i = l.length := by omega
  subst e0
  obtain ⟨hG, q2⟩ := pd ρ M hf
  exact .inl ⟨(hj H O M x.fix x.mst w hG l.length).1 rfl, E1.nx _ _ _ _ _ w e x q2⟩⟩
end L2
set_option Elab.async false
set_option linter.all false
set_option maxRecDepth 100000
set_option maxHeartbeats 4000000
namespace L2
open PySem PySem.Spec PyProof.Rows
theorem kJ {H H1 : Hp} {O O1 : Own} {M M1 : MH} (w1 : Wf H1 O1 M1) (k1 : Ext H O M H1 O1 M1) {p : Addr} (hp : H1 p = none) : H p = none := by
 cases e0 : H p with
 | none => rfl
 | some o =>
  exfalso
  by_cases c : O p
  ·by_cases c2 : M p = none
   ·exact w1.ne p (k1.prv p c c2).2.1 hp
   ·exact w1.ne p (w1.own p (k1.mst p c2)) hp
  ·rw [(k1.fix p o c e0).1] at hp; cases hp
theorem XQ {K : PySem.W.Frag} {H : Hp} {O : Own} {M : MH} {a : Addr} {x : AV} {l : List AV} (r : zz H O M (.ref a) x) (h : qp x M = some l) : yn (Itl K a) H O M l (fun M' => qp x M' = some l) := by
 intro H' O' M' fix mst w' hG i
 obtain ⟨a', xs, e, h1, r1⟩ := ql w' (r.imp fix mst) hG
 cases e
 refine ⟨fun e => ⟨xs, SqL.of h1, by rw [r1.1]; omega⟩, fun y hy => ?_⟩
 obtain ⟨v, hv, rv⟩ := r1.get hy
 refine ⟨⟨xs, v, SqL.of h1, hv⟩, fun z H'' hz => ?_⟩
 obtain ⟨e1, e2⟩ := hz
 subst e1
 have := e2 xs (SqL.of h1)
 rw [hv] at this; cases this
 exact ⟨.refl, w', rv⟩
theorem Wv {K : PySem.W.Frag} {H : Hp} {O : Own} {M : MH} {a : Addr} {x : AV} {l : List AV} (r : zz H O M (.ref a) x) (h : Eo x = some l) : yn (Itt K a) H O M l (fun _ => True) := by
 intro H' O' M' fix mst w' hG i
 obtain ⟨a', xs, e, h1, r1⟩ := jh (r.imp fix mst) h
 cases e
 refine ⟨fun e => ⟨xs, SqT.of h1, by rw [r1.1]; omega⟩, fun y hy => ?_⟩
 obtain ⟨v, hv, rv⟩ := r1.get hy
 refine ⟨⟨xs, v, SqT.of h1, hv⟩, fun z H'' hz => ?_⟩
 obtain ⟨e1, e2⟩ := hz
 subst e1
 have := e2 xs (SqT.of h1)
 rw [hv] at this; cases this
 exact ⟨.refl, w', rv⟩
noncomputable def aiS (a : AE) : AI := fun ρ M R => a ρ M fun x M1 => ∃ l, qu x M1 = some l /\ R l (fun M' => qu x M' = some l) M1
theorem yn.mono {J : It} {H : Hp} {O : Own} {M : MH} {l : List AV} {G G' : MH -> Prop} (h : yn J H O M l G) (k : ∀ M, G' M -> G M) : yn J H O M l G' := fun H' O' M' fix mst w' hG => h H' O' M' fix mst w' (k _ hG)
theorem EE {K : PySem.W.Frag} {t : TE} {a : AE} (h : zR t a) : v0 (iLT K t) (aiS a) := ⟨fun w e q k => h.go w e q fun x M1 v H1 O1 ⟨l, hl, q1⟩ k1 w1 r1 => by
 rcases jc hl with hl' | ⟨m, rfl, rfl⟩
 ·obtain ⟨a, xs, rfl, h1, _⟩ := ql w1 r1 hl'
  refine ⟨a, rfl, .inl ⟨⟨xs, SqL.of h1⟩, k _ _ _ _ _ _ q1 k1 w1 ((XQ r1 hl').mono fun M hM => ?_)⟩⟩
  rcases jc hM with z | ⟨m, rfl, rfl⟩
  ·exact z
  ·cases hl'
 ·obtain ⟨a, xs, rfl, h1, _⟩ := jh (l := m.map .d) r1 rfl
  exact ⟨a, rfl, .inr ⟨⟨xs, SqT.of h1⟩, k _ _ _ _ _ _ q1 k1 w1 ((Wv r1 rfl).mono fun _ _ => trivial)⟩⟩⟩
noncomputable def Jh (lo c : Int) (n : Nat) : List AV := (List.range n).map fun (k : Nat) => .d (.int (lo + (k : Int) * c))
theorem qQ (lo c : Int) (n : Nat) : (Jh lo c n).length = n := by simp [Jh]
theorem jB {lo c : Int} {n i : Nat} {y : AV} (h : (Jh lo c n)[i]? = some y) : i < n /\ y = .d (.int (lo + (i : Int) * c)) := by
 have hi := (List.getElem?_eq_some_iff.mp h).1
 rw [qQ] at hi
 unfold Jh at h
 rw [List.getElem?_map, List.getElem?_range hi] at h
 cases h
 exact ⟨hi, rfl⟩
theorem QD {H : Hp} {O : Own} {M : MH} (lo : Int) (n : Nat) : yn (Itr lo n) H O M (Jh lo 1 n) (fun _ => True) := by
 intro H' O' M' fix mst w' hG i
 refine ⟨fun e => by rw [qQ] at e; exact Nat.le_of_eq e.symm, fun y hy => ?_⟩
 obtain ⟨hi, rfl⟩ := jB hy
 refine ⟨hi, fun z H'' hz => ?_⟩
 obtain ⟨rfl, rfl⟩ := hz
 rw [Int.mul_one]
 exact ⟨.refl, w', .int⟩
noncomputable def Hh (a : AA) : AI := fun ρ M R => a ρ M fun xs M1 => ∃ j : Int, xs = [.d (.int j)] /\ -(2 ^ 62) <= j /\ j < 2 ^ 62 /\ R (Jh 0 1 j.toNat) (fun _ => True) M1
theorem B0 {t : TA} {a : AA} (h : kF t a) : v0 (WY t) (Hh a) := ⟨fun w e q k => h.go w e q fun x M1 v H1 O1 ⟨j, e1, j1, j2, q1⟩ k1 w1 r1 => by
 subst e1
 obtain ⟨v1, r', rfl, a1, r2⟩ := r1.cons_inv
 rw [r2.nil_inv, zJ a1]
 exact ⟨j, rfl, j1, j2, k _ _ _ _ _ _ q1 k1 w1 (QD _ _)⟩⟩
noncomputable def GJ (a : AA) : AI := fun ρ M R => a ρ M fun xs M1 => ∃ i j : Int, xs = [.d (.int i), .d (.int j)] /\ (-(2 ^ 62) <= i /\ i < 2 ^ 62 /\ -(2 ^ 62) <= j /\ j < 2 ^ 62) /\ R (Jh i 1 (j - i).toNat) (fun _ => True) M1
theorem Ba {t : TA} {a : AA} (h : kF t a) : v0 (Ah t) (GJ a) := ⟨fun w e q k => h.go w e q fun x M1 v H1 O1 ⟨i, j, e1, j1, q1⟩ k1 w1 r1 => by
 subst e1
 obtain ⟨v1, r', rfl, a1, r2⟩ := r1.cons_inv
 obtain ⟨v2, r', rfl, a2, r3⟩ := r2.cons_inv
 rw [r3.nil_inv, zJ a1, zJ a2]
 exact ⟨i, j, rfl, j1, k _ _ _ _ _ _ q1 k1 w1 (QD _ _)⟩⟩
noncomputable def yG (m : List Dat) : List AV := (List.range m.length).map fun (i : Nat) => .d (.tup [.int (i : Int), m.getD i .non])
theorem jP (m : List Dat) : (yG m).length = m.length := by simp [yG]
theorem xw {m : List Dat} {i : Nat} {y : AV} (h : (yG m)[i]? = some y) : ∃ d, m[i]? = some d /\ y = .d (.tup [.int (i : Int), d]) := by
 have hi := (List.getElem?_eq_some_iff.mp h).1
 rw [jP] at hi
 unfold yG at h
 rw [List.getElem?_map, List.getElem?_range hi] at h
 cases h
 exact ⟨m[i], List.getElem?_eq_getElem hi, by dsimp only; rw [List.getD_eq_getElem?_getD, List.getElem?_eq_getElem hi]; rfl⟩
theorem xU {H : Hp} {O : Own} {M : MH} (w : Wf H O M) {p : Addr} (hp : H p = none) {x y : V} {d e : Dat} (r1 : Rep H O x d) (r2 : Rep H O y e) : Ext H O M (upd H p (.tup [x, y])) O M /\ Wf (upd H p (.tup [x, y])) O M /\ zz (upd H p (.tup [x, y])) O M (.ref p) (.d (.tup [d, e])) :=
 ⟨jn w hp _, ZX w hp _, Rep.tup (w.fresh hp).1 zh rfl fun i z f h1 h2 => by
  match i, h1, h2 with
  | 0, h1, h2 => cases h1; cases h2; exact r1.ext (jn w hp _)
  | 1, h1, h2 => cases h1; cases h2; exact r2.ext (jn w hp _)
  | (i + 2), h1, _ => cases h1⟩
theorem YD {K : PySem.W.Frag} {H : Hp} {O : Own} {M : MH} {a : Addr} {x : AV} {m : List Dat} (r : zz H O M (.ref a) x) (h : qp x M = some (m.map .d)) : yn (Ite K a) H O M (yG m) (fun M' => qp x M' = some (m.map .d)) := by
 intro H' O' M' fix mst w' hG i
 obtain ⟨a', xs, e, h1, r1⟩ := ql w' (r.imp fix mst) hG
 cases e
 have l1 := r1.1
 rw [List.length_map] at l1
 refine ⟨fun e => ⟨xs, SqL.of h1, by rw [jP] at e; omega⟩, fun y hy => ?_⟩
 obtain ⟨d, hd, rfl⟩ := xw hy
 obtain ⟨v, hv, rv⟩ := r1.get (i := i) (d := .d d) (by rw [List.getElem?_map, hd]; rfl)
 refine ⟨⟨xs, v, SqL.of h1, hv⟩, fun z H'' hz => ?_⟩
 obtain ⟨p, x', hp, rfl, e2, rfl⟩ := hz
 have := e2 xs (SqL.of h1)
 rw [hv] at this; cases this
 exact xU w' hp .int rv
theorem Kl {K : PySem.W.Frag} {H : Hp} {O : Own} {M : MH} {a : Addr} {m : List Dat} (r : zz H O M (.ref a) (.d (.tup m))) : yn (A5 K a) H O M (yG m) (fun _ => True) := by
 intro H' O' M' fix mst w' hG i
 obtain ⟨a', xs, e, h1, r1⟩ := jh (l := m.map .d) (r.imp fix mst) rfl
 cases e
 have l1 := r1.1
 rw [List.length_map] at l1
 refine ⟨fun e => ⟨xs, SqT.of h1, by rw [jP] at e; omega⟩, fun y hy => ?_⟩
 obtain ⟨d, hd, rfl⟩ := xw hy
 obtain ⟨v, hv, rv⟩ := r1.get (i := i) (d := .d d) (by rw [List.getElem?_map, hd]; rfl)
 refine ⟨⟨xs, v, SqT.of h1, hv⟩, fun z H'' hz => ?_⟩
 obtain ⟨p, x', hp, rfl, e2, rfl⟩ := hz
 have := e2 xs (SqT.of h1)
 rw [hv] at this; cases this
 exact xU w' hp .int rv
noncomputable def aiE (a : AA) : AI := fun ρ M R => a ρ M fun xs M1 => ∃ x l m, xs = [x] /\ qu x M1 = some l /\ pur l = some m /\ R (yG m) (fun M' => qu x M' = some l) M1
theorem JL {x : AV} {M M' : MH} {l l' : List AV} (h : qp x M = some l) (h' : qu x M' = some l') : qp x M' = some l' := by
 rcases jc h' with z | ⟨m, rfl, rfl⟩
 ·exact z
 ·cases h
theorem E6 {K : PySem.W.Frag} {t : TA} {a : AA} (h : kF t a) : v0 (ZZ K t) (aiE a) := ⟨fun w e q k => h.go w e q fun xs M1 v H1 O1 ⟨x, l, m, e1, hl, hm, q1⟩ k1 w1 r1 => by
 subst e1
 obtain ⟨v1, r', rfl, a1, r2⟩ := r1.cons_inv
 rw [r2.nil_inv]
 rw [j8 hm] at hl q1
 rcases jc hl with hl' | ⟨m', rfl, e2⟩
 ·obtain ⟨a, xs, rfl, h1, _⟩ := ql w1 a1 hl'
  exact ⟨a, rfl, .inl ⟨⟨xs, SqL.of h1⟩, k _ _ _ _ _ _ q1 k1 w1 ((YD a1 hl').mono fun M hM => JL hl' hM)⟩⟩
 ·obtain rfl : m = m' := by have := congrArg pur e2; rw [qg, qg] at this; cases this; rfl
  obtain ⟨a, xs, rfl, h1, _⟩ := jh (l := m.map .d) a1 rfl
  exact ⟨a, rfl, .inr ⟨⟨xs, SqT.of h1⟩, k _ _ _ _ _ _ q1 k1 w1 ((Kl a1).mono fun _ _ => trivial)⟩⟩⟩
noncomputable def Jy (m n : List Dat) : List AV := (List.range (min m.length n.length)).map fun (i : Nat) => .d (.tup [m.getD i .non, n.getD i .non])
theorem xZ (m n : List Dat) : (Jy m n).length = min m.length n.length := by simp [Jy]
theorem wb {m n : List Dat} {i : Nat} {y : AV} (h : (Jy m n)[i]? = some y) : ∃ d e, m[i]? = some d /\ n[i]? = some e /\ y = .d (.tup [d, e]) := by
 have hi := (List.getElem?_eq_some_iff.mp h).1
 rw [xZ] at hi
 unfold Jy at h
 rw [List.getElem?_map, List.getElem?_range hi] at h
 cases h
 have h1 : i < m.length := by omega
 have h2 : i < n.length := by omega
 exact ⟨m[i], n[i], List.getElem?_eq_getElem h1, List.getElem?_eq_getElem h2, by dsimp only; rw [List.getD_eq_getElem?_getD, List.getElem?_eq_getElem h1, List.getD_eq_getElem?_getD, List.getElem?_eq_getElem h2]; rfl⟩
theorem VF {K : PySem.W.Frag} {H : Hp} {O : Own} {M : MH} {a b : Addr} {x y : AV} {m n : List Dat} (r : zz H O M (.ref a) x) (h : qp x M = some (m.map .d)) (r' : zz H O M (.ref b) y) (h' : qp y M = some (n.map .d)) : yn (Itz K a b) H O M (Jy m n) (fun M' => qp x M' = some (m.map .d) /\ qp y M' = some (n.map .d)) := by
 intro H' O' M' fix mst w' hG i
 obtain ⟨a', xs, e, h1, r1⟩ := ql w' (r.imp fix mst) hG.1
 cases e
 obtain ⟨b', ys, e, h2, r2⟩ := ql w' (r'.imp fix mst) hG.2
 cases e
 have l1 := r1.1
 have l2 := r2.1
 rw [List.length_map] at l1 l2
 refine ⟨fun e => ⟨xs, ys, SqL.of h1, SqL.of h2, by rw [xZ] at e; omega⟩, fun z hz => ?_⟩
 obtain ⟨d, f, hd, hf, rfl⟩ := wb hz
 obtain ⟨v, hv, rv⟩ := r1.get (i := i) (d := .d d) (by rw [List.getElem?_map, hd]; rfl)
 obtain ⟨u, hu, ru⟩ := r2.get (i := i) (d := .d f) (by rw [List.getElem?_map, hf]; rfl)
 refine ⟨⟨xs, ys, v, u, SqL.of h1, SqL.of h2, hv, hu⟩, fun z H'' hz => ?_⟩
 obtain ⟨p, x', y', hp, rfl, e2, e3, rfl⟩ := hz
 have := e2 xs (SqL.of h1)
 rw [hv] at this; cases this
 have := e3 ys (SqL.of h2)
 rw [hu] at this; cases this
 exact xU w' hp rv ru
theorem YB {K : PySem.W.Frag} {H : Hp} {O : Own} {M : MH} {a b : Addr} {m n : List Dat} (hmn : m.length <= n.length) (r : zz H O M (.ref a) (.d (.tup m))) (r' : zz H O M (.ref b) (.d (.tup n))) : yn (Fm K a b) H O M (Jy m n) (fun _ => True) := by
 intro H' O' M' fix mst w' hG i
 obtain ⟨a', xs, e, h1, r1⟩ := jh (l := m.map .d) (r.imp fix mst) rfl
 cases e
 obtain ⟨b', ys, e, h2, r2⟩ := jh (l := n.map .d) (r'.imp fix mst) rfl
 cases e
 have l1 := r1.1
 have l2 := r2.1
 rw [List.length_map] at l1 l2
 refine ⟨fun e => ⟨xs, SqT.of h1, by rw [xZ] at e; omega⟩, fun z hz => ?_⟩
 obtain ⟨d, f, hd, hf, rfl⟩ := wb hz
 obtain ⟨v, hv, rv⟩ := r1.get (i := i) (d := .d d) (by rw [List.getElem?_map, hd]; rfl)
 obtain ⟨u, hu, ru⟩ := r2.get (i := i) (d := .d f) (by rw [List.getElem?_map, hf]; rfl)
 refine ⟨⟨xs, ys, v, u, SqT.of h1, SqT.of h2, hv, hu⟩, fun z H'' hz => ?_⟩
 obtain ⟨p, x', y', hp, rfl, e2, e3, rfl⟩ := hz
 have := e2 xs (SqT.of h1)
 rw [hv] at this; cases this
 have := e3 ys (SqT.of h2)
 rw [hu] at this; cases this
 exact xU w' hp rv ru
noncomputable def Ho (a : AA) : AI := fun ρ M R => a ρ M fun xs M1 => ∃ x y m n, xs = [x, y] /\ ((qp x M1 = some (List.map AV.d m) /\ qp y M1 = some (List.map AV.d n)) \/ (x = .d (.tup m) /\ y = .d (.tup n) /\ m.length <= n.length)) /\ R (Jy m n) (fun M' => qp x M' = qp x M1 /\ qp y M' = qp y M1) M1
theorem BS {K : PySem.W.Frag} {t : TA} {a : AA} (h : kF t a) : v0 (JN K t) (Ho a) := ⟨fun w e q k => h.go w e q fun xs M1 v H1 O1 ⟨x, y, m, n, e1, hxy, q1⟩ k1 w1 r1 => by
 subst e1
 obtain ⟨v1, r', rfl, a1, r2⟩ := r1.cons_inv
 obtain ⟨v2, r', rfl, a2, r3⟩ := r2.cons_inv
 rw [r3.nil_inv]
 rcases hxy with ⟨hx, hy⟩ | ⟨rfl, rfl, hmn⟩
 ·obtain ⟨a, xs, rfl, h1, _⟩ := ql w1 a1 hx
  obtain ⟨b, ys, rfl, h2, _⟩ := ql w1 a2 hy
  exact ⟨a, b, rfl, .inl ⟨⟨xs, SqL.of h1⟩, ⟨ys, SqL.of h2⟩, k _ _ _ _ _ _ q1 k1 w1 ((VF a1 hx a2 hy).mono fun _ z => ⟨z.1.trans hx, z.2.trans hy⟩)⟩⟩
 ·obtain ⟨a, xs, rfl, h1, _⟩ := jh (l := m.map .d) a1 rfl
  obtain ⟨b, ys, rfl, h2, _⟩ := jh (l := n.map .d) a2 rfl
  exact ⟨a, b, rfl, .inr ⟨⟨xs, SqT.of h1⟩, ⟨ys, SqT.of h2⟩, k _ _ _ _ _ _ q1 k1 w1 ((YB hmn a1 a2).mono fun _ _ => trivial)⟩⟩⟩
structure yX (D : Addr) (H : Hp) (O : Own) (M : MH) (H' : Hp) (O' : Own) (M' : MH) : Prop where
 fix : ∀ a o, ¬ O a -> H a = some o -> H' a = some o /\ ¬ O' a
 prv : ∀ a, a ≠ D -> O a -> M a = none -> H' a = H a /\ O' a /\ M' a = none
 mst : ∀ a, M a ≠ none -> M' a ≠ none
theorem Ext.x {D : Addr} {H H' : Hp} {O O' : Own} {M M' : MH} (k : Ext H O M H' O' M') : yX D H O M H' O' M' := ⟨k.fix, fun a _ => k.prv a, k.mst⟩
theorem yX.trans {D : Addr} {H H1 H2 : Hp} {O O1 O2 : Own} {M M1 M2 : MH} (a : yX D H O M H1 O1 M1) (b : yX D H1 O1 M1 H2 O2 M2) : yX D H O M H2 O2 M2 :=
 ⟨fun x o h e => let ⟨e1, h1⟩ := a.fix x o h e; b.fix x o h1 e1, fun x hx h e => by
  obtain ⟨e1, h1, n1⟩ := a.prv x hx h e
  obtain ⟨e2, h2, n2⟩ := b.prv x hx h1 n1
  exact ⟨e2.trans e1, h2, n2⟩, fun x h => b.mst x (a.mst x h)⟩
theorem yX.set {D : Addr} {H : Hp} {O : Own} {M : MH} (hO : O D) (o : HO) : yX D H O M (upd H D o) O M := ⟨yY hO o, fun a ha h e => ⟨zj ha, h, e⟩, fun _ h => h⟩
theorem Er.imp {H H' : Hp} {O O' : Own} {M M' : MH} {σ : St} {ρ : ASt} (e : Er H O M σ ρ) (k : ∀ a o, ¬ O a -> H a = some o -> H' a = some o /\ ¬ O' a) (hm : ∀ a, M a ≠ none -> M' a ≠ none) : Er H' O' M' σ ρ := ⟨e.len, fun i x h => let ⟨v, h1, h2⟩ := e.get i x h; ⟨v, h1, h2.imp k hm⟩⟩
noncomputable abbrev ATR := List AV -> ASt -> MH -> (List AV -> ASt -> MH -> Prop) -> Prop
structure Ze (D : Addr) (tr : TR) (a : ATR) : Prop where
 go : ∀ {σ : St} {H : Hp} {O : Own} {ρ : ASt} {M : MH} {acc : List AV} {ys : List V} {N : St -> Hp -> Prop} {N' : List AV -> ASt -> MH -> Prop}, Wf H O M -> Er H O M σ ρ -> O D -> M D = none -> H D = some (.lst ys) -> zg H O M ys acc -> a acc ρ M N' ->
  (∀ acc' ρ' M' σ' H' O' ys', N' acc' ρ' M' -> yX D H O M H' O' M' -> Wf H' O' M' -> Er H' O' M' σ' ρ' -> O' D -> M' D = none -> H' D = some (.lst ys') -> zg H' O' M' ys' acc' -> N σ' H') -> tr σ H N
noncomputable def yP (a : AE) : ATR := fun acc ρ M N => a ρ M fun x M1 => acc.length < sizeLine /\ N (acc ++ [x]) ρ M1
theorem vh {D : Addr} {t : TE} {a : AE} (h : zR t a) : Ze D (wj t D) (yP a) := ⟨fun {σ H O ρ M acc ys N N'} w e o m hd r q k => h.go w e q fun x M1 v H1 O1 ⟨q0, q1⟩ k1 w1 r1 => by
 obtain ⟨e1, o1, m1⟩ := k1.prv D o m
 have r' := r.ext k1
 refine ⟨ys, e1.trans hd, by rw [r.1]; exact q0, k _ _ _ _ _ _ (ys ++ [v]) q1 (k1.x.trans (yX.set o1 _)) (JX w1 o1 m1 (e1.trans hd) _ (fun _ z => nomatch z)) ((e.ext k1).imp (yY o1 _) (fun _ z => z)) o1 m1 zh ((r'.snoc r1).imp (yY o1 _) (fun _ z => z))⟩⟩
noncomputable def JQ (ag : AG) (at_ : AT) (tr : ATR) (G : MH -> Prop) (N : List AV -> ASt -> MH -> Prop) (l acc : List AV) (ρ : ASt) (M : MH) : Prop :=
 ∃ Pv : Nat -> List AV -> ASt -> MH -> Prop, Pv 0 acc ρ M /\ (∀ i x acc ρ M, l[i]? = some x -> Pv i acc ρ M -> G M /\ ag x ρ M fun ρ2 M2 => at_ ρ2 M2 fun b M3 => if b = true then tr acc ρ2 M3 (Pv (i + 1)) else Pv (i + 1) acc ρ2 M3) /\ ∀ acc ρ M, Pv l.length acc ρ M -> G M /\ N acc ρ M
theorem VD {D : Addr} {g : TG} {tt : TT} {tr : TR} {ag : AG} {at_ : AT} {atr : ATR} (hg : yS g ag) (ht : kD tt at_) (hr : Ze D tr atr) {J : It} {H1 : Hp} {O1 : Own} {M1 : MH} {l : List AV} {G : MH -> Prop} (hj : yn J H1 O1 M1 l G) {N' : List AV -> ASt -> MH -> Prop} {N : St -> Hp -> Prop}
  {σ : St} {ρ : ASt} {acc : List AV} {ys : List V} (w : Wf H1 O1 M1) (e : Er H1 O1 M1 σ ρ) (o : O1 D) (m : M1 D = none) (hd : H1 D = some (.lst ys)) (r : zg H1 O1 M1 ys acc) (q : JQ ag at_ atr G N' l acc ρ M1)
  (k : ∀ acc' ρ' M' σ' H' O' ys', N' acc' ρ' M' -> yX D H1 O1 M1 H' O' M' -> Wf H' O' M' -> Er H' O' M' σ' ρ' -> O' D -> M' D = none -> H' D = some (.lst ys') -> zg H' O' M' ys' acc' -> N σ' H') : CL J g tt tr N σ H1 := by
 obtain ⟨Pv, p0, ps, pd⟩ := q
 refine ⟨fun i n σ H => n = l.length - i /\ i <= l.length /\ ∃ O ρ M acc ys, Wf H O M /\ Er H O M σ ρ /\ yX D H1 O1 M1 H O M /\ O D /\ M D = none /\ H D = some (.lst ys) /\ zg H O M ys acc /\ Pv i acc ρ M,
  ⟨l.length, by simp, Nat.zero_le _, O1, ρ, M1, acc, ys, w, e, Ext.refl.x, o, m, hd, r, p0⟩, ?_⟩
 rintro i n σ H ⟨rfl, hi, O, ρ, M, acc, ys, w, e, x, o, m, hd, r, hf⟩
 by_cases hil : i < l.length
 ·have hy : l[i]? = some l[i] := List.getElem?_eq_getElem hil
  obtain ⟨hG, q2⟩ := ps i l[i] acc ρ M hy hf
  obtain ⟨j1, j2⟩ := (hj H O M x.fix x.mst w hG i).2 l[i] hy
  refine .inr ⟨j1, fun σ' H' => ∃ O ρ M acc ys, Wf H' O M /\ Er H' O M σ' ρ /\ yX D H1 O1 M1 H' O M /\ O D /\ M D = none /\ H' D = some (.lst ys) /\ zg H' O M ys acc /\ Pv (i + 1) acc ρ M, fun σ' H' z => ⟨l.length - (i + 1), by omega, rfl, hil, z⟩, fun v H' hv => ?_⟩
  obtain ⟨k2, w2, r2⟩ := j2 v H' hv
  refine hg.go w2 (e.ext k2) r2 q2 fun σ3 H3 O3 ρ3 M3 q3 k3 w3 e3 => ?_
  refine ht.go w3 e3 q3 fun b M4 H4 O4 q4 k4 w4 => ?_
  have k24 := (k2.trans k3).trans k4
  obtain ⟨d4, o4, m4⟩ := k24.prv D o m
  have r4 := r.ext k24
  cases b with
  | true =>
   exact hr.go w4 (e3.ext k4) o4 m4 (d4.trans hd) r4 q4 fun acc' ρ' M' σ' H' O' ys' q5 k5 w5 e5 o5 m5 d5 r5 => ⟨O', ρ', M', acc', ys', w5, e5, (x.trans k24.x).trans k5, o5, m5, d5, r5, q5⟩
  | false =>
   exact ⟨O4, ρ3, M4, acc, ys, w4, e3.ext k4, x.trans k24.x, o4, m4, d4.trans hd, r4, q4⟩
 ·have e0 : i = l.length := by omega
  subst e0
  obtain ⟨hG, q2⟩ := pd acc ρ M hf
  exact .inl ⟨(hj H O M x.fix x.mst w hG l.length).1 rfl, k _ _ _ _ _ _ _ q2 x w e o m hd r⟩
noncomputable def JA (ai : AI) (ag : AG) (at_ : AT) (atr : ATR) : ATR := fun acc ρ M N => ai ρ M fun l G M1 => JQ ag at_ atr G N l acc ρ M1
theorem wV {D : Addr} {wi : TI} {g : TG} {tt : TT} {tr : Addr -> TR} {ai : AI} {ag : AG} {at_ : AT} {atr : ATR} (hi : v0 wi ai) (hg : yS g ag) (ht : kD tt at_) (hr : Ze D (tr D) atr) : Ze D (ZD wi g tt tr D) (JA ai ag at_ atr) := ⟨fun w e o m hd r q k => by
 refine hi.go w e q fun l G M1 J H1 O1 q1 k1 w1 hj => ?_
 obtain ⟨d1, o1, m1⟩ := k1.prv D o m
 exact VD hg ht hr hj w1 (e.ext k1) o1 m1 (d1.trans hd) (r.ext k1) q1 fun acc' ρ' M' σ' H' O' ys' q5 k5 w5 e5 o5 m5 d5 r5 => k _ _ _ _ _ _ _ q5 (k1.x.trans k5) w5 e5 o5 m5 d5 r5⟩
noncomputable def KF (ts : List Nat) (ai : AI) (ag : AG) (at_ : AT) (atr : ATR) : AF := fun ρ M Q => ai ρ M fun l G M1 => JQ ag at_ atr G (fun acc _ M' => Q acc M') l [] (BO ts ρ) M1
theorem wl {ts : List Nat} {wi : TI} {g : TG} {tt : TT} {tr : Addr -> TR} {ai : AI} {ag : AG} {at_ : AT} {atr : ATR} (hi : v0 wi ai) (hg : yS g ag) (ht : kD tt at_) (hr : ∀ D, Ze D (tr D) atr) : wy (vw ts wi g tt tr) (KF ts ai ag at_ atr) := ⟨fun {σ H O ρ M Q Q'} w e q k => by
 refine hi.go w e q fun l G M1 J H1 O1 q1 k1 w1 hj D hD => ?_
 have kp := qI w1 hD (.lst [])
 have hj' : yn J (upd H1 D (.lst [])) (Yi O1 D) M1 l G := fun H' O' M' fix mst w' hG => hj H' O' M' (fun a o ha ho => fix a o (kp.fix a o ha ho).2 (kp.fix a o ha ho).1) mst w' hG
 refine VD hg ht (hr D) hj' (yo w1 hD _ (fun _ z => nomatch z)) (((e.ext k1).clr ts).ext kp) (.inl rfl) (w1.fresh hD).2 zh .nil q1 fun acc' ρ' M' σ' H' O' ys' q5 k5 w5 e5 o5 m5 d5 r5 => ?_
 have hH := kJ w1 k1 hD
 refine k _ _ _ _ _ _ q5 ⟨fun a o ha ho => ?_, fun a ha hm => ?_, fun a hm => k5.mst a (k1.mst a hm)⟩ w5 o5 m5 hH d5 r5
 ·obtain ⟨x1, x2⟩ := (k1.trans kp).fix a o ha ho
  exact k5.fix a o x2 x1
 ·obtain ⟨x1, x2, x3⟩ := (k1.trans kp).prv a ha hm
  obtain ⟨y1, y2, y3⟩ := k5.prv a (fun z => w.ne a ha (by rw [z]; exact hH)) x2 x3
  exact ⟨y1.trans x1, y2, y3⟩⟩
theorem XX {ts : List Nat} {wi : TI} {g : TG} {tt : TT} {te : TE} {ai : AI} {ag : AG} {at_ : AT} {ae : AE} (hi : v0 wi ai) (hg : yS g ag) (ht : kD tt at_) (he : zR te ae) : wy (QS ts wi g tt te) (KF ts ai ag at_ (yP ae)) :=
 ⟨fun w e q k => (wl (ts := ts) (tr := wj te) hi hg ht fun D => vh he).go w e q k⟩
end L2
set_option Elab.async false
set_option linter.all false
set_option maxRecDepth 100000
set_option maxHeartbeats 4000000
namespace L2
open PySem PySem.Spec PyProof.Rows
noncomputable def aI (C : Int -> Int -> Prop) (g : Int -> Int -> Dat) : AR2 := fun x y M Q => ∃ i j, x = .d (.int i) /\ y = .d (.int j) /\ C i j /\ Q (.d (g i j)) M
noncomputable def aI0 (g : Int -> Int -> Dat) : AR2 := fun x y M Q => ∃ i j, x = .d (.int i) /\ y = .d (.int j) /\ Q (.d (g i j)) M
theorem EQ {C : Int -> Int -> Prop} {f : Int -> Int -> Int} : Zr (rI C fun i j => .int (f i j)) (aI C fun i j => .int (f i j)) := ⟨fun w r1 r2 ⟨i, j, e1, e2, c, q⟩ k => by
 subst e1 e2; exact ⟨i, j, zJ r1, zJ r2, c, k _ _ _ _ _ q .refl w .int⟩⟩
theorem Bt {f : Int -> Int -> Int} : Zr (rI0 fun i j => .int (f i j)) (aI0 fun i j => .int (f i j)) := ⟨fun w r1 r2 ⟨i, j, e1, e2, q⟩ k => by
 subst e1 e2; exact ⟨i, j, zJ r1, zJ r2, k _ _ _ _ _ q .refl w .int⟩⟩
theorem WC {f : Int -> Int -> Bool} : Zr (rI0 fun i j => .bl (f i j)) (aI0 fun i j => .bl (f i j)) := ⟨fun w r1 r2 ⟨i, j, e1, e2, q⟩ k => by
 subst e1 e2; exact ⟨i, j, zJ r1, zJ r2, k _ _ _ _ _ q .refl w .bl⟩⟩
theorem AQ {C : Int -> Int -> Prop} {f : Int -> Int -> Int} : D3 (rI C fun i j => .int (f i j)) (aI C fun i j => .int (f i j)) := ⟨fun w r1 r2 ⟨i, j, e1, e2, c, q⟩ k => by
 subst e1 e2; exact ⟨i, j, zJ r1, zJ r2, c, k _ _ _ _ _ q .refl w .int⟩⟩
noncomputable def aU (g : Int -> Dat) : AV -> MH -> AK -> Prop := fun x M Q => ∃ i, x = .d (.int i) /\ Q (.d (g i)) M
theorem FX {f : Int -> Int} : GU (rU fun i => .int (f i)) (aU fun i => .int (f i)) := ⟨fun w r1 ⟨i, e1, q⟩ k => by
 subst e1; exact ⟨i, zJ r1, k _ _ _ _ _ q .refl w .int⟩⟩
noncomputable def eqS : Dat -> Dat -> Option Bool
 | .non, .non => some true | .non, .int _ => some false | .int _, .non => some false | .non, .bl _ => some false | .bl _, .non => some false | .non, .str _ => some false | .str _, .non => some false
 | .int i, .int j => some (decide (i = j)) | .bl a, .bl b => some (decide (a = b)) | .str a, .str b => some (decide (a = b))
 | .int _, .str _ => some false | .str _, .int _ => some false | .bl _, .str _ => some false | .str _, .bl _ => some false
 | _, _ => none
noncomputable def yL : AV -> Bool
 | .d .non => true
 | _ => false
theorem Bh {H : Hp} {O : Own} {M : MH} {xs : List V} {l : List AV} (r : zg H O M xs l) {i : Int} {x : AV} (h : atI l i = some x) : ∃ v, atI xs i = some v /\ zz H O M v x := by
 unfold atI at h ⊢
 rw [r.1]
 cases e : ixN l.length i with
 | none => rw [e] at h; cases h
 | some j => rw [e] at h; exact r.get h
noncomputable def aIx (s : AV -> MH -> Option (List AV)) : AR2 := fun x y M Q => ∃ l i z, s x M = some l /\ y = .d (.int i) /\ atI l i = some z /\ Q z M
theorem WR {K : PySem.W.Frag} : Zr (KC K) (aIx qu) := ⟨fun w r1 r2 ⟨l, i, z, h, e, hz, q⟩ k => by
 subst e
 obtain ⟨a, xs, rfl, h1, r⟩ := yp w r1 h
 obtain ⟨v, hv, rv⟩ := Bh r hz
 exact ⟨a, xs, i, v, rfl, zJ r2, h1.elim (fun h => .inl (SqL.of h)) (fun h => .inr (SqT.of h)), hv, k _ _ _ _ _ q .refl w rv⟩⟩
structure WF (r : R2) (a : AV -> AV -> MH -> (List AV -> Prop) -> Prop) : Prop where
 go : ∀ {x y : V} {dx dy : AV} {H : Hp} {O : Own} {M : MH} {Q : VK} {Q' : List AV -> Prop}, Wf H O M -> zz H O M x dx -> zz H O M y dy -> a dx dy M Q' -> (∀ l ys, Q' l -> zg H O M ys l -> ∀ p, H p = none -> Q (.ref p) (upd H p (.lst ys))) -> r x y H Q
noncomputable def fOp (r : AV -> AV -> MH -> (List AV -> Prop) -> Prop) (a b : AE) : AF := fun ρ M Q => a ρ M fun x M1 => b ρ M1 fun y M2 => r x y M2 fun l => Q l M2
theorem Zp {r : R2} {ra : AV -> AV -> MH -> (List AV -> Prop) -> Prop} {t u : TE} {a b : AE} (hr : WF r ra) (h1 : zR t a) (h2 : zR u b) : wy (tOp r t u) (fOp ra a b) :=
 ⟨fun w e q k => h1.go w e q fun x M1 v H1 O1 q1 k1 w1 r1 => h2.go w1 (e.ext k1) q1 fun y M2 u H2 O2 q2 k2 w2 r2 => hr.go w2 (r1.ext k2) r2 q2 fun l ys q3 r3 p hp =>
  k l M2 p ys _ _ q3 ((k1.trans k2).trans (qI w2 hp _)) (yo w2 hp _ (fun _ z => nomatch z)) (.inl rfl) (w2.fresh hp).2 (kJ w2 (k1.trans k2) hp) zh (r3.ext (qI w2 hp _))⟩
noncomputable def Gz : AV -> AV -> MH -> (List AV -> Prop) -> Prop := fun x y M Q => ∃ l m, qp x M = some l /\ qp y M = some m /\ l.length + m.length <= sizeLine /\ Q (l ++ m)
theorem QY : WF Da Gz := ⟨fun w r1 r2 ⟨l, m, h1, h2, hs, q⟩ k => by
 obtain ⟨a, xs, rfl, e1, p1⟩ := ql w r1 h1
 obtain ⟨b, ys, rfl, e2, p2⟩ := ql w r2 h2
 exact ⟨a, b, xs, ys, rfl, rfl, e1, e2, by rw [p1.1, p2.1]; exact hs, k _ _ q (p1.append p2)⟩⟩
theorem zg.rep {H : Hp} {O : Own} {M : MH} {xs : List V} {l : List AV} (a : zg H O M xs l) : ∀ k : Nat, zg H O M (List.replicate k xs).flatten (List.replicate k l).flatten
 | 0 => .nil
 | k + 1 => by rw [List.replicate_succ, List.replicate_succ, List.flatten_cons, List.flatten_cons]; exact a.append (zg.rep a k)
noncomputable def F5 : AV -> AV -> MH -> (List AV -> Prop) -> Prop := fun x y M Q => ∃ l k, qp x M = some l /\ y = .d (.int k) /\ -(2 ^ 63) <= k /\ k < 2 ^ 63 /\ l.length * k.toNat <= sizeLine /\ Q (List.replicate k.toNat l).flatten
theorem Qv : WF Dy F5 := ⟨fun w r1 r2 ⟨l, n, h1, e, b1, b2, hs, q⟩ k => by
 subst e
 obtain ⟨a, xs, rfl, e1, p1⟩ := ql w r1 h1
 exact ⟨a, n, xs, rfl, zJ r2, e1, b1, b2, by rw [p1.1]; exact hs, k _ _ q (p1.rep _)⟩⟩
noncomputable abbrev AO := ASt -> MH -> (Option Int -> MH -> Prop) -> Prop
structure Jw (t : TO) (a : AO) : Prop where
 go : ∀ {σ : St} {H : Hp} {O : Own} {ρ : ASt} {M : MH} {Q : Option Int -> Hp -> Prop} {Q' : Option Int -> MH -> Prop}, Wf H O M -> Er H O M σ ρ -> a ρ M Q' -> (∀ x M' H' O', Q' x M' -> Ext H O M H' O' M' -> Wf H' O' M' -> Q x H') -> t σ H Q
noncomputable def GQ : AO := fun _ M Q => Q none M
noncomputable def DK (a : AE) : AO := fun ρ M Q => a ρ M fun x M1 => ∃ i, x = .d (.int i) /\ Q (some i) M1
theorem Dh : Jw ZG GQ := ⟨fun w _ q k => k _ _ _ _ q .refl w⟩
theorem Ad {t : TE} {a : AE} (h : zR t a) : Jw (Ax t) (DK a) := ⟨fun w e q k => h.go w e q fun x M1 v H1 O1 ⟨i, e1, q1⟩ k1 w1 r1 => by
 subst e1; exact ⟨i, zJ r1, k _ _ _ _ q1 k1 w1⟩⟩
noncomputable def WS {α : Type} (xs : List α) (lo hi : Option Int) : List α := (xs.drop (HT.sIx xs.length 0 lo)).take (HT.sIx xs.length xs.length hi - HT.sIx xs.length 0 lo)
theorem zg.cut {H : Hp} {O : Own} {M : MH} {xs : List V} {l : List AV} (a : zg H O M xs l) (lo hi : Option Int) : zg H O M (vt xs lo hi) (WS l lo hi) := by
 unfold vt WS
 rw [a.1]
 exact (a.drop _).take _
noncomputable def fSl (a : AE) (lo hi : AO) : AF := fun ρ M Q => a ρ M fun x M1 => lo ρ M1 fun i M2 => hi ρ M2 fun j M3 => ∃ l, qp x M3 = some l /\ Q (WS l i j) M3
theorem BA {K : PySem.W.Frag} {t : TE} {tl th : TO} {a : AE} {lo hi : AO} (h1 : zR t a) (h2 : Jw tl lo) (h3 : Jw th hi) : wy (tSl (A7 K) t tl th) (fSl a lo hi) :=
 ⟨fun w e q k => h1.go w e q fun x M1 v H1 O1 q1 k1 w1 r1 => h2.go w1 (e.ext k1) q1 fun i M2 H2 O2 q2 k2 w2 => h3.go w2 (e.ext (k1.trans k2)) q2 fun j M3 H3 O3 ⟨l, hl, q3⟩ k3 w3 => by
  obtain ⟨a, xs, rfl, e1, p1⟩ := ql w3 (r1.ext (k2.trans k3)) hl
  exact ⟨a, xs, rfl, SqL.of e1, fun p hp => k _ _ p _ _ _ q3 (((k1.trans k2).trans k3).trans (qI w3 hp _)) (yo w3 hp _ (fun _ z => nomatch z)) (.inl rfl) (w3.fresh hp).2 (kJ w3 ((k1.trans k2).trans k3) hp) zh ((p1.cut i j).ext (qI w3 hp _))⟩⟩
theorem B8 {H : Hp} {O : Own} {M : MH} (w : Wf H O M) {p : Addr} (hp : H p = none) {xs : List V} {l : List Dat} (r : zg H O M xs (l.map .d)) : zz (upd H p (.tup xs)) O M (.ref p) (.d (.tup l)) :=
 have r2 := r.pure
 Rep.tup (w.fresh hp).1 zh r2.1 fun i x d e1 e2 => (r2.2 i x d e1 e2).ext (jn w hp _)
theorem zg.sl {H : Hp} {O : Own} {M : MH} : ∀ (ks : List Nat) {xs : List V} {l : List AV}, zg H O M xs l -> zg H O M (ks.filterMap fun k => xs[k]?) (ks.filterMap fun k => l[k]?)
 | [], _, _, _ => .nil
 | k :: r, xs, l, a => by
  rw [List.filterMap_cons, List.filterMap_cons]
  cases e : xs[k]? with
  | none =>
   have : l[k]? = none := by
    rw [List.getElem?_eq_none_iff, <- a.1]
    exact List.getElem?_eq_none_iff.mp e
   rw [this]
   exact zg.sl r a
  | some v =>
   obtain ⟨d, hd, rd⟩ := a.get' e
   rw [hd]
   exact .cons rd (zg.sl r a)
noncomputable def slA {α : Type} (xs : List α) (lo hi st : Option Int) : List α := (sliceRange (sliceBounds lo hi st xs.length).1 (sliceBounds lo hi st xs.length).2.1 (sliceBounds lo hi st xs.length).2.2).filterMap fun k => xs[k]?
noncomputable def Hc (a : AE) (lo hi st : AO) : AF := fun ρ M Q => a ρ M fun x M1 => lo ρ M1 fun i M2 => hi ρ M2 fun j M3 => st ρ M3 fun z M4 => ∃ l, qp x M4 = some l /\ z ≠ some 0 /\ Q (slA l i j z) M4
theorem Wa {K : PySem.W.Frag} {t : TE} {tl th ts : TO} {a : AE} {lo hi st : AO} (h1 : zR t a) (h2 : Jw tl lo) (h3 : Jw th hi) (h4 : Jw ts st) : wy (Fh K t tl th ts) (Hc a lo hi st) :=
 ⟨fun w e q k => h1.go w e q fun x M1 v H1 O1 q1 k1 w1 r1 => h2.go w1 (e.ext k1) q1 fun i M2 H2 O2 q2 k2 w2 => h3.go w2 (e.ext (k1.trans k2)) q2 fun j M3 H3 O3 q3 k3 w3 => h4.go w3 (e.ext ((k1.trans k2).trans k3)) q3 fun z M4 H4 O4 ⟨l, hl, hz, q4⟩ k4 w4 => by
  obtain ⟨a, xs, rfl, e1, p1⟩ := ql w4 (r1.ext ((k2.trans k3).trans k4)) hl
  have k14 := ((k1.trans k2).trans k3).trans k4
  have p2 : zg H4 O4 M4 (slV xs i j z) (slA l i j z) := by unfold slV slA; rw [p1.1]; exact zg.sl _ p1
  exact ⟨a, xs, rfl, SqL.of e1, hz, fun p hp => k _ _ p _ _ _ q4 (k14.trans (qI w4 hp _)) (yo w4 hp _ (fun _ z => nomatch z)) (.inl rfl) (w4.fresh hp).2 (kJ w4 k14 hp) zh (p2.ext (qI w4 hp _))⟩⟩
end L2
set_option Elab.async false
set_option linter.all false
set_option maxRecDepth 100000
set_option maxHeartbeats 4000000
namespace L2
open PySem PySem.Spec PyProof.Rows
mutual
noncomputable def eqD : Dat -> Dat -> Bool
 | .non, .non => true
 | .bl a, .bl b => a == b
 | .bl a, .int b => (if a then 1 else 0) == b
 | .int a, .bl b => a == (if b then 1 else 0)
 | .int a, .int b => a == b
 | .str a, .str b => a == b
 | .lst a, .lst b => xx a b
 | .tup a, .tup b => xx a b
 | _, _ => false
noncomputable def xx : List Dat -> List Dat -> Bool
 | [], [] => true
 | a :: r, b :: r' => eqD a b && xx r r'
 | _, _ => false
end
mutual
noncomputable def dp : Dat -> Nat
 | .lst l => dps l + 1
 | .tup l => dps l + 1
 | .rng _ _ _ => 1000
 | .scr _ _ => 1000
 | .ty _ => 1000
 | _ => 0
noncomputable def dps : List Dat -> Nat
 | [] => 0
 | a :: r => max (dp a) (dps r)
end
theorem Zt {l : List Dat} {n : Nat} (h : ∀ d ∈ l, dp d <= n) : dps l <= n := by
 induction l with
 | nil => exact Nat.zero_le _
 | cons a r ih => rw [dps]; exact Nat.max_le.mpr ⟨h a (by simp), ih fun d hd => h d (by simp [hd])⟩
theorem qv {l : List Dat} {d : Dat} (h : d ∈ l) : dp d <= dps l := by
 induction l with
 | nil => cases h
 | cons a r ih =>
  rw [dps]
  rcases List.mem_cons.mp h with rfl | h
  ·exact Nat.le_max_left _ _
  ·exact Nat.le_trans (ih h) (Nat.le_max_right _ _)
theorem kY : ∀ (l m : List Dat), l.length = m.length -> xx l m = (List.range l.length).all fun j => eqD (l.getD j .non) (m.getD j .non)
 | [], [], _ => rfl
 | a :: r, b :: r', h => by
  rw [xx, kY r r' (by simpa using h), List.length_cons, List.range_succ_eq_map, List.all_cons, List.all_map]; rfl
 | [], _ :: _, h => by simp at h
 | _ :: _, [], h => by simp at h
theorem kW : ∀ (l m : List Dat), l.length ≠ m.length -> xx l m = false
 | [], [], h => absurd rfl h
 | a :: r, b :: r', h => by rw [xx, kW r r' (fun z => h (by simp [z])), Bool.and_false]
 | [], _ :: _, h => by simp [xx]
 | _ :: _, [], h => by simp [xx]
theorem WP (l m : List Dat) : eqD (.lst l) (.tup m) = false := by simp [eqD]
theorem VL (l m : List Dat) : eqD (.tup l) (.lst m) = false := by simp [eqD]
theorem BF {p : Dat -> Prop} (h : ∀ a, (∀ b, dp b < dp a -> p b) -> p a) (a : Dat) : p a := by
 have : ∀ n a, dp a <= n -> p a := fun n => by
  induction n with
  | zero => intro a ha; exact h a fun b hb => absurd hb (by omega)
  | succ n ih => intro a ha; exact h a fun b hb => ih b (by omega)
 exact this (dp a) a (Nat.le_refl _)
theorem Za {l : List Dat} (h : ∀ d ∈ l, eqD d d = true) : xx l l = true := by
 induction l with
 | nil => rfl
 | cons a r ih => rw [xx, h a (by simp), ih fun d hd => h d (by simp [hd])]; rfl
theorem kQ {a : Dat} : dp a < 1000 -> eqD a a = true := by
 refine BF (p := fun a => dp a < 1000 -> eqD a a = true) (fun a ih ha => ?_) a
 cases a with
 | non => rfl
 | bl b => rw [eqD]; simp
 | int i => rw [eqD]; simp
 | str x => rw [eqD]; simp
 | lst l =>
  rw [eqD]
  rw [dp] at ha ih
  exact Za fun d hd => ih d (by have := qv hd; omega) (by have := qv hd; omega)
 | tup l =>
  rw [eqD]
  rw [dp] at ha ih
  exact Za fun d hd => ih d (by have := qv hd; omega) (by have := qv hd; omega)
 | rng a b c => rw [dp] at ha; omega
 | scr _ l => rw [dp] at ha; omega
 | ty l => rw [dp] at ha; omega
theorem Rep.fn {H : Hp} {O O' : Own} {v : V} {a b : Dat} (r : Rep H O v a) : Rep H O' v b -> dp a < 1000 -> dp b < 1000 -> a = b := by
 induction r generalizing b with
 | non => intro r' _ _; cases r'; rfl
 | bl => intro r' _ _; cases r'; rfl
 | int => intro r' _ _; cases r'; rfl
 | str => intro r' _ _; cases r'; rfl
 | ty => intro r' h _; rw [dp] at h; omega
 | rng _ _ => intro r' h _; rw [dp] at h; omega
 | scr _ _ => intro r' h _; rw [dp] at h; omega
 | scrK _ => intro r' h _; rw [dp] at h; omega
 | @lst a xs l o1 h1 l1 r1 ih =>
  intro r' ha hb
  cases r' with
  | @lst _ ys m o2 h2 l2 r2 =>
   rw [h1] at h2; cases h2
   congr 1
   refine List.ext_getElem (l1.symm.trans l2) fun i i1 i2 => ?_
   have i0 : i < xs.length := by omega
   rw [dp] at ha hb
   refine ih i xs[i] l[i] (by simp [i0]) (by simp [i1]) (r2 i xs[i] m[i] (by simp [i0]) (by simp [i2])) ?_ ?_
   ·have := qv (List.getElem_mem i1); omega
   ·have := qv (List.getElem_mem i2); omega
  | @tup _ ys m o2 h2 => rw [h1] at h2; cases h2
  | rng o2 h2 => rw [dp] at hb; omega
  | scr o2 h2 => rw [dp] at hb; omega
  | scrK _ => rw [dp] at hb; omega
 | @tup a xs l o1 h1 l1 r1 ih =>
  intro r' ha hb
  cases r' with
  | @tup _ ys m o2 h2 l2 r2 =>
   rw [h1] at h2; cases h2
   congr 1
   refine List.ext_getElem (l1.symm.trans l2) fun i i1 i2 => ?_
   have i0 : i < xs.length := by omega
   rw [dp] at ha hb
   refine ih i xs[i] l[i] (by simp [i0]) (by simp [i1]) (r2 i xs[i] m[i] (by simp [i0]) (by simp [i2])) ?_ ?_
   ·have := qv (List.getElem_mem i1); omega
   ·have := qv (List.getElem_mem i2); omega
  | @lst _ ys m o2 h2 => rw [h1] at h2; cases h2
  | rng o2 h2 => rw [dp] at hb; omega
  | scr o2 h2 => rw [dp] at hb; omega
  | scrK _ => rw [dp] at hb; omega
section
variable {X : Cx} {pins : List (Addr × Obj)} {s : Shared} {σ : St} {H : Hp}
theorem kP {xs : List V} {us : List Value} (r : zF xs us) {j : Nat} (h : j < us.toArray.size) : ∃ x, xs[j]? = some x /\ zE x us.toArray[j] := by
 have h' : j < us.length := by simpa using h
 have hx : j < xs.length := by rw [r.length]; exact h'
 obtain ⟨u, hu, ru⟩ := r.get (i := j) (List.getElem?_eq_getElem hx)
 have e : us.toArray[j] = u := by
  have := (List.getElem?_eq_some_iff.mp hu).2
  simpa using this
 exact ⟨xs[j], List.getElem?_eq_getElem hx, by rw [e]; exact ru⟩
theorem WZ (I : Inv X pins σ H s) {A : Around} {p q : Addr} {O O' : Own} {a b : Dat} (ih : ∀ (c d : Dat) (v u : V) (v' u' : Value), dp c < dp a -> Rep H O v c -> Rep H O' u d -> dp d < 1000 -> zE v v' -> zE u u' -> SeqAt.EqAt A.in1 s v' u' (eqD c d))
    (ra : Rep H O (.ref p) a) (rb : Rep H O' (.ref q) b) (ha : dp a < 1000) (hb : dp b < 1000) (hu : A.units < cLine) : SeqAt.RcAt A s (.ref p) (.ref q) (eqD a b) := by
  cases ra with
  | @lst _ xs l o1 h1 l1 r1 =>
    obtain ⟨us, u1, p1, z1⟩ := I.list (SqL.of h1)
    cases rb with
    | @lst _ ys m o2 h2 l2 r2 =>
      obtain ⟨ws, u2, p2, z2⟩ := I.list (SqL.of h2)
      have s1 : us.toArray.size = l.length := by rw [List.size_toArray, <- u1.length, l1]
      have s2 : ws.toArray.size = m.length := by rw [List.size_toArray, <- u2.length, l2]
      by_cases e : l.length = m.length
      · have h := SeqAt.RcAt.lists (A := A) (e := fun j => eqD (l.getD j .non) (m.getD j .non)) p1.isList p2.isList (by rw [s1, s2, e]) hu (fun j j1 j2 => by
          obtain ⟨x, hx, rx⟩ := kP u1 j1
          obtain ⟨y, hy, ry⟩ := kP u2 j2
          have k1 : j < l.length := by rw [<- s1]; exact j1
          have k2 : j < m.length := by rw [<- s2]; exact j2
          rw [dp] at ha hb ih
          refine ih _ _ x y _ _ ?_ (r1 j x _ hx ?_) (r2 j y _ hy ?_) ?_ rx ry
          · rw [List.getD_eq_getElem?_getD, List.getElem?_eq_getElem k1]
            have := qv (List.getElem_mem k1); show dp l[j] < _; omega
          · rw [List.getD_eq_getElem?_getD, List.getElem?_eq_getElem k1]; rfl
          · rw [List.getD_eq_getElem?_getD, List.getElem?_eq_getElem k2]; rfl
          · rw [List.getD_eq_getElem?_getD, List.getElem?_eq_getElem k2]
            have := qv (List.getElem_mem k2); show dp m[j] < _; omega)
        rw [s1, <- kY l m e] at h
        rw [eqD]; exact h
      · rw [eqD, kW l m e]
        exact SeqAt.RcAt.lists_lengths p1.isList p2.isList (by rw [s1, s2]; simpa using e) hu
    | @tup _ ys m o2 h2 l2 r2 =>
      obtain ⟨ws, u2, p2, z2⟩ := I.tuple (SqT.of h2)
      rw [WP]
      exact SeqAt.RcAt.list_tuple p1.isList p2 hu
    | rng o2 h2 => rw [dp] at hb; omega
    | scr o2 h2 => rw [dp] at hb; omega
    | scrK _ => rw [dp] at hb; omega
  | @tup _ xs l o1 h1 l1 r1 =>
    obtain ⟨us, u1, p1, z1⟩ := I.tuple (SqT.of h1)
    cases rb with
    | @tup _ ys m o2 h2 l2 r2 =>
      obtain ⟨ws, u2, p2, z2⟩ := I.tuple (SqT.of h2)
      have s1 : us.toArray.size = l.length := by rw [List.size_toArray, <- u1.length, l1]
      have s2 : ws.toArray.size = m.length := by rw [List.size_toArray, <- u2.length, l2]
      have h := SeqAt.RcAt.tuples (A := A) (e := fun j => eqD (l.getD j .non) (m.getD j .non)) (show s.heap.IsTuple p us.toArray from p1) (show s.heap.IsTuple q ws.toArray from p2) hu (fun j j1 j2 => by
          obtain ⟨x, hx, rx⟩ := kP u1 j1
          obtain ⟨y, hy, ry⟩ := kP u2 j2
          have k1 : j < l.length := by rw [<- s1]; exact j1
          have k2 : j < m.length := by rw [<- s2]; exact j2
          rw [dp] at ha hb ih
          refine ih _ _ x y _ _ ?_ (r1 j x _ hx ?_) (r2 j y _ hy ?_) ?_ rx ry
          · rw [List.getD_eq_getElem?_getD, List.getElem?_eq_getElem k1]
            have := qv (List.getElem_mem k1); show dp l[j] < _; omega
          · rw [List.getD_eq_getElem?_getD, List.getElem?_eq_getElem k1]; rfl
          · rw [List.getD_eq_getElem?_getD, List.getElem?_eq_getElem k2]; rfl
          · rw [List.getD_eq_getElem?_getD, List.getElem?_eq_getElem k2]
            have := qv (List.getElem_mem k2); show dp m[j] < _; omega)
      rw [s1, s2] at h
      rw [eqD]
      by_cases e : l.length = m.length
      · rw [<- e, Nat.min_self, beq_self_eq_true, Bool.and_true, <- kY l m e] at h
        exact h
      · rw [kW l m e]
        rw [show (l.length == m.length) = false by simpa using e, Bool.and_false] at h
        exact h
    | @lst _ ys m o2 h2 l2 r2 =>
      obtain ⟨ws, u2, p2, z2⟩ := I.list (SqL.of h2)
      rw [VL]
      exact SeqAt.RcAt.tuple_list p1 p2.isList hu
    | rng o2 h2 => rw [dp] at hb; omega
    | scr o2 h2 => rw [dp] at hb; omega
    | scrK _ => rw [dp] at hb; omega
  | rng o2 h2 => rw [dp] at ha; omega
  | scr o2 h2 => rw [dp] at ha; omega
  | scrK _ => rw [dp] at ha; omega
theorem HN (I : Inv X pins σ H s) {a : Addr} {xs : List V} (h : H a = some (.lst xs)) : ∃ us, s.heap.IsList a us := let ⟨_, _, p, _⟩ := I.list (SqL.of h); ⟨_, p.isList⟩
theorem HJ (I : Inv X pins σ H s) {a : Addr} {xs : List V} (h : H a = some (.tup xs)) : ∃ us, s.heap.IsTuple a us := let ⟨_, _, p, _⟩ := I.tuple (SqT.of h); ⟨_, p⟩
local macro_rules | `(tactic| walk_at "sc") => `(tactic| first
 | with_reducible exact .same _ | with_reducible exact .none_none | with_reducible exact .none_bool _ | with_reducible exact .none_int _ _ | with_reducible exact .none_str _ _ | with_reducible exact .bool_none _ | with_reducible exact .bool_bool _ _ | with_reducible exact .bool_int _ _ _ | with_reducible exact .bool_str _ _ _ | with_reducible exact .int_none _ _ | with_reducible exact .int_bool _ _ _ | with_reducible exact .int_int _ _ _ _ | with_reducible exact .int_str _ _ _ _ | with_reducible exact .str_none _ _ | with_reducible exact .str_bool _ _ _ | with_reducible exact .str_int _ _ _ _ | with_reducible exact .str_str _ _ _ _)
theorem ls_ (I : Inv X pins σ H s) {a : Addr} {xs : List V} (h : H a = some (.lst xs)) : s.heap.IsList a (Classical.choose (HN I h)) := Classical.choose_spec _
theorem ts_ (I : Inv X pins σ H s) {a : Addr} {xs : List V} (h : H a = some (.tup xs)) : s.heap.IsTuple a (Classical.choose (HJ I h)) := Classical.choose_spec _
local macro_rules | `(tactic| walk_at "sq") => `(tactic| first
 | with_reducible exact .none_list (ls_ (by assumption) (by assumption)) (by assumption) | with_reducible exact .bool_list _ (ls_ (by assumption) (by assumption)) (by assumption) | with_reducible exact .int_list _ _ (ls_ (by assumption) (by assumption)) (by assumption) | with_reducible exact .str_list _ _ (ls_ (by assumption) (by assumption)) (by assumption) | with_reducible exact .list_none (ls_ (by assumption) (by assumption)) (by assumption) | with_reducible exact .list_bool _ (ls_ (by assumption) (by assumption)) (by assumption) | with_reducible exact .list_int _ _ (ls_ (by assumption) (by assumption)) (by assumption) | with_reducible exact .list_str _ _ (ls_ (by assumption) (by assumption)) (by assumption)
 | with_reducible exact .none_tuple (ts_ (by assumption) (by assumption)) (by assumption) | with_reducible exact .bool_tuple _ (ts_ (by assumption) (by assumption)) (by assumption) | with_reducible exact .int_tuple _ _ (ts_ (by assumption) (by assumption)) (by assumption) | with_reducible exact .str_tuple _ _ (ts_ (by assumption) (by assumption)) (by assumption) | with_reducible exact .tuple_none (ts_ (by assumption) (by assumption)) (by assumption) | with_reducible exact .tuple_bool _ (ts_ (by assumption) (by assumption)) (by assumption) | with_reducible exact .tuple_int _ _ (ts_ (by assumption) (by assumption)) (by assumption) | with_reducible exact .tuple_str _ _ (ts_ (by assumption) (by assumption)) (by assumption))
theorem Xj (I : Inv X pins σ H s) {O O' : Own} (A : Around) (hu : A.units < cLine) (a b : Dat) (v u : V) (v' u' : Value) (ha : dp a < 1000) (ra : Rep H O v a) (rb : Rep H O' u b) (hb : dp b < 1000) (rv : zE v v') (ru : zE u u')
    (ih : ∀ (c d : Dat) (v u : V) (v' u' : Value), dp c < dp a -> Rep H O v c -> Rep H O' u d -> dp d < 1000 -> zE v v' -> zE u u' -> SeqAt.EqAt A.in1 s v' u' (eqD c d)) : SeqAt.EqAt A s v' u' (eqD a b) := by
  by_cases hr : ∃ p q, v = .ref p /\ u = .ref q
  · obtain ⟨p, q, rfl, rfl⟩ := hr
    cases rv
    cases ru
    by_cases e : p = q
    · subst e
      rw [<- ra.fn rb ha hb, kQ ha]
      exact .same _
    · exact .of_refs e (WZ I ih ra rb ha hb hu)
  · cases ra <;> cases rb <;> first
      | with_reducible exact absurd ⟨_, _, rfl, rfl⟩ hr
      | (rw [dp] at ha; omega)
      | (rw [dp] at hb; omega)
      | ((first | (obtain ⟨t0, rfl⟩ := rv) | cases rv); (first | (obtain ⟨t1, rfl⟩ := ru) | cases ru); simp only [eqD, Bool.not_false, Bool.not_true]; first | walk_at "sc" | walk_at "sq")
theorem W0 (I : Inv X pins σ H s) {O O' : Own} : ∀ (n : Nat) (A : Around), A.units + n < cLine -> ∀ (a b : Dat) (v u : V) (v' u' : Value), dp a <= n -> n < 1000 -> Rep H O v a -> Rep H O' u b -> dp b < 1000 -> zE v v' -> zE u u' -> SeqAt.EqAt A s v' u' (eqD a b) := by
 intro n
 induction n with
 | zero =>
  intro A hu a b v u v' u' ha _ ra rb hb rv ru
  exact Xj I A (by omega) a b v u v' u' (by omega) ra rb hb rv ru fun _ _ _ _ _ _ h => absurd h (by omega)
 | succ n ih =>
  intro A hu a b v u v' u' ha hn ra rb hb rv ru
  exact Xj I A (by omega) a b v u v' u' (by omega) ra rb hb rv ru fun c d x y x' y' hc rc rd hd rx ry => ih A.in1 (by show A.units + 1 + n < _; omega) c d x y x' y' (by omega) (by omega) rc rd hd rx ry
noncomputable def Es (f : Bool -> Bool) : R2 := fun x y H Q => ∃ O O' a b, Rep H O x a /\ Rep H O' y b /\ dp a <= 40 /\ dp b <= 40 /\ Q (.bl (f (eqD a b))) H
theorem Et (I : Inv X pins σ H s) {O O' : Own} (A : Around) (hu : A.units + 41 < cLine) (a b : Dat) (v u : V) (v' u' : Value) (ha : dp a <= 40) (ra : Rep H O v a) (rb : Rep H O' u b) (hb : dp b <= 40) (rv : zE v v') (ru : zE u u') : SeqAt.RcAt A s v' u' (eqD a b) := by
  have ih : ∀ (c d : Dat) (v u : V) (v' u' : Value), dp c < dp a -> Rep H O v c -> Rep H O' u d -> dp d < 1000 -> zE v v' -> zE u u' -> SeqAt.EqAt A.in1 s v' u' (eqD c d) := fun c d v u v' u' hc rc rd hd rv ru => W0 I 40 A.in1 (by show A.units + 1 + 40 < _; omega) c d v u v' u' (by omega) (by omega) rc rd hd rv ru
  replace hu : A.units < cLine := by omega
  by_cases hr : ∃ p q, v = .ref p /\ u = .ref q
  · obtain ⟨p, q, rfl, rfl⟩ := hr
    cases rv
    cases ru
    exact WZ I ih ra rb (by omega) (by omega) hu
  · cases ra <;> cases rb <;> first
      | with_reducible exact absurd ⟨_, _, rfl, rfl⟩ hr
      | (rw [dp] at ha; omega)
      | (rw [dp] at hb; omega)
      | ((first | (obtain ⟨t0, rfl⟩ := rv) | cases rv); (first | (obtain ⟨t1, rfl⟩ := ru) | cases ru); simp only [eqD, Bool.not_false, Bool.not_true]; first | walk_at "sc" | walk_at "sq")
theorem Ay (I : Inv X pins σ H s) {A : Around} {p q : Addr} {O O' : Own} {a b : Dat} (ih : ∀ (c d : Dat) (v u : V) (v' u' : Value), dp c < dp a -> Rep H O v c -> Rep H O' u d -> dp d < 1000 -> zE v v' -> zE u u' -> SeqAt.EqAt A.in1 s v' u' (eqD c d))
    (ra : Rep H O (.ref p) a) (rb : Rep H O' (.ref q) b) (ha : dp a < 1000) (hb : dp b < 1000) (hu : A.units < cLine) : SeqAt.RcNeAt A s (.ref p) (.ref q) (!(eqD a b)) := by
  cases ra with
  | @lst _ xs l o1 h1 l1 r1 =>
    obtain ⟨us, u1, p1, z1⟩ := I.list (SqL.of h1)
    cases rb with
    | @lst _ ys m o2 h2 l2 r2 =>
      obtain ⟨ws, u2, p2, z2⟩ := I.list (SqL.of h2)
      have s1 : us.toArray.size = l.length := by rw [List.size_toArray, <- u1.length, l1]
      have s2 : ws.toArray.size = m.length := by rw [List.size_toArray, <- u2.length, l2]
      by_cases e : l.length = m.length
      · have h := SeqAt.RcNeAt.lists (A := A) (e := fun j => eqD (l.getD j .non) (m.getD j .non)) p1.isList p2.isList (by rw [s1, s2, e]) hu (fun j j1 j2 => by
          obtain ⟨x, hx, rx⟩ := kP u1 j1
          obtain ⟨y, hy, ry⟩ := kP u2 j2
          have k1 : j < l.length := by rw [<- s1]; exact j1
          have k2 : j < m.length := by rw [<- s2]; exact j2
          rw [dp] at ha hb ih
          refine ih _ _ x y _ _ ?_ (r1 j x _ hx ?_) (r2 j y _ hy ?_) ?_ rx ry
          · rw [List.getD_eq_getElem?_getD, List.getElem?_eq_getElem k1]
            have := qv (List.getElem_mem k1); show dp l[j] < _; omega
          · rw [List.getD_eq_getElem?_getD, List.getElem?_eq_getElem k1]; rfl
          · rw [List.getD_eq_getElem?_getD, List.getElem?_eq_getElem k2]; rfl
          · rw [List.getD_eq_getElem?_getD, List.getElem?_eq_getElem k2]
            have := qv (List.getElem_mem k2); show dp m[j] < _; omega)
        rw [s1, <- kY l m e] at h
        rw [eqD]; exact h
      · rw [eqD, kW l m e]
        exact SeqAt.RcNeAt.lists_lengths p1.isList p2.isList (by rw [s1, s2]; simpa using e) hu
    | @tup _ ys m o2 h2 l2 r2 =>
      obtain ⟨ws, u2, p2, z2⟩ := I.tuple (SqT.of h2)
      rw [WP]
      exact SeqAt.RcNeAt.list_tuple p1.isList p2 hu
    | rng o2 h2 => rw [dp] at hb; omega
    | scr o2 h2 => rw [dp] at hb; omega
    | scrK _ => rw [dp] at hb; omega
  | @tup _ xs l o1 h1 l1 r1 =>
    obtain ⟨us, u1, p1, z1⟩ := I.tuple (SqT.of h1)
    cases rb with
    | @tup _ ys m o2 h2 l2 r2 =>
      obtain ⟨ws, u2, p2, z2⟩ := I.tuple (SqT.of h2)
      have s1 : us.toArray.size = l.length := by rw [List.size_toArray, <- u1.length, l1]
      have s2 : ws.toArray.size = m.length := by rw [List.size_toArray, <- u2.length, l2]
      have h := SeqAt.RcNeAt.tuples (A := A) (e := fun j => eqD (l.getD j .non) (m.getD j .non)) (show s.heap.IsTuple p us.toArray from p1) (show s.heap.IsTuple q ws.toArray from p2) hu (fun j j1 j2 => by
          obtain ⟨x, hx, rx⟩ := kP u1 j1
          obtain ⟨y, hy, ry⟩ := kP u2 j2
          have k1 : j < l.length := by rw [<- s1]; exact j1
          have k2 : j < m.length := by rw [<- s2]; exact j2
          rw [dp] at ha hb ih
          refine ih _ _ x y _ _ ?_ (r1 j x _ hx ?_) (r2 j y _ hy ?_) ?_ rx ry
          · rw [List.getD_eq_getElem?_getD, List.getElem?_eq_getElem k1]
            have := qv (List.getElem_mem k1); show dp l[j] < _; omega
          · rw [List.getD_eq_getElem?_getD, List.getElem?_eq_getElem k1]; rfl
          · rw [List.getD_eq_getElem?_getD, List.getElem?_eq_getElem k2]; rfl
          · rw [List.getD_eq_getElem?_getD, List.getElem?_eq_getElem k2]
            have := qv (List.getElem_mem k2); show dp m[j] < _; omega)
      rw [s1, s2] at h
      rw [eqD]
      by_cases e : l.length = m.length
      · rw [<- e, Nat.min_self, beq_self_eq_true, Bool.and_true, <- kY l m e] at h
        exact h
      · rw [kW l m e]
        rw [show (l.length == m.length) = false by simpa using e, Bool.and_false] at h
        exact h
    | @lst _ ys m o2 h2 l2 r2 =>
      obtain ⟨ws, u2, p2, z2⟩ := I.list (SqL.of h2)
      rw [VL]
      exact SeqAt.RcNeAt.tuple_list p1 p2.isList hu
    | rng o2 h2 => rw [dp] at hb; omega
    | scr o2 h2 => rw [dp] at hb; omega
    | scrK _ => rw [dp] at hb; omega
  | rng o2 h2 => rw [dp] at ha; omega
  | scr o2 h2 => rw [dp] at ha; omega
  | scrK _ => rw [dp] at ha; omega
theorem V6 (I : Inv X pins σ H s) {O O' : Own} (A : Around) (hu : A.units + 41 < cLine) (a b : Dat) (v u : V) (v' u' : Value) (ha : dp a <= 40) (ra : Rep H O v a) (rb : Rep H O' u b) (hb : dp b <= 40) (rv : zE v v') (ru : zE u u') : SeqAt.RcNeAt A s v' u' (!(eqD a b)) := by
  have ih : ∀ (c d : Dat) (v u : V) (v' u' : Value), dp c < dp a -> Rep H O v c -> Rep H O' u d -> dp d < 1000 -> zE v v' -> zE u u' -> SeqAt.EqAt A.in1 s v' u' (eqD c d) := fun c d v u v' u' hc rc rd hd rv ru => W0 I 40 A.in1 (by show A.units + 1 + 40 < _; omega) c d v u v' u' (by omega) (by omega) rc rd hd rv ru
  replace hu : A.units < cLine := by omega
  by_cases hr : ∃ p q, v = .ref p /\ u = .ref q
  · obtain ⟨p, q, rfl, rfl⟩ := hr
    cases rv
    cases ru
    exact Ay I ih ra rb (by omega) (by omega) hu
  · cases ra <;> cases rb <;> first
      | with_reducible exact absurd ⟨_, _, rfl, rfl⟩ hr
      | (rw [dp] at ha; omega)
      | (rw [dp] at hb; omega)
      | ((first | (obtain ⟨t0, rfl⟩ := rv) | cases rv); (first | (obtain ⟨t1, rfl⟩ := ru) | cases ru); simp only [eqD, Bool.not_false, Bool.not_true]; first | walk_at "sc" | walk_at "sq")
theorem xi (hu : X.A.units + 64 < cLine) : OpR X (compareOp .Eq) (Es id) := by
 intro pins s σ H x y v u Q I rx ry h
 obtain ⟨O, O', a, b, ra, rb, ha, hb, k⟩ := h
 exact Et I X.A (by omega) a b x y v u ha ra rb hb rx ry _ _ _ _ ⟨.bl _, H, I, rfl, k⟩
theorem xI (hu : X.A.units + 64 < cLine) : OpR X (compareOp .NotEq) (Es not) := by
 intro pins s σ H x y v u Q I rx ry h
 obtain ⟨O, O', a, b, ra, rb, ha, hb, k⟩ := h
 exact V6 I X.A (by omega) a b x y v u ha ra rb hb rx ry _ _ _ _ ⟨.bl _, H, I, rfl, k⟩
end
noncomputable def yV (x : AV) (M : MH) : Option Dat := match x with
 | .d x => some x
 | .ref a => match M a with
  | some (.lst l) => (pur l).map .lst
  | _ => none
theorem FB (x : Dat) (M : MH) : yV (.d x) M = some x := rfl
theorem Q0 {H : Hp} {O : Own} {M : MH} {v : V} {x : AV} {d : Dat} (w : Wf H O M) (r : zz H O M v x) (h : yV x M = some d) : ∃ O', Rep H O' v d := by
 cases x with
 | d x => cases h; exact ⟨O, r⟩
 | ref a =>
  unfold yV at h
  dsimp only at h
  cases e : M a with
  | none => rw [e] at h; cases h
  | some o =>
   rw [e] at h
   cases o with
   | lst l =>
    dsimp only at h
    cases ep : pur l with
    | none => rw [ep] at h; cases h
    | some ds =>
     rw [ep] at h
     cases h
     obtain ⟨xs, hx, rx⟩ := w.mo a _ e
     rw [j8 ep] at rx
     have rp := rx.pure
     refine ⟨BE O a, ?_⟩
     rw [r.1]
     exact Rep.lst (fun z => z.1 rfl) hx rp.1 fun i x d e1 e2 => (rp.2 i x d e1 e2).imp (yh a)
   | _ => cases h
noncomputable def GV (f : Bool -> Bool) : AR2 := fun x y M Q => ∃ a b, yV x M = some a /\ yV y M = some b /\ dp a <= 40 /\ dp b <= 40 /\ Q (.d (.bl (f (eqD a b)))) M
theorem BV {f : Bool -> Bool} : Zr (Es f) (GV f) := ⟨fun w r1 r2 ⟨a, b, e1, e2, h1, h2, q⟩ k => by
 obtain ⟨O1, p1⟩ := Q0 w r1 e1
 obtain ⟨O2, p2⟩ := Q0 w r2 e2
 exact ⟨O1, O2, a, b, p1, p2, h1, h2, k _ _ _ _ _ q .refl w .bl⟩⟩
theorem Wc (i : Int) : dp (.int i) = 0 := by simp [dp]
theorem xQ (ns : List Int) : dp (.lst (ns.map .int)) <= 1 := by
 rw [dp]
 have : dps (ns.map Dat.int) <= 0 := Zt fun d hd => by
  obtain ⟨i, _, rfl⟩ := List.mem_map.mp hd
  rw [Wc]; exact Nat.le_refl _
 omega
theorem Zj : ∀ (ns ms : List Int), xx (ns.map .int) (ms.map .int) = decide (ns = ms)
 | [], [] => by simp [xx]
 | [], _ :: _ => by simp [xx]
 | _ :: _, [] => by simp [xx]
 | a :: r, b :: r' => by
  rw [List.map_cons, List.map_cons, xx, Zj r r', show eqD (.int a) (.int b) = (a == b) by simp [eqD]]
  by_cases h : a = b <;> simp [h]
theorem Y2 (ns ms : List Int) : eqD (.lst (ns.map .int)) (.lst (ms.map .int)) = decide (ns = ms) := by rw [eqD, Zj]
end L2
set_option Elab.async false
set_option linter.all false
set_option maxRecDepth 100000
set_option maxHeartbeats 4000000
namespace L2
open PySem PySem.Spec PyProof.Rows
theorem jd {H : Hp} {O : Own} {M : MH} {vs : List V} {x : AV} (r : zg H O M vs [x]) : ∃ v, vs = [v] /\ zz H O M v x := by
 obtain ⟨v1, r', rfl, a1, r2⟩ := r.cons_inv
 rw [r2.nil_inv]; exact ⟨v1, rfl, a1⟩
theorem xH {H : Hp} {O : Own} {M : MH} {vs : List V} {x y : AV} (r : zg H O M vs [x, y]) : ∃ v u, vs = [v, u] /\ zz H O M v x /\ zz H O M u y := by
 obtain ⟨v1, r', rfl, a1, r2⟩ := r.cons_inv
 obtain ⟨v2, rfl, a2⟩ := jd r2
 exact ⟨v1, v2, rfl, a1, a2⟩
noncomputable def E7 : List AV -> MH -> AK -> Prop := fun xs M Q => ∃ x l, xs = [x] /\ qu x M = some l /\ Q (.d (.int (l.length : Nat))) M
theorem A6 {K : PySem.W.Frag} : QG (fun xs H Q => ∃ p ys, xs = [V.ref p] /\ (SqL K H p ys \/ SqT K H p ys) /\ Q (V.int ys.length) H) E7 := ⟨fun w r ⟨x, l, e, h, q⟩ k => by
 subst e
 obtain ⟨v, rfl, rv⟩ := jd r
 obtain ⟨a, xs, rfl, h1, r1⟩ := yp w rv h
 exact ⟨a, xs, rfl, h1.elim (fun h => .inl (SqL.of h)) (fun h => .inr (SqT.of h)), by rw [r1.1]; exact k _ _ _ _ _ q .refl w .int⟩⟩
noncomputable def bI1 (f : Int -> Int) : List AV -> MH -> AK -> Prop := fun xs M Q => ∃ i, xs = [.d (.int i)] /\ Q (.d (.int (f i))) M
theorem Bd : QG (fun xs H Q => ∃ i, xs = [V.int i] /\ Q (V.int (if i < 0 then -i else i)) H) (bI1 fun i => if i < 0 then -i else i) := ⟨fun w r ⟨i, e, q⟩ k => by
 subst e
 obtain ⟨v, rfl, rv⟩ := jd r
 exact ⟨i, by rw [zJ rv], k _ _ _ _ _ q .refl w .int⟩⟩
noncomputable def bI2 (f : Int -> Int -> Int) : List AV -> MH -> AK -> Prop := fun xs M Q => ∃ i j, xs = [.d (.int i), .d (.int j)] /\ Q (.d (.int (f i j))) M
theorem Ej {f : Int -> Int -> Int} : QG (fun xs H Q => ∃ i j, xs = [V.int i, V.int j] /\ Q (V.int (f i j)) H) (bI2 f) := ⟨fun w r ⟨i, j, e, q⟩ k => by
 subst e
 obtain ⟨v, u, rfl, rv, ru⟩ := xH r
 exact ⟨i, j, by rw [zJ rv, zJ ru], k _ _ _ _ _ q .refl w .int⟩⟩
noncomputable def YQ : List AV -> MH -> AK -> Prop := fun xs M Q => ∃ x l ds, xs = [x] /\ qu x M = some l /\ pur l = some ds /\ Q (.d (.tup ds)) M
theorem Yv {K : PySem.W.Frag} : QG (fun xs H Q => ∃ p ys, xs = [V.ref p] /\ ((SqL K H p ys /\ ∀ l, H l = none -> Q (V.ref l) (upd H l (HO.tup ys))) \/ SqT K H p ys /\ Q (V.ref p) H)) YQ := ⟨fun w r ⟨x, l, ds, e, h, hp, q⟩ k => by
 subst e
 obtain ⟨v, rfl, rv⟩ := jd r
 rw [j8 hp] at h
 rcases jc h with h' | ⟨m, rfl, e2⟩
 ·obtain ⟨a, xs, rfl, h1, r1⟩ := ql w rv h'
  exact ⟨a, xs, rfl, .inl ⟨SqL.of h1, fun p hp => k _ _ _ _ _ q (jn w hp _) (ZX w hp _) (B8 w hp r1)⟩⟩
 ·obtain rfl : ds = m := by have := congrArg pur e2; rw [qg, qg] at this; cases this; rfl
  obtain ⟨a, xs, rfl, h1, r1⟩ := jh (l := ds.map .d) rv rfl
  exact ⟨a, xs, rfl, .inr ⟨SqT.of h1, k _ _ _ _ _ q .refl w rv⟩⟩⟩
structure KR (r : List V -> Hp -> VK -> Prop) (a : List AV -> MH -> (List AV -> Prop) -> Prop) : Prop where
 go : ∀ {vs : List V} {xs : List AV} {H : Hp} {O : Own} {M : MH} {Q : VK} {Q' : List AV -> Prop}, Wf H O M -> zg H O M vs xs -> a xs M Q' -> (∀ l ys, Q' l -> zg H O M ys l -> ∀ p, H p = none -> Q (.ref p) (upd H p (.lst ys))) -> r vs H Q
noncomputable def fCB (r : List AV -> MH -> (List AV -> Prop) -> Prop) (b : AA) : AF := fun ρ M Q => b ρ M fun xs M1 => r xs M1 fun l => Q l M1
theorem Zn {r : List V -> Hp -> VK -> Prop} {ra : List AV -> MH -> (List AV -> Prop) -> Prop} {u : TA} {b : AA} (hr : KR r ra) (h : kF u b) : wy (tCB r u) (fCB ra b) :=
 ⟨fun w e q k => h.go w e q fun x M1 v H1 O1 q1 k1 w1 r1 => hr.go w1 r1 q1 fun l ys q3 r3 p hp =>
  k l M1 p ys _ _ q3 (k1.trans (qI w1 hp _)) (yo w1 hp _ (fun _ z => nomatch z)) (.inl rfl) (w1.fresh hp).2 (kJ w1 k1 hp) zh (r3.ext (qI w1 hp _))⟩
noncomputable def V5 : List AV -> MH -> (List AV -> Prop) -> Prop := fun xs M Q => ∃ x l, xs = [x] /\ qu x M = some l /\ Q l
theorem wW {K : PySem.W.Frag} : KR (fun xs H Q => ∃ p ys, xs = [V.ref p] /\ (SqL K H p ys \/ SqT K H p ys) /\ ∀ l, H l = none -> Q (V.ref l) (upd H l (HO.lst ys))) V5 := ⟨fun w r ⟨x, l, e, h, q⟩ k => by
 subst e
 obtain ⟨v, rfl, rv⟩ := jd r
 obtain ⟨a, xs, rfl, h1, r1⟩ := yp w rv h
 exact ⟨a, xs, rfl, h1.elim (fun h => .inl (SqL.of h)) (fun h => .inr (SqT.of h)), k _ _ q r1⟩⟩
noncomputable def ZM : List AV -> MH -> (List AV -> Prop) -> Prop := fun xs M Q => ∃ x ns, xs = [x] /\ qp x M = some (List.map (fun i => AV.d (.int i)) ns) /\ ns.length < 64 /\ ∀ ns', ns'.Perm ns -> List.Pairwise (fun x1 x2 => x1 <= x2) ns' -> Q (List.map (fun i => AV.d (.int i)) ns')
theorem kI {H : Hp} {O : Own} {M : MH} : ∀ {ns : List Int} {xs : List V}, zg H O M xs (ns.map fun i => AV.d (.int i)) -> xs = ns.map V.int
 | [], xs, r => r.nil_inv
 | i :: ns, xs, r => by
  obtain ⟨v, r', rfl, a1, r2⟩ := r.cons_inv
  rw [zJ a1, kI r2]; rfl
theorem yD {K : PySem.W.Frag} : KR (fun xs H Q => ∃ p ns, xs = [V.ref p] /\ SqL K H p (List.map V.int ns) /\ ns.length < 64 /\ ∀ (l : Addr) (ns' : List Int), H l = none -> ns'.Perm ns -> List.Pairwise (fun x1 x2 => x1 <= x2) ns' -> Q (V.ref l) (upd H l (HO.lst (List.map V.int ns')))) ZM := ⟨fun w r ⟨x, ns, e, h, hl, q⟩ k => by
 subst e
 obtain ⟨v, rfl, rv⟩ := jd r
 obtain ⟨a, xs, rfl, h1, r1⟩ := ql w rv h
 rw [kI r1] at h1
 exact ⟨a, ns, rfl, SqL.of h1, hl, fun l ns' hp h2 h3 => k _ _ (q ns' h2 h3) (ZU ns') l hp⟩⟩
noncomputable def tyA (x : AV) (M : MH) : Option String := match x with
 | .d .non => some "NoneType"
 | .d (.bl _) => some "bool"
 | .d (.int _) => some "int"
 | .d (.str _) => some "str"
 | .d (.lst _) => some "list"
 | .d (.tup _) => some "tuple"
 | .ref a => match M a with
  | some (.lst _) => some "list"
  | some (.dK _) => some "dict"
  | _ => none
 | _ => none
theorem VA {K : PySem.W.Frag} {H : Hp} {O : Own} {M : MH} {v : V} {x : AV} {t : String} (w : Wf H O M) (r : zz H O M v x) (h : tyA x M = some t) : j3 K H v (.type t) := by
 cases x with
 | d x =>
  cases (show Rep H O v x from r) with
  | non => cases h; exact .non
  | bl => cases h; exact .bl _
  | int => cases h; exact .int _
  | str => cases h; exact .str _
  | lst o e => cases h; exact .lst e
  | tup o e => cases h; exact .tup e
  | ty => cases h
  | rng _ _ => cases h
  | scr _ _ => cases h
  | scrK _ => cases h
 | ref a =>
  unfold tyA at h
  dsimp only at h
  rw [r.1]
  cases e : M a with
  | none => rw [e] at h; cases h
  | some o =>
   rw [e] at h
   have := w.mo a o e
   cases o with
   | lst l => cases h; obtain ⟨xs, hx, _⟩ := this; exact .lst hx
   | dK l => cases h; obtain ⟨xs, hx, _⟩ := this; exact .dK hx
   | ins C fs => cases h
noncomputable def G9 : List AV -> MH -> AK -> Prop := fun xs M Q => ∃ x t c b, xs = [x, .d (.ty c)] /\ tyA x M = some t /\ isT t c = some b /\ Q (.d (.bl b)) M
theorem Dk {K : PySem.W.Frag} : QG (fun xs H Q => ∃ x t c b, xs = [x, V.ty c] /\ j3 K H x (Value.type t) /\ isT t c = some b /\ Q (V.bl b) H) G9 := ⟨fun w r ⟨x, t, c, b, e, h, hb, q⟩ k => by
 subst e
 obtain ⟨v, u, rfl, rv, ru⟩ := xH r
 exact ⟨v, t, c, b, by rw [WM ru], VA w rv h, hb, k _ _ _ _ _ q .refl w .bl⟩⟩
theorem Kz {H : Hp} {O : Own} {M : MH} : ∀ {ns : List String} {xs : List V}, zg H O M xs ((ns.map Dat.ty).map .d) -> xs = ns.map V.ty
 | [], xs, r => r.nil_inv
 | i :: ns, xs, r => by
  obtain ⟨v, r', rfl, a1, r2⟩ := r.cons_inv
  rw [WM a1, Kz r2]; rfl
noncomputable def QX : List Dat -> Option (List String)
 | [] => some []
 | .ty n :: r => (QX r).map (n :: ·)
 | _ => none
theorem Xx : ∀ {l : List Dat} {cs : List String}, QX l = some cs -> l = cs.map Dat.ty
 | [], cs, h => by cases h; rfl
 | .ty n :: r, cs, h => by
  unfold QX at h
  cases e : QX r with
  | none => rw [e] at h; cases h
  | some m => rw [e] at h; cases h; rw [Xx e]; rfl
 | .non :: _, _, h => by cases h
 | .bl _ :: _, _, h => by cases h
 | .int _ :: _, _, h => by cases h
 | .str _ :: _, _, h => by cases h
 | .lst _ :: _, _, h => by cases h
 | .tup _ :: _, _, h => by cases h
 | .rng _ _ _ :: _, _, h => by cases h
 | .scr _ _ :: _, _, h => by cases h
noncomputable def DN : List AV -> MH -> AK -> Prop := fun xs M Q => ∃ x t l cs b, xs = [x, .d (.tup l)] /\ QX l = some cs /\ tyA x M = some t /\ xV t cs = some b /\ Q (.d (.bl b)) M
theorem Wm {K : PySem.W.Frag} : QG (fun xs H Q => ∃ x t p cs b, xs = [x, V.ref p] /\ H p = some (HO.tup (List.map V.ty cs)) /\ j3 K H x (Value.type t) /\ xV t cs = some b /\ Q (V.bl b) H) DN := ⟨fun w r ⟨x, t, l, cs, b, e, hc, h, hb, q⟩ k => by
 subst e
 obtain ⟨v, u, rfl, rv, ru⟩ := xH r
 rw [Xx hc] at ru
 obtain ⟨a, xs, rfl, h1, r1⟩ := jh (l := (cs.map Dat.ty).map .d) ru rfl
 rw [Kz r1] at h1
 exact ⟨v, t, a, cs, b, rfl, h1, VA w rv h, hb, k _ _ _ _ _ q .refl w .bl⟩⟩
noncomputable def DQ : List AV -> MH -> AK -> Prop := fun xs M Q => ∃ b, xs = [.d (.int b)] /\ Q (.d (.rng 0 b 1)) M
theorem Wb : QG (fun xs H Q => ∃ b, xs = [V.int b] /\ ∀ (p : Addr), H p = none -> Q (V.ref p) (upd H p (vB p 0 b 1))) DQ := ⟨fun w r ⟨b, e, q⟩ k => by
 subst e
 obtain ⟨v, rfl, rv⟩ := jd r
 exact ⟨b, by rw [zJ rv], fun p hp => k _ _ _ _ _ q (jn w hp _) (ZX w hp _) (Rep.rng (w.fresh hp).1 zh)⟩⟩
noncomputable def DC : List AV -> MH -> (List AV -> Prop) -> Prop := fun xs M Q => ∃ a b c n, xs = [.d (.rng a b c)] /\ Builtin.Range.small a b c = true /\ Builtin.Range.rangeSize a b c = ((n : Nat) : Int) /\ n <= 100000 /\ Q ((zG a c n).map fun i => AV.d (.int i))
theorem XA : KR (fun xs H Q => ∃ p a b c n, xs = [.ref p] /\ H p = some (vB p a b c) /\ Builtin.Range.small a b c = true /\ Builtin.Range.rangeSize a b c = ((n : Nat) : Int) /\ n <= 100000 /\ ∀ l, H l = none -> Q (.ref l) (upd H l (.lst ((zG a c n).map V.int)))) DC := ⟨fun {vs xs H O M Q Q'} w r ⟨a, b, c, n, e, h1, h2, h3, q⟩ k => by
 subst e
 obtain ⟨v, rfl, rv⟩ := jd r
 cases (show Rep H O v (.rng a b c) from rv) with
 | rng o h => exact ⟨_, a, b, c, n, rfl, h, h1, h2, h3, k _ _ q (ZU _)⟩⟩
noncomputable def flD : Dat -> Option V
 | .non => some .non
 | .bl b => some (.bl b)
 | .int i => some (.int i)
 | .str s => some (.str s)
 | _ => none
noncomputable def Y0 : List AV -> Option (List V)
 | [] => some []
 | .d x :: r => match flD x, Y0 r with
  | some v, some l => some (v :: l)
  | _, _ => none
 | _ => none
theorem Wd {H : Hp} {O : Own} {v x : V} {d : Dat} (r : Rep H O v d) (h : flD d = some x) : v = x /\ xF v = true := by
 cases r <;> cases h <;> exact ⟨rfl, rfl⟩
theorem K7 {H : Hp} {O : Own} {M : MH} : ∀ {l : List AV} {xs vs : List V}, zg H O M xs l -> Y0 l = some vs -> xs = vs /\ xs.all xF = true
 | [], xs, vs, r, h => by cases h; rw [r.nil_inv]; exact ⟨rfl, rfl⟩
 | .d d :: l, xs, vs, r, h => by
  obtain ⟨v, r', rfl, a1, r2⟩ := r.cons_inv
  unfold Y0 at h
  cases e1 : flD d with
  | none => rw [e1] at h; cases h
  | some z =>
   cases e2 : Y0 l with
   | none => rw [e1, e2] at h; cases h
   | some zs =>
    rw [e1, e2] at h
    cases h
    obtain ⟨h1, h2⟩ := Wd a1 e1
    obtain ⟨h3, h4⟩ := K7 r2 e2
    subst h1 h3
    exact ⟨rfl, by rw [List.all_cons, h2, h4]; rfl⟩
 | .ref a :: l, xs, vs, r, h => by cases h
noncomputable def aIn (neg : Bool) : AR2 := fun x y M Q => ∃ d v l vs, x = .d d /\ flD d = some v /\ qu y M = some l /\ Y0 l = some vs /\ Q (.d (.bl (if neg then !inV v vs else inV v vs))) M
theorem EJ {K : PySem.W.Frag} {neg : Bool} : Zr (rIn K neg) (aIn neg) := ⟨fun w r1 r2 ⟨d, v, l, vs, e, hv, hl, hs, q⟩ k => by
 subst e
 obtain ⟨a, xs, rfl, h1, p1⟩ := yp w r2 hl
 obtain ⟨rfl, f1⟩ := Wd r1 hv
 obtain ⟨rfl, f2⟩ := K7 p1 hs
 exact ⟨a, xs, rfl, h1.elim (fun h => .inl (SqL.of h)) (fun h => .inr (SqT.of h)), f1, f2, k _ _ _ _ _ q .refl w .bl⟩⟩
structure Gs (r : V -> List V -> Hp -> VK -> Prop) (a : AV -> List AV -> MH -> AK -> Prop) : Prop where
 go : ∀ {x : V} {dx : AV} {vs : List V} {xs : List AV} {H : Hp} {O : Own} {M : MH} {Q : VK} {Q' : AK}, Wf H O M -> zz H O M x dx -> zg H O M vs xs -> a dx xs M Q' -> (∀ x M' v H' O', Q' x M' -> Ext H O M H' O' M' -> Wf H' O' M' -> zz H' O' M' v x -> Q v H') -> r x vs H Q
noncomputable def aBM (r : AV -> List AV -> MH -> AK -> Prop) (a : AE) (b : AA) : AE := fun ρ M Q => a ρ M fun x M1 => (∃ l, qp x M1 = some l) /\ b ρ M1 fun xs M2 => r x xs M2 Q
theorem Fs {K : PySem.W.Frag} {r : V -> List V -> Hp -> VK -> Prop} {ra : AV -> List AV -> MH -> AK -> Prop} {t : TE} {u : TA} {a : AE} {b : AA} (hr : Gs r ra) (h1 : zR t a) (h2 : kF u b) : zR (tBM K "list" r t u) (aBM ra a b) :=
 ⟨fun w e q k => h1.go w e q fun x M1 v H1 O1 ⟨⟨l, hl⟩, q1⟩ k1 w1 r1 => ⟨by
  obtain ⟨a, xs, rfl, hx, _⟩ := ql w1 r1 hl
  exact .inl ⟨rfl, xs, SqL.of hx⟩, h2.go w1 (e.ext k1) q1 fun y M2 u H2 O2 q2 k2 w2 r2 => hr.go w2 (r1.ext k2) r2 q2 fun z M3 v3 H3 O3 q3 k3 w3 r3 => k z M3 v3 H3 O3 q3 ((k1.trans k2).trans k3) w3 r3⟩⟩
theorem Jb {H : Hp} {O : Own} {M : MH} {p : Addr} {l l' : List AV} {xs' : List V} (w : Wf H O M) (hm : M p = some (.lst l)) (r : zg H O M xs' l') : Ext H O M (upd H p (.lst xs')) O (mup M p (.lst l')) /\ Wf (upd H p (.lst xs')) O (mup M p (.lst l')) :=
 have np := kd hm
 ⟨ye w np _ _, Vh w np (fun _ z => nomatch z) ⟨_, zh, r.ext (ye w np _ _)⟩⟩
noncomputable def KA : AV -> List AV -> MH -> AK -> Prop := fun x xs M Q => ∃ p l y, x = .ref p /\ xs = [y] /\ M p = some (.lst l) /\ l.length < sizeLine /\ Q (.d .non) (mup M p (.lst (l ++ [y])))
theorem J1 : Gs ve KA := ⟨fun w r1 r2 ⟨p, l, y, e1, e2, hm, hs, q⟩ k => by
 subst e1 e2
 obtain ⟨v, rfl, rv⟩ := jd r2
 obtain ⟨xs, hx, rx⟩ := w.mo p _ hm
 obtain ⟨k1, w1⟩ := Jb w hm (rx.snoc rv)
 exact ⟨p, xs, v, r1.1, rfl, hx, by rw [rx.1]; exact hs, k _ _ _ _ _ q k1 w1 .non⟩⟩
noncomputable def Xu : AV -> List AV -> MH -> AK -> Prop := fun x xs M Q => ∃ p l y m, x = .ref p /\ xs = [y] /\ M p = some (.lst l) /\ qp y M = some m /\ l.length + m.length <= sizeLine /\ Q (.d .non) (mup M p (.lst (l ++ m)))
theorem Jj : Gs vg Xu := ⟨fun w r1 r2 ⟨p, l, y, m, e1, e2, hm, hy, hs, q⟩ k => by
 subst e1 e2
 obtain ⟨v, rfl, rv⟩ := jd r2
 obtain ⟨xs, hx, rx⟩ := w.mo p _ hm
 obtain ⟨b, ys, rfl, hb, rb⟩ := ql w rv hy
 obtain ⟨k1, w1⟩ := Jb w hm (rx.append rb)
 exact ⟨p, b, xs, ys, r1.1, rfl, hx, hb, by rw [rx.1, rb.1]; exact hs, k _ _ _ _ _ q k1 w1 .non⟩⟩
noncomputable def Wu (r : Addr) : MO -> Prop
 | .lst l => AV.ref r ∈ l
 | .dK kvs => AV.ref r ∈ kvs.map (·.2)
 | .ins _ fs => AV.ref r ∈ fs.map (·.2)
structure Yo (M0 M' : MH) (x x' : AV) (M'' : MH) : Prop where
 sub : ∀ q, M'' q = M' q \/ (M0 q = none /\ M'' q = none)
 cl : ∀ q o, M'' q = some o -> M0 q = some o \/ ∀ r, Wu r o -> M'' r ≠ none
 res : (x' = x /\ ∀ p, x = .ref p -> M'' p ≠ none) \/ ∃ p l ds, x = .ref p /\ M' p = some (.lst l) /\ pur l = some ds /\ M'' p = none /\ x' = .d (.lst ds)
theorem JO {H0 H : Hp} {O0 O : Own} {M0 M' M'' : MH} {x x' : AV} {v : V} (w0 : Wf H0 O0 M0) (w : Wf H O M') (k : Ext H0 O0 M0 H O M') (r : zz H O M' v x) (f : Yo M0 M' x x' M'') :
    ∃ O'', Wf H O'' M'' /\ Ext H0 O0 M0 H O'' M'' /\ zz H O'' M'' v x' := by
  have ks : ∀ a u, ¬ O a -> H a = some u -> H a = some u /\ ¬ (O a /\ ¬ (M' a ≠ none /\ M'' a = none)) := fun a u h e => ⟨e, fun z => h z.1⟩
  have k0 : ∀ a, M0 a ≠ none -> M'' a = M' a := fun a h => (f.sub a).elim (fun z => z) (fun z => absurd z.1 h)
  have m0 : ∀ a, M0 a ≠ none -> M'' a ≠ none := fun a h => by rw [k0 a h]; exact k.mst a h
  have avs : ∀ {xs : List V} {l : List AV}, zg H O M' xs l -> (∀ r, AV.ref r ∈ l -> M'' r ≠ none) -> zg H (fun a => O a /\ ¬ (M' a ≠ none /\ M'' a = none)) M'' xs l := fun {xs l} rr hr => ⟨rr.1, fun i y d e1 e2 => by
    have := rr.2 i y d e1 e2
    cases d with
    | d d => exact Rep.imp ks this
    | ref a => exact ⟨this.1, hr a (List.mem_of_getElem? e2)⟩⟩
  have refs0 : ∀ q o, M0 q = some o -> ∀ r, Wu r o -> M0 r ≠ none := fun q o e r hr => by
    have := w0.mo q o e
    cases o with
    | lst l =>
      obtain ⟨xs, _, rr⟩ := this
      obtain ⟨i, hi⟩ := List.getElem?_of_mem hr
      obtain ⟨y, _, ry⟩ := rr.get hi
      exact ry.2
    | dK l =>
      obtain ⟨xs, _, rr⟩ := this
      obtain ⟨i, hi⟩ := List.getElem?_of_mem hr
      obtain ⟨y, _, ry⟩ := rr.2.get hi
      exact ry.2
    | ins C l =>
      obtain ⟨dx, xs, _, rr, _⟩ := this
      obtain ⟨i, hi⟩ := List.getElem?_of_mem hr
      obtain ⟨y, _, ry⟩ := rr.2.get hi
      exact ry.2
  refine ⟨fun a => O a /\ ¬ (M' a ≠ none /\ M'' a = none), ⟨fun q o e => ?_, fun a h => ?_, fun a h => w.al a h.1⟩, ⟨fun a u h e => ?_, fun a h e => ?_, m0⟩, ?_⟩
  · have e' : M' q = some o := by
      rcases f.sub q with z | z
      · rw [<- z]; exact e
      · rw [z.2] at e; cases e
    have hr : ∀ r, Wu r o -> M'' r ≠ none := by
      rcases f.cl q o e with z | z
      · exact fun r hr => m0 r (refs0 q o z r hr)
      · exact z
    have := w.mo q o e'
    cases o with
    | lst l => obtain ⟨xs, h1, rr⟩ := this; exact ⟨xs, h1, avs rr hr⟩
    | dK l => obtain ⟨xs, h1, rr⟩ := this; exact ⟨xs, h1, rr.1, avs rr.2 hr⟩
    | ins C l =>
      obtain ⟨dx, xs, h1, rr, h2, h3, h4⟩ := this
      refine ⟨dx, xs, h1, ⟨rr.1, avs rr.2 hr⟩, ⟨h2, fun z => z.1 h3⟩, ?_, h4⟩
      rcases f.sub dx with z | z
      · rw [z]; exact h3
      · exact z.2
  · refine ⟨w.own a ?_, fun z => h z.2⟩
    rcases f.sub a with z | z
    · rw [<- z]; exact h
    · exact absurd z.2 h
  · obtain ⟨x1, x2⟩ := k.fix a u h e
    exact ⟨x1, fun z => x2 z.1⟩
  · obtain ⟨x1, x2, x3⟩ := k.prv a h e
    refine ⟨x1, ⟨x2, fun z => z.1 x3⟩, ?_⟩
    rcases f.sub a with z | z
    · rw [z]; exact x3
    · exact z.2
  · rcases f.res with ⟨rfl, hp⟩ | ⟨p, l, ds, rfl, hm, hp, hn, rfl⟩
    · cases x' with
      | d d => exact Rep.imp ks r
      | ref a => exact ⟨r.1, hp a rfl⟩
    · obtain ⟨xs, hx, rx⟩ := w.mo p _ hm
      rw [j8 hp] at rx
      have rp := rx.pure
      rw [r.1]
      exact Rep.lst (fun z => z.2 ⟨kd hm, hn⟩) hx rp.1 fun i x d e1 e2 => (rp.2 i x d e1 e2).imp ks
noncomputable def Fr (M0 M : MH) : Prop := ∀ q, M0 q ≠ none -> M q = M0 q
theorem Fr.refl {M : MH} : Fr M M := fun _ _ => rfl
theorem Fr.mup {M0 M : MH} (f : Fr M0 M) {p : Addr} (h : M0 p = none) (o : MO) : Fr M0 (mup M p o) := fun q hq => by rw [qh (fun z => hq (by rw [z]; exact h))]; exact f q hq
theorem Fr.sub {M0 M : MH} (f : Fr M0 M) (q : Addr) : M0 q = M q \/ (M0 q = none /\ M0 q = none) := by
 cases e : M0 q with
 | none => exact .inr ⟨rfl, rfl⟩
 | some o => exact .inl (by rw [f q (by rw [e]; exact fun z => nomatch z), e])
theorem Qm {M0 M : MH} (f : Fr M0 M) (d : Dat) : Yo M0 M (.d d) (.d d) M0 := ⟨f.sub, fun q o e => .inl e, .inl ⟨rfl, fun p z => nomatch z⟩⟩
theorem xu {M0 M : MH} (f : Fr M0 M) {p : Addr} {l : List AV} {ds : List Dat} (h0 : M0 p = none) (h : M p = some (.lst l)) (hp : pur l = some ds) : Yo M0 M (.ref p) (.d (.lst ds)) M0 := ⟨f.sub, fun q o e => .inl e, .inr ⟨p, l, ds, rfl, h, hp, h0, rfl⟩⟩
theorem Xe {l : List AV} {ds : List Dat} (h : pur l = some ds) (r : Addr) : AV.ref r ∉ l := by
 rw [j8 h]; intro z
 obtain ⟨d, _, e⟩ := List.mem_map.mp z
 cases e
theorem B5 {M0 M : MH} (f : Fr M0 M) {p : Addr} {l : List AV} {ds : List Dat} (h0 : M0 p = none) (h : M p = some (.lst l)) (hp : pur l = some ds) : Yo M0 M (.ref p) (.ref p) (mup M0 p (.lst l)) := by
 refine ⟨fun q => ?_, fun q o e => ?_, .inl ⟨rfl, fun q z => by cases z; rw [zt]; exact fun z => nomatch z⟩⟩
 ·by_cases c : q = p
  ·rw [c, zt, h]; exact .inl rfl
  ·rw [qh c]; exact f.sub q
 ·by_cases c : q = p
  ·rw [c, zt] at e
   cases e
   exact .inr fun r hr => absurd hr (Xe hp r)
  ·rw [qh c] at e; exact .inl e
noncomputable def zS (N : List Str) (xs : List AV) : ASt := xs.map some ++ List.replicate (N.length - xs.length) none
theorem Vz {H : Hp} {O : Own} {M : MH} {vs : List V} {xs : List AV} (r : zg H O M vs xs) (N : List Str) : Er H O M (zZ N vs) (zS N xs) := by
 unfold zZ zS
 refine ⟨by simp [r.1], fun i x h => ?_⟩
 by_cases c : i < xs.length
 ·rw [List.getElem?_append_left (by simpa using c), List.getElem?_map] at h
  cases e : xs[i]? with
  | none => rw [e] at h; cases h
  | some y =>
   rw [e] at h
   cases h
   obtain ⟨v, hv, rv⟩ := r.get e
   exact ⟨v, by rw [List.getElem?_append_left (by rw [List.length_map, r.1]; exact c), List.getElem?_map, hv]; rfl, rv⟩
 ·rw [List.getElem?_append_right (by simp; omega), List.getElem?_replicate] at h
  split at h <;> cases h
noncomputable def rtA (M0 : MH) (Q : AK) : AK := fun x M' => ∃ x' M'', Yo M0 M' x x' M'' /\ Q x' M''
theorem dfA {P : Program} {w : World} {K : PySem.W.Frag} {mg : Str -> Option Value} {base : Heap} {x : Str} {st : Stmt} {N ps : List Str} {k : Nat} {a : ASp} (at_ : At K mg x st) (S : zo N ps (zf st))
  (hb : ∀ (kV doc pm : Value) (an : Option Addr) (cdv ct : Value) (us : List Value), us.length = ps.length -> bindArgs (PySem.W.fnOf x x (jo st) (qD st) (zf st) .none kV doc pm an cdv ct) ⟨us, []⟩ = pure (ps.zip us))
  (len : ∀ xs M Q, a xs M Q -> xs.length = ps.length)
  (hbody : ∀ (f : Addr) (cdv : Value) (A : Around) (outer : List Env) (s : Shared) (H : Hp) (E : XK), qK k (A.deeper (envOfC x (zf st) s.heap.objs.size f cdv)) ->
   ∃ t, PSs (wx CX0 P w K mg base N x (zf st) f cdv A outer s H E).nox (qD st) t /\ ∃ b, jR t b /\ ∀ xs M Q, a xs M Q -> b M { nx := fun _ M' => rtA M Q (.d .non) M', rt := rtA M Q } (zS N xs) M) : Df P w K mg base x ps (k + 1) (cSp a) := by
 refine kl at_ S hb (fun vs H Q E h => ?_) (fun f cdv A outer s H vs Q E hr h => ?_)
 ·obtain ⟨xs, M, O, Q', w, r, q, _⟩ := h
  rw [r.1]; exact len xs M Q' q
 ·obtain ⟨t, ht, b, hb, hq⟩ := hbody f cdv A outer s H E hr
  refine ⟨t, ht, ?_⟩
  obtain ⟨xs, M, O, Q', w, r, q, kk⟩ := h
  refine hb.go w w (Vz r N) .refl (hq xs M Q' q) ⟨fun σ H' O' ρ M' w' e' x' q' => ?_, fun v y H' O' M' w' x' r' q' => ?_, fun _ _ _ _ _ _ _ _ z => z.elim, fun _ _ _ _ _ _ _ _ z => z.elim⟩
  ·obtain ⟨y', M'', f, q2⟩ := q'
   obtain ⟨O'', w2, k2, r2⟩ := JO w w' x' (show zz H' O' M' .non (.d .non) from .non) f
   exact kk _ _ _ _ _ q2 k2 w2 r2
  ·obtain ⟨y', M'', f, q2⟩ := q'
   obtain ⟨O'', w2, k2, r2⟩ := JO w w' x' r' f
   exact kk _ _ _ _ _ q2 k2 w2 r2
end L2
set_option Elab.async false
set_option linter.all false
set_option maxRecDepth 100000
set_option maxHeartbeats 4000000
namespace L2
open PySem PySem.Spec PyProof.Rows
structure Zz (tr : Addr -> TR) (a : ATR) : Prop where
 go : ∀ D, Ze D (tr D) a
theorem Yr {t : TE} {a : AE} (h : zR t a) : Zz (wj t) (yP a) := ⟨fun D => vh h⟩
theorem YH {wi : TI} {g : TG} {tt : TT} {tr : Addr -> TR} {ai : AI} {ag : AG} {at_ : AT} {atr : ATR} (hi : v0 wi ai) (hg : yS g ag) (ht : kD tt at_) (hr : Zz tr atr) : Zz (ZD wi g tt tr) (JA ai ag at_ atr) := ⟨fun D => wV hi hg ht (hr.go D)⟩
theorem Kj {ts : List Nat} {wi : TI} {g : TG} {tt : TT} {tr : Addr -> TR} {ai : AI} {ag : AG} {at_ : AT} {atr : ATR} (hi : v0 wi ai) (hg : yS g ag) (ht : kD tt at_) (hr : Zz tr atr) : wy (vw ts wi g tt tr) (KF ts ai ag at_ atr) := wl hi hg ht hr.go
theorem Ap {t u : TE} {a b : AE} (h1 : zR t a) (h2 : zR u b) : zR (tOp Da t u) (aFz (fOp Gz a b)) := xT (Zp QY h1 h2)
theorem VH {t u : TE} {a b : AE} (h1 : zR t a) (h2 : zR u b) : zR (tOp Dy t u) (aFz (fOp F5 a b)) := xT (Zp Qv h1 h2)
theorem XW {K : PySem.W.Frag} {u : TA} {b : AA} (h : kF u b) : zR (tCB (fun xs H Q => ∃ p ys, xs = [V.ref p] /\ (SqL K H p ys \/ SqT K H p ys) /\ ∀ l, H l = none -> Q (V.ref l) (upd H l (HO.lst ys))) u) (aFz (fCB V5 b)) := xT (Zn wW h)
theorem XI {K : PySem.W.Frag} {u : TA} {b : AA} (h : kF u b) : zR (tCB (fun xs H Q => ∃ p ns, xs = [V.ref p] /\ SqL K H p (List.map V.int ns) /\ ns.length < 64 /\ ∀ (l : Addr) (ns' : List Int), H l = none -> ns'.Perm ns -> List.Pairwise (fun x1 x2 => x1 <= x2) ns' -> Q (V.ref l) (upd H l (HO.lst (List.map V.int ns')))) u) (aFz (fCB ZM b)) := xT (Zn yD h)
theorem ex2 {t : TS} {q : AS -> Prop} {b : AS} (h : jR t b) (k : q b) : ∃ b, jR t b /\ q b := ⟨b, h, k⟩
section
variable {X : Cx} {K : PySem.W.Frag}
theorem Fp {tg l : Expr} {tl : TE} (h : X.K = K) (hl : PE X l tl) : PI X tg l (iLT K tl) := h ▸ xP hl
end
theorem Fl {τ : Type} (R : τ -> ASt) (f : AV -> AV) {ag : AG} {ae : AE} {G : MH -> Prop} {N : List AV -> ASt -> MH -> Prop} {l : List AV} {ρ : ASt} {M : MH} (h0 : ∃ o, ρ = R o) (hG : G M) (hl : l.length <= 100000)
  (hs : ∀ (o : τ) (x : AV) (Q : AV -> ASt -> MH -> Prop), x ∈ l -> (∀ o', Q (f x) (R o') M) -> ag x (R o) M fun ρ2 M2 => ae ρ2 M2 fun y M3 => Q y ρ2 M3) (hN : ∀ o, N (l.map f) (R o) M) : JQ ag wK (yP ae) G N l [] ρ M := by
 have hsl : 100000 < sizeLine := by rw [sizeLine_eq]; decide
 refine ⟨fun i acc ρ' M' => i <= l.length /\ acc = (l.take i).map f /\ M' = M /\ ∃ o, ρ' = R o, ⟨Nat.zero_le _, rfl, rfl, h0⟩, ?_, ?_⟩
 ·rintro i x acc ρ' M' hx ⟨hi, rfl, rfl, o, rfl⟩
  have hil := (List.getElem?_eq_some_iff.mp hx).1
  refine ⟨hG, ?_⟩
  refine hs o x (fun y ρ2 M3 => ((l.take i).map f).length < sizeLine /\ (i + 1 <= l.length /\ (l.take i).map f ++ [y] = (l.take (i + 1)).map f /\ M3 = M' /\ ∃ o, ρ2 = R o)) (List.mem_of_getElem? hx) fun o' => ⟨by rw [List.length_map, List.length_take]; omega, hil, ?_, rfl, o', rfl⟩
  rw [List.take_add_one, hx, List.map_append]; rfl
 ·rintro acc ρ' M' ⟨_, rfl, rfl, o, rfl⟩
  rw [List.take_length]
  exact ⟨hG, hN o⟩
theorem KB {τ : Type} (R : τ -> ASt) (f : Nat -> AV) {ag : AG} {ae : AE} {G : MH -> Prop} {N : List AV -> ASt -> MH -> Prop} {l : List AV} {ρ : ASt} {M : MH} (h0 : ∃ o, ρ = R o) (hG : G M) (hl : l.length <= 100000)
  (hs : ∀ (o : τ) (i : Nat) (x : AV) (Q : AV -> ASt -> MH -> Prop), l[i]? = some x -> (∀ o', Q (f i) (R o') M) -> ag x (R o) M fun ρ2 M2 => ae ρ2 M2 fun y M3 => Q y ρ2 M3) (hN : ∀ o, N ((List.range l.length).map f) (R o) M) : JQ ag wK (yP ae) G N l [] ρ M := by
 have hsl : 100000 < sizeLine := by rw [sizeLine_eq]; decide
 refine ⟨fun i acc ρ' M' => i <= l.length /\ acc = (List.range i).map f /\ M' = M /\ ∃ o, ρ' = R o, ⟨Nat.zero_le _, rfl, rfl, h0⟩, ?_, ?_⟩
 ·rintro i x acc ρ' M' hx ⟨hi, rfl, rfl, o, rfl⟩
  have hil := (List.getElem?_eq_some_iff.mp hx).1
  refine ⟨hG, ?_⟩
  refine hs o i x (fun y ρ2 M3 => ((List.range i).map f).length < sizeLine /\ (i + 1 <= l.length /\ (List.range i).map f ++ [y] = (List.range (i + 1)).map f /\ M3 = M' /\ ∃ o, ρ2 = R o)) hx fun o' => ⟨by rw [List.length_map, List.length_range]; omega, hil, ?_, rfl, o', rfl⟩
  rw [List.range_succ, List.map_append]; rfl
 ·rintro acc ρ' M' ⟨_, rfl, rfl, o, rfl⟩
  exact ⟨hG, hN o⟩
theorem vj {α : Type} (F : α -> Dat) (l : List α) : pur (l.map fun a => AV.d (F a)) = some (l.map F) := by
 have : (l.map fun a => AV.d (F a)) = (l.map F).map .d := by rw [List.map_map]; rfl
 rw [this, qg]
theorem FI : isT "int" "int" = some true := by decide +kernel
theorem FC : isT "int" "bool" = some false := by decide +kernel
theorem Gk : isT "int" "str" = some false := by decide +kernel
theorem FV : isT "int" "list" = some false := by decide +kernel
theorem Fc : isT "int" "tuple" = some false := by decide +kernel
theorem Fw : isT "bool" "int" = some true := by decide +kernel
theorem FN : isT "bool" "bool" = some true := by decide +kernel
theorem En : isT "bool" "str" = some false := by decide +kernel
theorem EU : isT "bool" "list" = some false := by decide +kernel
theorem EH : isT "bool" "tuple" = some false := by decide +kernel
theorem Gv : isT "str" "int" = some false := by decide +kernel
theorem FZ : isT "str" "bool" = some false := by decide +kernel
theorem F1 : isT "str" "str" = some true := by decide +kernel
theorem Ex : isT "str" "list" = some false := by decide +kernel
theorem Fe : isT "str" "tuple" = some false := by decide +kernel
theorem FL : isT "NoneType" "int" = some false := by decide +kernel
theorem EF : isT "NoneType" "bool" = some false := by decide +kernel
theorem F3 : isT "NoneType" "str" = some false := by decide +kernel
theorem Eg : isT "NoneType" "list" = some false := by decide +kernel
theorem FY : isT "NoneType" "tuple" = some false := by decide +kernel
theorem Ec : isT "list" "int" = some false := by decide +kernel
theorem GC : isT "list" "bool" = some false := by decide +kernel
theorem FS : isT "list" "str" = some false := by decide +kernel
theorem E3 : isT "list" "list" = some true := by decide +kernel
theorem FM : isT "list" "tuple" = some false := by decide +kernel
theorem GH : isT "tuple" "int" = some false := by decide +kernel
theorem Gq : isT "tuple" "bool" = some false := by decide +kernel
theorem F0 : isT "tuple" "str" = some false := by decide +kernel
theorem Ei : isT "tuple" "list" = some false := by decide +kernel
theorem E9 : isT "tuple" "tuple" = some true := by decide +kernel
theorem Gw : xV "int" ["list", "tuple"] = some false := by decide +kernel
theorem Eu : xV "bool" ["list", "tuple"] = some false := by decide +kernel
theorem Gj : xV "str" ["list", "tuple"] = some false := by decide +kernel
theorem Ft : xV "NoneType" ["list", "tuple"] = some false := by decide +kernel
theorem Va : xV "list" ["list", "tuple"] = some true := by decide +kernel
theorem V8 : xV "tuple" ["list", "tuple"] = some true := by decide +kernel
theorem Vk : QX [] = some [] := rfl
theorem YG {n : String} {r : List Dat} : QX (.ty n :: r) = (QX r).map (n :: ·) := rfl
theorem HC (M : MH) : tyA (.d .non) M = some "NoneType" := rfl
theorem G3 (b : Bool) (M : MH) : tyA (.d (.bl b)) M = some "bool" := rfl
theorem G7 (i : Int) (M : MH) : tyA (.d (.int i)) M = some "int" := rfl
theorem Ha (s : Str) (M : MH) : tyA (.d (.str s)) M = some "str" := rfl
theorem He (l : List Dat) (M : MH) : tyA (.d (.lst l)) M = some "list" := rfl
theorem GZ (l : List Dat) (M : MH) : tyA (.d (.tup l)) M = some "tuple" := rfl
theorem X0 (x : Dat) (r : List AV) : pur (.d x :: r) = match pur r with | some l => some (x :: l) | none => none := rfl
theorem Gm (i j : Int) : eqS (.int i) (.int j) = some (decide (i = j)) := rfl
theorem Gr (i j : Bool) : eqS (.bl i) (.bl j) = some (decide (i = j)) := rfl
theorem FE (i j : Str) : eqS (.str i) (.str j) = some (decide (i = j)) := rfl
theorem BY : yL (.d .non) = true := rfl
theorem Bc (i : Int) : yL (.d (.int i)) = false := rfl
theorem Be (i : List Dat) : yL (.d (.lst i)) = false := rfl
theorem Dn (i : List Dat) : yL (.d (.tup i)) = false := rfl
theorem Dw (i : Addr) : yL (.ref i) = false := rfl
theorem Dt (i : Str) : yL (.d (.str i)) = false := rfl
theorem Ds (i : Bool) : yL (.d (.bl i)) = false := rfl
end L2
set_option Elab.async false
set_option linter.all false
set_option maxRecDepth 100000
set_option maxHeartbeats 4000000
namespace L2
open PySem PySem.Spec PyProof.Rows
theorem Zo {H H' : Hp} {O : Own} {M : MH} (w : Wf H O M) (k : Kp [] H H') : Ext H O M H' O M /\ Wf H' O M := by
 have e : Ext H O M H' O M := ⟨fun a o h e => ⟨k a o (by simp) e, h⟩, fun a h e => ⟨by
  obtain ⟨o, ho, _⟩ := w.al a h
  rw [ho]; exact k a o (by simp) ho, h, e⟩, fun _ h => h⟩
 refine ⟨e, ⟨fun a o h => jl.ext e ?_ (w.mo a o h), w.own, fun a h => ?_⟩⟩
 ·obtain ⟨u, hu, _⟩ := w.al a (w.own a (by rw [h]; exact fun z => nomatch z))
  rw [hu]; exact k a u (by simp) hu
 ·obtain ⟨o, ho, hn⟩ := w.al a h
  exact ⟨o, k a o (by simp) ho, hn⟩
theorem FU {H H' : Hp} {O : Own} {M : MH} (w : Wf H O M) {b : Addr} {l : List AV} (hb : M b = some (.lst l)) (k : Kp [b] H H') {ns : List Int} (h : H' b = some (.lst (ns.map V.int))) :
  Ext H O M H' O (mup M b (.lst (ns.map fun i => .d (.int i)))) /\ Wf H' O (mup M b (.lst (ns.map fun i => .d (.int i)))) := by
 have hOb := w.own b (kd hb)
 have kk : ∀ a o, a ≠ b -> H a = some o -> H' a = some o := fun a o ha e => k a o (by simpa using ha) e
 have e : Ext H O M H' O (mup M b (.lst (ns.map fun i => .d (.int i)))) := ⟨fun a o h e => ⟨kk a o (fun z => h (by rw [z]; exact hOb)) e, h⟩, fun a ha e => by
  have hne : a ≠ b := fun z => by rw [z, hb] at e; cases e
  obtain ⟨o, ho, _⟩ := w.al a ha
  exact ⟨by rw [ho]; exact kk a o hne ho, ha, by rw [qh hne]; exact e⟩, fun a ha => by
  by_cases c : a = b
  ·rw [c, zt]; exact fun z => nomatch z
  ·rw [qh c]; exact ha⟩
 refine ⟨e, ⟨fun a o ho => ?_, fun a ha => ?_, fun a ha => ?_⟩⟩
 ·by_cases c : a = b
  ·subst c; rw [zt] at ho; cases ho; exact ⟨_, h, ZU ns⟩
  ·rw [qh c] at ho
   refine jl.ext e ?_ (w.mo a o ho)
   obtain ⟨u, hu, _⟩ := w.al a (w.own a (kd ho))
   rw [hu]; exact kk a u c hu
 ·by_cases c : a = b
  ·rw [c]; exact hOb
  ·rw [qh c] at ha; exact w.own a ha
 ·by_cases c : a = b
  ·rw [c]; exact ⟨_, h, fun xs z => nomatch z⟩
  ·obtain ⟨o, ho, hn⟩ := w.al a ha
   exact ⟨o, kk a o c ho, hn⟩
theorem wg {H : Hp} {O : Own} {p : Addr} {ns : List Int} (ho : ¬ O p) (h : H p = some (.lst (ns.map V.int))) : Rep H O (.ref p) (.lst (ns.map .int)) :=
 Rep.lst ho h (by simp) fun i x d e1 e2 => by
  rw [List.getElem?_map] at e1 e2
  cases e : ns[i]? with
  | none => rw [e] at e1; cases e1
  | some n => rw [e] at e1 e2; cases e1; cases e2; exact .int
theorem Zk {H : Hp} {O : Own} {p : Addr} {ns : List Int} (ho : ¬ O p) (h : H p = some (.tup (ns.map V.int))) : Rep H O (.ref p) (.tup (ns.map .int)) :=
 Rep.tup ho h (by simp) fun i x d e1 e2 => by
  rw [List.getElem?_map] at e1 e2
  cases e : ns[i]? with
  | none => rw [e] at e1; cases e1
  | some n => rw [e] at e1 e2; cases e1; cases e2; exact .int
theorem Wf.tup {H : Hp} {O : Own} {M : MH} (w : Wf H O M) {p : Addr} {xs : List V} (h : H p = some (.tup xs)) : ¬ O p := fun z => by
 obtain ⟨o, ho, hn⟩ := w.al p z
 rw [h] at ho; cases ho; exact hn xs rfl
theorem W4 {H : Hp} {O : Own} {M : MH} {v : V} {x : AV} {ns : List Int} (w : Wf H O M) (r : zz H O M v x) (h : qu x M = some (ns.map fun i => .d (.int i))) : ∃ a, v = .ref a /\ (H a = some (.lst (ns.map V.int)) \/ H a = some (.tup (ns.map V.int))) := by
 obtain ⟨a, xs, rfl, h1, r1⟩ := yp w r h
 rw [kI r1] at h1
 exact ⟨a, rfl, h1⟩
theorem VS {H : Hp} {O : Own} {M : MH} {v : V} {x : AV} {ns : List Int} (w : Wf H O M) (r : zz H O M v x) (h : qp x M = some (ns.map fun i => .d (.int i))) : ∃ a, v = .ref a /\ H a = some (.lst (ns.map V.int)) := by
 obtain ⟨a, xs, rfl, h1, r1⟩ := ql w r h
 rw [kI r1] at h1
 exact ⟨a, rfl, h1⟩
theorem Df.imp' {P : Program} {w : World} {K : PySem.W.Frag} {mg : Str -> Option Value} {base : Heap} {x : Str} {ps : List Str} {sp sp' : Sp} {k : Nat} (D : Df P w K mg base x ps k sp) (h : ∀ vs H Q E, sp' vs H Q E -> sp vs H Q E) : Df P w K mg base x ps k sp' :=
 let ⟨f, fd, F, r⟩ := D
 ⟨f, fd, F.imp h, r⟩
mutual
noncomputable def wdt : Dat -> Nat
 | .lst l => max l.length (Kr l)
 | .tup l => max l.length (Kr l)
 | _ => 0
noncomputable def Kr : List Dat -> Nat
 | [] => 0
 | a :: r => max (wdt a) (Kr r)
end
theorem K2 {l : List Dat} {n : Nat} (h : ∀ d ∈ l, wdt d <= n) : Kr l <= n := by
 induction l with
 | nil => exact Nat.zero_le _
 | cons a r ih => rw [Kr]; exact Nat.max_le.mpr ⟨h a (by simp), ih fun d hd => h d (by simp [hd])⟩
theorem Kv {l : List Dat} {d : Dat} (h : d ∈ l) : wdt d <= Kr l := by
 induction l with
 | nil => cases h
 | cons a r ih =>
  rw [Kr]
  rcases List.mem_cons.mp h with rfl | h
  ·exact Nat.le_max_left _ _
  ·exact Nat.le_trans (ih h) (Nat.le_max_right _ _)
noncomputable def ku (n : Nat) (d : Dat) : Prop := dp d <= n /\ wdt d <= 100000
theorem ku.mono {n m : Nat} {d : Dat} (h : ku n d) (k : n <= m) : ku m d := ⟨Nat.le_trans h.1 k, h.2⟩
theorem W9 {n : Nat} {l : List Dat} (hl : l.length <= 100000) (h : ∀ d ∈ l, ku n d) : ku (n + 1) (.lst l) := ⟨by rw [dp]; exact Nat.succ_le_succ (Zt fun d hd => (h d hd).1), by rw [wdt]; exact Nat.max_le.mpr ⟨hl, K2 fun d hd => (h d hd).2⟩⟩
theorem Y8 {n : Nat} {l : List Dat} (hl : l.length <= 100000) (h : ∀ d ∈ l, ku n d) : ku (n + 1) (.tup l) := ⟨by rw [dp]; exact Nat.succ_le_succ (Zt fun d hd => (h d hd).1), by rw [wdt]; exact Nat.max_le.mpr ⟨hl, K2 fun d hd => (h d hd).2⟩⟩
theorem Qz (n : Nat) (i : Int) : ku n (.int i) := ⟨by simp [dp], by simp [wdt]⟩
theorem X9 {ns : List Int} (h : ns.length <= 100000) : ku 1 (.lst (ns.map .int)) := W9 (by simpa using h) fun d hd => by obtain ⟨i, _, rfl⟩ := List.mem_map.mp hd; exact Qz 0 i
theorem JW {ns : List Int} (h : ns.length <= 100000) : ku 1 (.tup (ns.map .int)) := Y8 (by simpa using h) fun d hd => by obtain ⟨i, _, rfl⟩ := List.mem_map.mp hd; exact Qz 0 i
theorem ku.lst {n : Nat} {l : List Dat} (h : ku (n + 1) (.lst l)) : l.length <= 100000 /\ ∀ d ∈ l, ku n d := by
 obtain ⟨h1, h2⟩ := h
 rw [dp] at h1
 rw [wdt] at h2
 exact ⟨(Nat.max_le.mp h2).1, fun d hd => ⟨by have := qv hd; omega, Nat.le_trans (Kv hd) (Nat.max_le.mp h2).2⟩⟩
theorem ku.tup {n : Nat} {l : List Dat} (h : ku (n + 1) (.tup l)) : l.length <= 100000 /\ ∀ d ∈ l, ku n d := by
 obtain ⟨h1, h2⟩ := h
 rw [dp] at h1
 rw [wdt] at h2
 exact ⟨(Nat.max_le.mp h2).1, fun d hd => ⟨by have := qv hd; omega, Nat.le_trans (Kv hd) (Nat.max_le.mp h2).2⟩⟩
theorem Z9 {x : AV} {M : MH} {l : List Dat} (h : yV x M = some (.lst l)) : qp x M = some (l.map .d) /\ qu x M = some (l.map .d) /\ tyA x M = some "list" /\ yL x = false := by
 cases x with
 | d x => cases h; exact ⟨rfl, rfl, rfl, rfl⟩
 | ref a =>
  unfold yV at h
  dsimp only at h
  cases e : M a with
  | none => rw [e] at h; cases h
  | some o =>
   rw [e] at h
   cases o with
   | lst m =>
    dsimp only at h
    cases ep : pur m with
    | none => rw [ep] at h; cases h
    | some ds =>
     rw [ep] at h
     cases h
     rw [j8 ep] at e
     exact ⟨yc e, vz e, by unfold tyA; dsimp only; rw [e], rfl⟩
   | _ => cases h
theorem jr {x : AV} {M : MH} {d : Dat} (h : yV x M = some d) (hd : ∀ l, d ≠ .lst l) : x = .d d := by
 cases x with
 | d x => cases h; rfl
 | ref a =>
  unfold yV at h
  dsimp only at h
  cases e : M a with
  | none => rw [e] at h; cases h
  | some o =>
   rw [e] at h
   cases o with
   | lst m =>
    dsimp only at h
    cases ep : pur m with
    | none => rw [ep] at h; cases h
    | some ds => rw [ep] at h; cases h; exact absurd rfl (hd ds)
   | _ => cases h
theorem Hq (b : Bool) : dp (.bl b) = 0 := by simp [dp]
theorem WN (b : Str) : dp (.str b) = 0 := by simp [dp]
theorem Ge : dp .non = 0 := by simp [dp]
theorem Ef (a b : Bool) : eqD (.bl a) (.bl b) = decide (a = b) := by rw [eqD]; cases a <;> cases b <;> rfl
theorem Fk (a b : Int) : eqD (.int a) (.int b) = decide (a = b) := by rw [eqD]; by_cases h : a = b <;> simp [h]
theorem EX (a b : Str) : eqD (.str a) (.str b) = decide (a = b) := by rw [eqD]; by_cases h : a = b <;> simp [h]
theorem FR : eqD .non .non = true := by simp [eqD]
theorem F2 (i : Int) : eqD .non (.int i) = false := by simp [eqD]
theorem Ga (i : Int) : eqD (.int i) .non = false := by simp [eqD]
theorem Fq (i : Int) (s : Str) : eqD (.int i) (.str s) = false := by simp [eqD]
theorem Fb (i : Int) (s : Str) : eqD (.str s) (.int i) = false := by simp [eqD]
theorem EC (s : Str) : eqD (.str s) .non = false := by simp [eqD]
theorem EY (s : Str) : eqD .non (.str s) = false := by simp [eqD]
theorem Y3 {x : AV} {M : MH} {l : List AV} (h : qp x M = some l) {p : Addr} (hp : M p = none) (o : MO) : qp x (mup M p o) = some l := by
 rcases vK h with ⟨m, rfl, rfl⟩ | ⟨a, rfl, e⟩
 ·rfl
 ·exact yc (by rw [qh (fun z => by rw [z, hp] at e; cases e)]; exact e)
theorem wo {x : AV} {M : MH} {l : List AV} (h : qu x M = some l) {p : Addr} (hp : M p = none) (o : MO) : qu x (mup M p o) = some l := by
 rcases jc h with h' | ⟨m, rfl, rfl⟩
 ·have := Y3 h' hp o
  rcases vK h' with ⟨m, rfl, rfl⟩ | ⟨a, rfl, e⟩
  ·rfl
  ·exact this
 ·rfl
theorem jS (ns : List Int) : List.map AV.d (List.map Dat.int ns) = List.map (fun i => AV.d (.int i)) ns := by rw [List.map_map]; rfl
theorem D0 (ns : List Bool) : List.map AV.d (List.map Dat.bl ns) = List.map (fun i => AV.d (.bl i)) ns := by rw [List.map_map]; rfl
theorem qr (ns : List Int) : pur (List.map (fun i => AV.d (.int i)) ns) = some (ns.map Dat.int) := by rw [<- jS, qg]
theorem BU (ns : List Bool) : pur (List.map (fun i => AV.d (.bl i)) ns) = some (ns.map Dat.bl) := by rw [<- D0, qg]
theorem y9 {α β : Type} (f : α -> β) (l : List α) (i : Int) : atI (l.map f) i = (atI l i).map f := by
 unfold atI
 rw [List.length_map]
 cases ixN l.length i with
 | none => rfl
 | some j => exact List.getElem?_map ..
theorem vW {n : Nat} {i : Int} (h0 : 0 <= i) (h1 : i < n) : ixN n i = some i.toNat := by unfold ixN; rw [if_pos h0, if_pos h1]
theorem JB {α : Type} {l : List α} {i : Int} (h0 : 0 <= i) (h1 : i < l.length) (d : α) : atI l i = some (l.getD i.toNat d) := by
 unfold atI
 rw [vW h0 h1]
 show l[i.toNat]? = _
 rw [List.getD_eq_getElem?_getD, List.getElem?_eq_getElem (by omega)]; rfl
theorem vZ {ns : List Int} {i : Int} (h0 : 0 <= i) (h1 : i < ns.length) : atI (ns.map fun i => AV.d (.int i)) i = some (.d (.int (ns.getD i.toNat 0))) := by rw [y9, JB h0 h1 0]; rfl
theorem Xp {α β : Type} (f : α -> β) (xs : List α) (lo hi st : Option Int) : slA (xs.map f) lo hi st = (slA xs lo hi st).map f := by
 unfold slA
 rw [List.length_map]
 generalize sliceRange _ _ _ = ks
 induction ks with
 | nil => rfl
 | cons k r ih =>
  rw [List.filterMap_cons, List.filterMap_cons, List.getElem?_map]
  cases xs[k]? with
  | none => exact ih
  | some v => exact congrArg _ ih
theorem WE (xs : List V) : slA xs none (some 0) (some (-1)) = (xs.drop 1).reverse := Y1 xs
theorem X4 (ns : List Int) : slA ns none (some 0) (some (-1)) = (ns.drop 1).reverse := by
 have h := WE (ns.map V.int)
 rw [Xp, <- List.map_drop, <- List.map_reverse] at h
 exact (List.map_inj_right (fun _ _ z => V.int.inj z)).mp h
theorem X8 {α : Type} (xs : List α) (k : Nat) : WS xs (some (k : Int)) none = xs.drop k := by
 unfold WS
 rw [HT.sIx_nat, HT.sIx_none, List.take_of_length_le (by rw [List.length_drop]; omega)]
 by_cases h : k <= xs.length
 ·rw [Nat.min_eq_left h]
 ·rw [Nat.min_eq_right (by omega), List.drop_length, List.drop_of_length_le (by omega)]
theorem zp {a qU : AS} {B : MH} {D : yN} {ρ : ASt} {M : MH} (h : ∀ r, r = qU -> wv a r B D ρ M) : wv a qU B D ρ M := h qU rfl
theorem Fr.non {M M' : MH} (f : Fr M M') {p : Addr} (h : M' p = none) : M p = none := by
 cases e : M p with
 | none => rfl
 | some o => rw [f p (by rw [e]; exact fun z => nomatch z), e] at h; cases h
noncomputable abbrev ilD (os : List Int) : Dat := .lst (os.map .int)
theorem B1 (ns : List Int) (M : MH) : qp (.d (ilD ns)) M = some (ns.map fun i => .d (.int i)) := by rw [jw, jS]
theorem ZL (ns : List Int) (M : MH) : qu (.d (ilD ns)) M = some (ns.map fun i => .d (.int i)) := by rw [je, jS]
noncomputable def DG (K : PySem.W.Frag) (u : TA) : TE := tCB (fun xs H Q => ∃ p ys, xs = [V.ref p] /\ (SqL K H p ys \/ SqT K H p ys) /\ Q (V.int ys.length) H) u
theorem AU {X : Cx} {e : Expr} {u : TA} (h : PE X e (tCB (fun xs H Q => ∃ p ys, xs = [V.ref p] /\ (SqL X.K H p ys \/ SqT X.K H p ys) /\ Q (V.int ys.length) H) u)) : PE X e (DG X.K u) := h
noncomputable def DZ (K : PySem.W.Frag) (b : AA) : AE := fun ρ M Q => b ρ M fun xs M1 => ∃ l, xs = [.d (.scr K l)] /\ Q (.d (.int (l.length : Nat))) M1
theorem Ag {K : PySem.W.Frag} {u : TA} {b : AA} (h : kF u b) : zR (DG K u) (DZ K b) := ⟨fun w e q k => h.go w e q fun xs M1 v H1 O1 ⟨l, e1, q1⟩ k1 w1 r1 => by
 subst e1
 obtain ⟨v, rfl, rv⟩ := jd r1
 obtain ⟨a, rfl, hs⟩ := KY rv
 exact ⟨a, _, rfl, .inl hs, by rw [List.length_map]; exact k _ _ _ _ _ q1 k1 w1 .int⟩⟩
noncomputable def BxM (M : MH) (b : Addr) (N : Nat) : Prop := ∃ x y z : Int, M b = some (.lst [.d (.int x), .d (.int y), .d (.int z)]) /\ 0 <= x /\ 0 <= y /\ y < 2147483648 /\ 0 <= z /\ z <= N
theorem BxM.mono {M : MH} {b : Addr} {N N' : Nat} (h : BxM M b N) (hn : N <= N') : BxM M b N' := by
 obtain ⟨x, y, z, h1, h2, h3, h4, h5, h6⟩ := h
 exact ⟨x, y, z, h1, h2, h3, h4, h5, by omega⟩
theorem BxM.ne {M : MH} {b : Addr} {N : Nat} (h : BxM M b N) : M b ≠ none := by obtain ⟨x, y, z, h1, _⟩ := h; exact kd h1
theorem BxM.bx {H : Hp} {O : Own} {M : MH} {b : Addr} {N : Nat} (w : Wf H O M) (h : BxM M b N) : Bx H b N := by
 obtain ⟨x, y, z, h1, h2⟩ := h
 obtain ⟨xs, hx, rx⟩ := w.mo b _ h1
 rw [kI (ns := [x, y, z]) rx] at hx
 exact ⟨x, y, z, hx, h2⟩
noncomputable def BxS (M M' : MH) (b : Addr) (N : Nat) : Prop := BxM M' b N /\ ∃ o, M' = mup M b o
theorem BxS.at {M M' : MH} {b : Addr} {N : Nat} (h : BxS M M' b N) {q : Addr} (hq : q ≠ b) : M' q = M q := by
 obtain ⟨_, o, rfl⟩ := h
 exact qh hq
theorem Ff {H H' : Hp} {O : Own} {M : MH} (w : Wf H O M) {b : Addr} {N N' : Nat} (hb : BxM M b N) (k : Kp [b] H H') (h : Bx H' b N') : ∃ M', BxS M M' b N' /\ Ext H O M H' O M' /\ Wf H' O M' := by
 obtain ⟨x, y, z, h1, _⟩ := hb
 obtain ⟨x', y', z', g1, g2⟩ := h
 obtain ⟨e1, e2⟩ := FU w h1 k (ns := [x', y', z']) g1
 exact ⟨_, ⟨⟨x', y', z', zt, g2⟩, _, rfl⟩, e1, e2⟩
end L2
set_option Elab.async false
set_option linter.all false
set_option maxRecDepth 100000
set_option maxHeartbeats 4000000
namespace L2
open PySem PySem.Spec PyProof.Rows
mutual
noncomputable def pdD : Dat -> PyData
 | .bl b => .bool b
 | .int i => .int i
 | .str x => .str x
 | .lst l => .list (Z5 l)
 | .tup l => .tuple (Z5 l)
 | _ => .none
noncomputable def Z5 : List Dat -> List PyData
 | [] => []
 | a :: r => pdD a :: Z5 r
end
section
variable {X : Cx} {pins : List (Addr × Obj)} {s : Shared} {σ : St} {H : Hp} {O : Own}
mutual
theorem Gu : ∀ d : Dat, (pdD d).hasDict = false
 | .non => by simp [pdD, PyData.hasDict]
 | .bl _ => by simp [pdD, PyData.hasDict]
 | .int _ => by simp [pdD, PyData.hasDict]
 | .str _ => by simp [pdD, PyData.hasDict]
 | .ty _ => by simp [pdD, PyData.hasDict]
 | .rng _ _ _ => by simp [pdD, PyData.hasDict]
 | .scr _ _ => by simp [pdD, PyData.hasDict]
 | .lst l => by rw [pdD, PyData.hasDict]; exact Z4 l
 | .tup l => by rw [pdD, PyData.hasDict]; exact Z4 l
theorem Z4 : ∀ l : List Dat, PyData.hasDictAll (Z5 l) = false
 | [] => by simp [Z5, PyData.hasDictAll]
 | a :: r => by rw [Z5, PyData.hasDictAll, Gu a, Z4 r]; rfl
end
mutual
theorem YZ : ∀ d : Dat, (pdD d).depth <= dp d
 | .non => by simp [pdD, PyData.depth]
 | .bl _ => by simp [pdD, PyData.depth]
 | .int _ => by simp [pdD, PyData.depth]
 | .str _ => by simp [pdD, PyData.depth]
 | .ty _ => by simp [pdD, PyData.depth]
 | .rng _ _ _ => by simp [pdD, PyData.depth]
 | .scr _ _ => by simp [pdD, PyData.depth]
 | .lst l => by rw [pdD, PyData.depth, dp]; exact Nat.succ_le_succ (yl l)
 | .tup l => by rw [pdD, PyData.depth, dp]; exact Nat.succ_le_succ (yl l)
theorem yl : ∀ l : List Dat, PyData.depthAll (Z5 l) <= dps l
 | [] => by simp [Z5, PyData.depthAll]
 | a :: r => by rw [Z5, PyData.depthAll, dps]; exact Nat.max_le.mpr ⟨Nat.le_trans (YZ a) (Nat.le_max_left _ _), Nat.le_trans (yl r) (Nat.le_max_right _ _)⟩
end
end
section
variable {X : Cx}
end
structure Sh (b : Nat) (d : Dat) : Prop where
 s : (pdD d).showable = true
 l : (pdD d).shown.length <= b
theorem Bj {a b : ASp} (h : ∀ xs M Q, b xs M Q -> a xs M (rtA M Q)) (vs : List V) (H : Hp) (Q : VK) (E : XK) (q : cSp b vs H Q E) : cSp a vs H Q E := by
 obtain ⟨xs, M, O, Q', w, r, q, k⟩ := q
 refine ⟨xs, M, O, _, w, r, h xs M Q' q, fun x M' v H' O' q' e' w' r' => ?_⟩
 obtain ⟨y', M'', f, q2⟩ := q'
 obtain ⟨O'', w2, k2, r2⟩ := JO w w' e' r' f
 exact k _ _ _ _ _ q2 k2 w2 r2
end L2
set_option Elab.async false
set_option linter.all false
set_option maxRecDepth 100000
set_option maxHeartbeats 4000000
namespace L2
open PySem PySem.Spec PyProof.Rows
structure SB (M0 M : MH) (b : Addr) (N : Nat) : Prop where
 bx : BxM M b N
 fr : ∀ q, M0 q ≠ none -> q ≠ b -> M q = M0 q
 b0 : M0 b ≠ none
theorem SB.refl {M : MH} {b : Addr} {N : Nat} (h : BxM M b N) : SB M M b N := ⟨h, fun _ _ _ => rfl, h.ne⟩
theorem SB.go {M0 M M' : MH} {b : Addr} {N N' : Nat} (s : SB M0 M b N) (t : BxS M M' b N') : SB M0 M' b N' := ⟨t.1, fun q hq hb => (t.at hb).trans (s.fr q hq hb), s.b0⟩
theorem SB.mono {M0 M : MH} {b : Addr} {N N' : Nat} (s : SB M0 M b N) (h : N <= N') : SB M0 M b N' := ⟨s.bx.mono h, s.fr, s.b0⟩
theorem SB.new {M0 M : MH} {b p : Addr} {N : Nat} (s : SB M0 M b N) (hp : M p = none) : M0 p = none /\ p ≠ b := by
 have hb : p ≠ b := fun z => s.bx.ne (by rw [<- z]; exact hp)
 refine ⟨?_, hb⟩
 cases e : M0 p with
 | none => rfl
 | some o => rw [s.fr p (by rw [e]; exact fun z => nomatch z) hb, e] at hp; cases hp
theorem SB.fin {M0 M : MH} {b : Addr} {N : Nat} (s : SB M0 M b N) (d : Dat) : ∃ M'', Yo M0 M (.d d) (.d d) M'' /\ BxS M0 M'' b N := by
 obtain ⟨x, y, z, h1, h2⟩ := s.bx
 refine ⟨mup M0 b (.lst [.d (.int x), .d (.int y), .d (.int z)]), ⟨fun q => ?_, fun q o e => ?_, .inl ⟨rfl, fun p z => nomatch z⟩⟩, ⟨x, y, z, zt, h2⟩, _, rfl⟩
 ·by_cases c : q = b
  ·rw [c, zt, h1]; exact .inl rfl
  ·rw [qh c]
   cases e : M0 q with
   | none => exact .inr ⟨rfl, rfl⟩
   | some o => exact .inl (by rw [s.fr q (by rw [e]; exact fun z => nomatch z) c, e])
 ·by_cases c : q = b
  ·rw [c, zt] at e
   cases e
   exact .inr fun r hr => absurd hr (Xe (ds := [.int x, .int y, .int z]) rfl r)
  ·rw [qh c] at e; exact .inl e
theorem SB.rt {M0 M : MH} {b : Addr} {N : Nat} {Q : AK} {d : Dat} (s : SB M0 M b N) (q : ∀ M', BxS M0 M' b N -> Q (.d d) M') : rtA M0 Q (.d d) M := by
 obtain ⟨M'', f, t⟩ := s.fin d
 exact ⟨_, _, f, q M'' t⟩
theorem xy {M0 M : MH} {Q : AK} {d : Dat} (f : Fr M0 M) (q : Q (.d d) M0) : rtA M0 Q (.d d) M := ⟨_, _, Qm f d, q⟩
theorem SB.frm {M M2 M' : MH} {b : Addr} {N : Nat} (f : Fr M M2) (hb : M b = none) (s : SB M2 M' b N) : Fr M M' := fun q hq => by
 have h1 : q ≠ b := fun z => hq (by rw [z]; exact hb)
 rw [s.fr q (by rw [f q hq]; exact hq) h1, f q hq]
theorem Hg {l : List Dat} {i : Int} (h0 : 0 <= i) (h1 : i < l.length) : ∃ d ∈ l, atI (l.map AV.d) i = some (.d d) := by
 have h2 : i.toNat < l.length := by omega
 refine ⟨l[i.toNat], List.getElem_mem h2, ?_⟩
 rw [y9, JB h0 h1 .non, List.getD_eq_getElem?_getD, List.getElem?_eq_getElem h2]; rfl
theorem Hl {l : List Dat} {i : Int} (h0 : -(l.length : Int) <= i) (h1 : i < l.length) : ∃ d ∈ l, atI (l.map AV.d) i = some (.d d) := by
 by_cases c : 0 <= i
 ·exact Hg c h1
 ·rw [y9]
  unfold atI ixN
  rw [if_neg c, if_pos (by omega)]
  have h2 : (i + l.length).toNat < l.length := by omega
  exact ⟨l[(i + l.length).toNat], List.getElem_mem h2, by
   first
    | (show (l[(i + l.length).toNat]?).map AV.d = _; rw [List.getElem?_eq_getElem h2]; rfl)
    | (simp [h2])⟩
theorem DA {ns : List Int} {i : Int} (h0 : -(ns.length : Int) <= i) (h1 : i < ns.length) : ∃ v ∈ ns, atI (ns.map fun i => AV.d (.int i)) i = some (.d (.int v)) := by
 obtain ⟨d, hd, e⟩ := Hl (l := ns.map .int) (i := i) (by rw [List.length_map]; exact h0) (by rw [List.length_map]; exact h1)
 obtain ⟨v, hv, rfl⟩ := List.mem_map.mp hd
 rw [jS] at e
 exact ⟨v, hv, e⟩
section
variable {X : Cx}
end
section
open PySem.SeqAt
open PySem.AutoSeq1 (wpAny_loadPart')
open PySem.MeetsSeq PySem.MeetsSeq2 PySem.MeetsSeq3 PySem.SeqRoads2
end
section
variable {X : Cx}
end
end L2
set_option Elab.async false
set_option linter.all false
set_option maxRecDepth 100000
set_option maxHeartbeats 4000000
namespace L2
open PySem PySem.Spec PyProof.Rows
section
variable {X : Cx} {pins : List (Addr × Obj)} {σ : St} {H : Hp} {s : Shared} {a b : Addr} {kvs : List (List Key × V)} {k : List Key} {v : V} {r : Value} {A : Around} {E : Value -> Shared -> Prop}
end
end L2
set_option Elab.async false
set_option linter.all false
set_option maxRecDepth 100000
set_option maxHeartbeats 4000000
namespace L2
open PySem PySem.Spec PyProof.Rows
section
variable {prog : Program} {w : World} {A : Around} {E : Value -> Shared -> Prop} {s : Shared}
end
section
variable {X : Cx}
end
theorem AB {α τ : Type} (R : τ -> ASt) (g f : α -> AV) (xs : List α) {ag : AG} {ae : AE} {G : MH -> Prop} {N : List AV -> ASt -> MH -> Prop} {ρ : ASt} {M : MH} (h0 : ∃ o, ρ = R o) (hG : G M) (hl : xs.length <= 100000)
  (hs : ∀ (o : τ) (x : α) (Q : AV -> ASt -> MH -> Prop), x ∈ xs -> (∀ o', Q (f x) (R o') M) -> ag (g x) (R o) M fun ρ2 M2 => ae ρ2 M2 fun y M3 => Q y ρ2 M3) (hN : ∀ o, N (xs.map f) (R o) M) : JQ ag wK (yP ae) G N (xs.map g) [] ρ M := by
 have hsl : 100000 < sizeLine := by rw [sizeLine_eq]; decide
 refine ⟨fun i acc ρ' M' => i <= xs.length /\ acc = (xs.take i).map f /\ M' = M /\ ∃ o, ρ' = R o, ⟨Nat.zero_le _, rfl, rfl, h0⟩, ?_, ?_⟩
 ·rintro i x acc ρ' M' hx ⟨hi, rfl, rfl, o, rfl⟩
  rw [List.getElem?_map] at hx
  cases e : xs[i]? with
  | none => rw [e] at hx; cases hx
  | some y =>
   rw [e] at hx
   cases hx
   have hil := (List.getElem?_eq_some_iff.mp e).1
   refine ⟨hG, ?_⟩
   refine hs o y (fun z ρ2 M3 => ((xs.take i).map f).length < sizeLine /\ (i + 1 <= xs.length /\ (xs.take i).map f ++ [z] = (xs.take (i + 1)).map f /\ M3 = M' /\ ∃ o, ρ2 = R o)) (List.mem_of_getElem? e) fun o' => ⟨by rw [List.length_map, List.length_take]; omega, hil, ?_, rfl, o', rfl⟩
   rw [List.take_add_one, e, List.map_append]; rfl
 ·rintro acc ρ' M' ⟨_, rfl, rfl, o, rfl⟩
  rw [List.length_map, List.take_length]
  exact ⟨hG, hN o⟩
end L2
set_option Elab.async false
set_option linter.all false
set_option maxRecDepth 100000
set_option maxHeartbeats 4000000
namespace Ot
open PySem PySem.Spec PyProof.Rows L2
noncomputable def top (i : Nat) : Stmt := PySem.Challenge.pw_ownturn_k29_whole_rolled_and_exchanged.main.body.getD i (.Pass ⟨0, 0, 0, 0⟩)
section
variable {P : Program} {w : World} {K : PySem.W.Frag} {mg : Str -> Option Value} {base : Heap} {k : Nat}
local macro_rules | `(tactic| walk_at "rd") => `(tactic| try simp only [Ac, Wo, EI, K4, tOp, tUn, rU, YR, tC, tB, EG, Hd, KC, rI0, rI, VB, QE, Fg, VI, Ao, AM, Vm, Gc, FH, tCB, Ws, Aq, K8, DS, JY, Da, Dy, rEq, rNe, Eh, Ed, tBM, ve, vg, XB, JN, Fh, Hz, QF, VY, HF, GY, D7, D9, ipI, Jx, Yj, X1, tIf, tOr, Gx, FT, Wh, FK, FP, KG, Vv, cxK, WY, Ah, D8, HE, iLT, DF, ZZ, tSl, Ax, ZG, A7, List.append_nil,
 List.getElem?_cons_zero, List.getElem?_cons_succ, Option.some.injEq, exists_eq_left', exists_eq_left, V.int.injEq, V.ref.injEq, V.bl.injEq, List.cons.injEq, and_true, true_and, and_assoc, decide_eq_true_eq, Bool.not_eq_true', decide_eq_false_iff_not, Bool.false_eq_true, if_false, if_true, reduceIte, exists_and_left, exists_and_right, List.set_cons_zero, List.set_cons_succ, List.nil_append, List.cons_append])
theorem xf {H : Hp} {a b : Addr} {o : HO} (h' : H b = none) (h : H a = some o) : a ≠ b := zm h h'
theorem Qj {H H' : Hp} {l : Addr} (h : H' l = none) (e : Kp [] H H') : H l = none := e.free h
theorem Ka {K : PySem.W.Frag} {H H' : Hp} {a : Addr} {xs : List V} (h : SqL K H a xs) (e : Kp [] H H') : SqL K H' a xs := by
 rcases h with (h | ⟨o, h⟩) | h
 ·exact .inl (.inl (e _ _ (by simp) h))
 ·exact .inl (.inr ⟨o, e _ _ (by simp) h⟩)
 ·exact .inr h
theorem hsl : 100000 < sizeLine := by rw [sizeLine_eq]; decide
theorem ZN {α : Type} (k : Nat) (v : α) : (List.replicate k [v]).flatten = List.replicate k v := by simp
theorem qX (i : Int) {j : Int} (h : 0 < j) : 0 <= i % j /\ i % j < j := ⟨Int.emod_nonneg _ (by omega), Int.emod_lt_of_pos _ h⟩
theorem Ki {i j : Int} (h1 : 0 <= i) (h2 : i < 18446744073709551616) : WG i j := .inl ⟨by omega, by omega⟩
theorem VU {i j : Int} (h1 : 0 <= j) (h2 : j < 18446744073709551616) : WG i j := .inr ⟨by omega, by omega⟩
theorem b01 (c : Prop) [Decidable c] : 0 <= (if c then (1 : Int) else 0) := by split <;> decide
theorem A8 {i j : Int} (h1 : 0 < j) (h2 : j < 1073741824) : YY i j := ⟨h1, h2⟩
local macro_rules | `(tactic| walk_at "ne") => `(tactic| first | (with_reducible assumption) | exact Ne.symm (by with_reducible assumption) | exact xf (by with_reducible assumption) (by walk_at "hp") | exact Ne.symm (xf (by with_reducible assumption) (by walk_at "hp")))
local macro_rules | `(tactic| walk_at "hp") => `(tactic| first | (with_reducible assumption) | (with_reducible exact zh) | ((with_reducible refine Eq.trans (zj ?ne) ?_); (case ne => walk_at "ne"); walk_at "hp"))
local macro_rules | `(tactic| walk_at "kp") => `(tactic| first | (with_reducible assumption) | (with_reducible exact Kp.refl) | ((with_reducible refine Kp.trans ?_ (Kp.new _ ?h)); (case h => with_reducible assumption); walk_at "kp") | ((with_reducible refine Kp.trans ?_ (Kp.set _ ?h)); (case h => (simp; done)); walk_at "kp"))
local macro_rules | `(tactic| walk_at "fr") => `(tactic| first | (with_reducible assumption) | exact Qj (by with_reducible assumption) (by walk_at "kp"))
local macro_rules | `(tactic| walk_at "sz") => `(tactic| (simp only [List.length_cons, List.length_nil, List.length_map, List.length_append, List.length_replicate, List.length_take, List.length_drop, zi, ZN, Nat.zero_add, Nat.one_mul]; omega))
local macro_rules | `(tactic| walk_at "fact") => `(tactic| first | (with_reducible assumption) | exact rfl | exact SqL.of (by walk_at "hp") | exact SqT.of (by walk_at "hp") | exact Or.inl (SqL.of (by walk_at "hp")) | exact Or.inr (SqT.of (by walk_at "hp")) | exact Or.inl (by with_reducible assumption) | exact Ka (by with_reducible assumption) (by walk_at "kp") | exact Or.inl (Ka (by with_reducible assumption) (by walk_at "kp")) | exact Exists.intro _ (SqL.of (by walk_at "hp")) | exact Exists.intro _ (Ka (by with_reducible assumption) (by walk_at "kp")) | (walk_at "hp") | decide | omega | exact Ki (by omega) (by omega) | exact VU (by omega) (by omega) | exact A8 (by omega) (by omega) | exact ⟨by omega, by omega⟩ | (walk_at "sz") | exact ⟨by decide, by decide, by decide⟩ | exact VU (b01 _) (b01' _) | (walk_at "fr"))
local macro_rules | `(tactic| walk_at "x1") => `(tactic| first
 | ((with_reducible refine Exists.intro ?w (And.intro ?h ?_)); (case h => walk_at "fact"))
 | ((with_reducible refine And.intro ?h ?_); (case h => walk_at "fact"))
 | ((with_reducible refine Exists.intro ?w (Exists.intro ?w2 (And.intro ?h ?_))); (case h => walk_at "fact")))
local macro_rules | `(tactic| walk_at "xs") => `(tactic| repeat walk_at "x1")
local macro_rules | `(tactic| walk_at "sim1") => `(tactic| first
 | (with_reducible apply YX) | with_reducible exact Du | with_reducible exact GF | with_reducible exact F9 | with_reducible exact F6 | with_reducible exact EW | with_reducible exact GG | with_reducible exact A2 | with_reducible exact Y9 | with_reducible exact YN | with_reducible exact WV | with_reducible exact Dh
 | with_reducible exact VQ | with_reducible exact YF | with_reducible exact BV | with_reducible exact EQ | with_reducible exact Bt | with_reducible exact WC | with_reducible exact WR
 | with_reducible exact EJ | with_reducible exact FX | with_reducible exact AQ | with_reducible exact Vp | with_reducible exact A6
 | with_reducible exact Bd | with_reducible exact Ej | with_reducible exact Yv | with_reducible exact Dk | with_reducible exact Wm | with_reducible exact Wb
 | with_reducible exact J1 | with_reducible exact Jj | with_reducible exact QY | with_reducible exact Qv | with_reducible exact wW
 | with_reducible exact yD | with_reducible exact XA
 | (with_reducible apply AR) | (with_reducible apply BW) | (with_reducible apply Dl) | (with_reducible apply Bp) | (with_reducible apply Wt) | (with_reducible apply Dv) | (with_reducible apply Yc) | (with_reducible apply BM) | (with_reducible apply B4) | (with_reducible apply WW)
 | (with_reducible apply XE) | (with_reducible apply WX) | (with_reducible apply Wq) | (with_reducible apply Hv) | (with_reducible apply Gb) | (with_reducible apply AW) | (with_reducible apply EE) | (with_reducible apply B0)
 | (with_reducible apply Ba) | (with_reducible apply E6) | (with_reducible apply BS) | (with_reducible apply W3) | (with_reducible apply BJ) | (with_reducible apply Em) | (with_reducible apply Yn) | (with_reducible apply Vu)
 | (with_reducible apply Bg) | (with_reducible apply Ad) | (with_reducible apply Fs) | (with_reducible apply GI) | (with_reducible apply vh) | (with_reducible apply wV) | (with_reducible apply WA) | (with_reducible apply Zp)
 | (with_reducible apply BA) | (with_reducible apply Wa) | (with_reducible apply Zn) | (with_reducible apply XX) | (with_reducible apply Dc) | (with_reducible apply Ag) | (with_reducible apply Ap) | (with_reducible apply VH) | (with_reducible apply Gf) | (with_reducible apply XW) | (with_reducible apply XI) | (with_reducible apply Fn)
 | (with_reducible apply Kj) | (with_reducible apply Yr) | (with_reducible apply YH)
 | (with_reducible apply xT))
local macro_rules | `(tactic| walk_at "sim") => `(tactic| repeat' walk_at "sim1")
local macro_rules | `(tactic| walk_at "ra") => `(tactic| try simp only [ Qq, aC, aOp, aUn, A9, QJ, aCB, Vq, aFz, aOw, HB, Hw, aB, wK, aOr, Ez, D6, Hk, aIf, Wg, JU, wv, DT, El, EL, Y6, Jn, Dz, V0, DV, Vf, asL, E5, Hu, G4, GO, aiS, Hh, GJ, aiE, Ho, yP, JA, KF, aI, aI0, aU, aIx, fOp, Gz, F5, GQ, DK, fSl, Hc, GV, aIn, E7, bI1, bI2, YQ, fCB, V5, ZM, G9, DN, DQ, DC, aBM, DZ, KA, Xu, BO, FB, jw, E8, je, Gp, HC, G3, G7, Ha, He, GZ, Vk, YG, Option.map_some, Gw, Eu, Gj, Ft, Va, V8, FI, FC, Gk, FV, Fc, Fw, FN, En, EU, EH, Gv, FZ, F1, Ex, Fe, FL, EF, F3, Eg, FY, Ec, GC, FS, E3, FM, GH, Gq, F0, Ei, E9, B2, X0, qg, qr, BU, jS, D0, Gm, Gr, FE, BY, Bc, Be, Dn, Dw, Dt, Ds, Wc, Hq, WN, Ge, Ef, Fk, EX, FR, F2, Ga, Fq, Fb, EC, EY, id, decide_true, decide_false, Bool.decide_eq_true, not_true_eq_false, not_false_eq_true, Zx,
 List.getElem?_cons_zero, List.getElem?_cons_succ, Option.some.injEq, exists_eq_left', exists_eq_left, AV.d.injEq, AV.ref.injEq, Dat.int.injEq, Dat.bl.injEq, Dat.str.injEq, Dat.lst.injEq, Dat.tup.injEq, Dat.ty.injEq, List.cons.injEq, and_true, true_and, and_assoc, decide_eq_true_eq, Bool.not_eq_true', decide_eq_false_iff_not, Bool.false_eq_true, if_false, if_true, reduceIte, exists_and_left, exists_and_right, List.set_cons_zero, List.set_cons_succ, List.nil_append, List.cons_append, List.length_map, List.map_cons, List.map_nil, Nat.zero_le, Bool.not_true, Bool.not_false, Bool.true_eq_false, eq_self, List.length_cons, List.length_nil])
theorem Q4 (ns : List Int) (lo hi : Option Int) : vt (ns.map V.int) lo hi = List.map V.int ((ns.drop (HT.sIx ns.length 0 lo)).take (HT.sIx ns.length ns.length hi - HT.sIx ns.length 0 lo)) := by
 unfold vt
 rw [List.length_map, <- List.map_drop, <- List.map_take]
theorem ZJ (cs : List Int) (j : Nat) (v : Int) : (cs.map V.int).set j (.int v) = (cs.set j v).map V.int := by rw [List.map_set]
theorem kO {cs : List Int} {k : Int} (h0 : 0 <= k) (h1 : k < cs.length) : ixN (cs.map V.int).length k = some k.toNat /\ atI (cs.map V.int) k = some (.int (cs.getD k.toNat 0)) := by
 have hk : k.toNat < cs.length := by omega
 have e1 : ixN (cs.map V.int).length k = some k.toNat := by unfold ixN; rw [List.length_map, if_pos h0, if_pos h1]
 refine ⟨e1, ?_⟩
 unfold atI
 rw [e1]
 show (cs.map V.int)[k.toNat]? = _
 rw [List.getElem?_map, List.getD_eq_getElem?_getD, List.getElem?_eq_getElem hk]; rfl
theorem xR {ns : List Int} {i : Nat} {x : V} (h : (ns.map V.int)[i]? = some x) : x = .int (ns.getD i 0) /\ i < ns.length := by
 rw [List.getElem?_map] at h
 cases e : ns[i]? with
 | none => rw [e] at h; cases h
 | some v =>
  rw [e] at h
  cases h
  exact ⟨by rw [List.getD_eq_getElem?_getD, e]; rfl, (List.getElem?_eq_some_iff.mp e).1⟩
theorem Kp.un {bs : List Addr} {p : Addr} {H H' : Hp} (h : Kp (p :: bs) H H') (hp : H p = none) : Kp bs H H' := fun c o n e => h c o (by
 intro z
 rcases List.mem_cons.mp z with z | z
 ·subst z; rw [hp] at e; cases e
 ·exact n z) e
theorem Ql {K : PySem.W.Frag} {H H' : Hp} {a : Addr} {xs : List V} (h : SqL K H a xs \/ SqT K H a xs) (e : Kp [] H H') : SqL K H' a xs \/ SqT K H' a xs := h.imp (fun z => JZ z e) (fun z => Kt z e)
noncomputable def rfs (rs : List (Addr × List Int)) : List V := rs.map fun r => V.ref r.1
noncomputable abbrev J8 : Stmt := top 41
theorem KS : zo ["_law_box_here", "_law_many", "_law_once", "_law_found"] ["_law_box_here", "_law_many"] (zf J8) := ⟨rfl, rfl, rfl, by decide +kernel, rfl, by decide +kernel, by decide +kernel⟩
noncomputable def W7 : Sp := fun vs H Q _ => ∃ (b : Addr) (many : Int) (N : Nat), vs = [.ref b, .int many] /\ Bx H b N /\ N < 1000000000 /\ 0 < many /\ many < 1073741824 /\ ∀ r H', Kp [b] H H' -> Bx H' b (N + 1) -> 0 <= r -> r < many -> Q (.int r) H'
theorem A0 (a : At K mg "_law_take" J8) (B : Blt mg) : Df P w K mg base "_law_take" ["_law_box_here", "_law_many"] 1 W7 := by
 refine kl (k := 0) a KS (fun _ _ _ _ _ _ us hl => match us, hl with | [_, _], _ => rfl) (fun vs H Q E h => ?_) (fun f cdv A outer s H vs Q E hr h => ?_)
 ·obtain ⟨b, m, N, rfl, _⟩ := h; rfl
 obtain ⟨b, m, N, rfl, ⟨x, y, z, hb, hx, hy, hy', hz, hz'⟩, hN, hm, hm', q⟩ := h
 have sc := KS
 refine ⟨_, (zc (zP (zC Q1 (zO qa (pv 0) ze (fun _ _ => rfl)) ze (zH _)) (zc (qG (zr QM rfl B.divmod Yt (za (zO qa (pv 0) ze (fun _ _ => rfl)) (za (pv 1) zb))) (jH (K := K) 2 rfl rfl (zX (qM (pv 0) ze zK) (zX (zA (i := 3) sc.nd rfl (by first | exact Or.inl rfl | exact Or.inr rfl)) jG))))
  (zd (zq (pv 3)))) zx)
  (zc (qG (zk zY (zO qa (pv 0) ze (fun _ _ => rfl)) ze) (qM (pv 0) ze zK))
  (zc (zu (i := 2) sc.nd rfl (by first | exact Or.inl rfl | exact Or.inr rfl) (zk qA (zk jK (zk zY (zO qa (pv 0) ze (fun _ _ => rfl)) (zk jK ze (zO qa (pv 0) ze (fun _ _ => rfl)))) (zk zY ze (zO qa (pv 0) ze (fun _ _ => rfl)))) ze))
  (zc (qG (zk qA (zk zY (zk jK (pv 2) (zk zY (zk qA (pv 2) ze) ze)) (zO qa (pv 0) ze (fun _ _ => rfl))) ze) (qM (pv 0) ze zK))
  (zd (zq (zk qA (zk yd (zk qA (zk jK (zO qa (pv 0) ze (fun _ _ => rfl)) (zk zY (zk qA (zO qa (pv 0) ze (fun _ _ => rfl)) ze) ze)) ze) ze) (pv 1)))))))), ?_⟩
 rw [show zZ ["_law_box_here", "_law_many", "_law_once", "_law_found"] [V.ref b, V.int m] = [some (.ref b), some (.int m), none, none] from rfl]
 walk_at "rd"
 walk_at "xs"
 refine WD (fun c => ?_) (fun c => ?_)
 ·walk_at "xs"
  refine fun p hp => ?_
  walk_at "xs"
  refine q _ _ ((Kp.new _ hp).trans (Kp.set _ (by simp))) ⟨_, _, _, zh, Int.ediv_nonneg hx (by omega), hy, hy', hz, by omega⟩ (qX x hm).1 (qX x hm).2
 ·walk_at "xs"
  refine q _ _ ((Kp.set _ (by simp)).trans (Kp.set _ (by simp))) ⟨_, _, _, zh, hx, ?_, ?_, ?_, ?_⟩ (qX _ hm).1 (qX _ hm).2
  ·exact (qX _ (by decide)).1
  ·exact Int.lt_trans (qX _ (by decide)).2 (by decide)
  ·omega
  ·omega
noncomputable abbrev VW : Stmt := top 40
theorem Wj : zo ["_law_script", "_law_k", "_law_cell"] ["_law_script", "_law_k"] (zf VW) := ⟨rfl, rfl, rfl, by decide +kernel, rfl, by decide +kernel, by decide +kernel⟩
noncomputable def Ea : Sp := fun vs H Q _ => ∃ (a : Addr) (k : Int) (cs : List Int), vs = [.ref a, .int k] /\ H a = some (il cs) /\ 0 <= k /\ k <= 1000 /\ cs.length <= 1000 /\ ∀ p H', Kp [] H H' -> H p = none -> Bx H' p 0 -> Q (.ref p) H'
theorem BP {cs : List Int} {k : Int} (h0 : 0 <= k) : ∃ c : Int, atI (cs.map V.int ++ List.replicate (k + 1).toNat (V.int 0)) k = some (.int c) := by
 have e : cs.map V.int ++ List.replicate (k + 1).toNat (V.int 0) = (cs ++ List.replicate (k + 1).toNat 0).map V.int := by simp
 have ek : k = ((k.toNat : Nat) : Int) := by omega
 have hk : k.toNat < (cs ++ List.replicate (k + 1).toNat (0 : Int)).length := by rw [List.length_append, List.length_replicate]; omega
 refine ⟨(cs ++ List.replicate (k + 1).toNat 0)[k.toNat], ?_⟩
 rw [e]
 have q : atI ((cs ++ List.replicate (k + 1).toNat (0 : Int)).map V.int) ((k.toNat : Nat) : Int) = some (.int (cs ++ List.replicate (k + 1).toNat 0)[k.toNat]) := A3 (by rw [List.getElem?_map, List.getElem?_eq_getElem hk] <;> rfl)
 rw [<- ek] at q
 exact q
theorem FW (a : At K mg "_law_box" VW) (B : Blt mg) : Df P w K mg base "_law_box" ["_law_script", "_law_k"] 1 Ea := by
 refine kl (k := 0) a Wj (fun _ _ _ _ _ _ us hl => match us, hl with | [_, _], _ => rfl) (fun vs H Q E h => ?_) (fun f cdv A outer s H vs Q E hr h => ?_)
 ·obtain ⟨a, k, cs, rfl, _⟩ := h; rfl
 obtain ⟨a, k, cs, rfl, ha, hk, hk', hcs, q⟩ := h
 have sc := Wj
 have hsl := hsl
 refine ⟨_, (zc (zu (i := 2) sc.nd rfl (by first | exact Or.inl rfl | exact Or.inr rfl) (zO qa (zk jO (pv 0) (zk j9 (qj (za ze zb)) (zk zY (pv 1) ze))) (pv 1) (fun _ _ => rfl)))
  (zd (zq (qj (za (zk jK (zr kB rfl B.abs vD (za (pv 2) zb)) (qt YC rfl B.int Jz (za (jF DX (zr kB rfl B.abs vD (za (pv 2) zb)) (zk JR ze ze) (zH _)) zb))) (za (zk qA (zk jK (zk zY (zk zY (zk qA (pv 2) ze) (zk jK ze (pv 1))) ze) ze) ze) (za ze zb))))))), ?_⟩
 rw [show zZ ["_law_script", "_law_k", "_law_cell"] [V.ref a, V.int k] = [some (.ref a), some (.int k), none] from rfl]
 walk_at "rd"
 walk_at "xs"
 intro p1 hp1
 walk_at "xs"
 intro p2 hp2
 walk_at "xs"
 intro p3 hp3
 simp only [ZN] at hp3 ⊢
 obtain ⟨c, hc⟩ := BP (cs := cs) hk
 walk_at "xs"
 intro p4 hp4
 refine q _ _ (by walk_at "kp") (by walk_at "fr") ⟨_, _, _, zh, ?_, ?_, ?_, ?_, ?_⟩
 ·exact Int.mul_nonneg (by split <;> omega) (b01 _)
 ·exact (qX _ (by decide)).1
 ·exact Int.lt_trans (qX _ (by decide)).2 (by decide)
 ·decide
 ·decide
noncomputable abbrev v9 : Stmt := top 42
theorem Zl : zo ["_law_script", "_law_many", "_law_cells", "_law_k", "_law_cell"] ["_law_script", "_law_many"] (zf v9) := ⟨rfl, rfl, rfl, by decide +kernel, rfl, by decide +kernel, by decide +kernel⟩
noncomputable def Q9 (K : PySem.W.Frag) : Sp := fun vs H Q _ => ∃ (a : Addr) (m : Int) (ns : List Int), vs = [.ref a, .int m] /\ SqL K H a (ns.map V.int) /\ 0 < m /\ m <= 60 /\ ns.length <= 63 /\ ∀ p H' cs, Kp [] H H' -> H p = none -> H' p = some (il cs) -> cs.length <= 1000 -> Q (.ref p) H'
theorem Yb (a : At K mg "_law_folded" v9) (B : Blt mg) : Df P w K mg base "_law_folded" ["_law_script", "_law_many"] 1 (Q9 K) := by
 refine kl (k := 0) a Zl (fun _ _ _ _ _ _ us hl => match us, hl with | [_, _], _ => rfl) (fun vs H Q E h => ?_) (fun f cdv A outer s H vs Q E hr h => ?_)
 ·obtain ⟨a, k, cs, rfl, _⟩ := h; rfl
 obtain ⟨a, m, ns, rfl, ha, hm, hm', hns, q⟩ := h
 obtain ⟨M, rfl⟩ : ∃ M : Nat, m = M := ⟨m.toNat, by omega⟩
 have sc := Zl
 have hsl := hsl
 refine ⟨_, (zc (zu (i := 2) sc.nd rfl (by first | exact Or.inl rfl | exact Or.inr rfl) (qt xS rfl B.list j7 (za (xW Zv (pv 0) y6 (jW (pv 1))) zb)))
  (zc (jf PassesOwn.never rfl (BK rfl B.enumerate (za (xW Zv (pv 0) (jW (pv 1)) (jW ze)) zb)) (jH (K := K) 2 rfl rfl (zX (zA (i := 3) sc.nd rfl (by first | exact Or.inl rfl | exact Or.inr rfl)) (zX (zA (i := 4) sc.nd rfl (by first | exact Or.inl rfl | exact Or.inr rfl)) jG))) (zd (qG (zk zY (zO qa (pv 2) (zk qA (pv 3) (pv 1)) (fun _ _ => rfl)) (zk jK (pv 4) (zk zY (pv 3) ze))) (qM (pv 2) (zk qA (pv 3) (pv 1)) zK))))
  (zd (zq (pv 2))))), ?_⟩
 rw [show zZ ["_law_script", "_law_many", "_law_cells", "_law_k", "_law_cell"] [V.ref a, V.int M] = [some (.ref a), some (.int M), none, none, none] from rfl]
 walk_at "rd"
 walk_at "xs"
 intro p1 hp1
 rw [Q4]
 walk_at "xs"
 intro p2 hp2
 walk_at "xs"
 intro p3 hp3
 rw [Q4]
 have e63 : (63 : Int) = ((63 : Nat) : Int) := rfl
 simp only [HT.sIx_none, HT.sIx_nat, e63, List.drop_zero, Nat.sub_zero] at hp2 hp3 ⊢
 walk_at "xs"
 generalize hc0 : ns.take (min M ns.length) = c0 at hp2 hp3 ⊢
 generalize hd0 : (ns.drop (min M ns.length)).take (min 63 ns.length - min M ns.length) = d0 at hp2 hp3 ⊢
 have lc : c0.length = min M ns.length := by rw [<- hc0, List.length_take]; omega
 have ld : d0.length <= ns.length - M := by rw [<- hd0, List.length_take, List.length_drop]; omega
 have n23 : p2 ≠ p3 := by walk_at "ne"
 refine Kw (xs := d0.map V.int) (fun i τ H' => ∃ u v cs, τ = [some (.ref a), some (.int M), some (.ref p2), u, v] /\ Kp [p2] (upd (upd (upd H p1 (HO.lst (List.map V.int c0))) p2 (HO.lst (List.map V.int c0))) p3 (HO.lst (List.map V.int d0))) H' /\ H' p2 = some (il cs) /\ cs.length = c0.length) ?_ ?_ ?_ ?_
 ·exact ⟨none, none, c0, rfl, Kp.refl, by walk_at "hp", rfl⟩
 ·rintro i τ H' _ ⟨u, v, cs, rfl, kp, _⟩
  exact SqL.of (kp _ _ (by simp [Ne.symm n23]) (by walk_at "hp"))
 ·rintro i x pp τ H' hx hpp ⟨u, v, cs, rfl, kp, hcs, hl⟩
  obtain ⟨rfl, hi⟩ := xR hx
  have b1 := qX (i : Int) hm
  obtain ⟨g1, g2⟩ := kO (cs := cs) (k := (i : Int) % (M : Int)) b1.1 (by omega)
  have hcs' : upd H' pp (HO.tup [V.int i, V.int (d0.getD i 0)]) p2 = some (il cs) := by walk_at "hp"
  walk_at "rd"
  walk_at "xs"
  refine ⟨(kp.trans (Kp.new _ hpp)).trans (Kp.set _ (by simp)), _, zh.trans (congrArg some (congrArg HO.lst (ZJ _ _ _))), by rw [List.length_set]; exact hl⟩
 ·rintro τ H' ⟨u, v, cs, rfl, kp, hcs, hl⟩
  walk_at "rd"
  refine q _ _ cs (fun c o hc hh => kp c o ?_ ((((Kp.new _ hp1).trans (Kp.new _ hp2)).trans (Kp.new _ hp3)) c o hc hh)) (by walk_at "fr") hcs (by omega)
  have : c ≠ p2 := xf (Qj hp2 (Kp.new _ hp1)) hh
  simpa using this
theorem Hs : MR rNe := fun _ _ _ _ _ hq ⟨e, h⟩ => ⟨e, hq _ _ h⟩
theorem vH {ss : List Bool} {i : Nat} (h : i < ss.length) : ixN (ss.map V.bl).length (i : Int) = some i /\ atI (ss.map V.bl) (i : Int) = some (.bl (ss.getD i false)) := by
 have e1 : ixN (ss.map V.bl).length (i : Int) = some i := by unfold ixN; rw [List.length_map, if_pos (by omega), if_pos (by omega), Int.toNat_natCast]
 refine ⟨e1, ?_⟩
 unfold atI
 rw [e1]
 show (ss.map V.bl)[i]? = _
 rw [List.getElem?_map, List.getD_eq_getElem?_getD, List.getElem?_eq_getElem h]; rfl
theorem wR {ss : List Bool} {i j : Nat} {v : Bool} (h : i < ss.length) : (ss.set i v).getD j false = if j = i then v else ss.getD j false := by
 rw [List.getD_eq_getElem?_getD, List.getD_eq_getElem?_getD, List.getElem?_set]
 by_cases e : i = j
 ·subst e; rw [if_pos rfl, if_pos h, if_pos rfl]; rfl
 ·rw [if_neg e, if_neg (fun z => e z.symm)]
noncomputable abbrev ky : Stmt := top 16
theorem xX : zo ["order", "first", "ring", "place"] ["order", "first"] (zf ky) := ⟨rfl, rfl, rfl, by decide +kernel, rfl, by decide +kernel, by decide +kernel⟩
noncomputable def vX (K : PySem.W.Frag) : Sp := fun vs H Q _ => ∃ (a : Addr) (n : Nat) (os : List Int) (p : Int), vs = [.ref a, .int p] /\ (SqL K H a (os.map V.int) \/ SqT K H a (os.map V.int)) /\ zl n os /\ n <= 1000 /\ 0 <= p /\ p < n /\ ∀ t H', Kp [] H H' -> H t = none -> H' t = some (il (zL os p)) -> Q (.ref t) H'
theorem ZK (a : At K mg "ring_from" ky) (B : Blt mg) : Df P w K mg base "ring_from" ["order", "first"] 1 (vX K) := by
  refine kl (k := 0) a xX (fun _ _ _ _ _ _ us hl => match us, hl with | [_, _], _ => rfl) (fun vs H Q E h => ?_) (fun f cdv A outer s H vs Q E hr h => ?_)
  · obtain ⟨a, _, _, _, rfl, _⟩ := h; rfl
  obtain ⟨a, n, os, p, rfl, ha, ho, hn, p0, p1, q⟩ := h
  have sc := xX
  have hsl := hsl
  have ol := ho.1
  obtain ⟨M, hM, hMn⟩ := xc ho p0 p1
  refine ⟨_, (zc (zu (i := 2) sc.nd rfl (by first | exact Or.inl rfl | exact Or.inr rfl) (qj (za (pv 1) zb)))
    (zc (zu (i := 3) sc.nd rfl (by first | exact Or.inl rfl | exact Or.inr rfl) (zO jD (pv 0) (pv 1) (fun _ _ => rfl)))
    (zc (vG PassesOwn.never (zC DL (pv 3) (pv 1) (zH _)) (zc (qZ (Ja PySem.F.plainAttrs_list PySem.F.slot_list_append PySem.F.type_list_append xv (pv 2) (za (pv 3) zb)))
    (zd (zu (i := 3) sc.nd rfl (by first | exact Or.inl rfl | exact Or.inr rfl) (zO jD (pv 0) (pv 3) (fun _ _ => rfl))))))
    (zd (zq (pv 2)))))), ?_⟩
  rw [show zZ ["order", "first", "ring", "place"] [V.ref a, V.int p] = [some (.ref a), some (.int p), none, none] from rfl]
  walk_at "rd"
  obtain ⟨e1, e2⟩ := kO (cs := os) (k := p) p0 (by omega)
  refine ⟨by show 1 <= sizeLine; decide, fun t ht => ⟨_, Ql ha (Kp.new _ ht), _, e2, ?_⟩⟩
  refine WT (fun τ H' => ∃ (j : Nat), τ = [some (.ref a), some (.int p), some (.ref t), some (.int (itn os j p))] /\ Kp [t] (upd H t (.lst [.int p])) H' /\ H' t = some (il (itl os p j)) /\ 1 <= j /\ j <= M /\ ∀ i, 1 <= i -> i < j -> itn os i p ≠ p)
    (fun _ H' => match H' t with | some (.lst xs) => M + 1 - xs.length | _ => 0) ?_ ?_ (BR (HA Hs Au Au))
  · exact ⟨1, rfl, Kp.refl, zh, Nat.le_refl _, hM.1, fun i h1 h2 => by omega⟩
  · rintro τ H' ⟨j, rfl, kp, hH, j1, jM, hj⟩
    have bd := qN ho p0 p1 j
    have k0 := Kp.drop1 ht kp
    walk_at "rd"
    refine ⟨rfl, WD (fun c => ?_) (fun c => ?_)⟩
    · have jM' : j < M := by
        rcases Nat.lt_or_ge j M with z | z
        · exact z
        · have e : j = M := by omega
          subst e
          exact absurd hM.2.1 c
      obtain ⟨g1, g2⟩ := kO (cs := os) (k := itn os j p) bd.1 (by omega)
      have k1 : Kp [] H (upd H' t (HO.lst (List.map V.int (itl os p j) ++ [V.int (itn os j p)]))) := Kp.drop1 ht (kp.trans (Kp.set _ (by simp)))
      refine ⟨.inl ⟨rfl, _, SqL.of hH⟩, _, hH, by rw [List.length_map, qT]; omega, _, Ql ha k1, _, g2, ⟨j + 1, rfl, kp.trans (Kp.set _ (by simp)), ?_, by omega, by omega, fun i h1 h2 => ?_⟩, ?_⟩
      · rw [VR]
        exact zh.trans (congrArg some (congrArg HO.lst (by rw [List.map_append]; rfl)))
      · by_cases e : i = j
        · subst e; exact c
        · exact hj i h1 (by omega)
      · rw [zh, hH]
        show M + 1 - (List.map V.int (itl os p j) ++ [V.int (itn os j p)]).length < M + 1 - (List.map V.int (itl os p j)).length
        rw [List.length_append, List.length_map, qT]
        show M + 1 - (j + 1) < M + 1 - j
        omega
    · have hw : kz os p j := ⟨j1, by by_cases z : itn os j p = p; exact z; exact absurd z c, hj⟩
      refine q _ _ k0 ht ?_
      unfold zL
      rw [hw.per]
      exact hH
noncomputable abbrev Z0 : Stmt := top 17
theorem Qn : zo ["order", "seen", "found", "first", "ring", "place"] ["order"] (zf Z0) := ⟨rfl, rfl, rfl, by decide +kernel, rfl, by decide +kernel, by decide +kernel⟩
noncomputable def KW (K : PySem.W.Frag) : Sp := fun vs H Q _ => ∃ (a : Addr) (n : Nat) (os : List Int), vs = [.ref a] /\ (SqL K H a (os.map V.int) \/ SqT K H a (os.map V.int)) /\ zl n os /\ n <= 1000 /\
 ∀ p H' rs, Kp [] H H' -> H p = none -> H' p = some (.lst (rfs rs)) -> (∀ r ∈ rs, H r.1 = none /\ r.1 ≠ p /\ H' r.1 = some (il r.2)) -> rs.map (·.2) = zy os n -> Q (.ref p) H'
theorem VZ (a : At K mg "rings" Z0) (B : Blt mg) (D_ring_from : Df P w K mg base "ring_from" ["order", "first"] 1 (vX K)) : Df P w K mg base "rings" ["order"] 2 (KW K) := by
 refine kl (k := 1) a Qn (fun _ _ _ _ _ _ us hl => match us, hl with | [_], _ => rfl) (fun vs H Q E h => ?_) (fun f cdv A outer s H vs Q E hr h => ?_)
 ·obtain ⟨a, _, _, rfl, _⟩ := h; rfl
 obtain ⟨a, n, os, rfl, ha, ho, hn, q⟩ := h
 have sc := Qn
 have hsl := hsl
 have ol := ho.1
 refine ⟨_, (zc (zu (i := 1) sc.nd rfl (by first | exact Or.inl rfl | exact Or.inr rfl) (zk j9 (qj (za qE zb)) (zr zw rfl B.len qm (za (pv 0) zb))))
  (zc (zu (i := 2) sc.nd rfl (by first | exact Or.inl rfl | exact Or.inr rfl) (qj zb))
  (zc (jf PassesOwn.never rfl (js rfl B.range (za (zr zw rfl B.len qm (za (pv 0) zb)) zb)) (zA (i := 3) sc.nd rfl (by first | exact Or.inl rfl | exact Or.inr rfl)) (zd (zP (qL (qd (zO qa (pv 1) (pv 3) (fun _ _ => rfl)) (fun _ => rfl))) (zc (zu (i := 4) sc.nd rfl (by first | exact Or.inl rfl | exact Or.inr rfl) (zn D_ring_from hr rfl (za (pv 0) (za (pv 3) zb))))
  (zc (jf PassesOwn.never rfl (AL (pv 4)) (zA (i := 5) sc.nd rfl (by first | exact Or.inl rfl | exact Or.inr rfl)) (zd (qG qE (qM (pv 1) (pv 5) zK))))
  (zd (zP (zC Q1 (zr zw rfl B.len qm (za (pv 4) zb)) ze (zH _)) (zd (qZ (Ja PySem.F.plainAttrs_list PySem.F.slot_list_append PySem.F.type_list_append xv (pv 2) (za (pv 4) zb)))) zx)))) zx)))
  (zd (zq (pv 2)))))), ?_⟩
 rw [show zZ ["order", "seen", "found", "first", "ring", "place"] [V.ref a] = [some (.ref a), none, none, none, none, none] from rfl]
 walk_at "rd"
 refine ⟨by show 1 <= sizeLine; decide, fun pz hpz => ⟨_, Ql ha (Kp.new _ hpz), _, zh, ?_⟩⟩
 rw [List.length_map, ol, Int.toNat_natCast, ZN]
 refine ⟨by omega, by omega, by show 1 * n <= sizeLine; omega, fun ps hps => ?_⟩
 refine ⟨Nat.zero_le _, fun pf hpf => ?_⟩
 have kH := ((Kp.new (bs := []) (HO.lst [V.bl false]) hpz).trans (Kp.new (HO.lst (List.replicate n (V.bl false))) hps)).trans (Kp.new (HO.lst []) hpf)
 have nps : H ps = none := (Kp.new (bs := []) _ hpz).free hps
 have npf : H pf = none := ((Kp.new (bs := []) _ hpz).trans (Kp.new _ hps)).free hpf
 have hps0 := (Kp.new (bs := []) (HO.lst []) hpf) ps _ (by simp) (zh (H := upd H pz (HO.lst [V.bl false])) (o := HO.lst (List.replicate n (V.bl false))))
 have hpf0 := zh (H := upd (upd H pz (HO.lst [V.bl false])) ps (HO.lst (List.replicate n (V.bl false)))) (a := pf) (o := HO.lst [])
 have nsf : ps ≠ pf := zm zh hpf
 generalize upd (upd (upd H pz (HO.lst [V.bl false])) ps (HO.lst (List.replicate n (V.bl false)))) pf (HO.lst []) = H0 at *
 refine ⟨_, Ql ha kH, ?_⟩
 rw [List.length_map, ol]
 refine ⟨by omega, by omega, ?_⟩
 rw [Int.toNat_natCast]
 refine W1 (fun i τ G => ∃ (x3 x4 x5 : Option V) (ss : List Bool) (rs : List (Addr × List Int)), τ = [some (.ref a), some (.ref ps), some (.ref pf), x3, x4, x5] /\ Kp [ps, pf] H0 G /\ G ps = some (.lst (ss.map V.bl)) /\ ss.length = n /\ (∀ x : Nat, x < n -> (ss.getD x false = true ↔ qk os i (x : Int))) /\ G pf = some (.lst (rfs rs)) /\ (∀ r ∈ rs, H r.1 = none /\ r.1 ≠ pf /\ r.1 ≠ ps /\ G r.1 = some (il r.2)) /\ rs.map (·.2) = zy os i) ?_ ?_ ?_
 ·refine ⟨none, none, none, List.replicate n false, [], rfl, Kp.refl, by rw [List.map_replicate]; exact hps0, by simp, fun x hx => ?_, hpf0, fun r hr => (nomatch hr), rfl⟩
  constructor
  ·intro z
   rw [List.getD_eq_getElem?_getD, List.getElem?_replicate, if_pos hx] at z
   cases z
  ·rintro ⟨q, hq, _⟩; omega
 ·rintro i τ G hi ⟨x3, x4, x5, ss, rs, rfl, kG, gs, ls, hs, gf, hr, er⟩
  have kHG : Kp [] H G := Kp.un (Kp.un ((kH.mono (by simp)).trans kG) nps) npf
  obtain ⟨s1, s2⟩ := vH (ss := ss) (i := i) (by omega)
  have lrs : rs.length <= i := by
   have := vJ os i
   rw [<- er, List.length_map] at this
   exact this
  rw [Int.zero_add]
  walk_at "rd"
  refine ⟨_, SqL.of gs, _, s2, _, rfl, WD (fun c => ?_) (fun c => ?_)⟩
  ·have hns : ¬ qk os i (i : Int) := by rw [<- hs i hi, c]; simp
   refine ⟨a, n, os, i, rfl, Ql ha kHG, ho, hn, by omega, by omega, fun t G1 k1 ht h1 => ?_⟩
   have gs1 := k1 _ _ (by simp) gs
   have gf1 := k1 _ _ (by simp) gf
   obtain ⟨M, hM, hMn⟩ := xc ho (p := (i : Int)) (by omega) (by omega)
   have hrl : (zL os (i : Int)).length = M := by unfold zL; rw [qT, hM.per]
   have nts : t ≠ ps := Ne.symm (zm gs ht)
   have ntf : t ≠ pf := Ne.symm (zm gf ht)
   refine ⟨t, rfl, ⟨_, SqL.of h1⟩, ?_⟩
   refine Bl (xs := (zL os (i : Int)).map V.int) (fun j τ G' => ∃ (x5 : Option V) (ss' : List Bool), τ = [some (.ref a), some (.ref ps), some (.ref pf), some (.int (i : Int)), some (.ref t), x5] /\ Kp [ps] G1 G' /\ G' ps = some (.lst (ss'.map V.bl)) /\ ss'.length = n /\ ∀ x : Nat, x < n -> (ss'.getD x false = true ↔ qk os i (x : Int) \/ (x : Int) ∈ (zL os (i : Int)).take j)) ?_ ?_ ?_ ?_
   ·exact ⟨x5, ss, rfl, Kp.refl, gs1, ls, fun x hx => by rw [hs x hx]; simp⟩
   ·rintro j τ G' _ ⟨_, ss', rfl, kp, _⟩
    exact SqL.of (kp _ _ (by simpa using nts) h1)
   ·rintro j x τ G' hx ⟨y5, ss', rfl, kp, gs', ls', hs'⟩
    obtain ⟨rfl, hj⟩ := xR hx
    have hm : (zL os (i : Int)).getD j 0 ∈ zL os (i : Int) := by rw [qi hj]; exact List.getElem_mem hj
    have hb : 0 <= (zL os (i : Int)).getD j 0 /\ (zL os (i : Int)).getD j 0 < (n : Int) := by
     obtain ⟨k, _, e⟩ := qz.mp hm
     rw [<- e]
     exact qN ho (by omega) (by omega) k
    have htk : (zL os (i : Int)).take (j + 1) = (zL os (i : Int)).take j ++ [(zL os (i : Int)).getD j 0] := by
     rw [qi hj]; exact (List.take_append_getElem hj).symm
    generalize (zL os (i : Int)).getD j 0 = v at *
    obtain ⟨vn, rfl⟩ : ∃ vn : Nat, v = vn := ⟨v.toNat, by omega⟩
    obtain ⟨g1, g2⟩ := vH (ss := ss') (i := vn) (by omega)
    walk_at "rd"
    refine ⟨_, gs', vn, g1, kp.trans (Kp.set _ (by simp)), ss'.set vn true, zh.trans (congrArg some (congrArg HO.lst (by rw [List.map_set]))), by rw [List.length_set]; exact ls', fun x hx => ?_⟩
    rw [wR (by omega), htk, List.mem_append, List.mem_singleton]
    by_cases e : x = vn
    ·subst e; rw [if_pos rfl]; simp
    ·have e' : ¬ ((x : Int) = (vn : Int)) := by omega
     rw [if_neg e, hs' x hx]
     simp [e']
   ·rintro τ G' ⟨y5, ss', rfl, kp, gs', ls', hs'⟩
    rw [List.length_map, List.take_length] at hs'
    have h1' := kp _ _ (by simpa using nts) h1
    have gf' := kp _ _ (by simpa using Ne.symm nsf) gf1
    have hs'' : ∀ x : Nat, x < n -> (ss'.getD x false = true ↔ qk os (i + 1) (x : Int)) := fun x hx => by
     rw [hs' x hx, qk.succ, Rch.mem_ring hM]
     unfold zL
     rw [hM.per]
    have kp2 : Kp [ps, pf] H0 G' := (kG.trans (k1.mono (by simp))).trans (kp.mono (by simp))
    have hr' : ∀ r ∈ rs, H r.1 = none /\ r.1 ≠ pf /\ r.1 ≠ ps /\ G' r.1 = some (il r.2) := fun r hr0 => by
     obtain ⟨z1, z2, z3, z4⟩ := hr r hr0
     exact ⟨z1, z2, z3, kp _ _ (by simpa using z3) (k1 _ _ (by simp) z4)⟩
    have hL : xY os i := jA.mpr hns
    walk_at "rd"
    refine ⟨_, .inl (SqL.of h1'), WD (fun c1 => ?_) (fun c1 => ?_)⟩
    ·have hpe : 1 < per os (i : Int) := by rw [hM.per]; rw [List.length_map, hrl] at c1; omega
     refine ⟨.inl ⟨rfl, _, SqL.of gf'⟩, _, gf', by unfold rfs; rw [List.length_map]; omega, ⟨_, rfl⟩, kp2.trans (Kp.set _ (by simp)), ss', (zj nsf).trans gs', ls', hs'', rs ++ [(t, zL os (i : Int))], ?_, fun r hr0 => ?_, ?_⟩
     ·refine zh.trans (congrArg some (congrArg HO.lst ?_))
      unfold rfs; rw [List.map_append]; rfl
     ·rcases List.mem_append.mp hr0 with z | z
      ·obtain ⟨z1, z2, z3, z4⟩ := hr' r z
       exact ⟨z1, z2, z3, (zj z2).trans z4⟩
      ·rw [List.mem_singleton.mp z]
       exact ⟨kHG.free ht, ntf, nts, (zj ntf).trans h1'⟩
     ·show _ = zy os i ++ _
      rw [if_pos ⟨hL, hpe⟩, List.map_append, er]
      rfl
    ·have hpe : ¬ 1 < per os (i : Int) := by rw [hM.per]; rw [List.length_map, hrl] at c1; omega
     refine ⟨⟨_, rfl⟩, kp2, ss', gs', ls', hs'', rs, gf', hr', ?_⟩
     show _ = zy os i ++ _
     rw [if_neg (fun z => hpe z.2), List.append_nil, er]
  ·have hsi : qk os i (i : Int) := (hs i hi).mp (by cases z : ss.getD i false with | true => rfl | false => exact absurd z c)
   refine ⟨kG, ss, gs, ls, fun x hx => by rw [hs x hx, qk.step ho hi hsi], rs, gf, hr, ?_⟩
   show _ = zy os i ++ _
   rw [if_neg (fun z => jA.mp z.1 hsi), List.append_nil, er]
 ·rintro τ G ⟨x3, x4, x5, ss, rs, rfl, kG, gs, ls, hs, gf, hr, er⟩
  have kHG : Kp [] H G := Kp.un (Kp.un ((kH.mono (by simp)).trans kG) nps) npf
  walk_at "rd"
  exact q _ _ rs kHG npf gf (fun r hr0 => ⟨(hr r hr0).1, (hr r hr0).2.1, (hr r hr0).2.2.2⟩) er
noncomputable def cE : Option Int -> V
 | none => .non
 | some x => .int x
inductive De where
 | swap (a b : Nat) | take (p : Nat) | move (p g : Nat) | lay (g : Nat)
noncomputable abbrev DR : V := .str (Str.ofString "swap")
noncomputable abbrev DY : V := .str (Str.ofString "take")
noncomputable abbrev DP : V := .str (Str.ofString "move")
noncomputable abbrev Hr : V := .str (Str.ofString "lay")
noncomputable def deV : De -> List V
 | .swap a b => [DR, .int (a : Int), .int (b : Int)]
 | .take p => [DY, .int (p : Int)]
 | .move p g => [DP, .int (p : Int), .int (g : Int)]
 | .lay g => [Hr, .int (g : Int)]
noncomputable abbrev ES := List (Option Int) × Option Int
inductive DoE : De -> ES -> ES -> Prop
 | swap {a b : Nat} {row : List (Option Int)} {h : Option Int} {x y : Int} : a ≠ b -> row[a]? = some (some x) -> row[b]? = some (some y) -> DoE (.swap a b) (row, h) ((row.set a (some y)).set b (some x), h)
 | take {p : Nat} {row : List (Option Int)} {x : Int} : row[p]? = some (some x) -> DoE (.take p) (row, none) (row.set p none, some x)
 | move {p g : Nat} {row : List (Option Int)} {h : Option Int} {x : Int} : row[p]? = some (some x) -> row[g]? = some none -> DoE (.move p g) (row, h) ((row.set p none).set g (some x), h)
 | lay {g : Nat} {row : List (Option Int)} {x : Int} : row[g]? = some none -> DoE (.lay g) (row, some x) (row.set g (some x), none)
inductive ko : List De -> ES -> ES -> Prop
 | nil {s : ES} : ko [] s s
 | cons {d : De} {l : List De} {s t u : ES} : DoE d s t -> ko l t u -> ko (d :: l) s u
theorem ko.append {a b : List De} {s t u : ES} (h1 : ko a s t) (h2 : ko b t u) : ko (a ++ b) s u := by
 induction h1 with
 | nil => exact h2
 | cons d _ ih => exact .cons d (ih h2)
theorem DoE.len {d : De} {s t : ES} (h : DoE d s t) : t.1.length = s.1.length := by
 cases h <;> simp
theorem jx {row : List (Option Int)} {p : Nat} {c : Option Int} (h : row[p]? = some c) : ixN (row.map cE).length (p : Int) = some p /\ atI (row.map cE) (p : Int) = some (cE c) := by
 have hp := (List.getElem?_eq_some_iff.mp h).1
 have e : ixN (row.map cE).length (p : Int) = some p := by rw [List.length_map]; unfold ixN; rw [if_pos (by omega), if_pos (by omega), Int.toNat_natCast]
 refine ⟨e, ?_⟩
 unfold atI
 rw [e]
 show (row.map cE)[p]? = _
 rw [List.getElem?_map, h]; rfl
theorem zI {X qU : TS} {D : ke} {σ : L2.St} {H : Hp} (h : ∀ r, r = qU -> Wo X r D σ H) : Wo X qU D σ H := h qU rfl
noncomputable abbrev deP (qs : List (Addr × De)) : List (Addr × List V) := qs.map fun q => (q.1, deV q.2)
theorem Vl (a : List (Addr × List V)) : (tfs a).length = a.length := by unfold tfs; rw [List.length_map]
noncomputable def jZ (ms : List Int) (x : Int) : List Int := ms.set x.toNat (ms.getD x.toNat 0 + 1)
noncomputable def yF (ms : List Int) : Option Int -> List Int
 | none => ms
 | some x => jZ ms x
noncomputable def Fy : De -> ES -> List (Option Int)
 | .swap a b, s => [s.1.getD a none, s.1.getD b none]
 | .take p, s => [s.1.getD p none]
 | .move p g, s => [s.1.getD p none, s.1.getD g none]
 | .lay _, s => [s.2]
noncomputable def qy (d : De) (s : ES) (ms : List Int) : List Int := (Fy d s).foldl yF ms
theorem Qe (ms : List Int) (x : Int) : (jZ ms x).length = ms.length := by unfold jZ; rw [List.length_set]
theorem XJ (ms : List Int) (c : Option Int) : (yF ms c).length = ms.length := by cases c; rfl; exact Qe _ _
theorem Yp (cs : List (Option Int)) (ms : List Int) : (cs.foldl yF ms).length = ms.length := by
 induction cs generalizing ms with
 | nil => rfl
 | cons c cs ih => exact (ih _).trans (XJ _ _)
theorem xh (d : De) (s : ES) (ms : List Int) : (qy d s ms).length = ms.length := Yp _ _
noncomputable def OkM (s : ES) (n : Nat) : Prop := (∀ x, some x ∈ s.1 -> 0 <= x /\ x < (n : Int)) /\ ∀ x, s.2 = some x -> 0 <= x /\ x < (n : Int)
theorem DoE.okm {d : De} {s t : ES} {n : Nat} (h : DoE d s t) (o : OkM s n) : OkM t n := by
 obtain ⟨o1, o2⟩ := o
 have ms : ∀ {row : List (Option Int)} {i : Nat} {v : Option Int}, (∀ x, some x ∈ row -> 0 <= x /\ x < (n : Int)) -> (∀ x, v = some x -> 0 <= x /\ x < (n : Int)) -> ∀ x, some x ∈ row.set i v -> 0 <= x /\ x < (n : Int) := fun h1 h2 x hx => by
  rcases List.mem_or_eq_of_mem_set hx with z | z
  ·exact h1 x z
  ·exact h2 x z.symm
 have nn : ∀ x : Int, (none : Option Int) = some x -> 0 <= x /\ x < (n : Int) := fun x z => nomatch z
 have so : ∀ {x : Int}, 0 <= x /\ x < (n : Int) -> ∀ z, some x = some z -> 0 <= z /\ z < (n : Int) := fun hx z e => by injection e with e; exact e ▸ hx
 cases h with
 | swap ne h1 h2 => exact ⟨ms (ms o1 (so (o1 _ (List.mem_of_getElem? h2)))) (so (o1 _ (List.mem_of_getElem? h1))), o2⟩
 | take h1 => exact ⟨ms o1 nn, so (o1 _ (List.mem_of_getElem? h1))⟩
 | move h1 h2 => exact ⟨ms (ms o1 nn) (so (o1 _ (List.mem_of_getElem? h1))), o2⟩
 | lay h1 => exact ⟨ms o1 (so (o2 _ rfl)), nn⟩
noncomputable abbrev vV (rw_ mv : Addr) (h : Option Int) : List (Str × V) := [("row", .ref rw_), ("hand", cE h), ("moved", .ref mv)]
structure zT (C : Addr) (H : Hp) (p rw_ mv : Addr) (s : ES) (ms : List Int) : Prop where
 ex : ∃ dx, H p = some (.ins C dx (vV rw_ mv s.2))
 row : H rw_ = some (.lst (s.1.map cE))
 mvd : H mv = some (il ms)
 ne : rw_ ≠ mv
theorem zT.kp {C : Addr} {H H' : Hp} {p rw_ mv : Addr} {s : ES} {ms : List Int} {bs : List Addr} (r : zT C H p rw_ mv s ms) (k : Kp bs H H') (hp : p ∉ bs) (hr : rw_ ∉ bs) (hm : mv ∉ bs) : zT C H' p rw_ mv s ms :=
 let ⟨dx, e⟩ := r.ex
 ⟨⟨dx, k _ _ hp e⟩, k _ _ hr r.row, k _ _ hm r.mvd, r.ne⟩
theorem zT.npr {C : Addr} {H : Hp} {p rw_ mv : Addr} {s : ES} {ms : List Int} (r : zT C H p rw_ mv s ms) : p ≠ rw_ /\ p ≠ mv := by
 obtain ⟨dx, e⟩ := r.ex
 constructor
 ·intro z; rw [z, r.row] at e; cases e
 ·intro z; rw [z, r.mvd] at e; cases e
theorem lk1 {k k' : Str} {v : V} {r : List (Str × V)} (h : (k == k') = true) : ((k', v) :: r).lookup k = some v := by rw [List.lookup_cons, h]
theorem lk0 {k k' : Str} {v : V} {r : List (Str × V)} (h : (k == k') = false) : ((k', v) :: r).lookup k = r.lookup k := by rw [List.lookup_cons, h]
theorem jg (rw_ mv : Addr) (h : Option Int) : (vV rw_ mv h).lookup ("row" : Str) = some (.ref rw_) := lk1 (by decide +kernel)
theorem yb (rw_ mv : Addr) (h : Option Int) : (vV rw_ mv h).lookup ("hand" : Str) = some (cE h) := (lk0 (by decide +kernel)).trans (lk1 (by decide +kernel))
theorem kZ (rw_ mv : Addr) (h : Option Int) : (vV rw_ mv h).lookup ("moved" : Str) = some (.ref mv) := (lk0 (by decide +kernel)).trans ((lk0 (by decide +kernel)).trans (lk1 (by decide +kernel)))
theorem Wy (rw_ mv : Addr) (h g : Option Int) : qw "hand" (cE g) (vV rw_ mv h) = vV rw_ mv g := by
 rw [vV, qw, if_neg (by decide +kernel), qw, if_pos rfl]
theorem wq (rw_ mv : Addr) (h : Option Int) {m : Str} (h1 : (m == ("row" : Str)) = false) (h2 : (m == ("hand" : Str)) = false) (h3 : (m == ("moved" : Str)) = false) : (vV rw_ mv h).lookup m = none :=
 (lk0 h1).trans ((lk0 h2).trans ((lk0 h3).trans rfl))
theorem zT.setRow {C : Addr} {H : Hp} {p rw_ mv : Addr} {s : ES} {ms : List Int} (r : zT C H p rw_ mv s ms) (row' : List (Option Int)) : zT C (upd H rw_ (.lst (row'.map cE))) p rw_ mv (row', s.2) ms :=
 let ⟨dx, e⟩ := r.ex
 ⟨⟨dx, (zj r.npr.1).trans e⟩, zh, (zj r.ne.symm).trans r.mvd, r.ne⟩
theorem zT.setMv {C : Addr} {H : Hp} {p rw_ mv : Addr} {s : ES} {ms : List Int} (r : zT C H p rw_ mv s ms) (ms' : List Int) : zT C (upd H mv (il ms')) p rw_ mv s ms' :=
 let ⟨dx, e⟩ := r.ex
 ⟨⟨dx, (zj r.npr.2).trans e⟩, (zj r.ne).trans r.row, zh, r.ne⟩
theorem zT.setHand {C : Addr} {H : Hp} {p rw_ mv dx : Addr} {s : ES} {ms : List Int} (r : zT C H p rw_ mv s ms) (g : Option Int) : zT C (upd H p (.ins C dx (vV rw_ mv g))) p rw_ mv (s.1, g) ms :=
 ⟨⟨dx, zh⟩, (zj r.npr.1.symm).trans r.row, (zj r.npr.2.symm).trans r.mvd, r.ne⟩
theorem Vb (row : List (Option Int)) (a : Nat) (c : Option Int) : (row.map cE).set a (cE c) = (row.set a c).map cE := List.map_set.symm
theorem Bk {ms : List Int} (x : Int) : (ms.map V.int).set x.toNat (V.int (ms.getD x.toNat 0 + 1)) = (jZ ms x).map V.int := by unfold jZ; exact List.map_set.symm
structure RTx (K : PySem.W.Frag) (C : Addr) : Prop where
 cl : Cls K C
 nr : jY K C "row"
 nh : jY K C "hand"
 nm : jY K C "moved"
theorem Z7 {ms : List Int} {x : Int} (h0 : 0 <= x) (h1 : x < (ms.length : Int)) : atI (ms.map V.int) x = some (.int (ms.getD x.toNat 0)) /\ ixN (ms.map V.int).length x = some x.toNat := by
 have hx : x.toNat < ms.length := by omega
 have e : ixN (ms.map V.int).length x = some x.toNat := by rw [List.length_map]; unfold ixN; rw [if_pos h0, if_pos (by omega)]
 refine ⟨?_, e⟩
 unfold atI
 rw [e]
 show (ms.map V.int)[x.toNat]? = _
 rw [List.getElem?_map, List.getElem?_eq_getElem hx, List.getD_eq_getElem?_getD, List.getElem?_eq_getElem hx]; rfl
noncomputable abbrev Kd : Stmt := (qY (top 34) 6)
theorem K6 : zo ["self", "a", "thing"] ["self", "a"] (zf Kd) := ⟨rfl, rfl, rfl, by decide +kernel, rfl, by decide +kernel, by decide +kernel⟩
noncomputable def Kf (C : Addr) : Sp := fun vs H Q _ => ∃ (p rw_ mv : Addr) (s : ES) (ms : List Int) (a : Nat) (x : Int), vs = [.ref p, .int (a : Int)] /\ zT C H p rw_ mv s ms /\ s.1[a]? = some (some x) /\ 0 <= x /\ x < (ms.length : Int) /\
 ∀ H', zT C H' p rw_ mv (s.1.set a none, s.2) (jZ ms x) -> Kp [rw_, mv] H H' -> Q (.int x) H'
theorem Bo {C : Addr} (a : AtM K C "lift" "Room.lift" Kd) (R : RTx K C) : Dm P w K mg base C "lift" ["self", "a"] 1 (Kf C) := by
 refine jJ (k := 0) a K6 (fun _ _ _ _ _ _ us hl => match us, hl with | [_, _], _ => rfl) (fun vs H Q E h => ?_) (fun f cdv A outer s H vs Q E hr h => ?_)
 ·obtain ⟨_, _, _, _, _, _, _, rfl, _⟩ := h; rfl
 obtain ⟨p, rw_, mv, ⟨row, hd⟩, ms, a, x, rfl, r, hx, x0, x1, q⟩ := h
 have sc := K6
 have hsl := hsl
 obtain ⟨dx, hp⟩ := r.ex
 obtain ⟨np1, np2⟩ := r.npr
 refine ⟨_, (zc (zu (i := 2) sc.nd rfl (by first | exact Or.inl rfl | exact Or.inr rfl) (zO qa (qc (pv 0) rfl) (pv 1) (fun _ _ => rfl)))
  (zc (zP (zC Zw (pv 2) jj (zH _)) (zd qq) zx)
  (zc (qG jj (qM (qc (pv 0) rfl) (pv 1) zK))
  (zc (y8 (qc (pv 0) rfl) (pv 2) xr ze ZV zK)
  (zd (zq (pv 2))))))), ?_⟩
 rw [show zZ ["self", "a", "thing"] [V.ref p, V.int (a : Int)] = [some (.ref p), some (.int (a : Int)), none] from rfl]
 obtain ⟨c1, c2⟩ := jx hx
 obtain ⟨m1, m2⟩ := Z7 x0 x1
 refine zI fun r1 hr1 => ?_
 walk_at "rd"
 refine ⟨_, _, _, hp, R.cl, R.nr, _, jg _ _ _, _, rfl, _, SqL.of r.row, _, c2, ?_⟩
 subst hr1
 refine zI fun r1 hr1 => ?_
 walk_at "rd"
 rw [if_neg (show ¬ cE (some x) = V.non from fun z => nomatch z)]
 subst hr1
 refine zI fun r1 hr1 => ?_
 walk_at "rd"
 refine ⟨_, _, _, hp, R.cl, R.nr, _, jg _ _ _, _, rfl, _, r.row, _, c1, ?_⟩
 have r2 := r.setRow (row.set a none)
 rw [show (List.map cE (row, hd).1).set a V.non = (row.set a none).map cE from Vb row a none]
 have k2 := Kp.set (bs := [rw_, mv]) (p := rw_) (H := H) (HO.lst ((row.set a none).map cE)) (by simp)
 generalize upd H rw_ (HO.lst ((row.set a none).map cE)) = H2 at *
 obtain ⟨dx2, hp2⟩ := r2.ex
 subst hr1
 walk_at "rd"
 refine ⟨_, _, _, hp2, R.cl, R.nm, _, kZ _ _ _, _, rfl, _, _, rfl, SqL.of r2.mvd, _, m1, _, rfl, _, rfl, _, rfl, _, r2.mvd, _, m2, ?_⟩
 rw [Bk]
 exact q _ (r2.setMv _) (k2.trans (Kp.set _ (by simp)))
noncomputable abbrev JP : Stmt := (qY (top 34) 2)
theorem Xk : zo ["self", "a", "b", "one", "other"] ["self", "a", "b"] (zf JP) := ⟨rfl, rfl, rfl, by decide +kernel, rfl, by decide +kernel, by decide +kernel⟩
noncomputable def WB (C : Addr) (d : De) (p rw_ mv : Addr) (s : ES) (ms : List Int) (H : Hp) (Q : VK) : Prop := zT C H p rw_ mv s ms /\ OkM s ms.length /\ ∃ t, DoE d s t /\ ∀ H', zT C H' p rw_ mv t (qy d s ms) -> Kp [p, rw_, mv] H H' -> Q .non H'
noncomputable def Ab (C : Addr) : Sp := fun vs H Q _ => ∃ (p rw_ mv : Addr) (s : ES) (ms : List Int) (a b : Nat), vs = [.ref p, .int (a : Int), .int (b : Int)] /\ WB C (.swap a b) p rw_ mv s ms H Q
noncomputable def VM (C : Addr) : Sp := fun vs H Q _ => ∃ (p rw_ mv : Addr) (s : ES) (ms : List Int) (a b : Nat), vs = [.ref p, .int (a : Int), .int (b : Int)] /\ WB C (.move a b) p rw_ mv s ms H Q
noncomputable def Xw (C : Addr) : Sp := fun vs H Q _ => ∃ (p rw_ mv : Addr) (s : ES) (ms : List Int) (a : Nat), vs = [.ref p, .int (a : Int)] /\ WB C (.take a) p rw_ mv s ms H Q
noncomputable def DW (C : Addr) : Sp := fun vs H Q _ => ∃ (p rw_ mv : Addr) (s : ES) (ms : List Int) (a : Nat), vs = [.ref p, .int (a : Int)] /\ WB C (.lay a) p rw_ mv s ms H Q
theorem jI {row : List (Option Int)} {a : Nat} {c : Option Int} (h : row[a]? = some c) : row.getD a none = c := by rw [List.getD_eq_getElem?_getD, h]; rfl
theorem Dp {C : Addr} (a : AtM K C "swap" "Room.swap" JP) (R : RTx K C) : Dm P w K mg base C "swap" ["self", "a", "b"] 1 (Ab C) := by
 refine jJ (k := 0) a Xk (fun _ _ _ _ _ _ us hl => match us, hl with | [_, _, _], _ => rfl) (fun vs H Q E h => ?_) (fun f cdv A outer s H vs Q E hr h => ?_)
 ·obtain ⟨_, _, _, _, _, _, _, rfl, _⟩ := h; rfl
 obtain ⟨p, rw_, mv, s0, ms, a, b, rfl, r, ok, t, hdo, q⟩ := h
 have sc := Xk
 have hsl := hsl
 obtain ⟨dx, hp⟩ := r.ex
 cases hdo with
 | @swap _ _ row hd x y ne h1 h2 =>
 obtain ⟨c1, c2⟩ := jx h1
 obtain ⟨g1, g2⟩ := jx h2
 obtain ⟨x0, x1⟩ := ok.1 _ (List.mem_of_getElem? h1)
 obtain ⟨y0, y1⟩ := ok.1 _ (List.mem_of_getElem? h2)
 obtain ⟨m1, m2⟩ := Z7 x0 x1
 obtain ⟨n1, n2⟩ := Z7 (ms := jZ ms x) y0 (by rw [Qe]; exact y1)
 refine ⟨_, (zc (zP (zC wU (pv 1) (pv 2) (zH _)) (zd qq) zx)
  (zc (zu (i := 3) sc.nd rfl (by first | exact Or.inl rfl | exact Or.inr rfl) (zO qa (qc (pv 0) rfl) (pv 1) (fun _ _ => rfl)))
  (zc (zu (i := 4) sc.nd rfl (by first | exact Or.inl rfl | exact Or.inr rfl) (zO qa (qc (pv 0) rfl) (pv 2) (fun _ _ => rfl)))
  (zc (zP (PW.pt (yQ (zC Zw (pv 3) jj (zH _)) (kT (zC Zw (pv 4) jj (zH _))))) (zd qq) zx)
  (zc (qG (pv 4) (qM (qc (pv 0) rfl) (pv 1) zK))
  (zc (qG (pv 3) (qM (qc (pv 0) rfl) (pv 2) zK))
  (zc (y8 (qc (pv 0) rfl) (pv 3) xr ze ZV zK)
  (zd (y8 (qc (pv 0) rfl) (pv 4) xr ze ZV zK))))))))), ?_⟩
 rw [show zZ ["self", "a", "b", "one", "other"] [V.ref p, V.int (a : Int), V.int (b : Int)] = [some (.ref p), some (.int (a : Int)), some (.int (b : Int)), none, none] from rfl]
 refine zI fun r1 hr1 => ?_
 walk_at "rd"
 refine ⟨rfl, ?_⟩
 rw [if_neg (by omega)]
 subst hr1
 refine zI fun r1 hr1 => ?_
 walk_at "rd"
 refine ⟨_, _, _, hp, R.cl, R.nr, _, jg _ _ _, _, rfl, _, SqL.of r.row, _, c2, ?_⟩
 subst hr1
 refine zI fun r1 hr1 => ?_
 walk_at "rd"
 refine ⟨_, _, _, hp, R.cl, R.nr, _, jg _ _ _, _, rfl, _, SqL.of r.row, _, g2, ?_⟩
 subst hr1
 refine zI fun r1 hr1 => ?_
 walk_at "rd"
 rw [if_neg (show ¬ cE (some x) = V.non from fun z => nomatch z), if_neg (show ¬ cE (some y) = V.non from fun z => nomatch z)]
 subst hr1
 refine zI fun r1 hr1 => ?_
 walk_at "rd"
 refine ⟨_, _, _, hp, R.cl, R.nr, _, jg _ _ _, _, rfl, _, r.row, _, c1, ?_⟩
 have r2 := r.setRow (row.set a (some y))
 rw [Vb]
 have k2 := Kp.set (bs := [p, rw_, mv]) (p := rw_) (H := H) (HO.lst ((row.set a (some y)).map cE)) (by simp)
 generalize upd H rw_ (HO.lst ((row.set a (some y)).map cE)) = H2 at *
 obtain ⟨dx2, hp2⟩ := r2.ex
 subst hr1
 refine zI fun r1 hr1 => ?_
 walk_at "rd"
 refine ⟨_, _, _, hp2, R.cl, R.nr, _, jg _ _ _, _, rfl, _, r2.row, b, by rw [List.length_map, List.length_set]; rw [List.length_map] at g1; exact g1, ?_⟩
 have r3 := r2.setRow ((row.set a (some y)).set b (some x))
 rw [Vb]
 have k3 := k2.trans (Kp.set (bs := [p, rw_, mv]) (p := rw_) (H := H2) (HO.lst (((row.set a (some y)).set b (some x)).map cE)) (by simp))
 generalize upd H2 rw_ (HO.lst (((row.set a (some y)).set b (some x)).map cE)) = H3 at *
 obtain ⟨dx3, hp3⟩ := r3.ex
 subst hr1
 refine zI fun r1 hr1 => ?_
 walk_at "rd"
 refine ⟨_, _, _, hp3, R.cl, R.nm, _, kZ _ _ _, _, rfl, _, _, rfl, SqL.of r3.mvd, _, m1, _, rfl, _, rfl, _, rfl, _, r3.mvd, _, m2, ?_⟩
 rw [Bk]
 have r4 := r3.setMv (jZ ms x)
 have k4 := k3.trans (Kp.set (bs := [p, rw_, mv]) (p := mv) (H := H3) (il (jZ ms x)) (by simp))
 show r1 _ _ (upd H3 mv (il (jZ ms x)))
 generalize upd H3 mv (il (jZ ms x)) = H4 at *
 obtain ⟨dx4, hp4⟩ := r4.ex
 subst hr1
 walk_at "rd"
 refine ⟨_, _, _, hp4, R.cl, R.nm, _, kZ _ _ _, _, rfl, _, _, rfl, SqL.of r4.mvd, _, n1, _, rfl, _, rfl, _, rfl, _, r4.mvd, _, n2, ?_⟩
 rw [Bk]
 refine q _ ?_ (k4.trans (Kp.set _ (by simp)))
 have e : qy (.swap a b) (row, hd) ms = jZ (jZ ms x) y := by
  show [row.getD a none, row.getD b none].foldl yF ms = _
  rw [jI h1, jI h2]; rfl
 rw [e]
 exact r4.setMv _
noncomputable abbrev Ku : Stmt := (qY (top 34) 3)
theorem Qu : zo ["self", "a"] ["self", "a"] (zf Ku) := ⟨rfl, rfl, rfl, by decide +kernel, rfl, by decide +kernel, by decide +kernel⟩
theorem BI {C : Addr} (a : AtM K C "take" "Room.take" Ku) (R : RTx K C) (M_lift : Dm P w K mg base C "lift" ["self", "a"] 1 (Kf C)) : Dm P w K mg base C "take" ["self", "a"] 2 (Xw C) := by
 refine jJ (k := 1) a Qu (fun _ _ _ _ _ _ us hl => match us, hl with | [_, _], _ => rfl) (fun vs H Q E h => ?_) (fun f cdv A outer s H vs Q E hr h => ?_)
 ·obtain ⟨_, _, _, _, _, _, rfl, _⟩ := h; rfl
 obtain ⟨p, rw_, mv, s0, ms, a, rfl, r, ok, t, hdo, q⟩ := h
 have sc := Qu
 have hsl := hsl
 have CL := R.cl
 obtain ⟨dx, hp⟩ := r.ex
 cases hdo with
 | @take _ row x h1 =>
 obtain ⟨c1, c2⟩ := jx h1
 obtain ⟨x0, x1⟩ := ok.1 _ (List.mem_of_getElem? h1)
 refine ⟨_, (zc (zP (zC vc (qc (pv 0) rfl) jj (zH _)) (zd qq) zx)
  (zd (vE (pv 0) (wc CL M_lift hr (pv 0) (za (pv 1) zb)) rfl))), ?_⟩
 rw [show zZ ["self", "a"] [V.ref p, V.int (a : Int)] = [some (.ref p), some (.int (a : Int))] from rfl]
 refine zI fun r1 hr1 => ?_
 walk_at "rd"
 refine ⟨_, _, _, hp, R.cl, R.nh, _, yb _ _ _, ?_⟩
 rw [if_neg (show ¬ ¬ cE none = V.non from not_not_intro rfl)]
 subst hr1
 walk_at "rd"
 refine ⟨_, _, hp, wq _ _ _ (by decide +kernel) (by decide +kernel) (by decide +kernel), p, rw_, mv, (row, none), ms, a, x, rfl, r, h1, x0, x1, fun H2 r2 k2 => ?_⟩
 obtain ⟨dx2, hp2⟩ := r2.ex
 refine ⟨_, _, _, hp2, R.cl, R.nh, by show 3 < 1000; decide, ?_⟩
 have e : qy (.take a) (row, none) ms = jZ ms x := by
  show [row.getD a none].foldl yF ms = _
  rw [jI h1]; rfl
 rw [e] at q
 rw [show V.int x = cE (some x) from rfl, Wy]
 exact q _ (r2.setHand _) ((k2.mono (by simp)).trans (Kp.set _ (by simp)))
noncomputable abbrev Jr : Stmt := (qY (top 34) 4)
theorem K9 : zo ["self", "a", "b"] ["self", "a", "b"] (zf Jr) := ⟨rfl, rfl, rfl, by decide +kernel, rfl, by decide +kernel, by decide +kernel⟩
theorem Bz {C : Addr} (a : AtM K C "move" "Room.move" Jr) (R : RTx K C) (M_lift : Dm P w K mg base C "lift" ["self", "a"] 1 (Kf C)) : Dm P w K mg base C "move" ["self", "a", "b"] 2 (VM C) := by
 refine jJ (k := 1) a K9 (fun _ _ _ _ _ _ us hl => match us, hl with | [_, _, _], _ => rfl) (fun vs H Q E h => ?_) (fun f cdv A outer s H vs Q E hr h => ?_)
 ·obtain ⟨_, _, _, _, _, _, _, rfl, _⟩ := h; rfl
 obtain ⟨p, rw_, mv, s0, ms, a, b, rfl, r, ok, t, hdo, q⟩ := h
 have sc := K9
 have hsl := hsl
 have CL := R.cl
 obtain ⟨dx, hp⟩ := r.ex
 cases hdo with
 | @move _ _ row hd x h1 h2 =>
 have ne : a ≠ b := fun z => by rw [z, h2] at h1; cases h1
 obtain ⟨c1, c2⟩ := jx h1
 obtain ⟨g1, g2⟩ := jx h2
 obtain ⟨x0, x1⟩ := ok.1 _ (List.mem_of_getElem? h1)
 refine ⟨_, (zc (zP (zC wU (pv 1) (pv 2) (zH _)) (zd qq) zx)
  (zc (zP (zC vc (zO qa (qc (pv 0) rfl) (pv 2) (fun _ _ => rfl)) jj (zH _)) (zd qq) zx)
  (zd (qG (wc CL M_lift hr (pv 0) (za (pv 1) zb)) (qM (qc (pv 0) rfl) (pv 2) zK))))), ?_⟩
 rw [show zZ ["self", "a", "b"] [V.ref p, V.int (a : Int), V.int (b : Int)] = [some (.ref p), some (.int (a : Int)), some (.int (b : Int))] from rfl]
 refine zI fun r1 hr1 => ?_
 walk_at "rd"
 refine ⟨rfl, ?_⟩
 rw [if_neg (by omega)]
 subst hr1
 refine zI fun r1 hr1 => ?_
 walk_at "rd"
 refine ⟨_, _, _, hp, R.cl, R.nr, _, jg _ _ _, _, rfl, _, SqL.of r.row, _, g2, ?_⟩
 rw [if_neg (show ¬ ¬ cE none = V.non from not_not_intro rfl)]
 subst hr1
 walk_at "rd"
 refine ⟨_, _, hp, wq _ _ _ (by decide +kernel) (by decide +kernel) (by decide +kernel), p, rw_, mv, (row, hd), ms, a, x, rfl, r, h1, x0, x1, fun H2 r2 k2 => ?_⟩
 obtain ⟨dx2, hp2⟩ := r2.ex
 refine ⟨_, _, _, hp2, R.cl, R.nr, _, jg _ _ _, _, rfl, _, r2.row, b, by rw [List.length_map] at g1; show ixN ((row.set a none).map cE).length _ = _; rw [List.length_map, List.length_set]; exact g1, ?_⟩
 have e : qy (.move a b) (row, hd) ms = jZ ms x := by
  show [row.getD a none, row.getD b none].foldl yF ms = _
  rw [jI h1, jI h2]; rfl
 rw [e] at q
 rw [show V.int x = cE (some x) from rfl, Vb]
 exact q _ (r2.setRow _) ((k2.mono (by simp)).trans (Kp.set _ (by simp)))
noncomputable abbrev V9 : Stmt := (qY (top 34) 5)
theorem Vn : zo ["self", "b"] ["self", "b"] (zf V9) := ⟨rfl, rfl, rfl, by decide +kernel, rfl, by decide +kernel, by decide +kernel⟩
theorem Gd {C : Addr} (a : AtM K C "lay" "Room.lay" V9) (R : RTx K C) : Dm P w K mg base C "lay" ["self", "b"] 1 (DW C) := by
 refine jJ (k := 0) a Vn (fun _ _ _ _ _ _ us hl => match us, hl with | [_, _], _ => rfl) (fun vs H Q E h => ?_) (fun f cdv A outer s H vs Q E hr h => ?_)
 ·obtain ⟨_, _, _, _, _, _, rfl, _⟩ := h; rfl
 obtain ⟨p, rw_, mv, s0, ms, a, rfl, r, ok, t, hdo, q⟩ := h
 have sc := Vn
 have hsl := hsl
 have CL := R.cl
 obtain ⟨dx, hp⟩ := r.ex
 cases hdo with
 | @lay _ row x h1 =>
 obtain ⟨c1, c2⟩ := jx h1
 obtain ⟨x0, x1⟩ := ok.2 _ rfl
 obtain ⟨m1, m2⟩ := Z7 x0 x1
 refine ⟨_, (zc (zP (zC vc (zO qa (qc (pv 0) rfl) (pv 1) (fun _ _ => rfl)) jj (zH _)) (zd qq) zx)
  (zc (zP (zC Zw (qc (pv 0) rfl) jj (zH _)) (zd qq) zx)
  (zc (qG (qc (pv 0) rfl) (qM (qc (pv 0) rfl) (pv 1) zK))
  (zc (y8 (qc (pv 0) rfl) (qc (pv 0) rfl) xr ze ZV zK)
  (zd (vE (pv 0) jj rfl)))))), ?_⟩
 rw [show zZ ["self", "b"] [V.ref p, V.int (a : Int)] = [some (.ref p), some (.int (a : Int))] from rfl]
 refine zI fun r1 hr1 => ?_
 walk_at "rd"
 refine ⟨_, _, _, hp, R.cl, R.nr, _, jg _ _ _, _, rfl, _, SqL.of r.row, _, c2, ?_⟩
 rw [if_neg (show ¬ ¬ cE none = V.non from not_not_intro rfl)]
 subst hr1
 refine zI fun r1 hr1 => ?_
 walk_at "rd"
 refine ⟨_, _, _, hp, R.cl, R.nh, _, yb _ _ _, ?_⟩
 rw [if_neg (show ¬ cE (some x) = V.non from fun z => nomatch z)]
 subst hr1
 refine zI fun r1 hr1 => ?_
 walk_at "rd"
 refine ⟨_, _, _, hp, R.cl, R.nh, _, yb _ _ _, _, _, _, hp, R.cl, R.nr, _, jg _ _ _, _, rfl, _, r.row, _, c1, ?_⟩
 have r2 := r.setRow (row.set a (some x))
 rw [Vb]
 have k2 := Kp.set (bs := [p, rw_, mv]) (p := rw_) (H := H) (HO.lst ((row.set a (some x)).map cE)) (by simp)
 generalize upd H rw_ (HO.lst ((row.set a (some x)).map cE)) = H2 at *
 obtain ⟨dx2, hp2⟩ := r2.ex
 subst hr1
 refine zI fun r1 hr1 => ?_
 walk_at "rd"
 refine ⟨_, _, _, hp2, R.cl, R.nm, _, kZ _ _ _, _, _, _, hp2, R.cl, R.nh, _, yb _ _ _, _, rfl, _, _, rfl, SqL.of r2.mvd, _, m1, _, rfl, _, rfl, _, rfl, _, r2.mvd, _, m2, ?_⟩
 rw [Bk]
 have r3 := r2.setMv (jZ ms x)
 have k3 := k2.trans (Kp.set (bs := [p, rw_, mv]) (p := mv) (H := H2) (il (jZ ms x)) (by simp))
 show r1 _ _ (upd H2 mv (il (jZ ms x)))
 generalize upd H2 mv (il (jZ ms x)) = H3 at *
 obtain ⟨dx3, hp3⟩ := r3.ex
 subst hr1
 walk_at "rd"
 refine ⟨_, _, _, hp3, R.cl, R.nh, by show 3 < 1000; decide, ?_⟩
 rw [show V.non = cE none from rfl, Wy]
 exact q _ (r3.setHand _) (k3.trans (Kp.set _ (by simp)))
noncomputable abbrev JM : Stmt := (qY (top 34) 7)
theorem KL : zo ["self"] ["self"] (zf JM) := ⟨rfl, rfl, rfl, by decide +kernel, rfl, by decide +kernel, by decide +kernel⟩
noncomputable def Vr (C : Addr) : Sp := fun vs H Q _ => ∃ (p rw_ mv : Addr) (s : ES) (ms : List Int), vs = [.ref p] /\ zT C H p rw_ mv s ms /\ s.1.length <= 1000 /\ ∀ t H', Kp [] H H' -> H' t = some (.tup (s.1.map cE)) -> Q (.ref t) H'
theorem B9 {C : Addr} (a : AtM K C "row_now" "Room.row_now" JM) (R : RTx K C) (B : Blt mg) : Dm P w K mg base C "row_now" ["self"] 1 (Vr C) := by
 refine jJ (k := 0) a KL (fun _ _ _ _ _ _ us hl => match us, hl with | [_], _ => rfl) (fun vs H Q E h => ?_) (fun f cdv A outer s H vs Q E hr h => ?_)
 ·obtain ⟨_, _, _, _, _, rfl, _⟩ := h; rfl
 obtain ⟨p, rw_, mv, s0, ms, rfl, r, hl, q⟩ := h
 have sc := KL
 have hsl := hsl
 obtain ⟨dx, hp⟩ := r.ex
 refine ⟨_, (zd (zq (qt jL rfl B.tuple jC (za (qc (pv 0) rfl) zb)))), ?_⟩
 rw [show zZ ["self"] [V.ref p] = [some (.ref p)] from rfl]
 walk_at "rd"
 refine ⟨_, _, _, hp, R.cl, R.nr, _, jg _ _ _, _, rfl, _, .inl ⟨SqL.of r.row, fun t ht => ?_⟩⟩
 exact q _ _ (Kp.new _ ht) zh
noncomputable abbrev JS : Stmt := (qY (top 34) 9)
theorem Xb : zo ["self"] ["self"] (zf JS) := ⟨rfl, rfl, rfl, by decide +kernel, rfl, by decide +kernel, by decide +kernel⟩
noncomputable def WI (C : Addr) : Sp := fun vs H Q _ => ∃ (p rw_ mv : Addr) (s : ES) (ms : List Int), vs = [.ref p] /\ zT C H p rw_ mv s ms /\ ms.length <= 1000 /\ ∀ t H', Kp [] H H' -> H' t = some (.tup (ms.map V.int)) -> Q (.ref t) H'
theorem Bw {C : Addr} (a : AtM K C "moved_now" "Room.moved_now" JS) (R : RTx K C) (B : Blt mg) : Dm P w K mg base C "moved_now" ["self"] 1 (WI C) := by
 refine jJ (k := 0) a Xb (fun _ _ _ _ _ _ us hl => match us, hl with | [_], _ => rfl) (fun vs H Q E h => ?_) (fun f cdv A outer s H vs Q E hr h => ?_)
 ·obtain ⟨_, _, _, _, _, rfl, _⟩ := h; rfl
 obtain ⟨p, rw_, mv, s0, ms, rfl, r, hl, q⟩ := h
 have sc := Xb
 have hsl := hsl
 obtain ⟨dx, hp⟩ := r.ex
 refine ⟨_, (zd (zq (qt jL rfl B.tuple jC (za (qc (pv 0) rfl) zb)))), ?_⟩
 rw [show zZ ["self"] [V.ref p] = [some (.ref p)] from rfl]
 walk_at "rd"
 refine ⟨_, _, _, hp, R.cl, R.nm, _, kZ _ _ _, _, rfl, _, .inl ⟨SqL.of r.mvd, fun t ht => ?_⟩⟩
 exact q _ _ (Kp.new _ ht) zh
noncomputable abbrev Jl : Stmt := (qY (top 34) 8)
theorem Xi : zo ["self"] ["self"] (zf Jl) := ⟨rfl, rfl, rfl, by decide +kernel, rfl, by decide +kernel, by decide +kernel⟩
noncomputable def W5 (C : Addr) : Sp := fun vs H Q _ => ∃ (p rw_ mv : Addr) (s : ES) (ms : List Int), vs = [.ref p] /\ zT C H p rw_ mv s ms /\ Q (cE s.2) H
theorem Bi {C : Addr} (a : AtM K C "hand_now" "Room.hand_now" Jl) (R : RTx K C) : Dm P w K mg base C "hand_now" ["self"] 1 (W5 C) := by
 refine jJ (k := 0) a Xi (fun _ _ _ _ _ _ us hl => match us, hl with | [_], _ => rfl) (fun vs H Q E h => ?_) (fun f cdv A outer s H vs Q E hr h => ?_)
 ·obtain ⟨_, _, _, _, _, rfl, _⟩ := h; rfl
 obtain ⟨p, rw_, mv, s0, ms, rfl, r, q⟩ := h
 have sc := Xi
 have hsl := hsl
 obtain ⟨dx, hp⟩ := r.ex
 refine ⟨_, (zd (zq (qc (pv 0) rfl))), ?_⟩
 rw [show zZ ["self"] [V.ref p] = [some (.ref p)] from rfl]
 walk_at "rd"
 exact ⟨_, _, _, hp, R.cl, R.nh, _, yb _ _ _, q⟩
noncomputable abbrev yq : Stmt := top 7
theorem vY : zo ["thing", "n"] ["thing", "n"] (zf yq) := ⟨rfl, rfl, rfl, by decide +kernel, rfl, by decide +kernel, by decide +kernel⟩
theorem Gi : isT "int" "int" = some true := by decide +kernel
theorem EB : isT "int" "bool" = some false := by decide +kernel
theorem FO : isT "tuple" "tuple" = some true := by decide +kernel
theorem Ek : isT "str" "str" = some true := by decide +kernel
noncomputable def wz : Sp := fun vs H Q _ => ∃ (i n : Int), vs = [.int i, .int n] /\ Q (.bl (decide (0 <= i /\ i < n))) H
theorem Jv (a : At K mg "is_place" yq) (B : Blt mg) : Df P w K mg base "is_place" ["thing", "n"] 1 wz := by
 refine kl (k := 0) a vY (fun _ _ _ _ _ _ us hl => match us, hl with | [_, _], _ => rfl) (fun vs H Q E h => ?_) (fun f cdv A outer s H vs Q E hr h => ?_)
 ·obtain ⟨i, n, rfl, _⟩ := h; rfl
 obtain ⟨i, n, rfl, q⟩ := h
 have sc := vY
 have hsl := hsl
 refine ⟨_, (zc (zP (PW.pt (yQ (qd (zr ja rfl B.isinstance zQ (za (pv 0) (za (qH (v := .ty "bool") rfl B.bool KH rfl) zb))) (fun _ => rfl)) (kT (qL (qd (zr ja rfl B.isinstance zQ (za (pv 0) (za (qH (v := .ty "int") rfl B.int Jz rfl) zb))) (fun _ => rfl)))))) (zd (zq qE)) zx)
  (zd (zq (Z6 DU Vi ze (pv 0) (pv 1))))), ?_⟩
 rw [show zZ ["thing", "n"] [V.int i, V.int n] = [some (.int i), some (.int n)] from rfl]
 walk_at "rd"
 simp only [Km]
 refine ⟨"int", _, rfl, .int i, _, EB, ?_⟩
 rw [if_neg (by decide)]
 refine ⟨"int", _, rfl, .int i, _, Gi, ?_⟩
 rw [if_neg (by decide)]
 walk_at "rd"
 by_cases h0 : 0 <= i
 ·rw [if_pos h0]
  rw [show decide (0 <= i /\ i < n) = decide (i < n) from decide_eq_decide.mpr ⟨fun z => z.2, fun z => ⟨h0, z⟩⟩] at q
  exact q
 ·rw [if_neg h0]
  rw [show decide (0 <= i /\ i < n) = false from decide_eq_false (fun z => h0 z.1)] at q
  exact q
noncomputable abbrev vN : Stmt := top 33
theorem Zi : zo ["thing", "n", "word", "part"] ["thing", "n"] (zf vN) := ⟨rfl, rfl, rfl, by decide +kernel, rfl, by decide +kernel, by decide +kernel⟩
noncomputable def deW : De -> V
 | .swap _ _ => DR
 | .take _ => DY
 | .move _ _ => DP
 | .lay _ => Hr
noncomputable def xg : De -> List Nat
 | .swap a b => [a, b]
 | .take p => [p]
 | .move p g => [p, g]
 | .lay g => [g]
theorem E2 (d : De) : deV d = deW d :: (xg d).map (fun k : Nat => V.int (k : Int)) := by cases d <;> rfl
theorem DoE.places {d : De} {s t : ES} (h : DoE d s t) : ∀ k ∈ xg d, k < s.1.length := by
 have lt : ∀ {row : List (Option Int)} {a : Nat} {c : Option Int}, row[a]? = some c -> a < row.length := fun h => (List.getElem?_eq_some_iff.mp h).1
 intro k hk
 cases h with
 | swap ne h1 h2 =>
  rcases List.mem_cons.mp hk with z | z
  ·rw [z]; exact lt h1
  ·rw [List.mem_singleton.mp z]; exact lt h2
 | take h1 => rw [List.mem_singleton.mp hk]; exact lt h1
 | move h1 h2 =>
  rcases List.mem_cons.mp hk with z | z
  ·rw [z]; exact lt h1
  ·rw [List.mem_singleton.mp z]; exact lt h2
 | lay h1 => rw [List.mem_singleton.mp hk]; exact lt h1
theorem Qg (d : De) : vt (deV d) (some 1) none = (xg d).map (fun k : Nat => V.int (k : Int)) := by cases d <;> rfl
theorem ZR (d : De) : (deV d).length = (xg d).length + 1 := by rw [E2]; simp
theorem Jf (d : De) : 1 <= (xg d).length /\ (xg d).length <= 2 := by cases d <;> simp [xg]
theorem WO (d : De) : ¬ (HT.sIx (deV d).length 0 (some 1) = 0 /\ HT.sIx (deV d).length (deV d).length none = (deV d).length) := by
 rw [ZR]
 rcases show (xg d).length = 1 \/ (xg d).length = 2 by have := Jf d; omega with h | h <;> (rw [h]; decide)
noncomputable def Je : Sp := fun vs H Q _ => ∃ (dd : Addr) (d : De) (s t : ES), vs = [.ref dd, .int (s.1.length : Int)] /\ H dd = some (.tup (deV d)) /\ DoE d s t /\ ∀ H', Kp [] H H' -> Q (.bl true) H'
noncomputable abbrev Z8 : List (Key × V) := [(Sum.inr (Str.ofString "swap"), .int 2), (Sum.inr (Str.ofString "take"), .int 1), (Sum.inr (Str.ofString "move"), .int 2), (Sum.inr (Str.ofString "lay"), .int 1)]
theorem X6 {K : PySem.W.Frag} {w : World} {pa : Addr} {t1 t2 t3 t4 u1 u2 u3 u4 : Tok} {ep : Nat} (lP : K.lookup pa = some ⟨.type "dict", none, .dict #[⟨hashStr w "swap", .str "swap" t1, .int 2 u1⟩, ⟨hashStr w "take", .str "take" t2, .int 1 u2⟩, ⟨hashStr w "move", .str "move" t3, .int 2 u3⟩, ⟨hashStr w "lay", .str "lay" t4, .int 1 u4⟩] ep, #[]⟩) (nP : (pa == sysModules) = false) : KD K w pa Z8 := by
 refine ⟨⟨_, _, lP, fun P => ?_⟩, nP⟩
 refine ⟨fun e he => ?_, [(Sum.inr "swap", .int 2 u1), (Sum.inr "take", .int 1 u2), (Sum.inr "move", .int 2 u3), (Sum.inr "lay", .int 1 u4)], ?_, ?_, by show ([Sum.inr (Str.ofString "swap"), Sum.inr (Str.ofString "take"), Sum.inr (Str.ofString "move"), Sum.inr (Str.ofString "lay")] : List Key).Nodup; decide +kernel⟩
 ·have he : e ∈ [_, _, _, _] := Array.mem_toList_iff.mpr he
  rcases List.mem_cons.mp he with z | he
  ·exact ⟨Sum.inr "swap", by rw [z]; rfl, by rw [z]; rfl⟩
  rcases List.mem_cons.mp he with z | he
  ·exact ⟨Sum.inr "take", by rw [z]; rfl, by rw [z]; rfl⟩
  rcases List.mem_cons.mp he with z | he
  ·exact ⟨Sum.inr "move", by rw [z]; rfl, by rw [z]; rfl⟩
  rw [List.mem_singleton.mp he]
  exact ⟨Sum.inr "lay", rfl, rfl⟩
 ·exact .cons ⟨rfl, _, rfl⟩ (.cons ⟨rfl, _, rfl⟩ (.cons ⟨rfl, _, rfl⟩ (.cons ⟨rfl, _, rfl⟩ .nil)))
 ·exact .cons rfl rfl (.cons rfl rfl (.cons rfl rfl (.cons rfl rfl .nil)))
theorem AJ : (yz Z8 (Sum.inr (Str.ofString "swap"))).getD V.non = V.int 2 := by decide +kernel
theorem Bf : (yz Z8 (Sum.inr (Str.ofString "take"))).getD V.non = V.int 1 := by decide +kernel
theorem AZ : (yz Z8 (Sum.inr (Str.ofString "move"))).getD V.non = V.int 2 := by decide +kernel
theorem EA : (yz Z8 (Sum.inr (Str.ofString "lay"))).getD V.non = V.int 1 := by decide +kernel
theorem XN {pa : Addr} (a : At K mg "is_deed" vN) (B : Blt mg) (KP : KD K w pa Z8) (MP : mg "PLACES_OF" = some (.ref pa)) (D_is_place : Df P w K mg base "is_place" ["thing", "n"] 1 wz) : Df P w K mg base "is_deed" ["thing", "n"] 2 Je := by
 refine kl (k := 1) a Zi (fun _ _ _ _ _ _ us hl => match us, hl with | [_, _], _ => rfl) (fun vs H Q E h => ?_) (fun f cdv A outer s H vs Q E hr h => ?_)
 ·obtain ⟨_, _, _, _, rfl, _⟩ := h; rfl
 obtain ⟨dd, d, s0, t, rfl, hd, hdo, q⟩ := h
 have sc := Zi
 have hsl := hsl
 have Ball := B.all
 refine ⟨_, (zc (zP (PW.pt (yQ (qL (qd (zr ja rfl B.isinstance zQ (za (pv 0) (za (qH (v := .ty "tuple") rfl B.tuple jC rfl) zb))) (fun _ => rfl))) (kT (zC wU (zr zw rfl B.len qm (za (pv 0) zb)) ze (zH _))))) (zd (zq qE)) zx)
  (zc (zu (i := 2) sc.nd rfl (by first | exact Or.inl rfl | exact Or.inr rfl) (zO jX (pv 0) ze (fun _ _ => rfl)))
  (zc (zP (PW.pt (yQ (qL (qd (zr ja rfl B.isinstance zQ (za (pv 2) (za (qH (v := .ty "str") rfl B.str Gn rfl) zb))) (fun _ => rfl))) (kT (zC DL (Bv KP rfl MP (pv 2) ⟨rfl, rfl, rfl, rfl⟩) (zk qB (zr zw rfl B.len qm (za (pv 0) zb)) ze) (zH _))))) (zd (zq qE)) zx)
  (zd (zq (zr (Ye rfl) rfl Ball Eb (za (jp (ts := [3]) rfl rfl (EK (xW F4 (pv 0) (jW ze) y6)) (fun _ _ _ _ => (zA (i := 3) sc.nd rfl (by first | exact Or.inl rfl | exact Or.inr rfl))) (fun _ _ _ _ => qS) (fun _ _ _ _ => (zn D_is_place hr rfl (za (pv 3) (za (pv 1) zb))))) zb))))))), ?_⟩
 rw [show zZ ["thing", "n", "word", "part"] [V.ref dd, V.int (s0.1.length : Int)] = [some (.ref dd), some (.int (s0.1.length : Int)), none, none] from rfl]
 walk_at "rd"
 simp only [Hf]
 obtain ⟨l1, l2⟩ := Jf d
 have kk : ∃ k : Key, deW d = kV k /\ (yz Z8 k).getD V.non = V.int ((xg d).length : Int) := by
  cases d with
  | swap a b => exact ⟨Sum.inr (Str.ofString "swap"), rfl, AJ⟩
  | take p => exact ⟨Sum.inr (Str.ofString "take"), rfl, Bf⟩
  | move p g => exact ⟨Sum.inr (Str.ofString "move"), rfl, AZ⟩
  | lay g => exact ⟨Sum.inr (Str.ofString "lay"), rfl, EA⟩
 obtain ⟨k, ek, ev⟩ := kk
 have ts : j3 K H (deW d) (.type "str") := by cases d <;> exact .str _
 refine ⟨"tuple", _, rfl, .tup hd, _, FO, ?_⟩
 rw [if_neg (by decide)]
 refine ⟨_, .inr (SqT.of hd), rfl, ?_⟩
 rw [if_neg (by rw [ZR]; omega)]
 refine ⟨_, SqT.of hd, deW d, by cases d <;> rfl, "str", _, rfl, ts, _, Ek, ?_⟩
 rw [if_neg (by decide)]
 refine ⟨k, ek, _, .inr (SqT.of hd), ?_⟩
 rw [ev, ZR, show (((xg d).length + 1 : Nat) : Int) - 1 = ((xg d).length : Int) by omega]
 refine ⟨rfl, ?_⟩
 rw [if_neg (not_not_intro rfl)]
 refine ⟨dd, deV d, rfl, SqT.of hd, WO d, fun p hp => ⟨p, rfl, ⟨_, SqT.of zh⟩, fun D hD => ?_⟩⟩
 rw [Qg]
 have kn := Kp.new (bs := []) (HO.tup ((xg d).map (fun k : Nat => V.int (k : Int)))) hp
 have hpp := zh (H := H) (a := p) (o := HO.tup ((xg d).map (fun k : Nat => V.int (k : Int))))
 rw [Qg] at hD
 generalize upd H p (HO.tup ((xg d).map (fun k : Nat => V.int (k : Int)))) = H1 at *
 refine Ey (xs := (xg d).map (fun k : Nat => V.int (k : Int))) (fun i τ G => ∃ u, τ = [some (.ref dd), some (.int (s0.1.length : Int)), some (deW d), u] /\ Kp [D] (upd H1 D (.lst [])) G /\ G D = some (.lst ((List.replicate i true).map V.bl))) ?_ ?_ ?_ ?_
 ·exact ⟨none, rfl, Kp.refl, zh⟩
 ·rintro i τ G _ ⟨u, rfl, kq, hq⟩
  exact SqT.of (Kp.drop1 hD kq _ _ (by simp) hpp)
 ·rintro i x τ G hx ⟨u, rfl, kq, hq⟩
  have hi := (List.getElem?_eq_some_iff.mp hx).1
  rw [List.length_map] at hi
  rw [List.getElem?_map, List.getElem?_eq_getElem hi] at hx
  injection hx with hx
  subst hx
  have hb := hdo.places _ (List.getElem_mem hi)
  walk_at "rd"
  refine ⟨_, _, rfl, ?_⟩
  refine ⟨_, hq, by rw [List.length_map, List.length_replicate]; omega, kq.trans (Kp.set _ (by simp)), ?_⟩
  rw [zh, List.replicate_succ', List.map_append, decide_eq_true (by omega)]; rfl
 ·rintro τ G ⟨u, rfl, kq, hq⟩
  refine ⟨D, rfl, _, SqL.of hq, ?_⟩
  rw [show (List.replicate ((xg d).map (fun k : Nat => V.int (k : Int))).length true).all id = true by simp]
  exact q _ (kn.trans (Kp.drop1 hD kq))
noncomputable abbrev Gg : Stmt := (qY (top 34) 1)
theorem DI : zo ["self", "thing", "word"] ["self", "thing"] (zf Gg) := ⟨rfl, rfl, rfl, by decide +kernel, rfl, by decide +kernel, by decide +kernel⟩
noncomputable def GP (C : Addr) : Sp := fun vs H Q _ => ∃ (p rw_ mv dd : Addr) (s : ES) (ms : List Int) (d : De), vs = [.ref p, .ref dd] /\ H dd = some (.tup (deV d)) /\ s.1.length <= 1000 /\ WB C d p rw_ mv s ms H Q
theorem GK {C : Addr} (a : AtM K C "do" "Room.do" Gg) (R : RTx K C) (B : Blt mg) (D_is_deed : Df P w K mg base "is_deed" ["thing", "n"] 2 Je) (M_swap : Dm P w K mg base C "swap" ["self", "a", "b"] 2 (Ab C)) (M_take : Dm P w K mg base C "take" ["self", "a"] 2 (Xw C))
  (M_move : Dm P w K mg base C "move" ["self", "a", "b"] 2 (VM C)) (M_lay : Dm P w K mg base C "lay" ["self", "b"] 2 (DW C)) : Dm P w K mg base C "do" ["self", "thing"] 3 (GP C) := by
 refine jJ (k := 2) a DI (fun _ _ _ _ _ _ us hl => match us, hl with | [_, _], _ => rfl) (fun vs H Q E h => ?_) (fun f cdv A outer s H vs Q E hr h => ?_)
 ·obtain ⟨_, _, _, _, _, _, _, rfl, _⟩ := h; rfl
 obtain ⟨p, rw_, mv, dd, s0, ms, d, rfl, hd, hl, r, ok, t, hdo, q⟩ := h
 have sc := DI
 have hsl := hsl
 have CL := R.cl
 obtain ⟨dx, hp⟩ := r.ex
 refine ⟨_, (zc (zP (qL (qd (zn D_is_deed hr rfl (za (pv 1) (za (zr zw rfl B.len qm (za (qc (pv 0) rfl) zb)) zb))) (fun _ => rfl))) (zd qq) zx)
  (zc (zu (i := 2) sc.nd rfl (by first | exact Or.inl rfl | exact Or.inr rfl) (zO jX (pv 1) ze (fun _ _ => rfl)))
  (zd (zP (zC wU (pv 2) ju (zH _)) (zd (qZ (wc CL M_swap hr (pv 0) (za (zO jX (pv 1) ze (fun _ _ => rfl)) (za (zO jX (pv 1) ze (fun _ _ => rfl)) zb))))) (zd (zP (zC wU (pv 2) ju (zH _)) (zd (qZ (wc CL M_take hr (pv 0) (za (zO jX (pv 1) ze (fun _ _ => rfl)) zb)))) (zd (zP (zC wU (pv 2) ju (zH _)) (zd (qZ (wc CL M_move hr (pv 0) (za (zO jX (pv 1) ze (fun _ _ => rfl)) (za (zO jX (pv 1) ze (fun _ _ => rfl)) zb))))) (zd (qZ (wc CL M_lay hr (pv 0) (za (zO jX (pv 1) ze (fun _ _ => rfl)) zb)))))))))))), ?_⟩
 rw [show zZ ["self", "thing", "word"] [V.ref p, V.ref dd] = [some (.ref p), some (.ref dd), none] from rfl]
 refine zI fun r1 hr1 => ?_
 walk_at "rd"
 refine ⟨_, _, _, hp, R.cl, R.nr, _, jg _ _ _, _, rfl, _, .inl (SqL.of r.row), ?_⟩
 rw [List.length_map]
 refine ⟨dd, d, s0, t, rfl, hd, hdo, fun H1 k1 => ⟨_, rfl, ?_⟩⟩
 rw [if_neg (by decide)]
 have r := r.kp k1 (by simp) (by simp) (by simp)
 have hd := k1 _ _ (by simp) hd
 obtain ⟨dx, hp⟩ := r.ex
 subst hr1
 refine zI fun r1 hr1 => ?_
 walk_at "rd"
 refine ⟨_, SqT.of hd, deW d, by cases d <;> rfl, ?_⟩
 subst hr1
 have q : ∀ H', zT C H' p rw_ mv t (qy d s0 ms) -> Kp [p, rw_, mv] H1 H' -> Q .non H' := fun H' r' k' => q H' r' ((k1.mono (by simp)).trans k')
 have nm : ∀ {m : Str}, (m == ("row" : Str)) = false -> (m == ("hand" : Str)) = false -> (m == ("moved" : Str)) = false -> (vV rw_ mv s0.2).lookup m = none := fun h1 h2 h3 => wq _ _ _ h1 h2 h3
 have c1 : ∀ {x y : String}, ¬ Str.ofString x = Str.ofString y -> ¬ V.str (Str.ofString x) = V.str (Str.ofString y) := fun h z => h (by injection z)
 cases d with
 | swap a b =>
  rw [show deW (De.swap a b) = V.str (Str.ofString "swap") from rfl]
  walk_at "rd"
  refine ⟨rfl, ?_⟩
  try rw [if_pos rfl]
  exact ⟨_, _, hp, nm (by decide +kernel) (by decide +kernel) (by decide +kernel), _, SqT.of hd, _, rfl, _, SqT.of hd, _, rfl, p, rw_, mv, s0, ms, a, b, rfl, r, ok, t, hdo, q⟩
 | take a =>
  rw [show deW (De.take a) = V.str (Str.ofString "take") from rfl]
  walk_at "rd"
  refine ⟨rfl, ?_⟩
  rw [if_neg (c1 (by decide +kernel))]
  refine ⟨rfl, ?_⟩
  try rw [if_pos rfl]
  exact ⟨_, _, hp, nm (by decide +kernel) (by decide +kernel) (by decide +kernel), _, SqT.of hd, _, rfl, p, rw_, mv, s0, ms, a, rfl, r, ok, t, hdo, q⟩
 | move a b =>
  rw [show deW (De.move a b) = V.str (Str.ofString "move") from rfl]
  walk_at "rd"
  refine ⟨rfl, ?_⟩
  rw [if_neg (c1 (by decide +kernel))]
  refine ⟨rfl, ?_⟩
  rw [if_neg (c1 (by decide +kernel))]
  refine ⟨rfl, ?_⟩
  try rw [if_pos rfl]
  exact ⟨_, _, hp, nm (by decide +kernel) (by decide +kernel) (by decide +kernel), _, SqT.of hd, _, rfl, _, SqT.of hd, _, rfl, p, rw_, mv, s0, ms, a, b, rfl, r, ok, t, hdo, q⟩
 | lay a =>
  rw [show deW (De.lay a) = V.str (Str.ofString "lay") from rfl]
  walk_at "rd"
  refine ⟨rfl, ?_⟩
  rw [if_neg (c1 (by decide +kernel))]
  refine ⟨rfl, ?_⟩
  rw [if_neg (c1 (by decide +kernel))]
  refine ⟨rfl, ?_⟩
  rw [if_neg (c1 (by decide +kernel))]
  exact ⟨_, _, hp, nm (by decide +kernel) (by decide +kernel) (by decide +kernel), _, SqT.of hd, _, rfl, p, rw_, mv, s0, ms, a, rfl, r, ok, t, hdo, q⟩
noncomputable abbrev Kh : Stmt := (qY (top 34) 0)
theorem KI : zo ["self", "n"] ["self", "n"] (zf Kh) := ⟨rfl, rfl, rfl, by decide +kernel, rfl, by decide +kernel, by decide +kernel⟩
noncomputable def Ks (C : Addr) : Sp := fun vs H Q _ => ∃ (p dx : Addr) (n : Nat), vs = [.ref p, .int (n : Int)] /\ H p = some (.ins C dx []) /\ n <= 1000 /\
 ∀ rw_ mv H', H rw_ = none -> H mv = none -> zT C H' p rw_ mv ((zG 0 1 n).map some, none) (List.replicate n 0) -> Kp [p] H H' -> Q .non H'
theorem Dr {C : Addr} (a : AtM K C "__init__" "Room.__init__" Kh) (R : RTx K C) (B : Blt mg) : Dm P w K mg base C "__init__" ["self", "n"] 1 (Ks C) := by
 refine jJ (k := 0) a KI (fun _ _ _ _ _ _ us hl => match us, hl with | [_, _], _ => rfl) (fun vs H Q E h => ?_) (fun f cdv A outer s H vs Q E hr h => ?_)
 ·obtain ⟨_, _, _, rfl, _⟩ := h; rfl
 obtain ⟨p, dx, n, rfl, hp, hn, q⟩ := h
 have sc := KI
 have hsl := hsl
 have CL := R.cl
 refine ⟨_, (zc (vE (pv 0) (qt (xC rfl) rfl B.list j7 (za (qt yJ rfl B.range Qx (za (pv 1) zb)) zb)) rfl)
  (zc (vE (pv 0) jj rfl)
  (zd (vE (pv 0) (zk j9 (qj (za ze zb)) (pv 1)) rfl)))), ?_⟩
 rw [show zZ ["self", "n"] [V.ref p, V.int (n : Int)] = [some (.ref p), some (.int (n : Int))] from rfl]
 refine zI fun r1 hr1 => ?_
 walk_at "rd"
 refine fun g1 hg1 => ⟨_, _, _, zh, small_one (by omega) (by omega) (by omega) (by omega), n, by rw [rangeSize_one]; split <;> omega, by omega, fun g2 hg2 => ?_⟩
 have ng := (Kp.new (bs := []) (vB g1 0 (n : Int) 1) hg1).trans (Kp.new (HO.lst (List.map V.int (zG 0 1 n))) hg2)
 have n2 : H g2 = none := (Kp.new (bs := []) (vB g1 0 (n : Int) 1) hg1).free hg2
 have hg := zh (H := upd H g1 (vB g1 0 (n : Int) 1)) (a := g2) (o := HO.lst (List.map V.int (zG 0 1 n)))
 generalize upd (upd H g1 (vB g1 0 (n : Int) 1)) g2 (HO.lst (List.map V.int (zG 0 1 n))) = H1 at *
 have hp1 := ng _ _ (by simp) hp
 have np2 : g2 ≠ p := fun z => by rw [z, hp] at n2; cases n2
 refine ⟨_, _, _, hp1, R.cl, R.nr, by show 0 < 1000; decide, ?_⟩
 subst hr1
 refine zI fun r1 hr1 => ?_
 walk_at "rd"
 refine ⟨_, _, _, zh, R.cl, R.nh, by show 1 < 1000; decide, ?_⟩
 subst hr1
 have k2 := ((ng.mono (bs' := [p]) (by simp)).trans (Kp.set (bs := [p]) (p := p) (HO.ins C dx (qw "row" (V.ref g2) [])) (by simp))).trans (Kp.set (bs := [p]) (p := p) (HO.ins C dx (qw "hand" V.non (qw "row" (V.ref g2) []))) (by simp))
 have hp2 := zh (H := upd H1 p (HO.ins C dx (qw "row" (V.ref g2) []))) (a := p) (o := HO.ins C dx (qw "hand" V.non (qw "row" (V.ref g2) [])))
 have hg' : upd (upd H1 p (HO.ins C dx (qw "row" (V.ref g2) []))) p (HO.ins C dx (qw "hand" V.non (qw "row" (V.ref g2) []))) g2 = some (HO.lst (List.map V.int (zG 0 1 n))) := (zj np2).trans ((zj np2).trans hg)
 generalize upd (upd H1 p (HO.ins C dx (qw "row" (V.ref g2) []))) p (HO.ins C dx (qw "hand" V.non (qw "row" (V.ref g2) []))) = H2 at *
 walk_at "rd"
 refine ⟨by show 1 <= sizeLine; omega, fun g3 hg3 => ⟨_, zh, by omega, by omega, by rw [Int.toNat_natCast]; show 1 * n <= sizeLine; omega, fun g4 hg4 => ?_⟩⟩
 rw [Int.toNat_natCast, ZN]
 have kn := (Kp.new (bs := []) (HO.lst [V.int 0]) hg3).trans (Kp.new (HO.lst (List.replicate n (V.int 0))) hg4)
 have n4 : H2 g4 = none := (Kp.new (bs := []) (HO.lst [V.int 0]) hg3).free hg4
 have hg5 := zh (H := upd H2 g3 (HO.lst [V.int 0])) (a := g4) (o := HO.lst (List.replicate n (V.int 0)))
 generalize upd (upd H2 g3 (HO.lst [V.int 0])) g4 (HO.lst (List.replicate n (V.int 0))) = H3 at *
 have np4 : g4 ≠ p := fun z => by rw [z, hp2] at n4; cases n4
 have n24 : g2 ≠ g4 := fun z => by rw [<- z, hg'] at n4; cases n4
 refine ⟨_, _, _, kn _ _ (by simp) hp2, R.cl, R.nm, by show 2 < 1000; decide, ?_⟩
 have n40 : H g4 = none := by
  cases e : H g4 with
  | none => rfl
  | some o => rw [k2 _ _ (by simpa using np4) e] at n4; cases n4
 have ef : qw "moved" (V.ref g4) (qw "hand" V.non (qw "row" (V.ref g2) [])) = vV g2 g4 none := by
  show qw "moved" (V.ref g4) (if ("row" : Str) = "hand" then _ else (("row" : Str), V.ref g2) :: qw "hand" V.non []) = _
  rw [if_neg (by decide +kernel)]
  show (if ("row" : Str) = "moved" then _ else (("row" : Str), V.ref g2) :: (if ("hand" : Str) = "moved" then _ else (("hand" : Str), V.non) :: qw "moved" (V.ref g4) [])) = _
  rw [if_neg (by decide +kernel), if_neg (by decide +kernel)]
  rfl
 rw [ef]
 refine q g2 g4 _ n2 n40 ⟨⟨dx, zh⟩, ?_, ?_, n24⟩ ((k2.trans (kn.mono (by simp))).trans (Kp.set _ (by simp)))
 ·exact (zj np2).trans ((kn _ _ (by simp) hg').trans (by rw [List.map_map]; rfl))
 ·exact (zj np4).trans (hg5.trans (show _ = some (HO.lst ((List.replicate n (0 : Int)).map V.int)) by rw [List.map_replicate]))
inductive kR : List De -> ES -> ES -> List Int -> List Int -> Prop
 | nil {s : ES} {ms : List Int} : kR [] s s ms ms
 | cons {d : De} {l : List De} {s t u : ES} {ms ms' : List Int} : DoE d s t -> kR l t u (qy d s ms) ms' -> kR (d :: l) s u ms ms'
theorem ko.withM {l : List De} {s t : ES} (h : ko l s t) : ∀ ms, ∃ ms', kR l s t ms ms' := by
 induction h with
 | nil => exact fun ms => ⟨ms, .nil⟩
 | cons d _ ih =>
  intro ms
  obtain ⟨ms', h⟩ := ih (qy _ _ ms)
  exact ⟨ms', .cons d h⟩
theorem kR.len {l : List De} {s t : ES} {ms ms' : List Int} (h : kR l s t ms ms') : t.1.length = s.1.length /\ ms'.length = ms.length := by
 induction h with
 | nil => exact ⟨rfl, rfl⟩
 | cons d _ ih => exact ⟨ih.1.trans d.len, ih.2.trans (xh _ _ _)⟩
noncomputable def kg (s : ES) : Prop := s.1.countP (·.isNone) = if s.2.isSome then 1 else 0
theorem Yx {row : List (Option Int)} {a : Nat} {c : Option Int} (h : row[a]? = some c) (v : Option Int) : (row.set a v).countP (·.isNone) + (if c.isNone then 1 else 0) = row.countP (·.isNone) + if v.isNone then 1 else 0 := by
 obtain ⟨hl, e⟩ := List.getElem?_eq_some_iff.mp h
 have := List.countP_set (p := fun x : Option Int => x.isNone) (a := v) hl
 rw [this, e]
 have hp : (if c.isNone = true then 1 else 0) <= row.countP (·.isNone) := by
  split
  ·exact List.countP_pos_iff.mpr ⟨c, List.mem_of_getElem? h, by assumption⟩
  ·exact Nat.zero_le _
 omega
theorem DoE.noneOk {d : De} {s t : ES} (h : DoE d s t) (o : kg s) : kg t := by
 unfold kg at *
 cases h with
 | @swap a b row hd x y ne h1 h2 =>
  have e1 := Yx h1 (some y)
  have h2' : (row.set a (some y))[b]? = some (some y) := by rw [List.getElem?_set, if_neg ne]; exact h2
  have e2 := Yx h2' (some x)
  simp only [Option.isNone_some, Bool.false_eq_true, if_false] at e1 e2
  show ((row.set a (some y)).set b (some x)).countP _ = if hd.isSome = true then 1 else 0
  have o : row.countP (·.isNone) = if hd.isSome = true then 1 else 0 := o
  omega
 | @take p row x h1 =>
  have e1 := Yx h1 none
  simp only [Option.isNone_some, Option.isNone_none, Bool.false_eq_true, if_false, if_true] at e1
  have o : row.countP (·.isNone) = 0 := o
  show (row.set p none).countP _ = 1
  omega
 | @move p g row hd x h1 h2 =>
  have ne : p ≠ g := fun z => by rw [z, h2] at h1; cases h1
  have e1 := Yx h1 none
  have h2' : (row.set p none)[g]? = some none := by rw [List.getElem?_set, if_neg ne]; exact h2
  have e2 := Yx h2' (some x)
  simp only [Option.isNone_some, Option.isNone_none, Bool.false_eq_true, if_false, if_true] at e1 e2
  show ((row.set p none).set g (some x)).countP _ = if hd.isSome = true then 1 else 0
  have o : row.countP (·.isNone) = if hd.isSome = true then 1 else 0 := o
  omega
 | @lay g row x h1 =>
  have e1 := Yx h1 (some x)
  simp only [Option.isNone_some, Option.isNone_none, Bool.false_eq_true, if_false, if_true] at e1
  have o : row.countP (·.isNone) = 1 := o
  show (row.set g (some x)).countP _ = 0
  omega
noncomputable abbrev jy (n : Nat) : ES := ((zG 0 1 n).map some, none)
theorem QQ (n : Nat) : OkM (jy n) n := by
 refine ⟨fun x hx => ?_, fun x hx => nomatch hx⟩
 obtain ⟨y, hy, e⟩ := List.mem_map.mp hx
 injection e with e
 subst e
 unfold zG at hy
 obtain ⟨k, hk, e⟩ := List.mem_map.mp hy
 rw [List.mem_range] at hk
 omega
theorem Jq (n : Nat) : kg (jy n) := by
 unfold kg
 show ((zG 0 1 n).map some).countP _ = 0
 rw [List.countP_eq_zero]
 intro a ha
 obtain ⟨y, _, e⟩ := List.mem_map.mp ha
 subst e
 simp
theorem wZ (n : Nat) : (jy n).1.length = n := by show ((zG 0 1 n).map some).length = n; rw [List.length_map, zi]
theorem YO {s : ES} (o : kg s) (h : s.2 = none) : ∃ os : List Int, s.1 = os.map some := by
 unfold kg at o
 rw [h] at o
 have o : s.1.countP (·.isNone) = 0 := o
 rw [List.countP_eq_zero] at o
 refine ⟨s.1.map fun c => c.getD 0, ?_⟩
 rw [List.map_map]
 refine (List.map_id s.1).symm.trans (List.map_congr_left fun c hc => ?_)
 cases c with
 | none => exact absurd rfl (o none hc)
 | some x => rfl
theorem Gh {qs : List (Addr × De)} {i : Nat} {x : V} (h : (tfs (deP qs))[i]? = some x) : ∃ y, y ∈ qs /\ qs[i]? = some y /\ x = .ref y.1 := by
 unfold tfs deP at h
 rw [List.map_map, List.getElem?_map] at h
 cases e : qs[i]? with
 | none => rw [e] at h; cases h
 | some y =>
  rw [e] at h
  injection h with h
  exact ⟨y, List.mem_of_getElem? e, rfl, h.symm⟩
noncomputable abbrev yr : Stmt := top 36
theorem vx : zo ["n", "plan", "room", "at", "deed"] ["n", "plan"] (zf yr) := ⟨rfl, rfl, rfl, by decide +kernel, rfl, by decide +kernel, by decide +kernel⟩
noncomputable def w8 (C : Addr) : Sp := fun vs H Q _ => ∃ (n : Nat) (pp : Addr) (qs : List (Addr × De)) (t : ES) (ms : List Int), vs = [.int (n : Int), .ref pp] /\ (H pp = some (.lst (tfs (deP qs))) \/ H pp = some (.tup (tfs (deP qs)))) /\ (∀ q ∈ qs, H q.1 = some (.tup (deV q.2))) /\ kR (qs.map (·.2)) (jy n) t (List.replicate n 0) ms /\ n <= 1000 /\ qs.length <= 10000 /\
 ∀ p rw_ mv H', H p = none -> H rw_ = none -> H mv = none -> Kp [] H H' -> zT C H' p rw_ mv t ms -> Q (.ref p) H'
theorem E4 : xV "list" ["list", "tuple"] = some true := by decide +kernel
theorem Fz : xV "tuple" ["list", "tuple"] = some true := by decide +kernel
theorem J4 {C : Addr} (a : At K mg "room_behind" yr) (R : RTx K C) (B : Blt mg) (M_Room : Mkr P w K mg base "Room" C ["self", "n"] 4 (Ks C)) (M_do : Dm P w K mg base C "do" ["self", "thing"] 5 (GP C)) : Df P w K mg base "room_behind" ["n", "plan"] 6 (w8 C) := by
 refine kl (k := 5) a vx (fun _ _ _ _ _ _ us hl => match us, hl with | [_, _], _ => rfl) (fun vs H Q E h => ?_) (fun f cdv A outer s H vs Q E hr h => ?_)
 ·obtain ⟨_, _, _, _, _, rfl, _⟩ := h; rfl
 obtain ⟨n, pp, qs, t, ms, rfl, hpp, hqs, hdo, hn, hl, q⟩ := h
 have sc := vx
 have hsl := hsl
 have CL := R.cl
 refine ⟨_, (zc (zP (qL (qd (zr wJ rfl B.isinstance zQ (za (pv 1) (za (ji (za (qH (v := .ty "list") rfl B.list j7 rfl) (za (qH (v := .ty "tuple") rfl B.tuple jC rfl) zb))) zb))) (fun _ => rfl))) (zd qq) zx)
  (zc (zu (i := 2) sc.nd rfl (by first | exact Or.inl rfl | exact Or.inr rfl) (Hx M_Room hr rfl (za (pv 0) zb)))
  (zc (jf PassesOwn.never rfl (xq rfl B.enumerate (za (pv 1) zb)) (jH (K := K) 2 rfl rfl (zX (zA (i := 3) sc.nd rfl (by first | exact Or.inl rfl | exact Or.inr rfl)) (zX (zA (i := 4) sc.nd rfl (by first | exact Or.inl rfl | exact Or.inr rfl)) jG))) (zd (Xt (fun _ _ z => z) (zd (qZ (wc CL M_do hr (pv 2) (za (pv 4) zb)))))))
  (zd (zq (pv 2)))))), ?_⟩
 rw [show zZ ["n", "plan", "room", "at", "deed"] [V.int (n : Int), V.ref pp] = [some (.int (n : Int)), some (.ref pp), none, none, none] from rfl]
 refine zI fun r1 hr1 => ?_
 walk_at "rd"
 refine ⟨by show 2 <= sizeLine; omega, fun g0 hg0 => ?_⟩
 have n0 := Kp.new (bs := []) (HO.tup [V.ty "list", V.ty "tuple"]) hg0
 have e0 := zh (H := H) (a := g0) (o := HO.tup [V.ty "list", V.ty "tuple"])
 have key : ∃ T, j3 K (upd H g0 (HO.tup [V.ty "list", V.ty "tuple"])) (V.ref pp) (Value.type T) /\ xV T ["list", "tuple"] = some true := by
  rcases hpp with z | z
  ·exact ⟨"list", .lst (n0 _ _ (by simp) z), E4⟩
  ·exact ⟨"tuple", .tup (n0 _ _ (by simp) z), Fz⟩
 obtain ⟨T, ty, it⟩ := key
 refine ⟨T, ["list", "tuple"], e0, ty, true, it, ?_⟩
 rw [if_neg (by decide)]
 generalize upd H g0 (HO.tup [V.ty "list", V.ty "tuple"]) = H1 at *
 subst hr1
 refine zI fun r1 hr1 => ?_
 walk_at "rd"
 refine fun x dx hx hdx nxd => ⟨x, dx, n, rfl, zh, by omega, fun rA mA H4 hrA hmA r4 k4 => ⟨rfl, ?_⟩⟩
 have kN : Kp [] H1 (upd (upd H1 dx (.own x)) x (.ins C dx [])) := fun c o _ hh => (zj (zm hh hx)).trans ((zj (zm hh hdx)).trans hh)
 have k14 : Kp [] H H4 := fun c o hc0 hh => k4 c o (by simpa using zm (n0 c o hc0 hh) hx) (kN c o hc0 (n0 c o hc0 hh))
 have fx : H x = none := n0.free hx
 have frA : H rA = none := n0.free (kN.free hrA)
 have fmA : H mA = none := n0.free (kN.free hmA)
 subst hr1
 walk_at "rd"
 have hsq : SqL K H pp (tfs (deP qs)) \/ SqT K H pp (tfs (deP qs)) := by
  rcases hpp with z | z
  ·exact .inl (SqL.of z)
  ·exact .inr (SqT.of z)
 have l0 := wZ n
 refine vO (H0 := H) hsq (fun i τ G => ∃ (s0 : ES) (ms0 : List Int) (u3 u4 : Option V), τ = [some (V.int (n : Int)), some (V.ref pp), some (V.ref x), u3, u4] /\ Kp [] H G /\ zT C G x rA mA s0 ms0 /\ kR ((qs.map (·.2)).drop i) s0 t ms0 ms /\ OkM s0 ms0.length /\ s0.1.length = n /\ ms0.length = n) ?_ ?_ ?_ ?_
 ·exact ⟨jy n, List.replicate n 0, none, none, rfl, k14, r4, hdo, by rw [List.length_replicate]; exact QQ n, l0, List.length_replicate⟩
 ·rintro i τ G ⟨s0, ms0, u3, u4, rfl, kG, _⟩
  exact kG
 ·rintro i y p τ G hy hp ⟨s0, ms0, u3, u4, rfl, kG, rG, dG, ok, l1, l2⟩
  obtain ⟨z, hz, ez, rfl⟩ := Gh hy
  have hi := (List.getElem?_eq_some_iff.mp ez).1
  have ed : (qs.map (·.2)).drop i = z.2 :: (qs.map (·.2)).drop (i + 1) := by
   rw [List.drop_eq_getElem_cons (by rw [List.length_map]; exact hi), List.getElem_map, (List.getElem?_eq_some_iff.mp ez).2]
  rw [ed] at dG
  cases dG with
  | @cons _ _ _ t1 _ _ _ hd1 hd2 =>
  have np := Kp.new (bs := []) (HO.tup [V.int (i : Int), V.ref z.1]) hp
  have ep := zh (H := G) (a := p) (o := HO.tup [V.int (i : Int), V.ref z.1])
  generalize upd G p (HO.tup [V.int (i : Int), V.ref z.1]) = G1 at *
  have rG1 := rG.kp np (by simp) (by simp) (by simp)
  obtain ⟨dx1, e1⟩ := rG1.ex
  have hz1 := np _ _ (by simp) (kG _ _ (by simp) (hqs z hz))
  have hI : ∀ G2, zT C G2 x rA mA t1 (qy z.2 s0 ms0) -> Kp [x, rA, mA] G1 G2 -> Kp [] H G2 /\ zT C G2 x rA mA t1 (qy z.2 s0 ms0) /\ kR ((qs.map (·.2)).drop (i + 1)) t1 t (qy z.2 s0 ms0) ms /\ OkM t1 (qy z.2 s0 ms0).length /\ t1.1.length = n /\ (qy z.2 s0 ms0).length = n := fun G2 r2 k2 =>
   ⟨fun c o hc0 hh => k2 c o (by simp [zm hh fx, zm hh frA, zm hh fmA]) (np c o hc0 (kG c o hc0 hh)), r2, hd2, by rw [xh]; exact hd1.okm ok, by rw [hd1.len]; exact l1, by rw [xh]; exact l2⟩
  walk_at "rd"
  exact ⟨_, SqT.of ep, rfl, _, _, rfl, _, _, rfl, rfl, _, _, e1, wq _ _ _ (by decide +kernel) (by decide +kernel) (by decide +kernel), x, rA, mA, z.1, s0, ms0, z.2, rfl, hz1, by omega, rG1, ok, t1, hd1, fun G2 r2 k2 => let ⟨h1, h2⟩ := hI G2 r2 k2; ⟨h1, _, _, h2⟩⟩
 ·rintro τ G ⟨s0, ms0, u3, u4, rfl, kG, rG, dG, ok, l1, l2⟩
  have el : (qs.map (·.2)).drop (tfs (deP qs)).length = [] := by rw [Vl, List.length_map]; exact List.drop_of_length_le (by rw [List.length_map]; exact Nat.le_refl _)
  rw [el] at dG
  cases dG
  walk_at "rd"
  exact q x rA mA G fx frA fmA kG rG
noncomputable abbrev Z2 : Stmt := top 13
theorem Qo : zo ["order", "back", "place", "goal"] ["order"] (zf Z2) := ⟨rfl, rfl, rfl, by decide +kernel, rfl, by decide +kernel, by decide +kernel⟩
noncomputable def qF : List Int -> Nat -> List Int -> List Int
 | [], _, bs => bs
 | o :: os, i, bs => qF os (i + 1) (bs.set o.toNat (i : Int))
noncomputable def Xm : Sp := fun vs H Q _ => ∃ (a : Addr) (os : List Int), vs = [.ref a] /\ H a = some (.tup (os.map V.int)) /\ os.length <= 1000 /\ (∀ x ∈ os, 0 <= x /\ x < (os.length : Int)) /\ ∀ p H', Kp [] H H' -> H p = none -> H' p = some (il (qF os 0 (List.replicate os.length 0))) -> Q (.ref p) H'
theorem xL : ∀ (os : List Int) (i : Nat) (bs : List Int), (qF os i bs).length = bs.length
 | [], _, _ => rfl
 | o :: os, i, bs => by rw [qF, xL, List.length_set]
theorem VJ (a : At K mg "back_of" Z2) (B : Blt mg) : Df P w K mg base "back_of" ["order"] 1 Xm := by
 refine kl (k := 0) a Qo (fun _ _ _ _ _ _ us hl => match us, hl with | [_], _ => rfl) (fun vs H Q E h => ?_) (fun f cdv A outer s H vs Q E hr h => ?_)
 ·obtain ⟨a, _, rfl, _⟩ := h; rfl
 obtain ⟨a, os, rfl, ha, hl, hb, q⟩ := h
 have sc := Qo
 have hsl := hsl
 refine ⟨_, (zc (zu (i := 1) sc.nd rfl (by first | exact Or.inl rfl | exact Or.inr rfl) (zk j9 (qj (za ze zb)) (zr zw rfl B.len qm (za (pv 0) zb))))
  (zc (jf PassesOwn.never rfl (xq rfl B.enumerate (za (pv 0) zb)) (jH (K := K) 2 rfl rfl (zX (zA (i := 2) sc.nd rfl (by first | exact Or.inl rfl | exact Or.inr rfl)) (zX (zA (i := 3) sc.nd rfl (by first | exact Or.inl rfl | exact Or.inr rfl)) jG))) (zd (qG (pv 2) (qM (pv 1) (pv 3) zK))))
  (zd (zq (pv 1))))), ?_⟩
 rw [show zZ ["order", "back", "place", "goal"] [V.ref a] = [some (.ref a), none, none, none] from rfl]
 refine zI fun r1 hr1 => ?_
 walk_at "rd"
 refine ⟨by show 1 <= sizeLine; omega, fun g3 hg3 => ?_⟩
 have n3 := Kp.new (bs := []) (HO.lst [V.int 0]) hg3
 have e3 := zh (H := H) (a := g3) (o := HO.lst [V.int 0])
 generalize upd H g3 (HO.lst [V.int 0]) = H1 at *
 have ha1 := n3 _ _ (by simp) ha
 refine ⟨_, .inr (SqT.of ha1), _, e3, by omega, by rw [List.length_map]; omega, by rw [List.length_map, Int.toNat_natCast]; show 1 * _ <= _; omega, fun g4 hg4 => ?_⟩
 rw [List.length_map, Int.toNat_natCast, ZN]
 have n4 := Kp.new (bs := []) (HO.lst (List.replicate os.length (V.int 0))) hg4
 have e4 : upd H1 g4 (HO.lst (List.replicate os.length (V.int 0))) g4 = some (il (List.replicate os.length 0)) := zh.trans (show _ = some (HO.lst ((List.replicate os.length (0 : Int)).map V.int)) by rw [List.map_replicate])
 generalize upd H1 g4 (HO.lst (List.replicate os.length (V.int 0))) = H2 at *
 have ha2 := n4 _ _ (by simp) ha1
 have f4 : H g4 = none := n3.free hg4
 subst hr1
 refine zI fun r1 hr1 => ?_
 walk_at "rd"
 refine vO (H0 := H) (.inr (SqT.of ha)) (fun i τ G => ∃ (u v : Option V) (bs : List Int), τ = [some (V.ref a), some (V.ref g4), u, v] /\ Kp [] H G /\ G g4 = some (il bs) /\ bs.length = os.length /\ qF (os.drop i) i bs = qF os 0 (List.replicate os.length 0)) ?_ ?_ ?_ ?_
 ·exact ⟨none, none, _, rfl, n3.trans n4, e4, List.length_replicate, rfl⟩
 ·rintro i τ G ⟨u, v, bs, rfl, kG, _⟩
  exact kG
 ·rintro i y p τ G hy hp ⟨u, v, bs, rfl, kG, hG, lb, eb⟩
  have hi := (List.getElem?_eq_some_iff.mp hy).1
  rw [List.length_map] at hi
  rw [List.getElem?_map, List.getElem?_eq_getElem hi] at hy
  injection hy with hy
  subst hy
  obtain ⟨o0, o1⟩ := hb _ (List.getElem_mem hi)
  obtain ⟨m1, m2⟩ := Z7 (ms := bs) o0 (by rw [lb]; exact o1)
  have np := Kp.new (bs := []) (HO.tup [V.int (i : Int), V.int os[i]]) hp
  have ep := zh (H := G) (a := p) (o := HO.tup [V.int (i : Int), V.int os[i]])
  generalize upd G p (HO.tup [V.int (i : Int), V.int os[i]]) = G1 at *
  walk_at "rd"
  refine ⟨_, SqT.of ep, rfl, _, _, rfl, _, _, rfl, rfl, _, rfl, _, np _ _ (by simp) hG, _, m2, fun c o hc0 hh => (zj (zm hh f4)).trans (np c o hc0 (kG c o hc0 hh)), bs.set os[i].toNat (i : Int), zh.trans (show _ = some (HO.lst ((bs.set os[i].toNat (i : Int)).map V.int)) by rw [List.map_set]), by rw [List.length_set]; exact lb, ?_⟩
  rw [<- eb, List.drop_eq_getElem_cons hi]; rfl
 ·rintro τ G ⟨u, v, bs, rfl, kG, hG, lb, eb⟩
  rw [List.length_map, List.drop_length] at eb
  subst hr1
  walk_at "rd"
  exact q g4 G kG f4 (by rw [<- eb]; exact hG)
noncomputable abbrev vk : Stmt := top 37
theorem wX : zo ["n", "plan", "room", "row", "hand", "moved"] ["n", "plan"] (zf vk) := ⟨rfl, rfl, rfl, by decide +kernel, rfl, by decide +kernel, by decide +kernel⟩
noncomputable def Jd : Sp := fun vs H Q _ => ∃ (n : Nat) (pp : Addr) (qs : List (Addr × De)) (t : ES) (ms : List Int), vs = [.int (n : Int), .ref pp] /\ (H pp = some (.lst (tfs (deP qs))) \/ H pp = some (.tup (tfs (deP qs)))) /\ (∀ q ∈ qs, H q.1 = some (.tup (deV q.2))) /\ kR (qs.map (·.2)) (jy n) t (List.replicate n 0) ms /\ n <= 1000 /\ qs.length <= 10000 /\
 ∀ p pm H', Kp [] H H' -> H' pm = some (.tup (ms.map V.int)) ->
  (∀ pr h, t.2 = some h -> H' pr = some (.tup (t.1.map cE)) -> H' p = some (.tup [.str (Str.ofString "open"), .ref pr, .int h, .ref pm]) -> Q (.ref p) H') /\
  (∀ pb os, t.2 = none -> t.1 = os.map some -> H' pb = some (il (qF os 0 (List.replicate os.length 0))) -> H pb = none -> H' p = some (.tup [.str (Str.ofString "done"), .ref pb, .ref pm]) -> Q (.ref p) H')
theorem kR.ok {l : List De} {s t : ES} {ms ms' : List Int} (h : kR l s t ms ms') (n : Nat) (o1 : OkM s n) (o2 : kg s) : OkM t n /\ kg t := by
 induction h with
 | nil => exact ⟨o1, o2⟩
 | cons d _ ih => exact ih (d.okm o1) (d.noneOk o2)
theorem XR {C : Addr} (a : At K mg "walked" vk) (R : RTx K C) (B : Blt mg) (D_room_behind : Df P w K mg base "room_behind" ["n", "plan"] 6 (w8 C)) (D_back_of : Df P w K mg base "back_of" ["order"] 6 Xm)
  (M_row_now : Dm P w K mg base C "row_now" ["self"] 6 (Vr C)) (M_hand_now : Dm P w K mg base C "hand_now" ["self"] 6 (W5 C)) (M_moved_now : Dm P w K mg base C "moved_now" ["self"] 6 (WI C)) : Df P w K mg base "walked" ["n", "plan"] 7 Jd := by
 refine kl (k := 6) a wX (fun _ _ _ _ _ _ us hl => match us, hl with | [_, _], _ => rfl) (fun vs H Q E h => ?_) (fun f cdv A outer s H vs Q E hr h => ?_)
 ·obtain ⟨_, _, _, _, _, rfl, _⟩ := h; rfl
 obtain ⟨n, pp, qs, t, ms, rfl, hpp, hqs, hdo, hn, hl, q⟩ := h
 have sc := wX
 have hsl := hsl
 have CL := R.cl
 obtain ⟨lt, lm⟩ := hdo.len
 rw [wZ] at lt
 rw [List.length_replicate] at lm
 obtain ⟨ot, on⟩ := hdo.ok n (QQ n) (Jq n)
 refine ⟨_, (zc (zu (i := 2) sc.nd rfl (by first | exact Or.inl rfl | exact Or.inr rfl) (zn D_room_behind hr rfl (za (pv 0) (za (pv 1) zb))))
  (zc (zu (i := 3) sc.nd rfl (by first | exact Or.inl rfl | exact Or.inr rfl) (J3 CL M_row_now hr (pv 2)))
  (zc (zu (i := 4) sc.nd rfl (by first | exact Or.inl rfl | exact Or.inr rfl) (J3 CL M_hand_now hr (pv 2)))
  (zc (zu (i := 5) sc.nd rfl (by first | exact Or.inl rfl | exact Or.inr rfl) (J3 CL M_moved_now hr (pv 2)))
  (zc (zP (zC vc (pv 4) jj (zH _)) (zd (zq (ji (za ju (za (pv 3) (za (pv 4) (za (pv 5) zb))))))) zx)
  (zd (zq (ji (za ju (za (zn D_back_of hr rfl (za (pv 3) zb)) (za (pv 5) zb))))))))))), ?_⟩
 rw [show zZ ["n", "plan", "room", "row", "hand", "moved"] [V.int (n : Int), V.ref pp] = [some (.int (n : Int)), some (.ref pp), none, none, none, none] from rfl]
 refine zI fun r1 hr1 => ?_
 walk_at "rd"
 refine ⟨n, pp, qs, t, ms, rfl, hpp, hqs, hdo, hn, hl, fun p rA mA H1 _ _ _ k1 r1' => ?_⟩
 subst hr1
 refine zI fun r1 hr1 => ?_
 walk_at "rd"
 obtain ⟨dx1, e1⟩ := r1'.ex
 refine ⟨_, _, e1, wq _ _ _ (by decide +kernel) (by decide +kernel) (by decide +kernel), p, rA, mA, t, ms, rfl, r1', by omega, fun pr H2 k2 hpr => ?_⟩
 have r2' := r1'.kp k2 (by simp) (by simp) (by simp)
 obtain ⟨dx2, e2⟩ := r2'.ex
 subst hr1
 refine zI fun r1 hr1 => ?_
 walk_at "rd"
 refine ⟨_, _, e2, wq _ _ _ (by decide +kernel) (by decide +kernel) (by decide +kernel), p, rA, mA, t, ms, rfl, r2', ?_⟩
 subst hr1
 refine zI fun r1 hr1 => ?_
 walk_at "rd"
 refine ⟨_, _, e2, wq _ _ _ (by decide +kernel) (by decide +kernel) (by decide +kernel), p, rA, mA, t, ms, rfl, r2', by omega, fun pm H3 k3 hpm => ?_⟩
 have hpr3 := k3 _ _ (by simp) hpr
 have k13 := (k1.trans k2).trans k3
 subst hr1
 refine zI fun r1 hr1 => ?_
 walk_at "rd"
 cases eh : t.2 with
 | some h =>
  rw [if_pos (show ¬ cE (some h) = V.non from fun z => nomatch z)]
  refine ⟨by show 4 <= sizeLine; omega, fun g hg => ?_⟩
  have ng := Kp.new (bs := []) (HO.tup [V.str (Str.ofString "open"), V.ref pr, cE (some h), V.ref pm]) hg
  exact (q g pm _ (k13.trans ng) (ng _ _ (by simp) hpm)).1 pr h eh (ng _ _ (by simp) hpr3) zh
 | none =>
  rw [if_neg (show ¬ ¬ cE none = V.non from not_not_intro rfl)]
  obtain ⟨os, eo⟩ := YO on eh
  have lo : os.length = n := by rw [<- lt, eo, List.length_map]
  subst hr1
  walk_at "rd"
  refine ⟨pr, os, rfl, by rw [hpr3, eo, List.map_map]; rfl, by omega, fun x hx => ?_, fun pb H4 k4 npb hpb => ⟨by show 3 <= sizeLine; omega, fun g hg => ?_⟩⟩
  ·rw [lo]
   exact ot.1 x (by rw [eo]; exact List.mem_map.mpr ⟨x, hx, rfl⟩)
  ·have ng := Kp.new (bs := []) (HO.tup [V.str (Str.ofString "done"), V.ref pb, V.ref pm]) hg
   exact (q g pm _ ((k13.trans k4).trans ng) (ng _ _ (by simp) (k4 _ _ (by simp) hpm))).2 pb os eh eo (ng _ _ (by simp) hpb) (k13.free npb) zh
noncomputable def xJ : Dd -> De
 | .take p => .take p
 | .move p g => .move p g
 | .lay g => .lay g
theorem Ee {d : Dd} {s t : RS} (h : Do d s t) : DoE (xJ d) (s.1, s.2.1) (t.1, t.2.1) /\ qy (xJ d) (s.1, s.2.1) s.2.2 = t.2.2 := by
 cases h with
 | @take p row mv x h1 =>
  refine ⟨.take h1, ?_⟩
  show [row.getD p none].foldl yF mv = _
  rw [jI h1]; rfl
 | @move p g row hd mv x h1 h2 =>
  refine ⟨.move h1 h2, ?_⟩
  show [row.getD p none, row.getD g none].foldl yF mv = _
  rw [jI h1, jI h2]; rfl
 | @lay g row mv x h1 => exact ⟨.lay h1, rfl⟩
theorem Bu {l : List Dd} {s t : RS} (h : Dos l s t) : kR (l.map xJ) (s.1, s.2.1) (t.1, t.2.1) s.2.2 t.2.2 := by
 induction h with
 | nil => exact .nil
 | cons d _ ih =>
  obtain ⟨h1, h2⟩ := Ee d
  refine .cons h1 ?_
  rw [h2]
  exact ih
noncomputable def swD (s : Nat × Nat) : De := .swap s.1 s.2
theorem G6 {R : List Int} {s : Nat × Nat} (h1 : s.1 < R.length) (h2 : s.2 < R.length) (ne : s.1 ≠ s.2) : DoE (swD s) (R.map some, none) ((sw1 R s).map some, none) := by
 have e1 : (R.map some)[s.1]? = some (some (R.getD s.1 0)) := by rw [List.getElem?_map, List.getElem?_eq_getElem h1, List.getD_eq_getElem?_getD, List.getElem?_eq_getElem h1]; rfl
 have e2 : (R.map some)[s.2]? = some (some (R.getD s.2 0)) := by rw [List.getElem?_map, List.getElem?_eq_getElem h2, List.getD_eq_getElem?_getD, List.getElem?_eq_getElem h2]; rfl
 have := DoE.swap (h := none) ne e1 e2
 unfold sw1
 rw [List.map_set, List.map_set]
 exact this
theorem JJ : ∀ (l : List (Nat × Nat)) (R : List Int), (∀ s ∈ l, s.1 < R.length /\ s.2 < R.length /\ s.1 ≠ s.2) -> ko (l.map swD) (R.map some, none) ((swR R l).map some, none)
 | [], _, _ => .nil
 | s :: l, R, h => by
  obtain ⟨h1, h2, h3⟩ := h s (by simp)
  exact .cons (G6 h1 h2 h3) (JJ l (sw1 R s) fun t ht => by rw [Xq]; exact h t (by simp [ht]))
theorem v7 : ∀ (rs : List Int) (i : Nat) (bs : List Int), rs.Nodup -> (∀ x ∈ rs, 0 <= x /\ x < (bs.length : Int)) -> (∀ j, j < rs.length -> (qF rs i bs).getD (rs.getD j 0).toNat 0 = ((i + j : Nat) : Int)) /\ ∀ y : Nat, (y : Int) ∉ rs -> (qF rs i bs).getD y 0 = bs.getD y 0
 | [], _, _, _, _ => ⟨fun j hj => absurd hj (Nat.not_lt_zero _), fun y _ => rfl⟩
 | r :: rs, i, bs, nd, hb => by
  have nd' := List.nodup_cons.mp nd
  obtain ⟨r0, r1⟩ := hb r (by simp)
  obtain ⟨g1, g2⟩ := v7 rs (i + 1) (bs.set r.toNat (i : Int)) nd'.2 (fun x hx => by rw [List.length_set]; exact hb x (by simp [hx]))
  have hrl : r.toNat < bs.length := by omega
  refine ⟨fun j hj => ?_, fun y hy => ?_⟩
  ·cases j with
   | zero =>
    show (qF rs (i + 1) (bs.set r.toNat (i : Int))).getD r.toNat 0 = _
    rw [g2 r.toNat (by rw [Int.toNat_of_nonneg r0]; exact nd'.1), xb hrl, if_pos rfl]; rfl
   | succ j =>
    have := g1 j (by simpa using hj)
    show (qF rs (i + 1) (bs.set r.toNat (i : Int))).getD (rs.getD j 0).toNat 0 = _
    rw [this]; congr 1; omega
  ·show (qF rs (i + 1) (bs.set r.toNat (i : Int))).getD y 0 = _
   rw [g2 y (fun z => hy (by simp [z])), xb hrl, if_neg]
   intro z
   exact hy (by rw [z, Int.toNat_of_nonneg r0]; simp)
theorem j5 {a b : List Int} (h : a.length = b.length) (g : ∀ x, x < a.length -> a.getD x 0 = b.getD x 0) : a = b := by
 refine List.ext_getElem h fun i h1 h2 => ?_
 have := g i h1
 rwa [List.getD_eq_getElem?_getD, List.getElem?_eq_getElem h1, List.getD_eq_getElem?_getD, List.getElem?_eq_getElem h2] at this
theorem A1 {n : Nat} {os R : List Int} (h : zl n os) (hR : R.length = n) (hg : ∀ t : Nat, t < n -> R.getD (os.getD t 0).toNat 0 = (t : Int)) : R.Nodup /\ (∀ x ∈ R, 0 <= x /\ x < (n : Int)) /\ qF R 0 (List.replicate R.length 0) = os := by
 have at_ : ∀ j, j < n -> ∃ t : Nat, t < n /\ os.getD t 0 = (j : Int) /\ R.getD j 0 = (t : Int) := fun j hj => by
  obtain ⟨t, ht, e⟩ := h.ex hj
  have := hg t ht
  rw [e, Int.toNat_natCast] at this
  exact ⟨t, ht, e, this⟩
 have nd : R.Nodup := by
  rw [List.nodup_iff_pairwise_ne, List.pairwise_iff_getElem]
  intro i j hi hj hij e
  obtain ⟨t, _, e1, r1⟩ := at_ i (by omega)
  obtain ⟨u, _, e2, r2⟩ := at_ j (by omega)
  rw [List.getD_eq_getElem?_getD, List.getElem?_eq_getElem hi] at r1
  rw [List.getD_eq_getElem?_getD, List.getElem?_eq_getElem hj] at r2
  have r1 : R[i] = (t : Int) := r1
  have r2 : R[j] = (u : Int) := r2
  have : t = u := by omega
  subst this
  omega
 have bd : ∀ x ∈ R, 0 <= x /\ x < (n : Int) := fun x hx => by
  obtain ⟨i, hi, e⟩ := List.mem_iff_getElem.mp hx
  obtain ⟨t, ht, _, r1⟩ := at_ i (by omega)
  rw [List.getD_eq_getElem?_getD, List.getElem?_eq_getElem hi] at r1
  have r1 : R[i] = (t : Int) := r1
  omega
 refine ⟨nd, bd, j5 (by rw [xL, List.length_replicate, hR, h.1]) fun x hx => ?_⟩
 rw [xL, List.length_replicate, hR] at hx
 obtain ⟨g1, _⟩ := v7 R 0 (List.replicate R.length 0) nd (fun y hy => by rw [List.length_replicate, hR]; exact bd y hy)
 obtain ⟨o0, o1⟩ := h.getD hx
 have e := hg x hx
 have := g1 (os.getD x 0).toNat (by omega)
 rw [e, Int.toNat_natCast] at this
 rw [this]
 omega
noncomputable def Xd : ASp := fun xs M Q => ∃ (b : Addr) (many : Int) (N : Nat), xs = [.ref b, .d (.int many)] /\ BxM M b N /\ N < 1000000000 /\ 0 < many /\ many < 1073741824 /\ ∀ r M', BxS M M' b (N + 1) -> 0 <= r -> r < many -> Q (.d (.int r)) M'
theorem BB (vs : List V) (H : Hp) (Q : VK) (E : XK) (h : cSp Xd vs H Q E) : W7 vs H Q E := by
 obtain ⟨xs, M, O, Q', w, r, ⟨b, many, N, rfl, hb, h1, h2, h3, q⟩, k⟩ := h
 obtain ⟨v, u, rfl, rv, ru⟩ := xH r
 rw [zJ ru, rv.1]
 refine ⟨b, many, N, rfl, hb.bx w, h1, h2, h3, fun r H' kp hb' r0 r1 => ?_⟩
 obtain ⟨M', s, e, w'⟩ := Ff w hb kp hb'
 exact k _ _ _ _ _ (q r M' s r0 r1) e w' .int
noncomputable def Hi : ASp := fun xs M Q => ∃ (x : AV) (k : Int) (cs : List Int), xs = [x, .d (.int k)] /\ qp x M = some (cs.map fun i => .d (.int i)) /\ 0 <= k /\ k <= 1000 /\ cs.length <= 1000 /\ ∀ p o, M p = none -> BxM (mup M p o) p 0 -> Q (.ref p) (mup M p o)
theorem Gy (vs : List V) (H : Hp) (Q : VK) (E : XK) (h : cSp Hi vs H Q E) : Ea vs H Q E := by
 obtain ⟨xs, M, O, Q', w, r, ⟨x, n, cs, rfl, hx, h1, h2, h3, q⟩, k⟩ := h
 obtain ⟨v, u, rfl, rv, ru⟩ := xH r
 rw [zJ ru]
 obtain ⟨a, rfl, ha⟩ := VS w rv hx
 refine ⟨a, n, cs, rfl, ha, h1, h2, h3, fun p H' kp hp hb' => ?_⟩
 obtain ⟨x', y', z', g1, g2⟩ := hb'
 obtain ⟨e1, w1⟩ := Zo w kp
 have fr := w.fresh hp
 have e2 := Ext.owned (O' := Yi O p) (p := p) w ⟨fun a o h e => ⟨(e1.fix a o h e).1, fun z => z.elim (zm e hp) h⟩, fun a h e => ⟨(e1.prv a h e).1, .inr h, e⟩, fun _ h => h⟩ hp (.lst ([x', y', z'].map fun i => .d (.int i)))
 refine k _ _ _ _ _ (q p _ fr.2 ⟨x', y', z', zt, g2⟩) e2 (QI (O := Yi O p) (xs := [V.int x', V.int y', V.int z']) ⟨fun a o h => ?_, fun a h => .inr (w1.own a h), fun a h => ?_⟩ (.inl rfl) fr.2 g1 (ZU [x', y', z'])) ⟨rfl, by rw [zt]; exact fun z => nomatch z⟩
 ·have e3 : Ext H O M H' (Yi O p) M := ⟨fun a o h e => ⟨(e1.fix a o h e).1, fun z => z.elim (zm e hp) h⟩, fun a h e => ⟨(e1.prv a h e).1, .inr h, e⟩, fun _ h => h⟩
  refine jl.ext e3 ?_ (w.mo a o h)
  obtain ⟨u, hu, _⟩ := w.al a (w.own a (kd h))
  rw [hu]; exact kp a u (by simp) hu
 ·rcases h with rfl | h
  ·exact ⟨_, g1, fun xs z => nomatch z⟩
  ·exact w1.al a h
noncomputable def K5 (K : PySem.W.Frag) : ASp := fun xs M Q => ∃ (m : Int) (ns : List Int), xs = [.d (.scr K ns), .d (.int m)] /\ 0 < m /\ m <= 60 /\ ns.length <= 63 /\ ∀ cs : List Int, cs.length <= 1000 -> Q (.d (.lst (cs.map .int))) M
theorem Yd (vs : List V) (H : Hp) (Q : VK) (E : XK) (h : cSp (K5 K) vs H Q E) : Q9 K vs H Q E := by
 obtain ⟨xs, M, O, Q', w, r, ⟨m, ns, rfl, h1, h2, h3, q⟩, k⟩ := h
 obtain ⟨v, u, rfl, rv, ru⟩ := xH r
 rw [zJ ru]
 obtain ⟨a, rfl, ha⟩ := KY rv
 refine ⟨a, m, ns, rfl, ha, h1, h2, h3, fun p H' cs kp hp hc lc => ?_⟩
 obtain ⟨e1, w1⟩ := Zo w kp
 exact k _ _ _ _ _ (q cs lc) e1 w1 (wg (w.fresh hp).1 hc)
noncomputable def JE : ASp := fun xs M Q => ∃ (x : AV) (n : Nat) (os : List Int), xs = [x] /\ qu x M = some (os.map fun i => .d (.int i)) /\ zl n os /\ n <= 1000 /\ Q (.d (.lst ((zy os n).map ilD))) M
theorem V1 (vs : List V) (H : Hp) (Q : VK) (E : XK) (h : cSp JE vs H Q E) : KW K vs H Q E := by
 obtain ⟨xs, M, O, Q', w, r, ⟨x, n, os, rfl, hx, ho, hn, q⟩, k⟩ := h
 obtain ⟨v, rfl, rv⟩ := jd r
 obtain ⟨a, rfl, ha⟩ := W4 w rv hx
 refine ⟨a, n, os, rfl, ha.elim (fun h => .inl (SqL.of h)) (fun h => .inr (SqT.of h)), ho, hn, fun p H' rs kp hp h1 h2 er => ?_⟩
 obtain ⟨e1, w1⟩ := Zo w kp
 refine k _ _ _ _ _ q e1 w1 (Rep.lst (w.fresh hp).1 h1 (by rw [<- er]; unfold rfs; simp) fun i x d i1 i2 => ?_)
 rw [<- er] at i2
 unfold rfs at i1
 rw [List.getElem?_map] at i1 i2
 rw [List.getElem?_map] at i2
 cases e : rs[i]? with
 | none => rw [e] at i1; cases i1
 | some y =>
  rw [e] at i1 i2
  cases i1; cases i2
  have := h2 y (List.mem_of_getElem? e)
  exact wg (w.fresh this.1).1 this.2.2
noncomputable def deD : De -> Dat
 | .swap a b => .tup [.str (Str.ofString "swap"), .int (a : Int), .int (b : Int)]
 | .take p => .tup [.str (Str.ofString "take"), .int (p : Int)]
 | .move p g => .tup [.str (Str.ofString "move"), .int (p : Int), .int (g : Int)]
 | .lay g => .tup [.str (Str.ofString "lay"), .int (g : Int)]
noncomputable def cD : Option Int -> Dat
 | none => .non
 | some x => .int x
theorem EV {H : Hp} {O : Own} (c : Option Int) : Rep H O (cE c) (cD c) := by cases c; exact .non; exact .int
theorem BZ {H : Hp} {O : Own} {v : V} {l : List Dat} (r : Rep H O v (.tup l)) : ∃ a xs, v = .ref a /\ H a = some (.tup xs) /\ zg H O (fun _ => none) xs (l.map .d) := jh (M := fun _ => none) (x := .d (.tup l)) r rfl
theorem Vg {H : Hp} {O : Own} {v : V} {d : De} (r : Rep H O v (deD d)) : ∃ a, v = .ref a /\ H a = some (.tup (deV d)) := by
  cases d <;>
  · obtain ⟨a, xs, rfl, h, rr⟩ := BZ r
    refine ⟨a, rfl, ?_⟩
    rw [h]
    simp only [List.map_cons, List.map_nil] at rr
    first
      | (obtain ⟨v1, r', rfl, a1, r2⟩ := rr.cons_inv
         obtain ⟨v2, r', rfl, a2, r3⟩ := r2.cons_inv
         obtain ⟨v3, r', rfl, a3, r4⟩ := r3.cons_inv
         rw [r4.nil_inv, Kx a1, zJ a2, zJ a3]; rfl)
      | (obtain ⟨v1, r', rfl, a1, r2⟩ := rr.cons_inv
         obtain ⟨v2, r', rfl, a2, r3⟩ := r2.cons_inv
         rw [r3.nil_inv, Kx a1, zJ a2]; rfl)
theorem K0 {H : Hp} {O : Own} {M : MH} : ∀ {ds : List De} {xs : List V}, zg H O M xs ((ds.map deD).map .d) -> ∃ qs : List (Addr × De), xs = tfs (deP qs) /\ qs.map (·.2) = ds /\ ∀ q ∈ qs, H q.1 = some (.tup (deV q.2))
 | [], xs, r => ⟨[], r.nil_inv, rfl, fun q hq => nomatch hq⟩
 | d :: ds, xs, r => by
  obtain ⟨v, r', rfl, a1, r2⟩ := r.cons_inv
  obtain ⟨a, rfl, ha⟩ := Vg a1
  obtain ⟨qs, rfl, rfl, hq⟩ := K0 r2
  exact ⟨(a, d) :: qs, rfl, rfl, fun q h => by
   rcases List.mem_cons.mp h with rfl | h
   ·exact ha
   ·exact hq q h⟩
theorem wA {H : Hp} {O : Own} {p : Addr} {xs : List V} {l : List Dat} (ho : ¬ O p) (h : H p = some (.tup xs)) (r : zg H O (fun _ => none) xs (l.map .d)) : Rep H O (.ref p) (.tup l) := Rep.tup ho h r.pure.1 r.pure.2
noncomputable def KN : ASp := fun xs M Q => ∃ (n : Nat) (x : AV) (ds : List De) (t : ES) (ms : List Int), xs = [.d (.int n), x] /\ qu x M = some ((ds.map deD).map .d) /\ kR ds (jy n) t (List.replicate n 0) ms /\ n <= 1000 /\ ds.length <= 10000 /\
 (∀ h, t.2 = some h -> Q (.d (.tup [.str (Str.ofString "open"), .tup (t.1.map cD), .int h, .tup (ms.map .int)])) M) /\
 (∀ os, t.2 = none -> t.1 = os.map some -> Q (.d (.tup [.str (Str.ofString "done"), ilD (qF os 0 (List.replicate os.length 0)), .tup (ms.map .int)])) M)
theorem Yl (vs : List V) (H : Hp) (Q : VK) (E : XK) (h : cSp KN vs H Q E) : Jd vs H Q E := by
 obtain ⟨xs, M, O, Q', w, r, ⟨n, x, ds, t, ms, rfl, hx, hdo, hn, hl, q1, q2⟩, k⟩ := h
 obtain ⟨v, u, rfl, rv, ru⟩ := xH r
 rw [zJ rv]
 obtain ⟨a, ys, rfl, ha, ra⟩ := yp w ru hx
 obtain ⟨qs, rfl, rfl, hqs⟩ := K0 ra
 rw [List.length_map] at hl
 refine ⟨n, a, qs, t, ms, rfl, ha, hqs, hdo, hn, hl, fun p pm H' kp hpm => ?_⟩
 obtain ⟨e1, w1⟩ := Zo w kp
 refine ⟨fun pr h eh hpr hp => ?_, fun pb os eh eo hpb npb hp => ?_⟩
 ·refine k _ _ _ _ _ (q1 h eh) e1 w1 (wA (w1.tup hp) hp (.cons .str (.cons ?_ (.cons .int (.cons (Zk (w1.tup hpm) hpm) .nil)))))
  refine Rep.tup (w1.tup hpr) hpr (by simp) fun i x d i1 i2 => ?_
  rw [List.getElem?_map] at i1 i2
  cases e : t.1[i]? with
  | none => rw [e] at i1; cases i1
  | some c => rw [e] at i1 i2; cases i1; cases i2; exact EV c
 ·exact k _ _ _ _ _ (q2 os eh eo) e1 w1 (wA (w1.tup hp) hp (.cons .str (.cons (wg (w.fresh npb).1 hpb) (.cons (Zk (w1.tup hpm) hpm) .nil))))
theorem vS {n : Nat} {os : List Int} (h : zl n os) {r : List Int} : ∀ {i : Nat}, i <= n -> r ∈ zy os i -> ∀ x ∈ r, 0 <= x /\ x < (n : Int)
 | 0, _, hr => by simp [zy] at hr
 | i + 1, hi, hr => by
  unfold zy at hr
  rcases List.mem_append.mp hr with z | z
  ·exact vS h (by omega) z
  ·by_cases c : xY os i /\ 1 < per os (i : Int)
   ·rw [if_pos c] at z
    rw [List.mem_singleton.mp z]
    intro x hx
    obtain ⟨k, _, e⟩ := qz.mp hx
    rw [<- e]
    exact qN h (by omega) (by omega) k
   ·rw [if_neg c] at z; cases z
theorem Qp {n : Nat} {os : List Int} (h : zl n os) {r : List Int} (hr : r ∈ zy os n) : ∀ x ∈ r, 0 <= x := fun x hx => (vS h (Nat.le_refl n) hr x hx).1
theorem j6 {α β : Type} (f : α -> List β) (l : List α) (i : Nat) : (((l.take i).map f).flatten).length <= ((l.map f).flatten).length := by
 have e : (l.map f).flatten = ((l.take i).map f).flatten ++ ((l.drop i).map f).flatten := by
  rw [<- List.flatten_append, <- List.map_append, List.take_append_drop]
 rw [e, List.length_append]; omega
theorem kC {α β : Type} {f : α -> List β} {g : α -> Nat} : ∀ (rs : List α), (∀ r ∈ rs, (f r).length = g r) -> ((rs.map f).flatten).length = (rs.map g).sum
 | [], _ => rfl
 | r :: rs, h => by
  rw [List.map_cons, List.flatten_cons, List.length_append, kC rs fun x hx => h x (by simp [hx]), h r (by simp)]; rfl
theorem va : ∀ (ps : List Nat) (g : Nat), (mvP g ps).length = ps.length
 | [], _ => rfl
 | p :: ps, g => by show (mvP p ps).length + 1 = _; rw [va ps p]; rfl
theorem XF {c : List Nat} (h : 1 <= c.length) : (jt c).length = c.length + 1 := by
 unfold jt
 rw [List.length_append, List.length_cons, va, List.length_reverse, List.length_drop]
 show _ + 1 + 1 = _
 omega
theorem QB : ∀ (rs : List (List Int)), (rs.map fun r => r.length + 1).sum = yW rs + rs.length
 | [] => rfl
 | r :: rs => by
  have := QB rs
  unfold yW at *
  simp only [List.map_cons, List.sum_cons, List.length_cons] at *
  omega
theorem QU : ∀ (rs : List (List Int)), (∀ r ∈ rs, 1 <= r.length) -> (rs.map fun r => r.length - 1).sum + rs.length = yW rs
 | [], _ => rfl
 | r :: rs, h => by
  have := QU rs fun x hx => h x (by simp [hx])
  have h1 := h r (by simp)
  unfold yW at *
  simp only [List.map_cons, List.sum_cons, List.length_cons] at *
  omega
theorem Xh (os : List Int) (n : Nat) : Aj os n <= n := by
 have := List.length_filter_le (fun (i : Nat) => !decide (os.getD i 0 = (i : Int))) (List.range n)
 rw [List.length_range] at this
 exact this
theorem vF {n : Nat} {os : List Int} (h : zl n os) : (jk os n).length = Aj os n + (zy os n).length := by
 unfold jk
 rw [kC (g := fun r => r.length + 1), QB, QC h]
 intro r hr
 have := qW h (Nat.le_refl n) hr
 rw [XF (by rw [List.length_map]; omega), List.length_map]
theorem xt {n : Nat} {os : List Int} (h : zl n os) : (qo os n).length + (zy os n).length = Aj os n := by
 unfold qo
 rw [kC (g := fun r => r.length - 1), QU, QC h]
 ·intro r hr
  have := qW h (Nat.le_refl n) hr; omega
 ·intro r _
  unfold zM
  rw [List.length_map, List.length_drop, List.length_map]
noncomputable abbrev j0 : Stmt := top 20
theorem xD : zo ["ring", "deeds", "goal", "place"] ["ring"] (zf j0) := ⟨rfl, rfl, rfl, by decide +kernel, rfl, by decide +kernel, by decide +kernel⟩
noncomputable def ddD (d : Dd) : Dat := deD (xJ d)
noncomputable def vR : ASp := fun xs M Q => ∃ r : List Int, xs = [.d (ilD r)] /\ (∀ x ∈ r, 0 <= x) /\ 1 <= r.length /\ r.length <= 1000 /\ Q (.d (.lst ((jt (r.map Int.toNat)).map ddD))) M
theorem Qh : ∀ (ps : List Nat) (g p : Nat), mvP g (ps ++ [p]) = mvP g ps ++ [.move p (ps.getLastD g)]
 | [], _, _ => rfl
 | q :: ps, g, p => by
  show Dd.move q g :: mvP q (ps ++ [p]) = _
  rw [Qh ps q p, show (q :: ps).getLastD g = ps.getLastD q by simp [List.getLastD_eq_getLast?, List.getLast?_cons]]; rfl
theorem X7 {ps : List Nat} {g p : Nat} : (ps ++ [p]).getLastD g = p := by simp [List.getLastD_eq_getLast?]
theorem ww (a : At K mg "round_ring" j0) (B : Blt mg) : Df P w K mg base "round_ring" ["ring"] 1 (cSp vR) := by
 refine dfA (k := 0) a xD (fun _ _ _ _ _ _ us hl => match us, hl with | [_], _ => rfl) (fun xs M Q h => ?_) (fun f cdv A outer s H E hr => ?_)
 ·obtain ⟨_, rfl, _⟩ := h; rfl
 have sc := xD
 have hsl := hsl
 refine ⟨_, (zc (zu (i := 1) sc.nd rfl (by first | exact Or.inl rfl | exact Or.inr rfl) (ym (qj (za (ji (za ju (za (zO jD (pv 0) ze (fun _ _ => rfl)) zb))) zb))))
  (zc (zu (i := 2) sc.nd rfl (by first | exact Or.inl rfl | exact Or.inr rfl) (zO jD (pv 0) ze (fun _ _ => rfl)))
  (zc (jf PassesOwn.never rfl (xP (Xz (pv 0) y6 (jW ze) (jW (D1 Vt ze)))) (zA (i := 3) sc.nd rfl (by first | exact Or.inl rfl | exact Or.inr rfl)) (zc (qZ (Ja PySem.F.plainAttrs_list PySem.F.slot_list_append PySem.F.type_list_append xv (pv 1) (za (ji (za ju (za (pv 3) (za (pv 2) zb)))) zb)))
  (zd (zu (i := 2) sc.nd rfl (by first | exact Or.inl rfl | exact Or.inr rfl) (pv 3)))))
  (zc (qZ (Ja PySem.F.plainAttrs_list PySem.F.slot_list_append PySem.F.type_list_append xv (pv 1) (za (ji (za ju (za (pv 2) zb))) zb)))
  (zd (zq (pv 1))))))), ?_⟩
 refine ex2 (by walk_at "sim") ?_
 rintro xs M Q ⟨r, rfl, hr0, hc1, hc2, q⟩
 rw [show zS ["ring", "deeds", "goal", "place"] [.d (ilD r)] = [some (.d (ilD r)), none, none, none] from rfl]
 walk_at "ra"
 have h0 := vZ (ns := r) (i := 0) (by omega) (by omega)
 rw [Int.toNat_zero] at h0
 rw [h0]
 walk_at "ra"
 have hg0 : 0 <= r.getD 0 0 := by rw [List.getD_eq_getElem?_getD, List.getElem?_eq_getElem (by omega)]; exact hr0 _ (List.getElem_mem _)
 refine ⟨by omega, by omega, fun p hp _ => ⟨by decide, ?_⟩⟩
 rw [Xp, X4]
 walk_at "ra"
 have hps : ∀ i x, ((r.drop 1).reverse.map fun i => AV.d (.int i))[i]? = some x -> ∃ y : Nat, ((r.map Int.toNat).drop 1).reverse[i]? = some y /\ x = AV.d (.int (y : Int)) := fun i x hx => by
  rw [List.getElem?_map] at hx
  rw [<- List.map_drop, <- List.map_reverse]
  cases e : (r.drop 1).reverse[i]? with
  | none => rw [e] at hx; cases hx
  | some z =>
   rw [e] at hx
   cases hx
   have : z ∈ r := List.mem_of_mem_drop (List.mem_reverse.mp (List.mem_of_getElem? e))
   exact ⟨z.toNat, by rw [List.getElem?_map, e]; rfl, by rw [Int.toNat_of_nonneg (hr0 z this)]⟩
 generalize hps' : ((r.map Int.toNat).drop 1).reverse = ps at hps
 have lps : ((r.drop 1).reverse.map fun i => AV.d (.int i)).length = ps.length := by rw [<- hps']; simp
 have lps2 : ps.length <= 1000 := by rw [<- hps']; simp; omega
 have e0 : (r.map Int.toNat).getD 0 0 = (r.getD 0 0).toNat := by
  rw [List.getD_eq_getElem?_getD, List.getElem?_map, List.getD_eq_getElem?_getD]
  cases r[0]? <;> rfl
 generalize (r.drop 1).reverse.map (fun i => AV.d (.int i)) = its at hps lps
 refine ⟨fun i ρ M' => ∃ u, ρ = [some (.d (ilD r)), some (.ref p), some (.d (.int ((ps.take i).getLastD (r.getD 0 0).toNat : Nat))), u] /\ M' = mup M p (.lst (((Dd.take (r.getD 0 0).toNat :: mvP (r.getD 0 0).toNat (ps.take i)).map ddD).map .d)), ⟨none, ?_, ?_⟩, ?_, ?_⟩
 ·show _ = [_, _, some (AV.d (.int ((r.getD 0 0).toNat : Int))), _]
  rw [Int.toNat_of_nonneg hg0]
 ·show _ = mup M p (.lst [.d (.tup [.str (Str.ofString "take"), .int ((r.getD 0 0).toNat : Int)])])
  rw [Int.toNat_of_nonneg hg0]
 ·rintro i x ρ M' hx ⟨u, rfl, rfl⟩
  obtain ⟨y, hy, rfl⟩ := hps i x hx
  have tk : ps.take (i + 1) = ps.take i ++ [y] := by rw [List.take_add_one, hy]; rfl
  have hi := (List.getElem?_eq_some_iff.mp hy).1
  walk_at "ra"
  refine ⟨⟨_, yc zt⟩, by omega, _, zt, ?_, ?_⟩
  ·simp only [List.length_map, List.length_cons, va, List.length_take]; omega
  ·refine ⟨by rw [tk, X7], ?_⟩
   rw [tk, Qh, List.map_append, List.map_append]; rfl
 ·rintro ρ M' ⟨u, rfl, rfl⟩
  rw [lps, List.take_length]
  walk_at "ra"
  refine ⟨⟨_, yc zt⟩, by omega, _, zt, ?_, ?_⟩
  ·simp only [List.length_map, List.length_cons, va]; omega
  ·refine ⟨_, _, xu (Fr.refl.mup hp _) hp zt (ds := (jt (r.map Int.toNat)).map ddD) ?_, q⟩
   rw [<- qg, jt, e0, hps', List.map_append, List.map_append]; rfl
noncomputable abbrev xN : Stmt := top 21
theorem yI : zo ["order", "ring", "place"] ["order"] (zf xN) := ⟨rfl, rfl, rfl, by decide +kernel, rfl, by decide +kernel, by decide +kernel⟩
noncomputable def yU (s : Nat × Nat) : Dat := deD (swD s)
noncomputable def QL : ASp := fun xs M Q => ∃ (x : AV) (n : Nat) (os : List Int), xs = [x] /\ qu x M = some (os.map fun i => .d (.int i)) /\ zl n os /\ n <= 1000 /\ Q (.d (.lst ((qo os n).map yU))) M
theorem Qd (a : At K mg "by_swaps" xN) (B : Blt mg) (D_rings : Df P w K mg base "rings" ["order"] 2 (cSp JE)) : Df P w K mg base "by_swaps" ["order"] 3 (cSp QL) := by
 refine dfA (k := 2) a yI (fun _ _ _ _ _ _ us hl => match us, hl with | [_], _ => rfl) (fun xs M Q h => ?_) (fun f cdv A outer s H E hr => ?_)
 ·obtain ⟨_, _, _, rfl, _⟩ := h; rfl
 have sc := yI
 have hsl := hsl
 refine ⟨_, (zd (zq (YT (ts := [1, 2]) rfl rfl (xP (zn D_rings hr rfl (za (pv 0) zb))) (fun _ _ _ _ => (zA (i := 1) sc.nd rfl (by first | exact Or.inl rfl | exact Or.inr rfl))) (fun _ _ _ _ => qS) (fun _ _ _ _ _ => (Bq rfl rfl (by intro _ e; cases e <;> rfl) (Fp (K := K) rfl (xW (An (K := K) rfl) (pv 1) (jW ze) y6)) (fun _ => rfl) (zA (i := 2) sc.nd rfl (by first | exact Or.inl rfl | exact Or.inr rfl)) qS (Br rfl (ji (za ju (za (zO (YV (K := K) rfl) (pv 1) ze (fun _ _ => rfl)) (za (pv 2) zb)))) (fun _ _ z => z)) (fun _ _ z => z)))))), ?_⟩
 refine ex2 (by walk_at "sim") ?_
 rintro xs M Q ⟨x, n, os, rfl, hx, ho, hn, q⟩
 rw [show zS ["order", "ring", "place"] [x] = [some x, none, none] from rfl]
 walk_at "ra"
 refine ⟨x, n, os, rfl, hx, ho, hn, _, rfl, ?_⟩
 have hlen : ∀ i, (((((zy os n).take i).map fun r => zM (r.map Int.toNat)).flatten).length) <= 2000 := fun i => by
  have h1 := j6 (fun r : List Int => zM (r.map Int.toNat)) (zy os n) i
  have h2 := xt ho
  have h3 := Xh os n
  unfold qo at h2
  omega
 refine ⟨fun i acc ρ M' => M = M' /\ (∃ u v, ρ = [some x, u, v]) /\ acc = ((((zy os n).take i).map fun r => zM (r.map Int.toNat)).flatten.map yU).map .d, ⟨rfl, ⟨_, _, rfl⟩, rfl⟩, ?_, ?_⟩
 ·rintro i y acc ρ M' hy ⟨rfl, ⟨u, v, rfl⟩, rfl⟩
  rw [List.getElem?_map, List.getElem?_map] at hy
  cases e : (zy os n)[i]? with
  | none => rw [e] at hy; cases hy
  | some r =>
   rw [e] at hy
   cases hy
   have hm := List.mem_of_getElem? e
   have hrl := qW ho (Nat.le_refl n) hm
   have hr0 := Qp ho hm
   have tk : (zy os n).take (i + 1) = (zy os n).take i ++ [r] := by rw [List.take_add_one, e]; rfl
   have l2 := hlen (i + 1)
   rw [tk, List.map_append, List.flatten_append, List.length_append, show ([r].map fun r => zM (r.map Int.toNat)).flatten = zM (r.map Int.toNat) by simp] at l2
   have hg0 : 0 <= r.getD 0 0 := by rw [List.getD_eq_getElem?_getD, List.getElem?_eq_getElem (by omega)]; exact hr0 _ (List.getElem_mem _)
   have h0 := vZ (ns := r) (i := 0) (by omega) (by omega)
   rw [Int.toNat_zero] at h0
   have hst : zM (r.map Int.toNat) = (r.drop 1).map fun x => ((r.getD 0 0).toNat, x.toNat) := by
    unfold zM
    rw [<- List.map_drop, List.map_map]
    have : (r.map Int.toNat).getD 0 0 = (r.getD 0 0).toNat := by
     rw [List.getD_eq_getElem?_getD, List.getElem?_map, List.getD_eq_getElem?_getD]
     cases r[0]? <;> rfl
    rw [this]; rfl
   walk_at "ra"
   rw [show (1 : Int) = ((1 : Nat) : Int) from rfl, X8, <- List.map_drop]
   walk_at "ra"
   generalize hpre : List.map AV.d (List.map yU (List.map (fun r => zM (List.map Int.toNat r)) (List.take i (zy os n))).flatten) = pre
   have lpre : pre.length + (r.drop 1).length <= 2000 := by
    rw [<- hpre]
    simp only [List.length_map] at *
    rw [hst, List.length_map] at l2
    exact l2
   refine ⟨fun j acc ρ M' => M = M' /\ (∃ v, ρ = [some x, some (.d (ilD r)), v]) /\ acc = pre ++ (((r.drop 1).take j).map fun x => ((r.getD 0 0).toNat, x.toNat)).map (fun s => AV.d (yU s)), ⟨rfl, ⟨_, rfl⟩, (List.append_nil _).symm⟩, ?_, ?_⟩
   ·rintro j z acc ρ M' hz ⟨rfl, ⟨v, rfl⟩, rfl⟩
    rw [List.getElem?_map] at hz
    cases ez : (r.drop 1)[j]? with
    | none => rw [ez] at hz; cases hz
    | some t =>
     rw [ez] at hz
     cases hz
     have ht : 0 <= t := hr0 t (List.mem_of_mem_drop (List.mem_of_getElem? ez))
     have tk2 : (r.drop 1).take (j + 1) = (r.drop 1).take j ++ [t] := by rw [List.take_add_one, ez]; rfl
     have hj := (List.getElem?_eq_some_iff.mp ez).1
     walk_at "ra"
     rw [h0]
     walk_at "ra"
     refine ⟨by omega, by rw [List.length_append, List.length_map, List.length_map, List.length_take]; omega, ?_⟩
     rw [tk2, List.map_append, List.map_append, List.append_assoc]
     refine ⟨⟨_, rfl⟩, ?_⟩
     show _ = _ ++ (_ ++ [AV.d (.tup [_, .int ((r.getD 0 0).toNat : Int), .int (t.toNat : Int)])])
     rw [Int.toNat_of_nonneg hg0, Int.toNat_of_nonneg ht]
   ·rintro acc ρ M' ⟨rfl, ⟨v, rfl⟩, rfl⟩
    refine ⟨trivial, rfl, ⟨_, _, rfl⟩, ?_⟩
    rw [List.length_map, List.take_length, tk, List.map_append, List.flatten_append, List.map_append, List.map_append, hpre, show ([r].map fun r => zM (r.map Int.toNat)).flatten = zM (r.map Int.toNat) by simp, hst, List.map_map (g := AV.d)]
    rfl
 ·rintro acc ρ M' ⟨rfl, _, rfl⟩
  rw [List.length_map, List.length_map, List.take_length]
  exact ⟨rfl, _, qg _, _, _, Qm Fr.refl _, q⟩
theorem QO {n : Nat} {os : List Int} (h : zl n os) {r : List Int} : ∀ {i : Nat}, i <= n -> r ∈ zy os i -> ∃ k : Nat, k < i /\ r = zL os (k : Int) /\ 1 < per os (k : Int) /\ xY os k
 | 0, _, hr => by simp [zy] at hr
 | i + 1, hi, hr => by
  unfold zy at hr
  rcases List.mem_append.mp hr with z | z
  ·obtain ⟨k, h1, h2⟩ := QO h (by omega) z
   exact ⟨k, by omega, h2⟩
  ·by_cases c : xY os i /\ 1 < per os (i : Int)
   ·rw [if_pos c] at z
    exact ⟨i, by omega, List.mem_singleton.mp z, c.2, c.1⟩
   ·rw [if_neg c] at z; cases z
theorem Vj {n : Nat} {os : List Int} (h : zl n os) {r : List Int} (hr : r ∈ zy os n) : r.Nodup := by
 obtain ⟨k, h1, rfl, h3, h4⟩ := QO h (Nat.le_refl n) hr
 obtain ⟨m, hm, _⟩ := xc h (p := (k : Int)) (by omega) (by omega)
 unfold zL
 rw [hm.per]
 exact xm h (by omega) (by omega) hm
theorem Dg {n : Nat} {os : List Int} (h : zl n os) {s : Nat × Nat} (hs : s ∈ qo os n) : s.1 < n /\ s.2 < n /\ s.1 ≠ s.2 := by
 unfold qo at hs
 obtain ⟨l, hl, hs⟩ := List.mem_flatten.mp hs
 obtain ⟨r, hr, rfl⟩ := List.mem_map.mp hl
 have hb := vS h (Nat.le_refl n) hr
 have nd := Vj h hr
 have hlen := qW h (Nat.le_refl n) hr
 unfold zM at hs
 obtain ⟨p, hp, rfl⟩ := List.mem_map.mp hs
 cases r with
 | nil => simp at hlen
 | cons a l =>
  have hp : p ∈ l.map Int.toNat := by simpa using hp
  obtain ⟨x, hx, rfl⟩ := List.mem_map.mp hp
  have ha := hb a (by simp)
  have hx' := hb x (by simp [hx])
  refine ⟨?_, by omega, ?_⟩
  ·show ((a :: l).map Int.toNat).getD 0 0 < n
   show a.toNat < n
   omega
  ·show ((a :: l).map Int.toNat).getD 0 0 ≠ x.toNat
   show a.toNat ≠ x.toNat
   have : a ≠ x := fun z => (List.nodup_cons.mp nd).1 (by rw [z]; exact hx)
   omega
theorem kR.dosE {l : List De} {s t : ES} {m m' : List Int} (h : kR l s t m m') : ko l s t := by
 induction h with
 | nil => exact .nil
 | cons d _ ih => exact .cons d ih
noncomputable abbrev rlb (f : Int -> Int) (s : ES) : ES := (s.1.map (Option.map f), s.2.map f)
theorem DoE.rlb (f : Int -> Int) {d : De} {s t : ES} (h : DoE d s t) : DoE d (rlb f s) (rlb f t) := by
 have g : ∀ {row : List (Option Int)} {p : Nat} {v : Option Int}, row[p]? = some v -> (row.map (Option.map f))[p]? = some (v.map f) := fun e => by rw [List.getElem?_map, e]; rfl
 cases h with
 | swap ne h1 h2 => unfold Ot.rlb; rw [List.map_set, List.map_set]; exact .swap ne (g h1) (g h2)
 | take h1 => unfold Ot.rlb; rw [List.map_set]; exact .take (g h1)
 | move h1 h2 => unfold Ot.rlb; rw [List.map_set, List.map_set]; exact .move (g h1) (g h2)
 | lay h1 => unfold Ot.rlb; rw [List.map_set]; exact .lay (g h1)
theorem ko.rlb (f : Int -> Int) {l : List De} {s t : ES} (h : ko l s t) : ko l (rlb f s) (rlb f t) := by
 induction h with
 | nil => exact .nil
 | cons d _ ih => exact .cons (d.rlb f) ih
theorem vb (f : Int -> Int) (T : List Int) : rlb f (T.map some, none) = ((T.map f).map some, none) := by
 unfold rlb
 simp only [List.map_map]
 rfl
theorem Dq (n : Nat) (f : Int -> Int) {T : List Int} (hT : T.length = n) (h : ∀ i : Nat, i < n -> f (i : Int) = T.getD i 0) : (zG 0 1 n).map f = T := by
 refine j5 (by rw [List.length_map, zi, hT]) fun x hx => ?_
 rw [List.length_map, zi] at hx
 rw [List.getD_eq_getElem?_getD, List.getElem?_map]
 have e : (zG 0 1 n)[x]? = some (x : Int) := by
  have h1 := zU n hx
  rw [List.getD_eq_getElem?_getD, List.getElem?_eq_getElem (by rw [zi]; exact hx)] at h1
  rw [List.getElem?_eq_getElem (by rw [zi]; exact hx)]
  exact congrArg some h1
 rw [e]
 exact h x hx
theorem aft_getD {n : Nat} {a b : List Int} (h : zl n a) {t : Nat} (ht : t < n) : (aft a b).getD t 0 = b.getD (a.getD t 0).toNat 0 := by
 unfold aft
 rw [List.getD_eq_getElem?_getD, List.getElem?_map, List.getElem?_eq_getElem (by rw [h.1]; exact ht), List.getD_eq_getElem?_getD (l := a) (i := t), List.getElem?_eq_getElem (by rw [h.1]; exact ht)]; rfl
theorem QR {T : List Int} (f : Int -> Int) {x : Nat} (h : x < T.length) : (T.map f).getD x 0 = f (T.getD x 0) := by
 rw [List.getD_eq_getElem?_getD, List.getElem?_map, List.getElem?_eq_getElem h, List.getD_eq_getElem?_getD, List.getElem?_eq_getElem h]; rfl
noncomputable def qx (n : Nat) (ds : List De) (os : List Int) : Prop := ∃ T : List Int, T.length = n /\ ko ds (jy n) (T.map some, none) /\ ∀ t : Nat, t < n -> T.getD (os.getD t 0).toNat 0 = (t : Int)
theorem qx.append {n : Nat} {a b : List De} {o1 o2 : List Int} (h1 : qx n a o1) (h2 : qx n b o2) (i1 : zl n o1) (i2 : zl n o2) : qx n (a ++ b) (aft o1 o2) := by
 obtain ⟨T1, l1, d1, g1⟩ := h1
 obtain ⟨T2, l2, d2, g2⟩ := h2
 have e := d2.rlb fun x => T1.getD x.toNat 0
 rw [show jy n = ((zG 0 1 n).map some, none) from rfl, vb, vb, Dq n _ l1 fun i hi => by rw [Int.toNat_natCast]] at e
 refine ⟨_, by rw [List.length_map]; exact l2, d1.append e, fun t ht => ?_⟩
 obtain ⟨a0, a1⟩ := i1.getD ht
 obtain ⟨b0, b1⟩ := i2.getD (i := (o1.getD t 0).toNat) (by omega)
 rw [aft_getD i1 ht, QR _ (by omega), g2 _ (by omega), Int.toNat_natCast]
 exact g1 t ht
theorem qx.rings {n : Nat} {os : List Int} (h : zl n os) : qx n ((jk os n).map xJ) os :=
 ⟨_, by rw [qC, zi], (Bu (QV h (List.replicate n 0) n (Nat.le_refl n))).dosE, fun t ht => Qt h ht⟩
theorem qx.swaps {n : Nat} {os : List Int} (h : zl n os) : qx n ((qo os n).map swD) os :=
 ⟨_, by rw [qC, zi], JJ (qo os n) (zG 0 1 n) (fun s hs => by rw [zi]; exact Dg h hs), fun t ht => Qt h ht⟩
noncomputable def De.sh (k : Nat) : De -> De
 | .swap a b => .swap (a + k) (b + k)
 | .take p => .take (p + k)
 | .move p g => .move (p + k) (g + k)
 | .lay g => .lay (g + k)
theorem DoE.ctx {k : Nat} {A B : List (Option Int)} (hA : A.length = k) {d : De} {s t : ES} (h : DoE d s t) : DoE (d.sh k) (A ++ s.1 ++ B, s.2) (A ++ t.1 ++ B, t.2) := by
 have g : ∀ {row : List (Option Int)} {p : Nat} {v : Option Int}, row[p]? = some v -> (A ++ row ++ B)[p + k]? = some v := fun {row p v} e => by
  have := (List.getElem?_eq_some_iff.mp e).1
  rw [List.append_assoc, List.getElem?_append_right (by omega), List.getElem?_append_left (by omega), show p + k - A.length = p by omega]; exact e
 have st : ∀ {row : List (Option Int)} {p : Nat} (v : Option Int), p < row.length -> A ++ row.set p v ++ B = (A ++ row ++ B).set (p + k) v := fun {row p} v e => by
  rw [List.append_assoc A row B, List.set_append_right _ _ (by omega), show p + k - A.length = p by omega, List.set_append_left _ _ e, List.append_assoc]
 have lt : ∀ {row : List (Option Int)} {p : Nat} {v : Option Int}, row[p]? = some v -> p < row.length := fun e => (List.getElem?_eq_some_iff.mp e).1
 cases h with
 | swap ne h1 h2 => dsimp only; rw [st _ (by rw [List.length_set]; exact lt h2), st _ (lt h1)]; exact .swap (by omega) (g h1) (g h2)
 | take h1 => dsimp only; rw [st _ (lt h1)]; exact .take (g h1)
 | move h1 h2 => dsimp only; rw [st _ (by rw [List.length_set]; exact lt h2), st _ (lt h1)]; exact .move (g h1) (g h2)
 | lay h1 => dsimp only; rw [st _ (lt h1)]; exact .lay (g h1)
theorem ko.ctx {k : Nat} {A B : List (Option Int)} (hA : A.length = k) {l : List De} {s t : ES} (h : ko l s t) : ko (l.map (De.sh k)) (A ++ s.1 ++ B, s.2) (A ++ t.1 ++ B, t.2) := by
 induction h with
 | nil => exact .nil
 | cons d _ ih => exact .cons (d.ctx hA) ih
theorem wL (k n m : Nat) : zG 0 1 (k + n + m) = zG 0 1 k ++ (zG 0 1 n).map (· + (k : Int)) ++ zG ((k : Int) + n) 1 m := by
 unfold zG
 rw [List.range_add, List.range_add, List.map_append, List.map_append, List.map_map, List.map_map, List.map_map]
 congr 1
 ·congr 1
  refine List.map_congr_left fun i _ => ?_
  show (0 : Int) + ((k + i : Nat) : Int) * 1 = 0 + (i : Int) * 1 + k
  omega
 ·refine List.map_congr_left fun i _ => ?_
  show (0 : Int) + ((k + n + i : Nat) : Int) * 1 = (k : Int) + n + (i : Int) * 1
  omega
noncomputable def qP (k n m : Nat) (os : List Int) : List Int := zG 0 1 k ++ os.map (fun x => (k : Int) + x) ++ zG ((k : Int) + n) 1 m
theorem qR {k n m : Nat} {os : List Int} (ho : os.length = n) (f : Int -> Int) (hf : f = fun x => (k : Int) + x) (j : Nat) (hj : j < k + n + m) :
  (qP k n m os).getD j 0 = if j < k then (j : Int) else if j < k + n then (k : Int) + os.getD (j - k) 0 else (j : Int) := by
 unfold qP
 by_cases c1 : j < k
 ·rw [if_pos c1, List.getD_eq_getElem?_getD, List.getElem?_append_left (by rw [List.length_append, zi]; omega), List.getElem?_append_left (by rw [zi]; exact c1), <- List.getD_eq_getElem?_getD, zU k c1]
 ·rw [if_neg c1]
  by_cases c2 : j < k + n
  ·rw [if_pos c2, List.getD_eq_getElem?_getD, List.getElem?_append_left (by rw [List.length_append, zi, List.length_map]; omega), List.getElem?_append_right (by rw [zi]; omega), zi, <- List.getD_eq_getElem?_getD, QR _ (by omega)]
  ·rw [if_neg c2, List.getD_eq_getElem?_getD, List.getElem?_append_right (by rw [List.length_append, zi, List.length_map]; omega), List.length_append, zi, List.length_map, ho]
   unfold zG
   rw [List.getElem?_map, List.getElem?_range (by omega)]
   show (k : Int) + n + ((j - (k + n) : Nat) : Int) * 1 = j
   omega
theorem we {k n m : Nat} {os : List Int} (h : zl n os) : zl (k + n + m) (qP k n m os) := by
 have gt := fun j hj => qR (k := k) (n := n) (m := m) h.1 _ rfl j hj
 have hl : (qP k n m os).length = k + n + m := by unfold qP; rw [List.length_append, List.length_append, zi, zi, List.length_map, h.1]
 refine ⟨hl, ?_, fun x hx => ?_⟩
 ·rw [List.nodup_iff_pairwise_ne, List.pairwise_iff_getElem]
  intro i j hi hj hij e
  have g1 := gt i (by omega)
  have g2 := gt j (by omega)
  rw [List.getD_eq_getElem?_getD, List.getElem?_eq_getElem hi] at g1
  rw [List.getD_eq_getElem?_getD, List.getElem?_eq_getElem hj] at g2
  have g1 : (qP k n m os)[i] = _ := g1
  have g2 : (qP k n m os)[j] = _ := g2
  rw [e, g2] at g1
  by_cases a1 : i < k <;> by_cases a2 : i < k + n <;> by_cases b1 : j < k <;> by_cases b2 : j < k + n <;> simp only [a1, a2, b1, b2, if_true, if_false] at g1 <;> try omega
  ·have x1 := h.getD (i := j - k) (by omega); omega
  ·have x1 := h.inj (i := j - k) (j := i - k) (by omega) (by omega) (by omega); omega
  ·have x1 := h.getD (i := i - k) (by omega); omega
 ·obtain ⟨i, hi, e⟩ := List.mem_iff_getElem.mp hx
  have g1 := gt i (by omega)
  rw [List.getD_eq_getElem?_getD, List.getElem?_eq_getElem hi] at g1
  have g1 : (qP k n m os)[i] = _ := g1
  rw [e] at g1
  by_cases a1 : i < k
  ·rw [if_pos a1] at g1; omega
  ·by_cases a2 : i < k + n
   ·rw [if_neg a1, if_pos a2] at g1
    have x1 := h.getD (i := i - k) (by omega); omega
   ·rw [if_neg a1, if_neg a2] at g1; omega
theorem qx.shift {n : Nat} {a : List De} {os : List Int} (h : qx n a os) (i : zl n os) (k m : Nat) : qx (k + n + m) (a.map (De.sh k)) (qP k n m os) := by
  obtain ⟨T, l, d, g⟩ := h
  have e := (d.rlb (· + (k : Int))).ctx (k := k) (A := (zG 0 1 k).map some) (B := (zG ((k : Int) + n) 1 m).map some) (by rw [List.length_map, zi])
  rw [show jy n = ((zG 0 1 n).map some, none) from rfl, vb, vb] at e
  dsimp only at e
  rw [<- List.map_append, <- List.map_append, <- List.map_append, <- List.map_append, <- wL] at e
  refine ⟨_, ?_, e, fun t ht => ?_⟩
  · rw [List.length_append, List.length_append, zi, zi, List.length_map, l]
  · have wt : ∀ j, j < k + n + m -> (zG 0 1 k ++ T.map (· + (k : Int)) ++ zG ((k : Int) + n) 1 m).getD j 0 = if j < k then (j : Int) else if j < k + n then (k : Int) + T.getD (j - k) 0 else (j : Int) := fun j hj => by
      rw [show T.map (· + (k : Int)) = T.map (fun x => (k : Int) + x) from List.map_congr_left fun x _ => Int.add_comm _ _]
      exact qR l _ rfl j hj
    have ot := qR (k := k) (n := n) (m := m) i.1 _ rfl t ht
    obtain ⟨o0, o1⟩ := (we (k := k) (m := m) i).getD ht
    rw [wt _ (by omega), ot]
    by_cases c1 : t < k
    · rw [if_pos c1, Int.toNat_natCast, if_pos c1]
    · rw [if_neg c1]
      by_cases c2 : t < k + n
      · rw [if_pos c2]
        obtain ⟨a0, a1⟩ := i.getD (i := t - k) (by omega)
        rw [if_neg (by omega), if_pos (by omega), show ((k : Int) + os.getD (t - k) 0).toNat - k = (os.getD (t - k) 0).toNat by omega, g (t - k) (by omega)]
        omega
      · rw [if_neg c2, Int.toNat_natCast, if_neg c1, if_neg c2]
noncomputable abbrev yC : Stmt := top 8
theorem vM : zo ["thing", "seen", "place"] ["thing"] (zf yC) := ⟨rfl, rfl, rfl, by decide +kernel, rfl, by decide +kernel, by decide +kernel⟩
noncomputable abbrev vp : Stmt := top 7
theorem yO : zo ["thing", "n"] ["thing", "n"] (zf vp) := ⟨rfl, rfl, rfl, by decide +kernel, rfl, by decide +kernel, by decide +kernel⟩
noncomputable def vd (d : Dat) (n : Int) : Bool := match d with
 | .int i => decide (0 <= i /\ i < n)
 | _ => false
noncomputable def v6 : ASp := fun xs M Q => ∃ (d : Dat) (n : Int), xs = [.d d, .d (.int n)] /\ dp d <= 100 /\ Q (.d (.bl (vd d n))) M
theorem Qk (a : At K mg "is_place" vp) (B : Blt mg) : Df P w K mg base "is_place" ["thing", "n"] 1 (cSp v6) := by
 refine dfA (k := 0) a yO (fun _ _ _ _ _ _ us hl => match us, hl with | [_, _], _ => rfl) (fun xs M Q h => ?_) (fun f cdv A outer s H E hr => ?_)
 ·obtain ⟨_, _, rfl, _⟩ := h; rfl
 have sc := yO
 have hsl := hsl
 refine ⟨_, (zc (zP (PW.pt (yQ (qd (zr ja rfl B.isinstance zQ (za (pv 0) (za (qH (v := .ty "bool") rfl B.bool KH rfl) zb))) (fun _ => rfl)) (kT (qL (qd (zr ja rfl B.isinstance zQ (za (pv 0) (za (qH (v := .ty "int") rfl B.int Jz rfl) zb))) (fun _ => rfl)))))) (zd (zq qE)) zx)
  (zd (zq (Z6 DU Vi ze (pv 0) (pv 1))))), ?_⟩
 refine ex2 (by walk_at "sim") ?_
 rintro xs M Q ⟨d, n, rfl, hd, q⟩
 rw [show zS ["thing", "n"] [.d d, .d (.int n)] = [some (.d d), some (.d (.int n))] from rfl]
 have fin := fun b => Qm (M0 := M) Fr.refl (.bl b)
 cases d with
 | non => walk_at "ra"; exact ⟨_, _, fin _, q⟩
 | bl b => walk_at "ra"; exact ⟨_, _, fin _, q⟩
 | str b => walk_at "ra"; exact ⟨_, _, fin _, q⟩
 | lst b => walk_at "ra"; exact ⟨_, _, fin _, q⟩
 | tup b => walk_at "ra"; exact ⟨_, _, fin _, q⟩
 | int i =>
  walk_at "ra"
  have q : Q (.d (.bl (decide (0 <= i /\ i < n)))) M := q
  by_cases c : 0 <= i
  ·rw [if_pos c]
   rw [show decide (0 <= i /\ i < n) = decide (i < n) by simp [c]] at q
   walk_at "ra"
   exact ⟨_, _, fin _, q⟩
  ·rw [if_neg c]
   rw [show decide (0 <= i /\ i < n) = false by simp [c]] at q
   walk_at "ra"
   exact ⟨_, _, fin _, q⟩
 | ty _ => rw [dp] at hd; omega
 | rng _ _ _ => rw [dp] at hd; omega
 | scr _ _ => rw [dp] at hd; omega
noncomputable def jv (l : List Dat) : Prop := ∃ os : List Int, l = os.map .int /\ zl l.length os
open Classical in
noncomputable def wH : Dat -> Bool
 | .lst l => decide (jv l)
 | .tup l => decide (jv l)
 | _ => false
open Classical in
theorem Xv (l : List Dat) : wH (.lst l) = if jv l then true else false := by
 unfold wH
 by_cases h : jv l <;> simp [h]
open Classical in
theorem Xn (l : List Dat) : wH (.tup l) = if jv l then true else false := by
 unfold wH
 by_cases h : jv l <;> simp [h]
theorem jzQ {n : Nat} {os : List Int} (h : zl n os) : jv (os.map .int) := ⟨os, rfl, by rw [List.length_map, h.1]; exact h⟩
theorem QH {d : Dat} {n : Int} (h : vd d n = true) : ∃ k : Int, d = .int k /\ 0 <= k /\ k < n := by
 cases d with
 | int k => exact ⟨k, rfl, of_decide_eq_true h⟩
 | _ => cases h
theorem BX {l : List Dat} (h : jv l) {i : Nat} {d : Dat} (hi : l[i]? = some d) : vd d (l.length : Nat) = true := by
 obtain ⟨os, rfl, ho⟩ := h
 rw [List.getElem?_map] at hi
 cases e : os[i]? with
 | none => rw [e] at hi; cases hi
 | some k =>
  rw [e] at hi; cases hi
  exact decide_eq_true (ho.2.2 k (List.mem_of_getElem? e))
theorem BD {l : List Dat} (h : jv l) {os : List Int} {i : Nat} {k : Int} (ht : l.take i = os.map .int) (hi : l[i]? = some (.int k)) : k ∉ os := by
 obtain ⟨qs, rfl, ho⟩ := h
 intro hk
 rw [List.getElem?_map] at hi
 cases e : qs[i]? with
 | none => rw [e] at hi; cases hi
 | some k' =>
  rw [e] at hi; cases hi
  have ht : qs.take i = os := by
   rw [<- List.map_take] at ht
   exact (List.map_inj_right (fun _ _ z => Dat.int.inj z)).mp ht
  rw [<- ht] at hk
  obtain ⟨j, hj, ej⟩ := List.mem_take_iff_getElem.mp hk
  obtain ⟨hi', ei⟩ := List.getElem?_eq_some_iff.mp e
  have := (List.getElem_inj (h₀ := by omega) (h₁ := hi') ho.2.1).mp (ej.trans ei.symm)
  omega
noncomputable def QA : ASp := fun xs M Q => ∃ (x : AV) (d : Dat), xs = [x] /\ yV x M = some d /\ ku 100 d /\ Q (.d (.bl (wH d))) M
theorem wf {x : AV} {l : List Dat} {M : MH} {p : Addr} {D : yN} {G : MH -> Prop} (hG : ∀ o, G (mup M p o)) (hp : M p = none) (hl : l.length <= 100000) (hd : ∀ d ∈ l, dp d <= 100) (hx : qu x M = some (l.map .d)) (hrt : ∀ M', Fr M M' -> ¬ jv l -> D.rt (.d (.bl false)) M') (hnx : ∀ u M', Fr M M' -> jv l -> D.nx [some x, some (.ref p), u] M') {B : MH} :
  DJ (Jn 2) (wv (EL (aOr (Ez (aB (Vq v6 (QJ (Qq 2) (QJ (aCB E7 (QJ (Qq 0) A9)) A9))))) (aB (aOp (aIx qu) (Qq 1) (Qq 2)))) (El (aC (Dat.bl false))) JU) (E5 (aC (Dat.bl true)) (Vf (Qq 1) (Qq 2) asL)))
   B D G (l.map .d) [some x, some (.ref p), none] (mup M p (.lst ((List.replicate l.length false).map fun b => .d (.bl b)))) := by
 refine ⟨fun i ρ M' => ∃ (u : Option AV) (bs : List Bool) (os : List Int), ρ = [some x, some (.ref p), u] /\ M' = mup M p (.lst (bs.map fun b => .d (.bl b))) /\ bs.length = l.length /\ l.take i = os.map .int /\ os.Nodup /\ (∀ k ∈ os, 0 <= k /\ k < (l.length : Int)) /\ ∀ k : Nat, k < l.length -> (bs.getD k false = true ↔ (k : Int) ∈ os), ?_, ?_, ?_⟩
 ·refine ⟨none, _, [], rfl, rfl, List.length_replicate, rfl, List.nodup_nil, (fun k hk => nomatch hk), fun k hk => ?_⟩
  rw [List.getD_eq_getElem?_getD, List.getElem?_replicate, if_pos hk]
  simp
 ·rintro i y ρ M' hy ⟨u, bs, os, rfl, rfl, lb, ht, nd, hb, hm⟩
  rw [List.getElem?_map] at hy
  cases e : l[i]? with
  | none => rw [e] at hy; cases hy
  | some d =>
   rw [e] at hy
   cases hy
   refine ⟨hG _, ?_⟩
   walk_at "ra"
   rw [wo hx hp]
   walk_at "ra"
   refine ⟨d, _, rfl, hd d (List.mem_of_getElem? e), _, rfl, ?_⟩
   cases c : vd d (l.length : Nat) with
   | false =>
    walk_at "ra"
    exact hrt _ (Fr.refl.mup hp _) fun z => by rw [BX z e] at c; cases c
   | true =>
    obtain ⟨k, rfl, k0, k1⟩ := QH c
    walk_at "ra"
    rw [vz zt]
    have hk := hm k.toNat (by omega)
    rw [Int.toNat_of_nonneg k0] at hk
    have hat : atI (bs.map fun b => AV.d (.bl b)) k = some (.d (.bl (bs.getD k.toNat false))) := by rw [y9, JB k0 (by omega) false]; rfl
    walk_at "ra"
    rw [hat]
    walk_at "ra"
    cases c2 : bs.getD k.toNat false with
    | true =>
     walk_at "ra"
     exact hrt _ (Fr.refl.mup hp _) fun z => BD z ht e (hk.mp c2)
    | false =>
     walk_at "ra"
     have hno : k ∉ os := fun z => by rw [hk.mpr z] at c2; cases c2
     refine ⟨_, zt, k.toNat, by rw [List.length_map, vW k0 (by omega)], bs.set k.toNat true, ?_, by rw [List.length_set]; exact lb, os ++ [k], ?_, ?_, ?_, ?_⟩
     ·rw [List.map_set]
     ·rw [List.take_add_one, e, ht, List.map_append]; rfl
     ·rw [List.nodup_append]
      exact ⟨nd, by simp, fun a ha b hb' => by rw [List.mem_singleton.mp hb']; exact fun z => hno (z ▸ ha)⟩
     ·intro j hj
      rcases List.mem_append.mp hj with z | z
      ·exact hb j z
      ·rw [List.mem_singleton.mp z]; exact ⟨k0, k1⟩
     ·intro j hj
      rw [wR (by omega), List.mem_append, List.mem_singleton]
      by_cases cj : j = k.toNat
      ·rw [if_pos cj]
       exact ⟨fun _ => .inr (by omega), fun _ => rfl⟩
      ·rw [if_neg cj, hm j hj]
       exact ⟨.inl, fun z => z.resolve_right (by omega)⟩
 ·rintro ρ M' ⟨u, bs, os, rfl, rfl, lb, ht, nd, hb, hm⟩
  rw [List.length_map, List.take_length] at ht
  refine ⟨hG _, hnx u _ (Fr.refl.mup hp _) ⟨os, ht, ?_, nd, hb⟩⟩
  rw [ht, List.length_map]
theorem Q6 (a : At K mg "is_order" yC) (B : Blt mg) (D_is_place : Df P w K mg base "is_place" ["thing", "n"] 1 (cSp v6)) : Df P w K mg base "is_order" ["thing"] 2 (cSp QA) := by
 refine dfA (k := 1) a vM (fun _ _ _ _ _ _ us hl => match us, hl with | [_], _ => rfl) (fun xs M Q h => ?_) (fun f cdv A outer s H E hr => ?_)
 ·obtain ⟨_, _, rfl, _⟩ := h; rfl
 have sc := vM
 have hsl := hsl
 have hs2 : 0 + 1 + 1 <= sizeLine := by omega
 refine ⟨_, (zc (zP (qL (qd (zr wJ rfl B.isinstance zQ (za (pv 0) (za (ji (za (qH (v := .ty "list") rfl B.list j7 rfl) (za (qH (v := .ty "tuple") rfl B.tuple jC rfl) zb))) zb))) (fun _ => rfl))) (zd (zq qE)) zx)
  (zc (zu (i := 1) sc.nd rfl (by first | exact Or.inl rfl | exact Or.inr rfl) (ym (zk j9 (qj (za qE zb)) (zr zw rfl B.len qm (za (pv 0) zb)))))
  (zc (jf PassesOwn.never rfl (xP (pv 0)) (zA (i := 2) sc.nd rfl (by first | exact Or.inl rfl | exact Or.inr rfl)) (zc (zP (PW.pt (yQ (qL (qd (zn D_is_place hr rfl (za (pv 2) (za (zr zw rfl B.len qm (za (pv 0) zb)) zb))) (fun _ => rfl))) (kT (qd (zO jD (pv 1) (pv 2) (fun _ _ => rfl)) (fun _ => rfl))))) (zd (zq qE)) zx)
  (zd (qG qE (qM (pv 1) (pv 2) zK)))))
  (zd (zq qE))))), ?_⟩
 refine ex2 (by walk_at "sim") ?_
 rintro xs M Q ⟨x, d, rfl, hx, hd, q⟩
 rw [show zS ["thing", "seen", "place"] [x] = [some x, none, none] from rfl]
 have fin := fun b M' (f : Fr M M') => Qm f (.bl b)
 cases d with
 | non => obtain rfl := jr hx (fun _ z => nomatch z); walk_at "ra"; exact ⟨hs2, _, _, fin _ _ Fr.refl, q⟩
 | bl b => obtain rfl := jr hx (fun _ z => nomatch z); walk_at "ra"; exact ⟨hs2, _, _, fin _ _ Fr.refl, q⟩
 | int b => obtain rfl := jr hx (fun _ z => nomatch z); walk_at "ra"; exact ⟨hs2, _, _, fin _ _ Fr.refl, q⟩
 | str b => obtain rfl := jr hx (fun _ z => nomatch z); walk_at "ra"; exact ⟨hs2, _, _, fin _ _ Fr.refl, q⟩
 | lst l =>
  obtain ⟨_, hs, t1, _⟩ := Z9 hx
  have t2 := Va
  obtain ⟨hl, hdl⟩ := hd.lst
  have hdl : ∀ d ∈ l, dp d <= 100 := fun d h => Nat.le_trans (hdl d h).1 (by omega)
  have he := Xv l
  walk_at "ra"
  rw [t1]
  walk_at "ra"
  rw [hs]
  walk_at "ra"
  refine ⟨by omega, by omega, by omega, by omega, by omega, fun p hp _ => ⟨_, wo hs hp _, ?_⟩⟩
  rw [Int.toNat_natCast, ZN, show List.replicate l.length (AV.d (Dat.bl false)) = (List.replicate l.length false).map fun b => AV.d (.bl b) by rw [List.map_replicate]]
  refine wf (fun o => wo hs hp o) hp hl hdl hs (fun M' f hn => ?_) fun u M' f hn => ?_
  ·rw [he, if_neg hn] at q
   exact ⟨_, _, fin _ _ f, q⟩
  ·rw [he, if_pos hn] at q
   walk_at "ra"
   exact ⟨_, _, fin _ _ f, q⟩
 | tup l =>
  obtain rfl := jr hx (fun _ z => nomatch z)
  have hs : qu (.d (.tup l)) M = some (l.map .d) := rfl
  have t1 : tyA (.d (.tup l)) M = some "tuple" := rfl
  have t2 := V8
  obtain ⟨hl, hdl⟩ := hd.tup
  have hdl : ∀ d ∈ l, dp d <= 100 := fun d h => Nat.le_trans (hdl d h).1 (by omega)
  have he := Xn l
  walk_at "ra"
  refine ⟨by omega, by omega, by omega, by omega, by omega, fun p hp _ => ?_⟩
  rw [Int.toNat_natCast, ZN, show List.replicate l.length (AV.d (Dat.bl false)) = (List.replicate l.length false).map fun b => AV.d (.bl b) by rw [List.map_replicate]]
  refine wf (fun o => trivial) hp hl hdl hs (fun M' f hn => ?_) fun u M' f hn => ?_
  ·rw [he, if_neg hn] at q
   exact ⟨_, _, fin _ _ f, q⟩
  ·rw [he, if_pos hn] at q
   walk_at "ra"
   exact ⟨_, _, fin _ _ f, q⟩
 | ty t => have := hd.1; rw [dp] at this; omega
 | rng _ _ _ => have := hd.1; rw [dp] at this; omega
 | scr _ _ => have := hd.1; rw [dp] at this; omega
noncomputable abbrev vP : Stmt := top 38
theorem Zc : zo ["order", "plan", "told"] ["order", "plan"] (zf vP) := ⟨rfl, rfl, rfl, by decide +kernel, rfl, by decide +kernel, by decide +kernel⟩
noncomputable def ZH : ASp := fun xs M Q => ∃ (x y : AV) (n : Nat) (os R : List Int) (d : Dat) (ds : List De) (ms : List Int), xs = [x, y] /\ yV x M = some d /\ (d = .lst (os.map .int) \/ d = .tup (os.map .int)) /\ zl n os /\ n <= 1000 /\ qu y M = some ((ds.map deD).map .d) /\ kR ds (jy n) (R.map some, none) (List.replicate n 0) ms /\ ds.length <= 10000 /\ Q (.d (.bl (decide (qF R 0 (List.replicate R.length 0) = os)))) M
theorem X5 (a : At K mg "shows_plan" vP) (B : Blt mg) (D_is_order : Df P w K mg base "is_order" ["thing"] 7 (cSp QA)) (D_walked : Df P w K mg base "walked" ["n", "plan"] 7 (cSp KN)) : Df P w K mg base "shows_plan" ["order", "plan"] 8 (cSp ZH) := by
 refine dfA (k := 7) a Zc (fun _ _ _ _ _ _ us hl => match us, hl with | [_, _], _ => rfl) (fun xs M Q h => ?_) (fun f cdv A outer s H E hr => ?_)
 ·obtain ⟨_, _, _, _, _, _, _, _, rfl, _⟩ := h; rfl
 have sc := Zc
 have hsl := hsl
 refine ⟨_, (zc (zP (qL (qd (zn D_is_order hr rfl (za (pv 0) zb)) (fun _ => rfl))) (zd (zq qE)) zx)
  (zc (Xt (fun _ _ z => z) (zd (zu (i := 2) sc.nd rfl (by first | exact Or.inl rfl | exact Or.inr rfl) (zn D_walked hr rfl (za (zr zw rfl B.len qm (za (pv 0) zb)) (za (pv 1) zb))))))
  (zd (zq (V4 (jF (xi hr.units) (zO jD (pv 2) ze (fun _ _ => rfl)) ju (zH _)) (JF (jF (xi hr.units) (zO jD (pv 2) ze (fun _ _ => rfl)) (qt xS rfl B.list j7 (za (pv 0) zb)) (zH _)))))))), ?_⟩
 refine ex2 (by walk_at "sim") ?_
 rintro xs M Q ⟨x, y, n, os, R, d, ds, ms, rfl, hx, hd, ho, hn, hy, hdo, hl, q⟩
 rw [show zS ["order", "plan", "told"] [x, y] = [some x, some y, none] from rfl]
 have ol := ho.1
 have hf : ku 100 d := by
  rcases hd with rfl | rfl
  ·exact (X9 (by omega)).mono (by omega)
  ·exact (JW (by omega)).mono (by omega)
 have hord : wH d = true := by
  rcases hd with rfl | rfl
  ·rw [Xv, if_pos (jzQ ho)]
  ·rw [Xn, if_pos (jzQ ho)]
 have hs : qu x M = some (os.map fun i => .d (.int i)) := by
  rcases hd with rfl | rfl
  ·rw [(Z9 hx).2.1, jS]
  ·rw [jr hx (fun _ z => nomatch z)]; walk_at "ra"
 walk_at "ra"
 refine ⟨x, d, rfl, hx, hf, _, rfl, ?_⟩
 rw [hord, hs]
 walk_at "ra"
 rw [ol]
 refine ⟨n, y, ds, _, ms, rfl, hy, hdo, hn, hl, (fun h z => nomatch z), fun os' _ eo => ?_⟩
 have eo : R = os' := (List.map_inj_right (fun _ _ z => Option.some.inj z)).mp eo
 subst eo
 walk_at "ra"
 refine ⟨_, rfl, _, rfl, by rw [WN]; omega, ?_⟩
 rw [hs]
 walk_at "ra"
 have d1 : dp (ilD (qF R 0 (List.replicate R.length 0))) <= 1 := xQ _
 have d2 := xQ os
 refine ⟨_, rfl, _, rfl, by omega, by omega, ?_⟩
 rw [Y2]
 exact ⟨_, _, Qm Fr.refl _, q⟩
theorem F8 (n : Nat) : zG 0 1 n = (List.range n).map fun (i : Nat) => (i : Int) := by
 unfold zG
 exact List.map_congr_left fun i _ => by omega
theorem FA {τ : Type} (R : τ -> ASt) (f : Nat -> Int) {ag : AG} {ae : AE} {G : MH -> Prop} {N : List AV -> ASt -> MH -> Prop} {n : Nat} {ρ : ASt} {M : MH} (h0 : ∃ o, ρ = R o) (hG : G M) (hl : n <= 100000)
  (hs : ∀ (o : τ) (i : Nat) (Q : AV -> ASt -> MH -> Prop), i < n -> (∀ o', Q (.d (.int (f i))) (R o') M) -> ag (.d (.int (i : Int))) (R o) M fun ρ2 M2 => ae ρ2 M2 fun y M3 => Q y ρ2 M3) (hN : ∀ o, N (((List.range n).map f).map fun i => AV.d (.int i)) (R o) M) : JQ ag wK (yP ae) G N (Jh 0 1 n) [] ρ M := by
 refine KB R (fun i => .d (.int (f i))) h0 hG (by rw [qQ]; exact hl) (fun o i x Q hx q => ?_) fun o => ?_
 ·obtain ⟨hi, rfl⟩ := jB hx
  rw [Int.zero_add, Int.mul_one]
  exact hs o i Q hi q
 ·rw [qQ]
  have := hN o
  rw [List.map_map] at this
  exact this
theorem xQ (ns : List Int) : dp (ilD ns) <= 40 := by
 have : ∀ ns : List Int, dps (ns.map .int) <= 0 := fun ns => Zt fun d hd => by obtain ⟨i, _, rfl⟩ := List.mem_map.mp hd; simp [dp]
 rw [dp]; have := this ns; omega
noncomputable def zD (n : Nat) (k : Int) : List Int := (List.range n).map fun (i : Nat) => ((i : Int) + k) % (n : Int)
noncomputable def BG (one other : List Int) : List Int := one.map fun p => other.getD p.toNat 0
theorem zV (n : Nat) (k : Int) : (zD n k).length = n := by simp [zD]
theorem zW {n : Nat} {k : Int} {i : Nat} (h : i < n) : (zD n k).getD i 0 = ((i : Int) + k) % (n : Int) := by
 rw [qi (by rw [zV]; exact h)]; simp [zD]
theorem qe (n : Nat) (k : Int) : zl n (zD n k) := by
 refine jz (zV n k) (fun i hi => ?_) (fun i j hi hj e => ?_)
 ·rw [zW hi]
  exact ⟨Int.emod_nonneg _ (by omega), Int.emod_lt_of_pos _ (by omega)⟩
 ·rw [zW hi, zW hj] at e
  have d : (((i : Int) + k) - ((j : Int) + k)) % (n : Int) = 0 := by
   rw [Int.sub_emod, e, Int.sub_self, Int.zero_emod]
  rw [show ((i : Int) + k) - ((j : Int) + k) = (i : Int) - j by omega] at d
  obtain ⟨c, hc⟩ := Int.dvd_of_emod_eq_zero d
  have h1 : (i : Int) - j < n := by omega
  have h2 : -(n : Int) < (i : Int) - j := by omega
  have hn : (0 : Int) < n := by omega
  have c0 : c = 0 := by
   rcases Int.lt_trichotomy c 0 with z | z | z
   ·exfalso
    have : (n : Int) * c <= (n : Int) * (-1) := Int.mul_le_mul_of_nonneg_left (by omega) (by omega)
    omega
   ·exact z
   ·exfalso
    have : (n : Int) * 1 <= (n : Int) * c := Int.mul_le_mul_of_nonneg_left (by omega) (by omega)
    omega
  subst c0
  omega
noncomputable def wa : ASp := fun xs M Q => ∃ (n : Nat) (k : Int), xs = [.d (.int n), .d (.int k)] /\ n <= 2000 /\ Q (.d (ilD (zD n k))) M
noncomputable abbrev J9 : Stmt := top 23
theorem Xc : zo ["n", "k", "place"] ["n", "k"] (zf J9) := ⟨rfl, rfl, rfl, by decide +kernel, rfl, by decide +kernel, by decide +kernel⟩
theorem BC (a : At K mg "roll_order" J9) (B : Blt mg) : Df P w K mg base "roll_order" ["n", "k"] 1 (cSp wa) := by
 refine dfA (k := 0) a Xc (fun _ _ _ _ _ _ us hl => match us, hl with | [_, _], _ => rfl) (fun xs M Q h => ?_) (fun f cdv A outer s H E hr => ?_)
 ·obtain ⟨_, _, rfl, _⟩ := h; rfl
 have sc := Xc
 have hsl := hsl
 refine ⟨_, (zd (zq (jp (ts := [2]) rfl rfl (js rfl B.range (za (pv 0) zb)) (fun _ _ _ _ => (zA (i := 2) sc.nd rfl (by first | exact Or.inl rfl | exact Or.inr rfl))) (fun _ _ _ _ => qS) (fun _ _ _ _ => (zk qA (zk zY (pv 2) (pv 1)) (pv 0)))))), ?_⟩
 refine ex2 (by walk_at "sim") ?_
 rintro xs M Q ⟨n, k, rfl, hn, q⟩
 rw [show zS ["n", "k", "place"] [.d (.int n), .d (.int k)] = [some (.d (.int n)), some (.d (.int k)), none] from rfl]
 walk_at "ra"
 refine ⟨by omega, by omega, ?_⟩
 rw [Int.toNat_natCast]
 refine FA (fun o => [some (.d (.int n)), some (.d (.int k)), o]) (fun i => ((i : Int) + k) % (n : Int)) ⟨_, rfl⟩ trivial (by omega) (fun o i Q hi q => ?_) fun o => ⟨_, qr _, xy Fr.refl q⟩
 walk_at "ra"
 exact ⟨by omega, q _⟩
noncomputable def GR : ASp := fun xs M Q => ∃ (a b : Nat), xs = [.d (.int a), .d (.int b)] /\ a <= 100000 /\ b <= 100000 /\ Q (.d (.int (Nat.gcd a b : Nat))) M
noncomputable abbrev Wi : Stmt := top 18
theorem We : zo ["one", "other"] ["one", "other"] (zf Wi) := ⟨rfl, rfl, rfl, by decide +kernel, rfl, by decide +kernel, by decide +kernel⟩
theorem EO (a : At K mg "common_divisor" Wi) (B : Blt mg) : Df P w K mg base "common_divisor" ["one", "other"] 1 (cSp GR) := by
 refine dfA (k := 0) a We (fun _ _ _ _ _ _ us hl => match us, hl with | [_, _], _ => rfl) (fun xs M Q h => ?_) (fun f cdv A outer s H E hr => ?_)
 ·obtain ⟨_, _, rfl, _⟩ := h; rfl
 have sc := We
 have hsl := hsl
 refine ⟨_, (zc (vG PassesOwn.never (zC Q1 (pv 1) ze (zH _)) (zd (Kn (i := 0) (j := 1) rfl sc.nd rfl rfl (by decide) rfl rfl (za (pv 1) (za (zk qA (pv 0) (pv 1)) zb)) rfl)))
  (zd (zq (pv 0)))), ?_⟩
 refine ex2 (by walk_at "sim") ?_
 rintro xs M Q ⟨a, b, rfl, ha, hb, q⟩
 rw [show zS ["one", "other"] [.d (.int a), .d (.int b)] = [some (.d (.int a)), some (.d (.int b))] from rfl]
 refine zp fun r hr0 => ?_
 show wv _ _ _ _ _ _
 unfold wv
 refine ⟨fun m ρ M' => M = M' /\ ∃ u : Nat, ρ = [some (.d (.int u)), some (.d (.int m))] /\ u <= 100000 /\ m <= 100000 /\ Nat.gcd u m = Nat.gcd a b, ⟨b, rfl, a, rfl, ha, hb, rfl⟩, ?_⟩
 rintro m ρ M' ⟨rfl, u, rfl, hu, hm, e⟩
 walk_at "ra"
 by_cases c : (0 : Int) < m
 ·rw [if_pos c]
  walk_at "ra"
  have ml := Nat.mod_lt u (show 0 < m by omega)
  refine ⟨c, u % m, ml, m, rfl, by rw [Int.natCast_emod], by omega, by omega, ?_⟩
  rw [<- e, Nat.gcd_comm u m, Nat.gcd_rec m u, Nat.gcd_comm]
 ·rw [if_neg c]
  have m0 : m = 0 := by omega
  subst m0
  subst hr0
  walk_at "ra"
  rw [Nat.gcd_zero_right] at e
  rw [e]
  exact xy Fr.refl q
noncomputable def J2 : ASp := fun xs M Q => ∃ (n : Nat) (k : Int), xs = [.d (.int n), .d (.int k)] /\ n <= 100000 /\ Q (.d (.bl (decide (n = 0 \/ k % (n : Int) = 0)))) M
noncomputable abbrev Zy : Stmt := top 24
theorem Qc : zo ["n", "k"] ["n", "k"] (zf Zy) := ⟨rfl, rfl, rfl, by decide +kernel, rfl, by decide +kernel, by decide +kernel⟩
theorem VO (a : At K mg "stays" Zy) (B : Blt mg) : Df P w K mg base "stays" ["n", "k"] 1 (cSp J2) := by
 refine dfA (k := 0) a Qc (fun _ _ _ _ _ _ us hl => match us, hl with | [_, _], _ => rfl) (fun xs M Q h => ?_) (fun f cdv A outer s H E hr => ?_)
 ·obtain ⟨_, _, rfl, _⟩ := h; rfl
 have sc := Qc
 have hsl := hsl
 refine ⟨_, (zd (zq (Hj (jF (xi hr.units) (pv 0) ze (zH _)) (JF (jF (xi hr.units) (zk qA (pv 1) (pv 0)) ze (zH _)))))), ?_⟩
 refine ex2 (by walk_at "sim") ?_
 rintro xs M Q ⟨n, k, rfl, hn, q⟩
 rw [show zS ["n", "k"] [.d (.int n), .d (.int k)] = [some (.d (.int n)), some (.d (.int k))] from rfl]
 walk_at "ra"
 by_cases c : n = 0
 ·subst c
  rw [if_pos (by rfl)]
  exact xy Fr.refl (by rw [decide_eq_true (.inl rfl)] at q; exact q)
 ·rw [if_neg (by omega)]
  refine ⟨by omega, xy Fr.refl ?_⟩
  rw [show decide (k % (n : Int) = 0) = decide (n = 0 \/ k % (n : Int) = 0) from decide_eq_decide.mpr ⟨.inr, fun h => h.resolve_left c⟩]
  exact q
noncomputable def JG : ASp := fun xs M Q => ∃ (n : Nat) (k : Int), xs = [.d (.int n), .d (.int k)] /\ n <= 100000 /\ (n = 0 \/ k % (n : Int) = 0 -> Q (.d (.tup [.int 0, .int 0])) M) /\ (0 < n -> 0 < k % (n : Int) -> Q (.d (.tup [.int (Nat.gcd n (k % (n : Int)).toNat : Nat), .int (n / Nat.gcd n (k % (n : Int)).toNat : Nat)])) M)
noncomputable abbrev ZT : Stmt := top 25
theorem Q8 : zo ["n", "k", "many"] ["n", "k"] (zf ZT) := ⟨rfl, rfl, rfl, by decide +kernel, rfl, by decide +kernel, by decide +kernel⟩
theorem YU (a : At K mg "roll_rings" ZT) (B : Blt mg) (D_stays : Df P w K mg base "stays" ["n", "k"] 1 (cSp J2)) (D_common_divisor : Df P w K mg base "common_divisor" ["one", "other"] 1 (cSp GR)) : Df P w K mg base "roll_rings" ["n", "k"] 2 (cSp JG) := by
 refine dfA (k := 1) a Q8 (fun _ _ _ _ _ _ us hl => match us, hl with | [_, _], _ => rfl) (fun xs M Q h => ?_) (fun f cdv A outer s H E hr => ?_)
 ·obtain ⟨_, _, rfl, _⟩ := h; rfl
 have sc := Q8
 have hsl := hsl
 refine ⟨_, (zc (zP (qd (zn D_stays hr rfl (za (pv 0) (za (pv 1) zb))) (fun _ => rfl)) (zd (zq (ji (za ze (za ze zb))))) zx)
  (zc (zu (i := 2) sc.nd rfl (by first | exact Or.inl rfl | exact Or.inr rfl) (zn D_common_divisor hr rfl (za (pv 0) (za (zk qA (pv 1) (pv 0)) zb))))
  (zd (zq (ji (za (pv 2) (za (zk yd (pv 0) (pv 2)) zb))))))), ?_⟩
 refine ex2 (by walk_at "sim") ?_
 rintro xs M Q ⟨n, k, rfl, hn, q1, q2⟩
 rw [show zS ["n", "k", "many"] [.d (.int n), .d (.int k)] = [some (.d (.int n)), some (.d (.int k)), none] from rfl]
 refine zp fun r hr0 => ?_
 walk_at "ra"
 refine ⟨n, k, rfl, hn, _, rfl, ?_⟩
 by_cases c : n = 0 \/ k % (n : Int) = 0
 ·rw [if_pos (decide_eq_true c)]
  exact ⟨by omega, xy Fr.refl (q1 c)⟩
 ·rw [if_neg (by rw [decide_eq_false c]; decide)]
  subst hr0
  walk_at "ra"
  have n0 : 0 < n := Nat.pos_of_ne_zero fun z => c (.inl z)
  obtain ⟨m0, m1⟩ := qX k (j := (n : Int)) (by omega)
  have mp : 0 < k % (n : Int) := by
   rcases Int.lt_or_eq_of_le m0 with h | h
   ·exact h
   ·exact absurd (.inr h.symm) c
  have gp : 0 < Nat.gcd n (k % (n : Int)).toNat := Nat.gcd_pos_of_pos_left _ n0
  have gl : Nat.gcd n (k % (n : Int)).toNat <= n := Nat.gcd_le_left _ n0
  refine ⟨by omega, n, (k % (n : Int)).toNat, by rw [Int.toNat_of_nonneg m0], hn, by omega, _, rfl, ⟨by omega, by omega⟩, by omega, _, rfl, ?_⟩
  rw [<- Int.natCast_ediv]
  exact xy Fr.refl (q2 n0 mp)
noncomputable def Xo : ASp := fun xs M Q => ∃ (b e : Nat), xs = [.d (.int b), .d (.int e)] /\ b <= e /\ e <= 1000 /\ Q (.d (.lst ((tpS b e).map yU))) M
noncomputable abbrev vm : Stmt := top 26
theorem wG : zo ["begin", "end", "half", "at"] ["begin", "end"] (zf vm) := ⟨rfl, rfl, rfl, by decide +kernel, rfl, by decide +kernel, by decide +kernel⟩
theorem YA (a : At K mg "turn_plan" vm) (B : Blt mg) : Df P w K mg base "turn_plan" ["begin", "end"] 1 (cSp Xo) := by
 refine dfA (k := 0) a wG (fun _ _ _ _ _ _ us hl => match us, hl with | [_, _], _ => rfl) (fun xs M Q h => ?_) (fun f cdv A outer s H E hr => ?_)
 ·obtain ⟨_, _, rfl, _⟩ := h; rfl
 have sc := wG
 have hsl := hsl
 refine ⟨_, (zc (zu (i := 2) sc.nd rfl (by first | exact Or.inl rfl | exact Or.inr rfl) (zk yd (zk qB (pv 1) (pv 0)) ze))
  (zd (zq (jp (ts := [3]) rfl rfl (js rfl B.range (za (pv 2) zb)) (fun _ _ _ _ => (zA (i := 3) sc.nd rfl (by first | exact Or.inl rfl | exact Or.inr rfl))) (fun _ _ _ _ => qS) (fun _ _ _ _ => (ji (za ju (za (zk zY (pv 0) (pv 3)) (za (zk qB (zk qB (pv 1) ze) (pv 3)) zb))))))))), ?_⟩
 refine ex2 (by walk_at "sim") ?_
 rintro xs M Q ⟨b, e, rfl, hb, he, q⟩
 rw [show zS ["begin", "end", "half", "at"] [.d (.int b), .d (.int e)] = [some (.d (.int b)), some (.d (.int e)), none, none] from rfl]
 walk_at "ra"
 refine ⟨⟨by omega, by omega⟩, by omega, by omega, ?_⟩
 rw [show (((e : Int) - b) / 2).toNat = (e - b) / 2 by omega]
 refine KB (fun o => [some (.d (.int b)), some (.d (.int e)), some (.d (.int (((e : Int) - b) / 2))), o]) (fun j => .d (yU (b + j, e - 1 - j))) ⟨_, rfl⟩ trivial (by rw [qQ]; omega) (fun o j y Q hy q => ?_) fun o => ?_
 ·obtain ⟨hj, rfl⟩ := jB hy
  rw [Int.zero_add, Int.mul_one]
  walk_at "ra"
  refine ⟨by omega, ?_⟩
  have q := q (some (.d (.int j)))
  rw [show yU (b + j, e - 1 - j) = .tup [.str (Str.ofString "swap"), .int ((b : Int) + j), .int ((e : Int) - 1 - j)] by
   show Dat.tup [_, .int ((b + j : Nat) : Int), .int ((e - 1 - j : Nat) : Int)] = _
   rw [show ((b + j : Nat) : Int) = (b : Int) + j by omega, show ((e - 1 - j : Nat) : Int) = (e : Int) - 1 - j by omega]] at q
  exact q
 ·rw [qQ]
  refine ⟨(tpS b e).map yU, ?_, xy Fr.refl q⟩
  rw [vj (fun j : Nat => yU (b + j, e - 1 - j))]
  unfold tpS
  rw [List.map_map]; rfl
noncomputable def kS (n : Nat) (k : Int) : List (Nat × Nat) := if n = 0 \/ k % (n : Int) = 0 then [] else tpS 0 n ++ tpS 0 (k % (n : Int)).toNat ++ tpS (k % (n : Int)).toNat n
noncomputable def Hy : ASp := fun xs M Q => ∃ (n : Nat) (k : Int), xs = [.d (.int n), .d (.int k)] /\ n <= 1000 /\ Q (.d (.lst ((kS n k).map yU))) M
noncomputable abbrev Wr : Stmt := top 27
theorem Aw : zo ["n", "k", "rest"] ["n", "k"] (zf Wr) := ⟨rfl, rfl, rfl, by decide +kernel, rfl, by decide +kernel, by decide +kernel⟩
theorem Fx (a : At K mg "roll_by_turns" Wr) (B : Blt mg) (D_stays : Df P w K mg base "stays" ["n", "k"] 1 (cSp J2)) (D_turn_plan : Df P w K mg base "turn_plan" ["begin", "end"] 1 (cSp Xo)) : Df P w K mg base "roll_by_turns" ["n", "k"] 2 (cSp Hy) := by
 refine dfA (k := 1) a Aw (fun _ _ _ _ _ _ us hl => match us, hl with | [_, _], _ => rfl) (fun xs M Q h => ?_) (fun f cdv A outer s H E hr => ?_)
 ·obtain ⟨_, _, rfl, _⟩ := h; rfl
 have sc := Aw
 have hsl := hsl
 refine ⟨_, (zc (zP (qd (zn D_stays hr rfl (za (pv 0) (za (pv 1) zb))) (fun _ => rfl)) (zd (zq (qj zb))) zx)
  (zc (zu (i := 2) sc.nd rfl (by first | exact Or.inl rfl | exact Or.inr rfl) (zk qA (pv 1) (pv 0)))
  (zd (zq (zk jO (zk jO (zn D_turn_plan hr rfl (za ze (za (pv 0) zb))) (zn D_turn_plan hr rfl (za ze (za (pv 2) zb)))) (zn D_turn_plan hr rfl (za (pv 2) (za (pv 0) zb)))))))), ?_⟩
 refine ex2 (by walk_at "sim") ?_
 rintro xs M Q ⟨n, k, rfl, hn, q⟩
 rw [show zS ["n", "k", "rest"] [.d (.int n), .d (.int k)] = [some (.d (.int n)), some (.d (.int k)), none] from rfl]
 refine zp fun r hr0 => ?_
 walk_at "ra"
 refine ⟨n, k, rfl, by omega, _, rfl, ?_⟩
 by_cases c : n = 0 \/ k % (n : Int) = 0
 ·rw [if_pos (decide_eq_true c)]
  unfold kS at q
  rw [if_pos c] at q
  exact xy Fr.refl q
 ·rw [if_neg (by rw [decide_eq_false c]; decide)]
  unfold kS at q
  rw [if_neg c] at q
  subst hr0
  walk_at "ra"
  have n0 : 0 < n := Nat.pos_of_ne_zero fun z => c (.inl z)
  obtain ⟨m0, m1⟩ := qX k (j := (n : Int)) (by omega)
  have er : k % (n : Int) = ((k % (n : Int)).toNat : Int) := (Int.toNat_of_nonneg m0).symm
  have hr1 : (k % (n : Int)).toNat <= n := by omega
  generalize (k % (n : Int)).toNat = R at *
  have l1 := ka 0 n
  have l2 := ka 0 R
  have l3 := ka R n
  refine ⟨by omega, 0, n, rfl, by omega, hn, 0, R, by rw [er]; rfl, by omega, by omega, _, jw _ _, _, jw _ _, by simp only [List.length_map]; omega, _, by rw [<- List.map_append]; exact qg _, R, n, by rw [er], by omega, hn, _, jw _ _, by simp only [List.length_map, List.length_append]; omega, _, by rw [<- List.map_append]; exact qg _, ?_⟩
  rw [<- List.map_append, <- List.map_append]
  exact xy Fr.refl q
noncomputable def Hb : ASp := fun xs M Q => ∃ (n : Nat) (k : Int), xs = [.d (.int n), .d (.int k)] /\ n <= 1000 /\ Q (.d (.lst ((qo (zD n k) n).map yU))) M
noncomputable abbrev Ww : Stmt := top 28
theorem VP : zo ["n", "k"] ["n", "k"] (zf Ww) := ⟨rfl, rfl, rfl, by decide +kernel, rfl, by decide +kernel, by decide +kernel⟩
theorem Fj (a : At K mg "roll_by_swaps" Ww) (B : Blt mg) (D_roll_order : Df P w K mg base "roll_order" ["n", "k"] 9 (cSp wa)) (D_by_swaps : Df P w K mg base "by_swaps" ["order"] 9 (cSp QL)) : Df P w K mg base "roll_by_swaps" ["n", "k"] 10 (cSp Hb) := by
 refine dfA (k := 9) a VP (fun _ _ _ _ _ _ us hl => match us, hl with | [_, _], _ => rfl) (fun xs M Q h => ?_) (fun f cdv A outer s H E hr => ?_)
 ·obtain ⟨_, _, rfl, _⟩ := h; rfl
 have sc := VP
 have hsl := hsl
 refine ⟨_, (zd (zq (zn D_by_swaps hr rfl (za (zn D_roll_order hr rfl (za (pv 0) (za (pv 1) zb))) zb)))), ?_⟩
 refine ex2 (by walk_at "sim") ?_
 rintro xs M Q ⟨n, k, rfl, hn, q⟩
 rw [show zS ["n", "k"] [.d (.int n), .d (.int k)] = [some (.d (.int n)), some (.d (.int k))] from rfl]
 walk_at "ra"
 refine ⟨n, k, rfl, by omega, _, n, _, rfl, by rw [je, jS], qe n k, by omega, ?_⟩
 exact xy Fr.refl q
noncomputable def QK : Dat -> Option (List Dat)
 | .lst l => some l
 | .tup l => some l
 | _ => none
theorem EN {d : Dat} {l : List Dat} (h : QK d = some l) (M : MH) : qu (.d d) M = some (l.map .d) := by
 cases d with
 | lst m => cases h; rfl
 | tup m => cases h; rfl
 | _ => cases h
theorem jN {d : Dat} {os : List Int} (h : QK d = some (os.map .int)) (M : MH) : qu (.d d) M = some (os.map fun i => .d (.int i)) := by rw [EN h, jS]
noncomputable abbrev yu : Stmt := top 9
theorem vL : zo ["n"] ["n"] (zf yu) := ⟨rfl, rfl, rfl, by decide +kernel, rfl, by decide +kernel, by decide +kernel⟩
noncomputable def yv : ASp := fun xs M Q => ∃ n : Nat, xs = [.d (.int n)] /\ n <= 1000 /\ ∀ p, M p = none -> Q (.ref p) (mup M p (.lst ((zG 0 1 n).map fun i => .d (.int i))))
theorem Q5 (a : At K mg "staying" yu) (B : Blt mg) : Df P w K mg base "staying" ["n"] 1 (cSp yv) := by
 refine dfA (k := 0) a vL (fun _ _ _ _ _ _ us hl => match us, hl with | [_], _ => rfl) (fun xs M Q h => ?_) (fun f cdv A outer s H E hr => ?_)
 ·obtain ⟨_, rfl, _⟩ := h; rfl
 have sc := vL
 have hsl := hsl
 refine ⟨_, (zd (zq (ym (qt (xC rfl) rfl B.list j7 (za (qt yJ rfl B.range Qx (za (pv 0) zb)) zb))))), ?_⟩
 refine ex2 (by walk_at "sim") ?_
 rintro xs M Q ⟨n, rfl, hn, q⟩
 rw [show zS ["n"] [.d (.int n)] = [some (.d (.int n))] from rfl]
 walk_at "ra"
 refine ⟨_, _, _, rfl, small_one (by omega) (by omega) (by omega) (by omega), n, by rw [rangeSize_one]; split <;> omega, by omega, fun p hp _ => ?_⟩
 exact ⟨_, _, B5 (Fr.refl.mup hp _) hp zt (qr _), q p hp⟩
noncomputable def xj : ASp := fun xs M Q => ∃ n : Nat, xs = [.d (.int n)] /\ n <= 1000 /\ Q (.d (ilD (zG 0 1 n))) M
theorem JT (vs : List V) (H : Hp) (Q : VK) (E : XK) : cSp xj vs H Q E -> cSp yv vs H Q E := Bj (fun xs M Q ⟨n, e, h1, q⟩ => ⟨n, e, h1, fun p hp => ⟨_, _, xu (Fr.refl.mup hp _) hp zt (qr _), q⟩⟩) vs H Q E
noncomputable def vi : ASp := fun xs M Q => ∃ (dx dy : Dat) (a b : List Int), xs = [.d dx, .d dy] /\ QK dx = some (a.map .int) /\ QK dy = some (b.map .int) /\ a.length = b.length /\ b.length <= 2000 /\ (∀ p ∈ a, 0 <= p /\ p < (b.length : Int)) /\ Q (.d (ilD (BG a b))) M
noncomputable def HD (b : List Int) : AV -> AV
 | .d (.int p) => .d (.int (b.getD p.toNat 0))
 | x => x
noncomputable abbrev ZQ : Stmt := top 12
theorem Qi : zo ["one", "other", "place"] ["one", "other"] (zf ZQ) := ⟨rfl, rfl, rfl, by decide +kernel, rfl, by decide +kernel, by decide +kernel⟩
theorem V2 (a : At K mg "after" ZQ) (B : Blt mg) : Df P w K mg base "after" ["one", "other"] 1 (cSp vi) := by
 refine dfA (k := 0) a Qi (fun _ _ _ _ _ _ us hl => match us, hl with | [_, _], _ => rfl) (fun xs M Q h => ?_) (fun f cdv A outer s H E hr => ?_)
 ·obtain ⟨_, _, _, _, rfl, _⟩ := h; rfl
 have sc := Qi
 have hsl := hsl
 refine ⟨_, (zc (zP (zC (xI hr.units) (zr zw rfl B.len qm (za (pv 0) zb)) (zr zw rfl B.len qm (za (pv 1) zb)) (zH _)) (zd qq) zx)
  (zd (zq (jp (ts := [2]) rfl rfl (xP (pv 0)) (fun _ _ _ _ => (zA (i := 2) sc.nd rfl (by first | exact Or.inl rfl | exact Or.inr rfl))) (fun _ _ _ _ => qS) (fun _ _ _ _ => (zO (YV (K := K) rfl) (pv 1) (pv 2) (fun _ _ => rfl))))))), ?_⟩
 refine ex2 (by walk_at "sim") ?_
 rintro xs M Q ⟨dx, dy, a, b, rfl, hx, hy, hl, hb, hp, q⟩
 rw [show zS ["one", "other", "place"] [.d dx, .d dy] = [some (.d dx), some (.d dy), none] from rfl]
 walk_at "ra"
 refine ⟨_, jN hx M, _, jN hy M, ?_⟩
 rw [List.length_map, List.length_map, if_neg (by omega)]
 refine ⟨_, jN hx M, ?_⟩
 refine Fl (fun o => [some (.d dx), some (.d dy), o]) (HD b) ⟨_, rfl⟩ (jN hx M) (by rw [List.length_map]; omega) (fun o y Q hy2 q => ?_) fun o => ?_
 ·obtain ⟨p, hp2, rfl⟩ := List.mem_map.mp hy2
  have hb2 := hp p hp2
  walk_at "ra"
  exact ⟨_, jN hy M, _, vZ hb2.1 hb2.2, q _⟩
 ·rw [show (a.map fun i => AV.d (.int i)).map (HD b) = (BG a b).map fun i => AV.d (.int i) by unfold BG; rw [List.map_map, List.map_map]; rfl]
  exact ⟨_, qr _, xy Fr.refl q⟩
noncomputable def DB : ASp := fun xs M Q => ∃ (dx : Dat) (n : Nat) (os : List Int), xs = [.d dx] /\ QK dx = some (os.map .int) /\ zl n os /\ n <= 2000 /\ ∀ bs, qJ os bs -> Q (.d (ilD bs)) M
noncomputable abbrev Ai : Stmt := top 13
theorem KZ : zo ["order", "back", "place", "goal"] ["order"] (zf Ai) := ⟨rfl, rfl, rfl, by decide +kernel, rfl, by decide +kernel, by decide +kernel⟩
theorem AD (a : At K mg "back_of" Ai) (B : Blt mg) : Df P w K mg base "back_of" ["order"] 1 (cSp DB) := by
 refine dfA (k := 0) a KZ (fun _ _ _ _ _ _ us hl => match us, hl with | [_], _ => rfl) (fun xs M Q h => ?_) (fun f cdv A outer s H E hr => ?_)
 ·obtain ⟨_, _, _, rfl, _⟩ := h; rfl
 have sc := KZ
 have hsl := hsl
 refine ⟨_, (zc (zu (i := 1) sc.nd rfl (by first | exact Or.inl rfl | exact Or.inr rfl) (ym (zk j9 (qj (za ze zb)) (zr zw rfl B.len qm (za (pv 0) zb)))))
  (zc (jf PassesOwn.never rfl (xq rfl B.enumerate (za (pv 0) zb)) (jH (K := K) 2 rfl rfl (zX (zA (i := 2) sc.nd rfl (by first | exact Or.inl rfl | exact Or.inr rfl)) (zX (zA (i := 3) sc.nd rfl (by first | exact Or.inl rfl | exact Or.inr rfl)) jG))) (zd (qG (pv 2) (qM (pv 1) (pv 3) zK))))
  (zd (zq (pv 1))))), ?_⟩
 refine ex2 (by walk_at "sim") ?_
 rintro xs M Q ⟨dx, n, os, rfl, hx, ho, hn, q⟩
 rw [show zS ["order", "back", "place", "goal"] [.d dx] = [some (.d dx), none, none, none] from rfl]
 have h1 := ho.1
 refine zp fun r hr0 => ?_
 walk_at "ra"
 refine ⟨by omega, _, jN hx M, by rw [List.length_map]; omega, by rw [List.length_map]; omega, by rw [List.length_map]; omega, fun p hp _ => ?_⟩
 rw [List.length_map, h1, Int.toNat_natCast, ZN]
 have hp1 := zt (M := M) (a := p) (o := .lst (List.replicate n (AV.d (.int 0))))
 have f1 := (Fr.refl (M := M)).mup hp (.lst (List.replicate n (AV.d (.int 0))))
 subst hr0
 refine zp fun r hr0 => ?_
 walk_at "ra"
 refine ⟨_, jN hx _, _, qr _, ?_⟩
 refine ⟨fun i ρ M' => ∃ u v bs, ρ = [some (.d dx), some (.ref p), u, v] /\ M' = mup M p (.lst (bs.map fun i => AV.d (.int i))) /\ bs.length = n /\ ∀ j, j < i -> bs.getD (os.getD j 0).toNat 0 = (j : Int), ⟨none, none, List.replicate n 0, rfl, by rw [List.map_replicate], by simp, fun j hj => nomatch hj⟩, ?_, ?_⟩
 ·rintro i y ρ M' hy ⟨u, v, bs, rfl, rfl, lb, hj⟩
  refine ⟨jN hx _, ?_⟩
  obtain ⟨d, hd, rfl⟩ := xw hy
  rw [List.getElem?_map] at hd
  cases e : os[i]? with
  | none => rw [e] at hd; cases hd
  | some k =>
   rw [e] at hd
   cases hd
   have hi := (List.getElem?_eq_some_iff.mp e).1
   have hk : os.getD i 0 = k := by rw [List.getD_eq_getElem?_getD, e]; rfl
   have kb := ho.2.2 k (List.mem_of_getElem? e)
   walk_at "ra"
   refine ⟨_, zt, k.toNat, by rw [List.length_map, vW kb.1 (by omega)], bs.set k.toNat (i : Int), ?_, by rw [List.length_set]; exact lb, fun j hj' => ?_⟩
   ·rw [List.map_set]
   ·rw [xb (by omega)]
    by_cases c : j = i
    ·subst c; rw [hk, if_pos rfl]
    ·rw [if_neg, hj j (by omega)]
     intro z
     have gj := ho.getD (i := j) (by omega)
     exact c (ho.inj (by omega) (by omega) (by rw [hk]; omega))
 ·rintro ρ M' ⟨u, v, bs, rfl, rfl, lb, hj⟩
  refine ⟨jN hx _, ?_⟩
  subst hr0
  walk_at "ra"
  refine ⟨_, _, xu (Fr.refl.mup hp _) hp zt (qr _), q bs ⟨by omega, fun i hi => hj i ?_⟩⟩
  simp only [jP, List.length_map]
  exact hi
theorem BN {n : Nat} {rr ss : List Int} (hr : zl n rr) (hs : zl n ss) (l : Nat) : aft (if l % 2 = 1 then aft rr ss else rr) (pwl n (aft ss ss) (l / 2)) = aft rr (pwl n ss l) := by
 rw [Xy hs]
 by_cases h : l % 2 = 1
 ·rw [if_pos h, Zg hr hs.1]
  have e : aft ss (pwl n ss (2 * (l / 2))) = pwl n ss l := by
   have := vf hs 1 (2 * (l / 2))
   rw [Zq hs] at this
   rw [this]
   congr 1; omega
  rw [e]
 ·rw [if_neg h]
  congr 2; omega
noncomputable def Ae : ASp := fun xs M Q => ∃ (dx : Dat) (n : Nat) (os rs : List Int) (many : Int), xs = [.d dx, .d (.int many)] /\ QK dx = some (os.map .int) /\ zl n os /\ n <= 1000 /\ G8 n os many rs /\ Q (.d (ilD rs)) M
noncomputable abbrev ZS : Stmt := top 14
theorem Qf : zo ["order", "many", "step", "left", "reached"] ["order", "many"] (zf ZS) := ⟨rfl, rfl, rfl, by decide +kernel, rfl, by decide +kernel, by decide +kernel⟩
theorem Az (a : At K mg "times" ZS) (B : Blt mg) (D_staying : Df P w K mg base "staying" ["n"] 2 (cSp xj)) (D_after : Df P w K mg base "after" ["one", "other"] 2 (cSp vi)) (D_back_of : Df P w K mg base "back_of" ["order"] 2 (cSp DB)) : Df P w K mg base "times" ["order", "many"] 3 (cSp Ae) := by
 refine dfA (k := 2) a Qf (fun _ _ _ _ _ _ us hl => match us, hl with | [_, _], _ => rfl) (fun xs M Q h => ?_) (fun f cdv A outer s H E hr => ?_)
 ·obtain ⟨_, _, _, _, _, rfl, _⟩ := h; rfl
 have sc := Qf
 have hsl := hsl
 refine ⟨_, (zc (zu (i := 2) sc.nd rfl (by first | exact Or.inl rfl | exact Or.inr rfl) (V3 (zC DX (pv 1) ze (zH _)) (pv 0) (zn D_back_of hr rfl (za (pv 0) zb))))
  (zc (zu (i := 3) sc.nd rfl (by first | exact Or.inl rfl | exact Or.inr rfl) (zr kB rfl B.abs vD (za (pv 1) zb)))
  (zc (zu (i := 4) sc.nd rfl (by first | exact Or.inl rfl | exact Or.inr rfl) (zn D_staying hr rfl (za (zr zw rfl B.len qm (za (pv 0) zb)) zb)))
  (zc (vG PassesOwn.never (zC Q1 (pv 3) ze (zH _)) (zc (zP (zC (xi hr.units) (zk qA (pv 3) ze) ze (zH _)) (zd (zu (i := 4) sc.nd rfl (by first | exact Or.inl rfl | exact Or.inr rfl) (zn D_after hr rfl (za (pv 4) (za (pv 2) zb))))) zx)
  (zc (zu (i := 2) sc.nd rfl (by first | exact Or.inl rfl | exact Or.inr rfl) (zn D_after hr rfl (za (pv 2) (za (pv 2) zb))))
  (zd (ER (i := 3) sc.nd rfl (by first | exact Or.inl rfl | exact Or.inr rfl) ze Di)))))
  (zd (zq (pv 4))))))), ?_⟩
 refine ex2 (by walk_at "sim") ?_
 rintro xs M Q ⟨dx, n, os, rs, many, rfl, hx, ho, hn, ⟨bs, hb, hp, hm, rfl⟩, q⟩
 rw [show zS ["order", "many", "step", "left", "reached"] [.d dx, .d (.int many)] = [some (.d dx), some (.d (.int many)), none, none, none] from rfl]
 refine zp fun r hr0 => ?_
 walk_at "ra"
 have key : ∀ d : Dat, QK d = some (bs.map .int) -> r M { nx := fun x M' => rtA M Q (AV.d Dat.non) M', rt := rtA M Q } [some (AV.d dx), some (AV.d (Dat.int many)), some (AV.d d), none, none] M := by
  intro d hd
  have ol := ho.1
  subst hr0
  refine zp fun r hr0 => ?_
  walk_at "ra"
  have hab : (if many < 0 then -many else many) = (many.natAbs : Int) := by split <;> omega
  rw [hab]
  generalize many.natAbs = t at *
  subst hr0
  refine zp fun r hr0 => ?_
  walk_at "ra"
  refine ⟨_, jN hx _, n, by rw [List.length_map, ol], hn, ?_⟩
  subst hr0
  refine zp fun r hr0 => ?_
  show wv _ _ _ _ _ _
  unfold wv
  refine ⟨fun m ρ M' => M = M' /\ ∃ (e : Dat) (b rc : List Int), ρ = [some (.d dx), some (.d (.int many)), some (.d e), some (.d (.int m)), some (.d (ilD rc))] /\ QK e = some (b.map .int) /\ zl n b /\ zl n rc /\ aft rc (pwl n b m) = pwl n bs t, ⟨t, rfl, d, bs, _, rfl, hd, hb, zl.rng n, j4 (ya hb _).1⟩, ?_⟩
  rintro m ρ M' ⟨rfl, e, b, rc, rfl, he, hb2, hrc, eq⟩
  have bl := hb2.1
  have rl := hrc.1
  walk_at "ra"
  by_cases c : (0 : Int) < m
  ·rw [if_pos c]
   have st := BN hrc hb2 m
   have bd : ∀ p ∈ b, 0 <= p /\ p < (b.length : Int) := fun p hp => by rw [bl]; exact hb2.2.2 p hp
   have rd : ∀ p ∈ rc, 0 <= p /\ p < (b.length : Int) := fun p hp => by rw [bl]; exact hrc.2.2 p hp
   refine ⟨by decide, ?_⟩
   by_cases c2 : (m : Int) % 2 = 1
   ·rw [if_pos c2]
    rw [if_pos (by omega)] at st
    exact ⟨_, _, rc, b, rfl, rfl, he, by omega, by omega, rd, _, _, b, b, rfl, he, he, rfl, by omega, bd, ⟨by omega, by omega⟩, m / 2, by omega, rfl, _, rfl, by omega, aft b b, aft rc b, rfl, rfl, hb2.aft hb2, hrc.aft hb2, by rw [st]; exact eq⟩
   ·rw [if_neg c2]
    rw [if_neg (by omega)] at st
    exact ⟨_, _, b, b, rfl, he, he, rfl, by omega, bd, ⟨by omega, by omega⟩, m / 2, by omega, rfl, _, rfl, by omega, aft b b, rc, rfl, rfl, hb2.aft hb2, hrc, by rw [st]; exact eq⟩
  ·rw [if_neg c]
   have m0 : m = 0 := by omega
   subst m0
   subst hr0
   walk_at "ra"
   rw [<- eq, show pwl n b 0 = zG 0 1 n from rfl, xE hrc] at q
   exact xy Fr.refl q
 by_cases c : 0 <= many
 ·rw [if_pos c]
  exact key dx (by rw [hp c]; exact hx)
 ·rw [if_neg c]
  refine ⟨dx, n, os, rfl, hx, ho, by omega, fun bs' hb' => ?_⟩
  exact key _ (by rw [qJ.same ho (hm (by omega)) hb']; rfl)
noncomputable def GT : ASp := fun _ _ _ => False
noncomputable def YW : ASp := fun xs M Q => ∃ i : Int, xs = [.d (.int i)] /\ Q (.d (.int i)) M
noncomputable abbrev yZ : Stmt := top 10
theorem vC : zo ["thing", "part"] ["thing"] (zf yZ) := ⟨rfl, rfl, rfl, by decide +kernel, rfl, by decide +kernel, by decide +kernel⟩
theorem Wx (a : At K mg "own_copy" yZ) (B : Blt mg) (D_own_copy : Df P w K mg base "own_copy" ["thing"] 1 (cSp GT)) : Df P w K mg base "own_copy" ["thing"] 2 (cSp YW) := by
 refine dfA (k := 1) a vC (fun _ _ _ _ _ _ us hl => match us, hl with | [_], _ => rfl) (fun xs M Q h => ?_) (fun f cdv A outer s H E hr => ?_)
 ·obtain ⟨_, rfl, _⟩ := h; rfl
 have sc := vC
 have hsl := hsl
 refine ⟨_, (zc (zP (qd (zr ja rfl B.isinstance zQ (za (pv 0) (za (qH (v := .ty "list") rfl B.list j7 rfl) zb))) (fun _ => rfl)) (zd (zq (jp (ts := [1]) rfl rfl (xP (pv 0)) (fun _ _ _ _ => (zA (i := 1) sc.nd rfl (by first | exact Or.inl rfl | exact Or.inr rfl))) (fun _ _ _ _ => qS) (fun _ _ _ _ => (zn D_own_copy hr rfl (za (pv 1) zb)))))) zx)
  (zc (zP (qd (zr ja rfl B.isinstance zQ (za (pv 0) (za (qH (v := .ty "tuple") rfl B.tuple jC rfl) zb))) (fun _ => rfl)) (zd (zq (qt jL rfl B.tuple jC (za (jp (ts := [1]) rfl rfl (xP (pv 0)) (fun _ _ _ _ => (zA (i := 1) sc.nd rfl (by first | exact Or.inl rfl | exact Or.inr rfl))) (fun _ _ _ _ => qS) (fun _ _ _ _ => (zn D_own_copy hr rfl (za (pv 1) zb)))) zb)))) zx)
  (zd (zq (pv 0))))), ?_⟩
 refine ex2 (by walk_at "sim") ?_
 rintro xs M Q ⟨i, rfl, q⟩
 rw [show zS ["thing", "part"] [.d (.int i)] = [some (.d (.int i)), none] from rfl]
 walk_at "ra"
 exact xy Fr.refl q
theorem YE (a : At K mg "own_copy" yZ) : Df P w K mg base "own_copy" ["thing"] 1 (cSp GT) :=
 kl (k := 0) a vC (fun _ _ _ _ _ _ us hl => match us, hl with | [_], _ => rfl) (fun vs H Q E h => by obtain ⟨_, _, _, _, _, _, h, _⟩ := h; exact h.elim) (fun f cdv A outer s H vs Q E hr h => by obtain ⟨_, _, _, _, _, _, h, _⟩ := h; exact h.elim)
noncomputable def GW : ASp := fun xs M Q => ∃ (n : Nat) (ts os : List Int), xs = [.d (ilD ts), .d (ilD os)] /\ ts.length = n /\ zl n os /\ n <= 1000 /\ ∀ rs, yH ts os rs -> Q (.d (ilD rs)) M
noncomputable abbrev WJ : Stmt := top 11
theorem Ak : zo ["things", "order", "row", "place", "thing"] ["things", "order"] (zf WJ) := ⟨rfl, rfl, rfl, by decide +kernel, rfl, by decide +kernel, by decide +kernel⟩
theorem Ep (a : At K mg "put" WJ) (B : Blt mg) (D_own_copy : Df P w K mg base "own_copy" ["thing"] 2 (cSp YW)) : Df P w K mg base "put" ["things", "order"] 3 (cSp GW) := by
 refine dfA (k := 2) a Ak (fun _ _ _ _ _ _ us hl => match us, hl with | [_, _], _ => rfl) (fun xs M Q h => ?_) (fun f cdv A outer s H E hr => ?_)
 ·obtain ⟨_, _, _, rfl, _⟩ := h; rfl
 have sc := Ak
 have hsl := hsl
 refine ⟨_, (zc (zP (zC (xI hr.units) (zr zw rfl B.len qm (za (pv 0) zb)) (zr zw rfl B.len qm (za (pv 1) zb)) (zH _)) (zd qq) zx)
  (zc (zu (i := 2) sc.nd rfl (by first | exact Or.inl rfl | exact Or.inr rfl) (ym (zk j9 (qj (za jj zb)) (zr zw rfl B.len qm (za (pv 1) zb)))))
  (zc (jf PassesOwn.never rfl (Wk rfl B.zip (za (pv 1) (za (pv 0) zb))) (jH (K := K) 2 rfl rfl (zX (zA (i := 3) sc.nd rfl (by first | exact Or.inl rfl | exact Or.inr rfl)) (zX (zA (i := 4) sc.nd rfl (by first | exact Or.inl rfl | exact Or.inr rfl)) jG))) (zd (qG (zn D_own_copy hr rfl (za (pv 4) zb)) (qM (pv 2) (pv 3) zK))))
  (zd (zq (pv 2)))))), ?_⟩
 refine ex2 (by walk_at "sim") ?_
 rintro xs M Q ⟨n, ts, os, rfl, tl, ho, hn, q⟩
 rw [show zS ["things", "order", "row", "place", "thing"] [.d (ilD ts), .d (ilD os)] = [some (.d (ilD ts)), some (.d (ilD os)), none, none, none] from rfl]
 have ol := ho.1
 refine zp fun r hr0 => ?_
 walk_at "ra"
 rw [if_neg (by omega)]
 subst hr0
 refine zp fun r hr0 => ?_
 walk_at "ra"
 refine ⟨by omega, by omega, by omega, by omega, fun p hp _ => ?_⟩
 rw [ol, Int.toNat_natCast, ZN]
 subst hr0
 refine zp fun r hr0 => ?_
 walk_at "ra"
 refine ⟨os.map .int, ts.map .int, .inl ⟨(jS os).symm, (jS ts).symm⟩, ?_⟩
 refine ⟨fun i ρ M' => ∃ u v cs, ρ = [some (.d (ilD ts)), some (.d (ilD os)), some (.ref p), u, v] /\ M' = mup M p (.lst (cs.map fun c => AV.d (cD c))) /\ cs.length = n /\ ∀ j, j < i -> cs[(os.getD j 0).toNat]? = some (some (ts.getD j 0)), ⟨none, none, List.replicate n none, rfl, by rw [List.map_replicate]; rfl, by simp, fun j hj => nomatch hj⟩, ?_, ?_⟩
 ·rintro i y ρ M' hy ⟨u, v, cs, rfl, rfl, lc, hj⟩
  refine ⟨trivial, ?_⟩
  obtain ⟨d, e, h1, h2, rfl⟩ := wb hy
  rw [List.getElem?_map] at h1 h2
  cases e1 : os[i]? with
  | none => rw [e1] at h1; cases h1
  | some k =>
   cases e2 : ts[i]? with
   | none => rw [e2] at h2; cases h2
   | some t =>
    rw [e1] at h1; rw [e2] at h2
    cases h1; cases h2
    have hi := (List.getElem?_eq_some_iff.mp e1).1
    have hk : os.getD i 0 = k := by rw [List.getD_eq_getElem?_getD, e1]; rfl
    have ht : ts.getD i 0 = t := by rw [List.getD_eq_getElem?_getD, e2]; rfl
    have kb := ho.2.2 k (List.mem_of_getElem? e1)
    walk_at "ra"
    refine ⟨_, rfl, _, zt, k.toNat, by rw [List.length_map, vW kb.1 (by omega)], cs.set k.toNat (some t), by rw [Zx, List.map_set]; rfl, by rw [List.length_set]; exact lc, fun j hj' => ?_⟩
    rw [List.getElem?_set]
    by_cases c : j = i
    ·subst c; rw [hk, if_pos rfl, if_pos (by omega), ht]
    ·rw [if_neg, hj j (by omega)]
     intro z
     have gj := ho.getD (i := j) (by omega)
     exact c (ho.inj (by omega) (by omega) (by rw [hk]; omega))
 ·rintro ρ M' ⟨u, v, cs, rfl, rfl, lc, hj⟩
  refine ⟨trivial, ?_⟩
  rw [xZ, List.length_map, List.length_map] at hj
  have al : ∀ x, x < n -> ∃ t, cs[x]? = some (some t) := fun x hx => by
   obtain ⟨j, hj1, hj2⟩ := ho.ex hx
   have := hj j (by omega)
   rw [hj2, Int.toNat_natCast] at this
   exact ⟨_, this⟩
  have ec : cs = (cs.map fun c => c.getD 0).map some := by
   refine List.ext_getElem? fun x => ?_
   rw [List.map_map, List.getElem?_map]
   by_cases c : x < n
   ·obtain ⟨t, ht⟩ := al x c
    rw [ht]; rfl
   ·rw [List.getElem?_eq_none (by omega)]; rfl
  generalize hrs : (cs.map fun c => c.getD 0) = rs at ec
  have rl : rs.length = n := by rw [<- hrs, List.length_map, lc]
  subst ec
  subst hr0
  walk_at "ra"
  refine ⟨_, _, xu (Fr.refl.mup hp _) hp zt (ds := rs.map .int) (by rw [List.map_map]; exact vj Dat.int rs), q rs ⟨by omega, fun i hi => ?_⟩⟩
  have := hj i (by omega)
  rw [List.getElem?_map] at this
  rw [List.getD_eq_getElem?_getD]
  cases e : rs[(os.getD i 0).toNat]? with
  | none => rw [e] at this; cases this
  | some z => rw [e] at this; exact Option.some.inj (Option.some.inj this)
theorem W2 (b : Nat) {r : List Nat} (h : 1 <= r.length) : (jt (r.map (· + b))).map xJ = ((jt r).map xJ).map (De.sh b) := by
 have mv : ∀ (ps : List Nat) (g : Nat), (mvP (g + b) (ps.map (· + b))).map xJ = ((mvP g ps).map xJ).map (De.sh b) := by
  intro ps
  induction ps with
  | nil => intro g; rfl
  | cons p ps ih => intro g; show De.move (p + b) (g + b) :: _ = _; rw [ih p]; rfl
 have gl : ∀ (l : List Nat) (a : Nat), (l.map (· + b)).getLastD (a + b) = l.getLastD a + b := fun l a => by
  rw [List.getLastD_eq_getLast?, List.getLastD_eq_getLast?, List.getLast?_map]
  cases l.getLast? <;> rfl
 cases r with
 | nil => simp at h
 | cons a l =>
  unfold jt
  rw [List.map_append, List.map_append, List.map_append]
  congr 1
  ·show De.take (a + b) :: ((mvP (a + b) (l.map (· + b)).reverse)).map xJ = De.take (a + b) :: ((mvP a l.reverse).map xJ).map (De.sh b)
   rw [<- List.map_reverse, mv]
  ·show [De.lay ((l.map (· + b)).reverse.getLastD (a + b))] = [De.lay (l.reverse.getLastD a + b)]
   rw [<- List.map_reverse, gl]
noncomputable def vq (b : Nat) (r : List Int) : List Dat := (((jt (r.map Int.toNat)).map xJ).map (De.sh b)).map deD
theorem wM (b : Nat) (os : List Int) (n : Nat) : ((zy os n).map (vq b)).flatten = (((jk os n).map xJ).map (De.sh b)).map deD := by
 unfold jk
 rw [List.map_flatten, List.map_flatten, List.map_flatten, List.map_map, List.map_map, List.map_map]; rfl
theorem Aa (b : Nat) {r : List Int} (h : 1 <= r.length) (h0 : ∀ x ∈ r, 0 <= x) : (jt ((r.map fun p => (b : Int) + p).map Int.toNat)).map ddD = vq b r := by
 unfold vq
 rw [show (r.map fun p => (b : Int) + p).map Int.toNat = (r.map Int.toNat).map (· + b) by
  rw [List.map_map, List.map_map]
  exact List.map_congr_left fun x hx => by have := h0 x hx; show ((b : Int) + x).toNat = x.toNat + b; omega]
 rw [<- W2 b (by rw [List.length_map]; exact h), List.map_map (g := deD)]
 rfl
theorem Ar {p : Addr} {M : MH} {l : List AV} (h : qu (.ref p) M = some l) : qp (.ref p) M = some l := (jc h).elim id fun ⟨_, z, _⟩ => nomatch z
noncomputable def Vx : ASp := fun xs M Q => ∃ (b m e : Nat), xs = [.d (.int b), .d (.int m), .d (.int e)] /\ b <= m /\ m <= e /\ e <= 1000 /\ Q (.d (.lst ((((jk (zD (e - b) ((e : Int) - m)) (e - b)).map xJ).map (De.sh b)).map deD))) M
noncomputable abbrev ZW : Stmt := top 29
theorem QW : zo ["begin", "middle", "end", "plan", "ring", "place"] ["begin", "middle", "end"] (zf ZW) := ⟨rfl, rfl, rfl, by decide +kernel, rfl, by decide +kernel, by decide +kernel⟩
theorem Ve (a : At K mg "exchange_plan" ZW) (B : Blt mg) (D_rings : Df P w K mg base "rings" ["order"] 9 (cSp JE)) (D_roll_order : Df P w K mg base "roll_order" ["n", "k"] 9 (cSp wa)) (D_round_ring : Df P w K mg base "round_ring" ["ring"] 9 (cSp vR)) : Df P w K mg base "exchange_plan" ["begin", "middle", "end"] 10 (cSp Vx) := by
 refine dfA (k := 9) a QW (fun _ _ _ _ _ _ us hl => match us, hl with | [_, _, _], _ => rfl) (fun xs M Q h => ?_) (fun f cdv A outer s H E hr => ?_)
 ·obtain ⟨_, _, _, rfl, _⟩ := h; rfl
 have sc := QW
 have hsl := hsl
 refine ⟨_, (zc (zu (i := 3) sc.nd rfl (by first | exact Or.inl rfl | exact Or.inr rfl) (ym (qj zb)))
  (zc (jf PassesOwn.never rfl (xP (zn D_rings hr rfl (za (zn D_roll_order hr rfl (za (zk qB (pv 2) (pv 0)) (za (zk qB (pv 2) (pv 1)) zb))) zb))) (zA (i := 4) sc.nd rfl (by first | exact Or.inl rfl | exact Or.inr rfl)) (zd (qZ (Ja PySem.F.plainAttrs_list PySem.F.slot_list_extend PySem.F.type_list_extend XZ (pv 3) (za (zn D_round_ring hr rfl (za (jp (ts := [5]) rfl rfl (xP (pv 4)) (fun _ _ _ _ => (zA (i := 5) sc.nd rfl (by first | exact Or.inl rfl | exact Or.inr rfl))) (fun _ _ _ _ => qS) (fun _ _ _ _ => (zk zY (pv 0) (pv 5)))) zb)) zb)))))
  (zd (zq (pv 3))))), ?_⟩
 refine ex2 (by walk_at "sim") ?_
 rintro xs M Q ⟨b, m, e, rfl, h1, h2, h3, q⟩
 rw [show zS ["begin", "middle", "end", "plan", "ring", "place"] [.d (.int b), .d (.int m), .d (.int e)] = [some (.d (.int b)), some (.d (.int m)), some (.d (.int e)), none, none, none] from rfl]
 refine zp fun r hr0 => ?_
 walk_at "ra"
 intro p hp _
 have ro := qe (e - b) ((e : Int) - m)
 have er : ((e : Int) - b) = ((e - b : Nat) : Int) := by omega
 subst hr0
 refine zp fun r hr0 => ?_
 walk_at "ra"
 refine ⟨e - b, _, by rw [er], by omega, _, e - b, _, rfl, by rw [je, jS], ro, by omega, _, rfl, ?_⟩
 rw [List.map_map]
 generalize hos : zD (e - b) ((e : Int) - m) = os at *
 have tot : ((((zy os (e - b)).map (vq b)).flatten)).length <= 2000 := by
  rw [wM, List.length_map, List.length_map, List.length_map, vF ro]
  have := Xh os (e - b)
  have := xt ro
  omega
 refine ⟨fun i ρ M' => ∃ u v, ρ = [some (.d (.int b)), some (.d (.int m)), some (.d (.int e)), some (.ref p), u, v] /\ M' = mup M p (.lst ((((zy os (e - b)).take i).map (vq b)).flatten.map .d)), ⟨none, none, rfl, rfl⟩, ?_, ?_⟩
 ·rintro i y ρ M' hy ⟨u, v, rfl, rfl⟩
  rw [List.getElem?_map] at hy
  cases e1 : (zy os (e - b))[i]? with
  | none => rw [e1] at hy; cases hy
  | some rg =>
   rw [e1] at hy
   cases hy
   have hm := List.mem_of_getElem? e1
   have hl := qW ro (Nat.le_refl _) hm
   have hnn := Qp ro hm
   refine ⟨by show qu _ _ = _; rw [je, List.map_map], ?_⟩
   walk_at "ra"
   have pre := j6 (vq b) (zy os (e - b)) i
   have pre2 := j6 (vq b) (zy os (e - b)) (i + 1)
   have tk : (zy os (e - b)).take (i + 1) = (zy os (e - b)).take i ++ [rg] := by rw [List.take_add_one, e1]; rfl
   rw [tk, List.map_append, List.flatten_append, List.map_cons, List.map_nil, List.flatten_cons, List.flatten_nil, List.append_nil] at pre2 ⊢
   have sr : ∀ M : MH, qu ((AV.d ∘ ilD) rg) M = some (rg.map fun i => AV.d (.int i)) := fun M => by show qu (.d (ilD rg)) M = _; rw [je, jS]
   refine ⟨⟨_, Ar (vz zt)⟩, _, sr _, ?_⟩
   refine AB (fun o => [some (.d (.int b)), some (.d (.int m)), some (.d (.int e)), some (.ref p), some ((AV.d ∘ ilD) rg), o]) _ (fun k => .d (.int ((b : Int) + k))) rg ⟨_, rfl⟩ (sr _) (by omega) (fun o k Q hk q => ?_) fun o => ?_
   ·walk_at "ra"
    exact q _
   ·rw [vj (fun k : Int => Dat.int ((b : Int) + k))]
    refine ⟨_, rfl, rg.map (fun k => (b : Int) + k), by show _ = [AV.d (Dat.lst ((rg.map fun k => (b : Int) + k).map Dat.int))]; rw [List.map_map]; rfl, (fun x hx => ?_), by rw [List.length_map]; omega, by rw [List.length_map]; omega, ?_⟩
    ·obtain ⟨k, hk, rfl⟩ := List.mem_map.mp hx
     have := hnn k hk
     omega
    ·rw [Aa b (by omega) hnn]
     rw [List.length_append] at pre2
     exact ⟨_, zt, _, jw _ _, by simp only [List.length_map]; omega, by rw [Zx, List.map_append]⟩
 ·rintro ρ M' ⟨u, v, rfl, rfl⟩
  refine ⟨by show qu _ _ = _; rw [je, List.map_map], ?_⟩
  rw [List.length_map, List.take_length, wM]
  subst hr0
  walk_at "ra"
  exact ⟨_, _, xu (Fr.refl.mup hp _) hp zt (qg _), q⟩
noncomputable def DH (most : Nat) : ASp := fun xs M Q => ∃ (b : Addr) (N : Nat), xs = [.ref b, .d (.int most)] /\ 60 <= most /\ most <= 1000 /\ BxM M b N /\ N < 100000 /\ ∀ (r : Nat) M', BxS M M' b (N + 4) -> r <= most -> Q (.d (.int r)) M'
noncomputable abbrev JI : Stmt := top 43
theorem K1 : zo ["_law_box_here", "_law_most", "_law_some"] ["_law_box_here", "_law_most"] (zf JI) := ⟨rfl, rfl, rfl, by decide +kernel, rfl, by decide +kernel, by decide +kernel⟩
theorem Bm (a : At K mg "_law_size" JI) (B : Blt mg) (D_law_take : Df P w K mg base "_law_take" ["_law_box_here", "_law_many"] 1 (cSp Xd)) : Df P w K mg base "_law_size" ["_law_box_here", "_law_most"] 2 (cSp (DH 300)) := by
 refine dfA (k := 1) a K1 (fun _ _ _ _ _ _ us hl => match us, hl with | [_, _], _ => rfl) (fun xs M Q h => ?_) (fun f cdv A outer s H E hr => ?_)
 ·obtain ⟨_, _, rfl, _⟩ := h; rfl
 have sc := K1
 have hsl := hsl
 refine ⟨_, (zc (zu (i := 2) sc.nd rfl (by first | exact Or.inl rfl | exact Or.inr rfl) (qj (za (zn D_law_take hr rfl (za (pv 0) (za ze zb))) (za (zk zY ze (zn D_law_take hr rfl (za (pv 0) (za ze zb)))) (za (zk qB (pv 1) (zn D_law_take hr rfl (za (pv 0) (za ze zb)))) zb)))))
  (zd (zq (zO jD (pv 2) (zO jD (zk jO (zk jO (zk j9 (qj (za ze zb)) ze) (zk j9 (qj (za ze zb)) ze)) (qj (za ze zb))) (zn D_law_take hr rfl (za (pv 0) (za ze zb))) (fun _ _ => rfl)) (fun _ _ => rfl))))), ?_⟩
 refine ex2 (by walk_at "sim") ?_
 rintro xs M Q ⟨b, N, rfl, m1, m2, bx, hN, q⟩
 rw [show zS ["_law_box_here", "_law_most", "_law_some"] [.ref b, .d (.int (300 : Nat))] = [some (.ref b), some (.d (.int 300)), none] from rfl]
 have sb := SB.refl bx
 refine zp fun r hr0 => ?_
 walk_at "ra"
 refine ⟨b, 10, _, rfl, sb.bx, by omega, by omega, by omega, fun r1 M1 s1 a1 a2 => ?_⟩
 have sb := sb.go s1
 refine ⟨b, 21, _, rfl, sb.bx, by omega, by omega, by omega, fun r2 M2 s2 b1 b2 => ⟨_, rfl, ?_⟩⟩
 have sb := sb.go s2
 refine ⟨b, 60, _, rfl, sb.bx, by omega, by omega, by omega, fun r3 M3 s3 c1 c2 => ⟨_, rfl, by omega, _, rfl, ?_⟩⟩
 have sb := sb.go s3
 subst hr0
 walk_at "ra"
 refine ⟨by omega, by omega, by omega, by show 1 * 7 <= sizeLine; omega, _, rfl, by omega, by omega, by omega, by show 1 * 4 <= sizeLine; omega, _, rfl, by show 7 + 4 <= sizeLine; omega, _, rfl, by omega, by show 11 + 1 <= sizeLine; omega, _, rfl, ?_⟩
 refine ⟨b, 12, _, rfl, sb.bx, by omega, by omega, by omega, fun r4 M4 s4 d1 d2 => ⟨_, rfl, ?_⟩⟩
 have sb := sb.go s4
 obtain ⟨d, hd, e⟩ := Hg (l := [.int 0, .int 0, .int 0, .int 0, .int 0, .int 0, .int 0, .int 1, .int 1, .int 1, .int 1, .int 2]) (i := r4) d1 (by show r4 < 12; omega)
 refine ⟨_, e, ?_⟩
 have hd : d = .int 0 \/ d = .int 1 \/ d = .int 2 := by simpa using hd
 have fin : ∀ r : Int, 0 <= r -> r <= 300 -> rtA M Q (.d (.int r)) M4 := fun r h1 h2 => by
  obtain ⟨r, rfl⟩ : ∃ k : Nat, r = k := ⟨r.toNat, by omega⟩
  exact sb.rt fun M' t => q r M' t (by omega)
 rcases hd with rfl | rfl | rfl
 ·exact ⟨_, rfl, _, rfl, fin _ (by omega) (by omega)⟩
 ·exact ⟨_, rfl, _, rfl, fin _ (by omega) (by omega)⟩
 ·exact ⟨_, rfl, _, rfl, fin _ (by omega) (by omega)⟩
noncomputable def aBy : ASp := fun xs M Q => ∃ (b : Addr) (n N : Nat), xs = [.ref b, .d (.int n)] /\ n <= 1000 /\ BxM M b N /\ N < 100000 /\ ∀ (r : Int) M', BxS M M' b (N + 8) -> Q (.d (.int r)) M'
noncomputable abbrev FG : Stmt := top 44
theorem D5 : zo ["_law_box_here", "_law_n", "_law_some", "_law_divisors", "_law_k"] ["_law_box_here", "_law_n"] (zf FG) := ⟨rfl, rfl, rfl, by decide +kernel, rfl, by decide +kernel, by decide +kernel⟩
theorem GS (a : At K mg "_law_by" FG) (B : Blt mg) (D_law_take : Df P w K mg base "_law_take" ["_law_box_here", "_law_many"] 1 (cSp Xd)) : Df P w K mg base "_law_by" ["_law_box_here", "_law_n"] 2 (cSp aBy) := by
 refine dfA (k := 1) a D5 (fun _ _ _ _ _ _ us hl => match us, hl with | [_, _], _ => rfl) (fun xs M Q h => ?_) (fun f cdv A outer s H E hr => ?_)
 ·obtain ⟨_, _, _, rfl, _⟩ := h; rfl
 have sc := D5
 have hsl := hsl
 refine ⟨_, (zc (zu (i := 2) sc.nd rfl (by first | exact Or.inl rfl | exact Or.inr rfl) (qj (za (zk qB (zn D_law_take hr rfl (za (pv 0) (za ze zb))) ze) (za (zk qB (zk zY (zk jK (pv 1) (zk qB (zn D_law_take hr rfl (za (pv 0) (za ze zb))) ze)) (zn D_law_take hr rfl (za (pv 0) (za ze zb)))) ze) (za (zk qB (zk JR ze ze) (zn D_law_take hr rfl (za (pv 0) (za ze zb)))) zb)))))
  (zc (zu (i := 3) sc.nd rfl (by first | exact Or.inl rfl | exact Or.inr rfl) (zk jO (jp (ts := [4]) rfl rfl (Ym rfl B.range (za ze (za (zk zY (pv 1) ze) zb))) (fun _ _ _ _ => (zA (i := 4) sc.nd rfl (by first | exact Or.inl rfl | exact Or.inr rfl))) (fun _ _ _ _ => AY (zC (xi hr.units) (zk qA (pv 1) (pv 4)) ze (zH _))) (fun _ _ _ _ => (pv 4))) (qj (za ze zb))))
  (zc (zu (i := 2) sc.nd rfl (by first | exact Or.inl rfl | exact Or.inr rfl) (zk jO (pv 2) (qj (za (zk qB (zn D_law_take hr rfl (za (pv 0) (za ze zb))) (zk JR ze ze)) (za (zO jD (pv 3) (zn D_law_take hr rfl (za (pv 0) (za (zr zw rfl B.len qm (za (pv 3) zb)) zb))) (fun _ _ => rfl)) (za (zn D_law_take hr rfl (za (pv 0) (za (zk zY (pv 1) ze) zb))) zb))))))
  (zd (zq (zO jD (pv 2) (zn D_law_take hr rfl (za (pv 0) (za ze zb))) (fun _ _ => rfl))))))), ?_⟩
 refine ex2 (by walk_at "sim") ?_
 rintro xs M Q ⟨b, n, N, rfl, hn, bx, hN, q⟩
 rw [show zS ["_law_box_here", "_law_n", "_law_some", "_law_divisors", "_law_k"] [.ref b, .d (.int n)] = [some (.ref b), some (.d (.int n)), none, none, none] from rfl]
 have sb := SB.refl bx
 refine zp fun r hr0 => ?_
 walk_at "ra"
 refine ⟨b, 12, _, rfl, sb.bx, by omega, by omega, by omega, fun r1 M1 s1 a1 a2 => ⟨_, rfl, ?_⟩⟩
 have sb := sb.go s1
 refine ⟨b, 5, _, rfl, sb.bx, by omega, by omega, by omega, fun r2 M2 s2 b1 b2 => ⟨_, rfl, Ki (by omega) (by omega), ?_⟩⟩
 have sb := sb.go s2
 refine ⟨b, 3, _, rfl, sb.bx, by omega, by omega, by omega, fun r3 M3 s3 c1 c2 => ⟨_, rfl, ⟨by decide, by decide, by decide⟩, ?_⟩⟩
 have sb := sb.go s3
 refine ⟨b, 999, _, rfl, sb.bx, by omega, by omega, by omega, fun r4 M4 s4 d1 d2 => ⟨_, rfl, by omega, ?_⟩⟩
 have sb := sb.go s4
 subst hr0
 refine zp fun r hr0 => ?_
 walk_at "ra"
 refine ⟨by omega, by omega, by omega, by omega, ?_⟩
 refine ⟨fun i acc ρ M' => M4 = M' /\ (∃ u, ρ = [some (AV.ref b), some (AV.d (Dat.int n)), some (AV.d (Dat.lst [Dat.int (r1 - 4), Dat.int (n * (r2 - 2) + r3 - 1), Dat.int (10 ^ Int.toNat 18 - r4)])), none, u]) /\ ∃ ns : List Int, acc = ns.map (fun i => AV.d (.int i)) /\ ns.length <= i, ⟨rfl, ⟨_, rfl⟩, [], rfl, Nat.le_refl _⟩, ?_, ?_⟩
 ·rintro i y acc ρ M' hy ⟨rfl, ⟨u, rfl⟩, ns, rfl, hl⟩
  obtain ⟨hi, rfl⟩ := jB hy
  refine ⟨trivial, ?_⟩
  walk_at "ra"
  refine ⟨by omega, ?_⟩
  split
  ·exact ⟨by omega, ⟨_, rfl⟩, ns ++ [1 + (i : Int) * 1], by rw [List.map_append]; rfl, by rw [List.length_append]; show _ + 1 <= _; omega⟩
  ·exact ⟨⟨_, rfl⟩, ns, rfl, by omega⟩
 rintro acc ρ M' ⟨rfl, ⟨u, rfl⟩, ns, rfl, hl⟩
 rw [qQ] at hl
 refine ⟨trivial, _, qr _, by omega, by rw [List.length_map]; omega, _, by rw [show (List.map AV.d (ns.map Dat.int) ++ [AV.d (Dat.int 0)]) = (ns.map Dat.int ++ [Dat.int 0]).map .d by rw [List.map_append]; rfl]; exact qg _, ?_⟩
 rw [show ns.map Dat.int ++ [Dat.int 0] = (ns ++ [0]).map Dat.int by rw [List.map_append]; rfl]
 have lm : (ns ++ [0]).length <= 1001 /\ 1 <= (ns ++ [0]).length := by rw [List.length_append]; exact ⟨by show _ + 1 <= _; omega, by show 1 <= _ + 1; omega⟩
 generalize ns ++ [0] = ms at *
 subst hr0
 refine zp fun r hr0 => ?_
 walk_at "ra"
 refine ⟨b, 999, _, rfl, sb.bx, by omega, by omega, by omega, fun r5 M5 s5 e1 e2 => ⟨⟨by decide, by decide, by decide⟩, _, rfl, ?_⟩⟩
 have sb := sb.go s5
 refine ⟨b, (ms.length : Int), _, rfl, sb.bx, by omega, by omega, by omega, fun r6 M6 s6 f1 f2 => ⟨_, rfl, ?_⟩⟩
 have sb := sb.go s6
 obtain ⟨v, _, ev⟩ := DA (ns := ms) (i := r6) (by omega) f2
 refine ⟨_, ev, b, (n : Int) + 1, _, rfl, sb.bx, by omega, by omega, by omega, fun r7 M7 s7 g1 g2 => ⟨by omega, _, rfl, by show 3 + 3 <= sizeLine; omega, ?_⟩⟩
 have sb := sb.go s7
 subst hr0
 walk_at "ra"
 refine ⟨b, 6, _, rfl, sb.bx, by omega, by omega, by omega, fun r8 M8 s8 h1 h2 => ⟨_, rfl, ?_⟩⟩
 have sb := sb.go s8
 obtain ⟨d, hd, e⟩ := DA (ns := [r1 - 4, n * (r2 - 2) + r3 - 1, 10 ^ Int.toNat 18 - r4, r5 - 10 ^ Int.toNat 18, v, r7]) (i := r8) (by omega) (by show r8 < 6; omega)
 refine ⟨_, e, sb.rt fun M' t => q d M' t⟩
noncomputable def jU (n b m e : Nat) : List Int := (List.range n).map fun (p : Nat) => ((if b <= p /\ p < e then b + (p - b + (e - m)) % (e - b) else p : Nat) : Int)
noncomputable def D4 : ASp := fun xs M Q => ∃ (n b m e : Nat), xs = [.d (.int n), .d (.int b), .d (.int m), .d (.int e)] /\ b <= m /\ m <= e /\ e <= n /\ n <= 1000 /\ Q (.d (ilD (jU n b m e))) M
noncomputable abbrev Ko : Stmt := top 30
theorem Xs : zo ["n", "begin", "middle", "end", "order", "at", "goal"] ["n", "begin", "middle", "end"] (zf Ko) := ⟨rfl, rfl, rfl, by decide +kernel, rfl, by decide +kernel, by decide +kernel⟩
theorem B6 (a : At K mg "exchange_order" Ko) (B : Blt mg) (D_roll_order : Df P w K mg base "roll_order" ["n", "k"] 1 (cSp wa)) (D_staying_o : Df P w K mg base "staying" ["n"] 1 (cSp yv)) : Df P w K mg base "exchange_order" ["n", "begin", "middle", "end"] 2 (cSp D4) := by
 refine dfA (k := 1) a Xs (fun _ _ _ _ _ _ us hl => match us, hl with | [_, _, _, _], _ => rfl) (fun xs M Q h => ?_) (fun f cdv A outer s H E hr => ?_)
 ·obtain ⟨_, _, _, _, rfl, _⟩ := h; rfl
 have sc := Xs
 have hsl := hsl
 refine ⟨_, (zc (zu (i := 4) sc.nd rfl (by first | exact Or.inl rfl | exact Or.inr rfl) (zn D_staying_o hr rfl (za (pv 0) zb)))
  (zc (jf PassesOwn.never rfl (xq rfl B.enumerate (za (zn D_roll_order hr rfl (za (zk qB (pv 3) (pv 1)) (za (zk qB (pv 3) (pv 2)) zb))) zb)) (jH (K := K) 2 rfl rfl (zX (zA (i := 5) sc.nd rfl (by first | exact Or.inl rfl | exact Or.inr rfl)) (zX (zA (i := 6) sc.nd rfl (by first | exact Or.inl rfl | exact Or.inr rfl)) jG))) (zd (qG (zk zY (pv 1) (pv 6)) (qM (pv 4) (zk zY (pv 1) (pv 5)) zK))))
  (zd (zq (pv 4))))), ?_⟩
 refine ex2 (by walk_at "sim") ?_
 rintro xs M Q ⟨n, b, m, e, rfl, h1, h2, h3, hn, q⟩
 rw [show zS ["n", "begin", "middle", "end", "order", "at", "goal"] [.d (.int n), .d (.int b), .d (.int m), .d (.int e)] = [some (.d (.int n)), some (.d (.int b)), some (.d (.int m)), some (.d (.int e)), none, none, none] from rfl]
 refine zp fun r hr0 => ?_
 walk_at "ra"
 refine ⟨n, rfl, hn, fun p hp => ?_⟩
 subst hr0
 refine zp fun r hr0 => ?_
 walk_at "ra"
 rw [show (e : Int) - b = ((e - b : Nat) : Int) by omega, show (e : Int) - m = ((e - m : Nat) : Int) by omega]
 refine ⟨e - b, _, rfl, by omega, _, ZL _ _, _, qr _, ?_⟩
 refine ⟨fun i ρ M' => ∃ u v, ρ = [some (.d (.int n)), some (.d (.int b)), some (.d (.int m)), some (.d (.int e)), some (.ref p), u, v] /\ i <= e - b /\ M' = mup M p (.lst (((List.range n).map fun (p : Nat) => ((if b <= p /\ p < b + i then b + (p - b + (e - m)) % (e - b) else p : Nat) : Int)).map fun i => AV.d (.int i))), ⟨none, none, rfl, by omega, ?_⟩, ?_, ?_⟩
 ·rw [F8]
  congr 3
  refine List.map_congr_left fun x _ => ?_
  rw [if_neg (by omega)]
 ·rintro i y ρ M' hy ⟨u, v, rfl, hi, rfl⟩
  refine ⟨ZL _ _, ?_⟩
  obtain ⟨d, hd, rfl⟩ := xw hy
  unfold zD at hd
  rw [List.map_map, List.getElem?_map] at hd
  cases eg : (List.range (e - b))[i]? with
  | none => rw [eg] at hd; cases hd
  | some k =>
   rw [eg] at hd
   obtain rfl : Dat.int ((((k : Nat) : Int) + ((e - m : Nat) : Int)) % ((e - b : Nat) : Int)) = d := Option.some.inj hd
   obtain ⟨hi', hk⟩ := List.getElem?_eq_some_iff.mp eg
   rw [List.getElem_range] at hk
   rw [List.length_range] at hi'
   subst hk
   walk_at "ra"
   refine ⟨_, zt, b + i, by rw [List.length_map, List.length_map, List.length_range, vW (by omega) (by omega)]; congr 1, by omega, ?_⟩
   rw [<- List.map_set]
   congr 3
   refine List.ext_getElem (by simp) fun x hx1 hx2 => ?_
   rw [List.getElem_set, List.getElem_map, List.getElem_map, List.getElem_range]
   have hm : ((i : Int) + ((e - m : Nat) : Int)) % ((e - b : Nat) : Int) = (((i + (e - m)) % (e - b) : Nat) : Int) := by push_cast; rfl
   by_cases c : b + i = x
   ·subst c
    rw [if_pos rfl, if_pos (by omega), show b + i - b = i by omega]
    show (b : Int) + ((i : Int) + ((e - m : Nat) : Int)) % ((e - b : Nat) : Int) = _
    rw [hm]; push_cast; rfl
   ·rw [if_neg c]
    by_cases c2 : b <= x /\ x < b + i
    ·rw [if_pos c2, if_pos (by omega)]
    ·rw [if_neg c2, if_neg (by omega)]
 ·rintro ρ M' ⟨u, v, rfl, hi, rfl⟩
  refine ⟨ZL _ _, ?_⟩
  subst hr0
  walk_at "ra"
  refine ⟨_, _, xu (Fr.refl.mup hp _) hp zt (qr _), ?_⟩
  rw [show (yG (List.map Dat.int (zD (e - b) ((e - m : Nat) : Int)))).length = e - b by rw [jP, List.length_map]; unfold zD; rw [List.length_map, List.length_range], show b + (e - b) = e by omega]
  exact q
theorem Xa (a b : List Int) : BG a b = aft a b := rfl
theorem kM (n : Nat) (j k : Int) : aft (zD n j) (zD n k) = zD n (j + k) := by
 refine j5 (by rw [zB, zV, zV]) fun x hx => ?_
 rw [zB, zV] at hx
 obtain ⟨a0, a1⟩ := (qe n j).getD hx
 rw [L2.aft_getD _ (by rw [zV]; exact hx), zW (by omega), zW hx, zW hx, Int.toNat_of_nonneg (by rw [zW hx] at a0; exact a0), Int.emod_add_emod]
 congr 1; omega
theorem jV (n : Nat) : zD n 0 = zG 0 1 n := by
 refine j5 (by rw [zV, zi]) fun x hx => ?_
 rw [zV] at hx
 rw [zW hx, zU n hx, Int.add_zero, Int.emod_eq_of_lt (by omega) (by omega)]
theorem kE (n : Nat) (k : Int) : zD n (k % (n : Int)) = zD n k := by
 unfold zD
 exact List.map_congr_left fun x _ => by rw [Int.add_emod_emod]
theorem QZ (n : Nat) (k : Int) : ∀ m : Nat, pwl n (zD n k) m = zD n ((m : Int) * k)
 | 0 => by
  show zG 0 1 n = _
  rw [show ((0 : Nat) : Int) * k = 0 by simp, jV]
 | m + 1 => by
  have := vf (qe n k) m 1
  rw [Zq (qe n k), QZ n k m, kM] at this
  rw [<- this]
  congr 1
  push_cast
  rw [Int.add_mul, Int.one_mul]
theorem Qs {n : Nat} {k : Int} (h : (n : Int) ∣ k) : zD n k = zG 0 1 n := by
 rw [<- kE, Int.emod_eq_zero_of_dvd h, jV]
theorem qx.stay (n : Nat) : qx n [] (zG 0 1 n) := ⟨zG 0 1 n, zi .., .nil, fun t ht => by rw [zU n ht, Int.toNat_natCast, zU n ht]⟩
theorem qx.turns {n : Nat} (hn : n <= 1000) (k : Int) : qx n ((kS n k).map swD) (zD n k) := by
 unfold kS
 by_cases c : n = 0 \/ k % (n : Int) = 0
 ·rw [if_pos c]
  rcases c with c | c
  ·subst c; exact qx.stay 0
  ·rw [<- kE, c, jV]; exact qx.stay n
 ·rw [if_neg c]
  have n0 : 0 < n := Nat.pos_of_ne_zero fun z => c (.inl z)
  obtain ⟨m0, m1⟩ := qX k (j := (n : Int)) (by omega)
  have er : k % (n : Int) = ((k % (n : Int)).toNat : Int) := (Int.toNat_of_nonneg m0).symm
  have hR : (k % (n : Int)).toNat < n := by omega
  rw [<- kE, er, Int.toNat_natCast]
  generalize (k % (n : Int)).toNat = R at *
  refine ⟨swR (zG 0 1 n) (tpS 0 n ++ tpS 0 R ++ tpS R n), by rw [qC, zi], JJ _ _ (fun s hs => ?_), fun t ht => ?_⟩
  ·rw [zi]
   rcases List.mem_append.mp hs with h | h
   ·rcases List.mem_append.mp h with h | h
    ·exact Jm (Nat.le_refl n) s h
    ·exact Jm (by omega) s h
   ·exact Jm (Nat.le_refl n) s h
  ·rw [zW ht]
   have e2 : ((t : Int) + R) % (n : Int) = if t + R < n then ((t + R : Nat) : Int) else ((t + R - n : Nat) : Int) := by
    split
    ·rw [Int.emod_eq_of_lt (by omega) (by omega)]; omega
    ·rw [show (t : Int) + R = ((t + R - n : Nat) : Int) + (n : Int) * 1 by omega, Int.add_mul_emod_self_left, Int.emod_eq_of_lt (by omega) (by omega)]
   rw [e2]
   split
   ·rw [Int.toNat_natCast, yM (by omega) _ (by omega), if_neg (by omega)]; omega
   ·rw [Int.toNat_natCast, yM (by omega) _ (by omega), if_pos (by omega)]; omega
theorem jQ {n b m e : Nat} (h1 : b <= m) (h2 : m <= e) (h3 : e <= n) : jU n b m e = qP b (e - b) (n - e) (zD (e - b) ((e : Int) - m)) := by
 have hl : (qP b (e - b) (n - e) (zD (e - b) ((e : Int) - m))).length = n := by unfold qP; rw [List.length_append, List.length_append, zi, zi, List.length_map, zV]; omega
 refine j5 (by rw [hl]; simp [jU]) fun x hx => ?_
 have hx : x < n := by simpa [jU] using hx
 rw [qR (zV _ _) _ rfl x (by omega)]
 have g : (jU n b m e).getD x 0 = ((if b <= x /\ x < e then b + (x - b + (e - m)) % (e - b) else x : Nat) : Int) := by
  unfold jU
  rw [List.getD_eq_getElem?_getD, List.getElem?_map, List.getElem?_range hx]; rfl
 rw [g]
 by_cases c1 : x < b
 ·rw [if_pos c1, if_neg (by omega)]
 ·rw [if_neg c1]
  by_cases c2 : x < b + (e - b)
  ·rw [if_pos c2, if_pos (by omega), zW (by omega)]
   push_cast
   rw [show ((x - b : Nat) : Int) + ((e : Int) - m) = ((x - b : Nat) : Int) + ((e - m : Nat) : Int) by omega]
  ·rw [if_neg c2, if_neg (by omega)]
theorem Vw {k n m : Nat} {a b : List Int} (ha : zl n a) (hb : zl n b) : aft (qP k n m a) (qP k n m b) = qP k n m (aft a b) := by
 have hl : ∀ {c : List Int}, zl n c -> (qP k n m c).length = k + n + m := fun h => (we (k := k) (m := m) h).1
 have hab := ha.aft hb
 refine j5 (by rw [zB, hl ha, hl hab]) fun x hx => ?_
 rw [zB, hl ha] at hx
 rw [L2.aft_getD _ (by rw [hl ha]; exact hx), qR ha.1 _ rfl x hx, qR hab.1 _ rfl x hx]
 by_cases c1 : x < k
 ·rw [if_pos c1, if_pos c1, Int.toNat_natCast, qR hb.1 _ rfl x hx, if_pos c1]
 ·rw [if_neg c1, if_neg c1]
  by_cases c2 : x < k + n
  ·obtain ⟨a0, a1⟩ := ha.getD (i := x - k) (by omega)
   rw [if_pos c2, if_pos c2, qR hb.1 _ rfl _ (by omega), if_neg (by omega), if_pos (by omega), L2.aft_getD _ (by rw [ha.1]; omega), show ((k : Int) + a.getD (x - k) 0).toNat - k = (a.getD (x - k) 0).toNat by omega]
  ·rw [if_neg c2, if_neg c2, Int.toNat_natCast, qR hb.1 _ rfl x hx, if_neg c1, if_neg c2]
theorem Vc (k n m : Nat) : qP k n m (zG 0 1 n) = zG 0 1 (k + n + m) := by
 rw [wL]
 unfold qP
 congr 2
 exact List.map_congr_left fun x _ => Int.add_comm _ _
theorem kA {x y : AV} {M : MH} {Q : AK} {n : Nat} {os os' : List Int} {ds : List De} (hx : yV x M = some (.lst (os.map .int))) (ho : zl n os) (hn : n <= 1000) (hy : qu y M = some ((ds.map deD).map .d)) (hc : qx n ds os') (ho' : zl n os') (hl : ds.length <= 10000) (q : Q (.d (.bl (decide (os' = os)))) M) : ZH [x, y] M Q := by
 obtain ⟨T, hT, hd, hg⟩ := hc
 obtain ⟨ms, hm⟩ := hd.withM (List.replicate n 0)
 refine ⟨x, y, n, os, T, _, ds, ms, rfl, hx, .inl rfl, ho, hn, hy, hm, hl, ?_⟩
 rw [(A1 ho' hT hg).2.2]
 exact q
theorem Ya {n : Nat} (s : Int) : decide (zD n s = zD n (s + 1)) = decide ((n : Int) < 2) := by
 refine decide_eq_decide.mpr ⟨fun h => ?_, fun h => ?_⟩
 ·rcases Nat.lt_or_ge n 2 with c | c
  ·omega
  ·exfalso
   have e := congrArg (fun l : List Int => l.getD 0 0) h
   have e : (zD n s).getD 0 0 = (zD n (s + 1)).getD 0 0 := e
   rw [zW (by omega), zW (by omega)] at e
   have d : ((((0 : Nat) : Int) + (s + 1)) - (((0 : Nat) : Int) + s)) % (n : Int) = 0 := by rw [Int.sub_emod, e, Int.sub_self, Int.zero_emod]
   rw [show ((((0 : Nat) : Int) + (s + 1)) - (((0 : Nat) : Int) + s)) = 1 by omega, Int.emod_eq_of_lt (by omega) (by omega)] at d
   omega
 ·match n, h with
  | 0, _ => rfl
  | 1, _ =>
   refine j5 (by rw [zV, zV]) fun x hx => ?_
   rw [zV] at hx
   rw [zW hx, zW hx, show ((1 : Nat) : Int) = 1 from rfl, Int.emod_one, Int.emod_one]
  | n + 2, h => omega
noncomputable def aRR : ASp := fun xs M Q => ∃ (n : Nat) (j k : Int) (ts : List Int), xs = [.d (.int n), .d (.int j), .d (.int k), .d (ilD ts)] /\ ts.length = n /\ n <= 300 /\ Q (.d (.bl true)) M
noncomputable abbrev F7 : Stmt := top 45
theorem DM : zo ["_law_n", "_law_one", "_law_other", "_law_things", "_law_both", "_law_plan", "_law_many", "_law_size_here"] ["_law_n", "_law_one", "_law_other", "_law_things"] (zf F7) := ⟨rfl, rfl, rfl, by decide +kernel, rfl, by decide +kernel, by decide +kernel⟩
theorem GX (a : At K mg "_law_rolls_right" F7) (B : Blt mg) (D_roll_order : Df P w K mg base "roll_order" ["n", "k"] 18 (cSp wa)) (D_after : Df P w K mg base "after" ["one", "other"] 18 (cSp vi)) (D_staying : Df P w K mg base "staying" ["n"] 18 (cSp xj)) (D_put : Df P w K mg base "put" ["things", "order"] 18 (cSp GW)) (D_roll_rings : Df P w K mg base "roll_rings" ["n", "k"] 18 (cSp JG)) (D_times : Df P w K mg base "times" ["order", "many"] 18 (cSp Ae)) (D_shows_plan : Df P w K mg base "shows_plan" ["order", "plan"] 18 (cSp ZH)) (D_roll_by_turns : Df P w K mg base "roll_by_turns" ["n", "k"] 18 (cSp Hy)) (D_roll_by_swaps : Df P w K mg base "roll_by_swaps" ["n", "k"] 18 (cSp Hb)) : Df P w K mg base "_law_rolls_right" ["_law_n", "_law_one", "_law_other", "_law_things"] 19 (cSp aRR) := by
 refine dfA (k := 18) a DM (fun _ _ _ _ _ _ us hl => match us, hl with | [_, _, _, _], _ => rfl) (fun xs M Q h => ?_) (fun f cdv A outer s H E hr => ?_)
 ·obtain ⟨_, _, _, _, rfl, _⟩ := h; rfl
 have sc := DM
 have hsl := hsl
 refine ⟨_, (zc (zu (i := 4) sc.nd rfl (by first | exact Or.inl rfl | exact Or.inr rfl) (zn D_roll_order hr rfl (za (pv 0) (za (zk zY (pv 1) (pv 2)) zb))))
  (zc (zP (zC (xI hr.units) (zn D_after hr rfl (za (zn D_roll_order hr rfl (za (pv 0) (za (pv 1) zb))) (za (zn D_roll_order hr rfl (za (pv 0) (za (pv 2) zb))) zb))) (pv 4) (zH _)) (zd (zq qE)) zx)
  (zc (zP (zC (xI hr.units) (zn D_after hr rfl (za (pv 4) (za (zn D_roll_order hr rfl (za (pv 0) (za (zk qB (D1 Vt (pv 1)) (pv 2)) zb))) zb))) (zn D_staying hr rfl (za (pv 0) zb)) (zH _)) (zd (zq qE)) zx)
  (zc (zP (zC (xI hr.units) (zn D_put hr rfl (za (zn D_put hr rfl (za (pv 3) (za (zn D_roll_order hr rfl (za (pv 0) (za (pv 1) zb))) zb))) (za (zn D_roll_order hr rfl (za (pv 0) (za (pv 2) zb))) zb))) (zn D_put hr rfl (za (pv 3) (za (pv 4) zb))) (zH _)) (zd (zq qE)) zx)
  (zc (qG (zn D_roll_rings hr rfl (za (pv 0) (za (pv 1) zb))) (jH (K := K) 2 rfl rfl (zX (zA (i := 6) sc.nd rfl (by first | exact Or.inl rfl | exact Or.inr rfl)) (zX (zA (i := 7) sc.nd rfl (by first | exact Or.inl rfl | exact Or.inr rfl)) jG))))
  (zc (zP (PW.pt (yQ (zC (xI hr.units) (zn D_times hr rfl (za (zn D_roll_order hr rfl (za (pv 0) (za (pv 1) zb))) (za (zr (wC rfl) rfl B.max Am (za ze (za (pv 7) zb))) zb))) (zn D_staying hr rfl (za (pv 0) zb)) (zH _)) (kT (zC ZY (zk jK (pv 6) (pv 7)) (ji (za ze (za (pv 0) zb))) rfl)))) (zd (zq qE)) zx)
  (zc (zP (qL (qd (zn D_shows_plan hr rfl (za (pv 4) (za (zk jO (zn D_roll_by_turns hr rfl (za (pv 0) (za (pv 1) zb))) (zn D_roll_by_turns hr rfl (za (pv 0) (za (pv 2) zb)))) zb))) (fun _ => rfl))) (zd (zq qE)) zx)
  (zc (zu (i := 5) sc.nd rfl (by first | exact Or.inl rfl | exact Or.inr rfl) (zk jO (zn D_roll_by_swaps hr rfl (za (pv 0) (za (pv 1) zb))) (zn D_roll_by_swaps hr rfl (za (pv 0) (za (pv 2) zb)))))
  (zd (zq (V4 (zn D_shows_plan hr rfl (za (pv 4) (za (pv 5) zb))) (JF (jF (xi hr.units) (zn D_shows_plan hr rfl (za (zn D_after hr rfl (za (pv 4) (za (zn D_roll_order hr rfl (za (pv 0) (za ze zb))) zb))) (za (pv 5) zb))) (jF Vi (pv 0) ze (zH _)) (zH _)))))))))))))), ?_⟩
 refine ex2 (by walk_at "sim") ?_
 rintro xs M Q ⟨n, j, k, ts, rfl, lt, hn, q⟩
 rw [show zS ["_law_n", "_law_one", "_law_other", "_law_things", "_law_both", "_law_plan", "_law_many", "_law_size_here"] [.d (.int n), .d (.int j), .d (.int k), .d (ilD ts)] = [some (.d (.int n)), some (.d (.int j)), some (.d (.int k)), some (.d (ilD ts)), none, none, none, none] from rfl]
 have rl : ∀ i, (zD n i).length = n := fun i => zV n i
 have ro : ∀ i, zl n (zD n i) := fun i => qe n i
 have rb : ∀ i i', ∀ p ∈ zD n i, 0 <= p /\ p < ((zD n i').length : Int) := fun i i' p hp => by rw [rl]; exact (ro i).2.2 p hp
 have af : ∀ (i i' : Int) (M : MH) (Q : AK), Q (.d (ilD (zD n (i + i')))) M -> vi [.d (ilD (zD n i)), .d (ilD (zD n i'))] M Q := fun i i' M Q h => ⟨_, _, zD n i, zD n i', rfl, rfl, rfl, by rw [rl, rl], by rw [rl]; omega, rb _ _, by rw [Xa, kM]; exact h⟩
 have rlq : ∀ (i : Int) (M : MH) (Q : AK), Q (.d (ilD (zD n i))) M -> wa [.d (.int n), .d (.int i)] M Q := fun i M Q h => ⟨n, i, rfl, by omega, h⟩
 have stq : ∀ (M : MH) (Q : AK), Q (.d (ilD (zG 0 1 n))) M -> xj [.d (.int n)] M Q := fun M Q h => ⟨n, rfl, by omega, h⟩
 refine zp fun r hr0 => ?_
 walk_at "ra"
 refine rlq _ _ _ ?_
 subst hr0
 refine zp fun r hr0 => ?_
 walk_at "ra"
 have dpl : ∀ ns : List Int, dp (ilD ns) <= 40 := fun ns => Nat.le_trans (xQ ns) (by decide)
 have eqs : ∀ ns : List Int, ¬ (eqD (ilD ns) (ilD ns) = false) := fun ns h => by rw [kQ (Nat.lt_of_le_of_lt (dpl ns) (by decide))] at h; cases h
 refine rlq _ _ _ (rlq _ _ _ (af _ _ _ _ ⟨_, rfl, dpl _, dpl _, ?_⟩))
 rw [if_neg (eqs _)]
 subst hr0
 refine zp fun r hr0 => ?_
 walk_at "ra"
 refine rlq _ _ _ (af _ _ _ _ (stq _ _ ⟨_, rfl, _, rfl, dpl _, dpl _, ?_⟩))
 rw [show j + k + (-j - k) = 0 by omega, jV, if_neg (eqs _)]
 subst hr0
 refine zp fun r hr0 => ?_
 walk_at "ra"
 refine rlq _ _ _ ⟨n, ts, zD n j, rfl, lt, ro j, by omega, fun rs p1 => rlq _ _ _ ⟨n, rs, zD n k, rfl, by rw [p1.1, rl], ro k, by omega, fun ss p2 => ⟨n, ts, zD n (j + k), rfl, lt, ro _, by omega, fun ss' p3 => ⟨_, rfl, _, rfl, dpl _, dpl _, ?_⟩⟩⟩⟩
 have p4 := p1.comp (ro j) (ro k) p2
 rw [kM] at p4
 rw [p4.unique (ro _) p3, if_neg (eqs _)]
 have rq : ∀ (M : MH) (Q : AK), (∀ (u v : Nat), pwl n (zD n j) (max 1 v) = zG 0 1 n -> (u * v = 0 \/ u * v = n) -> u <= 1000 -> v <= 1000 -> Q (.d (.tup [.int u, .int v])) M) -> JG [.d (.int n), .d (.int j)] M Q := fun M Q h => by
  refine ⟨n, j, rfl, by omega, fun c => ?_, fun n0 c => ?_⟩
  ·refine h 0 0 ?_ (.inl rfl) (by omega) (by omega)
   rw [show max 1 0 = 1 from rfl, Zq (ro j)]
   rcases c with c | c
   ·subst c; rfl
   ·rw [<- kE, c, jV]
  ·have gp : 0 < Nat.gcd n (j % (n : Int)).toNat := Nat.gcd_pos_of_pos_left _ n0
   have gd := Nat.gcd_dvd_left n (j % (n : Int)).toNat
   have gl := Nat.gcd_le_left (j % (n : Int)).toNat n0
   have dl := Nat.div_le_self n (Nat.gcd n (j % (n : Int)).toNat)
   have dp' := Nat.div_pos gl gp
   refine h _ _ ?_ (.inr (Nat.mul_div_cancel' gd)) (by omega) (by omega)
   rw [show max 1 (n / Nat.gcd n (j % (n : Int)).toNat) = n / Nat.gcd n (j % (n : Int)).toNat by omega, <- kE n j, QZ]
   obtain ⟨z, hz⟩ := Nat.gcd_dvd_right n (j % (n : Int)).toNat
   refine Qs ⟨z, ?_⟩
   have e1 : j % (n : Int) = ((j % (n : Int)).toNat : Int) := by omega
   have key : n / Nat.gcd n (j % (n : Int)).toNat * (j % (n : Int)).toNat = n * z := (congrArg (n / Nat.gcd n (j % (n : Int)).toNat * ·) hz).trans (by show _ * (_ * z) = _; rw [<- Nat.mul_assoc, Nat.div_mul_cancel gd])
   conv => lhs; arg 2; rw [e1]
   rw [<- Int.natCast_mul, key, Int.natCast_mul]
 subst hr0
 refine zp fun r hr0 => ?_
 walk_at "ra"
 refine rq _ _ fun u v huv huv2 hu hv => ?_
 walk_at "ra"
 subst hr0
 refine zp fun r hr0 => ?_
 walk_at "ra"
 refine rlq _ _ _ ⟨_, n, zD n j, zG 0 1 n, _, rfl, rfl, ro j, by omega, ⟨zD n j, ro j, fun _ => rfl, (fun z => ?_), ?_⟩, ?_⟩
 ·exfalso; split at z <;> omega
 ·rw [<- huv]
  congr 1
  split <;> omega
 refine stq _ _ ⟨_, rfl, _, rfl, dpl _, dpl _, ?_⟩
 rw [if_neg (eqs _)]
 have hin : inV (V.int ((u : Int) * v)) [V.int 0, V.int n] = true := by
  rw [<- Int.natCast_mul]
  rcases huv2 with h | h <;> rw [h] <;> simp [inV, eqV]
 refine ⟨Ki (by omega) (by omega), by omega, _, rfl, _, rfl, ?_⟩
 rw [if_neg (by rw [hin]; decide)]
 have tl : ∀ i, (kS n i).length <= 1000 := fun i => by
  unfold kS
  split
  ·exact Nat.zero_le _
  ·rw [List.length_append, List.length_append, ka, ka, ka]
   have := qX i (j := (n : Int)) (by omega)
   omega
 have ct : ∀ i, qx n ((kS n i).map swD) (zD n i) := fun i => qx.turns (by omega) i
 have cs : ∀ i, qx n ((qo (zD n i) n).map swD) (zD n i) := fun i => qx.swaps (ro i)
 have sl : ∀ i, (qo (zD n i) n).length <= 1000 := fun i => by
  have := xt (ro i)
  have := Xh (zD n i) n
  omega
 have sd : ∀ l : List (Nat × Nat), l.map yU = (l.map swD).map deD := fun l => by rw [List.map_map]; rfl
 have c1 := (ct j).append (ct k) (ro j) (ro k)
 have c2 := (cs j).append (cs k) (ro j) (ro k)
 rw [kM] at c1 c2
 have t1 := tl j; have t2 := tl k; have s1 := sl j; have s2 := sl k
 subst hr0
 refine zp fun r hr0 => ?_
 walk_at "ra"
 refine ⟨n, j, rfl, by omega, n, k, rfl, by omega, _, jw _ _, _, jw _ _, by simp only [List.length_map]; omega, _, by rw [<- List.map_append]; exact qg _, ?_⟩
 rw [sd, sd, <- List.map_append]
 refine kA rfl (ro _) (by omega) (je _ _) c1 (ro _) (by rw [List.length_append, List.length_map, List.length_map]; omega) ⟨_, rfl, ?_⟩
 rw [if_neg (by rw [decide_eq_true rfl]; decide)]
 subst hr0
 refine zp fun r hr0 => ?_
 walk_at "ra"
 refine ⟨n, j, rfl, by omega, n, k, rfl, by omega, _, jw _ _, _, jw _ _, by simp only [List.length_map]; omega, _, by rw [<- List.map_append]; exact qg _, ?_⟩
 rw [sd, sd, <- List.map_append]
 subst hr0
 walk_at "ra"
 refine kA rfl (ro _) (by omega) (je _ _) c2 (ro _) (by rw [List.length_append, List.length_map, List.length_map]; omega) ⟨_, rfl, ?_⟩
 rw [if_pos (decide_eq_true rfl)]
 refine rlq _ _ _ (af _ _ _ _ (kA rfl (ro _) (by omega) (je _ _) c2 (ro _) (by rw [List.length_append, List.length_map, List.length_map]; omega) ⟨_, rfl, by simp [dp], ?_⟩))
 rw [Ya, kQ (by simp [dp])]
 exact xy Fr.refl q
noncomputable def aXR : ASp := fun xs M Q => ∃ (n b m e : Nat), xs = [.d (.int n), .d (.int b), .d (.int m), .d (.int e)] /\ b <= m /\ m <= e /\ e <= n /\ n <= 300 /\ Q (.d (.bl true)) M
noncomputable abbrev GB : Stmt := top 46
theorem DE : zo ["_law_n", "_law_begin", "_law_middle", "_law_end", "_law_order", "_law_back", "_law_plan"] ["_law_n", "_law_begin", "_law_middle", "_law_end"] (zf GB) := ⟨rfl, rfl, rfl, by decide +kernel, rfl, by decide +kernel, by decide +kernel⟩
theorem G5 (a : At K mg "_law_exchange_right" GB) (B : Blt mg) (D_exchange_order : Df P w K mg base "exchange_order" ["n", "begin", "middle", "end"] 18 (cSp D4)) (D_after : Df P w K mg base "after" ["one", "other"] 18 (cSp vi)) (D_staying : Df P w K mg base "staying" ["n"] 18 (cSp xj)) (D_exchange_plan : Df P w K mg base "exchange_plan" ["begin", "middle", "end"] 18 (cSp Vx)) (D_shows_plan : Df P w K mg base "shows_plan" ["order", "plan"] 18 (cSp ZH)) (D_roll_order : Df P w K mg base "roll_order" ["n", "k"] 18 (cSp wa)) : Df P w K mg base "_law_exchange_right" ["_law_n", "_law_begin", "_law_middle", "_law_end"] 19 (cSp aXR) := by
 refine dfA (k := 18) a DE (fun _ _ _ _ _ _ us hl => match us, hl with | [_, _, _, _], _ => rfl) (fun xs M Q h => ?_) (fun f cdv A outer s H E hr => ?_)
 ·obtain ⟨_, _, _, _, rfl, _⟩ := h; rfl
 have sc := DE
 have hsl := hsl
 refine ⟨_, (zc (zu (i := 4) sc.nd rfl (by first | exact Or.inl rfl | exact Or.inr rfl) (zn D_exchange_order hr rfl (za (pv 0) (za (pv 1) (za (pv 2) (za (pv 3) zb))))))
  (zc (zu (i := 5) sc.nd rfl (by first | exact Or.inl rfl | exact Or.inr rfl) (zk qB (zk zY (pv 1) (pv 3)) (pv 2)))
  (zc (zP (zC (xI hr.units) (zn D_after hr rfl (za (pv 4) (za (zn D_exchange_order hr rfl (za (pv 0) (za (pv 1) (za (pv 5) (za (pv 3) zb))))) zb))) (zn D_staying hr rfl (za (pv 0) zb)) (zH _)) (zd (zq qE)) zx)
  (zc (zu (i := 6) sc.nd rfl (by first | exact Or.inl rfl | exact Or.inr rfl) (zn D_exchange_plan hr rfl (za (pv 1) (za (pv 2) (za (pv 3) zb)))))
  (zc (zP (PW.pt (yQ (qL (qd (zn D_shows_plan hr rfl (za (pv 4) (za (pv 6) zb))) (fun _ => rfl))) (kT (qL (qd (zn D_shows_plan hr rfl (za (zn D_staying hr rfl (za (pv 0) zb)) (za (zk jO (pv 6) (zn D_exchange_plan hr rfl (za (pv 1) (za (pv 5) (za (pv 3) zb))))) zb))) (fun _ => rfl)))))) (zd (zq qE)) zx)
  (zd (zq (jF (xi hr.units) (zn D_exchange_order hr rfl (za (pv 0) (za ze (za (pv 2) (za (pv 0) zb))))) (zn D_roll_order hr rfl (za (pv 0) (za (zk qB (pv 0) (pv 2)) zb))) (zH _))))))))), ?_⟩
 refine ex2 (by walk_at "sim") ?_
 rintro xs M Q ⟨n, b, m, e, rfl, h1, h2, h3, hn, q⟩
 rw [show zS ["_law_n", "_law_begin", "_law_middle", "_law_end", "_law_order", "_law_back", "_law_plan"] [.d (.int n), .d (.int b), .d (.int m), .d (.int e)] = [some (.d (.int n)), some (.d (.int b)), some (.d (.int m)), some (.d (.int e)), none, none, none] from rfl]
 refine zp fun r hr0 => ?_
 have xo : ∀ {b m e : Nat}, b <= m -> m <= e -> e <= n -> zl n (jU n b m e) := fun {b m e} h1 h2 h3 => by
  rw [jQ h1 h2 h3]
  have := we (k := b) (m := n - e) (qe (e - b) ((e : Int) - m))
  rwa [show b + (e - b) + (n - e) = n by omega] at this
 have hxl : ∀ {b m e : Nat}, b <= m -> m <= e -> e <= n -> qx n (((jk (zD (e - b) ((e : Int) - m)) (e - b)).map xJ).map (De.sh b)) (jU n b m e) := fun {b m e} h1 h2 h3 => by
  rw [jQ h1 h2 h3]
  have := (qx.rings (qe (e - b) ((e : Int) - m))).shift (qe _ _) b (n - e)
  rwa [show b + (e - b) + (n - e) = n by omega] at this
 have hlen : ∀ {b m e : Nat}, b <= m -> m <= e -> e <= n -> (jk (zD (e - b) ((e : Int) - m)) (e - b)).length <= 1000 := fun {b m e} h1 h2 h3 => by
  have r := qe (e - b) ((e : Int) - m)
  have := vF r
  have := xt r
  have := Xh (zD (e - b) ((e : Int) - m)) (e - b)
  omega
 have xa : aft (jU n b m e) (jU n b (b + e - m) e) = zG 0 1 n := by
  rw [jQ h1 h2 h3, jQ (by omega) (by omega) h3, Vw (qe _ _) (qe _ _), kM]
  rw [show (e : Int) - m + ((e : Int) - ((b + e - m : Nat) : Int)) = ((e - b : Nat) : Int) by omega, Qs (Int.dvd_refl _), Vc]
  congr 1; omega
 have bq : (b : Int) + e - m = ((b + e - m : Nat) : Int) := by omega
 have dpl : ∀ ns : List Int, dp (ilD ns) <= 40 := fun ns => Nat.le_trans (xQ ns) (by decide)
 have eqs : ∀ ns : List Int, ¬ (eqD (ilD ns) (ilD ns) = false) := fun ns h => by rw [kQ (Nat.lt_of_le_of_lt (dpl ns) (by decide))] at h; cases h
 walk_at "ra"
 refine ⟨n, b, m, e, rfl, h1, h2, h3, by omega, ?_⟩
 subst hr0
 refine zp fun r hr0 => ?_
 walk_at "ra"
 rw [bq]
 subst hr0
 refine zp fun r hr0 => ?_
 walk_at "ra"
 have xl := (xo h1 h2 h3).1
 have xl2 := (xo (b := b) (m := b + e - m) (e := e) (by omega) (by omega) h3).1
 refine ⟨n, b, b + e - m, e, rfl, by omega, by omega, h3, by omega, _, _, jU n b m e, jU n b (b + e - m) e, rfl, rfl, rfl, by omega, by omega, (fun p hp => by rw [xl2]; exact (xo h1 h2 h3).2.2 p hp), n, rfl, by omega, _, rfl, _, rfl, dpl _, dpl _, ?_⟩
 rw [Xa, xa, if_neg (eqs _)]
 subst hr0
 refine zp fun r hr0 => ?_
 walk_at "ra"
 refine ⟨b, m, e, rfl, h1, h2, by omega, ?_⟩
 have c1 := hxl h1 h2 h3
 have c2 := hxl (b := b) (m := b + e - m) (e := e) (by omega) (by omega) h3
 have c3 := c1.append c2 (xo h1 h2 h3) (xo (by omega) (by omega) h3)
 rw [xa] at c3
 have l1 := hlen h1 h2 h3
 have l2 := hlen (b := b) (m := b + e - m) (e := e) (by omega) (by omega) h3
 subst hr0
 refine zp fun r hr0 => ?_
 walk_at "ra"
 refine kA rfl (xo h1 h2 h3) (by omega) (je _ _) c1 (xo h1 h2 h3) (by rw [List.length_map, List.length_map]; omega) ⟨_, rfl, ?_⟩
 rw [if_neg (by rw [decide_eq_true rfl]; decide)]
 refine ⟨n, rfl, by omega, b, b + e - m, e, rfl, by omega, by omega, by omega, _, jw _ _, by simp only [List.length_map]; omega, _, by rw [<- List.map_append, <- List.map_append]; exact qg _, ?_⟩
 refine kA rfl (zl.rng n) (by omega) (je _ _) c3 (zl.rng n) (by simp only [List.length_append, List.length_map]; omega) ⟨_, rfl, ?_⟩
 rw [if_neg (by rw [decide_eq_true rfl]; decide)]
 subst hr0
 walk_at "ra"
 refine ⟨n, 0, m, n, rfl, by omega, by omega, by omega, by omega, n, _, rfl, by omega, _, rfl, _, rfl, dpl _, dpl _, ?_⟩
 rw [show jU n 0 m n = zD n ((n : Int) - m) by
  rw [jQ (Nat.zero_le _) (by omega) (Nat.le_refl _)]
  unfold qP
  rw [Nat.sub_self, Nat.sub_zero, show zG 0 1 0 = [] from rfl, show zG (((0 : Nat) : Int) + (n : Nat)) 1 0 = [] from rfl, List.nil_append, List.append_nil]
  exact (List.map_congr_left fun x _ => by show ((0 : Nat) : Int) + x = x; omega).trans (List.map_id _)]
 rw [kQ (Nat.lt_of_le_of_lt (dpl _) (by decide))]
 exact xy Fr.refl q
noncomputable abbrev W6 : Stmt := top 47
theorem VG : zo ["_law_script", "_law_cells", "_law_k", "_law_box_here", "_law_n", "_law_things", "_law_cuts", "_law_one", "_law_other", "_law_place", "_law_turn"] ["_law_script"] (zf W6) := ⟨rfl, rfl, rfl, by decide +kernel, rfl, by decide +kernel, by decide +kernel⟩
noncomputable def Xf (K : PySem.W.Frag) : Sp := fun vs H Q _ => ∃ (a : Addr) (ns : List Int), vs = [.ref a] /\ SqL K H a (ns.map V.int) /\ ns.length <= 63 /\ ∀ H', Q (.bl true) H'
noncomputable def GL (K : PySem.W.Frag) : ASp := fun xs M Q => ∃ ns : List Int, xs = [.d (.scr K ns)] /\ ns.length <= 63 /\ Q (.d (.bl true)) M
theorem sp_law (vs : List V) (H : Hp) (Q : VK) (E : XK) (h : Xf K vs H Q E) : cSp (GL K) vs H Q E := by
 obtain ⟨a, ns, rfl, ha, hn, q⟩ := h
 refine ⟨[.d (.scr K ns)], fun _ => none, fun _ => False, fun x _ => x = .d (.bl true), ⟨(fun a o e => nomatch e), (fun a h => h rfl), fun a h => h.elim⟩, .cons (Dj (fun _ z => z) ha) .nil, ⟨ns, rfl, hn, rfl⟩, fun x M' v H' O' hx _ _ r => ?_⟩
 subst hx
 rw [yk r]
 exact q H'
theorem FJ (a : At K mg "law" W6) (B : Blt mg) (D_law_box : Df P w K mg base "_law_box" ["_law_script", "_law_k"] 19 (cSp Hi)) (D_law_folded : Df P w K mg base "_law_folded" ["_law_script", "_law_many"] 19 (cSp (K5 K))) (D_law_take : Df P w K mg base "_law_take" ["_law_box_here", "_law_many"] 19 (cSp Xd))
  (D_law_size : Df P w K mg base "_law_size" ["_law_box_here", "_law_most"] 19 (cSp (DH 300))) (D_law_by : Df P w K mg base "_law_by" ["_law_box_here", "_law_n"] 19 (cSp aBy)) (D_law_rolls_right : Df P w K mg base "_law_rolls_right" ["_law_n", "_law_one", "_law_other", "_law_things"] 19 (cSp aRR)) (D_law_exchange_right : Df P w K mg base "_law_exchange_right" ["_law_n", "_law_begin", "_law_middle", "_law_end"] 19 (cSp aXR)) :
  Df P w K mg base "law" ["_law_script"] 20 (cSp (GL K)) := by
 refine dfA (k := 19) a VG (fun _ _ _ _ _ _ us hl => match us, hl with | [_], _ => rfl) (fun xs M Q h => ?_) (fun f cdv A outer s H E hr => ?_)
 ·obtain ⟨_, rfl, _⟩ := h; rfl
 have sc := VG
 have hsl := hsl
 refine ⟨_, (zc (zu (i := 1) sc.nd rfl (by first | exact Or.inl rfl | exact Or.inr rfl) (zn D_law_folded hr rfl (za (pv 0) (za ze zb))))
  (zc (jf PassesOwn.never rfl (js rfl B.range (za (zk zY (zr (Ys rfl) rfl B.min Fd (za ze (za (AU (zr zw rfl B.len qm (za (pv 0) zb))) zb))) ze) zb)) (zA (i := 2) sc.nd rfl (by first | exact Or.inl rfl | exact Or.inr rfl)) (zc (zu (i := 3) sc.nd rfl (by first | exact Or.inl rfl | exact Or.inr rfl) (zn D_law_box hr rfl (za (pv 1) (za (pv 2) zb))))
  (zc (zu (i := 4) sc.nd rfl (by first | exact Or.inl rfl | exact Or.inr rfl) (zn D_law_size hr rfl (za (pv 3) (za ze zb))))
  (zc (Kn (i := 7) (j := 8) rfl sc.nd rfl rfl (by decide) rfl rfl (za (zn D_law_by hr rfl (za (pv 3) (za (pv 4) zb))) (za (zn D_law_by hr rfl (za (pv 3) (za (pv 4) zb))) zb)) rfl)
  (zc (zP (zC Q1 (zr (wC rfl) rfl B.max Am (za (zr kB rfl B.abs vD (za (pv 7) zb)) (za (zr kB rfl B.abs vD (za (pv 8) zb)) zb))) ze (zH _)) (zd (Kn (i := 7) (j := 8) rfl sc.nd rfl rfl (by decide) rfl rfl (za (zk yd (pv 7) ze) (za (zk yd (pv 8) ze) zb)) rfl)) zx)
  (zc (Dx (j := 5) rfl sc.nd rfl (by first | exact Or.inl rfl | exact Or.inr rfl) (ts := [9]) rfl (js rfl B.range (za (pv 4) zb)) (fun _ _ _ _ => (zA (i := 9) sc.nd rfl (by first | exact Or.inl rfl | exact Or.inr rfl))) (fun _ _ _ _ => qS) (fun _ _ _ _ => (zn D_law_take hr rfl (za (pv 3) (za ze zb)))))
  (zc (zP (qL (qd (zn D_law_rolls_right hr rfl (za (pv 4) (za (pv 7) (za (pv 8) (za (pv 5) zb))))) (fun _ => rfl))) (zd (zq qE)) zx)
  (zc (zu (i := 6) sc.nd rfl (by first | exact Or.inl rfl | exact Or.inr rfl) (zr Z1 rfl B.sorted Yq (za (jp (ts := [10]) rfl rfl (js rfl B.range (za ze zb)) (fun _ _ _ _ => (zA (i := 10) sc.nd rfl (by first | exact Or.inl rfl | exact Or.inr rfl))) (fun _ _ _ _ => qS) (fun _ _ _ _ => (zn D_law_take hr rfl (za (pv 3) (za (zk zY (pv 4) ze) zb))))) zb)))
  (zd (zP (qL (qd (zn D_law_exchange_right hr rfl (za (pv 4) (za (zO jD (pv 6) ze (fun _ _ => rfl)) (za (zO jD (pv 6) ze (fun _ _ => rfl)) (za (zO jD (pv 6) ze (fun _ _ => rfl)) zb))))) (fun _ => rfl))) (zd (zq qE)) zx))))))))))
  (zd (zq qE)))), ?_⟩
 refine ex2 (by walk_at "sim") ?_
 rintro xs M Q ⟨ns, rfl, hn, q⟩
 rw [show zS ["_law_script", "_law_cells", "_law_k", "_law_box_here", "_law_n", "_law_things", "_law_cuts", "_law_one", "_law_other", "_law_place", "_law_turn"] [.d (.scr K ns)] = [some (.d (.scr K ns)), none, none, none, none, none, none, none, none, none, none] from rfl]
 refine zp fun r hr0 => ?_
 walk_at "ra"
 refine ⟨6, ns, rfl, by omega, by omega, hn, fun cs lc => ?_⟩
 subst hr0
 refine zp fun r hr0 => ?_
 walk_at "ra"
 refine ⟨ns, rfl, by split <;> omega, by split <;> omega, ?_⟩
 refine ⟨fun i ρ M' => (∃ x2 x3 x4 x5 x6 x7 x8 x9 x10, ρ = [some (.d (.scr K ns)), some (.d (ilD cs)), x2, x3, x4, x5, x6, x7, x8, x9, x10]) /\ Fr M M', ⟨⟨_, _, _, _, _, _, _, _, _, rfl⟩, Fr.refl⟩, ?_, ?_⟩
 ·rintro i y ρ M1 hy ⟨⟨x2, x3, x4, x5, x6, x7, x8, x9, x10, rfl⟩, f1⟩
  obtain ⟨hi, rfl⟩ := jB hy
  have hi' : (i : Int) <= 100 := by
   have : (i : Int) < (if (ns.length : Int) < 6 then (ns.length : Int) else 6) + 1 := by omega
   split at this <;> omega
  refine ⟨trivial, ?_⟩
  rw [Int.zero_add, Int.mul_one]
  show wv _ _ _ _ _ _
  refine zp fun r2 hr2 => ?_
  walk_at "ra"
  refine ⟨_, i, cs, rfl, B1 _ _, by omega, by omega, by omega, fun b o hb bx => ?_⟩
  have b0 := f1.non hb
  have f2 := f1.mup b0 o
  have sb := SB.refl bx
  generalize mup M1 b o = M2 at *
  subst hr2
  refine zp fun r2 hr2 => ?_
  walk_at "ra"
  refine ⟨b, 0, rfl, by omega, by omega, sb.bx, by omega, fun n M3 s3 n1 => ?_⟩
  have sb := sb.go s3
  subst hr2
  refine zp fun r2 hr2 => ?_
  walk_at "ra"
  refine ⟨b, n, _, rfl, by omega, sb.bx, by omega, fun j M4 s4 => ?_⟩
  have sb := sb.go s4
  refine ⟨b, n, _, rfl, by omega, sb.bx, by omega, fun k M5 s5 => ?_⟩
  have sb := sb.go s5
  subst hr2
  refine zp fun r2 hr2 => ?_
  walk_at "ra"
  have key : ∀ (D : yN), (∀ ρ M', (∃ x2 x3 x4 x5 x6 x7 x8 x9 x10, ρ = [some (.d (.scr K ns)), some (.d (ilD cs)), x2, x3, x4, x5, x6, x7, x8, x9, x10]) /\ Fr M M' -> D.nx ρ M') -> ∀ j k : Int, r2 M D [some (.d (.scr K ns)), some (.d (ilD cs)), some (.d (.int i)), some (.ref b), some (.d (.int n)), x5, x6, some (.d (.int j)), some (.d (.int k)), x9, x10] M5 := by
   intro D hD j k
   subst hr2
   refine zp fun r2 hr2 => ?_
   walk_at "ra"
   refine ⟨by omega, by omega, ?_⟩
   rw [Int.toNat_natCast]
   have sb : SB M2 M5 b 20 := sb.mono (by omega)
   refine ⟨fun t acc ρ M' => (∃ u, ρ = [some (.d (.scr K ns)), some (.d (ilD cs)), some (.d (.int i)), some (.ref b), some (.d (.int n)), x5, x6, some (.d (.int j)), some (.d (.int k)), u, x10]) /\ (∃ ks : List Int, acc = ks.map (fun i => AV.d (.int i)) /\ ks.length = t) /\ SB M2 M' b (20 + t), ⟨⟨_, rfl⟩, ⟨[], rfl, rfl⟩, sb⟩, ?_, ?_⟩
   ·rintro t y acc ρ M' hy ⟨⟨u, rfl⟩, ⟨ks, rfl, lk⟩, sb⟩
    obtain ⟨ht, rfl⟩ := jB hy
    refine ⟨trivial, ?_⟩
    walk_at "ra"
    refine ⟨b, 4, _, rfl, sb.bx, by omega, by omega, by omega, fun z M6 s6 z0 z1 => ?_⟩
    have sb := sb.go s6
    exact ⟨by omega, ⟨_, rfl⟩, ⟨ks ++ [z], by rw [List.map_append]; rfl, by rw [List.length_append, lk]; rfl⟩, sb⟩
   rintro acc ρ M6 ⟨⟨u, rfl⟩, ⟨ts, rfl, lt⟩, sb⟩
   rw [qQ] at lt sb
   refine ⟨trivial, _, qr _, ?_⟩
   clear u
   subst hr2
   refine zp fun r2 hr2 => ?_
   walk_at "ra"
   refine ⟨n, j, k, ts, rfl, lt, n1, _, rfl, ?_⟩
   rw [if_neg (by decide)]
   subst hr2
   refine zp fun r2 hr2 => ?_
   walk_at "ra"
   refine ⟨by omega, by omega, ?_⟩
   refine ⟨fun t acc ρ M' => (∃ u, ρ = [some (.d (.scr K ns)), some (.d (ilD cs)), some (.d (.int i)), some (.ref b), some (.d (.int n)), some (.d (ilD ts)), x6, some (.d (.int j)), some (.d (.int k)), x9, u]) /\ (∃ ks : List Int, acc = ks.map (fun i => AV.d (.int i)) /\ ks.length = t /\ ∀ z ∈ ks, 0 <= z /\ z <= n) /\ SB M2 M' b (20 + n + t), ⟨⟨_, rfl⟩, ⟨[], rfl, rfl, fun z hz => nomatch hz⟩, sb⟩, ?_, ?_⟩
   ·rintro t y acc ρ M' hy ⟨⟨u, rfl⟩, ⟨ks, rfl, lk, hk⟩, sb⟩
    obtain ⟨ht, rfl⟩ := jB hy
    refine ⟨trivial, ?_⟩
    walk_at "ra"
    refine ⟨b, (n : Int) + 1, _, rfl, sb.bx, by omega, by omega, by omega, fun z M6 s6 z0 z1 => ?_⟩
    have sb := sb.go s6
    refine ⟨by omega, ⟨_, rfl⟩, ⟨ks ++ [z], by rw [List.map_append]; rfl, by rw [List.length_append, lk]; rfl, fun v hv => ?_⟩, sb⟩
    rcases List.mem_append.mp hv with h | h
    ·exact hk v h
    ·rw [List.mem_singleton.mp h]; omega
   rintro acc ρ M7 ⟨⟨u, rfl⟩, ⟨ks, rfl, lk, hk⟩, sb⟩
   rw [qQ] at lk
   refine ⟨trivial, _, qr _, ks, jS ks, by omega, fun us pm st => ?_⟩
   have lu : us.length = 3 := by rw [pm.length_eq, lk]; rfl
   have ub : ∀ z ∈ us, 0 <= z /\ z <= (n : Int) := fun z hz => hk z (pm.subset hz)
   obtain ⟨c1, c2, c3, rfl⟩ : ∃ c1 c2 c3, us = [c1, c2, c3] := by
    match us, lu with
    | [c1, c2, c3], _ => exact ⟨c1, c2, c3, rfl⟩
   obtain ⟨a1, a2⟩ := ub c1 (by simp)
   obtain ⟨a3, a4⟩ := ub c2 (by simp)
   obtain ⟨a5, a6⟩ := ub c3 (by simp)
   have s1 : c1 <= c2 /\ c2 <= c3 := by
    simp only [List.pairwise_cons, List.mem_cons, List.not_mem_nil, or_false, forall_eq_or_imp, forall_eq] at st
    exact ⟨st.1.1, st.2.1⟩
   obtain ⟨c1, rfl⟩ : ∃ k : Nat, c1 = k := ⟨c1.toNat, by omega⟩
   obtain ⟨c2, rfl⟩ : ∃ k : Nat, c2 = k := ⟨c2.toNat, by omega⟩
   obtain ⟨c3, rfl⟩ : ∃ k : Nat, c3 = k := ⟨c3.toNat, by omega⟩
   subst hr2
   walk_at "ra"
   refine ⟨_, rfl, _, rfl, _, rfl, n, c1, c2, c3, rfl, by omega, by omega, by omega, n1, _, rfl, ?_⟩
   rw [if_neg (by decide)]
   exact hD _ _ ⟨⟨_, _, _, _, _, _, _, _, _, rfl⟩, SB.frm f2 b0 sb⟩
  refine WD (fun _ => ⟨⟨by omega, by omega⟩, ⟨by omega, by omega⟩, ?_⟩) fun _ => ?_
  ·have g := fun D hD => key D hD (j / 2) (k / 2)
   exact g _ fun _ _ z => z
  ·have g := fun D hD => key D hD j k
   exact g _ fun _ _ z => z
 ·rintro ρ M' ⟨⟨x2, x3, x4, x5, x6, x7, x8, x9, x10, rfl⟩, f1⟩
  refine ⟨trivial, ?_⟩
  subst hr0
  walk_at "ra"
  exact xy f1 q
end
theorem all_mk {l : PySem.W.OpenLaw} {w : World} {K : PySem.W.Frag} {h : Heap} {mg : Str -> Option Value} {fa C pa : Addr} (X : K.In h) (G : h.Ns mainGlobals mg) (hfa : mg "law" = some (.ref fa)) (a : At K mg "law" W6) (B : Blt mg) (Ball : mg "all" = none)
  (a__law_take : At K mg "_law_take" J8) (a__law_box : At K mg "_law_box" VW) (a__law_folded : At K mg "_law_folded" v9) (a__law_size : At K mg "_law_size" JI) (a__law_by : At K mg "_law_by" FG) (a__law_rolls_right : At K mg "_law_rolls_right" F7) (a__law_exchange_right : At K mg "_law_exchange_right" GB) (a_is_place : At K mg "is_place" yq) (a_is_deed : At K mg "is_deed" vN) (a_room_behind : At K mg "room_behind" yr) (a_walked : At K mg "walked" vk) (a_back_of : At K mg "back_of" Z2) (a_is_order : At K mg "is_order" yC) (a_shows_plan : At K mg "shows_plan" vP) (a_ring_from : At K mg "ring_from" ky) (a_rings : At K mg "rings" Z0) (a_round_ring : At K mg "round_ring" j0) (a_by_swaps : At K mg "by_swaps" xN) (a_roll_order : At K mg "roll_order" J9) (a_common_divisor : At K mg "common_divisor" Wi) (a_stays : At K mg "stays" Zy) (a_roll_rings : At K mg "roll_rings" ZT) (a_turn_plan : At K mg "turn_plan" vm) (a_roll_by_turns : At K mg "roll_by_turns" Wr) (a_roll_by_swaps : At K mg "roll_by_swaps" Ww) (a_exchange_plan : At K mg "exchange_plan" ZW) (a_exchange_order : At K mg "exchange_order" Ko) (a_staying : At K mg "staying" yu) (a_after : At K mg "after" ZQ) (a_times : At K mg "times" ZS) (a_own_copy : At K mg "own_copy" yZ) (a_put : At K mg "put" WJ)
  (aP : PySem.W.nsIn K mainGlobals "PLACES_OF" = some (some (.ref pa))) {t1 t2 t3 t4 u1 u2 u3 u4 : Tok} {ep : Nat}
  (lP : K.lookup pa = some ⟨.type "dict", none, .dict #[⟨hashStr w "swap", .str "swap" t1, .int 2 u1⟩, ⟨hashStr w "take", .str "take" t2, .int 1 u2⟩, ⟨hashStr w "move", .str "move" t3, .int 2 u3⟩, ⟨hashStr w "lay", .str "lay" t4, .int 1 u4⟩] ep, #[]⟩) (nP : (pa == sysModules) = false)
  (aC : PySem.W.nsIn K mainGlobals "Room" = some (some (.ref C))) (pg : PySem.W.plainGet K C Str.empty = true) (hd : PySem.W.hasDictIn K C = true) (po : PySem.W.plainOver K C = true) (sa : PySem.W.findIn K (.ref C) "__setattr__" = some (some (.builtin "object.__setattr__"))) (mk : PySem.W.makesIn K C = true) (kc : PySem.W.keepIn K (.ref C) = true)
  (nr : PySem.W.findIn K (.ref C) "row" = some none) (nh : PySem.W.findIn K (.ref C) "hand" = some none) (nm : PySem.W.findIn K (.ref C) "moved" = some none)
  (m0 : AtM K C "__init__" "Room.__init__" Kh) (m1 : AtM K C "do" "Room.do" Gg) (m2 : AtM K C "swap" "Room.swap" JP) (m3 : AtM K C "take" "Room.take" Ku) (m4 : AtM K C "move" "Room.move" Jr) (m5 : AtM K C "lay" "Room.lay" V9) (m6 : AtM K C "lift" "Room.lift" Kd) (m7 : AtM K C "row_now" "Room.row_now" JM) (m8 : AtM K C "hand_now" "Room.hand_now" Jl) (m9 : AtM K C "moved_now" "Room.moved_now" JS)
  : ∃ fd : FuncData, (∀ (s : Shared) (v : Value), BindsTo s fd ⟨[v], []⟩ [("_law_script", v)]) /\ ∀ base : Heap, K.In base -> base.Ns mainGlobals mg -> jE l.prog w K mg base CX0 20 fa fd ["_law_script"] (Xf K) := by
 obtain ⟨f, fd, F, m⟩ := id a
 obtain rfl : fa = f := by rw [hfa] at m; cases m; rfl
 obtain ⟨oc, od, kV, doc, pm, an, cdv, ct, osl, e, lk, hcd⟩ := F.ex
 refine ⟨fd, fun s v => ?_, fun base _ _ => ?_⟩
 ·subst e; exact .of_eq rfl
 ·have T := A0 (P := l.prog) (w := w) (base := base) a__law_take B
  have R : RTx K C := ⟨⟨pg, hd, po, sa⟩, nr, nh, nm⟩
  have KP : KD K w pa Z8 := X6 lP nP
  have d1 := XN (P := l.prog) (w := w) (base := base) a_is_deed B KP (PySem.W.mg_of X G aP) (Jv a_is_place B)
  have ml := Bo (P := l.prog) (w := w) (mg := mg) (base := base) m6 R
  have md := GK (P := l.prog) (w := w) (base := base) m1 R B d1 ((Dp m2 R).mono (by decide)) (BI m3 R ml) (Bz m4 R ml) ((Gd m5 R).mono (by decide))
  obtain ⟨fi, fdi, Fi, bi, mi⟩ := (Dr (P := l.prog) (w := w) (base := base) m0 R B).mono (show 1 <= 4 by decide)
  have MR : Mkr l.prog w K mg base "Room" C ["self", "n"] 4 (Ks C) := ⟨fi, fdi, Fi, bi, ⟨mk, mi.at_, mi.fn, kc⟩, PySem.W.mg_of X G aC⟩
  have rb := J4 (P := l.prog) (w := w) (base := base) a_room_behind R B MR (md.mono (by decide))
  have wk := (XR (P := l.prog) (w := w) (base := base) a_walked R B rb ((VJ a_back_of B).mono (by decide)) ((B9 m7 R B).mono (by decide)) ((Bi m8 R).mono (by decide)) ((Bw m9 R B).mono (by decide))).imp' Yl
  have tk := T.imp' BB
  have rg := (VZ (P := l.prog) (w := w) (base := base) a_rings B (ZK a_ring_from B)).imp' V1
  have so := X5 (P := l.prog) (w := w) (base := base) a_shows_plan B ((Q6 a_is_order B (Qk a_is_place B)).mono (by decide)) wk
  have ro := BC (P := l.prog) (w := w) (base := base) a_roll_order B
  have sto := Q5 (P := l.prog) (w := w) (base := base) a_staying B
  have st := sto.imp' JT
  have af := V2 (P := l.prog) (w := w) (base := base) a_after B
  have bk := AD (P := l.prog) (w := w) (base := base) a_back_of B
  have tm := Az (P := l.prog) (w := w) (base := base) a_times B (st.mono (by decide)) (af.mono (by decide)) (bk.mono (by decide))
  have pt := Ep (P := l.prog) (w := w) (base := base) a_put B (Wx a_own_copy B (YE a_own_copy))
  have sy := VO (P := l.prog) (w := w) (base := base) a_stays B
  have rr := YU (P := l.prog) (w := w) (base := base) a_roll_rings B sy (EO a_common_divisor B)
  have bt := Fx (P := l.prog) (w := w) (base := base) a_roll_by_turns B sy (YA a_turn_plan B)
  have bs := Fj (P := l.prog) (w := w) (base := base) a_roll_by_swaps B (ro.mono (by decide)) ((Qd a_by_swaps B rg).mono (by decide))
  have xp := Ve (P := l.prog) (w := w) (base := base) a_exchange_plan B (rg.mono (by decide)) (ro.mono (by decide)) ((ww a_round_ring B).mono (by decide))
  have xo := B6 (P := l.prog) (w := w) (base := base) a_exchange_order B ro sto
  have r1 := GX (P := l.prog) (w := w) (base := base) a__law_rolls_right B (ro.mono (by decide)) (af.mono (by decide)) (st.mono (by decide)) (pt.mono (by decide)) (rr.mono (by decide)) (tm.mono (by decide)) (so.mono (by decide)) (bt.mono (by decide)) (bs.mono (by decide))
  have r2 := G5 (P := l.prog) (w := w) (base := base) a__law_exchange_right B (xo.mono (by decide)) (af.mono (by decide)) (st.mono (by decide)) (xp.mono (by decide)) (so.mono (by decide)) (ro.mono (by decide))
  have L := FJ (P := l.prog) (w := w) (base := base) a B (((FW a__law_box B).imp' Gy).mono (by decide)) (((Yb a__law_folded B).imp' Yd).mono (by decide)) (tk.mono (by decide)) ((Bm a__law_size B tk).mono (by decide)) ((GS a__law_by B tk).mono (by decide)) r1 r2
  exact (L.imp' (sp_law (K := K))).fn m lk
theorem walk {l : PySem.W.OpenLaw} {q : Program} {loose : List Str} {XP : (Str -> Option Value) -> Heap -> Prop} {YP : World -> Heap -> Prop} {d : DefRec} {K : Params -> PySem.W.Frag} (hn : l.most = some 63) (hdf : d.params.defaults = [])
  (hY : ∀ (w : World) (h : Heap), YP w h -> (K w.params).In h)
  (F : ∀ (w : World) (mg : Str -> Option Value) (fa : Addr) (h : Heap), (K w.params).In h -> h.Ns mainGlobals mg -> mg d.name = some (.ref fa) ->
   ∃ fd : FuncData, (∀ (s : Shared) (u : Value), BindsTo s fd ⟨[u], []⟩ [("_law_script", u)]) /\ ∀ base : Heap, (K w.params).In base -> base.Ns mainGlobals mg -> jE l.prog w (K w.params) mg base CX0 20 fa fd ["_law_script"] (Xf (K w.params))) :
  PySem.W.WalkO q loose XP YP l.row.toRowW d [] (fun f vs => PySem.call f vs) :=
 L2.walk_of (n := 63) (k := 20) (x := "_law_script") (CX := fun _ => CX0) (sp := fun w => Xf (K w.params)) hn (by decide) hdf ⟨rfl, rfl, by decide, by decide⟩ hY F (fun _ _ a ns hl _ hS => ⟨a, ns, rfl, hS, hl, fun _ => rfl⟩) fun _ _ _ _ _ z => z
end Ot
theorem PySem.W.Fast.te1135609894136865582 : True := trivial
theorem PySem.W.Fast.te13927544790585426253 : True := trivial
theorem PySem.W.Fast.te10938913253629851223 : True := trivial
namespace PySem.W.Fast
def tw2515027897153891441 := ()
def tw6517414847585932758 := ()
def tw16699985675886532153 := ()
def tw17554150049167807186 := ()
def tw1560803365934641301 := ()
def tw13564576556803238072 := ()
def tw13514228738205315752 := ()
def tw7689926130757575378 := ()
def tw12871325994588012379 := ()
def tw3916321273479872952 := ()
def tw12421586065385801884 := ()
def tw1707692169859854538 := ()
def tw10034869502737536811 := ()
def tw17918931590049601439 := ()
def tw1511251710285145318 := ()
def tw9762555891513194409 := ()
def tw10460175049223403760 := ()
def tw17087150856760148114 := ()
def tw825097516709080769 := ()
def tw204706987868730181 := ()
def tw10356144834302146245 := ()
def tw3798429467648425209 := ()
def tw12568022812415430664 := ()
def tw10823716919499284715 := ()
def tw12788614691834630261 := ()
def tw16636857099824688212 := ()
def tw11998882958833894919 := ()
def tw5523800735749671377 := ()
def tw1516950103621168489 := ()
def tw14275830017975371168 := ()
def tw4200684990300613103 := ()
def tw12065196477250051426 := ()
def tw14229764466993996933 := ()
def tw8647806505270944131 := ()
def tw690476673138158566 := ()
def tw15269428604897358025 := ()
def tw1238022247329425846 := ()
def tw6441113703081441684 := ()
def tw2389364715511613954 := ()
def tw11377440572616630797 := ()
def tw6226877242549878976 := ()
def tw7790514197120990816 := ()
def tw7121390455695484599 := ()
def tw10093438500614179642 := ()
def tw14419019830108187896 := ()
def tw16238884034026549228 := ()
def tw15406381156311826305 := ()
def tw17950122663675765581 := ()
def tw10267581847454595983 := ()
def tw18356135269500361017 := ()
def tw4794149102714724295 := ()
def tw2908654721210690476 := ()
def tw6360469403137287007 := ()
def tw16411862595468765335 := ()
def tw17601753591179687381 := ()
def tw8661497792583416736 := ()
def tw15809128288413133134 := ()
def tw13693045198241632121 := ()
def tw14860437010616172061 := ()
def tw10481391998508426429 := ()
def tw3628651674915734280 := ()
def tw5967411017598484170 := ()
def tw17130165621502326102 := ()
def tw14307583044115857315 := ()
def tw6527675216549888654 := ()
def tw13309990035253257545 := ()
def tw16876705047398005591 := ()
def tw8750367421357470318 := ()
def tw13697320142203218291 := ()
def tw16768479640202986580 := ()
def tw17957095761171062585 := ()
def tw589888237132187203 := ()
def tw9390454506696823180 := ()
def tw5647136851780888203 := ()
def tw1188151013125156171 := ()
def tw17736484823104364492 := ()
def tw3390288153101685067 := ()
def tw2404861709333415718 := ()
def tw1050480883846852094 := ()
def tw13221099562328138417 := ()
def tw6903159379179620279 := ()
def tw5294122014932794667 := ()
def tw8478561150987350334 := ()
def tw16338323486195798411 := ()
def tw6171103101608010185 := ()
def tw2850566185313515245 := ()
def tw3172175038523040970 := ()
def tw17542498813882324775 := ()
def tw14607313731943161041 := ()
def tw4947531941099970535 := ()
def tw17913404148819487544 := ()
def tw7632558259732328250 := ()
def tw15059957943048507097 := ()
def tw13766882911581162944 := ()
def tw6334064649984062651 := ()
def tw8454326190754722545 := ()
def tw5084462977930017119 := ()
def tw16483230613716928167 := ()
def tw3903416339424981732 := ()
def tw4618050890976096143 := ()
def tw15150827997428658028 := ()
def tw13162081378217539776 := ()
def tw7937635344401561296 := ()
def tw15754768196901303833 := ()
def tw7943505627561969040 := ()
def tw14385005227810119750 := ()
def tw8875825326654020344 := ()
def tw7420695246192568467 := ()
def tw5131624108529256634 := ()
def tw11171191791866152506 := ()
def tw2617595641452354179 := ()
def tw3929907259725736043 := ()
def tw15333365007590177086 := ()
def tw1713128971552007832 := ()
def tw8744360838138833859 := ()
def tw10198522463449020620 := ()
def tw17838965051615576571 := ()
def tw2589313411036697910 := ()
def tw4981852328116772621 := ()
def tw799357356750659615 := ()
def tw6615044382974513533 := ()
def tw5392464763355493875 := ()
def tw13027929210265861158 := ()
def tw341219365218040715 := ()
def tw14529609994165335008 := ()
def tw3153413406485879313 := ()
def tw810479320127408640 := ()
def tw564873859641635277 := ()
def tw7422686619585447179 := ()
def tw5346362701005271871 := ()
def tw14754153081061993832 := ()
def tw7113645606770542193 := ()
def tw1313179373306132501 := ()
def tw9300002152459676727 := ()
def tw10835370979988920953 := ()
def tw5091820558211136236 := ()
def tw4430842380879359542 := ()
def tw16839706329747568088 := ()
def tw2264332062825982555 := ()
def tw8494823470181154655 := ()
def tw6685803718966091864 := ()
def tw13609312008043377058 := ()
def tw5215855820269904742 := ()
def tw7060078488059031742 := ()
def tw14495342218161105769 := ()
def tw314151383699727865 := ()
def tw14149436858492589782 := ()
def tw16818923647635970558 := ()
def tw6594174889101652440 := ()
def tw6243737261662227800 := ()
def tw6578608323626914931 := ()
def tw10261667215489044877 := ()
def tw14797215672669210753 := ()
def tw13480379169624194540 := ()
def tw14886050271735354556 := ()
def tw13616800751862710834 := ()
def tw2559509053963816879 := ()
def tw3530522408399192219 := ()
def tw8411315766392195020 := ()
def tw16924335414154768329 := ()
def tw17425168696655952220 := ()
def tw11206635249343269581 := ()
def tw1370389002661023617 := ()
def tw7613216839868101944 := ()
def tw3679966477236474594 := ()
def tw9200675780865688157 := ()
def tw14242403554795804789 := ()
def tw2623524214691294216 := ()
def tw5896806525861918653 := ()
def tw17310744883469847584 := ()
def tw3544062903000884132 := ()
def tw16124649604113655726 := ()
def tw17015317708409695498 := ()
def tw8242966772666785701 := ()
def tw14372854270381997973 := ()
def tw6310812016955598654 := ()
def tw10037485625603692810 := ()
def tw17070353211275256387 := ()
def tw6811294883589706278 := ()
def tw13295628984632296223 := ()
def tw10949644266380984076 := ()
def tw6362389114358865778 := ()
def tw8279928610030359572 := ()
def tw3134808377007529752 := ()
def tw10142987452184687342 := ()
def tw6475252128652888902 := ()
def tw17028558029427906108 := ()
def tw6111359635615278374 := ()
def tw9460882369383133583 := ()
def tw4273679732049658 := ()
def tw9576006018185601069 := ()
def tw7574931357155506917 := ()
def tw17897378347680445752 := ()
def tw2942151743653633492 := ()
def tw12422797152257149611 := ()
def tw1953920968212317217 := ()
def tw6230993641255102140 := ()
def tw11437800490604286637 := ()
def tw5050610548324505616 := ()
def tw10326741711839698435 := ()
def tw2545155725658170157 := ()
def tw14002663224051464142 := ()
def tw5821488051643036554 := ()
def tw4002855320561250738 := ()
def tw14096700585988795717 := ()
def tw13412069656192237996 := ()
def tw11626529685645650293 := ()
def tw16810586291698222090 := ()
def tw9467319490844945449 := ()
def tw6711317232550702758 := ()
def tw12941378517509260723 := ()
def tw5866540879740226674 := ()
def tw14304098564463601986 := ()
def tw10421296436815871187 := ()
def tw10952059797312511072 := ()
def tw15628602114011667526 := ()
def tw1112278754350409341 := ()
def tw16652654481179728102 := ()
def tw14387325161740586787 := ()
def tw5584608384034029857 := ()
def tw8790218539395509950 := ()
def tw10522994785611276536 := ()
def tw9100630875927703144 := ()
def tw5451865877764147813 := ()
def tw1632561753460201642 := ()
def tw10773221349530978616 := ()
def tw14573745547872805079 := ()
def tw209782296505049724 := ()
def tw7536344366507711937 := ()
def tw14916973196534547421 := ()
def tw17784090478853487691 := ()
def tw8160055790038943377 := ()
def tw6620363797307606122 := ()
def tw11390450828061822277 := ()
def tw1735064553733105609 := ()
def tw10361353601296810777 := ()
def tw15904800642096202852 := ()
def tw16466620255215097135 := ()
def tw6850059515951687518 := ()
def tw1522068992029998553 := ()
def tw3393094224293989374 := ()
def tw11246093517325631007 := ()
def tw2764530051835619079 := ()
def tw4450488606559776170 := ()
def tw17914309084762271641 := ()
def tw13506094790424381610 := ()
def tw9000081630458432569 := ()
def tw1710462304899741656 := ()
def tw15708252538664286689 := ()
def tw10042987109277575926 := ()
def tw11945474491806372432 := ()
def tw6060136443921462098 := ()
def tw16931791117945469994 := ()
def tw16204519728965471717 := ()
def tw13219950958581858470 := ()
def tw12821289277505755575 := ()
def tw18415803540921152614 := ()
def tw9535292906607091387 := ()
def tw12372754364009686348 := ()
def tw1940004642303506764 := ()
def tw13782104114685988216 := ()
def tw4958206111630745940 := ()
def tw16312189658724062904 := ()
def tw10290842158305751881 := ()
def tw10303373295336221606 := ()
def tw7282424984823209519 := ()
def tw9066822239561918849 := ()
def tw6050088584161486509 := ()
def tw15625285156549666513 := ()
def tw3357909477652653823 := ()
def tw13569577976125909645 := ()
def tw11141482325452626685 := ()
def tw6802197746720315416 := ()
def tw15695280806834881455 := ()
def tw17911158218292066283 := ()
def tw4310512192481369036 := ()
def tw2025327157157000402 := ()
def tw4324729558439914814 := ()
def tw5969995097082173246 := ()
def tw6702516518394999370 := ()
def tw438419662130973505 := ()
def tw15959249173327572487 := ()
def tw389384382382344524 := ()
def tw11539230865920112621 := ()
def tw2513308863581467580 := ()
def tw14366605132040829828 := ()
def tw6582396001652850776 := ()
def tw4178509771225804749 := ()
def tw3369212441532736008 := ()
def tw8333466256343661905 := ()
def tw2490466894470913585 := ()
def tw2286638238765046885 := ()
def tw16861446032858159536 := ()
def tw10604047196173350692 := ()
def tw10075224520589878755 := ()
def tw6995287745380264865 := ()
def tw6035509195259170531 := ()
def tw762893381441828672 := ()
def tw14352390144998710726 := ()
def tw11288694556317717445 := ()
def tw18190413747634673331 := ()
def tw14030584494132500778 := ()
def tw7530231823653912999 := ()
def tw2281934716926321665 := ()
def tw9279970692390878668 := ()
def tw14825369153399401372 := ()
def tw2429246558998295843 := ()
def tw13149436402217877815 := ()
def tw234543960533444915 := ()
def tw189209134053224522 := ()
def tw15154693930542851431 := ()
def tw3040413971113374279 := ()
def tw6472136696798976726 := ()
def tw500943614720270549 := ()
def tw2713622989887169717 := ()
def tw1072847910054498252 := ()
def tw7247090999066142694 := ()
def tw5987010391351121940 := ()
def tw12135849930620043057 := ()
def tw10707359258148496673 := ()
def tw16425526490186926251 := ()
def tw4927143486684565295 := ()
def tw16810077616135846896 := ()
def tw10920746034682690806 := ()
def tw5345920130898913697 := ()
def tw3508549028784432534 := ()
def tw2021722913771579113 := ()
def tw17460355049272012466 := ()
def tw17768261164002443448 := ()
def tw3814273408110818787 := ()
def tw11300554562569622296 := ()
def tw10467142654887760927 := ()
def tw6664845881730844766 := ()
def tw12106898419249034513 := ()
def tw16453201677090340666 := ()
def tw15752318057087542384 := ()
def tw12852755340682250830 := ()
def tw10513066287019471582 := ()
def tw2619641584831365021 := ()
def tw14764277693251112651 := ()
def tw12179361622675654859 := ()
def tw16835960503995932969 := ()
def tw6751495372096584120 := ()
def tw15158805407039517030 := ()
def tw13682677127761269928 := ()
def tw1112602812165099444 := ()
def tw17044679230716535376 := ()
def tw15332541870492916288 := ()
def tw4948060804772515689 := ()
def tw17076332950969437636 := ()
def tw3684010022031575699 := ()
def tw464329109718913509 := ()
def tw3939108580201136272 := ()
def tw1453077992424669584 := ()
def tw14162303064397533963 := ()
def tw7465913933094272198 := ()
def tw8627772322949330860 := ()
def tw4027038491589170205 := ()
def tw10378045211771697302 := ()
def tw9141798229692523079 := ()
end PySem.W.Fast
open PySem PySem.W PyProof.Rows
set_option maxRecDepth 100000 in
set_option maxHeartbeats 0 in
theorem PySem.Challenge.cw_ownturn_k29_whole_rolled_and_exchanged_holds : PySem.Challenge.rw_ownturn_k29_whole_rolled_and_exchanged.Holds := by
 w_on; o_law; k_head; (case hw => w_witness2)
 k_fill
 refine Ot.walk (l := PySem.Challenge.rw_ownturn_k29_whole_rolled_and_exchanged) rfl rfl (fun w h Y => PySem.W.kIn_of Y) ?F
 case F =>
  intro w mg fa h KX G hmg
  refine' Ot.all_mk KX G hmg (L2.at_mk KX G ?a0 ?l0 ?c0 ?k0) (L2.blt_mk KX G ?z1 ?z2 ?z3 ?z4 ?z5 ?z6 ?z7 ?z8 ?z9 ?z10 ?z11 ?z12 ?z13 ?z14 ?z15 ?z16) (PySem.W.mg_none_of KX G ?zall) (L2.at_mk KX G ?a1 ?l1 ?c1 ?k1) (L2.at_mk KX G ?a2 ?l2 ?c2 ?k2) (L2.at_mk KX G ?a3 ?l3 ?c3 ?k3) (L2.at_mk KX G ?a4 ?l4 ?c4 ?k4) (L2.at_mk KX G ?a5 ?l5 ?c5 ?k5) (L2.at_mk KX G ?a6 ?l6 ?c6 ?k6) (L2.at_mk KX G ?a7 ?l7 ?c7 ?k7) (L2.at_mk KX G ?a8 ?l8 ?c8 ?k8) (L2.at_mk KX G ?a9 ?l9 ?c9 ?k9) (L2.at_mk KX G ?a10 ?l10 ?c10 ?k10) (L2.at_mk KX G ?a11 ?l11 ?c11 ?k11) (L2.at_mk KX G ?a12 ?l12 ?c12 ?k12) (L2.at_mk KX G ?a13 ?l13 ?c13 ?k13) (L2.at_mk KX G ?a14 ?l14 ?c14 ?k14) (L2.at_mk KX G ?a15 ?l15 ?c15 ?k15) (L2.at_mk KX G ?a16 ?l16 ?c16 ?k16) (L2.at_mk KX G ?a17 ?l17 ?c17 ?k17) (L2.at_mk KX G ?a18 ?l18 ?c18 ?k18) (L2.at_mk KX G ?a19 ?l19 ?c19 ?k19) (L2.at_mk KX G ?a20 ?l20 ?c20 ?k20) (L2.at_mk KX G ?a21 ?l21 ?c21 ?k21) (L2.at_mk KX G ?a22 ?l22 ?c22 ?k22) (L2.at_mk KX G ?a23 ?l23 ?c23 ?k23) (L2.at_mk KX G ?a24 ?l24 ?c24 ?k24) (L2.at_mk KX G ?a25 ?l25 ?c25 ?k25) (L2.at_mk KX G ?a26 ?l26 ?c26 ?k26) (L2.at_mk KX G ?a27 ?l27 ?c27 ?k27) (L2.at_mk KX G ?a28 ?l28 ?c28 ?k28) (L2.at_mk KX G ?a29 ?l29 ?c29 ?k29) (L2.at_mk KX G ?a30 ?l30 ?c30 ?k30) (L2.at_mk KX G ?a31 ?l31 ?c31 ?k31) (L2.at_mk KX G ?a32 ?l32 ?c32 ?k32) ?aP ?lP ?nP ?aC ?pg ?hd ?po ?sa ?mk ?kc ?nr ?nh ?nm (L2.atm_mk ?ma0 ?mi0 ?ml0 ?mc0 ?mk0) (L2.atm_mk ?ma1 ?mi1 ?ml1 ?mc1 ?mk1) (L2.atm_mk ?ma2 ?mi2 ?ml2 ?mc2 ?mk2) (L2.atm_mk ?ma3 ?mi3 ?ml3 ?mc3 ?mk3) (L2.atm_mk ?ma4 ?mi4 ?ml4 ?mc4 ?mk4) (L2.atm_mk ?ma5 ?mi5 ?ml5 ?mc5 ?mk5) (L2.atm_mk ?ma6 ?mi6 ?ml6 ?mc6 ?mk6) (L2.atm_mk ?ma7 ?mi7 ?ml7 ?mc7 ?mk7) (L2.atm_mk ?ma8 ?mi8 ?ml8 ?mc8 ?mk8) (L2.atm_mk ?ma9 ?mi9 ?ml9 ?mc9 ?mk9)
  (case aP => k_is); (case lP => k_is); (case nP => first | rfl | decide | k_is); (case aC => k_is)
  (case a0 => k_is); (case l0 => k_is); (case c0 => k_is); (case k0 => k_is)
  (case a1 => k_is); (case l1 => k_is); (case c1 => k_is); (case k1 => k_is)
  (case a2 => k_is); (case l2 => k_is); (case c2 => k_is); (case k2 => k_is)
  (case a3 => k_is); (case l3 => k_is); (case c3 => k_is); (case k3 => k_is)
  (case a4 => k_is); (case l4 => k_is); (case c4 => k_is); (case k4 => k_is)
  (case a5 => k_is); (case l5 => k_is); (case c5 => k_is); (case k5 => k_is)
  (case a6 => k_is); (case l6 => k_is); (case c6 => k_is); (case k6 => k_is)
  (case a7 => k_is); (case l7 => k_is); (case c7 => k_is); (case k7 => k_is)
  (case a8 => k_is); (case l8 => k_is); (case c8 => k_is); (case k8 => k_is)
  (case a9 => k_is); (case l9 => k_is); (case c9 => k_is); (case k9 => k_is)
  (case a10 => k_is); (case l10 => k_is); (case c10 => k_is); (case k10 => k_is)
  (case a11 => k_is); (case l11 => k_is); (case c11 => k_is); (case k11 => k_is)
  (case a12 => k_is); (case l12 => k_is); (case c12 => k_is); (case k12 => k_is)
  (case a13 => k_is); (case l13 => k_is); (case c13 => k_is); (case k13 => k_is)
  (case a14 => k_is); (case l14 => k_is); (case c14 => k_is); (case k14 => k_is)
  (case a15 => k_is); (case l15 => k_is); (case c15 => k_is); (case k15 => k_is)
  (case a16 => k_is); (case l16 => k_is); (case c16 => k_is); (case k16 => k_is)
  (case a17 => k_is); (case l17 => k_is); (case c17 => k_is); (case k17 => k_is)
  (case a18 => k_is); (case l18 => k_is); (case c18 => k_is); (case k18 => k_is)
  (case a19 => k_is); (case l19 => k_is); (case c19 => k_is); (case k19 => k_is)
  (case a20 => k_is); (case l20 => k_is); (case c20 => k_is); (case k20 => k_is)
  (case a21 => k_is); (case l21 => k_is); (case c21 => k_is); (case k21 => k_is)
  (case a22 => k_is); (case l22 => k_is); (case c22 => k_is); (case k22 => k_is)
  (case a23 => k_is); (case l23 => k_is); (case c23 => k_is); (case k23 => k_is)
  (case a24 => k_is); (case l24 => k_is); (case c24 => k_is); (case k24 => k_is)
  (case a25 => k_is); (case l25 => k_is); (case c25 => k_is); (case k25 => k_is)
  (case a26 => k_is); (case l26 => k_is); (case c26 => k_is); (case k26 => k_is)
  (case a27 => k_is); (case l27 => k_is); (case c27 => k_is); (case k27 => k_is)
  (case a28 => k_is); (case l28 => k_is); (case c28 => k_is); (case k28 => k_is)
  (case a29 => k_is); (case l29 => k_is); (case c29 => k_is); (case k29 => k_is)
  (case a30 => k_is); (case l30 => k_is); (case c30 => k_is); (case k30 => k_is)
  (case a31 => k_is); (case l31 => k_is); (case c31 => k_is); (case k31 => k_is)
  (case a32 => k_is); (case l32 => k_is); (case c32 => k_is); (case k32 => k_is)
  (case zall => k_is)
  (case z1 => k_is)
  (case z2 => k_is)
  (case z3 => k_is)
  (case z4 => k_is)
  (case z5 => k_is)
  (case z6 => k_is)
  (case z7 => k_is)
  (case z8 => k_is)
  (case z9 => k_is)
  (case z10 => k_is)
  (case z11 => k_is)
  (case z12 => k_is)
  (case z13 => k_is)
  (case z14 => k_is)
  (case z15 => k_is)
  (case z16 => k_is)
  (case pg => k_is); (case hd => k_is); (case po => k_is); (case sa => k_is); (case mk => k_is); (case kc => k_is); (case nr => k_is); (case nh => k_is); (case nm => k_is)
  (case ma0 => k_is); (case mi0 => k_is); (case ml0 => k_is); (case mc0 => k_is); (case mk0 => k_is)
  (case ma1 => k_is); (case mi1 => k_is); (case ml1 => k_is); (case mc1 => k_is); (case mk1 => k_is)
  (case ma2 => k_is); (case mi2 => k_is); (case ml2 => k_is); (case mc2 => k_is); (case mk2 => k_is)
  (case ma3 => k_is); (case mi3 => k_is); (case ml3 => k_is); (case mc3 => k_is); (case mk3 => k_is)
  (case ma4 => k_is); (case mi4 => k_is); (case ml4 => k_is); (case mc4 => k_is); (case mk4 => k_is)
  (case ma5 => k_is); (case mi5 => k_is); (case ml5 => k_is); (case mc5 => k_is); (case mk5 => k_is)
  (case ma6 => k_is); (case mi6 => k_is); (case ml6 => k_is); (case mc6 => k_is); (case mk6 => k_is)
  (case ma7 => k_is); (case mi7 => k_is); (case ml7 => k_is); (case mc7 => k_is); (case mk7 => k_is)
  (case ma8 => k_is); (case mi8 => k_is); (case ml8 => k_is); (case mc8 => k_is); (case mk8 => k_is)
  (case ma9 => k_is); (case mi9 => k_is); (case ml9 => k_is); (case mc9 => k_is); (case mk9 => k_is)
